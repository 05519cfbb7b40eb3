import PyProof.Rows.All
import Wide.All
import OpenK.AllK
import Wide.FinOn
import HandS.ForMost
import HandS.SetFor
import HandS.ForExc
import HandS.IsInst
import HandS.Evl
import HandS.Flow
import HandS.Codes
import HandS.Wide
import HandS.TupAny
import HandS.Conv
import HandS.Strs
import HandS.SortInts
import KE.DataMinMax
import KE.DataAny
import KE.SortData
import HandS.SortKw
import HandS.ExcInit
import HandS.ExcField
import HandS.Small
import HandS.TryMany
import HandS.Property
import HandS.Lambda
import KE.GoesEnum
import HandS.More
import HandS.NoneIn
import HandS.TupLe
import PyProof.TupleOfSeq
import HandS.WideBits
import KE.DataMinKey
import HandS.ExcIs
import KE.KExcIs
import PyProof.NeKinds
import HandS.Text
import HandS.OwnEq
import OpenK.KMeth
import OpenK.KOps
import KE.KOpsOwn
import HandS.ClsMeth
import KE.KDictList
import HandS.Dict
import HandS.ExcOwn
import PyProof.ReprRoads
import HandS.RaiseMore
import KE.KCallOwn
import HandS.FStr
import HandS.SetBool
import HandS.Defaults
import HandS.Star
import HandS.Style
import HandS.WordsDict
import HandS.MakeKwOnly
import KE.KNest
import KE.KNestM
import HandS.EndTab
import PySem.Challenge.RW_millbrook_k50_probes
set_option Elab.async false
set_option linter.all false
set_option maxRecDepth 100000
namespace GV
open PySem PySem.Spec PyProof.Rows L2
/-- a set as it is new -/
abbrev nset (w : World) : Obj := { cls := .type "set", dict := none, data := .set #[] 0 (.fresh 0 0 (!w.params.followText "set-order")) }
section
variable {P : Program} {w : World} {A : Around} {E : Value → Shared → Prop} {s : Shared}
set_option maxHeartbeats 3200000 in
/-- set(l), l a list of ints: its members in the order of the world -/
theorem set_ofL {l : Addr} {items : Array Value} (ns : List Int) {Q : Value → Shared → Prop} (hh : A.handled = none) (hl : s.heap.IsList l items) (hit : IntsAre items.toList ns) (hb : ns.length + 1 < scanBound)
    (fin : ∀ (g : Heap) (tk c : Nat), SetR w g s.heap.objs.size (fun j => decide (j ∈ ns)) c → c ≤ ns.length → (∀ b o, s.heap.get? b = some o → g.get? b = some o) → Q (.ref s.heap.objs.size) { s with heap := g, toks := tk }) :
    wpAny (model P w) A (call (.type "set") [.ref l]) Q E s := by
  have size : items.size = ns.length := by
    have q := IntsAre.length hit
    rwa [Array.length_toList] at q
  obtain ⟨c, tl, hmro⟩ := F.called_set.mro
  have a1 := F.called_set.made
  have a2 := F.called_set.sub
  refine wpAny_call (codeAny_of_tree (show wpAny _ _ (callAny (.type "set") _) _ _ _ from wpAny_pure ⟨Code.quiet_builtin _ (by decide +kernel), codeAny_builtin F.entry_type_call ?_⟩))
  rw [Around.under_plain (weight_type_call_type "set" [.ref l] []) rfl]
  have a3 := F.called_set.notType
  have a4 := F.called_set.canCreate
  have a5 := F.typeCall_set_1 (.ref l)
  repeat (any_goals first | assumption | wp_step)
  refine codeAny_mono (code_set_led1 (.ref l) (E := E) (Q₁ := fun o s₁ => o = .ref s.heap.objs.size ∧ s₁ = { s with heap := s.heap.push (nset w) }) ⟨rfl, rfl⟩) fun r s₁ hr => ?_
  rcases r with er | fl
  · exact hr
  rcases fl with _ | _ | _ | ob
  iterate 3 exact hr.elim
  obtain ⟨rfl, rfl⟩ := hr
  have at0 : (s.heap.push (nset w)).get? s.heap.objs.size = some (nset w) := Heap.get?_push_size _ rfl
  have ty0 : Shared.TypeIs { s with heap := s.heap.push (nset w) } (.ref s.heap.objs.size) "set" := ⟨_, at0, rfl⟩
  have b1 := F.called_set.init.lookup
  have b2 := F.called_set.init.bind (.ref s.heap.objs.size)
  repeat (any_goals first | assumption | wp_step)
  refine codeAny_mono (codeAny_call_builtin (R := wants (fun r s₂ => r = .none ∧ ∃ g tk c, s₂ = { s with heap := g, toks := tk } ∧ SetR w g s.heap.objs.size (fun j => decide (j ∈ ns)) c ∧ c ≤ ns.length ∧ (∀ b o, s.heap.get? b = some o → g.get? b = some o)) E)
    F.called_set.init.plain F.entry_set_init (check_set_init_1 ty0 ?_)) fun r₂ s₂ hr₂ => ?_
  · obtain ⟨⟨oc, od, odt, osl⟩, hol, hcl, nl, hdl⟩ := hl
    simp only at hcl hdl
    subst hcl hdl
    have ol : (s.heap.push (nset w)).get? l = some { cls := .type "list", dict := od, data := .seq items nl, slots := osl } := Heap.get?_push_of_some _ hol
    have c1 := F.sub_list_set
    have c2 := F.sub_list_frozenset
    have c3 : (Value.type "list" == Value.type "dict") = false := by decide
    have isl : (s.heap.push (nset w)).IsList l items := ⟨_, ol, rfl, nl, rfl⟩
    unfold Builtin.«set.__init__» noKeywords Builtin.Frozenset.updateFrom
    generalize hPI : pyIter = PI
    wp_walk
    subst hPI
    refine wpAny_pyIter_list isl (wpAny_bind (wpAny_runValue ?_))
    have lt : l < s.heap.objs.size := Heap.lt_size hol
    have hh3 : A.in1.in1.in1.handled = none := by simp [hh]
    have neI : l ≠ (s.heap.push (nset w)).objs.size := by
      rw [Heap.size_push]
      exact Nat.ne_of_lt (Nat.lt_succ_of_lt lt)
    have nf : s.heap.objs.size ∉ [(s.heap.push (nset w)).objs.size, l] := by
      rw [Heap.size_push]
      simp only [List.mem_cons, List.not_mem_nil, or_false, not_or]
      exact And.intro (Nat.ne_of_lt (Nat.lt_succ_self _)) (Nat.ne_of_gt lt)
    have val : ∀ (i : Nat) (v : Value), items[i]? = some v → ∃ k t, ns[i]? = some k ∧ v = .int k t := fun i v hv => by
      have hi : i < ns.length := by rw [← size]; exact (Array.getElem?_eq_some_iff.mp hv).1
      obtain ⟨t, e⟩ := PyProof.Rows.IntsAre.int_at hit i v (by rwa [Array.getElem?_toList])
      refine ⟨ns[i], t, List.getElem?_eq_getElem hi, ?_⟩
      rw [e, List.getD_eq_getElem?_getD, List.getElem?_eq_getElem hi, Option.getD_some]
    refine set_update_ints ((Walks.list hh3 _ l neI items).toS) s.heap.objs.size nf ns size hb val (items.size - 0) 0 _ (by omega) (Nat.zero_le _) ⟨⟨_, Heap.get?_push_size _ rfl, rfl, rfl⟩, isl.push _⟩ ?z ?y
    case z => exact ⟨0, Nat.le_refl 0, setR_new_at (Heap.get?_push_of_some _ at0)⟩
    case y =>
      rintro ⟨g, gn, dr, tk, os⟩ c' hm hc' hS'
      obtain rfl : gn = s.gens := hm.gens
      obtain rfl : dr = s.drawn := hm.drawn
      obtain rfl : os = s.os := hm.os
      refine wpAny_pure (show wpAny _ _ (ret Value.none) _ _ _ from wpAny_pure ⟨rfl, g, tk, c', rfl, hS', size ▸ hc', fun b o e => ?_⟩)
      have b0 : b < s.heap.objs.size := Heap.lt_size e
      refine hm.heap b o ?_ (Heap.get?_push_of_some _ (Heap.get?_push_of_some _ e))
      rw [Heap.size_push]
      simp only [List.mem_cons, List.not_mem_nil, or_false, not_or]
      exact And.intro (Nat.ne_of_lt b0) (Nat.ne_of_lt (Nat.lt_succ_of_lt b0))
  · rcases r₂ with er | fl₂
    · exact hr₂
    rcases fl₂ with _ | _ | _ | r
    iterate 3 exact hr₂.elim
    obtain ⟨rfl, g, tk, c', rfl, hS', hc', hk'⟩ := hr₂
    repeat (any_goals first | assumption | wp_step)
    exact fin _ _ _ hS' hc' hk'
end
end GV

/-! Rules upon the syntax itself: the weakest reading of a piece of text, and what it gives on data. -/
namespace GV
open PySem PySem.Spec PyProof.Rows L2
abbrev St := L2.St

/-! ### the weakest readings -/
def wE (X : Cx) (e : Expr) : TE := fun σ H Q => ∃ t, PE X e t ∧ t σ H Q
def wT (X : Cx) (e : Expr) : TT := fun σ H Q => ∃ t, PT X e t ∧ t σ H Q
def wA (X : Cx) (es : List Expr) : TA := fun σ H Q => ∃ t, PA X es t ∧ t σ H Q
def wS (X : Cx) (st : Stmt) : TS := fun D σ H => ∃ t, PS X st t ∧ t D σ H
def wB (X : Cx) (st : List Stmt) : TS := fun D σ H => ∃ t, PSs X st t ∧ t D σ H
section
variable {X : Cx}
theorem wE.pe {e : Expr} : PE X e (wE X e) := ⟨fun pins s σ H Q I ⟨_, h, q⟩ => h.run pins s σ H Q I q⟩
theorem wT.pt {e : Expr} : PT X e (wT X e) := ⟨fun pins s σ H Q I ⟨_, h, q⟩ => h.run pins s σ H Q I q⟩
theorem wA.pa {es : List Expr} : PA X es (wA X es) := ⟨fun pos pins s σ H Q I ⟨_, h, q⟩ => h.run pos pins s σ H Q I q⟩
theorem wS.ps {st : Stmt} : PS X st (wS X st) := ⟨fun pins s σ H D I ⟨_, h, q⟩ => h.run pins s σ H D I q⟩
theorem wB.ps {st : List Stmt} : PSs X st (wB X st) := ⟨fun pins s σ H D I ⟨_, h, q⟩ => h.run pins s σ H D I q⟩
end

/-! ### what is known of the heap: all but the mutable things at M and the tables -/
def NT (o : HO) : Prop := ∀ ps, o ≠ .tbl ps
def ExM (M : Addr → Prop) (H H' : Hp) : Prop := ∀ a o, H a = some o → ¬ M a → NT o → H' a = some o
def Alive (M : Addr → Prop) (H : Hp) : Prop := ∀ a, M a → ∃ o, H a = some o
theorem ExM.refl {M : Addr → Prop} (H : Hp) : ExM M H H := fun _ _ h _ _ => h
theorem ExM.trans {M : Addr → Prop} {H H1 H2 : Hp} (a : ExM M H H1) (b : ExM M H1 H2) : ExM M H H2 := fun x o h m n => b x o (a x o h m n) m n
theorem ExM.of {M : Addr → Prop} {H H' : Hp} (e : Evl.Ex H H') : ExM M H H' := fun a o h _ _ => e a o h
theorem Alive.mono {M : Addr → Prop} {H H' : Hp} (a : Alive M H) (e : Evl.Ex H H') : Alive M H' := fun x m => let ⟨o, h⟩ := a x m; ⟨o, e x o h⟩
theorem Alive.fresh {M : Addr → Prop} {H : Hp} {p : Addr} (a : Alive M H) (h : H p = none) : ¬ M p := fun m => by
  obtain ⟨o, q⟩ := a p m
  rw [h] at q
  cases q

mutual
/-- v is the datum d, none of whose parts lies in M -/
inductive Rp (K : PySem.W.Frag) (M : Addr → Prop) (H : Hp) : V → PyData → Prop
  | non : Rp K M H .non .none
  | bl (b : Bool) : Rp K M H (.bl b) (.bool b)
  | int (i : Int) : Rp K M H (.int i) (.int i)
  | str (x : Str) : Rp K M H (.str x) (.str x)
  | lst {a : Addr} {xs : List V} {ds : List PyData} : ¬ M a → Rd H a (.lst xs) → RpAll K M H xs ds → Rp K M H (.ref a) (.list ds)
  | tup {a : Addr} {xs : List V} {ds : List PyData} : ¬ M a → Rd H a (.tup xs) → RpAll K M H xs ds → Rp K M H (.ref a) (.tuple ds)
inductive RpAll (K : PySem.W.Frag) (M : Addr → Prop) (H : Hp) : List V → List PyData → Prop
  | nil : RpAll K M H [] []
  | cons {v : V} {vs : List V} {d : PyData} {ds : List PyData} : Rp K M H v d → RpAll K M H vs ds → RpAll K M H (v :: vs) (d :: ds)
end

section
variable {K : PySem.W.Frag} {M M' : Addr → Prop} {H H' : Hp}
theorem Rd.exM {a : Addr} {xs : List V} (h : Rd H a (.lst xs)) (m : ¬ M a) (e : ExM M H H') : Rd H' a (.lst xs) := by
  rcases h with h | ⟨o, h⟩
  · exact .inl (e _ _ h m (fun _ z => by cases z))
  · exact .inr ⟨o, e _ _ h m (fun _ z => by cases z)⟩
theorem Rd.exT {a : Addr} {xs : List V} (h : Rd H a (.tup xs)) (m : ¬ M a) (e : ExM M H H') : Rd H' a (.tup xs) := by
  rcases h with h | ⟨o, h⟩
  · exact .inl (e _ _ h m (fun _ z => by cases z))
  · exact .inr ⟨o, e _ _ h m (fun _ z => by cases z)⟩
theorem Rd.there {a : Addr} {u : HO} (h : Rd H a u) : H a ≠ none := by
  rcases h with h | ⟨o, h⟩ <;> rw [h] <;> exact fun z => by cases z
mutual
theorem Rp.mono {v : V} {d : PyData} : (r : Rp K M H v d) → (hm : ∀ a, M' a → M a) → ExM M H H' → Rp K M' H' v d
  | .non, _, _ => .non
  | .bl b, _, _ => .bl b
  | .int i, _, _ => .int i
  | .str x, _, _ => .str x
  | .lst m h r, hm, e => .lst (fun z => m (hm _ z)) (Rd.exM h m e) (RpAll.mono r hm e)
  | .tup m h r, hm, e => .tup (fun z => m (hm _ z)) (Rd.exT h m e) (RpAll.mono r hm e)
theorem RpAll.mono {vs : List V} {ds : List PyData} : (r : RpAll K M H vs ds) → (hm : ∀ a, M' a → M a) → ExM M H H' → RpAll K M' H' vs ds
  | .nil, _, _ => .nil
  | .cons r rs, hm, e => .cons (Rp.mono r hm e) (RpAll.mono rs hm e)
end
mutual
/-- further mutable things, none of which was there -/
theorem Rp.wide {v : V} {d : PyData} : (r : Rp K M H v d) → (∀ a, M' a → M a ∨ H a = none) → Rp K M' H v d
  | .non, _ => .non
  | .bl b, _ => .bl b
  | .int i, _ => .int i
  | .str x, _ => .str x
  | .lst m h r, hm => .lst (fun z => (hm _ z).elim m (Rd.there h)) h (RpAll.wide r hm)
  | .tup m h r, hm => .tup (fun z => (hm _ z).elim m (Rd.there h)) h (RpAll.wide r hm)
theorem RpAll.wide {vs : List V} {ds : List PyData} : (r : RpAll K M H vs ds) → (∀ a, M' a → M a ∨ H a = none) → RpAll K M' H vs ds
  | .nil, _ => .nil
  | .cons r rs, hm => .cons (Rp.wide r hm) (RpAll.wide rs hm)
end
mutual
theorem Rp.dp {v : V} {d : PyData} : (r : Rp K M H v d) → Dp K H v d
  | .non => .non
  | .bl b => .bl b
  | .int i => .int i
  | .str x => .str x
  | .lst _ h r => .lst (.inl h) (RpAll.dp r)
  | .tup _ h r => .tup (.inl h) (RpAll.dp r)
theorem RpAll.dp {vs : List V} {ds : List PyData} : (r : RpAll K M H vs ds) → DpAll K H vs ds
  | .nil => .nil
  | .cons r rs => .cons (Rp.dp r) (RpAll.dp rs)
end
theorem RpAll.length : ∀ {vs : List V} {ds : List PyData}, RpAll K M H vs ds → vs.length = ds.length
  | _, _, .nil => rfl
  | _, _, .cons _ rs => congrArg (· + 1) rs.length
theorem RpAll.get : ∀ {vs : List V} {ds : List PyData} {i : Nat} {d : PyData}, RpAll K M H vs ds → ds[i]? = some d → ∃ v, vs[i]? = some v ∧ Rp K M H v d
  | _, _, 0, _, .cons r _, e => by
    simp at e
    subst e
    exact ⟨_, rfl, r⟩
  | _, _, i + 1, d, .cons _ rs, e => by
    obtain ⟨v, h1, h2⟩ := RpAll.get (i := i) (d := d) rs (by simpa using e)
    exact ⟨v, by simpa using h1, h2⟩
  | _, _, _, _, .nil, e => by simp at e
theorem RpAll.append : ∀ {vs ws : List V} {ds es : List PyData}, RpAll K M H vs ds → RpAll K M H ws es → RpAll K M H (vs ++ ws) (ds ++ es)
  | _, _, _, _, .nil, s => s
  | _, _, _, _, .cons r rs, s => .cons r (RpAll.append rs s)
theorem RpAll.ints : ∀ ns : List Int, RpAll K M H (ns.map V.int) (ns.map PyData.int)
  | [] => .nil
  | n :: r => .cons (.int n) (RpAll.ints r)
theorem RpAll.strs : ∀ ns : List Str, RpAll K M H (ns.map V.str) (ns.map PyData.str)
  | [] => .nil
  | n :: r => .cons (.str n) (RpAll.strs r)
theorem RpAll.of_ints : ∀ {vs : List V} {ns : List Int}, RpAll K M H vs (ns.map PyData.int) → vs = ns.map V.int
  | [], [], .nil => rfl
  | _ :: _, n :: r, .cons h hs => by
    cases h
    rw [RpAll.of_ints hs]
    rfl
end

/-! ### what a piece of text gives -/
structure PD (X : Cx) (M : Addr → Prop) (e : Expr) (σ : St) (H : Hp) (d : PyData) : Prop where
  run : ∀ H1, ExM M H H1 → Alive M H1 → ∀ Q : VK, (∀ v H2, Evl.Ex H1 H2 → Rp X.K M H2 v d → Q v H2) → wE X e σ H1 Q
structure TD (X : Cx) (M : Addr → Prop) (e : Expr) (σ : St) (H : Hp) (b : Bool) : Prop where
  run : ∀ H1, ExM M H H1 → Alive M H1 → ∀ Q : Bool → Hp → Prop, (∀ H2, Evl.Ex H1 H2 → Q b H2) → wT X e σ H1 Q
structure AD (X : Cx) (M : Addr → Prop) (es : List Expr) (σ : St) (H : Hp) (ds : List PyData) : Prop where
  run : ∀ H1, ExM M H H1 → Alive M H1 → ∀ Q : List V → Hp → Prop, (∀ vs H2, Evl.Ex H1 H2 → RpAll X.K M H2 vs ds → Q vs H2) → wA X es σ H1 Q

section
variable {X : Cx} {M : Addr → Prop} {σ : St} {H H' : Hp} {a b c e : Expr} {da db d : PyData} {pos : Pos}
theorem PD.mono (h : PD X M e σ H d) (x : ExM M H H') : PD X M e σ H' d := ⟨fun H1 e1 al Q q => h.run H1 (x.trans e1) al Q q⟩
theorem TD.mono {k : Bool} (h : TD X M e σ H k) (x : ExM M H H') : TD X M e σ H' k := ⟨fun H1 e1 al Q q => h.run H1 (x.trans e1) al Q q⟩
theorem AD.mono {es : List Expr} {ds : List PyData} (h : AD X M es σ H ds) (x : ExM M H H') : AD X M es σ H' ds := ⟨fun H1 e1 al Q q => h.run H1 (x.trans e1) al Q q⟩
theorem PD.is {d' : PyData} (h : PD X M e σ H d) (q : d = d') : PD X M e σ H d' := q ▸ h
theorem TD.is {k k' : Bool} (h : TD X M e σ H k) (q : k = k') : TD X M e σ H k' := q ▸ h
/-- names and constants -/
theorem pd_name {i : Nat} {x : Str} {v : V} (hN : X.N[i]? = some x) (hv : Vis X.env.scope x) (hs : σ[i]? = some (some v)) (r : Rp X.K M H v d)
    (hd : (x == ("__debug__" : Str)) = false := by decide) (hcd : (x == ("__classdict__" : Str)) = false := by decide) : PD X M (.Name x pos) σ H d :=
  ⟨fun H1 e1 _ Q q => ⟨_, pe_var hN hv hd hcd, v, hs, q v H1 (Evl.Ex.refl H1) (r.mono (fun _ z => z) e1)⟩⟩
theorem pd_int {i : Int} {j} : PD X M (.Constant (.int i) j pos) σ H (.int i) := ⟨fun H1 _ _ Q q => ⟨_, pe_int, q _ H1 (Evl.Ex.refl H1) (.int i)⟩⟩
theorem pd_bl {k : Bool} {j} : PD X M (.Constant (.bool k) j pos) σ H (.bool k) := ⟨fun H1 _ _ Q q => ⟨_, pe_bl, q _ H1 (Evl.Ex.refl H1) (.bl k)⟩⟩
theorem pd_non {j} : PD X M (.Constant .none j pos) σ H .none := ⟨fun H1 _ _ Q q => ⟨_, pe_non, q _ H1 (Evl.Ex.refl H1) .non⟩⟩
theorem pd_str {x : Str} {j} : PD X M (.Constant (.str x) j pos) σ H (.str x) := ⟨fun H1 _ _ Q q => ⟨_, pe_str, q _ H1 (Evl.Ex.refl H1) (.str x)⟩⟩
theorem pd_globI {x : Str} {i : Int} {t : Tok} (hg : Gl X x) (hm : X.mg x = some (.int i t)) (hd : (x == ("__debug__" : Str)) = false := by decide) : PD X M (.Name x pos) σ H (.int i) :=
  ⟨fun H1 _ _ Q q => ⟨_, pe_glob hg hm (v := .int i) ⟨t, rfl⟩ hd, q _ H1 (Evl.Ex.refl H1) (.int i)⟩⟩

/-! ### two operands -/
/-- an operator by values -/
def RD2 (X : Cx) (M : Addr → Prop) (r : R2) (da db d : PyData) : Prop :=
  ∀ x y H1, Rp X.K M H1 x da → Rp X.K M H1 y db → Alive M H1 → ∀ Q : VK, (∀ v H2, Evl.Ex H1 H2 → Rp X.K M H2 v d → Q v H2) → r x y H1 Q
theorem pd_binR {op : Operator} {r : R2} (ho : OpR X (binaryOp op) r) (hr : RD2 X M r da db d) (ha : PD X M a σ H da) (hb : PD X M b σ H db) : PD X M (.BinOp a op b pos) σ H d := ⟨fun H1 e1 al Q q =>
  ⟨_, pe_op ho wE.pe wE.pe, ha.run H1 e1 al _ fun x H2 x2 rx => hb.run H2 (e1.trans (.of x2)) (al.mono x2) _ fun y H3 x3 ry =>
    hr x y H3 (rx.mono (fun _ z => z) (.of x3)) ry ((al.mono x2).mono x3) Q fun v H4 x4 rv => q v H4 ((x2.trans x3).trans x4) rv⟩⟩
theorem pd_cmpR {op : CmpOp} {r : R2} (ho : OpR X (compareOp op) r) (hm : behindInMarks op b = false) (hr : RD2 X M r da db d) (ha : PD X M a σ H da) (hb : PD X M b σ H db) : PD X M (.Compare a [op] [b] pos) σ H d := ⟨fun H1 e1 al Q q =>
  ⟨_, pe_cmpR ho wE.pe wE.pe hm, ha.run H1 e1 al _ fun x H2 x2 rx => hb.run H2 (e1.trans (.of x2)) (al.mono x2) _ fun y H3 x3 ry =>
    hr x y H3 (rx.mono (fun _ z => z) (.of x3)) ry ((al.mono x2).mono x3) Q fun v H4 x4 rv => q v H4 ((x2.trans x3).trans x4) rv⟩⟩
theorem rd_I0 {g : Int → Int → Int} {i j : Int} : RD2 X M (rI0 fun i j => .int (g i j)) (.int i) (.int j) (.int (g i j)) := fun x y H1 rx ry _ Q q => by
  cases rx
  cases ry
  exact ⟨i, j, rfl, rfl, q _ H1 (Evl.Ex.refl H1) (.int _)⟩
theorem rd_I {C : Int → Int → Prop} {g : Int → Int → Int} {i j : Int} (hc : C i j) : RD2 X M (rI C fun i j => .int (g i j)) (.int i) (.int j) (.int (g i j)) := fun x y H1 rx ry _ Q q => by
  cases rx
  cases ry
  exact ⟨i, j, rfl, rfl, hc, q _ H1 (Evl.Ex.refl H1) (.int _)⟩
theorem rd_B0 {g : Int → Int → Bool} {i j : Int} : RD2 X M (rI0 fun i j => .bl (g i j)) (.int i) (.int j) (.bool (g i j)) := fun x y H1 rx ry _ Q q => by
  cases rx
  cases ry
  exact ⟨i, j, rfl, rfl, q _ H1 (Evl.Ex.refl H1) (.bl _)⟩
theorem pd_add {i j : Int} (ha : PD X M a σ H (.int i)) (hb : PD X M b σ H (.int j)) : PD X M (.BinOp a .Add b pos) σ H (.int (i + j)) := pd_binR op_add rd_I0 ha hb
theorem pd_sub {i j : Int} (ha : PD X M a σ H (.int i)) (hb : PD X M b σ H (.int j)) : PD X M (.BinOp a .Sub b pos) σ H (.int (i - j)) := pd_binR op_sub rd_I0 ha hb
theorem pd_mul {i j : Int} (ha : PD X M a σ H (.int i)) (hb : PD X M b σ H (.int j)) (hc : CMul i j) : PD X M (.BinOp a .Mult b pos) σ H (.int (i * j)) := pd_binR op_mul (rd_I hc) ha hb
theorem pd_lt {i j : Int} (ha : PD X M a σ H (.int i)) (hb : PD X M b σ H (.int j)) : PD X M (.Compare a [.Lt] [b] pos) σ H (.bool (decide (i < j))) := pd_cmpR op_lt (nomark _) rd_B0 ha hb
theorem pd_le {i j : Int} (ha : PD X M a σ H (.int i)) (hb : PD X M b σ H (.int j)) : PD X M (.Compare a [.LtE] [b] pos) σ H (.bool (decide (i ≤ j))) := pd_cmpR op_le (nomark _) rd_B0 ha hb
theorem pd_gt {i j : Int} (ha : PD X M a σ H (.int i)) (hb : PD X M b σ H (.int j)) : PD X M (.Compare a [.Gt] [b] pos) σ H (.bool (decide (j < i))) := pd_cmpR op_gt (nomark _) rd_B0 ha hb
theorem pd_ge {i j : Int} (ha : PD X M a σ H (.int i)) (hb : PD X M b σ H (.int j)) : PD X M (.Compare a [.GtE] [b] pos) σ H (.bool (decide (j ≤ i))) := pd_cmpR op_ge (nomark _) rd_B0 ha hb
end
end GV

namespace GV
open PySem PySem.Spec PyProof.Rows L2
section
variable {X : Cx} {M : Addr → Prop} {σ : St} {H H' : Hp} {a b c e : Expr} {da db d : PyData} {pos : Pos} {es : List Expr} {ds : List PyData}

/-! ### truth, and, or, not -/
theorem pd_and {k1 k2 : Bool} {rest : List Expr} (ha : PD X M a σ H (.bool k1)) (hb : k1 = true → PD X M (.BoolOp .And (b :: rest) pos) σ H (.bool k2)) : PD X M (.BoolOp .And (a :: b :: rest) pos) σ H (.bool (k1 && k2)) := .mk fun H1 e1 al Q q =>
  ⟨_, pe_and wE.pe wE.pe, ha.run H1 e1 al _ fun x H2 x2 rx => by
    cases rx
    refine ⟨k1, rfl, ?_⟩
    cases k1 with
    | true => exact (hb rfl).run H2 (e1.trans (.of x2)) (al.mono x2) Q fun v H3 x3 rv => q v H3 (x2.trans x3) rv
    | false => exact q _ H2 x2 (.bl _)⟩
theorem pd_or {k1 k2 : Bool} {rest : List Expr} (ha : PD X M a σ H (.bool k1)) (hb : k1 = false → PD X M (.BoolOp .Or (b :: rest) pos) σ H (.bool k2)) : PD X M (.BoolOp .Or (a :: b :: rest) pos) σ H (.bool (k1 || k2)) := .mk fun H1 e1 al Q q =>
  ⟨_, pe_or wE.pe wE.pe, ha.run H1 e1 al _ fun x H2 x2 rx => by
    cases rx
    refine ⟨k1, rfl, ?_⟩
    cases k1 with
    | false => exact (hb rfl).run H2 (e1.trans (.of x2)) (al.mono x2) Q fun v H3 x3 rv => q v H3 (x2.trans x3) rv
    | true => exact q _ H2 x2 (.bl _)⟩
theorem pd_one {op} (h : PD X M a σ H d) : PD X M (.BoolOp op [a] pos) σ H d := .mk fun H1 e1 al Q q => ⟨_, pe_one wE.pe, h.run H1 e1 al Q q⟩
theorem pd_not {k : Bool} (h : PD X M a σ H (.bool k)) : PD X M (.UnaryOp .Not a pos) σ H (.bool (!k)) := .mk fun H1 e1 al Q q =>
  ⟨_, pe_not wE.pe, h.run H1 e1 al _ fun x H2 x2 rx => by
    cases rx
    exact ⟨k, rfl, q _ H2 x2 (.bl _)⟩⟩
theorem td_val {k : Bool} (h : PD X M e σ H (.bool k)) (he : ∀ whole, isTrue e X.env whole = (do let v ← whole; standAt e.pos; holding [v] (truthy v)) := by intro _; rfl) : TD X M e σ H k := .mk fun H1 e1 al Q q =>
  ⟨_, pt_val wE.pe he, h.run H1 e1 al _ fun x H2 x2 rx => by
    cases rx
    exact ⟨k, rfl, q H2 x2⟩⟩
theorem td_not {k : Bool} (h : TD X M a σ H k) : TD X M (.UnaryOp .Not a pos) σ H (!k) := .mk fun H1 e1 al Q q => ⟨_, pt_not wT.pt, h.run H1 e1 al _ fun H2 x2 => q H2 x2⟩
/-- a chain of tests -/
structure WD (X : Cx) (M : Addr → Prop) (e : Expr) (σ : St) (H : Hp) (k : Bool) : Prop where
  ex : ∃ t, PW X e t ∧ ∀ H1, ExM M H H1 → Alive M H1 → ∀ Q : Bool → Hp → Prop, (∀ H2, Evl.Ex H1 H2 → Q k H2) → t σ H1 Q
theorem WD.td {k : Bool} (h : WD X M e σ H k) : TD X M e σ H k := .mk fun H1 e1 al Q q => let ⟨t, p, r⟩ := h.ex; ⟨t, p.pt, r H1 e1 al Q q⟩
theorem wd_and1 {k : Bool} (h : TD X M a σ H k) : WD X M (.BoolOp .And [a] pos) σ H k := .mk ⟨_, pw_and1 wT.pt, h.run⟩
theorem wd_or1 {k : Bool} (h : TD X M a σ H k) : WD X M (.BoolOp .Or [a] pos) σ H k := .mk ⟨_, pw_or1 wT.pt, h.run⟩
/-- the reading of a chain, of any of its ends -/
def wW (X : Cx) (e : Expr) : TT := fun σ H Q => ∃ t, PW X e t ∧ t σ H Q
theorem wW.pw {e : Expr} : PW X e (wW X e) := ⟨fun pins s σ H whole Q I ⟨_, h, q⟩ => h.run pins s σ H whole Q I q⟩
theorem wd_and {k1 k2 : Bool} {rest : List Expr} (ha : TD X M a σ H k1) (hb : k1 = true → WD X M (.BoolOp .And (b :: rest) pos) σ H k2) : WD X M (.BoolOp .And (a :: b :: rest) pos) σ H (k1 && k2) :=
  .mk ⟨_, pw_and wT.pt wW.pw, fun H1 e1 al Q q => ha.run H1 e1 al _ fun H2 x2 => by
    cases k1 with
    | true =>
      obtain ⟨t, p, r⟩ := (hb rfl).ex
      exact ⟨t, p, r H2 (e1.trans (.of x2)) (al.mono x2) Q fun H3 x3 => q H3 (x2.trans x3)⟩
    | false => exact q H2 x2⟩
theorem wd_or {k1 k2 : Bool} {rest : List Expr} (ha : TD X M a σ H k1) (hb : k1 = false → WD X M (.BoolOp .Or (b :: rest) pos) σ H k2) : WD X M (.BoolOp .Or (a :: b :: rest) pos) σ H (k1 || k2) :=
  .mk ⟨_, pw_or wT.pt wW.pw, fun H1 e1 al Q q => ha.run H1 e1 al _ fun H2 x2 => by
    cases k1 with
    | false =>
      obtain ⟨t, p, r⟩ := (hb rfl).ex
      exact ⟨t, p, r H2 (e1.trans (.of x2)) (al.mono x2) Q fun H3 x3 => q H3 (x2.trans x3)⟩
    | true => exact q H2 x2⟩
theorem pd_if {k : Bool} (ht : TD X M c σ H k) (ha : k = true → PD X M a σ H d) (hb : k = false → PD X M b σ H d) : PD X M (.IfExp c a b pos) σ H d := .mk fun H1 e1 al Q q =>
  ⟨_, pe_ifExp wT.pt wE.pe wE.pe, ht.run H1 e1 al _ fun H2 x2 => by
    cases k with
    | true => exact (ha rfl).run H2 (e1.trans (.of x2)) (al.mono x2) Q fun v H3 x3 rv => q v H3 (x2.trans x3) rv
    | false => exact (hb rfl).run H2 (e1.trans (.of x2)) (al.mono x2) Q fun v H3 x3 rv => q v H3 (x2.trans x3) rv⟩

/-! ### lists of parts, displays -/
theorem ad_nil : AD X M [] σ H [] := .mk fun H1 _ _ Q q => ⟨_, pa_nil, q [] H1 (Evl.Ex.refl H1) .nil⟩
theorem ad_cons (h : PD X M e σ H d) (hr : AD X M es σ H ds) (hs : starEach (e :: es) X.env = (false, eval e X.env) :: starEach es X.env := by rfl) : AD X M (e :: es) σ H (d :: ds) := .mk fun H1 e1 al Q q =>
  ⟨_, pa_cons wE.pe wA.pa hs, h.run H1 e1 al _ fun v H2 x2 rv => hr.run H2 (e1.trans (.of x2)) (al.mono x2) _ fun vs H3 x3 rvs =>
    q (v :: vs) H3 (x2.trans x3) (.cons (rv.mono (fun _ z => z) (.of x3)) rvs)⟩
theorem Rp.newT {p : Addr} {xs : List V} (al : Alive M H) (hp : H p = none) (r : RpAll X.K M H xs ds) : Rp X.K M (upd H p (.tup xs)) (.ref p) (.tuple ds) :=
  .tup (al.fresh hp) (.inl upd_same) (r.mono (fun _ z => z) (.of (Evl.Ex.new hp)))
theorem Rp.newL {p : Addr} {xs : List V} (al : Alive M H) (hp : H p = none) (r : RpAll X.K M H xs ds) : Rp X.K M (upd H p (.lst xs)) (.ref p) (.list ds) :=
  .lst (al.fresh hp) (.inl upd_same) (r.mono (fun _ z => z) (.of (Evl.Ex.new hp)))
theorem pd_tup {x1} (h : AD X M es σ H ds) (hl : ds.length ≤ 100000) : PD X M (.Tuple es x1 pos) σ H (.tuple ds) := .mk fun H1 e1 al Q q =>
  ⟨_, pe_tup wA.pa, h.run H1 e1 al _ fun vs H2 x2 r => ⟨by rw [r.length]; exact Evl.sz_of hl, fun p hp => q _ _ (x2.trans (Evl.Ex.new hp)) (.newT (al.mono x2) hp r)⟩⟩
/-- .. a new one -/
structure FD (X : Cx) (M : Addr → Prop) (e : Expr) (σ : St) (H : Hp) (ds : List PyData) : Prop where
  run : ∀ H1, ExM M H H1 → Alive M H1 → ∀ Q : VK, (∀ p vs H2, H1 p = none → Evl.Ex H1 H2 → H2 p = some (.lst vs) → RpAll X.K M H2 vs ds → Q (.ref p) H2) → wE X e σ H1 Q
theorem FD.mono (h : FD X M e σ H ds) (x : ExM M H H') : FD X M e σ H' ds := .mk fun H1 e1 al Q q => h.run H1 (x.trans e1) al Q q
theorem FD.pd (h : FD X M e σ H ds) : PD X M e σ H (.list ds) := .mk fun H1 e1 al Q q => h.run H1 e1 al Q fun p vs H2 hp x2 h2 r => q _ H2 x2 (.lst (al.fresh hp) (.inl h2) r)
theorem fd_lst (h : AD X M es σ H ds) (hl : ds.length ≤ 100000) : FD X M (.List es pos) σ H ds := .mk fun H1 e1 al Q q =>
  ⟨_, pe_lst wA.pa, h.run H1 e1 al _ fun vs H2 x2 r => ⟨by rw [r.length]; exact Evl.sz_of hl, fun p hp => q p vs _ (Evl.fresh_back x2 hp) (x2.trans (Evl.Ex.new hp)) upd_same (r.mono (fun _ z => z) (.of (Evl.Ex.new hp)))⟩⟩

/-! ### == and is -/
theorem pd_eq (hu : X.A.units + 64 < cLine) (ha : PD X M a σ H da) (hb : PD X M b σ H db) (sa : SeqAt.shaped da = true) (sb : SeqAt.shaped db = true) : PD X M (.Compare a [.Eq] [b] pos) σ H (.bool (PyData.eqv da db)) :=
  pd_cmpR (op_eqD hu) (nomark _) (fun x y H1 rx ry _ Q q => ⟨da, db, rx.dp, ry.dp, sa, sb, q _ H1 (Evl.Ex.refl H1) (.bl _)⟩) ha hb
theorem pd_ne (hu : X.A.units + 64 < cLine) (ha : PD X M a σ H da) (hb : PD X M b σ H db) (sa : SeqAt.shaped da = true) (sb : SeqAt.shaped db = true) : PD X M (.Compare a [.NotEq] [b] pos) σ H (.bool (!PyData.eqv da db)) :=
  pd_cmpR (op_neD hu) (nomark _) (fun x y H1 rx ry _ Q q => ⟨da, db, rx.dp, ry.dp, sa, sb, q _ H1 (Evl.Ex.refl H1) (.bl _)⟩) ha hb
def isNone : PyData → Bool
  | .none => true
  | _ => false
theorem Rp.isN {K : PySem.W.Frag} {x : V} (r : Rp K M H x d) : decide (x = .non) = isNone d := by
  cases r <;> rfl
theorem pd_isN {j p2} (ha : PD X M a σ H da) : PD X M (.Compare a [.Is] [.Constant .none j p2] pos) σ H (.bool (isNone da)) :=
  pd_cmpR op_isN (nomark _) (fun x y H1 rx ry _ Q q => by
    cases ry
    exact ⟨rfl, q _ H1 (Evl.Ex.refl H1) (by rw [rx.isN]; exact .bl _)⟩) ha pd_non
theorem pd_notN {j p2} (ha : PD X M a σ H da) : PD X M (.Compare a [.IsNot] [.Constant .none j p2] pos) σ H (.bool (!isNone da)) :=
  pd_cmpR op_notN (nomark _) (fun x y H1 rx ry _ Q q => by
    cases ry
    exact ⟨rfl, q _ H1 (Evl.Ex.refl H1) (by rw [rx.isN]; exact .bl _)⟩) ha pd_non

/-! ### items -/
def ixD : PyData → PyData → Option PyData
  | .list ds, .int i => atI ds i
  | .tuple ds, .int i => atI ds i
  | .str z, .int i => if z.length ≤ sizeLine then (atI z.cps.toList i).map fun c => .str ⟨#[c]⟩ else none
  | _, _ => none
theorem atI_rp {K : PySem.W.Frag} {xs : List V} {i : Int} (r : RpAll K M H xs ds) (h : atI ds i = some d) : ∃ v, atI xs i = some v ∧ Rp K M H v d := by
  unfold atI at h ⊢
  rw [r.length]
  cases e : ixN ds.length i with
  | none =>
    rw [e] at h
    cases h
  | some j =>
    rw [e] at h
    obtain ⟨v, h1, h2⟩ := r.get h
    exact ⟨v, h1, h2⟩
theorem pd_ix (ha : PD X M a σ H da) (hb : PD X M b σ H db) (h : ixD da db = some d) (hs : PlainIx b := by exact fun _ _ => rfl) : PD X M (.Subscript a b pos) σ H d := .mk fun H1 e1 al Q q =>
  ⟨_, pe_ix ix_seq wE.pe wE.pe hs, ha.run H1 e1 al _ fun x H2 x2 rx => hb.run H2 (e1.trans (.of x2)) (al.mono x2) _ fun y H3 x3 ry => by
    have rx' := rx.mono (fun _ z => z) (.of x3)
    have fin : ∀ v, Rp X.K M H3 v d → Q v H3 := fun v rv => q v H3 (x2.trans x3) rv
    cases ry with
    | int i =>
      cases rx' with
      | lst m hs rs =>
        obtain ⟨v, hv, rv⟩ := atI_rp rs h
        exact .inl ⟨_, _, i, v, rfl, rfl, .inl hs, hv, fin v rv⟩
      | tup m hs rs =>
        obtain ⟨v, hv, rv⟩ := atI_rp rs h
        exact .inr (.inl ⟨_, _, i, v, rfl, rfl, .inl hs, hv, fin v rv⟩)
      | str z =>
        simp only [ixD] at h
        split at h
        · rename_i hz
          cases e : atI z.cps.toList i with
          | none =>
            rw [e] at h
            cases h
          | some c =>
            rw [e] at h
            cases h
            exact .inr (.inr ⟨z, i, c, rfl, rfl, hz, e, fin _ (.str _)⟩)
        · cases h
      | _ => cases h
    | _ => cases da <;> cases h⟩

/-! ### own defs that leave all as it is -/
def PureR (K : PySem.W.Frag) (R : List PyData → PyData → Prop) : Sp := fun vs H Q _ => ∃ M ds d, Alive M H ∧ RpAll K M H vs ds ∧ R ds d ∧ ∀ v H', Evl.Ex H H' → Rp K M H' v d → Q v H'
theorem pd_call {R : List PyData → PyData → Prop} {CX : CXT} {E : XK} {k : Nat} {f : Addr} {fd : FuncData} {ps : List Str} {x : Str} {p : Pos} (F : FnOk X.prog X.w X.K X.mg X.base CX k f fd ps (PureR X.K R)) (hr : Room k X.A) (hg : Gl X x) (hm : X.mg x = some (.ref f)) (hk : PySem.W.keepIn X.K (.ref f) = true)
    (hb : Binds X.K fd ps []) (hx : Passes CX X E) (h : AD X M (e :: es) σ H ds) (hR : R ds d)
    (hdb : (x == ("__debug__" : Str)) = false := by decide) (he : starEach (e :: es) X.env = (false, eval e X.env) :: starEach es X.env := by rfl) (hpl : (backTo pos (starEach es X.env)).any (·.1) = false := by rfl) : PD X M (.Call (.Name x p) (e :: es) [] pos) σ H d := .mk fun H1 e1 al Q q =>
  ⟨_, pe_call F hr hg hm hk hb .nil hx wA.pa hdb he hpl, h.run H1 e1 al _ fun vs H2 x2 r => by
    rw [List.append_nil]
    exact ⟨M, ds, d, al.mono x2, r, hR, fun v H3 x3 rv => q v H3 (x2.trans x3) rv⟩⟩
end

/-! ### statements -/
section
variable {X : Cx} {M : Addr → Prop} {σ : St} {H : Hp} {c e : Expr} {d : PyData} {pos : Pos} {st : Stmt} {sts A B : List Stmt} {D : Ends}
theorem b_nil (h : D.nx σ H) : wB X [] D σ H := ⟨_, pss_nil, h⟩
theorem b_cons (h : wS X st { D with nx := wB X sts D } σ H) : wB X (st :: sts) D σ H := ⟨_, pss_cons wS.ps wB.ps, h⟩
theorem s_ret (al : Alive M H) (h : PD X M e σ H d) (q : ∀ v H2, Evl.Ex H H2 → Rp X.K M H2 v d → D.rt v H2) : wS X (.Return (some e) pos) D σ H := ⟨_, ps_ret wE.pe, h.run H (ExM.refl H) al _ q⟩
theorem s_retN (q : D.rt .non H) : wS X (.Return none pos) D σ H := ⟨_, ps_retN, q⟩
theorem s_if {k : Bool} (al : Alive M H) (h : TD X M c σ H k) (h1 : k = true → ∀ H2, Evl.Ex H H2 → wB X A D σ H2) (h2 : k = false → ∀ H2, Evl.Ex H H2 → wB X B D σ H2) : wS X (.If c A B pos) D σ H :=
  ⟨_, ps_if wT.pt wB.ps wB.ps, h.run H (ExM.refl H) al _ fun H2 x2 => by
    cases k with
    | true => exact h1 rfl H2 x2
    | false => exact h2 rfl H2 x2⟩
theorem s_set {i : Nat} {x : Str} {p : Pos} (al : Alive M H) (hN : X.N.Nodup) (hi : X.N[i]? = some x) (hx : Loc X.env.scope x) (h : PD X M e σ H d) (q : ∀ v H2, Evl.Ex H H2 → Rp X.K M H2 v d → D.nx (σ.set i (some v)) H2)
    (hs : swapsWith e (some (.Name x p)) pos.line X.env = pure false := by rfl) (hf : X.fn x = true ∨ X.env.scope.names.lookup x = some .local := by first | exact .inl rfl | exact .inr rfl | assumption) : wS X (.Assign [.Name x p] e pos) D σ H :=
  ⟨_, ps_set hN hi hx wE.pe hs hf, h.run H (ExM.refl H) al _ fun v H2 x2 r => q v H2 x2 r⟩
end
end GV

namespace GV
open PySem PySem.Spec PyProof.Rows L2
section
variable {X : Cx} {M : Addr → Prop} {σ : St} {H H' : Hp} {a b c e : Expr} {da db d : PyData} {pos : Pos} {es : List Expr} {ds : List PyData}

/-! ### more of ints -/
theorem pd_neg {i : Int} (ha : PD X M a σ H (.int i)) : PD X M (.UnaryOp .USub a pos) σ H (.int (-i)) := .mk fun H1 e1 al Q q =>
  ⟨_, pe_un un_neg wE.pe, ha.run H1 e1 al _ fun x H2 x2 rx => by
    cases rx
    exact ⟨i, rfl, q _ H2 x2 (.int _)⟩⟩
theorem pd_mulW {i j : Int} (ha : PD X M a σ H (.int i)) (hb : PD X M b σ H (.int j)) (hc : CMulW i j) : PD X M (.BinOp a .Mult b pos) σ H (.int (i * j)) := pd_binR op_mulW (rd_I hc) ha hb
theorem pd_div {i j : Int} (ha : PD X M a σ H (.int i)) (hb : PD X M b σ H (.int j)) (hc : CDivW i j) : PD X M (.BinOp a .FloorDiv b pos) σ H (.int (i / j)) := pd_binR op_fdivW (rd_I hc) ha hb
theorem pd_mod {i j : Int} (ha : PD X M a σ H (.int i)) (hb : PD X M b σ H (.int j)) (hc : 0 < j) : PD X M (.BinOp a .Mod b pos) σ H (.int (i % j)) := pd_binR op_mod (rd_I (C := fun _ j => 0 < j) hc) ha hb
theorem pd_pow {i j : Int} (ha : PD X M a σ H (.int i)) (hb : PD X M b σ H (.int j)) (hc : CPow i j) : PD X M (.BinOp a .Pow b pos) σ H (.int (i ^ j.toNat)) := pd_binR op_pow (rd_I hc) ha hb

/-! ### built-ins, by values -/
def RDn (X : Cx) (M : Addr → Prop) (r : List V → Hp → VK → Prop) (ds : List PyData) (d : PyData) : Prop :=
  ∀ vs H1, RpAll X.K M H1 vs ds → Alive M H1 → ∀ Q : VK, (∀ v H2, Evl.Ex H1 H2 → Rp X.K M H2 v d → Q v H2) → r vs H1 Q
def RFn (X : Cx) (M : Addr → Prop) (r : List V → Hp → VK → Prop) (ds es : List PyData) : Prop :=
  ∀ vs H1, RpAll X.K M H1 vs ds → Alive M H1 → ∀ Q : VK, (∀ p ws H2, H1 p = none → Evl.Ex H1 H2 → H2 p = some (.lst ws) → RpAll X.K M H2 ws es → Q (.ref p) H2) → r vs H1 Q
theorem pd_callB {id : String} {x : Str} {p : Pos} {r : List V → Hp → VK → Prop} (hc : CallR X (.builtin id) r) (hg : Gl X x) (hm : X.mg x = none) (hv : bootBuiltins x = some (.builtin id)) (h : AD X M (e :: es) σ H ds) (hr : RDn X M r ds d)
    (hn : x ≠ "__name__" := by decide) (hdb : (x == ("__debug__" : Str)) = false := by decide) (he : starEach (e :: es) X.env = (false, eval e X.env) :: starEach es X.env := by rfl) (hpl : (backTo pos (starEach es X.env)).any (·.1) = false := by rfl) :
    PD X M (.Call (.Name x p) (e :: es) [] pos) σ H d := .mk fun H1 e1 al Q q =>
  ⟨_, pe_callB hc hg hm hv wA.pa hn hdb he hpl, h.run H1 e1 al _ fun vs H2 x2 rs => hr vs H2 rs (al.mono x2) Q fun v H3 x3 rv => q v H3 (x2.trans x3) rv⟩
theorem pd_callTy {T : String} {x : Str} {p : Pos} {r : List V → Hp → VK → Prop} (hc : CallR X (.type T) r) (hg : Gl X x) (hm : X.mg x = none) (hv : bootBuiltins x = some (.type T)) (h : AD X M (e :: es) σ H ds) (hr : RDn X M r ds d)
    (hn : x ≠ "__name__" := by decide) (hdb : (x == ("__debug__" : Str)) = false := by decide) (he : starEach (e :: es) X.env = (false, eval e X.env) :: starEach es X.env := by rfl) (hpl : (backTo pos (starEach es X.env)).any (·.1) = false := by rfl) :
    PD X M (.Call (.Name x p) (e :: es) [] pos) σ H d := .mk fun H1 e1 al Q q =>
  ⟨_, pe_callTy hc hg hm hv wA.pa hn hdb he hpl, h.run H1 e1 al _ fun vs H2 x2 rs => hr vs H2 rs (al.mono x2) Q fun v H3 x3 rv => q v H3 (x2.trans x3) rv⟩
theorem fd_callTy {T : String} {x : Str} {p : Pos} {r : List V → Hp → VK → Prop} {fs : List PyData} (hc : CallR X (.type T) r) (hg : Gl X x) (hm : X.mg x = none) (hv : bootBuiltins x = some (.type T)) (h : AD X M (e :: es) σ H ds) (hr : RFn X M r ds fs)
    (hn : x ≠ "__name__" := by decide) (hdb : (x == ("__debug__" : Str)) = false := by decide) (he : starEach (e :: es) X.env = (false, eval e X.env) :: starEach es X.env := by rfl) (hpl : (backTo pos (starEach es X.env)).any (·.1) = false := by rfl) :
    FD X M (.Call (.Name x p) (e :: es) [] pos) σ H fs := .mk fun H1 e1 al Q q =>
  ⟨_, pe_callTy hc hg hm hv wA.pa hn hdb he hpl, h.run H1 e1 al _ fun vs H2 x2 rs => hr vs H2 rs (al.mono x2) Q fun p ws H3 hp x3 h3 rv => q p ws H3 (Evl.fresh_back x2 hp) (x2.trans x3) h3 rv⟩
theorem fd_callB {id : String} {x : Str} {p : Pos} {r : List V → Hp → VK → Prop} {fs : List PyData} (hc : CallR X (.builtin id) r) (hg : Gl X x) (hm : X.mg x = none) (hv : bootBuiltins x = some (.builtin id)) (h : AD X M (e :: es) σ H ds) (hr : RFn X M r ds fs)
    (hn : x ≠ "__name__" := by decide) (hdb : (x == ("__debug__" : Str)) = false := by decide) (he : starEach (e :: es) X.env = (false, eval e X.env) :: starEach es X.env := by rfl) (hpl : (backTo pos (starEach es X.env)).any (·.1) = false := by rfl) :
    FD X M (.Call (.Name x p) (e :: es) [] pos) σ H fs := .mk fun H1 e1 al Q q =>
  ⟨_, pe_callB hc hg hm hv wA.pa hn hdb he hpl, h.run H1 e1 al _ fun vs H2 x2 rs => hr vs H2 rs (al.mono x2) Q fun p ws H3 hp x3 h3 rv => q p ws H3 (Evl.fresh_back x2 hp) (x2.trans x3) h3 rv⟩
theorem rpa1 {vs : List V} {K : PySem.W.Frag} (r : RpAll K M H vs [d]) : ∃ v, vs = [v] ∧ Rp K M H v d := by
  obtain ⟨⟩ | ⟨r1, r⟩ := r
  obtain ⟨⟩ := r
  exact ⟨_, rfl, r1⟩
theorem rpa2 {vs : List V} {K : PySem.W.Frag} (r : RpAll K M H vs [da, db]) : ∃ v w, vs = [v, w] ∧ Rp K M H v da ∧ Rp K M H w db := by
  obtain ⟨⟩ | ⟨r1, r⟩ := r
  obtain ⟨v, rfl, r2⟩ := rpa1 r
  exact ⟨_, _, rfl, r1, r2⟩
/-- int(n), int(True) -/
theorem rn_int {i : Int} : RDn X M (fun xs H Q => (∃ i, xs = [.int i] ∧ Q (.int i) H) ∨ ∃ k, xs = [.bl k] ∧ Q (.int (if k then 1 else 0)) H) [.int i] (.int i) := fun vs H1 r _ Q q => by
  obtain ⟨v, rfl, r1⟩ := rpa1 r
  cases r1
  exact .inl ⟨i, rfl, q _ H1 (Evl.Ex.refl H1) (.int _)⟩
theorem rn_intB {k : Bool} : RDn X M (fun xs H Q => (∃ i, xs = [.int i] ∧ Q (.int i) H) ∨ ∃ k, xs = [.bl k] ∧ Q (.int (if k then 1 else 0)) H) [.bool k] (.int (if k then 1 else 0)) := fun vs H1 r _ Q q => by
  obtain ⟨v, rfl, r1⟩ := rpa1 r
  cases r1
  exact .inr ⟨k, rfl, q _ H1 (Evl.Ex.refl H1) (.int _)⟩
theorem rn_abs {i : Int} : RDn X M (fun xs H Q => ∃ i, xs = [.int i] ∧ Q (.int (if i < 0 then -i else i)) H) [.int i] (.int (if i < 0 then -i else i)) := fun vs H1 r _ Q q => by
  obtain ⟨v, rfl, r1⟩ := rpa1 r
  cases r1
  exact ⟨i, rfl, q _ H1 (Evl.Ex.refl H1) (.int _)⟩
theorem rn_max2 {i j : Int} : RDn X M (fun xs H Q => ∃ i j, xs = [.int i, .int j] ∧ Q (.int (if j > i then j else i)) H) [.int i, .int j] (.int (if j > i then j else i)) := fun vs H1 r _ Q q => by
  obtain ⟨v, w, rfl, r1, r2⟩ := rpa2 r
  cases r1
  cases r2
  exact ⟨i, j, rfl, q _ H1 (Evl.Ex.refl H1) (.int _)⟩
theorem rn_min2 {i j : Int} : RDn X M (fun xs H Q => ∃ i j, xs = [.int i, .int j] ∧ Q (.int (if j < i then j else i)) H) [.int i, .int j] (.int (if j < i then j else i)) := fun vs H1 r _ Q q => by
  obtain ⟨v, w, rfl, r1, r2⟩ := rpa2 r
  cases r1
  cases r2
  exact ⟨i, j, rfl, q _ H1 (Evl.Ex.refl H1) (.int _)⟩
/-- len -/
def lenD : PyData → Option Nat
  | .list ds => some ds.length
  | .tuple ds => some ds.length
  | .str z => if z.length ≤ sizeLine then some z.length else none
  | _ => none
theorem rn_len {n : Nat} (h : lenD d = some n) : RDn X M (fun xs H Q => ∃ x n, xs = [x] ∧ LenV X.K x H n ∧ Q (.int n) H) [d] (.int n) := fun vs H1 r _ Q q => by
  obtain ⟨v, rfl, r1⟩ := rpa1 r
  have fin := q (.int n) H1 (Evl.Ex.refl H1) (.int _)
  cases r1 with
  | lst m hs rs =>
    cases h
    exact ⟨_, _, rfl, .inl ⟨_, .inl hs, rs.length.symm⟩, fin⟩
  | tup m hs rs =>
    cases h
    exact ⟨_, _, rfl, .inr ⟨_, .inl hs, rs.length.symm⟩, fin⟩
  | str z =>
    simp only [lenD] at h
    split at h
    · rename_i hz
      cases h
      exact ⟨_, _, rfl, ⟨hz, rfl⟩, fin⟩
    · cases h
  | _ => cases h
/-- list(xs), tuple(xs) -/
def itemsD : PyData → Option (List PyData)
  | .list ds => some ds
  | .tuple ds => some ds
  | _ => none
theorem rf_list (h : itemsD d = some ds) : RFn X M (fun xs H Q => ∃ p ys, xs = [.ref p] ∧ (SqL X.K H p ys ∨ SqT X.K H p ys) ∧ ∀ l, H l = none → Q (.ref l) (upd H l (.lst ys))) [d] ds := fun vs H1 r al Q q => by
  obtain ⟨v, rfl, r1⟩ := rpa1 r
  cases r1 with
  | lst m hs rs =>
    cases h
    exact ⟨_, _, rfl, .inl (.inl hs), fun l hl => q l _ _ hl (Evl.Ex.new hl) upd_same (rs.mono (fun _ z => z) (.of (Evl.Ex.new hl)))⟩
  | tup m hs rs =>
    cases h
    exact ⟨_, _, rfl, .inr (.inl hs), fun l hl => q l _ _ hl (Evl.Ex.new hl) upd_same (rs.mono (fun _ z => z) (.of (Evl.Ex.new hl)))⟩
  | _ => cases h
theorem rn_tuple (h : itemsD d = some ds) : RDn X M (fun xs H Q => ∃ p ys, xs = [.ref p] ∧ ((SqL X.K H p ys ∧ ∀ l, H l = none → Q (.ref l) (upd H l (.tup ys))) ∨ (SqT X.K H p ys ∧ Q (.ref p) H))) [d] (.tuple ds) := fun vs H1 r al Q q => by
  obtain ⟨v, rfl, r1⟩ := rpa1 r
  cases r1 with
  | lst m hs rs =>
    cases h
    exact ⟨_, _, rfl, .inl ⟨.inl hs, fun l hl => q _ _ (Evl.Ex.new hl) (.newT (X := X) al hl rs)⟩⟩
  | tup m hs rs =>
    cases h
    exact ⟨_, _, rfl, .inr ⟨.inl hs, q _ H1 (Evl.Ex.refl H1) (.tup m hs rs)⟩⟩
  | _ => cases h

/-! ### slices of a list -/
theorem cutV_map (xs : List V) (lo hi : Option Int) : True := True.intro
def cutD (xs : List PyData) (lo hi : Option Int) : List PyData := (xs.drop (HT.sIx xs.length 0 lo)).take (HT.sIx xs.length xs.length hi - HT.sIx xs.length 0 lo)
theorem RpAll.take {K : PySem.W.Frag} : ∀ {vs : List V} {ds : List PyData} (n : Nat), RpAll K M H vs ds → RpAll K M H (vs.take n) (ds.take n)
  | _, _, 0, _ => .nil
  | _, _, n + 1, .nil => .nil
  | _, _, n + 1, .cons r rs => .cons r (RpAll.take n rs)
theorem RpAll.drop {K : PySem.W.Frag} : ∀ {vs : List V} {ds : List PyData} (n : Nat), RpAll K M H vs ds → RpAll K M H (vs.drop n) (ds.drop n)
  | _, _, 0, r => r
  | _, _, n + 1, .nil => .nil
  | _, _, n + 1, .cons r rs => RpAll.drop n rs
theorem RpAll.cut {K : PySem.W.Frag} {vs : List V} {ds : List PyData} (lo hi : Option Int) (r : RpAll K M H vs ds) : RpAll K M H (cutV vs lo hi) (cutD ds lo hi) := by
  unfold cutV cutD
  rw [r.length]
  exact (r.drop _).take _
/-- an optional part of a slice -/
structure OD (X : Cx) (M : Addr → Prop) (e : Option Expr) (σ : St) (H : Hp) (o : Option Int) : Prop where
  ex : ∃ t, PO X e t ∧ ∀ H1, ExM M H H1 → Alive M H1 → ∀ Q : Option Int → Hp → Prop, (∀ H2, Evl.Ex H1 H2 → Q o H2) → t σ H1 Q
theorem od_none : OD X M none σ H none := ⟨_, po_none, fun H1 _ _ Q q => q H1 (Evl.Ex.refl H1)⟩
theorem od_some {i : Int} (h : PD X M e σ H (.int i)) : OD X M (some e) σ H (some i) := ⟨_, po_some wE.pe, fun H1 e1 al Q q => h.run H1 e1 al _ fun x H2 x2 r => by
  cases r
  exact ⟨i, rfl, q H2 x2⟩⟩
theorem fd_slice {lo hi : Option Expr} {l u : Option Int} {p2 : Pos} (h : PD X M e σ H (.list ds)) (hl : OD X M lo σ H l) (hu : OD X M hi σ H u) : FD X M (.Subscript e (.Slice lo hi none p2) pos) σ H (cutD ds l u) := by
  obtain ⟨tl, pl, rl⟩ := hl.ex
  obtain ⟨tu, pu, ru⟩ := hu.ex
  refine .mk fun H1 e1 al Q q => ⟨_, pe_slice sl_list wE.pe pl pu, h.run H1 e1 al _ fun x H2 x2 r => ?_⟩
  refine rl H2 (e1.trans (.of x2)) (al.mono x2) _ fun H3 x3 => ru H3 ((e1.trans (.of x2)).trans (.of x3)) ((al.mono x2).mono x3) _ fun H4 x4 => ?_
  have r4 := r.mono (fun _ z => z) (.of (x3.trans x4))
  cases r4 with
  | lst m hs rs =>
    exact ⟨_, _, rfl, .inl hs, fun p hp => q p _ _ (Evl.fresh_back (x2.trans (x3.trans x4)) hp) ((x2.trans (x3.trans x4)).trans (Evl.Ex.new hp)) upd_same ((rs.cut l u).mono (fun _ z => z) (.of (Evl.Ex.new hp)))⟩

/-! ### list + list -/
def rCatR : R2 := fun x y H Q => ∃ l b xs zs, x = .ref l ∧ y = .ref b ∧ Rd H l (.lst xs) ∧ Rd H b (.lst zs) ∧ xs.length + zs.length ≤ sizeLine ∧ ∀ p, H p = none → Q (.ref p) (upd H p (.lst (xs ++ zs)))
theorem op_catR : OpR X (binaryOp .Add) rCatR := by
  intro pins s σ H x y v u Q I rx ry h
  obtain ⟨l, b, xs, zs, rfl, rfl, hH, hB, hz, q⟩ := h
  cases rx
  cases ry
  obtain ⟨z, its, n, r, e⟩ := hH.ok I.hok
  obtain ⟨z2, its2, n2, r2, e2⟩ := hB.ok I.hok
  have hl := r.length
  have hl2 := r2.length
  refine PySem.P.add_list e e2 ?_ (by rw [List.size_toArray, List.size_toArray]; omega)
  have ea : its.toArray ++ its2.toArray = (its ++ its2).toArray := by simp
  rw [ea]
  exact ⟨.ref _, _, I.lnew (t' := s.toks) (r.append r2) (by rw [List.length_append]; omega), rfl, q _ I.fresh⟩
theorem fd_cat {es fs : List PyData} (ha : PD X M a σ H (.list es)) (hb : PD X M b σ H (.list fs)) (hl : es.length + fs.length ≤ 100000) : FD X M (.BinOp a .Add b pos) σ H (es ++ fs) := .mk fun H1 e1 al Q q =>
  ⟨_, pe_op op_catR wE.pe wE.pe, ha.run H1 e1 al _ fun x H2 x2 rx => hb.run H2 (e1.trans (.of x2)) (al.mono x2) _ fun y H3 x3 ry => by
    have rx' := rx.mono (fun _ z => z) (.of x3)
    cases rx' with
    | lst m1 h1 r1 =>
      cases ry with
      | lst m2 h2 r2 =>
        exact ⟨_, _, _, _, rfl, rfl, h1, h2, by rw [r1.length, r2.length]; exact Evl.sz_of hl, fun p hp => q p _ _ (Evl.fresh_back (x2.trans x3) hp) ((x2.trans x3).trans (Evl.Ex.new hp)) upd_same
          ((r1.append r2).mono (fun _ z => z) (.of (Evl.Ex.new hp)))⟩⟩
end
end GV

namespace GV
open PySem PySem.Spec PyProof.Rows L2

/-! ### what is walked -/
/-- from H0 on the iterator gives these data, one after another -/
structure Wk (K : PySem.W.Frag) (M : Addr → Prop) (J : It) (H0 : Hp) (ds : List PyData) : Prop where
  go : ∀ M' i H, (∀ a, M' a → M a ∨ H0 a = none) → ExM M' H0 H → i < ds.length → J.go i H
  stop : ∀ M' H, (∀ a, M' a → M a ∨ H0 a = none) → ExM M' H0 H → J.stop ds.length H
  yld : ∀ M' i H x H', (∀ a, M' a → M a ∨ H0 a = none) → ExM M' H0 H → Alive M' H → J.yld i H x H' → Evl.Ex H H' ∧ ∀ d, ds[i]? = some d → Rp K M' H' x d
structure Src (X : Cx) (M : Addr → Prop) (tg iter : Expr) (σ : St) (H : Hp) (ds : List PyData) : Prop where
  ex : ∃ wi, PI X tg iter wi ∧ ∀ H1, ExM M H H1 → Alive M H1 → ∀ R, (∀ J H2, Evl.Ex H1 H2 → Wk X.K M J H2 ds → R J H2) → wi σ H1 R
section
variable {X : Cx} {K : PySem.W.Frag} {M : Addr → Prop} {σ : St} {H H' : Hp} {a b c e tg iter : Expr} {da db d : PyData} {pos : Pos} {es : List Expr} {ds : List PyData}
theorem rd_inj {a : Addr} {u w : HO} (h : Rd H a u) (h' : H a = some w ∨ ∃ o, H a = some (.frz o w)) (hf : ∀ o z, u ≠ .frz o z) (hf' : ∀ o z, w ≠ .frz o z) : u = w := by
  rcases h with h | ⟨o, h⟩ <;> rcases h' with h' | ⟨o', h'⟩ <;> rw [h] at h' <;> cases h'
  · rfl
  · exact absurd rfl (hf _ _)
  · exact absurd rfl (hf' _ _)
  · rfl
theorem wk_list {a : Addr} {xs : List V} (m : ¬ M a) (h : Rd H a (.lst xs)) (r : RpAll K M H xs ds) : Wk K M (Itl K a) H ds := by
  have nm : ∀ M' : Addr → Prop, (∀ a, M' a → M a ∨ H a = none) → ¬ M' a := fun M' hm z => (hm a z).elim m (Rd.there h)
  have at_ : ∀ (M' : Addr → Prop) (H' : Hp), (∀ a, M' a → M a ∨ H a = none) → ExM M' H H' → Rd H' a (.lst xs) := fun M' H' hm e => Rd.exM (M := M') h (nm M' hm) e
  refine ⟨fun M' i H' hm e hi => ?_, fun M' H' hm e => ?_, fun M' i H' x H'' hm e al y => ?_⟩
  · have hx : i < xs.length := by rw [r.length]; exact hi
    exact ⟨xs, xs[i], .inl (at_ M' H' hm e), List.getElem?_eq_getElem hx⟩
  · exact ⟨xs, .inl (at_ M' H' hm e), by rw [r.length]; exact Nat.le_refl _⟩
  · obtain ⟨rfl, y⟩ := y
    refine ⟨Evl.Ex.refl _, fun d hd => ?_⟩
    obtain ⟨v, hv, rv⟩ := r.get hd
    have q := y xs (.inl (at_ M' _ hm e))
    rw [hv] at q
    cases q
    exact (rv.wide hm).mono (fun _ z => z) e
theorem wk_tup {a : Addr} {xs : List V} (m : ¬ M a) (h : Rd H a (.tup xs)) (r : RpAll K M H xs ds) : Wk K M (Itt K a) H ds := by
  have nm : ∀ M' : Addr → Prop, (∀ a, M' a → M a ∨ H a = none) → ¬ M' a := fun M' hm z => (hm a z).elim m (Rd.there h)
  have at_ : ∀ (M' : Addr → Prop) (H' : Hp), (∀ a, M' a → M a ∨ H a = none) → ExM M' H H' → Rd H' a (.tup xs) := fun M' H' hm e => Rd.exT (M := M') h (nm M' hm) e
  refine ⟨fun M' i H' hm e hi => ?_, fun M' H' hm e => ?_, fun M' i H' x H'' hm e al y => ?_⟩
  · have hx : i < xs.length := by rw [r.length]; exact hi
    exact ⟨xs, xs[i], .inl (at_ M' H' hm e), List.getElem?_eq_getElem hx⟩
  · exact ⟨xs, .inl (at_ M' H' hm e), by rw [r.length]; exact Nat.le_refl _⟩
  · obtain ⟨rfl, y⟩ := y
    refine ⟨Evl.Ex.refl _, fun d hd => ?_⟩
    obtain ⟨v, hv, rv⟩ := r.get hd
    have q := y xs (.inl (at_ M' _ hm e))
    rw [hv] at q
    cases q
    exact (rv.wide hm).mono (fun _ z => z) e
theorem wk_range (lo : Int) (n : Nat) : Wk K M (Itr lo n) H ((List.range n).map fun i => PyData.int (lo + (i : Nat))) := by
  refine ⟨fun M' i H' hm e hi => ?_, fun M' H' hm e => ?_, fun M' i H' x H'' hm e al y => ?_⟩
  · rw [List.length_map, List.length_range] at hi
    exact hi
  · rw [List.length_map, List.length_range]
    exact Nat.le_refl _
  · obtain ⟨rfl, rfl⟩ := y
    refine ⟨Evl.Ex.refl _, fun d hd => ?_⟩
    rw [List.getElem?_map] at hd
    obtain ⟨j, hj, rfl⟩ := Option.map_eq_some_iff.mp hd
    obtain ⟨h1, h2⟩ := List.getElem?_eq_some_iff.mp hj
    rw [List.getElem_range] at h2
    subst h2
    exact .int _
def enumD (ds : List PyData) : List PyData := ds.zipIdx.map fun p => .tuple [.int (p.2 : Nat), p.1]
theorem enumD_get {i : Nat} {d : PyData} (h : (enumD ds)[i]? = some d) : ∃ e, ds[i]? = some e ∧ d = .tuple [.int (i : Nat), e] := by
  unfold enumD at h
  rw [List.getElem?_map] at h
  obtain ⟨p, hp, rfl⟩ := Option.map_eq_some_iff.mp h
  rw [List.getElem?_zipIdx] at hp
  obtain ⟨e, he, rfl⟩ := Option.map_eq_some_iff.mp hp
  exact ⟨e, he, by simp⟩
theorem enumD_length : (enumD ds).length = ds.length := by
  unfold enumD
  rw [List.length_map, List.length_zipIdx]
theorem wk_enum {a : Addr} {xs : List V} (m : ¬ M a) (h : Rd H a (.lst xs)) (r : RpAll K M H xs ds) : Wk K M (Ite K a) H (enumD ds) := by
  have nm : ∀ M' : Addr → Prop, (∀ a, M' a → M a ∨ H a = none) → ¬ M' a := fun M' hm z => (hm a z).elim m (Rd.there h)
  have at_ : ∀ (M' : Addr → Prop) (H' : Hp), (∀ a, M' a → M a ∨ H a = none) → ExM M' H H' → Rd H' a (.lst xs) := fun M' H' hm e => Rd.exM (M := M') h (nm M' hm) e
  refine ⟨fun M' i H' hm e hi => ?_, fun M' H' hm e => ?_, fun M' i H' x H'' hm e al y => ?_⟩
  · have hx : i < xs.length := by rw [r.length, ← enumD_length]; exact hi
    exact ⟨xs, xs[i], .inl (at_ M' H' hm e), List.getElem?_eq_getElem hx⟩
  · exact ⟨xs, .inl (at_ M' H' hm e), by rw [r.length, enumD_length]; exact Nat.le_refl _⟩
  · obtain ⟨T, z, rfl, hT, rfl, y⟩ := y
    refine ⟨Evl.Ex.new hT, fun d hd => ?_⟩
    obtain ⟨e', he, rfl⟩ := enumD_get hd
    obtain ⟨v, hv, rv⟩ := r.get he
    have q := y xs (.inl (at_ M' _ hm e))
    rw [hv] at q
    cases q
    exact .tup (al.fresh hT) (.inl upd_same) (.cons (.int _) (.cons (((rv.wide hm).mono (fun _ z => z) e).mono (fun _ z => z) (.of (Evl.Ex.new hT))) .nil))
theorem src_list (h : PD X M iter σ H (.list ds)) : Src X M tg iter σ H ds := ⟨_, pi_list wE.pe, fun H1 e1 al R q => h.run H1 e1 al _ fun v H2 x2 r => by
  cases r with
  | lst m hr rs => exact ⟨_, rfl, ⟨_, .inl hr⟩, q _ H2 x2 (wk_list m hr rs)⟩⟩
theorem src_tup (h : PD X M iter σ H (.tuple ds)) : Src X M tg iter σ H ds := ⟨_, pi_tup wE.pe, fun H1 e1 al R q => h.run H1 e1 al _ fun v H2 x2 r => by
  cases r with
  | tup m hr rs => exact ⟨_, rfl, ⟨_, .inl hr⟩, q _ H2 x2 (wk_tup m hr rs)⟩⟩
theorem src_enum {p tpos : Pos} {elts : List Expr} {kk : Nat} (hg : Gl X "enumerate") (hm : X.mg "enumerate" = none) (h : PD X M e σ H (.list ds)) (hs : starEach [e] X.env = [(false, eval e X.env)] := by rfl)
    (hs' : starEach (e :: []) X.env = (false, eval e X.env) :: starEach [] X.env := by rfl) : Src X M (.Tuple elts kk tpos) (.Call (.Name "enumerate" p) [e] [] pos) σ H (enumD ds) :=
  ⟨_, pi_enum hg hm wA.pa hs, fun H1 e1 al R q => (ad_cons h ad_nil hs').run H1 e1 al _ fun vs H2 x2 rs => by
    obtain ⟨v, rfl, r⟩ := rpa1 rs
    cases r with
    | lst m hr rr => exact ⟨_, _, rfl, .inl hr, q _ H2 x2 (wk_enum m hr rr)⟩⟩
theorem src_range1 {p : Pos} {j : Int} (hg : Gl X "range") (hm : X.mg "range" = none) (h : PD X M e σ H (.int j)) (h1 : -(2 ^ 62) ≤ j) (h2 : j < 2 ^ 62) (hs : starEach [e] X.env = [(false, eval e X.env)] := by rfl)
    (hs' : starEach (e :: []) X.env = (false, eval e X.env) :: starEach [] X.env := by rfl) : Src X M tg (.Call (.Name "range" p) [e] [] pos) σ H ((List.range j.toNat).map fun i => PyData.int (0 + (i : Nat))) :=
  ⟨_, pi_range1 hg hm wA.pa hs, fun H1 e1 al R q => (ad_cons h ad_nil hs').run H1 e1 al _ fun vs H2 x2 rs => by
    obtain ⟨v, rfl, r⟩ := rpa1 rs
    cases r
    exact ⟨j, rfl, h1, h2, q _ H2 x2 (wk_range 0 j.toNat)⟩⟩
theorem src_range2 {p : Pos} {a b : Expr} {i j : Int} (hg : Gl X "range") (hm : X.mg "range" = none) (ha : PD X M a σ H (.int i)) (hb : PD X M b σ H (.int j)) (h1 : -(2 ^ 62) ≤ i ∧ i < 2 ^ 62) (h2 : -(2 ^ 62) ≤ j ∧ j < 2 ^ 62)
    (hs : starEach [a, b] X.env = [(false, eval a X.env), (false, eval b X.env)] := by rfl) (hs2 : starEach [b] X.env = [(false, eval b X.env)] := by rfl)
    (hsa : starEach (a :: [b]) X.env = (false, eval a X.env) :: starEach [b] X.env := by rfl) (hsb : starEach (b :: []) X.env = (false, eval b X.env) :: starEach [] X.env := by rfl) :
    Src X M tg (.Call (.Name "range" p) [a, b] [] pos) σ H ((List.range (j - i).toNat).map fun k => PyData.int (i + (k : Nat))) :=
  ⟨_, pi_range2 hg hm wA.pa hs hs2, fun H1 e1 al R q => (ad_cons ha (ad_cons hb ad_nil hsb) hsa).run H1 e1 al _ fun vs H2 x2 rs => by
    obtain ⟨v, w, rfl, r1, r2⟩ := rpa2 rs
    cases r1
    cases r2
    exact ⟨i, j, rfl, ⟨h1.1, h1.2, h2.1, h2.2⟩, q _ H2 x2 (wk_range i (j - i).toNat)⟩⟩

/-! ### targets: a name, two names -/
inductive Tg where
  | one (i : Nat)
  | two (i j : Nat)
def Tg.g (K : PySem.W.Frag) : Tg → TG
  | .one i => gName i
  | .two i j => gTup K 2 (gCons (gName i) (gCons (gName j) gNil))
def Tg.Ok (K : PySem.W.Frag) (M : Addr → Prop) (H : Hp) (d : PyData) (σ : St) : Tg → St → Prop
  | .one i, σ' => ∃ v, Rp K M H v d ∧ σ' = σ.set i (some v)
  | .two i j, σ' => ∃ da db v w, d = .tuple [da, db] ∧ Rp K M H v da ∧ Rp K M H w db ∧ σ' = (σ.set i (some v)).set j (some w)
def Tg.Fits : Tg → PyData → Prop
  | .one _, _ => True
  | .two _ _, d => ∃ da db, d = .tuple [da, db]
theorem Tg.run {t : Tg} {v : V} {Q : St → Hp → Prop} (f : t.Fits d) (r : Rp K M H v d) (q : ∀ σ', t.Ok K M H d σ σ' → Q σ' H) : t.g K v σ H Q := by
  cases t with
  | one i => exact q _ ⟨v, r, rfl⟩
  | two i j =>
    obtain ⟨da, db, rfl⟩ := f
    cases r with
    | tup m h rs =>
      obtain ⟨v1, w1, rfl, r1, r2⟩ := rpa2 rs
      exact ⟨_, _, rfl, .inl h, rfl, v1, [w1], rfl, w1, [], rfl, rfl, q _ ⟨da, db, v1, w1, rfl, r1, r2, rfl⟩⟩

/-! ### for -/
theorem s_for {t : Tg} {body : List Stmt} {D : Ends} (hp : PassesOwn (model X.prog X.w) X.A X.env X.xe) (hc : X.calm = true) (hi : Src X M tg iter σ H ds) (hg : PG X tg (t.g X.K)) (al : Alive M H) (J : Hp → Nat → St → Hp → Prop)
    (h0 : ∀ H1, Evl.Ex H H1 → J H1 0 σ H1) (hk : ∀ H1 i σ' H', Evl.Ex H H1 → J H1 i σ' H' → ExM M H1 H' ∧ Alive M H') (hf : ∀ d ∈ ds, t.Fits d)
    (ht : ∀ H1 i d σ' H' H2 σ2, Evl.Ex H H1 → ds[i]? = some d → J H1 i σ' H' → Evl.Ex H' H2 → t.Ok X.K M H2 d σ' σ2 → wB X body { D with nx := J H1 (i + 1), ct := J H1 (i + 1), bk := D.nx } σ2 H2)
    (hd : ∀ H1 σ' H', Evl.Ex H H1 → J H1 ds.length σ' H' → D.nx σ' H') (hs : ∀ x, foldedSetIterable iter X.env x = pure x := by intro _; rfl) : wS X (.For tg iter body [] pos) D σ H := by
  obtain ⟨wi, pi, run⟩ := hi.ex
  refine ⟨_, ps_for hp hc pi hg wB.ps hs, run H (ExM.refl H) al _ fun It H1 x1 wk => ?_⟩
  refine ⟨fun i m σ' H' => m = ds.length - i ∧ i ≤ ds.length ∧ J H1 i σ' H', ⟨ds.length, rfl, Nat.zero_le _, h0 H1 x1⟩, ?_⟩
  rintro i m σ' H' ⟨rfl, hi', j⟩
  obtain ⟨e, al'⟩ := hk H1 i σ' H' x1 j
  by_cases hlt : i < ds.length
  · refine .inr ⟨wk.go M i H' (fun _ z => .inl z) e hlt, J H1 (i + 1), fun σ2 H2 j2 => ⟨ds.length - (i + 1), by omega, rfl, hlt, j2⟩, fun x H2 y => ?_⟩
    obtain ⟨x2, r⟩ := wk.yld M i H' x H2 (fun _ z => .inl z) e al' y
    have hd' : ds[i]? = some ds[i] := List.getElem?_eq_getElem hlt
    exact Tg.run (hf _ (List.getElem_mem hlt)) (r _ hd') fun σ2 ok => ht H1 i _ σ' H' H2 σ2 x1 hd' j x2 ok
  · have e2 : i = ds.length := by omega
    subst e2
    exact .inl ⟨wk.stop M H' (fun _ z => .inl z) e, hd H1 σ' H' x1 j⟩

/-! ### [elt for target in iter if ..] -/
def wTs (X : Cx) (ifs : List Expr) : TT := fun σ H Q => ∃ t, PTs X ifs t ∧ t σ H Q
theorem wTs.pts {ifs : List Expr} : PTs X ifs (wTs X ifs) := ⟨fun pins s σ H Q I ⟨_, h, q⟩ => h.run pins s σ H Q I q⟩
/-- the tests' answer -/
structure TsD (X : Cx) (M : Addr → Prop) (ifs : List Expr) (σ : St) (H : Hp) (k : Bool) : Prop where
  run : ∀ H1, ExM M H H1 → Alive M H1 → ∀ Q : Bool → Hp → Prop, (∀ H2, Evl.Ex H1 H2 → Q k H2) → wTs X ifs σ H1 Q
theorem tsd_nil : TsD X M [] σ H true := ⟨fun H1 _ _ Q q => ⟨_, pts_nil, q H1 (Evl.Ex.refl H1)⟩⟩
theorem tsd_one {k : Bool} (h : TD X M c σ H k) : TsD X M [c] σ H k := ⟨fun H1 e1 al Q q => ⟨_, pts_one wT.pt, h.run H1 e1 al Q q⟩⟩
abbrev Cx.lc (X : Cx) (s : Shared) (H : Hp) (scope : Scope) (C : Addr) (cl : List (Str × Addr)) (fp : List Addr) : Cx := X.blk s H scope (compEnvC scope cl C X.env) fp
theorem lc_core {t : Tg} {elt : Expr} {ifs : List Expr} {scope : Scope} {own : List (Str × Nat)} (hc : X.calm = true) (hN : X.N.Nodup) (hi : Src X M tg iter σ H ds) (ok : BlkOk X.N X.env.scope scope own)
    (hg : ∀ s H C cl fp, PG (Cx.lc X s H scope C cl fp) tg (t.g X.K)) (hf : ∀ d ∈ ds, t.Fits d) (hw : ∀ M H d σ', t.Ok X.K M H d (wipe σ (own.map (·.2))) σ' → wipe σ' (own.map (·.2)) = wipe σ (own.map (·.2)))
    (p : PyData → Bool) (f : PyData → PyData) (hl : ds.length ≤ 100000)
    (body : ∀ s0 H0 C cl fp M' H' d σ', (∀ a, M a → M' a) → (∀ v e, Rp X.K M H v e → Rp X.K M' H' v e) → d ∈ ds → t.Ok X.K M' H' d (wipe σ (own.map (·.2))) σ' →
      TsD (Cx.lc X s0 H0 scope C cl fp) M' ifs σ' H' (p d) ∧ (p d = true → PD (Cx.lc X s0 H0 scope C cl fp) M' elt σ' H' (f d))) :
    ∃ wi, PI X tg iter wi ∧ ∀ H1, ExM M H H1 → Alive M H1 → ∀ Q : VK, (∀ l ws H2, H1 l = none → Evl.Ex H1 H2 → H2 l = some (.lst ws) → RpAll X.K M H2 ws ((ds.filter p).map f) → Q (.ref l) H2) →
      tLc wi (t.g X.K) (fun σ H Q => ∀ s0 H0 C cl fp, wTs (Cx.lc X s0 H0 scope C cl fp) ifs σ H Q) (fun σ H Q => ∀ s0 H0 C cl fp, wE (Cx.lc X s0 H0 scope C cl fp) elt σ H Q) (own.map (·.2)) σ H1 Q := by
  obtain ⟨wi, pi, run⟩ := hi.ex
  refine ⟨wi, pi, fun H1 e1 al Q q => ?_⟩
  refine run H1 e1 al _ fun It Hs xs wk D hD => ?_
  have alS := al.mono xs
  -- D is mutable meanwhile
  let M' : Addr → Prop := fun a => M a ∨ a = D
  have hm : ∀ a, M' a → M a ∨ Hs a = none := fun a z => z.elim .inl fun e => .inr (by rw [e]; exact hD)
  have al2 : ∀ H', Evl.Ex Hs H' → (∃ acc, H' D = some (.lst acc)) → Alive M' H' := fun H' e ⟨acc, h⟩ a z => by
    rcases z with z | z
    · exact (alS.mono e) a z
    · subst z
      exact ⟨_, h⟩
  refine ⟨fun i m H' => m = ds.length - i ∧ i ≤ ds.length ∧ Evl.Ex Hs H' ∧ ∃ acc, H' D = some (.lst acc) ∧ acc.length ≤ i ∧ RpAll X.K M' H' acc (((ds.take i).filter p).map f), ⟨ds.length, rfl, Nat.zero_le _, Evl.Ex.new hD, [], upd_same, Nat.le_refl _, by simpa using RpAll.nil⟩, ?_⟩
  rintro i m H' ⟨rfl, hi', x, acc, hacc, hlen, racc⟩
  have eM : ExM M' Hs H' := .of x
  have al' := al2 H' x ⟨acc, hacc⟩
  by_cases hlt : i < ds.length
  · refine .inr ⟨wk.go M' i H' hm eM hlt, fun H2 => Evl.Ex Hs H2 ∧ ∃ acc, H2 D = some (.lst acc) ∧ acc.length ≤ i + 1 ∧ RpAll X.K M' H2 acc (((ds.take (i + 1)).filter p).map f), fun H2 ⟨a1, a2⟩ => ⟨ds.length - (i + 1), by omega, rfl, hlt, a1, a2⟩, fun v H2 y => ?_⟩
    obtain ⟨x2, r⟩ := wk.yld M' i H' v H2 hm eM al' y
    have hd' : ds[i]? = some ds[i] := List.getElem?_eq_getElem hlt
    have hmem := List.getElem_mem hlt
    have hacc2 : H2 D = some (.lst acc) := x2 _ _ hacc
    have lift : ∀ v e, Rp X.K M H v e → Rp X.K M' H2 v e := fun v e rv => ((rv.mono (fun _ z => z) (e1.trans (.of xs))).wide hm).mono (fun _ z => z) (.of (x.trans x2))
    have al3 := al2 H2 (x.trans x2) ⟨acc, hacc2⟩
    refine Tg.run (hf _ hmem) (r _ hd') fun σ2 okk => ⟨hw _ _ _ _ okk, ?_⟩
    have all := fun s0 H0 C cl fp => body s0 H0 C cl fp M' H2 ds[i] σ2 (fun _ z => .inl z) lift hmem okk
    -- the test
    have tk : (ds.take (i + 1)).filter p = (ds.take i).filter p ++ (if p ds[i] = true then [ds[i]] else []) := by
      rw [List.take_add_one, hd', List.filter_append]
      simp only [Option.toList_some, List.filter_cons, List.filter_nil]
    have fin : ∀ b, b = p ds[i] → ∀ H3, Evl.Ex H2 H3 → (if b = true then (∀ s0 H0 C cl fp, wE (Cx.lc X s0 H0 scope C cl fp) elt σ2 H3 fun y H4 => ∃ acc, H4 D = some (.lst acc) ∧ acc.length < sizeLine ∧
        (Evl.Ex Hs (upd H4 D (.lst (acc ++ [y]))) ∧ ∃ acc', (upd H4 D (.lst (acc ++ [y]))) D = some (.lst acc') ∧ acc'.length ≤ i + 1 ∧ RpAll X.K M' (upd H4 D (.lst (acc ++ [y]))) acc' (((ds.take (i + 1)).filter p).map f)))
        else (Evl.Ex Hs H3 ∧ ∃ acc, H3 D = some (.lst acc) ∧ acc.length ≤ i + 1 ∧ RpAll X.K M' H3 acc (((ds.take (i + 1)).filter p).map f))) := by
      intro b hb H3 x3
      have hacc3 := x3 _ _ hacc2
      cases b with
      | true =>
        rw [if_pos rfl]
        intro s0 H0 C cl fp
        refine ((all s0 H0 C cl fp).2 hb.symm).run H3 (.of x3) (al3.mono x3) _ fun y H4 x4 ry => ?_
        have x5 : Evl.Ex Hs H4 := ((x.trans x2).trans x3).trans x4
        refine ⟨acc, x4 _ _ hacc3, ?_, Evl.Ex.mut x5 hD, _, upd_same, ?_, ?_⟩
        · exact Nat.lt_of_lt_of_le (Nat.lt_of_le_of_lt hlen hlt) (Evl.sz_of hl)
        · rw [List.length_append, List.length_singleton]
          omega
        · rw [tk, if_pos hb.symm, List.map_append]
          have eD : ExM M' H4 (upd H4 D (.lst (acc ++ [y]))) := fun a o h nm _ => by
            rw [upd_ne (fun e => nm (.inr e))]
            exact h
          exact (racc.mono (fun _ z => z) (.of ((x2.trans x3).trans x4))).append (.cons ry .nil) |>.mono (fun _ z => z) eD
      | false =>
        rw [if_neg Bool.false_ne_true]
        refine ⟨(x.trans x2).trans x3, acc, hacc3, by omega, ?_⟩
        rw [tk, if_neg (by rw [← hb]; exact Bool.false_ne_true), List.append_nil]
        exact racc.mono (fun _ z => z) (.of (x2.trans x3))
    intro s0 H0 C cl fp
    exact (all s0 H0 C cl fp).1.run H2 (ExM.refl H2) al3 _ fun H3 x3 => fin _ rfl H3 x3
  · have e2 : i = ds.length := by omega
    subst e2
    refine .inl ⟨wk.stop M' H' hm eM, q D acc H' (Evl.fresh_back xs hD) (xs.trans x) hacc ?_⟩
    rw [List.take_length] at racc
    exact racc.mono (fun _ z => .inl z) (ExM.refl _)
theorem fd_lc {t : Tg} {elt : Expr} {ifs : List Expr} {scope : Scope} {own : List (Str × Nat)} (hc : X.calm = true) (hN : X.N.Nodup) (hi : Src X M tg iter σ H ds) (ok : BlkOk X.N X.env.scope scope own)
    (hg : ∀ s H C cl fp, PG (Cx.lc X s H scope C cl fp) tg (t.g X.K)) (hf : ∀ d ∈ ds, t.Fits d) (hw : ∀ M H d σ', t.Ok X.K M H d (wipe σ (own.map (·.2))) σ' → wipe σ' (own.map (·.2)) = wipe σ (own.map (·.2)))
    (p : PyData → Bool) (f : PyData → PyData) (hl : ds.length ≤ 100000)
    (body : ∀ s0 H0 C cl fp M' H' d σ', (∀ a, M a → M' a) → (∀ v e, Rp X.K M H v e → Rp X.K M' H' v e) → d ∈ ds → t.Ok X.K M' H' d (wipe σ (own.map (·.2))) σ' →
      TsD (Cx.lc X s0 H0 scope C cl fp) M' ifs σ' H' (p d) ∧ (p d = true → PD (Cx.lc X s0 H0 scope C cl fp) M' elt σ' H' (f d)))
    (hs : ∀ x, foldedSetIterable iter X.env x = pure x := by intro _; rfl) : FD X M (.ListComp elt [⟨tg, iter, ifs, 0⟩] scope pos) σ H ((ds.filter p).map f) := by
  obtain ⟨wi, pi, run⟩ := lc_core hc hN hi ok hg hf hw p f hl body
  exact .mk fun H1 e1 al Q q => ⟨_, pe_lc hc hN pi ok hg (fun s0 H0 C cl fp => ⟨fun pins s σ H Q I h => wTs.pts.run pins s σ H Q I (h s0 H0 C cl fp)⟩) (fun s0 H0 C cl fp => ⟨fun pins s σ H Q I h => wE.pe.run pins s σ H Q I (h s0 H0 C cl fp)⟩) hs, run H1 e1 al Q q⟩
/-- y = [elt for target in iter if ..], where y stands in the block alone -/
theorem s_setLc {t : Tg} {elt : Expr} {ifs : List Expr} {scope : Scope} {own : List (Str × Nat)} (hc : X.calm = true) (hN : X.N.Nodup) (hi : Src X M tg iter σ H ds) (ok : BlkOk X.N X.env.scope scope own)
    (hg : ∀ s H C cl fp, PG (Cx.lc X s H scope C cl fp) tg (t.g X.K)) (hf : ∀ d ∈ ds, t.Fits d) (hw : ∀ M H d σ', t.Ok X.K M H d (wipe σ (own.map (·.2))) σ' → wipe σ' (own.map (·.2)) = wipe σ (own.map (·.2)))
    (p : PyData → Bool) (f : PyData → PyData) (hl : ds.length ≤ 100000)
    (body : ∀ s0 H0 C cl fp M' H' d σ', (∀ a, M a → M' a) → (∀ v e, Rp X.K M H v e → Rp X.K M' H' v e) → d ∈ ds → t.Ok X.K M' H' d (wipe σ (own.map (·.2))) σ' →
      TsD (Cx.lc X s0 H0 scope C cl fp) M' ifs σ' H' (p d) ∧ (p d = true → PD (Cx.lc X s0 H0 scope C cl fp) M' elt σ' H' (f d)))
    {i : Nat} {y : Str} {py spos : Pos} {D : Ends} (al : Alive M H) (hy : X.N[i]? = some y) (hyl : X.env.scope.names.lookup y = some .local) (hsw : swapsWith (.ListComp elt [⟨tg, iter, ifs, 0⟩] scope pos) (some (.Name y py)) spos.line X.env = pure true) (q : ∀ l ws H2, H l = none → Evl.Ex H H2 → H2 l = some (.lst ws) → RpAll X.K M H2 ws ((ds.filter p).map f) → D.nx (σ.set i (some (.ref l))) H2)
    (hs : ∀ x, foldedSetIterable iter X.env x = pure x := by intro _; rfl) : wS X (.Assign [.Name y py] (.ListComp elt [⟨tg, iter, ifs, 0⟩] scope pos) spos) D σ H := by
  obtain ⟨wi, pi, run⟩ := lc_core hc hN hi ok hg hf hw p f hl body
  exact ⟨_, ps_setLc hc hN hy hyl hsw pi ok hg (fun s0 H0 C cl fp => ⟨fun pins s σ H Q I h => wTs.pts.run pins s σ H Q I (h s0 H0 C cl fp)⟩) (fun s0 H0 C cl fp => ⟨fun pins s σ H Q I h => wE.pe.run pins s σ H Q I (h s0 H0 C cl fp)⟩) hs, run H (ExM.refl H) al _ q⟩
end
end GV

namespace GV
open PySem PySem.Spec PyProof.Rows L2
/-- the names of the built-ins that the text asks for are the built-ins' own -/
structure NoB (mg : Str → Option Value) : Prop where
  isinstance : mg "isinstance" = none
  int : mg "int" = none
  bool : mg "bool" = none
  str : mg "str" = none
  list : mg "list" = none
  tuple : mg "tuple" = none
  set : mg "set" = none
  len : mg "len" = none
  range : mg "range" = none
  enumerate : mg "enumerate" = none
  abs : mg "abs" = none
  min : mg "min" = none
  max : mg "max" = none
  sum : mg "sum" = none
  any : mg "any" = none
  all : mg "all" = none
  sorted : mg "sorted" = none
section
variable {X : Cx} {M : Addr → Prop} {σ : St} {H H' : Hp} {a b c e : Expr} {da db d : PyData} {pos : Pos} {es : List Expr} {ds : List PyData}

/-! ### isinstance of data, by one built-in class -/
def tyD : PyData → String
  | .none => "NoneType"
  | .bool _ => "bool"
  | .int _ => "int"
  | .str _ => "str"
  | .list _ => "list"
  | .tuple _ => "tuple"
  | .dict _ => "dict"
theorem Rp.tyX {K : PySem.W.Frag} {v : V} (r : Rp K M H v d) : TyX K H v (.type (tyD d)) := by
  cases r with
  | non => exact .base .non
  | bl b => exact .base (.bl b)
  | int i => exact .base (.int i)
  | str x => exact .base (.str x)
  | lst m h rs =>
    rcases h with h | ⟨o, h⟩
    · exact .base (.lst h)
    · exact .base (.frz h)
  | tup m h rs =>
    rcases h with h | ⟨o, h⟩
    · exact .base (.tup h)
    · exact .fTuple h
theorem pd_isi {T : String} {x : Str} {p p2 : Pos} {k : Bool} (hg : Gl X "isinstance") (hm : X.mg "isinstance" = none) (hgT : Gl X x) (hmT : X.mg x = none) (hv : bootBuiltins x = some (.type T)) (ha : PD X M a σ H d) (hk : kitB (tyD d) T = some k)
    (hn : x ≠ "__name__" := by decide) (hd : (x == ("__debug__" : Str)) = false := by decide)
    (h1 : starEach (a :: [.Name x p2]) X.env = (false, eval a X.env) :: starEach [.Name x p2] X.env := by rfl) (h2 : starEach (.Name x p2 :: []) X.env = (false, eval (.Name x p2) X.env) :: starEach [] X.env := by rfl)
    (hpl : (backTo pos (starEach [.Name x p2] X.env)).any (·.1) = false := by rfl) :
    PD X M (.Call (.Name "isinstance" p) [a, .Name x p2] [] pos) σ H (.bool k) := .mk fun H1 e1 al Q q =>
  ⟨_, pe_callB call_isi hg hm PyProof.Rows.boot_isinstance (pa_cons wE.pe (pa_cons (pe_bltn (v := .ty T) hgT hmT hv rfl hn hd) pa_nil h2) h1) (by decide) (by decide) h1 hpl, ha.run H1 e1 al _ fun v H2 x2 r =>
    ⟨v, .ty T, .type (tyD d), .type T, k, rfl, .ty T, r.tyX, kit_ty hk, q _ H2 x2 (.bl k)⟩⟩

/-! ### a chain of two comparisons of ints -/
theorem pd_leLe {i j k : Int} (ha : PD X M a σ H (.int i)) (hb : PD X M b σ H (.int j)) (hc : PD X M c σ H (.int k)) (h1 : lastMarks [.LtE, .LtE] [b, c] = false := by with_unfolding_all rfl) : PD X M (.Compare a [.LtE, .LtE] [b, c] pos) σ H (.bool (decide (i ≤ j) && decide (j ≤ k))) := .mk fun H1 e1 al Q q =>
  ⟨_, pe_chain op_le op_le wE.pe wE.pe wE.pe h1, ha.run H1 e1 al _ fun x H2 x2 rx => hb.run H2 (e1.trans (.of x2)) (al.mono x2) _ fun y H3 x3 ry => by
    cases rx
    cases ry
    refine ⟨i, j, rfl, rfl, _, rfl, ?_⟩
    by_cases h : i ≤ j
    · rw [if_pos (decide_eq_true h)]
      refine hc.run H3 ((e1.trans (.of x2)).trans (.of x3)) ((al.mono x2).mono x3) _ fun z H4 x4 rz => ?_
      cases rz
      refine ⟨j, k, rfl, rfl, q _ H4 ((x2.trans x3).trans x4) ?_⟩
      rw [decide_eq_true h]
      exact .bl _
    · rw [if_neg (by rw [decide_eq_false h]; exact Bool.false_ne_true)]
      refine q _ H3 (x2.trans x3) ?_
      rw [decide_eq_false h]
      exact .bl _⟩

/-! ### any, all, sum, min, max, in -/
theorem RpAll.of_bools {K : PySem.W.Frag} : ∀ {vs : List V} {bs : List Bool}, RpAll K M H vs (bs.map PyData.bool) → vs = bs.map V.bl
  | [], [], .nil => rfl
  | _ :: _, n :: r, .cons h hs => by
    cases h
    rw [RpAll.of_bools hs]
    rfl
theorem rn_any {bs : List Bool} : RDn X M (rAny X.K) [.list (bs.map PyData.bool)] (.bool (bs.any id)) := fun vs H1 r _ Q q => by
  obtain ⟨v, rfl, r1⟩ := rpa1 r
  cases r1 with
  | lst m hs rs => exact ⟨_, bs, rfl, .inl (by rw [← rs.of_bools]; exact hs), q _ H1 (Evl.Ex.refl H1) (.bl _)⟩
theorem rn_all {bs : List Bool} : RDn X M (rAll X.K) [.list (bs.map PyData.bool)] (.bool (bs.all id)) := fun vs H1 r _ Q q => by
  obtain ⟨v, rfl, r1⟩ := rpa1 r
  cases r1 with
  | lst m hs rs => exact ⟨_, bs, rfl, .inl (by rw [← rs.of_bools]; exact hs), q _ H1 (Evl.Ex.refl H1) (.bl _)⟩
theorem rn_sum {ns : List Int} : RDn X M (rSum X.K) [.list (ns.map PyData.int)] (.int ns.sum) := fun vs H1 r _ Q q => by
  obtain ⟨v, rfl, r1⟩ := rpa1 r
  cases r1 with
  | lst m hs rs => exact ⟨_, ns, rfl, .inl (by rw [← rs.of_ints]; exact hs), q _ H1 (Evl.Ex.refl H1) (.int _)⟩
theorem rn_max {ns : List Int} {m : Int} (hm : m ∈ ns) (hx : ∀ y ∈ ns, y ≤ m) : RDn X M (rMax X.K) [.list (ns.map PyData.int)] (.int m) := fun vs H1 r _ Q q => by
  obtain ⟨v, rfl, r1⟩ := rpa1 r
  cases r1 with
  | lst m' hs rs =>
    refine ⟨_, ns, rfl, .inl (by rw [← rs.of_ints]; exact hs), List.length_pos_of_mem hm, fun k hk hkx => q _ H1 (Evl.Ex.refl H1) ?_⟩
    rw [Int.le_antisymm (hx k hk) (hkx m hm)]
    exact .int _
theorem rn_min {ns : List Int} {m : Int} (hm : m ∈ ns) (hx : ∀ y ∈ ns, m ≤ y) : RDn X M (rMin X.K) [.list (ns.map PyData.int)] (.int m) := fun vs H1 r _ Q q => by
  obtain ⟨v, rfl, r1⟩ := rpa1 r
  cases r1 with
  | lst m' hs rs =>
    refine ⟨_, ns, rfl, .inl (by rw [← rs.of_ints]; exact hs), List.length_pos_of_mem hm, fun k hk hkx => q _ H1 (Evl.Ex.refl H1) ?_⟩
    rw [Int.le_antisymm (hkx m hm) (hx k hk)]
    exact .int _

/-! ### min(e, default=f) of a list of ints -/
def minOr (d : PyData) : List Int → PyData
  | [] => d
  | n :: r => .int (r.foldl min n)
theorem ints_alike (ns : List Int) : PySem.W.AlikeAll (ns.map PyData.int) := by
  refine ⟨fun x hx y hy => ?_, fun x hx => ?_⟩
  · obtain ⟨i, _, rfl⟩ := List.mem_map.mp hx
    obtain ⟨j, _, rfl⟩ := List.mem_map.mp hy
    rfl
  · obtain ⟨i, _, rfl⟩ := List.mem_map.mp hx
    exact fun z => by cases z
theorem ints_depth (ns : List Int) : PyData.depthAll (ns.map PyData.int) = 0 := by
  induction ns with
  | nil => rfl
  | cons n r ih =>
    show max (PyData.depth (.int n)) (PyData.depthAll (r.map PyData.int)) = 0
    rw [ih]
    rfl
theorem dpAll_ints {K : PySem.W.Frag} (ns : List Int) : DpAll K H (ns.map V.int) (ns.map PyData.int) := (RpAll.ints (M := fun _ => False) ns).dp
def rMinDf (K : PySem.W.Frag) : List V → List V → Hp → VK → Prop := fun xs zs H Q => ∃ (a : Addr) (ns : List Int) (z : V), xs = [.ref a] ∧ zs = [z] ∧ SqL K H a (ns.map V.int) ∧ (ns = [] → Q z H) ∧ (∀ n r, ns = n :: r → Q (.int (r.foldl min n)) H)
theorem cr_minDf (hc : X.calm = true) (hu : X.A.units + 2 < cLine) : CallRK X (.builtin "min") ["default"] (rMinDf X.K) := by
  intro pins s σ H xs zs us ws Q I rx rz h
  obtain ⟨a, ns, z, rfl, rfl, hs, q0, q1⟩ := h
  obtain ⟨w, rfl, rw'⟩ := vals1 rz
  rw [Vals.ref1 rx]
  obtain ⟨its, rv, pl, _⟩ := I.list hs
  obtain ⟨as, hr⟩ := Dp.readsAll I _ _ its (dpAll_ints ns) rv
  refine PySem.W.min_list_default (I.ok.hd hc) pl.isList hr (ints_alike ns) (by rw [ints_depth]; omega) (fun e h' tk k => ?_) (fun y ys i v h' tk bs e hv hrd k => ?_)
  · refine ⟨z, H, I.kept k, rw', q0 ?_⟩
    cases ns with
    | nil => rfl
    | cons n r => cases e
  · cases ns with
    | nil => cases e
    | cons n r =>
      cases e
      rw [PySem.W.minD_ints] at hrd
      cases hrd with
      | int i t => exact ⟨.int _, H, I.kept k, ⟨t, rfl⟩, q1 n r rfl⟩
theorem pd_minDf {p kp : Pos} {ns : List Int} (hc : X.calm = true) (hu : X.A.units + 2 < cLine) (hg : Gl X "min") (hm : X.mg "min" = none) (ha : PD X M a σ H (.list (ns.map PyData.int))) (hb : PD X M b σ H d)
    (h1 : starEach (a :: []) X.env = (false, eval a X.env) :: starEach [] X.env := by rfl)
    (he : backTo pos (starEach (a :: []) X.env) = (false, eval a X.env) :: backTo pos (starEach [] X.env) := by rfl) (hpl : (backTo pos (starEach (a :: []) X.env)).any (·.1) = false := by rfl)
    (hall : (backToKw pos (keywordEach [⟨some "default", b, kp⟩] X.env)).all (·.1.isSome) = true := by rfl) (hnone : (backToKw pos (keywordEach [⟨some "default", b, kp⟩] X.env)).any (·.1.isNone) = false := by rfl)
    (hks : (backToKw pos (keywordEach [⟨some "default", b, kp⟩] X.env)).filterMap (·.1) = (["default"] : List Str) := by rfl) :
    PD X M (.Call (.Name "min" p) [a] [⟨some "default", b, kp⟩] pos) σ H (minOr d ns) := .mk fun H1 e1 al Q q =>
  ⟨_, pe_callBK (cr_minDf hc hu) hg hm PyProof.Rows.boot_min (pa_cons wE.pe pa_nil h1) (pk_cons wE.pe pk_nil) (by decide) (by decide) he hpl hall hnone hks, ha.run H1 e1 al _ fun v H2 x2 r => hb.run H2 (e1.trans (.of x2)) (al.mono x2) _ fun w H3 x3 rw' => by
    have r3 := r.mono (fun _ z => z) (.of x3)
    cases r3 with
    | lst m hs rs =>
      refine ⟨_, ns, w, rfl, rfl, .inl (by rw [← rs.of_ints]; exact hs), fun e => q _ H3 (x2.trans x3) ?_, fun n r e => q _ H3 (x2.trans x3) ?_⟩
      · rw [e]
        exact rw'
      · rw [e]
        exact .int _⟩
end
end GV

namespace GV
open PySem PySem.Spec PyProof.Rows L2
section
variable {X : Cx} {M : Addr → Prop} {σ : St} {H H' : Hp} {a b c e : Expr} {pos : Pos}
theorem up_ext : ∀ {l m : List Int}, l.Pairwise (· < ·) → m.Pairwise (· < ·) → (∀ k, k ∈ l ↔ k ∈ m) → l = m
  | [], [], _, _, _ => rfl
  | [], y :: m, _, _, h => absurd ((h y).mpr (List.mem_cons_self ..)) (by simp)
  | x :: l, [], _, _, h => absurd ((h x).mp (List.mem_cons_self ..)) (by simp)
  | x :: l, y :: m, p, q, h => by
    obtain ⟨p1, p2⟩ := List.pairwise_cons.mp p
    obtain ⟨q1, q2⟩ := List.pairwise_cons.mp q
    have hx := (h x).mp (List.mem_cons_self ..)
    have hy := (h y).mpr (List.mem_cons_self ..)
    have e : x = y := by
      rcases List.mem_cons.mp hx with e | hx
      · exact e
      · rcases List.mem_cons.mp hy with e | hy
        · exact e.symm
        · have := q1 x hx
          have := p1 y hy
          omega
    subst e
    rw [up_ext p2 q2 fun k => ?_]
    constructor
    · intro hk
      rcases List.mem_cons.mp ((h k).mp (List.mem_cons_of_mem _ hk)) with e | e
      · subst e
        exact absurd (p1 _ hk) (Int.lt_irrefl _)
      · exact e
    · intro hk
      rcases List.mem_cons.mp ((h k).mpr (List.mem_cons_of_mem _ hk)) with e | e
      · subst e
        exact absurd (q1 _ hk) (Int.lt_irrefl _)
      · exact e
/-- sorted(set(e)), e a list of ints, fewer than 64 -/
theorem fd_sortedSet {p p2 q2 : Pos} {ns out : List Int} (hc : X.calm = true) (hg : Gl X "sorted") (hm : X.mg "sorted" = none) (hg2 : Gl X "set") (hm2 : X.mg "set" = none) (ha : PD X M a σ H (.list (ns.map PyData.int)))
    (hl : ns.length < 64) (ho : out.Pairwise (· < ·)) (hmem : ∀ k, k ∈ out ↔ k ∈ ns)
    (na : starEach [a] X.env = (false, eval a X.env) :: starEach [] X.env := by rfl) : FD X M (.Call (.Name "sorted" p) [.Call (.Name "set" p2) [a] [] q2] [] pos) σ H (out.map PyData.int) := .mk fun H1 e1 al Q q => by
  refine ⟨fun σ H Q => wE X a σ H fun x H1 => ∃ l, x = V.ref l ∧ SqL X.K H1 l (ns.map V.int) ∧ ∀ p, H1 p = none → Q (.ref p) (upd H1 p (.lst (out.map V.int))), ⟨fun pins s σ H Q I h => ?_⟩, ?_⟩
  · refine Call_ (ld_blt I hg hm PyProof.Rows.boot_sorted ?_)
    refine PyProof.Rows.callWith_builtin1 (PyProof.Rows.args_cons ?_ rfl) rfl rfl
    refine Call_ (ld_blt I hg2 hm2 PyProof.Rows.boot_set (PyProof.Rows.callWith_type1 (PyProof.Rows.args_cons (thn (wE.pe.run pins s σ H _ I h) fun v s1 ⟨x, H1, I1, r1, l, e2, hq, q1⟩ => PyProof.Rows.args_nil ?_) na) na rfl))
    subst e2
    cases r1
    obtain ⟨its, r, pl, hz⟩ := I1.list hq
    refine set_ofL ns (I1.ok.hd hc) pl.isList (by simpa using r.ints) (by unfold scanBound; omega) fun g tk c R hcl k => PyProof.Rows.args_nil ?_
    have I2 : Inv X pins σ H1 { s1 with heap := g, toks := tk } := I1.kept k
    refine sorted_set R (I1.ok.hd hc) (by omega) fun s' p o c' ns' k2 g2 o2 hp hgp hi hs hm' hlen => ?_
    have en : ns' = out := up_ext hs ho fun z => by
      rw [hm' z, hmem z]
      exact decide_eq_true_iff
    subst en
    have hn : H1 p = none := I2.hok.fresh hp
    have ln : (ns'.map V.int).length ≤ sizeLine := by
      rw [List.length_map]
      refine Evl.sz_of (Nat.le_trans ?_ (show 64 ≤ 100000 by decide))
      omega
    have J : Inv X pins σ (upd H1 p (.lst (ns'.map V.int))) { ({ s1 with heap := g, toks := tk } : Shared) with heap := s'.heap, gens := s'.gens, drawn := s'.drawn, toks := s'.toks } := I2.call (ch := []) (Un.laid k2 hp hn) (I2.hok.laid k2 hp ⟨ln, o.toList, c', vals_of_ints hi, hgp⟩) (by rw [g2]; exact I2.bare) (fun _ z => nomatch z)
    obtain ⟨hp', g', d', t', os'⟩ := s'
    obtain rfl : os' = s1.os := o2
    exact ⟨.ref p, _, J, rfl, q1 p hn⟩
  · refine ha.run H1 e1 al _ fun v H2 x2 r => ?_
    cases r with
    | lst m hr rs => exact ⟨_, rfl, .inl (by rw [← rs.of_ints]; exact hr), fun p hp => q p _ _ (Evl.fresh_back x2 hp) (x2.trans (Evl.Ex.new hp)) upd_same (RpAll.ints out)⟩
end
end GV

namespace GV
open PySem PySem.Spec PyProof.Rows L2
/-! ### a def of the text that keeps a promise, by its name -/
structure Cl (P : Program) (w : World) (K : PySem.W.Frag) (mg : Str → Option Value) (base : Heap) (CX : CXT) (k : Nat) (x : Str) (sp : Sp) : Prop where
  ex : ∃ (f : Addr) (fd : FuncData) (ps : List Str), FnOk P w K mg base CX k f fd ps sp ∧ mg x = some (.ref f) ∧ PySem.W.keepIn K (.ref f) = true ∧ Binds K fd ps []
section
variable {P : Program} {w : World} {K : PySem.W.Frag} {mg : Str → Option Value} {base : Heap}
/-- where a def stands -/
structure At (K : PySem.W.Frag) (mg : Str → Option Value) (x : Str) (st : Stmt) (f : Addr) (fd : FuncData) : Prop where
  fn : Fun K x x st f fd
  gl : mg x = some (.ref f)
theorem pureR_len {R : List PyData → PyData → Prop} {n : Nat} (hR : ∀ ds d, R ds d → ds.length = n) : ∀ vs H Q E, PureR K R vs H Q E → vs.length = n := fun vs H Q E h => by
  obtain ⟨M, ds, d, al, r, hr, _⟩ := h
  rw [r.length]
  exact hR ds d hr
/-- a pure def -/
theorem cl_pure {x : Str} {st : Stmt} {f : Addr} {fd : FuncData} {N ps : List Str} {k : Nat} {R : List PyData → PyData → Prop} (F : At K mg x st f fd) (S : FnScope N ps (defScope st)) (hb : Binds K fd ps []) (hR : ∀ ds d, R ds d → ds.length = ps.length)
    (body : ∀ (X : Cx) (cdv : Value) (A : Around) (outer : List Env) (s : Shared) (H : Hp) (Q : VK) (E : XK) (M : Addr → Prop) (vs : List V) (ds : List PyData) (d : PyData), X = (cxOf CX0 P w K mg base N x (defScope st) f cdv A outer s H E).nox → Room k X.A → Alive M H → RpAll K M H vs ds → R ds d →
      (∀ v H', Evl.Ex H H' → Rp K M H' v d → Q v H') → wB X (defBody st) { nx := fun _ H' => Q .non H', rt := Q } (L2.start N vs) H) :
    Cl P w K mg base CX0 (k + 1) x (PureR K R) := by
  refine ⟨f, fd, ps, F.fn.ok S (pureR_len hR) (fun cdv A outer s H vs Q E hr h => ⟨_, wB.ps, ?_⟩), F.gl, F.fn.kp, hb⟩
  obtain ⟨M, ds, d, al, r, hr', q⟩ := h
  exact body _ cdv A outer s H Q E M vs ds d rfl hr al r hr' q
end
section
variable {X : Cx} {M : Addr → Prop} {σ : St} {H H' : Hp} {a b c e : Expr} {da db d : PyData} {pos : Pos} {es : List Expr} {ds : List PyData}
theorem pd_callC {R : List PyData → PyData → Prop} {j k : Nat} {x : Str} {p : Pos} (cl : Cl X.prog X.w X.K X.mg X.base CX0 k x (PureR X.K R)) (hr : Room j X.A) (hkj : k ≤ j) (hg : Gl X x) (h : AD X M (e :: es) σ H ds) (hR : R ds d)
    (hdb : (x == ("__debug__" : Str)) = false := by decide) (he : starEach (e :: es) X.env = (false, eval e X.env) :: starEach es X.env := by rfl) (hpl : (backTo pos (starEach es X.env)).any (·.1) = false := by rfl) : PD X M (.Call (.Name x p) (e :: es) [] pos) σ H d := by
  obtain ⟨f, fd, ps, F, hm, hk, hb⟩ := cl.ex
  exact pd_call F (hr.mono hkj) hg hm hk hb pass0 h hR hdb he hpl
/-- .. a def that makes a list -/
def FreshR (K : PySem.W.Frag) (R : List PyData → List PyData → Prop) : Sp := fun vs H Q _ => ∃ M ds es, Alive M H ∧ RpAll K M H vs ds ∧ R ds es ∧ ∀ p ws H', H p = none → Evl.Ex H H' → H' p = some (.lst ws) → RpAll K M H' ws es → Q (.ref p) H'
theorem fd_callC {R : List PyData → List PyData → Prop} {fs : List PyData} {j k : Nat} {x : Str} {p : Pos} (cl : Cl X.prog X.w X.K X.mg X.base CX0 k x (FreshR X.K R)) (hr : Room j X.A) (hkj : k ≤ j) (hg : Gl X x) (h : AD X M (e :: es) σ H ds) (hR : R ds fs)
    (hdb : (x == ("__debug__" : Str)) = false := by decide) (he : starEach (e :: es) X.env = (false, eval e X.env) :: starEach es X.env := by rfl) (hpl : (backTo pos (starEach es X.env)).any (·.1) = false := by rfl) : FD X M (.Call (.Name x p) (e :: es) [] pos) σ H fs := by
  obtain ⟨f, fd, ps, F, hm, hk, hb⟩ := cl.ex
  exact .mk fun H1 e1 al Q q => ⟨_, pe_call F (hr.mono hkj) hg hm hk hb .nil pass0 wA.pa hdb he hpl, h.run H1 e1 al _ fun vs H2 x2 r => by
    rw [List.append_nil]
    exact ⟨M, ds, fs, al.mono x2, r, hR, fun p ws H3 hp x3 h3 rv => q p ws H3 (Evl.fresh_back x2 hp) (x2.trans x3) h3 rv⟩⟩

/-! ### where things change: step by step -/
abbrev M0 : Addr → Prop := fun _ => False
theorem alive0 : Alive M0 H := fun _ z => z.elim
theorem Rp.m0 {K : PySem.W.Frag} {v : V} (r : Rp K M H v d) : Rp K M0 H v d := r.mono (fun _ z => z.elim) (ExM.refl H)
theorem RpAll.m0 {K : PySem.W.Frag} {vs : List V} (r : RpAll K M H vs ds) : RpAll K M0 H vs ds := r.mono (fun _ z => z.elim) (ExM.refl H)
theorem ce_pd {Q : VK} (al : Alive M H) (h : PD X M e σ H d) (q : ∀ v H2, Evl.Ex H H2 → Rp X.K M H2 v d → Q v H2) : wE X e σ H Q := h.run H (ExM.refl H) al Q q
theorem ce_fd {Q : VK} (al : Alive M H) (h : FD X M e σ H ds) (q : ∀ p ws H2, H p = none → Evl.Ex H H2 → H2 p = some (.lst ws) → RpAll X.K M H2 ws ds → Q (.ref p) H2) : wE X e σ H Q := h.run H (ExM.refl H) al Q q
/-! ### comparisons as tests -/
theorem td_cmpR {op : CmpOp} {r : R2} {k : Bool} (ho : OpR X (compareOp op) r) (hm : behindInMarks op b = false) (hr : RD2 X M r da db (.bool k)) (ha : PD X M a σ H da) (hb : PD X M b σ H db) : TD X M (.Compare a [op] [b] pos) σ H k := .mk fun H1 e1 al Q q =>
  ⟨_, pt_cmpR ho wE.pe wE.pe hm, ha.run H1 e1 al _ fun x H2 x2 rx => hb.run H2 (e1.trans (.of x2)) (al.mono x2) _ fun y H3 x3 ry =>
    hr x y H3 (rx.mono (fun _ z => z) (.of x3)) ry ((al.mono x2).mono x3) _ fun v H4 x4 rv => by
      cases rv
      exact ⟨k, rfl, q H4 ((x2.trans x3).trans x4)⟩⟩
theorem td_lt {i j : Int} (ha : PD X M a σ H (.int i)) (hb : PD X M b σ H (.int j)) : TD X M (.Compare a [.Lt] [b] pos) σ H (decide (i < j)) := td_cmpR op_lt (nomark _) rd_B0 ha hb
theorem td_le {i j : Int} (ha : PD X M a σ H (.int i)) (hb : PD X M b σ H (.int j)) : TD X M (.Compare a [.LtE] [b] pos) σ H (decide (i ≤ j)) := td_cmpR op_le (nomark _) rd_B0 ha hb
theorem td_gt {i j : Int} (ha : PD X M a σ H (.int i)) (hb : PD X M b σ H (.int j)) : TD X M (.Compare a [.Gt] [b] pos) σ H (decide (j < i)) := td_cmpR op_gt (nomark _) rd_B0 ha hb
theorem td_ge {i j : Int} (ha : PD X M a σ H (.int i)) (hb : PD X M b σ H (.int j)) : TD X M (.Compare a [.GtE] [b] pos) σ H (decide (j ≤ i)) := td_cmpR op_ge (nomark _) rd_B0 ha hb
theorem rd_eqD (hu : X.A.units + 64 < cLine) (sa : SeqAt.shaped da = true) (sb : SeqAt.shaped db = true) : RD2 X M (rEqD X.K) da db (.bool (PyData.eqv da db)) := fun x y H1 rx ry _ Q q => ⟨da, db, rx.dp, ry.dp, sa, sb, q _ H1 (Evl.Ex.refl H1) (.bl _)⟩
theorem rd_neD (hu : X.A.units + 64 < cLine) (sa : SeqAt.shaped da = true) (sb : SeqAt.shaped db = true) : RD2 X M (rNeD X.K) da db (.bool (!PyData.eqv da db)) := fun x y H1 rx ry _ Q q => ⟨da, db, rx.dp, ry.dp, sa, sb, q _ H1 (Evl.Ex.refl H1) (.bl _)⟩
theorem td_eq (hu : X.A.units + 64 < cLine) (ha : PD X M a σ H da) (hb : PD X M b σ H db) (sa : SeqAt.shaped da = true) (sb : SeqAt.shaped db = true) : TD X M (.Compare a [.Eq] [b] pos) σ H (PyData.eqv da db) := td_cmpR (op_eqD hu) (nomark _) (rd_eqD hu sa sb) ha hb
theorem td_ne (hu : X.A.units + 64 < cLine) (ha : PD X M a σ H da) (hb : PD X M b σ H db) (sa : SeqAt.shaped da = true) (sb : SeqAt.shaped db = true) : TD X M (.Compare a [.NotEq] [b] pos) σ H (!PyData.eqv da db) := td_cmpR (op_neD hu) (nomark _) (rd_neD hu sa sb) ha hb
theorem td_isN {j p2} (ha : PD X M a σ H da) : TD X M (.Compare a [.Is] [.Constant .none j p2] pos) σ H (isNone da) :=
  td_cmpR op_isN (nomark _) (fun x y H1 rx ry _ Q q => by
    cases ry
    exact ⟨rfl, q _ H1 (Evl.Ex.refl H1) (by rw [rx.isN]; exact .bl _)⟩) ha pd_non
theorem td_notN {j p2} (ha : PD X M a σ H da) : TD X M (.Compare a [.IsNot] [.Constant .none j p2] pos) σ H (!isNone da) :=
  td_cmpR op_notN (nomark _) (fun x y H1 rx ry _ Q q => by
    cases ry
    exact ⟨rfl, q _ H1 (Evl.Ex.refl H1) (by rw [rx.isN]; exact .bl _)⟩) ha pd_non
theorem snoc_ind {α : Type} {P : List α → Prop} (h0 : P []) (h1 : ∀ l x, P l → P (l ++ [x])) (l : List α) : P l := by
  have key : ∀ n (l : List α), l.length = n → P l := by
    intro n
    induction n with
    | zero =>
      intro l hl
      rw [List.eq_nil_of_length_eq_zero hl]
      exact h0
    | succ n ih =>
      intro l hl
      have hne : l ≠ [] := fun e => by
        rw [e] at hl
        cases hl
      rw [← List.dropLast_concat_getLast hne]
      refine h1 _ _ (ih _ ?_)
      rw [List.length_dropLast, hl]
      rfl
  exact key _ l rfl
theorem filt_all {α : Type} (l : List α) : (l.filter fun _ => true) = l := List.filter_eq_self.mpr fun _ _ => rfl
/-- [elt for target in iter] -/
theorem fd_map {tg iter : Expr} {t : Tg} {elt : Expr} {scope : Scope} {own : List (Str × Nat)} (f : PyData → PyData) (hc : X.calm = true) (hN : X.N.Nodup) (hi : Src X M tg iter σ H ds) (ok : BlkOk X.N X.env.scope scope own)
    (hg : ∀ s H C cl fp, PG (Cx.lc X s H scope C cl fp) tg (t.g X.K)) (hf : ∀ d ∈ ds, t.Fits d) (hw : ∀ M H d σ', t.Ok X.K M H d (wipe σ (own.map (·.2))) σ' → wipe σ' (own.map (·.2)) = wipe σ (own.map (·.2))) (hl : ds.length ≤ 100000)
    (body : ∀ s0 H0 C cl fp M' H' d σ', (∀ a, M a → M' a) → (∀ v e, Rp X.K M H v e → Rp X.K M' H' v e) → d ∈ ds → t.Ok X.K M' H' d (wipe σ (own.map (·.2))) σ' → PD (Cx.lc X s0 H0 scope C cl fp) M' elt σ' H' (f d))
    (hs : ∀ x, foldedSetIterable iter X.env x = pure x := by intro _; rfl) : FD X M (.ListComp elt [⟨tg, iter, [], 0⟩] scope pos) σ H (ds.map f) := by
  have h := fd_lc (pos := pos) hc hN hi ok hg hf hw (fun _ => true) f hl (fun s0 H0 C cl fp M' H' d σ' hM lift hd hok => ⟨tsd_nil, fun _ => body s0 H0 C cl fp M' H' d σ' hM lift hd hok⟩) hs
  rwa [filt_all] at h
/-- [elt for target in iter if test] -/
theorem fd_filter {tg iter tst : Expr} {t : Tg} {elt : Expr} {scope : Scope} {own : List (Str × Nat)} (p : PyData → Bool) (f : PyData → PyData) (hc : X.calm = true) (hN : X.N.Nodup) (hi : Src X M tg iter σ H ds) (ok : BlkOk X.N X.env.scope scope own)
    (hg : ∀ s H C cl fp, PG (Cx.lc X s H scope C cl fp) tg (t.g X.K)) (hf : ∀ d ∈ ds, t.Fits d) (hw : ∀ M H d σ', t.Ok X.K M H d (wipe σ (own.map (·.2))) σ' → wipe σ' (own.map (·.2)) = wipe σ (own.map (·.2))) (hl : ds.length ≤ 100000)
    (body : ∀ s0 H0 C cl fp M' H' d σ', (∀ a, M a → M' a) → (∀ v e, Rp X.K M H v e → Rp X.K M' H' v e) → d ∈ ds → t.Ok X.K M' H' d (wipe σ (own.map (·.2))) σ' → TD (Cx.lc X s0 H0 scope C cl fp) M' tst σ' H' (p d) ∧ PD (Cx.lc X s0 H0 scope C cl fp) M' elt σ' H' (f d))
    (hs : ∀ x, foldedSetIterable iter X.env x = pure x := by intro _; rfl) : FD X M (.ListComp elt [⟨tg, iter, [tst], 0⟩] scope pos) σ H ((ds.filter p).map f) :=
  fd_lc hc hN hi ok hg hf hw p f hl (fun s0 H0 C cl fp M' H' d σ' hM lift hd hok => let ⟨h1, h2⟩ := body s0 H0 C cl fp M' H' d σ' hM lift hd hok; ⟨tsd_one h1, fun _ => h2⟩) hs
/-- the name in slot i, by what is known of its value -/
theorem nm (i : Nat) {x : Str} {v : V} (r : Rp X.K M H v d) (hN : X.N[i]? = some x := by rfl) (hv : Vis X.env.scope x := by first | exact .inl rfl | exact .inr (.inl rfl) | exact .inr (.inr rfl)) (hs : σ[i]? = some (some v) := by rfl)
    (hd : (x == ("__debug__" : Str)) = false := by decide) (hcd : (x == ("__classdict__" : Str)) = false := by decide) : PD X M (.Name x pos) σ H d := pd_name hN hv hs r hd hcd
theorem ce_name {i : Nat} {x : Str} {v : V} {Q : VK} (hN : X.N[i]? = some x) (hv : Vis X.env.scope x) (hs : σ[i]? = some (some v)) (q : Q v H)
    (hd : (x == ("__debug__" : Str)) = false := by decide) (hcd : (x == ("__classdict__" : Str)) = false := by decide) : wE X (.Name x pos) σ H Q := ⟨_, pe_var hN hv hd hcd, v, hs, q⟩
theorem ca_nil {Q : List V → Hp → Prop} (q : Q [] H) : wA X [] σ H Q := ⟨_, pa_nil, q⟩
theorem ca_cons {Q : List V → Hp → Prop} (h : wE X e σ H fun v H2 => wA X es σ H2 fun vs H3 => Q (v :: vs) H3) (hs : starEach (e :: es) X.env = (false, eval e X.env) :: starEach es X.env := by rfl) : wA X (e :: es) σ H Q := ⟨_, pa_cons wE.pe wA.pa hs, h⟩
theorem ce_bin {op : Operator} {r : R2} {Q : VK} (ho : OpR X (binaryOp op) r) (h : wE X a σ H fun x H2 => wE X b σ H2 fun y H3 => r x y H3 Q) : wE X (.BinOp a op b pos) σ H Q := ⟨_, pe_op ho wE.pe wE.pe, h⟩
theorem ce_add {Q : VK} (h : wE X a σ H fun x H2 => wE X b σ H2 fun y H3 => ∃ i j, x = .int i ∧ y = .int j ∧ Q (.int (i + j)) H3) : wE X (.BinOp a .Add b pos) σ H Q := ce_bin op_add h
theorem ce_sub {Q : VK} (h : wE X a σ H fun x H2 => wE X b σ H2 fun y H3 => ∃ i j, x = .int i ∧ y = .int j ∧ Q (.int (i - j)) H3) : wE X (.BinOp a .Sub b pos) σ H Q := ce_bin op_sub h
theorem ce_call {sp : Sp} {Q : VK} {j k : Nat} {x : Str} {p : Pos} (cl : Cl X.prog X.w X.K X.mg X.base CX0 k x sp) (hr : Room j X.A) (hkj : k ≤ j) (hg : Gl X x) (h : wA X (e :: es) σ H fun vs H2 => sp vs H2 Q E0)
    (hdb : (x == ("__debug__" : Str)) = false := by decide) (he : starEach (e :: es) X.env = (false, eval e X.env) :: starEach es X.env := by rfl) (hpl : (backTo pos (starEach es X.env)).any (·.1) = false := by rfl) : wE X (.Call (.Name x p) (e :: es) [] pos) σ H Q := by
  obtain ⟨f, fd, ps, F, hm, hk, hb⟩ := cl.ex
  refine ⟨_, pe_call F (hr.mono hkj) hg hm hk hb .nil pass0 wA.pa hdb he hpl, ?_⟩
  obtain ⟨t, h1, h2⟩ := h
  refine ⟨t, h1, ?_⟩
  have e1 : (fun vs H1 => sp (vs ++ []) H1 Q E0) = fun vs H1 => sp vs H1 Q E0 := by
    funext vs H1
    rw [List.append_nil]
  rw [e1]
  exact h2
theorem ce_ix {Q : VK} (h : wE X a σ H fun x H2 => wE X b σ H2 fun y H3 => rIx X.K x y H3 Q) (hs : PlainIx b := by exact fun _ _ => rfl) : wE X (.Subscript a b pos) σ H Q := ⟨_, pe_ix ix_seq wE.pe wE.pe hs, h⟩
/-- an item of a datum, by values -/
theorem rIx_of {K : PySem.W.Frag} {x : V} {i : Int} {Q : VK} (r : Rp K M H x da) (h : ixD da (.int i) = some d) (q : ∀ v, Rp K M H v d → Q v H) : rIx K x (.int i) H Q := by
  cases r with
  | lst m hs rs =>
    obtain ⟨v, hv, rv⟩ := atI_rp rs h
    exact .inl ⟨_, _, i, v, rfl, rfl, .inl hs, hv, q v rv⟩
  | tup m hs rs =>
    obtain ⟨v, hv, rv⟩ := atI_rp rs h
    exact .inr (.inl ⟨_, _, i, v, rfl, rfl, .inl hs, hv, q v rv⟩)
  | str z =>
    simp only [ixD] at h
    split at h
    · rename_i hz
      cases e : atI z.cps.toList i with
      | none =>
        rw [e] at h
        cases h
      | some c =>
        rw [e] at h
        cases h
        exact .inr (.inr ⟨z, i, c, rfl, rfl, hz, e, q _ (.str _)⟩)
    · cases h
  | _ => cases h
end
section
variable {X : Cx} {M : Addr → Prop} {σ : St} {H H' : Hp} {c e o ix : Expr} {d : PyData} {pos : Pos} {st : Stmt} {sts A B : List Stmt} {D : Ends}
theorem cs_set {i : Nat} {x : Str} {p : Pos} (hN : X.N.Nodup) (hi : X.N[i]? = some x) (hx : Loc X.env.scope x) (h : wE X e σ H fun v H2 => D.nx (σ.set i (some v)) H2)
    (hs : swapsWith e (some (.Name x p)) pos.line X.env = pure false := by rfl) (hf : X.fn x = true ∨ X.env.scope.names.lookup x = some .local := by first | exact .inl rfl | exact .inr rfl | assumption) : wS X (.Assign [.Name x p] e pos) D σ H := ⟨_, ps_set hN hi hx wE.pe hs hf, h⟩
theorem cs_ret (h : wE X e σ H D.rt) : wS X (.Return (some e) pos) D σ H := ⟨_, ps_ret wE.pe, h⟩
theorem cs_expr (h : wE X e σ H fun _ H2 => D.nx σ H2) (hs : swapsWith e none pos.line X.env = pure false := by rfl) : wS X (.Expr e pos) D σ H := ⟨_, ps_expr wE.pe hs, h⟩
/-- o[ix] = e -/
theorem cs_sub {p : Pos} (h : wE X e σ H fun v H1 => wE X o σ H1 fun x H2 => wE X ix σ H2 fun y H3 => rSetL x y v H3 fun H4 => D.nx σ H4)
    (ha : ∀ v, assign (.Subscript o ix p) X.env v = (do
      let ov ← holding [v] (eval o X.env)
      let iv ← holding [v, ov] (eval ix X.env)
      standAt p
      holding [v, ov, iv] (setItem ov iv v)
      release [v, ov, iv] []) := by intro _; rfl)
    (hs : swapsWithSole [.Subscript o ix p] e pos.line X.env = pure false := by rfl) (hw : swappedStores [.Subscript o ix p] e X.env = pure none := by rfl)
    (h1 : (assignEach [.Subscript o ix p] X.env).map (·.2) = [assign (.Subscript o ix p) X.env] := by rfl) : wS X (.Assign [.Subscript o ix p] e pos) D σ H :=
  ⟨_, ps_asg wE.pe (pg_sub wE.pe wE.pe set_list ha) hs hw h1, h⟩
end
end GV

namespace GV
open PySem PySem.Spec PyProof.Rows L2
/-! ### own errors -/
/-- what the __init__ of an error keeps: its arguments, by these names -/
def spInit (C : Addr) (fl : List Str) : Sp := fun vs H Q _ => ∃ (a : Addr) (xs : List V), vs = .ref a :: xs ∧ xs.length = fl.length ∧ H a = some (exo a C none) ∧
  ∀ H' d, (∀ b o, H b = some o → b ≠ a → H' b = some o) → H d = none → d ≠ a → H' a = some (exo a C (some d)) → H' d = some (exd d (fl.zip xs).reverse) → Q .non H'
structure ErrC (P : Program) (w : World) (K : PySem.W.Frag) (mg : Str → Option Value) (base : Heap) (x : Str) (C : Addr) (fl : List Str) : Prop where
  gC : mg x = some (.ref C)
  oex : OexC K C
  xf : XfC K C
  no : ∀ f ∈ fl, PySem.W.findIn K (.ref C) f = some none
  init : ∃ (fI : Addr) (fd : FuncData) (ps : List Str), PySem.W.findIn K (.ref C) "__init__" = some (some (.ref fI)) ∧ PySem.W.typeIn K (.ref fI) = some (.type "function") ∧ FnOk P w K mg base CX0 1 fI fd ps (spInit C fl) ∧ Binds K fd ps []
/-- what a raised one leaves: a new dict that holds the arguments -/
def Raised (C : Addr) (fs : List (Str × V)) (H : Hp) (E : XK) : Prop := ∀ d H', H d = none → Evl.Ex H H' → H' d = some (.xd fs) → E (.ref C) (some d) H'
section
variable {X : Cx} {σ : St} {H : Hp} {D : Ends} {e : Expr} {es : List Expr}
theorem s_raise {W : WX} {x : Str} {C : Addr} {fl : List Str} {p pos pos2 : Pos} (hc : X.calm = true) (er : ErrC X.prog X.w X.K X.mg X.base x C fl) (hr : Room 2 X.A) (tk : Takes X W) (hg : Gl X x)
    (h : wA X (e :: es) σ H fun vs H1 => vs.length = fl.length ∧ vs.length ≤ 1000 ∧ Raised C (fl.zip vs).reverse H1 fun cls d H' => W cls d σ H')
    (hdb : (x == ("__debug__" : Str)) = false := by decide) (he : starEach (e :: es) X.env = (false, eval e X.env) :: starEach es X.env := by rfl) (hpl : (backTo pos (starEach es X.env)).any (·.1) = false := by rfl) :
    wS X (.Raise (some (.Call (.Name x p) (e :: es) [] pos)) none pos2) D σ H := by
  obtain ⟨fI, fd, ps, iC, tI, F1, hb⟩ := er.init
  obtain ⟨t, pa, q⟩ := h
  -- the arguments' own reading, with what is wanted behind it
  refine ⟨_, ps_raise hc tk (pmk_oex (k := 1) (dvs := []) (ds := []) er.oex iC tI F1 hr hb .nil pass0 hg er.gC (ta := fun σ H Q => ∃ Q0, t σ H Q0 ∧ ∀ vs H1, Q0 vs H1 → Q vs H1) ⟨fun pos pins s σ H Q I ⟨Q0, h0, imp⟩ => wpAny_mono (pa.run pos pins s σ H Q0 I h0) (fun us s1 ⟨vs, H1, I1, r1, q1⟩ => ⟨vs, H1, I1, r1, imp vs H1 q1⟩) fun _ _ z => z⟩ hdb he hpl), _, q, fun vs H1 ⟨hl, h1000, hR⟩ => ?_⟩
  refine ⟨h1000, fun a na => ⟨a, vs, by rw [List.append_nil], hl, upd_same, fun H' d k nd da ea ed => ⟨rfl, d, _, ea, ed, ?_, ?_⟩⟩⟩
  · rwa [upd_ne da] at nd
  · rw [upd_ne da] at nd
    refine hR d _ nd (fun b o hb' => ?_) upd_same
    rw [upd_ne (ne_of_none hb' nd), del_ne (ne_of_none hb' na)]
    exact k b o (by rw [upd_ne (ne_of_none hb' na)]; exact hb') (ne_of_none hb' na)
end
end GV

namespace GV
open PySem PySem.Spec PyProof.Rows L2
/-! ### try with clauses that may keep the exception by a name -/
abbrev HdT := Addr → Value → Option Addr → TS
/-- where a clause with a name goes on: the name is gone -/
def Ends.less (D : Ends) (i : Nat) : Ends := { nx := fun σ' H' => D.nx (σ'.set i none) H', rt := D.rt, bk := fun σ' H' => D.bk (σ'.set i none) H', ct := fun σ' H' => D.ct (σ'.set i none) H' }
/-- which clause takes an exception, and what it must do then -/
def wHs (K : PySem.W.Frag) (Wout : WX) (D : Ends) : List (Value × Option Nat × HdT) → WX
  | [] => Wout
  | (c, o, ts) :: r => fun cls d σ H => ∃ b, PySem.W.exmOne K cls c = some b ∧
      (b = true → ∀ a, H a = none → match o with
        | none => ts a cls d D σ H
        | some i => i < σ.length → ts a cls d (Ends.less D i) (σ.set i (some (.ref a))) H) ∧
      (b = false → wHs K Wout D r cls d σ H)
inductive Hds (X : Cx) : List ExceptHandler → List (Value × Option Nat × HdT) → Prop
  | nil : Hds X [] []
  | one {x : Str} {c : Value} {ts : HdT} {b₀ : Stmt} {suite : List Stmt} {np p : Pos} {hs l} : Names X x c →
      (∀ a oe cls d pn, Zc cls d oe → (∃ vs, oe.data = .fields vs) → PSs (X.suite a ((a, oe) :: pn)) (b₀ :: suite) (ts a cls d)) → Hds X hs l →
      Hds X (.ExceptHandler (some (.Name x np)) none (b₀ :: suite) p :: hs) ((c, none, ts) :: l)
  | as_ {x n : Str} {i : Nat} {c : Value} {ts : HdT} {b₀ : Stmt} {suite : List Stmt} {np p : Pos} {hs l} : Names X x c → X.N[i]? = some n → X.env.kindOf n = some .local →
      (∀ a oe cls d pn, Zc cls d oe → (∃ vs, oe.data = .fields vs) → PSs (X.suite a ((a, oe) :: pn)) (b₀ :: suite) (ts a cls d)) → Hds X hs l →
      Hds X (.ExceptHandler (some (.Name x np)) (some n) (b₀ :: suite) p :: hs) ((c, some i, ts) :: l)
theorem ps_tryAs {X : Cx} {body : List Stmt} {h₀ : ExceptHandler} {hds : List ExceptHandler} {l : List (Value × Option Nat × HdT)} {pos : Pos} {tb : WX → TS} {Wout : WX} (hs : X.stack = X.env :: X.outer) (hf : X.env.frame = some X.env.locals) (hN : X.N.Nodup) (tk : Takes X Wout)
    (hb : ∀ (W : WX) (pn : List (Addr × Obj)) (xe : Value → Shared → Prop), Takes (X.tr pn xe) W → PassesOwn (model X.prog X.w) X.A X.env xe → PSs (X.tr pn xe) body (tb W)) (hh : Hds X (h₀ :: hds) l) :
    PS X (.Try body (h₀ :: hds) [] [] pos) fun D σ H => tb (wHs X.K Wout D l) D σ H := by
  constructor
  intro pins s σ H D I h
  have ok := I.ok
  have hfr : X.A.frames = some (X.env :: X.outer) := by
    rw [ok.frames, hs]
  refine wpAny_Try_except (wpAny_mono ((hb (wHs X.K Wout D l) (X.pn ++ pins) _ ?_ PassesOwn.looking).run [] s σ H D (I.toTry _) h) ?_ fun e s1 he => he)
  · rintro u s' ⟨a, B, sI, pins', σ', H', cls, d, rfl, J', nb, up, sky, na, os, ag, w⟩
    have J := J'.ofTry ok
    have sky' : Sky B (X.env :: X.outer) a (Zc cls d) X.env.locals s'.heap := by
      rw [← hs]
      exact sky
    refine Sky.land Zc.steady hfr hf sky' fun h3 fl3 up3 => ?_
    have J3 := J.landed (s' := { heap := h3, gens := s'.gens, drawn := s'.drawn, toks := s'.toks, os := s'.os }) nb fl3.1 (up.trans up3) os ag
    obtain ⟨oe3, vs3, he3, hz3, hd3⟩ := fl3.there
    have nfr : ¬ a ∈ List.filterMap (fun x => x.frame) (X.env :: X.outer) := fun hm => by
      obtain ⟨_, o', e', hnf⟩ := fl3.2.2.1.mem hm
      have e2 : some oe3 = some o' := he3.symm.trans e'
      cases e2
      exact hnf _ hd3
    have nL : a ≠ X.env.locals := fun z => nfr (List.mem_filterMap.mpr ⟨X.env, List.mem_cons_self, by rw [hf, z]⟩)
    have nF : ¬ a ∈ X.fs := fun hm => by
      obtain ⟨e, he, q⟩ := List.mem_filterMap.mp hm
      exact nfr (List.mem_filterMap.mpr ⟨e, List.mem_cons_of_mem _ he, q⟩)
    have S3 := J3.suite he3 hd3 na nL nF
    have go : ∀ {hs' l'}, Hds X hs' l' → wHs X.K Wout D l' cls d σ' H' → wpAny (model X.prog X.w) X.A (handleBy (.ref a) X.env hs') (SP X pins D) X.xe { heap := h3, gens := s'.gens, drawn := s'.drawn, toks := s'.toks, os := s'.os } := by
      intro hs' l' hk
      have LT : ∀ (c : Value) (b : Bool), PySem.W.exmOne X.K cls c = some b → PySem.W.Looks (model X.prog X.w) h3 (excMatches (.ref a) c) b := fun c b hb1 => PySem.W.exm_one J3.kIn (fun A Q E s k q => wpAny_typeOf_ref (k a oe3 he3) (by rw [hz3.1]; exact q)) hb1
      have test : ∀ {x : Str} {c : Value} {np : Pos} {Q : Value → Shared → Prop} {E : Value → Shared → Prop}, Names X x c → Q c { heap := h3, gens := s'.gens, drawn := s'.drawn, toks := s'.toks, os := s'.os } → wpAny (model X.prog X.w) (X.A.mark (some (.ref a))) (eval (.Name x np) X.env) Q E { heap := h3, gens := s'.gens, drawn := s'.drawn, toks := s'.toks, os := s'.os } := by
        intro x c np Q E hc q
        obtain ⟨hg, hdbg, hm | ⟨hm, hv, hnn⟩⟩ := hc
        · exact ld_glob S3 hg hm q hdbg
        · exact ld_blt S3 hg hm hv q hnn hdbg
      induction hk with
      | nil =>
        intro w
        refine wpAny_handleBy_nil ?_
        obtain ⟨k1, k2, k3, oe, vs, T, oT, ts', he, hz, hd, h1, hr⟩ := id fl3
        refine wpAny_bind (wpAny_field he hd h1 ?_)
        rw [if_neg (by simp)]
        refine wpAny_bind ?_
        rw [hf]
        exact HandSPX.setFlight_upZ fl3 fun h4 hh4 up4 => wpAny_throw (tk (.ref a) _ ⟨a, B, sI, pins, σ', H', cls, d, rfl, J, nb, (up.trans up3).trans up4, .inr (.inr (by rw [hs]; exact hh4)), na, os, ag, w⟩)
      | one hc hsu r ih =>
        rintro ⟨b, hb1, hyes, hno⟩
        refine wpAny_handleBy_cons (codeAny_handlers_test (test hc (PySem.W.Looks.here (LT _ _ hb1) ?_))) (fun q => by cases q)
        cases b with
        | false => exact ih (hno rfl)
        | true =>
          refine codeAny_handlers_suite (HandSPX.lands_againZ fl3 fun h4 fl4 up4 => ?_)
          have J4 := J.landed (s' := { heap := h4, gens := s'.gens, drawn := s'.drawn, toks := s'.toks, os := s'.os }) nb fl4.1 ((up.trans up3).trans up4) os ag
          obtain ⟨oe4, vs4, he4, hz4, hd4⟩ := fl4.there
          have S4 := J4.suite he4 hd4 na nL nF
          refine wpAny_mono ((hsu a oe4 cls d (X.pn ++ pins) hz4 ⟨vs4, hd4⟩).run [] _ σ' H' D S4 (hyes rfl a na)) (fun f s6 hsp => ?_) fun _ _ z => z.elim
          show SP X pins D f s6
          cases f with
          | ret u =>
            obtain ⟨v6, σ6, H6, S6, r6, q6⟩ := hsp
            exact ⟨v6, σ6, H6, S6.unsuite ok, r6, q6⟩
          | _ =>
            obtain ⟨σ6, H6, S6, q6⟩ := hsp
            exact ⟨σ6, H6, S6.unsuite ok, q6⟩
      | as_ hc hi hln hsu r ih =>
        rintro ⟨b, hb1, hyes, hno⟩
        refine wpAny_handleBy_cons (codeAny_handlers_test (test hc (PySem.W.Looks.here (LT _ _ hb1) ?_))) (fun q => by cases q)
        cases b with
        | false => exact ih (hno rfl)
        | true =>
          refine codeAny_handlers_suite_as (HandSPX.lands_againZ fl3 fun h4 fl4 up4 => ?_)
          have J4 := J.landed (s' := { heap := h4, gens := s'.gens, drawn := s'.drawn, toks := s'.toks, os := s'.os }) nb fl4.1 ((up.trans up3).trans up4) os ag
          obtain ⟨oe4, vs4, he4, hz4, hd4⟩ := fl4.there
          have S4 := J4.suite he4 hd4 na nL nF
          refine store_ok (X := X.suite a ((a, oe4) :: (X.pn ++ pins))) (v := .ref a) S4 hN hi (.inl hln) rfl (fun s5 S5 => ?_) (.inr hln)
          refine wpAny_mono ((hsu a oe4 cls d (X.pn ++ pins) hz4 ⟨vs4, hd4⟩).run [] s5 _ H' _ S5 (hyes rfl a na (by rw [J.len]; exact (List.getElem?_eq_some_iff.mp hi).1))) (fun f s6 hsp => ?_) fun _ _ z => z.elim
          cases f with
          | ret u =>
            obtain ⟨v6, σ6, H6, S6, r6, q6⟩ := hsp
            exact gone_ok (S6.unsuite ok) hN hi hln fun s7 J7 => ⟨v6, _, H6, J7, r6, q6⟩
          | _ =>
            obtain ⟨σ6, H6, S6, q6⟩ := hsp
            exact gone_ok (S6.unsuite ok) hN hi hln fun s7 J7 => ⟨_, H6, J7, q6⟩
    exact go hh w
  · intro f s1 hsp
    cases f with
    | ret u =>
      obtain ⟨v, σ', H', J', r, q⟩ := hsp
      exact ⟨v, σ', H', J'.ofTry ok, r, q⟩
    | next =>
      obtain ⟨σ', H', J', q⟩ := hsp
      exact wpAny_execs_nil ⟨σ', H', J'.ofTry ok, q⟩
    | _ =>
      obtain ⟨σ', H', J', q⟩ := hsp
      exact ⟨σ', H', J'.ofTry ok, q⟩
end GV

namespace GV
open PySem PySem.Spec PyProof.Rows L2
/-! ### an own error without a word -/
theorem pmk_own0 {X : Cx} {pos : Pos} {C : Addr} {bmB : List Value} {B newId initId : String} {x : Str} {p : Pos} (F : ExcBaseFacts B newId initId bmB) (q : PySem.W.excIn X.K C bmB newId = true) (gC : X.mg x = some (.ref C)) (kC : PySem.W.keepIn X.K (.ref C) = true) (r : Raises X (.ref C)) (hg : Gl X x)
    (hdb : (x == ("__debug__" : Str)) = false := by decide) : PMk X (.Call (.Name x p) [] [] pos) fun σ H Q => Q (.ref C) none H := by
  intro pins s σ H Q I h
  refine wpAny_Call_Name_kw ?_
  refine ld_glob I hg gC ?_ hdb
  refine PySem.W.callWith_K0 (env := X.env) (first := []) I.kIn kC ?_
  obtain ⟨bm, N, nm, qn, bs, hdct, sn, sub, ab, col, dd, k0, k1, k2, k3, k5, mN, hC, hN, hni, T⟩ := exc_obj I.kIn q
  exact wpAny_call_exc_subT F T hC hN hni (fun h' e hm => mk_of I hm r h (HOk.gone I.hok hm.new)) (Nat.zero_le _)
/-- an error class whose objects are made without words -/
structure Err0 (K : PySem.W.Frag) (mg : Str → Option Value) (x : Str) (C : Addr) : Prop where
  gC : mg x = some (.ref C)
  ex : PySem.W.excIn K C [.type "ValueError", .type "Exception", .type "BaseException", .type "object"] "ValueError.__new__" = true
  kC : PySem.W.keepIn K (.ref C) = true
  exC : PySem.W.subIn K (.ref C) (.type "BaseException") = some true
  tyC : PySem.W.typeIn K (.ref C) = some (.type "type")
theorem s_raise0 {X : Cx} {σ : St} {H : Hp} {D : Ends} {W : WX} {x : Str} {C : Addr} {p pos pos2 : Pos} (hc : X.calm = true) (er : Err0 X.K X.mg x C) (tk : Takes X W) (hg : Gl X x) (h : W (.ref C) none σ H) (hdb : (x == ("__debug__" : Str)) = false := by decide) :
    wS X (.Raise (some (.Call (.Name x p) [] [] pos)) none pos2) D σ H := ⟨_, ps_raise hc tk (pmk_own0 F.excBase_ValueError er.ex er.gC er.kC (raises_own er.exC er.tyC) hg hdb), h⟩
end GV

namespace GV
open PySem PySem.Spec PyProof.Rows L2
/-! ### objects: fields, methods, properties -/
/-- e names what stands at a -/
def AtN (X : Cx) (σ : St) (e : Expr) (a : Addr) : Prop := ∀ H1 (Q : VK), Q (.ref a) H1 → wE X e σ H1 Q
section
variable {X : Cx} {M : Addr → Prop} {σ : St} {H H' : Hp} {a b c e o : Expr} {da db d : PyData} {pos : Pos} {es : List Expr} {ds : List PyData} {D : Ends}
theorem AtN.name {i : Nat} {x : Str} {p : Addr} (hN : X.N[i]? = some x) (hv : Vis X.env.scope x) (hs : σ[i]? = some (some (.ref p)))
    (hd : (x == ("__debug__" : Str)) = false := by decide) (hcd : (x == ("__classdict__" : Str)) = false := by decide) : AtN X σ (.Name x pos) p := fun H1 Q q => ce_name hN hv hs q hd hcd
theorem pd_fld {f : Str} {p C dx : Addr} {fs : List (Str × V)} {v : V} (hn : AtN X σ e p) (m : ¬ M p) (hp : H p = some (.ins C dx fs)) (c : Cls X.K C) (n : NoAttr X.K C f) (hf : fs.lookup f = some v) (r : Rp X.K M H v d)
    (hb : attributeBase e f X.env (eval e X.env) = eval e X.env := by rfl) : PD X M (.Attribute e f pos) σ H d := .mk fun H1 e1 al Q q =>
  ⟨_, pe_fld wE.pe hb, hn _ _ ⟨p, C, dx, fs, v, rfl, e1 _ _ hp m (fun _ z => by cases z), c, n, hf, q v H1 (Evl.Ex.refl H1) (r.mono (fun _ z => z) e1)⟩⟩
theorem AtN.fld {f : Str} {p s C dx : Addr} {fs : List (Str × V)} (hn : AtN X σ e p) (c : Cls X.K C) (n : NoAttr X.K C f) (hf : fs.lookup f = some (.ref s)) {Q : VK} (hp : H p = some (.ins C dx fs)) (q : Q (.ref s) H)
    (hb : attributeBase e f X.env (eval e X.env) = eval e X.env := by rfl) : wE X (.Attribute e f pos) σ H Q := ⟨_, pe_fld wE.pe hb, hn _ _ ⟨p, C, dx, fs, _, rfl, hp, c, n, hf, q⟩⟩
/-- o.append(e) -/
theorem ce_append {apos cpos : Pos} {Q : VK} (h : wE X o σ H fun x H1 => ∃ l xs, x = .ref l ∧ H1 l = some (.lst xs) ∧ wE X e σ H1 fun y H2 => ∃ ys, H2 l = some (.lst ys) ∧ ys.length < 100000 ∧ Q .non (upd H2 l (.lst (ys ++ [y]))))
    (h1 : attributeBase o ("append" : Str) X.env (eval o X.env) = eval o X.env := by rfl)
    (h2 : ((((backTo cpos (starEach (e :: []) X.env)).all fun x => !x.1) && (backToKw cpos (keywordEach [] X.env)).all fun x => x.1.isSome) && decide (((e :: []).length + ([] : List Keyword).length + if ([] : List Keyword).isEmpty = true then 0 else 1) < 30)) = true := by rfl)
    (h3 : (apos.endLine == cpos.line) = true := by rfl) (h4 : starEach (e :: []) X.env = (false, eval e X.env) :: starEach [] X.env := by rfl) (h5 : (backTo cpos (starEach [] X.env)).any (·.1) = false := by rfl) :
    wE X (.Call (.Attribute o "append" apos) [e] [] cpos) σ H Q := by
  refine ⟨_, pe_bm PySem.F.plainAttrs_list PySem.F.slot_list_append PySem.F.type_list_append mt_append wE.pe wA.pa h1 h2 h3 h4 h5, ?_⟩
  obtain ⟨t, p, q⟩ := h
  refine ⟨fun σ H Q => ∃ Q0, t σ H Q0 ∧ ∀ x H1, Q0 x H1 → Q x H1, ⟨fun pins s σ H Q I ⟨Q0, h0, imp⟩ => wpAny_mono (p.run pins s σ H Q0 I h0) (fun us s1 ⟨v, H1, I1, r1, q1⟩ => ⟨v, H1, I1, r1, imp v H1 q1⟩) fun _ _ z => z⟩, _, q, ?_⟩
  rintro x H1 ⟨l, xs, rfl, hl, h2⟩
  refine ⟨.inl ⟨rfl, _, SqL.of hl⟩, ?_⟩
  obtain ⟨t2, p2, q2⟩ := h2
  refine ⟨_, pa_cons (te := fun σ H Q => ∃ Q0, t2 σ H Q0 ∧ ∀ x H1, Q0 x H1 → Q x H1) ⟨fun pins s σ H Q I ⟨Q0, h0, imp⟩ => wpAny_mono (p2.run pins s σ H Q0 I h0) (fun us s1 ⟨v, H1, I1, r1, q1⟩ => ⟨v, H1, I1, r1, imp v H1 q1⟩) fun _ _ z => z⟩ pa_nil h4, _, q2, ?_⟩
  rintro y H2 ⟨ys, hy, hlen, hq⟩
  exact ⟨l, ys, y, rfl, rfl, hy, Nat.lt_of_lt_of_le hlen (by rw [sizeLine_eq]; decide), hq⟩
/-- o.pop() -/
theorem ce_pop {apos cpos : Pos} {Q : VK} {l : Addr} {xs : List V} {y : V} (h : wE X o σ H fun x H1 => x = .ref l ∧ H1 l = some (.lst (xs ++ [y])) ∧ Q y (upd H1 l (.lst xs)))
    (h1 : attributeBase o ("pop" : Str) X.env (eval o X.env) = eval o X.env := by rfl) (h3 : (apos.endLine == cpos.line) = true := by rfl) : wE X (.Call (.Attribute o "pop" apos) [] [] cpos) σ H Q := by
  refine ⟨_, pe_bm0 PySem.F.plainAttrs_list PySem.F.slot_list_pop PySem.F.type_list_pop mt_pop wE.pe h1 h3, ?_⟩
  obtain ⟨t, p, q⟩ := h
  refine ⟨fun σ H Q => ∃ Q0, t σ H Q0 ∧ ∀ x H1, Q0 x H1 → Q x H1, ⟨fun pins s σ H Q I ⟨Q0, h0, imp⟩ => wpAny_mono (p.run pins s σ H Q0 I h0) (fun us s1 ⟨v, H1, I1, r1, q1⟩ => ⟨v, H1, I1, r1, imp v H1 q1⟩) fun _ _ z => z⟩, _, q, ?_⟩
  rintro x H1 ⟨rfl, hl, hq⟩
  refine ⟨.inl ⟨rfl, _, SqL.of hl⟩, l, _, y, rfl, rfl, hl, ?_, ?_⟩
  · simp
  · rw [List.dropLast_concat]
    exact hq
/-- o.reverse() -/
theorem ce_reverse {apos cpos : Pos} {Q : VK} {l : Addr} {xs : List V} (h : wE X o σ H fun x H1 => x = .ref l ∧ H1 l = some (.lst xs) ∧ Q .non (upd H1 l (.lst xs.reverse)))
    (h1 : attributeBase o ("reverse" : Str) X.env (eval o X.env) = eval o X.env := by rfl) (h3 : (apos.endLine == cpos.line) = true := by rfl) : wE X (.Call (.Attribute o "reverse" apos) [] [] cpos) σ H Q := by
  refine ⟨_, pe_bm0 PySem.F.plainAttrs_list PySem.F.slot_list_reverse PySem.F.type_list_reverse mt_reverse wE.pe h1 h3, ?_⟩
  obtain ⟨t, p, q⟩ := h
  refine ⟨fun σ H Q => ∃ Q0, t σ H Q0 ∧ ∀ x H1, Q0 x H1 → Q x H1, ⟨fun pins s σ H Q I ⟨Q0, h0, imp⟩ => wpAny_mono (p.run pins s σ H Q0 I h0) (fun us s1 ⟨v, H1, I1, r1, q1⟩ => ⟨v, H1, I1, r1, imp v H1 q1⟩) fun _ _ z => z⟩, _, q, ?_⟩
  rintro x H1 ⟨rfl, hl, hq⟩
  exact ⟨.inl ⟨rfl, _, SqL.of hl⟩, l, _, rfl, rfl, hl, hq⟩
end
/-! ### which data hold no list, so that no change reaches them -/
mutual
def flat : PyData → Bool
  | .list _ => false
  | .dict _ => false
  | .tuple ds => flats ds
  | _ => true
def flats : List PyData → Bool
  | [] => true
  | d :: ds => flat d && flats ds
end
section
variable {K : PySem.W.Frag} {M M' : Addr → Prop} {H H' : Hp}
def Lists (M : Addr → Prop) (H : Hp) : Prop := ∀ a, M a → ∃ xs, H a = some (.lst xs)
mutual
theorem Rp.off {v : V} {d : PyData} : (r : Rp K M' H v d) → flat d = true → Lists M H → Rp K M H v d
  | .non, _, _ => .non
  | .bl b, _, _ => .bl b
  | .int i, _, _ => .int i
  | .str x, _, _ => .str x
  | .lst m h r, hf, hm => absurd hf (by simp [flat])
  | .tup m h r, hf, hm => .tup (fun z => by
      obtain ⟨xs, hx⟩ := hm _ z
      rcases h with h | ⟨o, h⟩ <;> rw [h] at hx <;> cases hx) h (RpAll.off r (by simpa [flat] using hf) hm)
theorem RpAll.off {vs : List V} {ds : List PyData} : (r : RpAll K M' H vs ds) → flats ds = true → Lists M H → RpAll K M H vs ds
  | .nil, _, _ => .nil
  | .cons r rs, hf, hm => .cons (Rp.off r (by simp [flats] at hf; exact hf.1) hm) (RpAll.off rs (by simp [flats] at hf; exact hf.2) hm)
end
/-- .. so what is flat stays whatever becomes of lists -/
def Keep (H H' : Hp) : Prop := ∀ a o, H a = some o → (∀ xs, o ≠ .lst xs) → NT o → H' a = some o
end
end GV

namespace GV
open PySem PySem.Spec PyProof.Rows L2
/-! ### weaker questions -/
theorem PE.weak {X : Cx} {e : Expr} {t : TE} (p : PE X e t) : PE X e fun σ H Q => ∃ Q0 : VK, t σ H Q0 ∧ ∀ v H1, Q0 v H1 → Q v H1 :=
  ⟨fun pins s σ H Q I ⟨Q0, h0, imp⟩ => wpAny_mono (p.run pins s σ H Q0 I h0) (fun us s1 ⟨v, H1, I1, r1, q1⟩ => ⟨v, H1, I1, r1, imp v H1 q1⟩) fun _ _ z => z⟩
theorem wE.weak {X : Cx} {e : Expr} {σ : St} {H : Hp} {Q0 Q : VK} (h : wE X e σ H Q0) (imp : ∀ v H1, Q0 v H1 → Q v H1) : wE X e σ H Q := let ⟨t, p, q⟩ := h; ⟨_, PE.weak p, Q0, q, imp⟩
/-! ### what changes only at S -/
def ExS (S : Addr → Prop) (H H' : Hp) : Prop := ∀ a o, ¬ S a → H a = some o → H' a = some o
theorem ExS.of {S : Addr → Prop} {H H' : Hp} (e : Evl.Ex H H') : ExS S H H' := fun a o _ h => e a o h
theorem ExS.trans {S : Addr → Prop} {H H1 H2 : Hp} (e : ExS S H H1) (f : ExS S H1 H2) : ExS S H H2 := fun a o n h => f a o n (e a o n h)
theorem ExS.upd {S : Addr → Prop} {H : Hp} {b : Addr} {o : HO} (s : S b) : ExS S H (upd H b o) := fun a u n h => by
  rw [upd_ne fun e => n (by rw [e]; exact s)]
  exact h
theorem ExS.mono {S S' : Addr → Prop} {H H' : Hp} (e : ExS S H H') (h : ∀ a, S a → S' a) : ExS S' H H' := fun a o n k => e a o (fun z => n (h a z)) k
theorem ExS.exM {S : Addr → Prop} {H H' : Hp} (e : ExS S H H') : ExM S H H' := fun a o h n _ => e a o n h
theorem ExM.mono {S S' : Addr → Prop} {H H' : Hp} (e : ExM S H H') (h : ∀ a, S a → S' a) : ExM S' H H' := fun a o k n t => e a o k (fun z => n (h a z)) t
theorem ExM.lst {S : Addr → Prop} {H H' : Hp} {a : Addr} {xs : List V} (e : ExM S H H') (n : ¬ S a) (h : H a = some (.lst xs)) : H' a = some (.lst xs) := e a _ h n fun _ z => by cases z
/-- the tables stay -/
theorem Tabs.exS {S : Addr → Prop} {H H' : Hp} {T : List (Addr × Str)} (t : LamX.Tabs T H) (e : ExS S H H') (l : ∀ a, S a → ∃ xs, H a = some (.lst xs)) : LamX.Tabs T H' := fun p hp => by
  obtain ⟨ps, h1, h2, h3⟩ := t p hp
  refine ⟨ps, e _ _ (fun s => ?_) h1, h2, fun pos cv h => ?_⟩
  · obtain ⟨xs, hx⟩ := l _ s
    rw [hx] at h1
    cases h1
  · obtain ⟨c, rfl, hc⟩ := h3 pos cv h
    refine ⟨c, rfl, e _ _ (fun s => ?_) hc⟩
    obtain ⟨xs, hx⟩ := l _ s
    rw [hx] at hc
    cases hc
section
variable {X : Cx} {M : Addr → Prop} {σ : St} {H H' : Hp} {a b c e o : Expr} {da db d : PyData} {pos : Pos} {es : List Expr} {ds : List PyData} {D : Ends}
theorem ce_str {x : Str} {j} {Q : VK} (q : Q (.str x) H) : wE X (.Constant (.str x) j pos) σ H Q := ⟨_, pe_str, q⟩
theorem ce_tup {x1} {Q : VK} (h : wA X es σ H fun vs H1 => vs.length ≤ 1000 ∧ ∀ p, H1 p = none → Q (.ref p) (upd H1 p (.tup vs))) : wE X (.Tuple es x1 pos) σ H Q := by
  obtain ⟨t, p, q⟩ := h
  refine ⟨_, pe_tup (t := fun σ H Q => ∃ Q0, t σ H Q0 ∧ ∀ vs H1, Q0 vs H1 → Q vs H1) ⟨fun pos pins s σ H Q I ⟨Q0, h0, imp⟩ => wpAny_mono (p.run pos pins s σ H Q0 I h0) (fun us s1 ⟨vs, H1, I1, r1, q1⟩ => ⟨vs, H1, I1, r1, imp vs H1 q1⟩) fun _ _ z => z⟩, _, q, ?_⟩
  rintro vs H1 ⟨hl, hq⟩
  exact ⟨Evl.sz_of (by omega), hq⟩
/-- a method's call -/
theorem ce_meth {CX : CXT} {E : XK} {C f p dx : Addr} {fd : FuncData} {ps : List Str} {sp : Sp} {m : Str} {apos : Pos} {pl : Sem Bool} {j k : Nat} {fs : List (Str × V)} {Q : VK} (hn : AtN X σ o p) (c : Cls X.K C) (hm : Meth X.K C m f) (F : FnOk X.prog X.w X.K X.mg X.base CX k f fd ps sp) (hr : Room j X.A) (hkj : k ≤ j) (hb : Binds X.K fd ps []) (hx : Passes CX X E)
    (hp : H p = some (.ins C dx fs)) (hf : fs.lookup m = none) (h : wA X (e :: es) σ H fun vs H2 => sp (.ref p :: vs) H2 Q E)
    (he : starEach (e :: es) X.env = (false, eval e X.env) :: starEach es X.env := by rfl) (hpl : (backTo pos (starEach es X.env)).any (·.1) = false := by rfl)
    (hev : eval (.Call (.Attribute o m apos) (e :: es) [] pos) X.env = (do
      let ov ← eval o X.env
      standAt apos.atName
      let (f, first) ← holding [ov] (getMethod ov m pl)
      callWith pos f first (backTo pos (starEach (e :: es) X.env)) (backToKw pos (keywordEach [] X.env))) := by rfl) : wE X (.Call (.Attribute o m apos) (e :: es) [] pos) σ H Q := by
  refine ⟨_, pe_meth wE.pe c hm F (hr.mono hkj) hb .nil hx wA.pa he hpl hev, hn _ _ ⟨p, dx, fs, rfl, hp, hf, ?_⟩⟩
  obtain ⟨t, h1, h2⟩ := h
  refine ⟨t, h1, ?_⟩
  have e1 : (fun vs H2 => sp (V.ref p :: (vs ++ [])) H2 Q E) = fun vs H2 => sp (V.ref p :: vs) H2 Q E := by
    funext vs H1
    rw [List.append_nil]
  rw [e1]
  exact h2
theorem ce_meth0 {CX : CXT} {E : XK} {C f p dx : Addr} {fd : FuncData} {ps : List Str} {sp : Sp} {m : Str} {apos : Pos} {pl : Sem Bool} {j k : Nat} {fs : List (Str × V)} {Q : VK} (hn : AtN X σ o p) (c : Cls X.K C) (hm : Meth X.K C m f) (F : FnOk X.prog X.w X.K X.mg X.base CX k f fd ps sp) (hr : Room j X.A) (hkj : k ≤ j) (hb : Binds X.K fd ps []) (hx : Passes CX X E)
    (hp : H p = some (.ins C dx fs)) (hf : fs.lookup m = none) (h : sp [.ref p] H Q E)
    (hev : eval (.Call (.Attribute o m apos) [] [] pos) X.env = (do
      let ov ← eval o X.env
      standAt apos.atName
      let (f, first) ← holding [ov] (getMethod ov m pl)
      callWith pos f first (backTo pos (starEach [] X.env)) (backToKw pos (keywordEach [] X.env))) := by rfl) : wE X (.Call (.Attribute o m apos) [] [] pos) σ H Q :=
  ⟨_, pe_meth0 wE.pe c hm F (hr.mono hkj) hb .nil hx hev, hn _ _ ⟨p, dx, fs, rfl, hp, hf, h⟩⟩
/-- a property's value -/
theorem ce_prop {CX : CXT} {E : XK} {C p g b dx : Addr} {f : Str} {fd : FuncData} {ps : List Str} {sp : Sp} {j k : Nat} {fs : List (Str × V)} {Q : VK} (hn : AtN X σ o b) (c : Cls X.K C) (hp : PropOf X.K C f p g) (F : FnOk X.prog X.w X.K X.mg X.base CX k g fd ps sp) (hr : Room j X.A) (hkj : k + 1 ≤ j) (hb : Binds X.K fd ps []) (hx : Passes CX X.nox E)
    (hi : H b = some (.ins C dx fs)) (h : sp [.ref b] H Q E) (hab : attributeBase o f X.env (eval o X.env) = eval o X.env := by rfl) : wE X (.Attribute o f pos) σ H Q :=
  ⟨_, pe_prop wE.pe c hp F (hr.mono hkj) hb .nil hx hab, hn _ _ ⟨b, dx, fs, rfl, hi, h⟩⟩
/-! ### try -/
abbrev tsW (X : Cx) (suite : List Stmt) : HdT := fun a cls d D σ H => ∀ oe pn, Zc cls d oe → (∃ vs, oe.data = .fields vs) → wB (X.suite a ((a, oe) :: pn)) suite D σ H
theorem psW {X : Cx} {suite : List Stmt} {a : Addr} {oe : Obj} {cls : Value} {d : Option Addr} {pn : List (Addr × Obj)} (hz : Zc cls d oe) (hd : ∃ vs, oe.data = .fields vs) : PSs (X.suite a ((a, oe) :: pn)) suite (tsW X suite a cls d) := ⟨fun pins s σ H D I h => wB.ps.run pins s σ H D I (h oe pn hz hd)⟩
theorem s_try {body : List Stmt} {h₀ : ExceptHandler} {hds : List ExceptHandler} {l : List (Value × Option Nat × HdT)} {Wout : WX} (hs : X.stack = X.env :: X.outer) (hf : X.env.frame = some X.env.locals) (hN : X.N.Nodup) (tk : Takes X Wout) (hh : Hds X (h₀ :: hds) l)
    (h : ∀ pn xe, Takes (X.tr pn xe) (wHs X.K Wout D l) → wB (X.tr pn xe) body D σ H) : wS X (.Try body (h₀ :: hds) [] [] pos) D σ H :=
  ⟨_, ps_tryAs (tb := fun W D σ H => ∀ pn xe, Takes (X.tr pn xe) W → wB (X.tr pn xe) body D σ H) hs hf hN tk (fun W pn xe tkW _ => ⟨fun pins s σ H D I h => wB.ps.run pins s σ H D I (h pn xe tkW)⟩) hh, h⟩
/-- e.f, e the exception that the clause holds -/
theorem ce_xf {X : Cx} {a C : Addr} {oe : Obj} {cls : Value} {d : Option Addr} {pn : List (Addr × Obj)} {f : Str} {Q : VK} (xf : XfC X.K C) (n : PySem.W.findIn X.K (.ref C) f = some none) (hz : Zc cls d oe) (hd : ∃ vs, oe.data = .fields vs)
    (h : wE (X.suite a ((a, oe) :: pn)) e σ H fun x H1 => x = .ref a ∧ cls = .ref C ∧ ∃ dd fs v, d = some dd ∧ H1 dd = some (.xd fs) ∧ fs.lookup f = some v ∧ Q v H1)
    (hab : attributeBase e f X.env (eval e X.env) = eval e X.env := by rfl) : wE (X.suite a ((a, oe) :: pn)) (.Attribute e f pos) σ H Q := ⟨_, pe_xf xf n hz hd wE.pe hab, h⟩
end
end GV

namespace GV
open PySem PySem.Spec PyProof.Rows L2
/-! ### the script: a list of whole numbers that nothing changes, wherever it stands -/
def ScAt (K : PySem.W.Frag) (M : Addr → Prop) (H : Hp) (a : Addr) (ns : List Int) : Prop := (¬ M a ∧ Rd H a (.lst (ns.map V.int))) ∨ ∀ H', SqL K H' a (ns.map V.int)
section
variable {K : PySem.W.Frag} {M M' : Addr → Prop} {H H' : Hp} {a : Addr} {ns : List Int}
theorem ScAt.of (h : SqL K H a (ns.map V.int)) (n : ¬ M a) : ScAt K M H a ns := h.elim (fun h => .inl ⟨n, h⟩) fun h => .inr fun _ => .inr h
theorem ScAt.sq (h : ScAt K M H a ns) : SqL K H a (ns.map V.int) := h.elim (fun h => .inl h.2) fun h => h H
theorem ScAt.mono (h : ScAt K M H a ns) (hm : ∀ a, M' a → M a) (e : ExM M H H') : ScAt K M' H' a ns := h.elim (fun ⟨n, h⟩ => .inl ⟨fun z => n (hm _ z), Rd.exM h n e⟩) .inr
end
section
variable {X : Cx} {M : Addr → Prop} {σ : St} {H : Hp} {a : Addr} {e b : Expr} {ns : List Int} {pos : Pos}
theorem pd_scIx {i : Nat} {j : Nat} {x : Str} {p : Pos} {z : Int} (h : ScAt X.K M H a ns) (hb : PD X M b σ H (.int (i : Nat))) (hz : ns[i]? = some z) (hN : X.N[j]? = some x := by rfl) (hv : Vis X.env.scope x := by first | exact .inl rfl | exact .inr (.inl rfl)) (hs : σ[j]? = some (some (.ref a)) := by rfl)
    (hd : (x == ("__debug__" : Str)) = false := by decide) (hcd : (x == ("__classdict__" : Str)) = false := by decide) (hpl : PlainIx b := by exact fun _ _ => rfl) : PD X M (.Subscript (.Name x p) b pos) σ H (.int z) := .mk fun H1 e1 al Q q =>
  ⟨_, pe_ix ix_seq wE.pe wE.pe hpl, ce_name hN hv hs (hb.run H1 e1 al _ fun y H2 x2 ry => by
    cases ry
    have hq := ((h.mono (fun _ z => z) e1).mono (fun _ z => z) (.of x2)).sq
    exact .inl ⟨_, _, (i : Nat), .int z, rfl, rfl, hq, atI_nat (by rw [List.getElem?_map, hz]; rfl), q _ H2 x2 (.int z)⟩) hd hcd⟩
theorem pd_scLen {j : Nat} {x : Str} {p p2 : Pos} (h : ScAt X.K M H a ns) (hg : Gl X "len") (hm : X.mg "len" = none) (hN : X.N[j]? = some x := by rfl) (hv : Vis X.env.scope x := by first | exact .inl rfl | exact .inr (.inl rfl)) (hs : σ[j]? = some (some (.ref a)) := by rfl)
    (hd : (x == ("__debug__" : Str)) = false := by decide) (hcd : (x == ("__classdict__" : Str)) = false := by decide) (hst : starEach (.Name x p :: []) X.env = (false, eval (.Name x p) X.env) :: starEach [] X.env := by rfl) (hpl : (backTo pos (starEach [] X.env)).any (·.1) = false := by rfl) :
    PD X M (.Call (.Name "len" p2) [.Name x p] [] pos) σ H (.int ns.length) := .mk fun H1 e1 al Q q =>
  ⟨_, pe_callB call_len_seq hg hm PySem.boot_len wA.pa (by decide) (by decide) hst hpl, ca_cons (ce_name hN hv hs (ca_nil ⟨a, ns.map V.int, rfl, .inl ((h.mono (fun _ z => z) e1).sq), by
    rw [List.length_map]
    exact q _ H1 (Evl.Ex.refl H1) (.int _)⟩) hd hcd) hst⟩
theorem fd_scSlice {lo hi : Option Expr} {l u : Option Int} {j : Nat} {x : Str} {p p2 : Pos} (h : ScAt X.K M H a ns) (hl : OD X M lo σ H l) (hu : OD X M hi σ H u) (hN : X.N[j]? = some x := by rfl) (hv : Vis X.env.scope x := by first | exact .inl rfl | exact .inr (.inl rfl)) (hs : σ[j]? = some (some (.ref a)) := by rfl)
    (hd : (x == ("__debug__" : Str)) = false := by decide) (hcd : (x == ("__classdict__" : Str)) = false := by decide) : FD X M (.Subscript (.Name x p) (.Slice lo hi none p2) pos) σ H (cutD (ns.map PyData.int) l u) := by
  obtain ⟨tl, pl, rl⟩ := hl.ex
  obtain ⟨tu, pu, ru⟩ := hu.ex
  refine .mk fun H1 e1 al Q q => ⟨_, pe_slice sl_list wE.pe pl pu, ce_name hN hv hs ?_ hd hcd⟩
  refine rl H1 e1 al _ fun H3 x3 => ru H3 (e1.trans (.of x3)) (al.mono x3) _ fun H4 x4 => ?_
  have hq := ((h.mono (fun _ z => z) e1).mono (fun _ z => z) (.of (x3.trans x4))).sq
  exact ⟨_, _, rfl, hq, fun p hp => q p _ _ (Evl.fresh_back (x3.trans x4) hp) ((x3.trans x4).trans (Evl.Ex.new hp)) upd_same (((RpAll.ints ns).cut l u))⟩
end
end GV

-- out of B3
namespace GV
open PySem PySem.Spec PyProof.Rows L2
theorem _root_.L2.Room.u2 {k : Nat} {A : Around} (r : Room k A) : A.units + 2 < cLine := Nat.lt_of_le_of_lt (Nat.add_le_add_left (by decide : 2 ≤ 64) _) r.units
theorem cutD_take (xs : List PyData) (i : Nat) : cutD xs none (some (i : Int)) = xs.take i := by
  unfold cutD
  rw [HT.sIx_none, HT.sIx_nat, List.drop_zero, Nat.sub_zero]
  by_cases h : i ≤ xs.length
  · rw [Nat.min_eq_left h]
  · rw [Nat.min_eq_right (by omega), List.take_of_length_le (Nat.le_refl _), List.take_of_length_le (by omega)]
theorem cutD_drop (xs : List PyData) (i : Nat) : cutD xs (some (i : Int)) none = xs.drop i := by
  unfold cutD
  rw [HT.sIx_none, HT.sIx_nat]
  by_cases h : i ≤ xs.length
  · rw [Nat.min_eq_left h, List.take_of_length_le]
    rw [List.length_drop]
    exact Nat.le_refl _
  · rw [Nat.min_eq_right (by omega), Nat.sub_self, List.take_zero, List.drop_of_length_le (by omega)]
theorem take_snoc {α : Type} {l : List α} {i : Nat} {x : α} (h : l[i]? = some x) : l.take (i + 1) = l.take i ++ [x] := by
  rw [List.take_add_one, h]
  rfl
end GV
-- out of B4
namespace GV
open PySem PySem.Spec PyProof.Rows L2
theorem ixD_list {ds : List PyData} {i : Nat} {d : PyData} (h : ds[i]? = some d) : ixD (.list ds) (.int (i : Nat)) = some d := atI_nat h
theorem ixD_ints {ns : List Int} {i : Nat} {z : Int} (h : ns[i]? = some z) : ixD (.list (ns.map PyData.int)) (.int (i : Nat)) = some (.int z) := ixD_list (by rw [List.getElem?_map, h]; rfl)
section
variable {X : Cx} {M : Addr → Prop} {σ : St} {H H' : Hp} {a e : Expr} {d : PyData} {pos : Pos}
/-- int(e), e an int -/
theorem pd_intI {p : Pos} {i : Int} (nb : NoB X.mg) (hg : Gl X "int") (h : PD X M e σ H (.int i)) (hs : starEach (e :: []) X.env = (false, eval e X.env) :: starEach [] X.env := by rfl) (hpl : (backTo pos (starEach [] X.env)).any (·.1) = false := by rfl) :
    PD X M (.Call (.Name "int" p) [e] [] pos) σ H (.int i) := pd_callTy call_int1 hg nb.int PyProof.Rows.boot_int (ad_cons h ad_nil hs) rn_int (by decide) (by decide) hs hpl
theorem pd_intB {p : Pos} {k : Bool} (nb : NoB X.mg) (hg : Gl X "int") (h : PD X M e σ H (.bool k)) (hs : starEach (e :: []) X.env = (false, eval e X.env) :: starEach [] X.env := by rfl) (hpl : (backTo pos (starEach [] X.env)).any (·.1) = false := by rfl) :
    PD X M (.Call (.Name "int" p) [e] [] pos) σ H (.int (if k then 1 else 0)) := pd_callTy call_int1 hg nb.int PyProof.Rows.boot_int (ad_cons h ad_nil hs) rn_intB (by decide) (by decide) hs hpl
theorem pd_len {p : Pos} {n : Nat} (nb : NoB X.mg) (hg : Gl X "len") (h : PD X M e σ H d) (hn : lenD d = some n) (hs : starEach (e :: []) X.env = (false, eval e X.env) :: starEach [] X.env := by rfl) (hpl : (backTo pos (starEach [] X.env)).any (·.1) = false := by rfl) :
    PD X M (.Call (.Name "len" p) [e] [] pos) σ H (.int n) := pd_callB call_len hg nb.len PySem.boot_len (ad_cons h ad_nil hs) (rn_len hn) (by decide) (by decide) hs hpl
theorem pd_abs {p : Pos} {i : Int} (nb : NoB X.mg) (hg : Gl X "abs") (h : PD X M e σ H (.int i)) (hs : starEach (e :: []) X.env = (false, eval e X.env) :: starEach [] X.env := by rfl) (hpl : (backTo pos (starEach [] X.env)).any (·.1) = false := by rfl) :
    PD X M (.Call (.Name "abs" p) [e] [] pos) σ H (.int (if i < 0 then -i else i)) := pd_callB call_abs hg nb.abs PyProof.Rows.boot_abs (ad_cons h ad_nil hs) rn_abs (by decide) (by decide) hs hpl
theorem pd_sum {p : Pos} {ns : List Int} (hc : X.calm = true) (nb : NoB X.mg) (hg : Gl X "sum") (h : PD X M e σ H (.list (ns.map PyData.int))) (hs : starEach (e :: []) X.env = (false, eval e X.env) :: starEach [] X.env := by rfl) (hpl : (backTo pos (starEach [] X.env)).any (·.1) = false := by rfl) :
    PD X M (.Call (.Name "sum" p) [e] [] pos) σ H (.int ns.sum) := pd_callB (cr_sum hc) hg nb.sum PyProof.Rows.boot_sum (ad_cons h ad_nil hs) rn_sum (by decide) (by decide) hs hpl
end
end GV
-- out of B5
namespace GV
open PySem PySem.Spec PyProof.Rows L2
section
variable {X : Cx} {M : Addr → Prop} {σ : St} {H H' : Hp} {a b c e o : Expr} {da db d : PyData} {pos : Pos} {es : List Expr} {ds : List PyData} {D : Ends}
/-- o.f = e, o an exception being made -/
theorem cs_ost {f : Str} {p' : Pos} (h : wE X e σ H fun y H1 => wE X o σ H1 fun x H2 => ∃ a C, x = .ref a ∧ OexC X.K C ∧ PySem.W.findIn X.K (.ref C) f = some none ∧
      ((H2 a = some (exo a C none) ∧ ∀ dx, H2 dx = none → dx ≠ a → D.nx σ (upd (upd H2 dx (exd dx [(f, y)])) a (exo a C (some dx)))) ∨
        ∃ dx fs, H2 a = some (exo a C (some dx)) ∧ H2 dx = some (exd dx fs) ∧ fs.length ≤ 900 ∧ D.nx σ (upd H2 dx (exd dx ((f, y) :: fs)))))
    (hs : swapsWith e (some (.Attribute o f p')) pos.line X.env = pure false := by rfl) : wS X (.Assign [.Attribute o f p'] e pos) D σ H := ⟨_, ps_ost wE.pe wE.pe hs, h⟩
/-- o.f, a plain attribute of an object -/
theorem ce_fld {f : Str} {Q : VK} (h : wE X e σ H fun x H1 => ∃ a C dx fs v, x = .ref a ∧ H1 a = some (.ins C dx fs) ∧ Cls X.K C ∧ NoAttr X.K C f ∧ fs.lookup f = some v ∧ Q v H1) (hb : attributeBase e f X.env (eval e X.env) = eval e X.env := by rfl) : wE X (.Attribute e f pos) σ H Q := ⟨_, pe_fld wE.pe hb, h⟩
/-- o.f = e -/
theorem cs_fld {f : Str} {p' : Pos} (h : wE X e σ H fun y H1 => wE X o σ H1 fun x H2 => ∃ a C dx fs, x = .ref a ∧ H2 a = some (.ins C dx fs) ∧ Cls X.K C ∧ NoAttr X.K C f ∧ fs.length < 1000 ∧ D.nx σ (upd H2 a (.ins C dx (putF f y fs))))
    (hs : swapsWith e (some (.Attribute o f p')) pos.line X.env = pure false := by rfl) : wS X (.Assign [.Attribute o f p'] e pos) D σ H := ⟨_, ps_fld wE.pe wE.pe hs, h⟩
/-- a call that may raise -/
theorem ce_callX {sp : Sp} {W : WX} {Q : VK} {j k : Nat} {x : Str} {p : Pos} (cl : Cl X.prog X.w X.K X.mg X.base (L2.CX X.prog X.w) k x sp) (hr : Room j X.A) (hkj : k ≤ j) (hg : Gl X x) (tk : Takes X W) (h : wA X (e :: es) σ H fun vs H2 => sp vs H2 Q (fun cls d H' => W cls d σ H'))
    (hdb : (x == ("__debug__" : Str)) = false := by decide) (he : starEach (e :: es) X.env = (false, eval e X.env) :: starEach es X.env := by rfl) (hpl : (backTo pos (starEach es X.env)).any (·.1) = false := by rfl) : wE X (.Call (.Name x p) (e :: es) [] pos) σ H Q := by
  obtain ⟨f, fd, ps, F, hm, hk, hb⟩ := cl.ex
  exact ⟨_, pe_callS F (hr.mono hkj) hg hm hk hb (fun σ => passAt tk σ) wA.pa hdb he hpl, h⟩
theorem cs_if {A B : List Stmt} (h : wT X c σ H fun k H2 => if k = true then wB X A D σ H2 else wB X B D σ H2) : wS X (.If c A B pos) D σ H := ⟨_, ps_if wT.pt wB.ps wB.ps, h⟩
theorem ct_td {k : Bool} {Q : Bool → Hp → Prop} (al : Alive M H) (h : TD X M e σ H k) (q : ∀ H2, Evl.Ex H H2 → Q k H2) : wT X e σ H Q := h.run H (ExM.refl H) al Q q
end
end GV
-- out of B7
namespace GV
open PySem PySem.Spec PyProof.Rows L2
section
variable {X : Cx} {M : Addr → Prop} {σ : St} {H : Hp} {e : Expr} {pos : Pos}
/-- for x in range(n) -/
theorem s_forR {n slot : Nat} {x : Str} {p p1 p2 : Pos} {body : List Stmt} {D : Ends} (hp : PassesOwn (model X.prog X.w) X.A X.env X.xe) (hc : X.calm = true) (hN : X.N.Nodup) (hx : X.N[slot]? = some x) (hl : Loc X.env.scope x) (hg : Gl X "range") (hm : X.mg "range" = none) (h : PD X M e σ H (.int (n : Nat))) (hn : n ≤ 1000000) (al : Alive M H) (J : Hp → Nat → St → Hp → Prop)
    (h0 : ∀ H1, Evl.Ex H H1 → J H1 0 σ H1) (hk : ∀ H1 i σ' H', Evl.Ex H H1 → J H1 i σ' H' → ExM M H1 H' ∧ Alive M H')
    (ht : ∀ H1 i σ' H' H2, Evl.Ex H H1 → i < n → J H1 i σ' H' → Evl.Ex H' H2 → wB X body { D with nx := J H1 (i + 1), ct := J H1 (i + 1), bk := D.nx } (σ'.set slot (some (.int (i : Nat)))) H2)
    (hd : ∀ H1 σ' H', Evl.Ex H H1 → J H1 n σ' H' → D.nx σ' H') (hs : starEach [e] X.env = [(false, eval e X.env)] := by rfl) (hs' : starEach (e :: []) X.env = (false, eval e X.env) :: starEach [] X.env := by rfl)
    (hf : ∀ x, foldedSetIterable (.Call (.Name "range" p) [e] [] p1) X.env x = pure x := by intro _; rfl) (hfn : X.fn x = true ∨ X.env.scope.names.lookup x = some .local := by first | exact .inl rfl | exact .inr rfl | assumption) : wS X (.For (.Name x p2) (.Call (.Name "range" p) [e] [] p1) body [] pos) D σ H := by
  refine s_for (t := .one slot) hp hc (src_range1 hg hm h (by omega) (by omega) hs hs') (pg_name hN hx hl hfn) al J h0 hk (fun _ _ => trivial) ?_ ?_ hf
  · rintro H1 i d σ' H' H2 σ2 x1 hd j x2 ⟨v, rv, rfl⟩
    obtain ⟨k, hk', rfl⟩ := List.mem_iff_getElem?.mp (List.mem_of_getElem? hd) |> fun _ => (by
      rw [List.getElem?_map] at hd
      obtain ⟨k, h1, h2⟩ := Option.map_eq_some_iff.mp hd
      exact ⟨k, h1, h2.symm⟩ : ∃ k, (List.range (Int.toNat (n : Nat)))[i]? = some k ∧ d = PyData.int (0 + (k : Nat)))
    rw [List.getElem?_range (by
      have := (List.getElem?_eq_some_iff.mp hk').1
      simpa using this)] at hk'
    have hin : i < n := by
      have := (List.getElem?_eq_some_iff.mp hd).1
      simpa using this
    cases hk'
    cases rv
    rw [Int.zero_add]
    exact ht H1 i σ' H' H2 x1 hin j x2
  · intro H1 σ' H' x1 j
    refine hd H1 σ' H' x1 ?_
    have e1 : ((List.range (Int.toNat (n : Nat))).map fun i => PyData.int (0 + (i : Nat))).length = n := by simp
    rw [← e1]
    exact j
end
end GV
-- out of B8
namespace GV
open PySem PySem.Spec PyProof.Rows L2
/-! ### which data == may look at -/
theorem shaped_of {d : PyData} (h1 : d.canLay0 = true) (h2 : d.depth ≤ 64) : SeqAt.shaped d = true := by
  simp [SeqAt.shaped, h1, h2]
/-- flat parts, at most one deep -/
def one1 : PyData → Prop
  | .int _ => True
  | .tuple [.int _, .int _] => True
  | _ => False
theorem lay1 {d : PyData} (h : one1 d) : d.canLay0 = true ∧ d.depth ≤ 1 := by
  unfold one1 at h
  split at h
  · exact ⟨rfl, by show 0 ≤ 1; omega⟩
  · exact ⟨rfl, Nat.le_refl 1⟩
  · cases h
theorem lays1 {ds : List PyData} (h : ∀ d ∈ ds, one1 d) : (PyData.list ds).canLay0 = true ∧ (PyData.list ds).depth ≤ 2 := by
  have key : ∀ ds : List PyData, (∀ d ∈ ds, one1 d) → PyData.canLayAll0 ds = true ∧ PyData.depthAll ds ≤ 1 := by
    intro ds
    induction ds with
    | nil => exact fun _ => ⟨rfl, Nat.zero_le _⟩
    | cons d r ih =>
      intro h
      obtain ⟨a, b⟩ := lay1 (h d (List.mem_cons_self))
      obtain ⟨a2, b2⟩ := ih fun x hx => h x (List.mem_cons_of_mem _ hx)
      refine ⟨?_, ?_⟩
      · show (d.canLay0 && PyData.canLayAll0 r) = true
        rw [a, a2]
        rfl
      · show max d.depth (PyData.depthAll r) ≤ 1
        omega
  obtain ⟨a, b⟩ := key ds h
  refine ⟨a, ?_⟩
  show PyData.depthAll ds + 1 ≤ 2
  omega
theorem shaped1 {ds : List PyData} (h : ∀ d ∈ ds, one1 d) : SeqAt.shaped (.list ds) = true := by
  obtain ⟨a, b⟩ := lays1 h
  exact shaped_of a (by omega)
theorem shapedI (ns : List Int) : SeqAt.shaped (.list (ns.map PyData.int)) = true := shaped1 fun d hd => by
  obtain ⟨k, _, rfl⟩ := List.mem_map.mp hd
  trivial
theorem atI_last {α : Type} (l : List α) (x : α) : atI (l ++ [x]) (-1) = some x := by
  unfold atI ixN
  rw [if_neg (by omega), List.length_append, List.length_singleton, if_pos (by omega)]
  show (l ++ [x])[((-1 : Int) + ((l.length + 1 : Nat) : Int)).toNat]? = some x
  rw [show ((-1 : Int) + ((l.length + 1 : Nat) : Int)).toNat = l.length by omega]
  simp
section
variable {X : Cx} {M : Addr → Prop} {σ : St} {H : Hp} {o e : Expr} {pos : Pos}
/-- o.index(e), a whole number that is there -/
theorem pd_index {apos cpos : Pos} {ns : List Int} {k : Int} {j : Nat} (ho : PD X M o σ H (.list (ns.map PyData.int))) (he : PD X M e σ H (.int k)) (hj : ns[j]? = some k) (hf : ∀ m z, m < j → ns[m]? = some z → z ≠ k)
    (h1 : attributeBase o ("index" : Str) X.env (eval o X.env) = eval o X.env := by rfl)
    (h2 : ((((backTo cpos (starEach (e :: []) X.env)).all fun x => !x.1) && (backToKw cpos (keywordEach [] X.env)).all fun x => x.1.isSome) && decide (((e :: []).length + ([] : List Keyword).length + if ([] : List Keyword).isEmpty = true then 0 else 1) < 30)) = true := by rfl)
    (h3 : (apos.endLine == cpos.line) = true := by rfl) (h4 : starEach (e :: []) X.env = (false, eval e X.env) :: starEach [] X.env := by rfl) (h5 : (backTo cpos (starEach [] X.env)).any (·.1) = false := by rfl) :
    PD X M (.Call (.Attribute o "index" apos) [e] [] cpos) σ H (.int (j : Nat)) := .mk fun H1 e1 al Q q => by
  refine ⟨_, pe_bm PySem.F.plainAttrs_list PySem.F.slot_list_index PySem.F.type_list_index mt_index wE.pe (pa_cons wE.pe pa_nil h4) h1 h2 h3 h4 h5, ?_⟩
  refine ho.run H1 e1 al _ fun x H2 x2 r => ?_
  cases r with
  | lst m hs rs =>
    refine ⟨.inl ⟨rfl, _, .inl hs⟩, he.run H2 (e1.trans (.of x2)) (al.mono x2) _ fun y H3 x3 ry => ?_⟩
    cases ry
    have hs3 := GV.Rd.exM hs m (.of x3)
    have ev := rs.of_ints
    subst ev
    refine ⟨_, _, _, j, .int k, rfl, rfl, .inl hs3, rfl, ?_, ?_, ?_, ?_, q _ H3 (x2.trans x3) (.int _)⟩
    · rw [List.all_eq_true]
      intro v hv
      obtain ⟨z, _, rfl⟩ := List.mem_map.mp hv
      rfl
    · rw [List.getElem?_map, hj]
      rfl
    · simp [eqV]
    · intro m z hm hz
      rw [List.getElem?_map] at hz
      obtain ⟨u, hu, rfl⟩ := Option.map_eq_some_iff.mp hz
      simpa [eqV] using hf m u hm hu
end
end GV
-- out of B13
namespace GV
open PySem PySem.Spec PyProof.Rows L2
section
variable {X : Cx} {M : Addr → Prop} {σ : St} {H H' : Hp} {a b c e o : Expr} {da db d : PyData} {pos : Pos} {es : List Expr} {ds : List PyData} {D : Ends}
theorem ce_and {rest : List Expr} {Q : VK} (h : wE X a σ H fun x H2 => ∃ k, x = .bl k ∧ (k = true → wE X (.BoolOp .And (b :: rest) pos) σ H2 Q) ∧ (k = false → Q (.bl false) H2)) : wE X (.BoolOp .And (a :: b :: rest) pos) σ H Q := by
  refine ⟨_, pe_and wE.pe wE.pe, wE.weak h ?_⟩
  rintro x H2 ⟨k, rfl, h1, h2⟩
  refine ⟨k, rfl, ?_⟩
  cases k with
  | true => exact h1 rfl
  | false => exact h2 rfl
theorem ce_one {op} {Q : VK} (h : wE X a σ H Q) : wE X (.BoolOp op [a] pos) σ H Q := ⟨_, pe_one wE.pe, h⟩
theorem ce_eq {Q : VK} (hu : X.A.units + 64 < cLine) (h : wE X a σ H fun x H2 => wE X b σ H2 fun y H3 => ∃ da db, Dp X.K H3 x da ∧ Dp X.K H3 y db ∧ SeqAt.shaped da = true ∧ SeqAt.shaped db = true ∧ Q (.bl (PyData.eqv da db)) H3) : wE X (.Compare a [.Eq] [b] pos) σ H Q :=
  ⟨_, pe_cmpR (op_eqD hu) wE.pe wE.pe (nomark _), h⟩
end
end GV
-- out of B15
namespace GV
open PySem PySem.Spec PyProof.Rows L2
section
variable {X : Cx} {M : Addr → Prop} {σ : St} {H H' : Hp} {a b c e o : Expr} {da db d : PyData} {pos : Pos} {es : List Expr} {ds : List PyData} {D : Ends}
theorem ce_lst {Q : VK} (h : wA X es σ H fun vs H1 => vs.length ≤ 1000 ∧ ∀ p, H1 p = none → Q (.ref p) (upd H1 p (.lst vs))) : wE X (.List es pos) σ H Q := by
  obtain ⟨t, p, q⟩ := h
  refine ⟨_, pe_lst (t := fun σ H Q => ∃ Q0, t σ H Q0 ∧ ∀ vs H1, Q0 vs H1 → Q vs H1) ⟨fun pos pins s σ H Q I ⟨Q0, h0, imp⟩ => wpAny_mono (p.run pos pins s σ H Q0 I h0) (fun us s1 ⟨vs, H1, I1, r1, q1⟩ => ⟨vs, H1, I1, r1, imp vs H1 q1⟩) fun _ _ z => z⟩, _, q, ?_⟩
  rintro vs H1 ⟨hl, hq⟩
  exact ⟨Evl.sz_of (by omega), hq⟩
theorem ct_val {Q : Bool → Hp → Prop} (h : wE X e σ H fun x H2 => ∃ k, x = .bl k ∧ Q k H2) (he : ∀ whole, isTrue e X.env whole = (do let v ← whole; standAt e.pos; holding [v] (truthy v)) := by intro _; rfl) : wT X e σ H Q := ⟨_, pt_val wE.pe he, h⟩
theorem ct_eq {Q : Bool → Hp → Prop} (hu : X.A.units + 64 < cLine) (h : wE X a σ H fun x H2 => wE X b σ H2 fun y H3 => ∃ da db, Dp X.K H3 x da ∧ Dp X.K H3 y db ∧ SeqAt.shaped da = true ∧ SeqAt.shaped db = true ∧ Q (PyData.eqv da db) H3) : wT X (.Compare a [.Eq] [b] pos) σ H Q :=
  ⟨_, pt_cmpR (op_eqD hu) wE.pe wE.pe (nomark _), wE.weak h fun x H2 h2 => wE.weak h2 fun y H3 ⟨da, db, h1, h2, h3, h4, q⟩ => ⟨da, db, h1, h2, h3, h4, _, rfl, q⟩⟩
theorem ct_not {Q : Bool → Hp → Prop} (h : wT X a σ H fun k H2 => Q (!k) H2) : wT X (.UnaryOp .Not a pos) σ H Q := ⟨_, pt_not wT.pt, h⟩
theorem ce_isN {j p2} {Q : VK} (h : wE X a σ H fun x H2 => Q (.bl (decide (x = .non))) H2) : wE X (.Compare a [.Is] [.Constant .none j p2] pos) σ H Q :=
  ⟨_, pe_cmpR op_isN wE.pe pe_non (nomark _), wE.weak h fun x H2 q => ⟨rfl, q⟩⟩
end
end GV
-- out of B18
namespace GV
open PySem PySem.Spec PyProof.Rows L2
section
variable {X : Cx} {σ : St} {H : Hp} {a b : Expr} {pos : Pos}
theorem ct_lt {Q : Bool → Hp → Prop} (h : wE X a σ H fun x H2 => wE X b σ H2 fun y H3 => ∃ i j, x = .int i ∧ y = .int j ∧ Q (decide (i < j)) H3) : wT X (.Compare a [.Lt] [b] pos) σ H Q :=
  ⟨_, pt_cmpR op_lt wE.pe wE.pe (nomark _), wE.weak h fun x H2 h2 => wE.weak h2 fun y H3 ⟨i, j, h1, h2, q⟩ => ⟨i, j, h1, h2, _, rfl, q⟩⟩
end
end GV
-- out of B19
namespace GV
open PySem PySem.Spec PyProof.Rows L2
section
variable {X : Cx} {σ : St} {H : Hp} {a b e o : Expr} {pos : Pos}
theorem PT.weak {X : Cx} {e : Expr} {t : TT} (p : PT X e t) : PT X e fun σ H Q => ∃ Q0 : Bool → Hp → Prop, t σ H Q0 ∧ ∀ v H1, Q0 v H1 → Q v H1 :=
  ⟨fun pins s σ H Q I ⟨Q0, h0, imp⟩ => wpAny_mono (p.run pins s σ H Q0 I h0) (fun us s1 ⟨H1, I1, q1⟩ => ⟨H1, I1, imp _ H1 q1⟩) fun _ _ z => z⟩
theorem wT.weak {Q0 Q : Bool → Hp → Prop} (h : wT X e σ H Q0) (imp : ∀ v H1, Q0 v H1 → Q v H1) : wT X e σ H Q := let ⟨t, p, q⟩ := h; ⟨_, PT.weak p, Q0, q, imp⟩
theorem cw_and1 {Q : Bool → Hp → Prop} (h : wT X a σ H Q) : wW X (.BoolOp .And [a] pos) σ H Q := ⟨_, pw_and1 wT.pt, h⟩
theorem cw_and {rest : List Expr} {Q : Bool → Hp → Prop} (h : wT X a σ H fun k H2 => (k = true → wW X (.BoolOp .And (b :: rest) pos) σ H2 Q) ∧ (k = false → Q false H2)) : wW X (.BoolOp .And (a :: b :: rest) pos) σ H Q :=
  ⟨_, pw_and wT.pt wW.pw, wT.weak h fun k H2 ⟨h1, h2⟩ => by
    cases k with
    | true => exact h1 rfl
    | false => exact h2 rfl⟩
theorem ct_w {Q : Bool → Hp → Prop} (h : wW X e σ H Q) : wT X e σ H Q := let ⟨t, p, q⟩ := h; ⟨t, p.pt, q⟩
theorem ct_gt {Q : Bool → Hp → Prop} (h : wE X a σ H fun x H2 => wE X b σ H2 fun y H3 => ∃ i j, x = .int i ∧ y = .int j ∧ Q (decide (j < i)) H3) : wT X (.Compare a [.Gt] [b] pos) σ H Q :=
  ⟨_, pt_cmpR op_gt wE.pe wE.pe (nomark _), wE.weak h fun x H2 h2 => wE.weak h2 fun y H3 ⟨i, j, h1, h2, q⟩ => ⟨i, j, h1, h2, _, rfl, q⟩⟩
theorem ce_propE {CX : CXT} {E : XK} {C p g : Addr} {f : Str} {fd : FuncData} {ps : List Str} {sp : Sp} {j k : Nat} {Q : VK} (c : Cls X.K C) (hp : PropOf X.K C f p g) (F : FnOk X.prog X.w X.K X.mg X.base CX k g fd ps sp) (hr : Room j X.A) (hkj : k + 1 ≤ j) (hb : Binds X.K fd ps []) (hx : Passes CX X.nox E)
    (h : wE X o σ H fun x H1 => ∃ a dx fs, x = .ref a ∧ H1 a = some (.ins C dx fs) ∧ sp [.ref a] H1 Q E) (hab : attributeBase o f X.env (eval o X.env) = eval o X.env := by rfl) : wE X (.Attribute o f pos) σ H Q :=
  ⟨_, pe_prop wE.pe c hp F (hr.mono hkj) hb .nil hx hab, wE.weak h fun x H1 ⟨a, dx, fs, h1, h2, h3⟩ => ⟨a, dx, fs, h1, h2, h3⟩⟩
/-- C(), an object made -/
theorem ce_make0 {CX : CXT} {E : XK} {f C : Addr} {fd : FuncData} {ps : List Str} {sp : Sp} {j k : Nat} {x : Str} {p : Pos} {Q : VK} (m : Mk X.K C f) (F : FnOk X.prog X.w X.K X.mg X.base CX k f fd ps sp) (hr : Room j X.A) (hkj : k + 1 ≤ j) (hg : Gl X x) (gC : X.mg x = some (.ref C)) (hb : Binds X.K fd ps []) (hx : Passes CX X E)
    (h : ∀ a dx, H a = none → H dx = none → dx ≠ a → sp [.ref a] (upd (upd H dx (.own a)) a (.ins C dx [])) (fun v H2 => v = .non ∧ Q (.ref a) H2) E) (hdb : (x == ("__debug__" : Str)) = false := by decide) : wE X (.Call (.Name x p) [] [] pos) σ H Q :=
  ⟨_, pe_make0 m F (hr.mono hkj) hg gC hb .nil hx hdb, fun a dx h1 h2 h3 => h a dx h1 h2 h3⟩
end
end GV

namespace GV
open PySem PySem.Spec PyProof.Rows L2
section
variable {X : Cx} {σ : St} {H : Hp} {e : Expr} {pos : Pos}
/-- for x in range(n), n a value on the way; nothing need be known of what stays -/
theorem s_forRW {slot : Nat} {x : Str} {p p1 p2 : Pos} {body : List Stmt} {D : Ends} (hp : PassesOwn (model X.prog X.w) X.A X.env X.xe) (hc : X.calm = true) (hN : X.N.Nodup) (hx : X.N[slot]? = some x) (hl : Loc X.env.scope x) (hg : Gl X "range") (hm : X.mg "range" = none)
    (h : wE X e σ H fun v H1 => ∃ (n : Nat) (J : Nat → St → Hp → Prop), v = .int (n : Nat) ∧ n ≤ 1000000 ∧ J 0 σ H1 ∧
      (∀ i σ' H', i < n → J i σ' H' → wB X body { D with nx := J (i + 1), ct := J (i + 1), bk := D.nx } (σ'.set slot (some (.int (i : Nat)))) H') ∧ ∀ σ' H', J n σ' H' → D.nx σ' H')
    (hs : starEach [e] X.env = [(false, eval e X.env)] := by rfl) (hs' : starEach (e :: []) X.env = (false, eval e X.env) :: starEach [] X.env := by rfl)
    (hf : ∀ x, foldedSetIterable (.Call (.Name "range" p) [e] [] p1) X.env x = pure x := by intro _; rfl) (hfn : X.fn x = true ∨ X.env.scope.names.lookup x = some .local := by first | exact .inl rfl | exact .inr rfl | assumption) : wS X (.For (.Name x p2) (.Call (.Name "range" p) [e] [] p1) body [] pos) D σ H := by
  refine ⟨_, ps_for hp hc (pi_range1 hg hm wA.pa hs) (pg_name hN hx hl hfn) wB.ps hf, ca_cons (wE.weak h ?_) hs'⟩
  rintro v H1 ⟨n, J, rfl, hn, h0, ht, hd⟩
  refine ca_nil ⟨(n : Nat), rfl, by omega, by omega, ?_⟩
  have en : ((n : Nat) : Int).toNat = n := by omega
  rw [en]
  refine ⟨fun i m σ' H' => m = n - i ∧ i ≤ n ∧ J i σ' H', ⟨n, rfl, Nat.zero_le _, h0⟩, ?_⟩
  rintro i m σ' H' ⟨rfl, hi', j⟩
  have wk := wk_range (K := X.K) (M := M0) (H := H') 0 n
  have ln : ((List.range n).map fun i => PyData.int (0 + (i : Nat))).length = n := by simp
  by_cases hlt : i < n
  · refine .inr ⟨wk.go M0 i H' (fun _ z => z.elim) (ExM.refl _) (by rw [ln]; exact hlt), J (i + 1), fun σ2 H2 j2 => ⟨n - (i + 1), by omega, rfl, hlt, j2⟩, fun x H2 y => ?_⟩
    obtain ⟨rfl, rfl⟩ := y
    rw [Int.zero_add]
    exact ht i σ' _ hlt j
  · have e2 : i = n := by omega
    subst e2
    have := wk.stop M0 H' (fun _ z => z.elim) (ExM.refl _)
    rw [ln] at this
    exact .inl ⟨this, hd σ' H' j⟩
/-- an item of a list of whatever -/
theorem rIx_lst {K : PySem.W.Frag} {l : Addr} {xs : List V} {i : Int} {v : V} {Q : VK} (h : H l = some (.lst xs)) (hv : atI xs i = some v) (q : Q v H) : rIx K (.ref l) (.int i) H Q := .inl ⟨_, _, i, v, rfl, rfl, .inl (.inl h), hv, q⟩
end
end GV

namespace GV
open PySem PySem.Spec PyProof.Rows L2
section
variable {X : Cx} {σ : St} {H : Hp} {e elt : Expr} {pos : Pos}
/-- [elt for x in range(e)], where elt may change things -/
theorem ce_lcR {slot : Nat} {x : Str} {p p1 p2 : Pos} {scope : Scope} {own : List (Str × Nat)} {Q : VK} (hc : X.calm = true) (hN : X.N.Nodup) (hg : Gl X "range") (hm : X.mg "range" = none) (ok : BlkOk X.N X.env.scope scope own)
    (hx : ∀ s H C cl fp, PG (Cx.lc X s H scope C cl fp) (.Name x p2) (gName slot)) (hw : ∀ v, wipe ((wipe σ (own.map (·.2))).set slot (some v)) (own.map (·.2)) = wipe σ (own.map (·.2)))
    (h : wE X e σ H fun v H1 => ∃ n : Nat, v = .int (n : Nat) ∧ n ≤ 1000000 ∧ ∀ D, H1 D = none → ∃ J : Nat → Hp → Prop, J 0 (upd H1 D (.lst [])) ∧
      (∀ i H', i < n → J i H' → ∀ s0 H0 C cl fp, wE (Cx.lc X s0 H0 scope C cl fp) elt ((wipe σ (own.map (·.2))).set slot (some (.int (i : Nat)))) H' fun y H4 => ∃ acc, H4 D = some (.lst acc) ∧ acc.length < 100000 ∧ J (i + 1) (upd H4 D (.lst (acc ++ [y])))) ∧ ∀ H', J n H' → Q (.ref D) H')
    (hs : starEach [e] X.env = [(false, eval e X.env)] := by rfl) (hs' : starEach (e :: []) X.env = (false, eval e X.env) :: starEach [] X.env := by rfl)
    (hf : ∀ x, foldedSetIterable (.Call (.Name "range" p) [e] [] p1) X.env x = pure x := by intro _; rfl) : wE X (.ListComp elt [⟨.Name x p2, .Call (.Name "range" p) [e] [] p1, [], 0⟩] scope pos) σ H Q := by
  refine ⟨_, pe_lc (tt := fun σ H Q => Q true H) (te := fun σ H Q => ∀ s0 H0 C cl fp, wE (Cx.lc X s0 H0 scope C cl fp) elt σ H Q) hc hN (pi_range1 hg hm wA.pa hs) ok hx (fun _ _ _ _ _ => ⟨fun pins s σ H Q I h => pts_nil.run pins s σ H Q I h⟩)
    (fun s0 H0 C cl fp => ⟨fun pins s σ H Q I h => wE.pe.run pins s σ H Q I (h s0 H0 C cl fp)⟩) hf, ca_cons (wE.weak h ?_) hs'⟩
  rintro v H1 ⟨n, rfl, hn, run⟩
  refine ca_nil ⟨(n : Nat), rfl, by omega, by omega, ?_⟩
  rw [show ((n : Nat) : Int).toNat = n by omega]
  intro D hD
  obtain ⟨J, h0, ht, hd⟩ := run D hD
  refine ⟨fun i m H' => m = n - i ∧ i ≤ n ∧ J i H', ⟨n, rfl, Nat.zero_le _, h0⟩, ?_⟩
  rintro i m H' ⟨rfl, hi', j⟩
  have wk := wk_range (K := X.K) (M := M0) (H := H') 0 n
  have ln : ((List.range n).map fun i => PyData.int (0 + (i : Nat))).length = n := by simp
  by_cases hlt : i < n
  · refine .inr ⟨wk.go M0 i H' (fun _ z => z.elim) (ExM.refl _) (by rw [ln]; exact hlt), J (i + 1), fun H2 j2 => ⟨n - (i + 1), by omega, rfl, hlt, j2⟩, fun x H2 y => ?_⟩
    obtain ⟨rfl, rfl⟩ := y
    rw [Int.zero_add]
    refine ⟨hw _, ?_⟩
    show if true = true then _ else _
    rw [if_pos rfl]
    intro s0 H0 C cl fp
    refine wE.weak (ht i _ hlt j s0 H0 C cl fp) ?_
    rintro y H4 ⟨acc, h1, h2, h3⟩
    exact ⟨acc, h1, Nat.lt_of_lt_of_le h2 (by rw [sizeLine_eq]; decide), h3⟩
  · have e2 : i = n := by omega
    subst e2
    have := wk.stop M0 H' (fun _ z => z.elim) (ExM.refl _)
    rw [ln] at this
    exact .inl ⟨this, hd H' j⟩
end
end GV
namespace GV
open PySem PySem.Spec PyProof.Rows L2
section
variable {X : Cx} {M : Addr → Prop} {σ : St} {H : Hp} {a : Expr} {d : PyData} {pos : Pos}
theorem kitAny2 {K : PySem.W.Frag} {t S T : String} {j k : Bool} (h1 : kitB t S = some j) (h2 : kitB t T = some k) : PySem.W.kitAny K (.type t) [.type S, .type T] = some (j || k) := by
  have e1 := kit_ty (K := K) h1
  have e2 := kit_ty (K := K) h2
  show (match PySem.W.kitOne K (.type t) (.type S) with
    | some true => some true
    | some false => PySem.W.kitAny K (.type t) [.type T]
    | none => none) = _
  rw [e1]
  cases j with
  | true => rfl
  | false =>
    show (match PySem.W.kitOne K (.type t) (.type T) with
      | some true => some true
      | some false => PySem.W.kitAny K (.type t) []
      | none => none) = _
    rw [e2]
    cases k <;> rfl
/-- isinstance(a, (S, T)) -/
theorem pd_isi2 {S T : String} {x y : Str} {p p1 p2 p3 : Pos} {n : Nat} {j k : Bool} (hg : Gl X "isinstance") (hm : X.mg "isinstance" = none) (hgS : Gl X x) (hmS : X.mg x = none) (hvS : bootBuiltins x = some (.type S)) (hgT : Gl X y) (hmT : X.mg y = none) (hvT : bootBuiltins y = some (.type T)) (ha : PD X M a σ H d) (hj : kitB (tyD d) S = some j) (hk : kitB (tyD d) T = some k)
    (nx : x ≠ "__name__" := by decide) (dx : (x == ("__debug__" : Str)) = false := by decide) (ny : y ≠ "__name__" := by decide) (dy : (y == ("__debug__" : Str)) = false := by decide)
    (h1 : starEach (a :: [.Tuple [.Name x p1, .Name y p2] n p3]) X.env = (false, eval a X.env) :: starEach [.Tuple [.Name x p1, .Name y p2] n p3] X.env := by rfl) (h2 : starEach (.Tuple [.Name x p1, .Name y p2] n p3 :: []) X.env = (false, eval (.Tuple [.Name x p1, .Name y p2] n p3) X.env) :: starEach [] X.env := by rfl)
    (h3 : starEach (.Name x p1 :: [.Name y p2]) X.env = (false, eval (.Name x p1) X.env) :: starEach [.Name y p2] X.env := by rfl) (h4 : starEach (.Name y p2 :: []) X.env = (false, eval (.Name y p2) X.env) :: starEach [] X.env := by rfl)
    (hpl : (backTo pos (starEach [.Tuple [.Name x p1, .Name y p2] n p3] X.env)).any (·.1) = false := by rfl) :
    PD X M (.Call (.Name "isinstance" p) [a, .Tuple [.Name x p1, .Name y p2] n p3] [] pos) σ H (.bool (j || k)) := .mk fun H1 e1 al Q q =>
  ⟨_, pe_callB call_isiT hg hm PyProof.Rows.boot_isinstance (pa_cons wE.pe (pa_cons (pe_tup (pa_cons (pe_bltn (v := .ty S) hgS hmS hvS rfl nx dx) (pa_cons (pe_bltn (v := .ty T) hgT hmT hvT rfl ny dy) pa_nil h4) h3)) pa_nil h2) h1) (by decide) (by decide) h1 hpl, ha.run H1 e1 al _ fun v H2 x2 r =>
    ⟨Evl.sz_of (by show 2 ≤ 100000; decide), fun t ht => ⟨v, t, [.ty S, .ty T], .type (tyD d), [.type S, .type T], j || k, rfl, upd_same, .cons (.ty S) (.cons (.ty T) .nil), (r.mono (fun _ z => z) (.of (Evl.Ex.new ht))).tyX, kitAny2 hj hk, q _ _ (x2.trans (Evl.Ex.new ht)) (.bl _)⟩⟩⟩
end
end GV

namespace GV
open PySem PySem.Spec PyProof.Rows L2
section
variable {X : Cx} {M : Addr → Prop} {σ : St} {H : Hp} {a b e : Expr} {d : PyData} {ds : List PyData} {pos : Pos}
theorem cut_all {xs : List PyData} {lo hi : Option Int} (h : HT.sIx xs.length 0 lo = 0 ∧ HT.sIx xs.length xs.length hi = xs.length) : cutD xs lo hi = xs := by
  unfold cutD
  rw [h.1, h.2, List.drop_zero, Nat.sub_zero, List.take_length]
/-- a slice of a tuple -/
theorem pd_sliceT {lo hi : Option Expr} {l u : Option Int} {p2 : Pos} (h : PD X M e σ H (.tuple ds)) (hl : OD X M lo σ H l) (hu : OD X M hi σ H u) : PD X M (.Subscript e (.Slice lo hi none p2) pos) σ H (.tuple (cutD ds l u)) := by
  obtain ⟨tl, pl, rl⟩ := hl.ex
  obtain ⟨tu, pu, ru⟩ := hu.ex
  refine .mk fun H1 e1 al Q q => ⟨_, pe_slice sl_tupA wE.pe pl pu, h.run H1 e1 al _ fun x H2 x2 r => ?_⟩
  refine rl H2 (e1.trans (.of x2)) (al.mono x2) _ fun H3 x3 => ru H3 ((e1.trans (.of x2)).trans (.of x3)) ((al.mono x2).mono x3) _ fun H4 x4 => ?_
  have r4 := r.mono (fun _ z => z) (.of (x3.trans x4))
  have x24 := x2.trans (x3.trans x4)
  cases r4 with
  | tup m hs rs =>
    refine ⟨_, _, rfl, .inl hs, fun hall => ?_, fun _ p hp => ?_⟩
    · rw [rs.length] at hall
      refine q _ H4 x24 ?_
      rw [cut_all hall]
      exact .tup m hs rs
    · exact q _ _ (x24.trans (Evl.Ex.new hp)) (.newT (X := X) (al.mono x24) hp (rs.cut l u))
/-- min(e, default=f) of a tuple of whole numbers -/
def rMinDfT (K : PySem.W.Frag) : List V → List V → Hp → VK → Prop := fun xs zs H Q => ∃ (a : Addr) (ns : List Int) (z : V), xs = [.ref a] ∧ zs = [z] ∧ SqT K H a (ns.map V.int) ∧ (ns = [] → Q z H) ∧ (∀ n r, ns = n :: r → Q (.int (r.foldl min n)) H)
theorem cr_minDfT (hc : X.calm = true) (hu : X.A.units + 2 < cLine) : CallRK X (.builtin "min") ["default"] (rMinDfT X.K) := by
  intro pins s σ H xs zs us ws Q I rx rz h
  obtain ⟨a, ns, z, rfl, rfl, hs, q0, q1⟩ := h
  obtain ⟨w, rfl, rw'⟩ := vals1 rz
  rw [Vals.ref1 rx]
  obtain ⟨its, rv, pl, _⟩ := I.tuple hs
  obtain ⟨as, hr⟩ := Dp.readsAll I _ _ its (dpAll_ints ns) rv
  refine PySem.W.min_tuple_default (I.ok.hd hc) pl hr (ints_alike ns) (by rw [ints_depth]; omega) (fun e h' tk k => ?_) (fun y ys i v h' tk bs e hv hrd k => ?_)
  · refine ⟨z, H, I.kept k, rw', q0 ?_⟩
    cases ns with
    | nil => rfl
    | cons n r => cases e
  · cases ns with
    | nil => cases e
    | cons n r =>
      cases e
      rw [PySem.W.minD_ints] at hrd
      cases hrd with
      | int i t => exact ⟨.int _, H, I.kept k, ⟨t, rfl⟩, q1 n r rfl⟩
theorem pd_minDfT {p kp : Pos} {ns : List Int} (hc : X.calm = true) (hu : X.A.units + 2 < cLine) (hg : Gl X "min") (hm : X.mg "min" = none) (ha : PD X M a σ H (.tuple (ns.map PyData.int))) (hb : PD X M b σ H d)
    (h1 : starEach (a :: []) X.env = (false, eval a X.env) :: starEach [] X.env := by rfl)
    (he : backTo pos (starEach (a :: []) X.env) = (false, eval a X.env) :: backTo pos (starEach [] X.env) := by rfl) (hpl : (backTo pos (starEach (a :: []) X.env)).any (·.1) = false := by rfl)
    (hall : (backToKw pos (keywordEach [⟨some "default", b, kp⟩] X.env)).all (·.1.isSome) = true := by rfl) (hnone : (backToKw pos (keywordEach [⟨some "default", b, kp⟩] X.env)).any (·.1.isNone) = false := by rfl)
    (hks : (backToKw pos (keywordEach [⟨some "default", b, kp⟩] X.env)).filterMap (·.1) = (["default"] : List Str) := by rfl) :
    PD X M (.Call (.Name "min" p) [a] [⟨some "default", b, kp⟩] pos) σ H (minOr d ns) := .mk fun H1 e1 al Q q =>
  ⟨_, pe_callBK (cr_minDfT hc hu) hg hm PyProof.Rows.boot_min (pa_cons wE.pe pa_nil h1) (pk_cons wE.pe pk_nil) (by decide) (by decide) he hpl hall hnone hks, ha.run H1 e1 al _ fun v H2 x2 r => hb.run H2 (e1.trans (.of x2)) (al.mono x2) _ fun w H3 x3 rw' => by
    have r3 := r.mono (fun _ z => z) (.of x3)
    cases r3 with
    | tup m hs rs =>
      refine ⟨_, ns, w, rfl, rfl, .inl (by rw [← rs.of_ints]; exact hs), fun e => q _ H3 (x2.trans x3) ?_, fun n r e => q _ H3 (x2.trans x3) ?_⟩
      · rw [e]
        exact rw'
      · rw [e]
        exact .int _⟩
end
end GV

namespace YK
open PySem PySem.Spec PyProof.Rows L2 GV
abbrev St := L2.St
def topS (i : Nat) : Stmt := PySem.Challenge.pw_millbrook_k50_probes.main.body.getD i (.Pass ⟨0, 0, 0, 0⟩)
abbrev s_wall : Stmt := topS 0
abbrev n_wall : List Str := ["k"]
abbrev p_wall : List Str := ["k"]
theorem sc_wall : FnScope n_wall p_wall (defScope s_wall) := ⟨rfl, rfl, rfl, by decide +kernel, rfl, by decide +kernel, by decide +kernel⟩
abbrev s_InvalidRow_init : Stmt := inClass (topS 3) 0
abbrev n_InvalidRow_init : List Str := ["self", "row"]
abbrev p_InvalidRow_init : List Str := ["self", "row"]
theorem sc_InvalidRow_init : FnScope n_InvalidRow_init p_InvalidRow_init (defScope s_InvalidRow_init) := ⟨rfl, rfl, rfl, by decide +kernel, rfl, by decide +kernel, by decide +kernel⟩
abbrev s_InvalidPlace_init : Stmt := inClass (topS 4) 0
abbrev n_InvalidPlace_init : List Str := ["self", "place"]
abbrev p_InvalidPlace_init : List Str := ["self", "place"]
theorem sc_InvalidPlace_init : FnScope n_InvalidPlace_init p_InvalidPlace_init (defScope s_InvalidPlace_init) := ⟨rfl, rfl, rfl, by decide +kernel, rfl, by decide +kernel, by decide +kernel⟩
abbrev s_InvalidHouse_init : Stmt := inClass (topS 5) 0
abbrev n_InvalidHouse_init : List Str := ["self", "house"]
abbrev p_InvalidHouse_init : List Str := ["self", "house"]
theorem sc_InvalidHouse_init : FnScope n_InvalidHouse_init p_InvalidHouse_init (defScope s_InvalidHouse_init) := ⟨rfl, rfl, rfl, by decide +kernel, rfl, by decide +kernel, by decide +kernel⟩
abbrev s_InvalidNumber_init : Stmt := inClass (topS 6) 0
abbrev n_InvalidNumber_init : List Str := ["self", "number"]
abbrev p_InvalidNumber_init : List Str := ["self", "number"]
theorem sc_InvalidNumber_init : FnScope n_InvalidNumber_init p_InvalidNumber_init (defScope s_InvalidNumber_init) := ⟨rfl, rfl, rfl, by decide +kernel, rfl, by decide +kernel, by decide +kernel⟩
abbrev s_InvalidAnswer_init : Stmt := inClass (topS 7) 0
abbrev n_InvalidAnswer_init : List Str := ["self", "answer"]
abbrev p_InvalidAnswer_init : List Str := ["self", "answer"]
theorem sc_InvalidAnswer_init : FnScope n_InvalidAnswer_init p_InvalidAnswer_init (defScope s_InvalidAnswer_init) := ⟨rfl, rfl, rfl, by decide +kernel, rfl, by decide +kernel, by decide +kernel⟩
abbrev s_InvalidKinds_init : Stmt := inClass (topS 8) 0
abbrev n_InvalidKinds_init : List Str := ["self", "kinds"]
abbrev p_InvalidKinds_init : List Str := ["self", "kinds"]
theorem sc_InvalidKinds_init : FnScope n_InvalidKinds_init p_InvalidKinds_init (defScope s_InvalidKinds_init) := ⟨rfl, rfl, rfl, by decide +kernel, rfl, by decide +kernel, by decide +kernel⟩
abbrev s_InvalidLog_init : Stmt := inClass (topS 9) 0
abbrev n_InvalidLog_init : List Str := ["self", "log"]
abbrev p_InvalidLog_init : List Str := ["self", "log"]
theorem sc_InvalidLog_init : FnScope n_InvalidLog_init p_InvalidLog_init (defScope s_InvalidLog_init) := ⟨rfl, rfl, rfl, by decide +kernel, rfl, by decide +kernel, by decide +kernel⟩
abbrev s_TooMany_init : Stmt := inClass (topS 10) 0
abbrev n_TooMany_init : List Str := ["self", "most", "given"]
abbrev p_TooMany_init : List Str := ["self", "most", "given"]
theorem sc_TooMany_init : FnScope n_TooMany_init p_TooMany_init (defScope s_TooMany_init) := ⟨rfl, rfl, rfl, by decide +kernel, rfl, by decide +kernel, by decide +kernel⟩
abbrev s_is_integer : Stmt := topS 12
abbrev n_is_integer : List Str := ["value"]
abbrev p_is_integer : List Str := ["value"]
theorem sc_is_integer : FnScope n_is_integer p_is_integer (defScope s_is_integer) := ⟨rfl, rfl, rfl, by decide +kernel, rfl, by decide +kernel, by decide +kernel⟩
abbrev s_is_number : Stmt := topS 13
abbrev n_is_number : List Str := ["value", "low", "high"]
abbrev p_is_number : List Str := ["value", "low", "high"]
theorem sc_is_number : FnScope n_is_number p_is_number (defScope s_is_number) := ⟨rfl, rfl, rfl, by decide +kernel, rfl, by decide +kernel, by decide +kernel⟩
abbrev s_check_number : Stmt := topS 14
abbrev n_check_number : List Str := ["number", "low", "high"]
abbrev p_check_number : List Str := ["number", "low", "high"]
theorem sc_check_number : FnScope n_check_number p_check_number (defScope s_check_number) := ⟨rfl, rfl, rfl, by decide +kernel, rfl, by decide +kernel, by decide +kernel⟩
abbrev s_check_answer : Stmt := topS 15
abbrev n_check_answer : List Str := ["answer"]
abbrev p_check_answer : List Str := ["answer"]
theorem sc_check_answer : FnScope n_check_answer p_check_answer (defScope s_check_answer) := ⟨rfl, rfl, rfl, by decide +kernel, rfl, by decide +kernel, by decide +kernel⟩
abbrev s_check_room : Stmt := topS 16
abbrev n_check_room : List Str := ["held", "most"]
abbrev p_check_room : List Str := ["held", "most"]
theorem sc_check_room : FnScope n_check_room p_check_room (defScope s_check_room) := ⟨rfl, rfl, rfl, by decide +kernel, rfl, by decide +kernel, by decide +kernel⟩
abbrev s_text_of_number : Stmt := topS 20
abbrev n_text_of_number : List Str := ["number", "sides"]
abbrev p_text_of_number : List Str := ["number"]
theorem sc_text_of_number : FnScope n_text_of_number p_text_of_number (defScope s_text_of_number) := ⟨rfl, rfl, rfl, by decide +kernel, rfl, by decide +kernel, by decide +kernel⟩
abbrev s_number_of_text : Stmt := topS 21
abbrev n_number_of_text : List Str := ["text", "before", "dash", "behind"]
abbrev p_number_of_text : List Str := ["text"]
theorem sc_number_of_text : FnScope n_number_of_text p_number_of_text (defScope s_number_of_text) := ⟨rfl, rfl, rfl, by decide +kernel, rfl, by decide +kernel, by decide +kernel⟩
abbrev s_check_house : Stmt := topS 22
abbrev n_check_house : List Str := ["house"]
abbrev p_check_house : List Str := ["house"]
theorem sc_check_house : FnScope n_check_house p_check_house (defScope s_check_house) := ⟨rfl, rfl, rfl, by decide +kernel, rfl, by decide +kernel, by decide +kernel⟩
abbrev s_House_init : Stmt := inClass (topS 23) 1
abbrev n_House_init : List Str := ["self", "text", "number"]
abbrev p_House_init : List Str := ["self", "text"]
theorem sc_House_init : FnScope n_House_init p_House_init (defScope s_House_init) := ⟨rfl, rfl, rfl, by decide +kernel, rfl, by decide +kernel, by decide +kernel⟩
abbrev s_House_by_number : Stmt := inClass (topS 23) 2
abbrev n_House_by_number : List Str := ["cls", "number"]
abbrev p_House_by_number : List Str := ["cls", "number"]
theorem sc_House_by_number : FnScope n_House_by_number p_House_by_number (defScope s_House_by_number) := ⟨rfl, rfl, rfl, by decide +kernel, rfl, by decide +kernel, by decide +kernel⟩
abbrev s_House_every : Stmt := inClass (topS 23) 3
abbrev n_House_every : List Str := ["number"]
abbrev p_House_every : List Str := []
theorem sc_House_every : FnScope n_House_every p_House_every (defScope s_House_every) := ⟨rfl, rfl, rfl, by decide +kernel, rfl, by decide +kernel, by decide +kernel⟩
abbrev s_House_named : Stmt := inClass (topS 23) 4
abbrev n_House_named : List Str := ["self", "index", "kind"]
abbrev p_House_named : List Str := ["self"]
theorem sc_House_named : FnScope n_House_named p_House_named (defScope s_House_named) := ⟨rfl, rfl, rfl, by decide +kernel, rfl, by decide +kernel, by decide +kernel⟩
abbrev s_House_names_index : Stmt := inClass (topS 23) 5
abbrev n_House_names_index : List Str := ["self", "index"]
abbrev p_House_names_index : List Str := ["self", "index"]
theorem sc_House_names_index : FnScope n_House_names_index p_House_names_index (defScope s_House_names_index) := ⟨rfl, rfl, rfl, by decide +kernel, rfl, by decide +kernel, by decide +kernel⟩
abbrev s_House_mirrored : Stmt := inClass (topS 23) 6
abbrev n_House_mirrored : List Str := ["self"]
abbrev p_House_mirrored : List Str := ["self"]
theorem sc_House_mirrored : FnScope n_House_mirrored p_House_mirrored (defScope s_House_mirrored) := ⟨rfl, rfl, rfl, by decide +kernel, rfl, by decide +kernel, by decide +kernel⟩
abbrev s_House_flipped : Stmt := inClass (topS 23) 7
abbrev n_House_flipped : List Str := ["self"]
abbrev p_House_flipped : List Str := ["self"]
theorem sc_House_flipped : FnScope n_House_flipped p_House_flipped (defScope s_House_flipped) := ⟨rfl, rfl, rfl, by decide +kernel, rfl, by decide +kernel, by decide +kernel⟩
abbrev s_House_is_finer : Stmt := inClass (topS 23) 8
abbrev n_House_is_finer : List Str := ["self", "other"]
abbrev p_House_is_finer : List Str := ["self", "other"]
theorem sc_House_is_finer : FnScope n_House_is_finer p_House_is_finer (defScope s_House_is_finer) := ⟨rfl, rfl, rfl, by decide +kernel, rfl, by decide +kernel, by decide +kernel⟩
abbrev s_House_contains : Stmt := inClass (topS 23) 9
abbrev n_House_contains : List Str := ["self", "kind"]
abbrev p_House_contains : List Str := ["self", "kind"]
theorem sc_House_contains : FnScope n_House_contains p_House_contains (defScope s_House_contains) := ⟨rfl, rfl, rfl, by decide +kernel, rfl, by decide +kernel, by decide +kernel⟩
abbrev s_House_len : Stmt := inClass (topS 23) 10
abbrev n_House_len : List Str := ["self"]
abbrev p_House_len : List Str := ["self"]
theorem sc_House_len : FnScope n_House_len p_House_len (defScope s_House_len) := ⟨rfl, rfl, rfl, by decide +kernel, rfl, by decide +kernel, by decide +kernel⟩
abbrev s_House_eq : Stmt := inClass (topS 23) 11
abbrev n_House_eq : List Str := ["self", "other"]
abbrev p_House_eq : List Str := ["self", "other"]
theorem sc_House_eq : FnScope n_House_eq p_House_eq (defScope s_House_eq) := ⟨rfl, rfl, rfl, by decide +kernel, rfl, by decide +kernel, by decide +kernel⟩
abbrev s_House_str : Stmt := inClass (topS 23) 12
abbrev n_House_str : List Str := ["self"]
abbrev p_House_str : List Str := ["self"]
theorem sc_House_str : FnScope n_House_str p_House_str (defScope s_House_str) := ⟨rfl, rfl, rfl, by decide +kernel, rfl, by decide +kernel, by decide +kernel⟩
abbrev s_House_repr : Stmt := inClass (topS 23) 13
abbrev n_House_repr : List Str := ["self"]
abbrev p_House_repr : List Str := ["self"]
theorem sc_House_repr : FnScope n_House_repr p_House_repr (defScope s_House_repr) := ⟨rfl, rfl, rfl, by decide +kernel, rfl, by decide +kernel, by decide +kernel⟩
abbrev s_House_or : Stmt := inClass (topS 23) 14
abbrev n_House_or : List Str := ["self", "other"]
abbrev p_House_or : List Str := ["self", "other"]
theorem sc_House_or : FnScope n_House_or p_House_or (defScope s_House_or) := ⟨rfl, rfl, rfl, by decide +kernel, rfl, by decide +kernel, by decide +kernel⟩
abbrev s_House_and : Stmt := inClass (topS 23) 15
abbrev n_House_and : List Str := ["self", "other"]
abbrev p_House_and : List Str := ["self", "other"]
theorem sc_House_and : FnScope n_House_and p_House_and (defScope s_House_and) := ⟨rfl, rfl, rfl, by decide +kernel, rfl, by decide +kernel, by decide +kernel⟩
abbrev s_is_weight : Stmt := topS 27
abbrev n_is_weight : List Str := ["value"]
abbrev p_is_weight : List Str := ["value"]
theorem sc_is_weight : FnScope n_is_weight p_is_weight (defScope s_is_weight) := ⟨rfl, rfl, rfl, by decide +kernel, rfl, by decide +kernel, by decide +kernel⟩
abbrev s_is_bag_row : Stmt := topS 28
abbrev n_is_bag_row : List Str := ["value", "item"]
abbrev p_is_bag_row : List Str := ["value"]
theorem sc_is_bag_row : FnScope n_is_bag_row p_is_bag_row (defScope s_is_bag_row) := ⟨rfl, rfl, rfl, by decide +kernel, rfl, by decide +kernel, by decide +kernel⟩
abbrev s_is_row : Stmt := topS 29
abbrev n_is_row : List Str := ["value"]
abbrev p_is_row : List Str := ["value"]
theorem sc_is_row : FnScope n_is_row p_is_row (defScope s_is_row) := ⟨rfl, rfl, rfl, by decide +kernel, rfl, by decide +kernel, by decide +kernel⟩
abbrev s_is_place : Stmt := topS 30
abbrev n_is_place : List Str := ["row", "value"]
abbrev p_is_place : List Str := ["row", "value"]
theorem sc_is_place : FnScope n_is_place p_is_place (defScope s_is_place) := ⟨rfl, rfl, rfl, by decide +kernel, rfl, by decide +kernel, by decide +kernel⟩
abbrev s_check_row : Stmt := topS 31
abbrev n_check_row : List Str := ["row"]
abbrev p_check_row : List Str := ["row"]
theorem sc_check_row : FnScope n_check_row p_check_row (defScope s_check_row) := ⟨rfl, rfl, rfl, by decide +kernel, rfl, by decide +kernel, by decide +kernel⟩
abbrev s_check_place : Stmt := topS 32
abbrev n_check_place : List Str := ["row", "place"]
abbrev p_check_place : List Str := ["row", "place"]
theorem sc_check_place : FnScope n_check_place p_check_place (defScope s_check_place) := ⟨rfl, rfl, rfl, by decide +kernel, rfl, by decide +kernel, by decide +kernel⟩
abbrev s_third_kinds : Stmt := topS 34
abbrev n_third_kinds : List Str := ["row", "place", "lighter", "heavier", "letters", "behind", "stone", "index"]
abbrev p_third_kinds : List Str := ["row", "place"]
theorem sc_third_kinds : FnScope n_third_kinds p_third_kinds (defScope s_third_kinds) := ⟨rfl, rfl, rfl, by decide +kernel, rfl, by decide +kernel, by decide +kernel⟩
abbrev s_present_kinds : Stmt := topS 35
abbrev n_present_kinds : List Str := ["row", "place", "_", "kind"]
abbrev p_present_kinds : List Str := ["row", "place"]
theorem sc_present_kinds : FnScope n_present_kinds p_present_kinds (defScope s_present_kinds) := ⟨rfl, rfl, rfl, by decide +kernel, rfl, by decide +kernel, by decide +kernel⟩
abbrev s_texts_of : Stmt := topS 37
abbrev n_texts_of : List Str := ["numbers", "number"]
abbrev p_texts_of : List Str := ["numbers"]
theorem sc_texts_of : FnScope n_texts_of p_texts_of (defScope s_texts_of) := ⟨rfl, rfl, rfl, by decide +kernel, rfl, by decide +kernel, by decide +kernel⟩
abbrev s_is_finer_number : Stmt := topS 38
abbrev n_is_finer_number : List Str := ["number", "other"]
abbrev p_is_finer_number : List Str := ["number", "other"]
theorem sc_is_finer_number : FnScope n_is_finer_number p_is_finer_number (defScope s_is_finer_number) := ⟨rfl, rfl, rfl, by decide +kernel, rfl, by decide +kernel, by decide +kernel⟩
abbrev s_is_another_finer : Stmt := topS 39
abbrev n_is_another_finer : List Str := ["number", "other"]
abbrev p_is_another_finer : List Str := ["number", "other"]
theorem sc_is_another_finer : FnScope n_is_another_finer p_is_another_finer (defScope s_is_another_finer) := ⟨rfl, rfl, rfl, by decide +kernel, rfl, by decide +kernel, by decide +kernel⟩
abbrev s_finest_of : Stmt := topS 40
abbrev n_finest_of : List Str := ["numbers", "number", "other"]
abbrev p_finest_of : List Str := ["numbers"]
theorem sc_finest_of : FnScope n_finest_of p_finest_of (defScope s_finest_of) := ⟨rfl, rfl, rfl, by decide +kernel, rfl, by decide +kernel, by decide +kernel⟩
abbrev s_kinds_number : Stmt := topS 43
abbrev n_kinds_number : List Str := ["row", "place", "index"]
abbrev p_kinds_number : List Str := ["row", "place"]
theorem sc_kinds_number : FnScope n_kinds_number p_kinds_number (defScope s_kinds_number) := ⟨rfl, rfl, rfl, by decide +kernel, rfl, by decide +kernel, by decide +kernel⟩
abbrev s_frees : Stmt := topS 44
abbrev n_frees : List Str := ["number", "kinds"]
abbrev p_frees : List Str := ["number", "kinds"]
theorem sc_frees : FnScope n_frees p_frees (defScope s_frees) := ⟨rfl, rfl, rfl, by decide +kernel, rfl, by decide +kernel, by decide +kernel⟩
abbrev s_Log_init : Stmt := inClass (topS 45) 0
abbrev n_Log_init : List Str := ["self"]
abbrev p_Log_init : List Str := ["self"]
theorem sc_Log_init : FnScope n_Log_init p_Log_init (defScope s_Log_init) := ⟨rfl, rfl, rfl, by decide +kernel, rfl, by decide +kernel, by decide +kernel⟩
abbrev s_Log_note : Stmt := inClass (topS 45) 1
abbrev n_Log_note : List Str := ["self", "row", "place", "done"]
abbrev p_Log_note : List Str := ["self", "row", "place", "done"]
theorem sc_Log_note : FnScope n_Log_note p_Log_note (defScope s_Log_note) := ⟨rfl, rfl, rfl, by decide +kernel, rfl, by decide +kernel, by decide +kernel⟩
abbrev s_Log_strike : Stmt := inClass (topS 45) 2
abbrev n_Log_strike : List Str := ["self", "index"]
abbrev p_Log_strike : List Str := ["self", "index"]
theorem sc_Log_strike : FnScope n_Log_strike p_Log_strike (defScope s_Log_strike) := ⟨rfl, rfl, rfl, by decide +kernel, rfl, by decide +kernel, by decide +kernel⟩
abbrev s_Log_lines : Stmt := inClass (topS 45) 3
abbrev n_Log_lines : List Str := ["self"]
abbrev p_Log_lines : List Str := ["self"]
theorem sc_Log_lines : FnScope n_Log_lines p_Log_lines (defScope s_Log_lines) := ⟨rfl, rfl, rfl, by decide +kernel, rfl, by decide +kernel, by decide +kernel⟩
abbrev s_Log_wrong_for : Stmt := inClass (topS 45) 4
abbrev n_Log_wrong_for : List Str := ["self", "number", "freed", "kinds", "index", "line"]
abbrev p_Log_wrong_for : List Str := ["self", "number"]
theorem sc_Log_wrong_for : FnScope n_Log_wrong_for p_Log_wrong_for (defScope s_Log_wrong_for) := ⟨rfl, rfl, rfl, by decide +kernel, rfl, by decide +kernel, by decide +kernel⟩
abbrev s_Log_fitting_numbers : Stmt := inClass (topS 45) 5
abbrev n_Log_fitting_numbers : List Str := ["self", "wrong", "house"]
abbrev p_Log_fitting_numbers : List Str := ["self", "wrong"]
theorem sc_Log_fitting_numbers : FnScope n_Log_fitting_numbers p_Log_fitting_numbers (defScope s_Log_fitting_numbers) := ⟨rfl, rfl, rfl, by decide +kernel, rfl, by decide +kernel, by decide +kernel⟩
abbrev s_Log_wrong_lines : Stmt := inClass (topS 45) 6
abbrev n_Log_wrong_lines : List Str := ["self", "house"]
abbrev p_Log_wrong_lines : List Str := ["self", "house"]
theorem sc_Log_wrong_lines : FnScope n_Log_wrong_lines p_Log_wrong_lines (defScope s_Log_wrong_lines) := ⟨rfl, rfl, rfl, by decide +kernel, rfl, by decide +kernel, by decide +kernel⟩
abbrev s_Log_fitting : Stmt := inClass (topS 45) 7
abbrev n_Log_fitting : List Str := ["self", "wrong"]
abbrev p_Log_fitting : List Str := ["self", "wrong"]
theorem sc_Log_fitting : FnScope n_Log_fitting p_Log_fitting (defScope s_Log_fitting) := ⟨rfl, rfl, rfl, by decide +kernel, rfl, by decide +kernel, by decide +kernel⟩
abbrev s_Log_greatest : Stmt := inClass (topS 45) 8
abbrev n_Log_greatest : List Str := ["self"]
abbrev p_Log_greatest : List Str := ["self"]
theorem sc_Log_greatest : FnScope n_Log_greatest p_Log_greatest (defScope s_Log_greatest) := ⟨rfl, rfl, rfl, by decide +kernel, rfl, by decide +kernel, by decide +kernel⟩
abbrev s_Log_least : Stmt := inClass (topS 45) 9
abbrev n_Log_least : List Str := ["self"]
abbrev p_Log_least : List Str := ["self"]
theorem sc_Log_least : FnScope n_Log_least p_Log_least (defScope s_Log_least) := ⟨rfl, rfl, rfl, by decide +kernel, rfl, by decide +kernel, by decide +kernel⟩
abbrev s_Log_least_wrong : Stmt := inClass (topS 45) 10
abbrev n_Log_least_wrong : List Str := ["self"]
abbrev p_Log_least_wrong : List Str := ["self"]
theorem sc_Log_least_wrong : FnScope n_Log_least_wrong p_Log_least_wrong (defScope s_Log_least_wrong) := ⟨rfl, rfl, rfl, by decide +kernel, rfl, by decide +kernel, by decide +kernel⟩
abbrev s_Log_culprits : Stmt := inClass (topS 45) 11
abbrev n_Log_culprits : List Str := ["self"]
abbrev p_Log_culprits : List Str := ["self"]
theorem sc_Log_culprits : FnScope n_Log_culprits p_Log_culprits (defScope s_Log_culprits) := ⟨rfl, rfl, rfl, by decide +kernel, rfl, by decide +kernel, by decide +kernel⟩
abbrev s_Log_foretold : Stmt := inClass (topS 45) 12
abbrev n_Log_foretold : List Str := ["self", "row", "place"]
abbrev p_Log_foretold : List Str := ["self", "row", "place"]
theorem sc_Log_foretold : FnScope n_Log_foretold p_Log_foretold (defScope s_Log_foretold) := ⟨rfl, rfl, rfl, by decide +kernel, rfl, by decide +kernel, by decide +kernel⟩
abbrev s_Log_twin : Stmt := inClass (topS 45) 13
abbrev n_Log_twin : List Str := ["self"]
abbrev p_Log_twin : List Str := ["self"]
theorem sc_Log_twin : FnScope n_Log_twin p_Log_twin (defScope s_Log_twin) := ⟨rfl, rfl, rfl, by decide +kernel, rfl, by decide +kernel, by decide +kernel⟩
abbrev s_Log_len : Stmt := inClass (topS 45) 14
abbrev n_Log_len : List Str := ["self"]
abbrev p_Log_len : List Str := ["self"]
theorem sc_Log_len : FnScope n_Log_len p_Log_len (defScope s_Log_len) := ⟨rfl, rfl, rfl, by decide +kernel, rfl, by decide +kernel, by decide +kernel⟩
abbrev s_check_kinds : Stmt := topS 49
abbrev n_check_kinds : List Str := ["kinds", "kind"]
abbrev p_check_kinds : List Str := ["kinds"]
theorem sc_check_kinds : FnScope n_check_kinds p_check_kinds (defScope s_check_kinds) := ⟨rfl, rfl, rfl, by decide +kernel, rfl, by decide +kernel, by decide +kernel⟩
abbrev s_probe_of : Stmt := topS 50
abbrev n_probe_of : List Str := ["kinds", "held", "by_weight", "row", "part"]
abbrev p_probe_of : List Str := ["kinds"]
theorem sc_probe_of : FnScope n_probe_of p_probe_of (defScope s_probe_of) := ⟨rfl, rfl, rfl, by decide +kernel, rfl, by decide +kernel, by decide +kernel⟩
abbrev s_probe : Stmt := topS 51
abbrev n_probe : List Str := ["kinds"]
abbrev p_probe : List Str := ["kinds"]
theorem sc_probe : FnScope n_probe p_probe (defScope s_probe) := ⟨rfl, rfl, rfl, by decide +kernel, rfl, by decide +kernel, by decide +kernel⟩
abbrev s_greater_part : Stmt := topS 52
abbrev n_greater_part : List Str := ["number", "fitting", "common", "house"]
abbrev p_greater_part : List Str := ["number", "fitting"]
theorem sc_greater_part : FnScope n_greater_part p_greater_part (defScope s_greater_part) := ⟨rfl, rfl, rfl, by decide +kernel, rfl, by decide +kernel, by decide +kernel⟩
abbrev s_best_probe : Stmt := topS 53
abbrev n_best_probe : List Str := ["log", "fitting", "best", "text", "house"]
abbrev p_best_probe : List Str := ["log"]
theorem sc_best_probe : FnScope n_best_probe p_best_probe (defScope s_best_probe) := ⟨rfl, rfl, rfl, by decide +kernel, rfl, by decide +kernel, by decide +kernel⟩
abbrev s_law_cell : Stmt := topS 55
abbrev n_law_cell : List Str := ["script", "k"]
abbrev p_law_cell : List Str := ["script", "k"]
theorem sc_law_cell : FnScope n_law_cell p_law_cell (defScope s_law_cell) := ⟨rfl, rfl, rfl, by decide +kernel, rfl, by decide +kernel, by decide +kernel⟩
abbrev s_law_box : Stmt := topS 56
abbrev n_law_box : List Str := ["script", "k", "cell", "seed"]
abbrev p_law_box : List Str := ["script", "k"]
theorem sc_law_box : FnScope n_law_box p_law_box (defScope s_law_box) := ⟨rfl, rfl, rfl, by decide +kernel, rfl, by decide +kernel, by decide +kernel⟩
abbrev s_law_take : Stmt := topS 57
abbrev n_law_take : List Str := ["box", "size", "digit", "first", "second", "third"]
abbrev p_law_take : List Str := ["box", "size"]
theorem sc_law_take : FnScope n_law_take p_law_take (defScope s_law_take) := ⟨rfl, rfl, rfl, by decide +kernel, rfl, by decide +kernel, by decide +kernel⟩
abbrev s_law_row : Stmt := topS 58
abbrev n_law_row : List Str := ["box", "size", "order", "k", "way", "start", "gap", "weights"]
abbrev p_law_row : List Str := ["box", "size"]
theorem sc_law_row : FnScope n_law_row p_law_row (defScope s_law_row) := ⟨rfl, rfl, rfl, by decide +kernel, rfl, by decide +kernel, by decide +kernel⟩
abbrev s_law_mask : Stmt := topS 59
abbrev n_law_mask : List Str := ["row", "place", "low", "high", "mask", "at", "kind"]
abbrev p_law_mask : List Str := ["row", "place"]
theorem sc_law_mask : FnScope n_law_mask p_law_mask (defScope s_law_mask) := ⟨rfl, rfl, rfl, by decide +kernel, rfl, by decide +kernel, by decide +kernel⟩
abbrev s_law_alike : Stmt := topS 60
abbrev n_law_alike : List Str := ["told", "due", "k"]
abbrev p_law_alike : List Str := ["told", "due"]
theorem sc_law_alike : FnScope n_law_alike p_law_alike (defScope s_law_alike) := ⟨rfl, rfl, rfl, by decide +kernel, rfl, by decide +kernel, by decide +kernel⟩
abbrev s_law_line : Stmt := topS 61
abbrev n_law_line : List Str := ["box", "secret", "mode", "size", "row", "place", "mask", "done"]
abbrev p_law_line : List Str := ["box", "secret", "mode"]
theorem sc_law_line : FnScope n_law_line p_law_line (defScope s_law_line) := ⟨rfl, rfl, rfl, by decide +kernel, rfl, by decide +kernel, by decide +kernel⟩
abbrev s_law_fits : Stmt := topS 62
abbrev n_law_fits : List Str := ["lines", "found", "number", "line"]
abbrev p_law_fits : List Str := ["lines"]
theorem sc_law_fits : FnScope n_law_fits p_law_fits (defScope s_law_fits) := ⟨rfl, rfl, rfl, by decide +kernel, rfl, by decide +kernel, by decide +kernel⟩
abbrev s_law_probe : Stmt := topS 63
abbrev n_law_probe : List Str := ["number", "weights", "pair", "stone", "group", "side", "before", "behind", "k"]
abbrev p_law_probe : List Str := ["number"]
theorem sc_law_probe : FnScope n_law_probe p_law_probe (defScope s_law_probe) := ⟨rfl, rfl, rfl, by decide +kernel, rfl, by decide +kernel, by decide +kernel⟩
abbrev s_law_best : Stmt := topS 64
abbrev n_law_best : List Str := ["lines", "fits", "best", "least", "number", "some", "fit"]
abbrev p_law_best : List Str := ["lines"]
theorem sc_law_best : FnScope n_law_best p_law_best (defScope s_law_best) := ⟨rfl, rfl, rfl, by decide +kernel, rfl, by decide +kernel, by decide +kernel⟩
abbrev s_law_kinds : Stmt := topS 65
abbrev n_law_kinds : List Str := ["box", "number", "names", "mixed", "k"]
abbrev p_law_kinds : List Str := ["box", "number"]
theorem sc_law_kinds : FnScope n_law_kinds p_law_kinds (defScope s_law_kinds) := ⟨rfl, rfl, rfl, by decide +kernel, rfl, by decide +kernel, by decide +kernel⟩
abbrev s_law_faults : Stmt := topS 66
abbrev n_law_faults : List Str := ["deed", "found", "trouble"]
abbrev p_law_faults : List Str := ["deed"]
theorem sc_law_faults : FnScope n_law_faults p_law_faults (defScope s_law_faults) := ⟨rfl, rfl, rfl, by decide +kernel, rfl, by decide +kernel, by decide +kernel⟩
abbrev s_law_spoilt : Stmt := topS 67
abbrev n_law_spoilt : List Str := ["box", "kinds", "odd", "added", "at", "way", "spoilt"]
abbrev p_law_spoilt : List Str := ["box", "kinds"]
theorem sc_law_spoilt : FnScope n_law_spoilt p_law_spoilt (defScope s_law_spoilt) := ⟨rfl, rfl, rfl, by decide +kernel, rfl, by decide +kernel, by decide +kernel⟩
abbrev s_law_probed : Stmt := topS 68
abbrev n_law_probed : List Str := ["box", "number", "kinds", "handed", "spoilt"]
abbrev p_law_probed : List Str := ["box"]
theorem sc_law_probed : FnScope n_law_probed p_law_probed (defScope s_law_probed) := ⟨rfl, rfl, rfl, by decide +kernel, rfl, by decide +kernel, by decide +kernel⟩
abbrev s_law_best_fits : Stmt := topS 69
abbrev n_law_best_fits : List Str := ["log", "lines", "best", "due", "kept", "line"]
abbrev p_law_best_fits : List Str := ["log", "lines", "best"]
theorem sc_law_best_fits : FnScope n_law_best_fits p_law_best_fits (defScope s_law_best_fits) := ⟨rfl, rfl, rfl, by decide +kernel, rfl, by decide +kernel, by decide +kernel⟩
abbrev s_law : Stmt := topS 70
abbrev n_law : List Str := ["script", "head", "secret", "mode", "count", "steps", "k", "log", "lines", "box", "line", "best", "told", "done", "index", "bad"]
abbrev p_law : List Str := ["script"]
theorem sc_law : FnScope n_law p_law (defScope s_law) := ⟨rfl, rfl, rfl, by decide +kernel, rfl, by decide +kernel, by decide +kernel⟩
end YK

namespace YK
open PySem PySem.Spec PyProof.Rows L2 GV
section
variable {P : Program} {w : World} {K : PySem.W.Frag} {mg : Str → Option Value} {base : Heap}

/-! ### whole numbers -/
def isIntD : PyData → Bool
  | .int _ => true
  | _ => false
def isBoolD : PyData → Bool
  | .bool _ => true
  | _ => false
theorem kit_int (d : PyData) : kitB (tyD d) "int" = some (isIntD d || isBoolD d) := by
  cases d with
  | none => exact (by decide +kernel : kitB "NoneType" "int" = some false)
  | bool _ => exact (by decide +kernel : kitB "bool" "int" = some true)
  | int _ => exact (by decide +kernel : kitB "int" "int" = some true)
  | str _ => exact (by decide +kernel : kitB "str" "int" = some false)
  | list _ => exact (by decide +kernel : kitB "list" "int" = some false)
  | tuple _ => exact (by decide +kernel : kitB "tuple" "int" = some false)
  | dict _ => exact (by decide +kernel : kitB "dict" "int" = some false)
theorem kit_bool (d : PyData) : kitB (tyD d) "bool" = some (isBoolD d) := by
  cases d with
  | none => exact (by decide +kernel : kitB "NoneType" "bool" = some false)
  | bool _ => exact (by decide +kernel : kitB "bool" "bool" = some true)
  | int _ => exact (by decide +kernel : kitB "int" "bool" = some false)
  | str _ => exact (by decide +kernel : kitB "str" "bool" = some false)
  | list _ => exact (by decide +kernel : kitB "list" "bool" = some false)
  | tuple _ => exact (by decide +kernel : kitB "tuple" "bool" = some false)
  | dict _ => exact (by decide +kernel : kitB "dict" "bool" = some false)
def R_is_integer (ds : List PyData) (d : PyData) : Prop := ∃ a, ds = [a] ∧ d = .bool (isIntD a)
theorem cl_is_integer {f : Addr} {fd : FuncData} (F : At K mg "is_integer" s_is_integer f fd) (nb : NoB mg) : Cl P w K mg base CX0 1 "is_integer" (PureR K R_is_integer) := by
  refine cl_pure F sc_is_integer (F.fn.binds fun _ _ _ _ _ _ us hl => match us, hl with | [_], _ => rfl) (fun ds d h => ?_) (fun X cdv A outer s H Q E M vs ds d hX hr al r h q => ?_)
  · obtain ⟨a, rfl, _⟩ := h
    rfl
  · obtain ⟨a, rfl, rfl⟩ := h
    obtain ⟨v, rfl, r1⟩ := rpa1 r
    subst hX
    refine b_cons (s_ret al (PD.is (pd_and (pd_isi rfl nb.isinstance rfl nb.int PyProof.Rows.boot_int (nm 0 r1) (kit_int a)) fun _ => pd_one (pd_not (pd_isi rfl nb.isinstance rfl nb.bool PyProof.Rows.boot_bool (nm 0 r1) (kit_bool a)))) ?_) q)
    cases a <;> rfl
def isNumD (a : PyData) (lo hi : Int) : Bool := match a with
  | .int i => decide (lo ≤ i) && decide (i ≤ hi)
  | _ => false
def R_is_number (ds : List PyData) (d : PyData) : Prop := ∃ a lo hi, ds = [a, .int lo, .int hi] ∧ d = .bool (isNumD a lo hi)
theorem rpa3 {K : PySem.W.Frag} {M : Addr → Prop} {H : Hp} {vs : List V} {a b c : PyData} (r : RpAll K M H vs [a, b, c]) : ∃ u v w, vs = [u, v, w] ∧ Rp K M H u a ∧ Rp K M H v b ∧ Rp K M H w c := by
  obtain ⟨⟩ | ⟨r1, r⟩ := r
  obtain ⟨v, w, rfl, r2, r3⟩ := rpa2 r
  exact ⟨_, _, _, rfl, r1, r2, r3⟩
theorem cl_is_number {f : Addr} {fd : FuncData} (F : At K mg "is_number" s_is_number f fd) (c1 : Cl P w K mg base CX0 1 "is_integer" (PureR K R_is_integer)) : Cl P w K mg base CX0 2 "is_number" (PureR K R_is_number) := by
  refine cl_pure F sc_is_number (F.fn.binds fun _ _ _ _ _ _ us hl => match us, hl with | [_, _, _], _ => rfl) (fun ds d h => ?_) (fun X cdv A outer s H Q E M vs ds d hX hr al r h q => ?_)
  · obtain ⟨a, lo, hi, rfl, _⟩ := h
    rfl
  · obtain ⟨a, lo, hi, rfl, rfl⟩ := h
    obtain ⟨u, v, x, rfl, r1, r2, r3⟩ := rpa3 r
    subst hX
    refine b_cons (s_ret al (PD.is (pd_and (k2 := isNumD a lo hi) (pd_callC c1 hr (by decide) rfl (ad_cons (nm 0 r1) ad_nil) ⟨a, rfl, rfl⟩) fun ha => pd_one ?_) ?_) q)
    · cases a with
      | int i => exact pd_leLe (nm 1 r2) (nm 0 r1) (nm 2 r3)
      | _ => cases ha
    · cases a <;> rfl
def mostW : Int := 1000000000000
def isWeightD (a : PyData) : Bool := isNumD a (-mostW) mostW
def R_is_weight (ds : List PyData) (d : PyData) : Prop := ∃ a, ds = [a] ∧ d = .bool (isWeightD a)
theorem cl_is_weight {f : Addr} {fd : FuncData} {t : Tok} (F : At K mg "is_weight" s_is_weight f fd) (c1 : Cl P w K mg base CX0 2 "is_number" (PureR K R_is_number)) (gW : mg "MOST_WEIGHT" = some (.int mostW t)) : Cl P w K mg base CX0 3 "is_weight" (PureR K R_is_weight) := by
  refine cl_pure F sc_is_weight (F.fn.binds fun _ _ _ _ _ _ us hl => match us, hl with | [_], _ => rfl) (fun ds d h => ?_) (fun X cdv A outer s H Q E M vs ds d hX hr al r h q => ?_)
  · obtain ⟨a, rfl, _⟩ := h
    rfl
  · obtain ⟨a, rfl, rfl⟩ := h
    obtain ⟨v, rfl, r1⟩ := rpa1 r
    subst hX
    exact b_cons (s_ret al (pd_callC c1 hr (by decide) rfl (ad_cons (nm 0 r1) (ad_cons (pd_neg (pd_globI rfl gW)) (ad_cons (pd_globI rfl gW) ad_nil))) ⟨a, _, _, rfl, rfl⟩) q)
/-! ### couples -/
end
end YK

namespace GV
open PySem PySem.Spec PyProof.Rows L2
open Sem (wp)
open AutoSeq1 (wpAny_loadPart')
/-! ### enumerate(a tuple) -/
theorem meets_enumT (l : Addr) (items : Array Value) : Meets (Builtin.«enumerate.__new__» ⟨[.type "enumerate", .ref l], []⟩) (fun _ R s => s.heap.IsTuple l items ∧
      R (.ok (.ret (.ref (s.heap.push { cls := .type "tuple_iterator", data := .fields #[.ref l, .int 0 0] }).objs.size)))
        { s with heap := (s.heap.push { cls := .type "tuple_iterator", data := .fields #[.ref l, .int 0 0] }).push { cls := .type "enumerate", data := .fields #[.none, .bool false, .ref s.heap.objs.size, rawInt 0, .none, .none] } }) :=
  .of_wp fun prog w A R s h => by
    obtain ⟨hp, g, d, tk, os⟩ := s; obtain ⟨hl, h⟩ := h
    have hsub := sub_enumerate
    have q1 : ∀ {A' : Around} {E : Value → Shared → Prop} {Q : Value → Shared → Prop}, Q (.ref hp.objs.size) ⟨hp.push { cls := .type "tuple_iterator", data := .fields #[.ref l, .int 0 0] }, g, d, tk, os⟩ → wpAny (model prog w) A' (pyIter (.ref l)) Q E ⟨hp, g, d, tk, os⟩ :=
      fun q => wpAny_pyIter_tuple hl q
    wp_walk using q1
    refine wpAny_stack_any fun st => wpAny_pure ?_
    split
    · rename_i c _ _ _ _ _
      cases (c == Value.type "enumerate")
      · wp_walk using q1
        exact ⟨_, rfl, h⟩
      · wp_walk using q1
        exact ⟨_, rfl, h⟩
    · wp_walk using q1
      exact ⟨_, rfl, h⟩
theorem call_enumT {prog : Program} {w : World} {A : Around} {E : Value → Shared → Prop} {s : Shared} {l : Addr} {items : Array Value} {Q : Value → Shared → Prop} (hL : s.heap.IsTuple l items)
    (h : ∀ h', IsEnum h' (s.heap.objs.size + 1) s.heap.objs.size 0 .none → h'.IsTupleIter s.heap.objs.size l 0 → h'.objs.size = s.heap.objs.size + 2 →
      (∀ b o, s.heap.get? b = some o → h'.get? b = some o) → Q (.ref (s.heap.objs.size + 1)) { s with heap := h' }) :
    wpAny (model prog w) A (call (.type "enumerate") [.ref l]) Q E s := by
  refine callType_new F.called_enumerate (by decide) (F.typeCall_enumerate_1 _) (F.newCall_enumerate_1 _) (fun obj => F.args_object_init_2 obj _) F.entry_enumerate_new (meets_enumT l items) ⟨hL, ?_⟩
  have hz : (s.heap.push { cls := .type "tuple_iterator", data := .fields #[.ref l, .int 0 0] }).objs.size = s.heap.objs.size + 1 := Heap.size_push ..
  show _ ∧ _
  rw [hz]
  have he : IsEnum ((s.heap.push { cls := .type "tuple_iterator", data := .fields #[.ref l, .int 0 0] }).push { cls := .type "enumerate", data := .fields #[.none, .bool false, .ref s.heap.objs.size, rawInt 0, .none, .none] }) (s.heap.objs.size + 1) s.heap.objs.size 0 .none := by
    have := Heap.get?_push_size (s.heap.push { cls := .type "tuple_iterator", data := .fields #[.ref l, .int 0 0] }) (o := { cls := .type "enumerate", data := .fields #[.none, .bool false, .ref s.heap.objs.size, rawInt 0, .none, .none] }) rfl
    rw [hz] at this; exact this
  exact ⟨⟨_, he, rfl⟩, h _ he ⟨_, Heap.get?_push_of_some _ (Heap.get?_push_size _ rfl), rfl, rfl⟩ (by rw [Heap.size_push, hz]) fun b o x => Heap.get?_push_of_some _ (Heap.get?_push_of_some _ x)⟩
def IteT (K : PySem.W.Frag) (a : Addr) : It :=
  ⟨fun i H => ∃ (xs : List V) (x : V), SqT K H a xs ∧ xs[i]? = some x, fun i H v H' => ∃ T x, v = .ref T ∧ H T = none ∧ H' = upd H T (.tup [.int (i : Nat), x]) ∧ ∀ xs, SqT K H a xs → xs[i]? = some x, fun i H => ∃ xs : List V, SqT K H a xs ∧ xs.length ≤ i⟩
theorem turn_enumT {P : Program} {w : World} {K : PySem.W.Frag} {elts : List Expr} {kk : Nat} {tpos : Pos} (a e it : Addr) :
    Turn P w K (.Tuple elts kk tpos) (IteT K a) [e, it] e (fun i h => (∃ old, IsEnum h e it ((i : Nat) : Int) old) ∧ h.IsTupleIter it a i ∧ e ≠ it ∧ a ≠ e ∧ a ≠ it) where
  mem := by simp
  obj := fun i h st b hb => by
    obtain ⟨⟨old, he⟩, ⟨o, ho, hc, hd⟩, _⟩ := st
    have e' : b = e ∨ b = it := by simpa using hb
    rcases e' with z | z
    · rw [z]; exact ⟨_, he, fun v q => nomatch q⟩
    · rw [z]; exact ⟨o, ho, fun v q => by rw [hd] at q; cases q⟩
  keep := fun i h h' st k => let ⟨⟨old, he⟩, hi, hne⟩ := st; ⟨⟨old, k e (by simp) _ he⟩, hi.at fun o q => k it (by simp) o q, hne⟩
  item := by
    intro X hP hw hK hc i pins s σ H E I hf st hg
    subst hP hw hK
    obtain ⟨⟨old, he⟩, hit, hne, hae, hai⟩ := st
    obtain ⟨xs, x, hq, hx⟩ := hg
    obtain ⟨its, rv, p, hz⟩ := I.tuple hq
    obtain ⟨u, hu, ru⟩ := rv.get hx
    have hel : e < s.heap.objs.size := Heap.lt_size he
    have hil : it < s.heap.objs.size := by obtain ⟨_, q, _⟩ := hit; exact Heap.lt_size q
    have hlt : i < its.toArray.size := by
      rw [List.size_toArray]
      exact (List.getElem?_eq_some_iff.mp hu).1
    refine wpAny_pyNext_enum_itemC (Draws.tuple (A := X.A.in1) (show X.A.in1.handled = none from I.ok.hd hc) it a hai its.toArray) he ⟨hit, p⟩ hlt hne (by simp [hne, Ne.symm hae]) fun x' h' tk hP ho hit' hT hsz hk => ?_
    obtain rfl : u = x' := by
      have e1 : its[i]? = some x' := by simpa using hP
      rw [hu] at e1
      exact Option.some.inj e1
    obtain ⟨hit', _⟩ := hit'
    refine ⟨_, rfl, wpAny_letOwnedTupleGo_enum (s := { s with heap := h', toks := tk + 1 }) ho fun h'' he' sb => ?_⟩
    have hT2 : h''.get? s.heap.objs.size = some { cls := .type "tuple", data := .seq #[.int i tk, u] } := (sb.2 _ (Nat.ne_of_gt hel)).trans hT
    have new : ObjOk X.prog X.w (upd H s.heap.objs.size (.tup [.int (i : Nat), x])) h'' s.heap.objs.size (.tup [.int (i : Nat), x]) :=
      ⟨by show 2 ≤ sizeLine; decide, [.int i tk, u], .cons ⟨_, rfl⟩ (.cons ru .nil), ⟨_, hT2, rfl, _, rfl⟩⟩
    have I1 : Inv X pins σ (upd H s.heap.objs.size (.tup [.int (i : Nat), x])) { s with heap := h'', toks := tk + 1 } :=
      I.turnedNew (ch := [e, it]) (fun b ob hb q => (sb.2 b (fun z => hb (by simp [z]))).trans (hk b ob (fun z => hb (by simp [z])) (fun z => hb (by simp [z])) q)) hf (Nat.le_refl _) new
    refine ⟨.ref s.heap.objs.size, _, I1, rfl, ⟨_, x, rfl, I.hok.fresh (Nat.le_refl _), rfl, fun ys hy => by rw [I.tuple_inj hy hq]; exact hx⟩, ⟨⟨u, ?_⟩, hit'.at fun o q => (sb.2 it (Ne.symm hne)).trans q, hne, hae, hai⟩, fun b hb => ?_⟩
    · have e1 : ((i + 1 : Nat) : Int) = (i : Int) + 1 := by omega
      rw [e1]; exact he'
    · have hb' : b < s.heap.objs.size := by
        have e' : b = e ∨ b = it := by simpa using hb
        rcases e' with z | z
        · rw [z]; exact hel
        · rw [z]; exact hil
      rw [upd_ne (Nat.ne_of_lt hb')]
      exact (hf b hb).1
  done := by
    intro X hP hw hK hc i pins s σ H E I hf st hg
    subst hP hw hK
    obtain ⟨⟨old, he⟩, hit, hne, hae, hai⟩ := st
    obtain ⟨xs, hq, hx⟩ := hg
    obtain ⟨its, rv, p, hz⟩ := I.tuple hq
    obtain ⟨f0, f1, f2, f3, f4, f5⟩ := hf it (by simp)
    have hl := rv.length
    obtain ⟨hp, g, d, tk, os⟩ := s
    have hT : (⟨hp, g, d, tk, os⟩ : Shared).TypeIs (.ref e) "enumerate" := ⟨_, he, rfl⟩
    unfold pyNext
    refine wpAny_bind (wpAny_attempt (wpAny_callSpecial?_slot (name := Str.ofString "__next__") hT F.slot_enumerate_next
      (wpAny_call_entry F.slot_enumerate_next hT F.entry_enumerate_next ?_ (F.args_enumerate_next_1 _))))
    show wpAny _ _ (field (.ref e) 2 >>= _) _ _ _
    refine wpAny_bind (wpAny_field he rfl (x := .ref it) rfl ?_)
    refine wpAny_bind (wpAny_nextOf_tuple_end (I.ok.hd hc) hit p (by simp; omega) fun h' x he' hx' => ?_)
    obtain ⟨o, ho, hc'⟩ := hx'
    refine wpAny_bind (wpAny_isInstance (T := "StopIteration") (b := true) ⟨o, ho, hc'⟩ isSubtype_stop ?_)
    exact wpAny_pure ⟨rfl, I.turned (t' := tk) (fun b o hb q => he' b o hb q) f0 f1 f3 f4 f5⟩
  self := fun A i s Q E st h => let ⟨⟨_, he⟩, _⟩ := st; wpAny_pyIter_enum he h
def iEnumT (K : PySem.W.Frag) (ta : TA) : TI := fun σ H R => ta σ H fun vs H1 => ∃ a xs, vs = [.ref a] ∧ SqT K H1 a xs ∧ R (IteT K a) H1
theorem pi_enumT {X : Cx} {e : Expr} {ta : TA} {p pos tpos : Pos} {elts : List Expr} {kk : Nat} (hg : Gl X "enumerate") (hm : X.mg "enumerate" = none) (ha : PA X [e] ta) (hs : starEach [e] X.env = [(false, eval e X.env)] := by rfl) :
    PI X (.Tuple elts kk tpos) (.Call (.Name "enumerate" p) [e] [] pos) (iEnumT X.K ta) := by
  refine ⟨fun pins s σ H R I h => ?_⟩
  refine Call_ (ld_blt I hg hm boot_enumerate (PyProof.Rows.callWith_type1 (thn (ha.run pos pins s σ H _ I h) fun us s1 ⟨vs, H1, I1, r1, q1⟩ => ?_) hs rfl))
  obtain ⟨a, xs, ex, hq, q⟩ := q1
  subst ex
  cases r1 with
  | cons r rr =>
    cases rr
    cases r
    obtain ⟨its, rv, p', hz⟩ := I1.tuple hq
    refine call_enumT p' fun h' he hit hsz hk => wpAny_pyIter_enum he ?_
    have I2 : Inv X pins σ H1 { s1 with heap := h' } := I1.kept (t' := s1.toks) hk
    have hal : a < s1.heap.objs.size := by obtain ⟨_, q, _⟩ := p'; exact Heap.lt_size q
    refine ⟨s1.heap.objs.size + 1, [s1.heap.objs.size + 1, s1.heap.objs.size], _, _, H1, rfl, I2, turn_enumT a (s1.heap.objs.size + 1) s1.heap.objs.size, ⟨⟨.none, he⟩, hit, Nat.succ_ne_self _, Nat.ne_of_lt (Nat.lt_succ_of_lt hal), Nat.ne_of_lt hal⟩, fun b hb => ?_, q⟩
    have e' : b = s1.heap.objs.size + 1 ∨ b = s1.heap.objs.size := by simpa using hb
    have hle : s1.heap.objs.size ≤ b := by
      rcases e' with z | z
      · rw [z]; exact Nat.le_add_right _ _
      · rw [z]; exact Nat.le_refl _
    exact I1.fpOk hle (I1.hok.fresh hle)
section
variable {X : Cx} {K : PySem.W.Frag} {M : Addr → Prop} {σ : St} {H : Hp} {e : Expr} {ds : List PyData} {pos : Pos}
theorem wk_enumT {a : Addr} {xs : List V} (m : ¬ M a) (h : Rd H a (.tup xs)) (r : RpAll K M H xs ds) : Wk K M (IteT K a) H (enumD ds) := by
  have nm : ∀ M' : Addr → Prop, (∀ a, M' a → M a ∨ H a = none) → ¬ M' a := fun M' hm z => (hm a z).elim m (Rd.there h)
  have at_ : ∀ (M' : Addr → Prop) (H' : Hp), (∀ a, M' a → M a ∨ H a = none) → ExM M' H H' → Rd H' a (.tup xs) := fun M' H' hm e => Rd.exT (M := M') h (nm M' hm) e
  refine ⟨fun M' i H' hm e hi => ?_, fun M' H' hm e => ?_, fun M' i H' x H'' hm e al y => ?_⟩
  · have hx : i < xs.length := by rw [r.length, ← enumD_length]; exact hi
    exact ⟨xs, xs[i], .inl (at_ M' H' hm e), List.getElem?_eq_getElem hx⟩
  · exact ⟨xs, .inl (at_ M' H' hm e), by rw [r.length, enumD_length]; exact Nat.le_refl _⟩
  · obtain ⟨T, z, rfl, hT, rfl, y⟩ := y
    refine ⟨Evl.Ex.new hT, fun d hd => ?_⟩
    obtain ⟨e', he, rfl⟩ := enumD_get hd
    obtain ⟨v, hv, rv⟩ := r.get he
    have q := y xs (.inl (at_ M' _ hm e))
    rw [hv] at q
    cases q
    exact .tup (al.fresh hT) (.inl upd_same) (.cons (.int _) (.cons (((rv.wide hm).mono (fun _ z => z) e).mono (fun _ z => z) (.of (Evl.Ex.new hT))) .nil))
theorem src_enumT {p tpos : Pos} {elts : List Expr} {kk : Nat} (hg : Gl X "enumerate") (hm : X.mg "enumerate" = none) (h : PD X M e σ H (.tuple ds)) (hs : starEach [e] X.env = [(false, eval e X.env)] := by rfl)
    (hs' : starEach (e :: []) X.env = (false, eval e X.env) :: starEach [] X.env := by rfl) : Src X M (.Tuple elts kk tpos) (.Call (.Name "enumerate" p) [e] [] pos) σ H (enumD ds) :=
  ⟨_, pi_enumT hg hm wA.pa hs, fun H1 e1 al R q => (ad_cons h ad_nil hs').run H1 e1 al _ fun vs H2 x2 rs => by
    obtain ⟨v, rfl, r⟩ := rpa1 rs
    cases r with
    | tup m hr rr => exact ⟨_, _, rfl, .inl hr, q _ H2 x2 (wk_enumT m hr rr)⟩⟩
end
end GV

namespace GV
open PySem PySem.Spec PyProof.Rows L2
section
variable {X : Cx} {M : Addr → Prop} {σ : St} {H H' : Hp} {a b c e o i : Expr} {da db d : PyData} {pos : Pos} {es : List Expr} {ds : List PyData} {D : Ends}
/-- o.insert(i, e) -/
theorem ce_insert {apos cpos : Pos} {Q : VK} (h : wE X o σ H fun x H1 => ∃ l, x = .ref l ∧ (∃ ys, H1 l = some (.lst ys)) ∧ wE X i σ H1 fun n H2 => wE X e σ H2 fun y H3 => ∃ ys k, H3 l = some (.lst ys) ∧ n = .int (k : Nat) ∧ k ≤ 100000 ∧ ys.length < 100000 ∧ Q .non (upd H3 l (.lst (ys.take k ++ [y] ++ ys.drop k))))
    (h1 : attributeBase o ("insert" : Str) X.env (eval o X.env) = eval o X.env := by rfl)
    (h2 : ((((backTo cpos (starEach [i, e] X.env)).all fun x => !x.1) && (backToKw cpos (keywordEach [] X.env)).all fun x => x.1.isSome) && decide (([i, e].length + ([] : List Keyword).length + if ([] : List Keyword).isEmpty = true then 0 else 1) < 30)) = true := by rfl)
    (h3 : (apos.endLine == cpos.line) = true := by rfl) (h4 : starEach (i :: [e]) X.env = (false, eval i X.env) :: starEach [e] X.env := by rfl) (h6 : starEach (e :: []) X.env = (false, eval e X.env) :: starEach [] X.env := by rfl) (h5 : (backTo cpos (starEach [e] X.env)).any (·.1) = false := by rfl) :
    wE X (.Call (.Attribute o "insert" apos) [i, e] [] cpos) σ H Q := by
  refine ⟨_, pe_bm PySem.F.plainAttrs_list PySem.F.slot_list_insert PySem.F.type_list_insert mt_insert (wE.pe) (pa_cons wE.pe (pa_cons wE.pe pa_nil h6) h4) h1 h2 h3 h4 h5, ?_⟩
  refine wE.weak h ?_
  rintro x H1 ⟨l, rfl, ⟨ys0, hl⟩, hh⟩
  refine ⟨.inl ⟨rfl, _, SqL.of hl⟩, ?_⟩
  refine wE.weak hh ?_
  intro n H2 hh2
  refine wE.weak hh2 ?_
  rintro y H3 ⟨ys, k, hy, rfl, hk, hlen, q⟩
  refine ⟨l, ys, (k : Nat), y, rfl, rfl, hy, Nat.lt_of_lt_of_le hlen (by rw [sizeLine_eq]; decide), by omega, by omega, ?_⟩
  rw [show ((k : Nat) : Int).toNat = k by omega]
  exact q
/-- [..] * k -/
theorem ce_rep {Q : VK} (h : wE X a σ H fun x H2 => wE X b σ H2 fun y H3 => ∃ l xs k, x = .ref l ∧ y = .int (k : Nat) ∧ H3 l = some (.lst xs) ∧ xs.length * k ≤ 100000 ∧ k ≤ 100000 ∧ ∀ p, H3 p = none → Q (.ref p) (upd H3 p (.lst (List.replicate k xs).flatten))) : wE X (.BinOp a .Mult b pos) σ H Q := by
  refine ce_bin op_rep (wE.weak h fun x H2 h2 => wE.weak h2 ?_)
  rintro y H3 ⟨l, xs, k, rfl, rfl, hl, h1, h2, q⟩
  refine ⟨l, (k : Nat), xs, rfl, rfl, hl, by omega, by omega, ?_, ?_⟩
  · rw [show ((k : Nat) : Int).toNat = k by omega]
    exact Evl.sz_of h1
  · rw [show ((k : Nat) : Int).toNat = k by omega]
    exact q
theorem replicate_flat {α : Type} (k : Nat) (x : α) : (List.replicate k [x]).flatten = List.replicate k x := by
  induction k with
  | zero => rfl
  | succ k ih => rw [List.replicate_succ, List.flatten_cons, ih]; rfl
/-- list(range(n)) -/
theorem fd_listRange {p p2 p3 : Pos} {n : Int} (hc : X.calm = true) (hg : Gl X "list") (hm : X.mg "list" = none) (hg2 : Gl X "range") (hm2 : X.mg "range" = none) (h : PD X M e σ H (.int n)) (h0 : 0 ≤ n) (h1 : n ≤ 100000)
    (na : starEach [e] X.env = (false, eval e X.env) :: starEach [] X.env := by rfl) (nb : starEach [.Call (.Name "range" p2) [e] [] p3] X.env = (false, eval (.Call (.Name "range" p2) [e] [] p3) X.env) :: starEach [] X.env := by rfl) :
    FD X M (.Call (.Name "list" p) [.Call (.Name "range" p2) [e] [] p3] [] pos) σ H (((List.range n.toNat).map Int.ofNat).map PyData.int) := .mk fun H1 e1 al Q q =>
  ⟨_, pe_listRg hc hg hm (prg_1 hg2 hm2 wE.pe na) nb, h.run H1 e1 al _ fun v H2 x2 r => by
    cases r
    refine ⟨n, rfl, RgOk.of_le (by omega) (by omega) (by omega) h0, fun l hl => q l _ _ (Evl.fresh_back x2 hl) (x2.trans (Evl.Ex.new hl)) upd_same ?_⟩
    have e2 : rgV 0 n = ((List.range n.toNat).map Int.ofNat).map V.int := by
      unfold rgV
      rw [List.map_map, Int.sub_zero]
      exact List.map_congr_left fun i _ => by
        show V.int (0 + (i : Nat)) = V.int (i : Nat)
        rw [Int.zero_add]
    rw [e2]
    exact RpAll.ints _⟩
/-! ### dicts, as far as they are looked at -/
theorem ce_dict0 {Q : VK} (h : ∀ p, H p = none → Q (.ref p) (upd H p (.dK []))) : wE X (.Dict [] [] pos) σ H Q := ⟨_, pe_dnewK, h⟩
/-- {1: 2} -/
theorem ce_dict1 {i j : Int} {t t2} {p1 p2 : Pos} {Q : VK} (h : ∀ p, H p = none → Q (.ref p) (upd H p (.dK [(.inl i, .int j)]))) : wE X (.Dict [some (.Constant (.int i) t p1)] [.Constant (.int j) t2 p2] pos) σ H Q := by
  refine ⟨_, pe_disp (pps_cons pe_int pe_int pps_nil) rfl rfl (by simp) (by show 1 ≤ 15; decide), fun p hp => ?_⟩
  refine ⟨upd_same, [(.inl i, .int j)], rfl, by show 1 ≤ 15; decide, ?_⟩
  have e : upd (upd H p (.dK [])) p (.dK (mergeK [] [(Sum.inl i, V.int j)])) = upd H p (.dK [(.inl i, .int j)]) := by
    funext x
    by_cases hx : x = p
    · subst hx
      rw [upd_same, upd_same]
      rfl
    · rw [upd_ne hx, upd_ne hx, upd_ne hx]
  rw [e]
  exact h p hp
/-- isinstance(a, (S, T)) of a dict -/
theorem pd_isi2D {S T : String} {x y : Str} {p p1 p2 p3 : Pos} {n : Nat} {j k : Bool} {A : Addr} {kvs : List (Key × V)} (hg : Gl X "isinstance") (hm : X.mg "isinstance" = none) (hgS : Gl X x) (hmS : X.mg x = none) (hvS : bootBuiltins x = some (.type S)) (hgT : Gl X y) (hmT : X.mg y = none) (hvT : bootBuiltins y = some (.type T)) (ha : ∀ H1 (Q : VK), Q (.ref A) H1 → wE X a σ H1 Q) (hA : H A = some (.dK kvs)) (nM : ¬ M A) (hj : kitB "dict" S = some j) (hk : kitB "dict" T = some k)
    (nx : x ≠ "__name__" := by decide) (dx : (x == ("__debug__" : Str)) = false := by decide) (ny : y ≠ "__name__" := by decide) (dy : (y == ("__debug__" : Str)) = false := by decide)
    (h1 : starEach (a :: [.Tuple [.Name x p1, .Name y p2] n p3]) X.env = (false, eval a X.env) :: starEach [.Tuple [.Name x p1, .Name y p2] n p3] X.env := by rfl) (h2 : starEach (.Tuple [.Name x p1, .Name y p2] n p3 :: []) X.env = (false, eval (.Tuple [.Name x p1, .Name y p2] n p3) X.env) :: starEach [] X.env := by rfl)
    (h3 : starEach (.Name x p1 :: [.Name y p2]) X.env = (false, eval (.Name x p1) X.env) :: starEach [.Name y p2] X.env := by rfl) (h4 : starEach (.Name y p2 :: []) X.env = (false, eval (.Name y p2) X.env) :: starEach [] X.env := by rfl)
    (hpl : (backTo pos (starEach [.Tuple [.Name x p1, .Name y p2] n p3] X.env)).any (·.1) = false := by rfl) :
    PD X M (.Call (.Name "isinstance" p) [a, .Tuple [.Name x p1, .Name y p2] n p3] [] pos) σ H (.bool (j || k)) := .mk fun H1 e1 al Q q =>
  ⟨_, pe_callB call_isiT hg hm PyProof.Rows.boot_isinstance (pa_cons wE.pe (pa_cons (pe_tup (pa_cons (pe_bltn (v := .ty S) hgS hmS hvS rfl nx dx) (pa_cons (pe_bltn (v := .ty T) hgT hmT hvT rfl ny dy) pa_nil h4) h3)) pa_nil h2) h1) (by decide) (by decide) h1 hpl, ha _ _
    ⟨Evl.sz_of (by show 2 ≤ 100000; decide), fun t ht => ⟨.ref A, t, [.ty S, .ty T], .type "dict", [.type S, .type T], j || k, rfl, upd_same, .cons (.ty S) (.cons (.ty T) .nil), .base (.dK (Evl.Ex.new ht _ _ (e1 _ _ hA nM fun _ z => by cases z))), kitAny2 hj hk, q _ _ (Evl.Ex.new ht) (.bl _)⟩⟩⟩
/-! ### == of tuples that hold the same things -/
def sameB : V → Bool
  | .ref _ => true
  | v => flatB v
def rEqSame (K : PySem.W.Frag) : R2 := fun x y H Q => ∃ a b xs, x = .ref a ∧ y = .ref b ∧ SqT K H a xs ∧ SqT K H b xs ∧ (∀ v ∈ xs, sameB v = true) ∧ Q (.bl true) H
theorem op_eqSame (hu : X.A.units < cLine) : OpR X (compareOp .Eq) (rEqSame X.K) := by
  intro pins s σ H x y v u Q I rx ry h
  obtain ⟨a, b, xs, rfl, rfl, ha, hb, hs, q⟩ := h
  cases (show v = Value.ref a from rx)
  cases (show u = Value.ref b from ry)
  obtain ⟨us, r1, p1, _⟩ := I.tuple ha
  obtain ⟨ws, r2, p2, _⟩ := I.tuple hb
  have l1 := r1.length
  have l2 := r2.length
  refine SeqAt.RcAt.tuples (e := fun _ => true) p1 p2 hu (fun j h1 h2 => ?_) X.prog X.w X.xe _ ?_
  · have hj : j < xs.length := by
      rw [l1]
      simpa using h1
    have hx : xs[j]? = some xs[j] := List.getElem?_eq_getElem hj
    obtain ⟨v1, e1, rv1⟩ := r1.get hx
    obtain ⟨v2, e2, rv2⟩ := r2.get hx
    have f1 : us.toArray[j] = v1 := by
      have : us[j]? = some us[j] := List.getElem?_eq_getElem (by simpa using h1)
      rw [this] at e1
      simpa using e1
    have f2 : ws.toArray[j] = v2 := by
      have : ws[j]? = some ws[j] := List.getElem?_eq_getElem (by simpa using h2)
      rw [this] at e2
      simpa using e2
    rw [f1, f2]
    have hv := hs _ (List.getElem_mem hj)
    generalize xs[j] = z at rv1 rv2 hv
    cases z with
    | ref r =>
      cases (show v1 = Value.ref r from rv1)
      cases (show v2 = Value.ref r from rv2)
      exact SeqAt.EqAt.same _
    | _ => exact eqAt_same rv1 rv2 hv
  · refine ⟨.bl true, H, I, ?_, q⟩
    have e1 : us.toArray.size = ws.toArray.size := by
      rw [List.size_toArray, List.size_toArray, ← l1, ← l2]
    rw [e1, show ((List.range (min ws.toArray.size ws.toArray.size)).all fun _ => true) = true from List.all_eq_true.mpr fun _ _ => rfl]
    simp [L2.RelV]
theorem ce_eqSame {Q : VK} (hu : X.A.units + 64 < cLine) (h : wE X a σ H fun x H2 => wE X b σ H2 fun y H3 => rEqSame X.K x y H3 Q) : wE X (.Compare a [.Eq] [b] pos) σ H Q := ⟨_, pe_cmpR (op_eqSame (by omega)) wE.pe wE.pe (nomark _), h⟩
/-! ### max of a tuple -/
theorem fold_max (r : List Int) (n : Int) : (n ≤ r.foldl max n ∧ ∀ a ∈ r, a ≤ r.foldl max n) ∧ (r.foldl max n = n ∨ r.foldl max n ∈ r) := by
  induction r generalizing n with
  | nil => exact ⟨⟨Int.le_refl _, fun a h => by cases h⟩, .inl rfl⟩
  | cons y r ih =>
    obtain ⟨⟨h1, h2⟩, h3⟩ := ih (max n y)
    refine ⟨⟨Int.le_trans (Int.le_max_left _ _) h1, fun a ha => ?_⟩, ?_⟩
    · rcases List.mem_cons.mp ha with e | ha
      · subst e
        exact Int.le_trans (Int.le_max_right _ _) h1
      · exact h2 a ha
    · show (r.foldl max (max n y) = n ∨ r.foldl max (max n y) ∈ y :: r)
      rcases h3 with e | h3
      · by_cases hny : y ≤ n
        · left
          rw [e, Int.max_eq_left hny]
        · right
          rw [e, Int.max_eq_right (by omega)]
          exact List.mem_cons_self
      · exact .inr (List.mem_cons_of_mem _ h3)
def rMaxT (K : PySem.W.Frag) : List V → Hp → VK → Prop := fun vs H Q => ∃ (a : Addr) (n : Int) (r : List Int), vs = [.ref a] ∧ SqT K H a ((n :: r).map V.int) ∧ Q (.int (r.foldl max n)) H
theorem cr_maxT (hc : X.calm = true) (hu : X.A.units + 2 < cLine) : CallR X (.builtin "max") (rMaxT X.K) := by
  intro pins s σ H xs us Q I r h
  obtain ⟨a, n, ns, rfl, hs, q⟩ := h
  rw [Vals.ref1 r]
  obtain ⟨its, rv, pl, _⟩ := I.tuple hs
  obtain ⟨as, hr⟩ := Dp.readsAll I _ _ its (dpAll_ints (n :: ns)) rv
  refine PySem.W.max_tuple_data (I.ok.hd hc) pl hr (ints_alike (n :: ns)) ?_ fun i v h' tk bs hv hrd k => ?_
  · have e := ints_depth (n :: ns)
    have e2 : PyData.depthAll (PyData.int n :: ns.map PyData.int) = 0 := e
    rw [e2]
    omega
  · rw [PySem.W.maxD_ints] at hrd
    cases hrd with
    | int i t => exact ⟨.int _, H, I.kept k, ⟨t, rfl⟩, q⟩
theorem rn_maxT {ns : List Int} {m : Int} (hm : m ∈ ns) (hx : ∀ y ∈ ns, y ≤ m) : RDn X M (rMaxT X.K) [.tuple (ns.map PyData.int)] (.int m) := fun vs H1 r _ Q q => by
  obtain ⟨v, rfl, r1⟩ := rpa1 r
  cases r1 with
  | tup m' hs rs =>
    cases ns with
    | nil => cases hm
    | cons n l =>
      refine ⟨_, n, l, rfl, .inl (by rw [← rs.of_ints]; exact hs), q _ H1 (Evl.Ex.refl H1) ?_⟩
      obtain ⟨⟨h1, h2⟩, h3⟩ := fold_max l n
      have e : l.foldl max n = m := by
        apply Int.le_antisymm
        · rcases h3 with e | h3
          · rw [e]
            exact hx n List.mem_cons_self
          · exact hx _ (List.mem_cons_of_mem _ h3)
        · rcases List.mem_cons.mp hm with e | hm
          · rw [e]
            exact h1
          · exact h2 m hm
      rw [e]
      exact .int _
/-! ### sorted(set(a tuple of whole numbers)) -/
theorem fd_sortedSetT {p p2 q2 : Pos} {ns out : List Int} (hc : X.calm = true) (hg : Gl X "sorted") (hm : X.mg "sorted" = none) (hg2 : Gl X "set") (hm2 : X.mg "set" = none) (ha : PD X M a σ H (.tuple (ns.map PyData.int)))
    (hl : ns.length < 64) (ho : out.Pairwise (· < ·)) (hmem : ∀ k, k ∈ out ↔ k ∈ ns)
    (na : starEach [a] X.env = (false, eval a X.env) :: starEach [] X.env := by rfl) : FD X M (.Call (.Name "sorted" p) [.Call (.Name "set" p2) [a] [] q2] [] pos) σ H (out.map PyData.int) := .mk fun H1 e1 al Q q => by
  refine ⟨fun σ H Q => wE X a σ H fun x H1 => ∃ l, x = V.ref l ∧ SqT X.K H1 l (ns.map V.int) ∧ ∀ p, H1 p = none → Q (.ref p) (upd H1 p (.lst (out.map V.int))), ⟨fun pins s σ H Q I h => ?_⟩, ?_⟩
  · refine Call_ (ld_blt I hg hm PyProof.Rows.boot_sorted ?_)
    refine PyProof.Rows.callWith_builtin1 (PyProof.Rows.args_cons ?_ rfl) rfl rfl
    refine Call_ (ld_blt I hg2 hm2 PyProof.Rows.boot_set (PyProof.Rows.callWith_type1 (PyProof.Rows.args_cons (thn (wE.pe.run pins s σ H _ I h) fun v s1 ⟨x, H1, I1, r1, l, e2, hq, q1⟩ => PyProof.Rows.args_nil ?_) na) na rfl))
    subst e2
    cases r1
    obtain ⟨its, r, pl, hz⟩ := I1.tuple hq
    refine call_set_tupI ns (I1.ok.hd hc) pl (by simpa using r.ints) (by unfold scanBound; omega) fun g tk c R hcl k => PyProof.Rows.args_nil ?_
    have I2 : Inv X pins σ H1 { s1 with heap := g, toks := tk } := I1.kept k
    refine sorted_set R (I1.ok.hd hc) (by omega) fun s' p o c' ns' k2 g2 o2 hp hgp hi hs hm' hlen => ?_
    have en : ns' = out := up_ext hs ho fun z => by
      rw [hm' z, hmem z]
      exact decide_eq_true_iff
    subst en
    have hn : H1 p = none := I2.hok.fresh hp
    have ln : (ns'.map V.int).length ≤ sizeLine := by
      rw [List.length_map]
      refine Evl.sz_of (Nat.le_trans ?_ (show 64 ≤ 100000 by decide))
      omega
    have J : Inv X pins σ (upd H1 p (.lst (ns'.map V.int))) { ({ s1 with heap := g, toks := tk } : Shared) with heap := s'.heap, gens := s'.gens, drawn := s'.drawn, toks := s'.toks } := I2.call (ch := []) (Un.laid k2 hp hn) (I2.hok.laid k2 hp ⟨ln, o.toList, c', vals_of_ints hi, hgp⟩) (by rw [g2]; exact I2.bare) (fun _ z => nomatch z)
    obtain ⟨hp', g', d', t', os'⟩ := s'
    obtain rfl : os' = s1.os := o2
    exact ⟨.ref p, _, J, rfl, q1 p hn⟩
  · refine ha.run H1 e1 al _ fun v H2 x2 r => ?_
    cases r with
    | tup m hr rs => exact ⟨_, rfl, .inl (by rw [← rs.of_ints]; exact hr), fun p hp => q p _ _ (Evl.fresh_back x2 hp) (x2.trans (Evl.Ex.new hp)) upd_same (RpAll.ints out)⟩
end
end GV

namespace GV
open PySem PySem.Spec PyProof.Rows L2
/-! ### a list or a tuple, whichever -/
def sqD : Bool → List PyData → PyData
  | true, ds => .tuple ds
  | false, ds => .list ds
theorem items_sq (tp : Bool) (ds : List PyData) : itemsD (sqD tp ds) = some ds := by cases tp <;> rfl
theorem len_sq (tp : Bool) (ds : List PyData) : lenD (sqD tp ds) = some ds.length := by cases tp <;> rfl
theorem ix_sq {tp : Bool} {ds : List PyData} {i : Int} {d : PyData} (h : atI ds i = some d) : ixD (sqD tp ds) (.int i) = some d := by cases tp <;> exact h
theorem ix_sqI {tp : Bool} {ns : List Int} {i : Nat} {z : Int} (h : ns[i]? = some z) : ixD (sqD tp (ns.map PyData.int)) (.int (i : Nat)) = some (.int z) := ix_sq (atI_nat (by rw [List.getElem?_map, h]; rfl))
section
variable {X : Cx} {M : Addr → Prop} {σ : St} {H : Hp} {a b c e tg : Expr} {d : PyData} {pos : Pos} {ds : List PyData} {tp : Bool}
theorem src_S (h : PD X M e σ H (sqD tp ds)) : Src X M tg e σ H ds := by
  cases tp with
  | true => exact src_tup h
  | false => exact src_list h
theorem src_enumS {p tpos : Pos} {elts : List Expr} {kk : Nat} (hg : Gl X "enumerate") (hm : X.mg "enumerate" = none) (h : PD X M e σ H (sqD tp ds)) (hs : starEach [e] X.env = [(false, eval e X.env)] := by rfl)
    (hs' : starEach (e :: []) X.env = (false, eval e X.env) :: starEach [] X.env := by rfl) : Src X M (.Tuple elts kk tpos) (.Call (.Name "enumerate" p) [e] [] pos) σ H (enumD ds) := by
  cases tp with
  | true => exact src_enumT hg hm h hs hs'
  | false => exact src_enum hg hm h hs hs'
theorem pd_sliceS {lo hi : Option Expr} {l u : Option Int} {p2 : Pos} (h : PD X M e σ H (sqD tp ds)) (hl : OD X M lo σ H l) (hu : OD X M hi σ H u) : PD X M (.Subscript e (.Slice lo hi none p2) pos) σ H (sqD tp (cutD ds l u)) := by
  cases tp with
  | true => exact pd_sliceT h hl hu
  | false => exact (fd_slice h hl hu).pd
theorem pd_minDfS {p kp : Pos} {ns : List Int} (hc : X.calm = true) (hu : X.A.units + 2 < cLine) (hg : Gl X "min") (hm : X.mg "min" = none) (ha : PD X M a σ H (sqD tp (ns.map PyData.int))) (hb : PD X M b σ H d)
    (h1 : starEach (a :: []) X.env = (false, eval a X.env) :: starEach [] X.env := by rfl)
    (he : backTo pos (starEach (a :: []) X.env) = (false, eval a X.env) :: backTo pos (starEach [] X.env) := by rfl) (hpl : (backTo pos (starEach (a :: []) X.env)).any (·.1) = false := by rfl)
    (hall : (backToKw pos (keywordEach [⟨some "default", b, kp⟩] X.env)).all (·.1.isSome) = true := by rfl) (hnone : (backToKw pos (keywordEach [⟨some "default", b, kp⟩] X.env)).any (·.1.isNone) = false := by rfl)
    (hks : (backToKw pos (keywordEach [⟨some "default", b, kp⟩] X.env)).filterMap (·.1) = (["default"] : List Str) := by rfl) :
    PD X M (.Call (.Name "min" p) [a] [⟨some "default", b, kp⟩] pos) σ H (minOr d ns) := by
  cases tp with
  | true => exact pd_minDfT hc hu hg hm ha hb h1 he hpl hall hnone hks
  | false => exact pd_minDf hc hu hg hm ha hb h1 he hpl hall hnone hks
theorem pd_maxS {p : Pos} {ns : List Int} {m : Int} (hc : X.calm = true) (hu : X.A.units + 2 < cLine) (hg : Gl X "max") (hn : X.mg "max" = none) (ha : PD X M a σ H (sqD tp (ns.map PyData.int))) (hm : m ∈ ns) (hx : ∀ y ∈ ns, y ≤ m)
    (h1 : starEach (a :: []) X.env = (false, eval a X.env) :: starEach [] X.env := by rfl) (hpl : (backTo pos (starEach [] X.env)).any (·.1) = false := by rfl) : PD X M (.Call (.Name "max" p) [a] [] pos) σ H (.int m) := by
  cases tp with
  | true => exact pd_callB (cr_maxT hc hu) hg hn PyProof.Rows.boot_max (ad_cons ha ad_nil h1) (rn_maxT hm hx) (by decide) (by decide) h1 hpl
  | false => exact pd_callB (cr_max hc) hg hn PyProof.Rows.boot_max (ad_cons ha ad_nil h1) (rn_max hm hx) (by decide) (by decide) h1 hpl
theorem pd_min {p : Pos} {ns : List Int} {m : Int} (hc : X.calm = true) (hg : Gl X "min") (hn : X.mg "min" = none) (ha : PD X M a σ H (.list (ns.map PyData.int))) (hm : m ∈ ns) (hx : ∀ y ∈ ns, m ≤ y)
    (h1 : starEach (a :: []) X.env = (false, eval a X.env) :: starEach [] X.env := by rfl) (hpl : (backTo pos (starEach [] X.env)).any (·.1) = false := by rfl) : PD X M (.Call (.Name "min" p) [a] [] pos) σ H (.int m) :=
  pd_callB (cr_min hc) hg hn PyProof.Rows.boot_min (ad_cons ha ad_nil h1) (rn_min hm hx) (by decide) (by decide) h1 hpl
theorem pd_min2 {p : Pos} {i j : Int} (hg : Gl X "min") (hn : X.mg "min" = none) (ha : PD X M a σ H (.int i)) (hb : PD X M b σ H (.int j)) (hc : X.calm = true := by rfl)
    (h1 : starEach (a :: [b]) X.env = (false, eval a X.env) :: starEach [b] X.env := by rfl) (h2 : starEach (b :: []) X.env = (false, eval b X.env) :: starEach [] X.env := by rfl) (hpl : (backTo pos (starEach [b] X.env)).any (·.1) = false := by rfl) : PD X M (.Call (.Name "min" p) [a, b] [] pos) σ H (.int (min i j)) :=
  PD.is (pd_callB (call_min2 hc) hg hn PyProof.Rows.boot_min (ad_cons ha (ad_cons hb ad_nil h2) h1) rn_min2 (by decide) (by decide) h1 hpl) (by
    congr 1
    split
    · exact (Int.min_eq_right (by omega)).symm
    · exact (Int.min_eq_left (by omega)).symm)
theorem pd_max2 {p : Pos} {i j : Int} (hg : Gl X "max") (hn : X.mg "max" = none) (ha : PD X M a σ H (.int i)) (hb : PD X M b σ H (.int j)) (hc : X.calm = true := by rfl)
    (h1 : starEach (a :: [b]) X.env = (false, eval a X.env) :: starEach [b] X.env := by rfl) (h2 : starEach (b :: []) X.env = (false, eval b X.env) :: starEach [] X.env := by rfl) (hpl : (backTo pos (starEach [b] X.env)).any (·.1) = false := by rfl) : PD X M (.Call (.Name "max" p) [a, b] [] pos) σ H (.int (max i j)) :=
  PD.is (pd_callB (call_max2 hc) hg hn PyProof.Rows.boot_max (ad_cons ha (ad_cons hb ad_nil h2) h1) rn_max2 (by decide) (by decide) h1 hpl) (by
    congr 1
    split
    · exact (Int.max_eq_right (by omega)).symm
    · exact (Int.max_eq_left (by omega)).symm)
theorem fd_sortedSetS {p p2 q2 : Pos} {ns out : List Int} (hc : X.calm = true) (hg : Gl X "sorted") (hm : X.mg "sorted" = none) (hg2 : Gl X "set") (hm2 : X.mg "set" = none) (ha : PD X M a σ H (sqD tp (ns.map PyData.int)))
    (hl : ns.length < 64) (ho : out.Pairwise (· < ·)) (hmem : ∀ k, k ∈ out ↔ k ∈ ns)
    (na : starEach [a] X.env = (false, eval a X.env) :: starEach [] X.env := by rfl) : FD X M (.Call (.Name "sorted" p) [.Call (.Name "set" p2) [a] [] q2] [] pos) σ H (out.map PyData.int) := by
  cases tp with
  | true => exact fd_sortedSetT hc hg hm hg2 hm2 ha hl ho hmem na
  | false => exact fd_sortedSet hc hg hm hg2 hm2 ha hl ho hmem na
/-- list(e), tuple(e) -/
theorem fd_listOf {p : Pos} (hg : Gl X "list") (hm : X.mg "list" = none) (ha : PD X M a σ H d) (h : itemsD d = some ds)
    (h1 : starEach (a :: []) X.env = (false, eval a X.env) :: starEach [] X.env := by rfl) (hpl : (backTo pos (starEach [] X.env)).any (·.1) = false := by rfl) : FD X M (.Call (.Name "list" p) [a] [] pos) σ H ds :=
  fd_callTy call_list_of hg hm PyProof.Rows.boot_list (ad_cons ha ad_nil h1) (rf_list h) (by decide) (by decide) h1 hpl
theorem pd_tupleOf {p : Pos} (hg : Gl X "tuple") (hm : X.mg "tuple" = none) (ha : PD X M a σ H d) (h : itemsD d = some ds)
    (h1 : starEach (a :: []) X.env = (false, eval a X.env) :: starEach [] X.env := by rfl) (hpl : (backTo pos (starEach [] X.env)).any (·.1) = false := by rfl) : PD X M (.Call (.Name "tuple" p) [a] [] pos) σ H (.tuple ds) :=
  pd_callTy call_tuple_of hg hm PyProof.Rows.boot_tuple (ad_cons ha ad_nil h1) (rn_tuple h) (by decide) (by decide) h1 hpl
/-- the name in slot i, by its value -/
theorem ce_nm (i : Nat) {x : Str} {v : V} {Q : VK} (q : Q v H) (hN : X.N[i]? = some x := by rfl) (hv : Vis X.env.scope x := by first | exact .inl rfl | exact .inr (.inl rfl) | exact .inr (.inr rfl)) (hs : σ[i]? = some (some v) := by rfl)
    (hd : (x == ("__debug__" : Str)) = false := by decide) (hcd : (x == ("__classdict__" : Str)) = false := by decide) : wE X (.Name x pos) σ H Q := ce_name hN hv hs q hd hcd
end
end GV

namespace GV
open PySem PySem.Spec PyProof.Rows L2
section
variable {X : Cx} {M : Addr → Prop} {σ : St} {H H' : Hp} {a b c e tg iter : Expr} {da db d : PyData} {pos : Pos} {es : List Expr} {ds : List PyData} {tp : Bool}
/-! ### comprehensions over a heap with objects that stay -/
theorem lc_coreO {t : Tg} {elt : Expr} {ifs : List Expr} {scope : Scope} {own : List (Str × Nat)} (hc : X.calm = true) (hN : X.N.Nodup) (hi : Src X M tg iter σ H ds) (ok : BlkOk X.N X.env.scope scope own)
    (hg : ∀ s H C cl fp, PG (Cx.lc X s H scope C cl fp) tg (t.g X.K)) (hf : ∀ d ∈ ds, t.Fits d) (hw : ∀ M H d σ', t.Ok X.K M H d (wipe σ (own.map (·.2))) σ' → wipe σ' (own.map (·.2)) = wipe σ (own.map (·.2)))
    (p : PyData → Bool) (f : PyData → PyData) (hl : ds.length ≤ 100000)
    (body : ∀ s0 H0 C cl fp M' H' d σ', (∀ a, M a → M' a) → (∀ v e, Rp X.K M H v e → Rp X.K M' H' v e) → (∀ a o, ¬ M a → NT o → H a = some o → H' a = some o ∧ ¬ M' a) → d ∈ ds → t.Ok X.K M' H' d (wipe σ (own.map (·.2))) σ' →
      TsD (Cx.lc X s0 H0 scope C cl fp) M' ifs σ' H' (p d) ∧ (p d = true → PD (Cx.lc X s0 H0 scope C cl fp) M' elt σ' H' (f d))) :
    ∃ wi, PI X tg iter wi ∧ ∀ H1, ExM M H H1 → Alive M H1 → ∀ Q : VK, (∀ l ws H2, H1 l = none → Evl.Ex H1 H2 → H2 l = some (.lst ws) → RpAll X.K M H2 ws ((ds.filter p).map f) → Q (.ref l) H2) →
      tLc wi (t.g X.K) (fun σ H Q => ∀ s0 H0 C cl fp, wTs (Cx.lc X s0 H0 scope C cl fp) ifs σ H Q) (fun σ H Q => ∀ s0 H0 C cl fp, wE (Cx.lc X s0 H0 scope C cl fp) elt σ H Q) (own.map (·.2)) σ H1 Q := by
  obtain ⟨wi, pi, run⟩ := hi.ex
  refine ⟨wi, pi, fun H1 e1 al Q q => ?_⟩
  refine run H1 e1 al _ fun It Hs xs wk D hD => ?_
  have alS := al.mono xs
  -- D is mutable meanwhile
  let M' : Addr → Prop := fun a => M a ∨ a = D
  have hm : ∀ a, M' a → M a ∨ Hs a = none := fun a z => z.elim .inl fun e => .inr (by rw [e]; exact hD)
  have al2 : ∀ H', Evl.Ex Hs H' → (∃ acc, H' D = some (.lst acc)) → Alive M' H' := fun H' e ⟨acc, h⟩ a z => by
    rcases z with z | z
    · exact (alS.mono e) a z
    · subst z
      exact ⟨_, h⟩
  refine ⟨fun i m H' => m = ds.length - i ∧ i ≤ ds.length ∧ Evl.Ex Hs H' ∧ ∃ acc, H' D = some (.lst acc) ∧ acc.length ≤ i ∧ RpAll X.K M' H' acc (((ds.take i).filter p).map f), ⟨ds.length, rfl, Nat.zero_le _, Evl.Ex.new hD, [], upd_same, Nat.le_refl _, by simpa using RpAll.nil⟩, ?_⟩
  rintro i m H' ⟨rfl, hi', x, acc, hacc, hlen, racc⟩
  have eM : ExM M' Hs H' := .of x
  have al' := al2 H' x ⟨acc, hacc⟩
  by_cases hlt : i < ds.length
  · refine .inr ⟨wk.go M' i H' hm eM hlt, fun H2 => Evl.Ex Hs H2 ∧ ∃ acc, H2 D = some (.lst acc) ∧ acc.length ≤ i + 1 ∧ RpAll X.K M' H2 acc (((ds.take (i + 1)).filter p).map f), fun H2 ⟨a1, a2⟩ => ⟨ds.length - (i + 1), by omega, rfl, hlt, a1, a2⟩, fun v H2 y => ?_⟩
    obtain ⟨x2, r⟩ := wk.yld M' i H' v H2 hm eM al' y
    have hd' : ds[i]? = some ds[i] := List.getElem?_eq_getElem hlt
    have hmem := List.getElem_mem hlt
    have hacc2 : H2 D = some (.lst acc) := x2 _ _ hacc
    have lift : ∀ v e, Rp X.K M H v e → Rp X.K M' H2 v e := fun v e rv => ((rv.mono (fun _ z => z) (e1.trans (.of xs))).wide hm).mono (fun _ z => z) (.of (x.trans x2))
    have al3 := al2 H2 (x.trans x2) ⟨acc, hacc2⟩
    refine Tg.run (hf _ hmem) (r _ hd') fun σ2 okk => ⟨hw _ _ _ _ okk, ?_⟩
    have all := fun s0 H0 C cl fp => body s0 H0 C cl fp M' H2 ds[i] σ2 (fun _ z => .inl z) lift (fun a o nm nt h => ⟨x2 _ _ (x _ _ (xs _ _ (e1 _ _ h nm nt))), fun z => z.elim nm fun e => by have w := xs _ _ (e1 _ _ h nm nt); rw [e, hD] at w; cases w⟩) hmem okk
    -- the test
    have tk : (ds.take (i + 1)).filter p = (ds.take i).filter p ++ (if p ds[i] = true then [ds[i]] else []) := by
      rw [List.take_add_one, hd', List.filter_append]
      simp only [Option.toList_some, List.filter_cons, List.filter_nil]
    have fin : ∀ b, b = p ds[i] → ∀ H3, Evl.Ex H2 H3 → (if b = true then (∀ s0 H0 C cl fp, wE (Cx.lc X s0 H0 scope C cl fp) elt σ2 H3 fun y H4 => ∃ acc, H4 D = some (.lst acc) ∧ acc.length < sizeLine ∧
        (Evl.Ex Hs (upd H4 D (.lst (acc ++ [y]))) ∧ ∃ acc', (upd H4 D (.lst (acc ++ [y]))) D = some (.lst acc') ∧ acc'.length ≤ i + 1 ∧ RpAll X.K M' (upd H4 D (.lst (acc ++ [y]))) acc' (((ds.take (i + 1)).filter p).map f)))
        else (Evl.Ex Hs H3 ∧ ∃ acc, H3 D = some (.lst acc) ∧ acc.length ≤ i + 1 ∧ RpAll X.K M' H3 acc (((ds.take (i + 1)).filter p).map f))) := by
      intro b hb H3 x3
      have hacc3 := x3 _ _ hacc2
      cases b with
      | true =>
        rw [if_pos rfl]
        intro s0 H0 C cl fp
        refine ((all s0 H0 C cl fp).2 hb.symm).run H3 (.of x3) (al3.mono x3) _ fun y H4 x4 ry => ?_
        have x5 : Evl.Ex Hs H4 := ((x.trans x2).trans x3).trans x4
        refine ⟨acc, x4 _ _ hacc3, ?_, Evl.Ex.mut x5 hD, _, upd_same, ?_, ?_⟩
        · exact Nat.lt_of_lt_of_le (Nat.lt_of_le_of_lt hlen hlt) (Evl.sz_of hl)
        · rw [List.length_append, List.length_singleton]
          omega
        · rw [tk, if_pos hb.symm, List.map_append]
          have eD : ExM M' H4 (upd H4 D (.lst (acc ++ [y]))) := fun a o h nm _ => by
            rw [upd_ne (fun e => nm (.inr e))]
            exact h
          exact (racc.mono (fun _ z => z) (.of ((x2.trans x3).trans x4))).append (.cons ry .nil) |>.mono (fun _ z => z) eD
      | false =>
        rw [if_neg Bool.false_ne_true]
        refine ⟨(x.trans x2).trans x3, acc, hacc3, by omega, ?_⟩
        rw [tk, if_neg (by rw [← hb]; exact Bool.false_ne_true), List.append_nil]
        exact racc.mono (fun _ z => z) (.of (x2.trans x3))
    intro s0 H0 C cl fp
    exact (all s0 H0 C cl fp).1.run H2 (ExM.refl H2) al3 _ fun H3 x3 => fin _ rfl H3 x3
  · have e2 : i = ds.length := by omega
    subst e2
    refine .inl ⟨wk.stop M' H' hm eM, q D acc H' (Evl.fresh_back xs hD) (xs.trans x) hacc ?_⟩
    rw [List.take_length] at racc
    exact racc.mono (fun _ z => .inl z) (ExM.refl _)
theorem fd_lcO {t : Tg} {elt : Expr} {ifs : List Expr} {scope : Scope} {own : List (Str × Nat)} (hc : X.calm = true) (hN : X.N.Nodup) (hi : Src X M tg iter σ H ds) (ok : BlkOk X.N X.env.scope scope own)
    (hg : ∀ s H C cl fp, PG (Cx.lc X s H scope C cl fp) tg (t.g X.K)) (hf : ∀ d ∈ ds, t.Fits d) (hw : ∀ M H d σ', t.Ok X.K M H d (wipe σ (own.map (·.2))) σ' → wipe σ' (own.map (·.2)) = wipe σ (own.map (·.2)))
    (p : PyData → Bool) (f : PyData → PyData) (hl : ds.length ≤ 100000)
    (body : ∀ s0 H0 C cl fp M' H' d σ', (∀ a, M a → M' a) → (∀ v e, Rp X.K M H v e → Rp X.K M' H' v e) → (∀ a o, ¬ M a → NT o → H a = some o → H' a = some o ∧ ¬ M' a) → d ∈ ds → t.Ok X.K M' H' d (wipe σ (own.map (·.2))) σ' →
      TsD (Cx.lc X s0 H0 scope C cl fp) M' ifs σ' H' (p d) ∧ (p d = true → PD (Cx.lc X s0 H0 scope C cl fp) M' elt σ' H' (f d)))
    (hs : ∀ x, foldedSetIterable iter X.env x = pure x := by intro _; rfl) : FD X M (.ListComp elt [⟨tg, iter, ifs, 0⟩] scope pos) σ H ((ds.filter p).map f) := by
  obtain ⟨wi, pi, run⟩ := lc_coreO hc hN hi ok hg hf hw p f hl body
  exact .mk fun H1 e1 al Q q => ⟨_, pe_lc hc hN pi ok hg (fun s0 H0 C cl fp => ⟨fun pins s σ H Q I h => wTs.pts.run pins s σ H Q I (h s0 H0 C cl fp)⟩) (fun s0 H0 C cl fp => ⟨fun pins s σ H Q I h => wE.pe.run pins s σ H Q I (h s0 H0 C cl fp)⟩) hs, run H1 e1 al Q q⟩
theorem fd_filterO {tst : Expr} {t : Tg} {elt : Expr} {scope : Scope} {own : List (Str × Nat)} (p : PyData → Bool) (f : PyData → PyData) (hc : X.calm = true) (hN : X.N.Nodup) (hi : Src X M tg iter σ H ds) (ok : BlkOk X.N X.env.scope scope own)
    (hg : ∀ s H C cl fp, PG (Cx.lc X s H scope C cl fp) tg (t.g X.K)) (hf : ∀ d ∈ ds, t.Fits d) (hw : ∀ M H d σ', t.Ok X.K M H d (wipe σ (own.map (·.2))) σ' → wipe σ' (own.map (·.2)) = wipe σ (own.map (·.2))) (hl : ds.length ≤ 100000)
    (body : ∀ s0 H0 C cl fp M' H' d σ', (∀ a, M a → M' a) → (∀ v e, Rp X.K M H v e → Rp X.K M' H' v e) → (∀ a o, ¬ M a → NT o → H a = some o → H' a = some o ∧ ¬ M' a) → d ∈ ds → t.Ok X.K M' H' d (wipe σ (own.map (·.2))) σ' → TD (Cx.lc X s0 H0 scope C cl fp) M' tst σ' H' (p d) ∧ PD (Cx.lc X s0 H0 scope C cl fp) M' elt σ' H' (f d))
    (hs : ∀ x, foldedSetIterable iter X.env x = pure x := by intro _; rfl) : FD X M (.ListComp elt [⟨tg, iter, [tst], 0⟩] scope pos) σ H ((ds.filter p).map f) :=
  fd_lcO hc hN hi ok hg hf hw p f hl (fun s0 H0 C cl fp M' H' d σ' hM lift kp hd hok => let ⟨h1, h2⟩ := body s0 H0 C cl fp M' H' d σ' hM lift kp hd hok; ⟨tsd_one h1, fun _ => h2⟩) hs
/-- the heap behind the collecting of xs: a new list that holds them -/
abbrev heapC (h : Heap) (xs : Array Value) : Heap := (h.push (seqObj "list" #[] 0)).update h.objs.size (Obj.mapSeq (· ++ xs))
/-- collect of a list or a tuple, with the heap that it leaves (wpAny_collect_seq says only that all stays) -/
theorem collect_seqX {P : Program} {w : World} {A : Around} {E : Value → Shared → Prop} {s : Shared} {Q : List Value → Shared → Prop} (it : Addr) {T : String} {o : Obj} {xs : Array Value} {n : Nat} (hT : T = "list" ∨ T = "tuple")
    (ho : s.heap.get? it = some o) (hc : o.cls = .type T) (hd : o.data = .seq xs n) (hsz : xs.size ≤ sizeLine) (q : Q xs.toList { s with heap := heapC s.heap xs }) : wpAny (model P w) A (collect (.ref it)) Q E s := by
  have empty : (s.heap.push (seqObj "list" #[] 0)).get? s.heap.objs.size = some (seqObj "list" #[] 0) := Heap.get?_push_size _ rfl
  have full : ∃ e, (heapC s.heap xs).get? s.heap.objs.size = some (seqObj "list" xs e) := by
    have e := get?_update_seq empty (· ++ xs)
    rw [show (#[] : Array Value) ++ xs = xs by simp] at e
    exact ⟨_, e⟩
  obtain ⟨e, full⟩ := full
  -- what is done with the full list
  have read : ∀ {k : Obj → Sem (List Value)}, (∀ m, k (seqObj "list" xs m) = pure xs.toList) → wpAny (model P w) A (load s.heap.objs.size >>= k) Q E { s with heap := heapC s.heap xs } := fun hk => wpAny_bind (wpAny_load full (by rw [hk]; exact wpAny_pure q))
  have fill := wpAny_extend_seq (prog := P) (w := w) (A := A) (s := { s with heap := s.heap.push (seqObj "list" #[] 0) }) (R := fun r z => r = .ok (.ret (.ref s.heap.objs.size)) ∧ z = { s with heap := heapC s.heap xs }) s.heap.objs.size it (.ref s.heap.objs.size) 0 hT empty (Heap.get?_push_of_some _ ho) hc hd ⟨rfl, rfl⟩ hsz
  unfold collect
  refine wpAny_bind (wpAny_runValue (codeAny_builtin PyProof.Rows.entry_proto_collect' ?_))
  refine wpAny_bind (wpAny_newList (wpAny_pure ⟨Code.quiet_builtin _ (by decide +kernel), codeAny_builtin PyProof.Rows.entry_list_iadd' (wpAny_mono fill (fun r z hz => ?_) fun e z hz => ?_)⟩) (by simp))
  · cases r with
    | done f =>
      obtain ⟨e1, rfl⟩ := hz
      cases e1
      exact read fun m => rfl
    | again c' =>
      refine ⟨hz.1, codeAny_mono hz.2 fun r u hr => ?_⟩
      obtain ⟨rfl, rfl⟩ := hr
      exact read fun m => rfl
  · exact absurd hz.1 (by simp)
/-! ### sorted(a list or a tuple of whole numbers, fewer than 64) -/
def rSortQ (K : PySem.W.Frag) : List V → Hp → VK → Prop := fun vs H Q => ∃ (a : Addr) (ns : List Int), vs = [.ref a] ∧ (SqL K H a (ns.map V.int) ∨ SqT K H a (ns.map V.int)) ∧ ns.length < 64 ∧
  ∀ (ns' : List Int) (p : Addr), ns'.Perm ns → ns'.Pairwise (· ≤ ·) → H p = none → Q (.ref p) (upd H p (.lst (ns'.map V.int)))
theorem cr_sortQ : CallR X (.builtin "sorted") (rSortQ X.K) := by
  intro pins s σ H vs us Q J r h
  obtain ⟨a, ns, rfl, hs, h64, q⟩ := h
  rw [Vals.ref1 r]
  have core : ∀ (T : String) (its : List Value) (o : Obj) (n : Nat), (T = "list" ∨ T = "tuple") → Vals (ns.map V.int) its → s.heap.get? a = some o → o.cls = .type T → o.data = .seq its.toArray n →
      wpAny (model X.prog X.w) X.A (call (.builtin "sorted") [.ref a]) (EP X pins σ Q) X.xe s := by
    intro T its o n hT rv ho hcl hd
    have hI : IntsAre its ns := rv.ints
    have hln : its.length = ns.length := by rw [← rv.length, List.length_map]
    refine Calls.call_function_entry PyProof.Rows.kind_sorted PyProof.Rows.plain_sorted PyProof.Rows.entry_sorted (PyProof.Rows.args_sorted1 (.ref a)) ?_
    unfold Builtin.«sorted»
    have hzz : its.toArray.size ≤ sizeLine := by rw [List.size_toArray, hln, sizeLine_eq]; omega
    refine wpAny_bind (m := checkCount "sorted" 1 1 _) (wpAny_pure (wpAny_bind (collect_seqX a hT ho hcl hd hzz ?_)))
    rw [List.toList_toArray]
    refine wpAny_bind (wpAny_newList ?_ (by rw [← List.size_toArray]; exact hzz))
    generalize hh' : heapC s.heap its.toArray = h'
    have hsz : h'.objs.size = s.heap.objs.size + 1 := by rw [← hh', Heap.size_update, Heap.size_push]
    have kp : ∀ b o, s.heap.get? b = some o → h'.get? b = some o := fun b o e => by
      rw [← hh', Heap.get?_update_ne _ _ _ _ (Nat.ne_of_lt (Heap.lt_size e))]
      exact Heap.get?_push_of_some _ e
    have hoL : (h'.push (seqObj "list" its.toArray 0)).get? h'.objs.size = some (seqObj "list" its.toArray 0) := Heap.get?_push_size _ rfl
    refine wpAny_bind (wpAny_holding (wpAny_call_entry PyProof.Rows.slot_list_sort ⟨_, hoL, rfl⟩ PyProof.Rows.entry_list_sort (list_sort_tree hoL hI (by rw [hln]; exact h64) fun out ns' k1 k2 k3 => ⟨_, rfl, ?_⟩) (PyProof.Rows.args_list_sort _)))
    obtain ⟨c, hc⟩ := sortedHeap_at (vs := its) (out := out) hoL
    have le : s.heap.objs.size ≤ h'.objs.size := by rw [hsz]; exact Nat.le_succ _
    refine wpAny_pure ⟨_, rfl, .ref _, upd H h'.objs.size (.lst (ns'.map V.int)), ?_, rfl, q ns' _ k2 k3 (J.hok.fresh le)⟩
    refine J.laid (t' := s.toks) (fun b u e => ?_) le ⟨?_, out.toList, c, vals_of_ints k1, hc⟩
    · have e := kp b u e
      have hlt := Heap.lt_size e
      show (sortedHeap (h'.push (seqObj "list" its.toArray 0)) h'.objs.size its out).get? b = some u
      rw [sortedHeap_old (Nat.ne_of_lt hlt) (by rw [Heap.size_push]; exact Nat.lt_succ_of_lt hlt)]
      exact Heap.get?_push_of_some _ e
    · rw [List.length_map, k2.length_eq, sizeLine_eq]
      omega
  rcases hs with hs | hs
  · obtain ⟨its, rv, hl, hz⟩ := J.list hs
    obtain ⟨o, ho, hcl, n, hd⟩ := hl.isList
    exact core "list" its o n (.inl rfl) rv ho hcl hd
  · obtain ⟨its, rv, hl, hz⟩ := J.tuple hs
    obtain ⟨o, ho, hcl, n, hd⟩ := hl
    exact core "tuple" its o n (.inr rfl) rv ho hcl hd
end
end GV

namespace GV
open PySem PySem.Spec PyProof.Rows L2
section
variable {X : Cx} {M : Addr → Prop} {σ : St} {H H' : Hp} {a b c e tg iter : Expr} {da db d : PyData} {pos : Pos} {es : List Expr} {ds : List PyData} {tp : Bool} {D : Ends}
theorem two_sorted {x y : Int} {l : List Int} (h : l.Perm [x, y]) (s : l.Pairwise (· ≤ ·)) : l = [min x y, max x y] := by
  have hl := h.length_eq
  match l, hl with
  | [u, v], _ =>
    have hs : u ≤ v := by
      have := List.pairwise_cons.mp s
      exact this.1 v (by simp)
    have h1 : u ∈ [x, y] := h.mem_iff.mp (by simp)
    have h2 : v ∈ [x, y] := h.mem_iff.mp (by simp)
    have h3 : x ∈ [u, v] := h.mem_iff.mpr (by simp)
    have h4 : y ∈ [u, v] := h.mem_iff.mpr (by simp)
    simp only [List.mem_cons, List.not_mem_nil, or_false] at h1 h2 h3 h4
    have e1 : u = min x y := by omega
    have e2 : v = max x y := by omega
    rw [e1, e2]
theorem fd_sort2 {p : Pos} {x y : Int} (hg : Gl X "sorted") (hm : X.mg "sorted" = none) (ha : PD X M a σ H (sqD tp [.int x, .int y])) (hs : starEach (a :: []) X.env = (false, eval a X.env) :: starEach [] X.env := by rfl) (hpl : (backTo pos (starEach [] X.env)).any (·.1) = false := by rfl) :
    FD X M (.Call (.Name "sorted" p) [a] [] pos) σ H [.int (min x y), .int (max x y)] := by
  refine fd_callB cr_sortQ hg hm PyProof.Rows.boot_sorted (ad_cons ha ad_nil hs) (fun vs H1 r al Q q => ?_) (by decide) (by decide) hs hpl
  obtain ⟨v, rfl, r1⟩ := rpa1 r
  have fin : ∀ (ns' : List Int) (p : Addr), ns'.Perm [x, y] → ns'.Pairwise (· ≤ ·) → H1 p = none → Q (.ref p) (upd H1 p (.lst (ns'.map V.int))) := fun ns' p hp hs hn => by
    rw [two_sorted hp hs]
    exact q p _ _ hn (Evl.Ex.new hn) upd_same (.cons (.int _) (.cons (.int _) .nil))
  cases tp with
  | true =>
    cases r1 with
    | tup m hs rs =>
      obtain ⟨v1, v2, rfl, q1, q2⟩ := rpa2 rs
      cases q1
      cases q2
      exact ⟨_, [x, y], rfl, .inr (.inl hs), (by show 2 < 64; decide), fin⟩
  | false =>
    cases r1 with
    | lst m hs rs =>
      obtain ⟨v1, v2, rfl, q1, q2⟩ := rpa2 rs
      cases q1
      cases q2
      exact ⟨_, [x, y], rfl, .inl (.inl hs), (by show 2 < 64; decide), fin⟩
/-- x, y = a list of two -/
theorem s_unp2 {i j kt : Nat} {x y : Str} {px py pt : Pos} (al : Alive M H) (hc : X.calm = true) (h : FD X M e σ H [da, db]) (hx : PG X (.Name x px) (gName i)) (hy : PG X (.Name y py) (gName j))
    (q : ∀ v w H2, Evl.Ex H H2 → Rp X.K M H2 v da → Rp X.K M H2 w db → D.nx ((σ.set i (some v)).set j (some w)) H2)
    (hn : (assignEach [.Name x px, .Name y py] X.env).length = 2 := by rfl) (hst : (assignEach [.Name x px, .Name y py] X.env).findIdx? (·.1) = none := by rfl) (hs : swapsWithSole [.Tuple [.Name x px, .Name y py] kt pt] e pos.line X.env = pure false := by rfl) (hw : swappedStores [.Tuple [.Name x px, .Name y py] kt pt] e X.env = pure none := by rfl)
    (h1 : (assignEach [.Tuple [.Name x px, .Name y py] kt pt] X.env).map (·.2) = [assign (.Tuple [.Name x px, .Name y py] kt pt) X.env] := by rfl) : wS X (.Assign [.Tuple [.Name x px, .Name y py] kt pt] e pos) D σ H :=
  ⟨_, ps_asg wE.pe (pg_unl hc (pgs_cons hx (pgs_cons hy pgs_nil)) hn hst) hs hw h1, h.run H (ExM.refl H) al _ fun p ws H2 hp x2 h2 rs => by
    obtain ⟨v, w, rfl, r1, r2⟩ := rpa2 rs
    exact ⟨p, _, rfl, .inl (.inl h2), rfl, v, _, rfl, w, _, rfl, rfl, q v w H2 x2 r1 r2⟩⟩
theorem pd_catT {es fs : List PyData} (ha : PD X M a σ H (.tuple es)) (hb : PD X M b σ H (.tuple fs)) (hl : es.length + fs.length ≤ 100000) : PD X M (.BinOp a .Add b pos) σ H (.tuple (es ++ fs)) := .mk fun H1 e1 al Q q =>
  ⟨_, pe_op op_catA wE.pe wE.pe, ha.run H1 e1 al _ fun x H2 x2 rx => hb.run H2 (e1.trans (.of x2)) (al.mono x2) _ fun y H3 x3 ry => by
    have rx' := rx.mono (fun _ z => z) (.of x3)
    have al3 := (al.mono x2).mono x3
    cases rx' with
    | tup m1 h1 r1 =>
      cases ry with
      | tup m2 h2 r2 =>
        refine ⟨_, _, _, _, rfl, rfl, .inl h1, .inl h2, by rw [r1.length, r2.length]; exact Evl.sz_of hl, fun e => ?_, fun _ e => ?_, fun _ _ p hp => ?_⟩
        · subst e
          cases r1
          exact q _ _ (x2.trans x3) (.tup m2 h2 r2)
        · subst e
          cases r2
          exact q _ _ (x2.trans x3) (.tup m1 h1 (by rw [List.append_nil]; exact r1))
        · exact q _ _ ((x2.trans x3).trans (Evl.Ex.new hp)) (.tup (al3.fresh hp) (.inl upd_same) ((r1.append r2).mono (fun _ z => z) (.of (Evl.Ex.new hp))))⟩
/-! ### x in a list of whole numbers -/
theorem inV_ints (x : Int) (ns : List Int) : inV (.int x) (ns.map V.int) = decide (x ∈ ns) := by
  unfold inV
  rw [List.any_map, Bool.eq_iff_iff, decide_eq_true_eq, List.any_eq_true]
  constructor
  · rintro ⟨y, hy, e⟩
    have e : (y == x) = true := e
    rw [← beq_iff_eq.mp e]
    exact hy
  · intro h
    exact ⟨x, h, (by show (x == x) = true; simp)⟩
theorem flat_ints (ns : List Int) : (ns.map V.int).all flatV = true := by
  rw [List.all_map, List.all_eq_true]
  exact fun _ _ => rfl
theorem td_in {x : Int} {ns : List Int} (ha : PD X M a σ H (.int x)) (hb : PD X M b σ H (.list (ns.map PyData.int))) (hk : behindInMarks .In b = false := by rfl) : TD X M (.Compare a [.In] [b] pos) σ H (decide (x ∈ ns)) :=
  td_cmpR op_in_seq hk (fun u v H1 ru rv _ Q q => by
    cases ru
    cases rv with
    | lst m hs rs =>
      refine ⟨_, _, rfl, .inl (.inl hs), rfl, by rw [rs.of_ints]; exact flat_ints ns, ?_⟩
      rw [rs.of_ints]
      show Q (.bl (inV (.int x) (ns.map V.int))) H1
      rw [inV_ints]
      exact q _ H1 (Evl.Ex.refl H1) (.bl _)) ha hb
theorem td_nin {x : Int} {ns : List Int} (ha : PD X M a σ H (.int x)) (hb : PD X M b σ H (.list (ns.map PyData.int))) (hk : behindInMarks .NotIn b = false := by rfl) : TD X M (.Compare a [.NotIn] [b] pos) σ H (!decide (x ∈ ns)) :=
  td_cmpR op_notIn_seq hk (fun u v H1 ru rv _ Q q => by
    cases ru
    cases rv with
    | lst m hs rs =>
      refine ⟨_, _, rfl, .inl (.inl hs), rfl, by rw [rs.of_ints]; exact flat_ints ns, ?_⟩
      rw [rs.of_ints]
      show Q (.bl (!inV (.int x) (ns.map V.int))) H1
      rw [inV_ints]
      exact q _ H1 (Evl.Ex.refl H1) (.bl _)) ha hb
/-! ### is True, is False -/
theorem ce_isnB {Q : VK} {k j : Bool} {jj p2} (h : wE X a σ H fun x H2 => x = .bl k ∧ Q (.bl (!decide (k = j))) H2) : wE X (.Compare a [.IsNot] [.Constant (.bool j) jj p2] pos) σ H Q :=
  ⟨_, pe_cmpR op_isnot_bl wE.pe pe_bl (nomark _), wE.weak h fun x H2 ⟨e, q⟩ => (by exact ⟨k, j, e, rfl, q⟩)⟩
theorem ct_isnB {Q : Bool → Hp → Prop} {k j : Bool} {jj p2} (h : wE X a σ H fun x H2 => x = .bl k ∧ Q (!decide (k = j)) H2) : wT X (.Compare a [.IsNot] [.Constant (.bool j) jj p2] pos) σ H Q :=
  ⟨_, pt_cmpR op_isnot_bl wE.pe pe_bl (nomark _), wE.weak h fun x H2 ⟨e, q⟩ => (by exact ⟨k, j, e, rfl, _, rfl, q⟩)⟩
/-! ### len(set(..)) -/
def dd : List Int → List Int
  | [] => []
  | x :: t => if x ∈ t then dd t else x :: dd t
theorem mem_dd {l : List Int} {k : Int} : k ∈ dd l ↔ k ∈ l := by
  induction l with
  | nil => exact Iff.rfl
  | cons x t ih =>
    unfold dd
    split
    · rename_i h
      rw [ih, List.mem_cons]
      exact ⟨.inr, fun z => z.elim (fun e => e ▸ h) id⟩
    · rw [List.mem_cons, List.mem_cons, ih]
theorem nd_dd (l : List Int) : (dd l).Nodup := by
  induction l with
  | nil => exact List.nodup_nil
  | cons x t ih =>
    unfold dd
    split
    · exact ih
    · rename_i h
      exact List.nodup_cons.mpr ⟨fun z => h (mem_dd.mp z), ih⟩
theorem dd_le (l : List Int) : (dd l).length ≤ l.length := by
  induction l with
  | nil => exact Nat.le_refl _
  | cons x t ih =>
    unfold dd
    split
    · exact Nat.le_succ_of_le ih
    · exact Nat.succ_le_succ ih
theorem dd_eq {l : List Int} : (dd l).length = l.length ↔ l.Nodup := by
  induction l with
  | nil => exact ⟨fun _ => List.nodup_nil, fun _ => rfl⟩
  | cons x t ih =>
    unfold dd
    rw [List.nodup_cons]
    split
    · rename_i h
      constructor
      · intro e
        have := dd_le t
        rw [List.length_cons] at e
        omega
      · exact fun z => absurd h z.1
    · rename_i h
      rw [List.length_cons, List.length_cons]
      exact ⟨fun e => ⟨h, ih.mp (by omega)⟩, fun z => by rw [ih.mpr z.2]⟩
theorem pd_lenSet {p p2 q2 : Pos} {ns : List Int} (hc : X.calm = true) (hg : Gl X "len") (hm : X.mg "len" = none) (hg2 : Gl X "set") (hm2 : X.mg "set" = none) (ha : PD X M a σ H (sqD tp (ns.map PyData.int))) (hl : ns.length < 64)
    (na : starEach [a] X.env = (false, eval a X.env) :: starEach [] X.env := by rfl) : PD X M (.Call (.Name "len" p) [.Call (.Name "set" p2) [a] [] q2] [] pos) σ H (.int ((dd ns).length : Nat)) := .mk fun H1 e1 al Q q => by
  refine ⟨fun σ H Q => wE X a σ H fun x H1 => ∃ l, x = V.ref l ∧ (SqL X.K H1 l (ns.map V.int) ∨ SqT X.K H1 l (ns.map V.int)) ∧ Q (.int ((dd ns).length : Nat)) H1, ⟨fun pins s σ H Q J h => ?_⟩, ?_⟩
  · refine Call_ (ld_blt J hg hm PySem.boot_len (PyProof.Rows.callWith_builtin1 (PyProof.Rows.args_cons ?_ rfl) rfl rfl))
    refine Call_ (ld_blt J hg2 hm2 PyProof.Rows.boot_set (PyProof.Rows.callWith_type1 (PyProof.Rows.args_cons (thn (wE.pe.run pins s σ H _ J h) fun v s1 ⟨x, H1, J1, r1, l, e2, hq, q1⟩ => PyProof.Rows.args_nil ?_) na) na rfl))
    subst e2
    cases r1
    have fin : ∀ (g : Heap) (tk c : Nat), SetR X.w g s1.heap.objs.size (fun j => decide (j ∈ ns)) c → c ≤ ns.length → (∀ b o, s1.heap.get? b = some o → g.get? b = some o) →
        wpAny (model X.prog X.w) X.A (spliced (backTo pos (starEach [] X.env))) (fun vs s₂ => wpAny (model X.prog X.w) X.A (call (.builtin "len") (Value.ref s1.heap.objs.size :: vs)) (EP X pins σ Q) X.xe s₂) X.xe { s1 with heap := g, toks := tk } := by
      intro g tk c R hcl k
      refine PyProof.Rows.args_nil ?_
      obtain ⟨o, es, ep, t, ho, hex, hd, _, hnd, hmem, hsz, hf, hn, _⟩ := R
      have J2 : Inv X pins σ H1 { s1 with heap := g, toks := tk } := J1.kept k
      have hc' : c = (dd ns).length := by
        have pm : (es.toList.map keyOf).Perm (dd ns) := (List.perm_ext_iff_of_nodup hnd (nd_dd ns)).mpr fun k => by
          rw [← hmem k, mem_dd]
          exact decide_eq_true_iff
        have := pm.length_eq
        rw [List.length_map, Array.length_toList, hn] at this
        exact this
      refine call_len_set ho hex hd hf (by rw [hn] <;> omega) ⟨.int ((dd ns).length : Nat), H1, J2.tok _, ⟨_, by rw [hn, hc']⟩, q1⟩
    rcases hq with hq | hq
    · obtain ⟨its, r, pl, hz⟩ := J1.list hq
      exact set_ofL ns (J1.ok.hd hc) pl.isList (by simpa using r.ints) (by unfold scanBound; omega) fun g tk c R hcl k => fin g tk c R hcl k
    · obtain ⟨its, r, pl, hz⟩ := J1.tuple hq
      exact call_set_tupI ns (J1.ok.hd hc) pl (by simpa using r.ints) (by unfold scanBound; omega) fun g tk c R hcl k => fin g tk c R hcl k
  · refine ha.run H1 e1 al _ fun v H2 x2 r => ?_
    cases tp with
    | true =>
      cases r with
      | tup m hr rs => exact ⟨_, rfl, .inr (.inl (by rw [← rs.of_ints]; exact hr)), q _ H2 x2 (.int _)⟩
    | false =>
      cases r with
      | lst m hr rs => exact ⟨_, rfl, .inl (.inl (by rw [← rs.of_ints]; exact hr)), q _ H2 x2 (.int _)⟩
end
end GV

namespace YK
open PySem PySem.Spec PyProof.Rows L2 GV
section
variable {P : Program} {w : World} {K : PySem.W.Frag} {mg : Str → Option Value} {base : Heap}
abbrev intsD (ns : List Int) : PyData := .list (ns.map PyData.int)
abbrev tintsD (ns : List Int) : PyData := .tuple (ns.map PyData.int)
theorem kit_list (d : PyData) : kitB (tyD d) "list" = some (match d with | .list _ => true | _ => false) := by
  cases d with
  | none => exact (by decide +kernel : kitB "NoneType" "list" = some false)
  | bool _ => exact (by decide +kernel : kitB "bool" "list" = some false)
  | int _ => exact (by decide +kernel : kitB "int" "list" = some false)
  | str _ => exact (by decide +kernel : kitB "str" "list" = some false)
  | list _ => exact (by decide +kernel : kitB "list" "list" = some true)
  | tuple _ => exact (by decide +kernel : kitB "tuple" "list" = some false)
  | dict _ => exact (by decide +kernel : kitB "dict" "list" = some false)
theorem kit_tup (ds : List PyData) : kitB (tyD (.tuple ds)) "tuple" = some true := (by decide +kernel : kitB "tuple" "tuple" = some true)
theorem get_i {ns : List Int} {i : Nat} (h : i < ns.length) : ∃ z, ns[i]? = some z := ⟨_, List.getElem?_eq_getElem h⟩
def isSeqD : PyData → Bool
  | .list _ => true
  | .tuple _ => true
  | _ => false
def partsD : PyData → List PyData
  | .list ds => ds
  | .tuple ds => ds
  | _ => []
def isListD : PyData → Bool
  | .list _ => true
  | _ => false
def isTupD : PyData → Bool
  | .tuple _ => true
  | _ => false
theorem kit_l (d : PyData) : kitB (tyD d) "list" = some (isListD d) := by
  cases d with
  | none => exact (by decide +kernel : kitB "NoneType" "list" = some false)
  | bool _ => exact (by decide +kernel : kitB "bool" "list" = some false)
  | int _ => exact (by decide +kernel : kitB "int" "list" = some false)
  | str _ => exact (by decide +kernel : kitB "str" "list" = some false)
  | list _ => exact (by decide +kernel : kitB "list" "list" = some true)
  | tuple _ => exact (by decide +kernel : kitB "tuple" "list" = some false)
  | dict _ => exact (by decide +kernel : kitB "dict" "list" = some false)
theorem kit_t (d : PyData) : kitB (tyD d) "tuple" = some (isTupD d) := by
  cases d with
  | none => exact (by decide +kernel : kitB "NoneType" "tuple" = some false)
  | bool _ => exact (by decide +kernel : kitB "bool" "tuple" = some false)
  | int _ => exact (by decide +kernel : kitB "int" "tuple" = some false)
  | str _ => exact (by decide +kernel : kitB "str" "tuple" = some false)
  | list _ => exact (by decide +kernel : kitB "list" "tuple" = some false)
  | tuple _ => exact (by decide +kernel : kitB "tuple" "tuple" = some true)
  | dict _ => exact (by decide +kernel : kitB "dict" "tuple" = some false)
def bagB (d : PyData) : Bool := isSeqD d && decide ((partsD d).length ≤ 40) && (partsD d).all isWeightD
def R_bag (ds : List PyData) (d : PyData) : Prop := ∃ a, ds = [a] ∧ (partsD a).length ≤ 1000 ∧ d = .bool (bagB a)
theorem cl_is_bag_row {f : Addr} {fd : FuncData} {t : Tok} (F : At K mg "is_bag_row" s_is_bag_row f fd) (nb : NoB mg) (c1 : Cl P w K mg base CX0 3 "is_weight" (PureR K R_is_weight)) (gS : mg "MOST_STONES" = some (.int 40 t)) : Cl P w K mg base CX0 4 "is_bag_row" (PureR K R_bag) := by
  refine cl_pure F sc_is_bag_row (F.fn.binds fun _ _ _ _ _ _ us hl => match us, hl with | [_], _ => rfl) (fun ds d h => ?_) (fun X cdv A outer s H Q E M vs ds d hX hr al r h q => ?_)
  · obtain ⟨a, rfl, _⟩ := h
    rfl
  · obtain ⟨a, rfl, hlen, rfl⟩ := h
    obtain ⟨v, rfl, r1⟩ := rpa1 r
    subst hX
    -- the parts are walked
    have last : ∀ H2, Evl.Ex H H2 → isSeqD a = true → (∀ {X : Cx} {σ' : L2.St} {tg e}, PD X M e σ' H2 a → Src X M tg e σ' H2 (partsD a)) → (partsD a).length ≤ 40 → wB (cxOf CX0 P w K mg base n_is_bag_row "is_bag_row" (defScope s_is_bag_row) f cdv A outer s H E).nox ((defBody s_is_bag_row).drop 1) { nx := fun _ H' => Q .non H', rt := Q } (L2.start n_is_bag_row [v]) H2 := by
      intro H2 x2 hq src hl
      have r2 := r1.mono (fun _ z => z) (ExM.of x2)
      refine b_cons (s_ret (al.mono x2) (PD.is (pd_callB (cr_all rfl) rfl nb.all PyProof.Rows.boot_all (ad_cons (PD.is (d' := .list (((partsD a).map isWeightD).map PyData.bool)) (FD.pd
        (fd_map (t := .one 1) (own := [("item", 1)]) (fun d => .bool (isWeightD d)) rfl sc_is_bag_row.nd (src (nm 0 r2)) (blkOk_by (N := n_is_bag_row) (sc := defScope s_is_bag_row) (by decide +kernel)) (fun _ _ _ _ _ => pg_name (i := 1) sc_is_bag_row.nd rfl (.inl rfl)) (fun _ _ => trivial) ?_ ?_ ?_)) ?_) ad_nil) rn_all) ?_) fun v H3 x3 rv => q v H3 (x2.trans x3) rv)
      · rintro M H d σ' ⟨v, _, rfl⟩
        rfl
      · omega
      · rintro s0 H0 C cl fp M' H' d σ' hM lift hd ⟨v, rv, rfl⟩
        exact pd_callC c1 hr (by decide) rfl (ad_cons (nm 1 rv) ad_nil) ⟨d, rfl, rfl⟩
      · rw [List.map_map]
        rfl
      · unfold bagB
        rw [hq, decide_eq_true hl, Bool.true_and, Bool.true_and, List.all_map]
        rfl
    have lenA : ∀ {n}, isSeqD a = true → n = (partsD a).length → lenD a = some n := fun hq hn => by
      cases a <;> first | (cases hq; done) | (subst hn; rfl)
    refine b_cons (s_if (k := !(isListD a || isTupD a) || decide ((40 : Int) < ((partsD a).length : Nat))) al (WD.td (wd_or (td_not (td_val (pd_isi2 rfl nb.isinstance rfl nb.list PyProof.Rows.boot_list rfl nb.tuple PyProof.Rows.boot_tuple (nm 0 r1) (kit_l a) (kit_t a)))) fun hq => wd_or1 (td_gt (pd_len nb rfl (nm 0 r1) (lenA ?_ rfl)) (pd_globI rfl gS)))) (fun k H2 x2 => ?_) (fun k H2 x2 => ?_))
    · cases a <;> first | rfl | (cases hq; done)
    · have hb : bagB a = false := by
        unfold bagB
        cases a <;> first | rfl | skip
        all_goals
          simp only [isListD, isTupD, Bool.or_true, Bool.true_or, Bool.not_true, Bool.false_or, decide_eq_true_eq] at k
          rw [decide_eq_false (by omega), Bool.and_false, Bool.false_and]
      exact b_cons (s_ret (al.mono x2) (PD.is pd_bl (by rw [hb])) fun v H3 x3 rv => q v H3 (x2.trans x3) rv)
    · have hs : isSeqD a = true ∧ (partsD a).length ≤ 40 := by
        cases a <;> simp [isListD, isTupD] at k <;> exact ⟨rfl, by omega⟩
      refine b_nil (last H2 x2 hs.1 (fun h => ?_) hs.2)
      cases a with
      | list ds => exact src_list h
      | tuple ds => exact src_tup h
      | _ => cases hs.1
end
end YK

namespace YK
open PySem PySem.Spec PyProof.Rows L2 GV
section
variable {P : Program} {w : World} {K : PySem.W.Frag} {mg : Str → Option Value} {base : Heap}
def ExB (b : Addr) (H H' : Hp) : Prop := ∀ a o, a ≠ b → H a = some o → H' a = some o
theorem ExB.of {b : Addr} {H H' : Hp} (e : Evl.Ex H H') : ExB b H H' := fun a o _ h => e a o h
theorem ExB.trans {b : Addr} {H H1 H2 : Hp} (e : ExB b H H1) (f : ExB b H1 H2) : ExB b H H2 := fun a o n h => f a o n (e a o n h)
theorem ExB.upd {b : Addr} {H : Hp} {o : HO} : ExB b H (upd H b o) := fun a u n h => by
  rw [upd_ne n]
  exact h
theorem emod_lt' (a : Int) {m : Int} (h : 0 < m) : 0 ≤ a % m ∧ a % m < m := ⟨Int.emod_nonneg _ (by omega), Int.emod_lt_of_pos _ h⟩
theorem small_mul {i : Int} (h0 : 0 ≤ i) (h1 : i < 2147483648) : CMul i i := .inl ⟨by omega, by omega⟩
end
end YK

namespace YK
open PySem PySem.Spec PyProof.Rows L2 GV
def okW (z : Int) : Prop := -1000000000000 ≤ z ∧ z ≤ 1000000000000
theorem okW.is {z : Int} (h : okW z) : isWeightD (.int z) = true := by
  show (decide (-mostW ≤ z) && decide (z ≤ mostW)) = true
  rw [decide_eq_true (by unfold mostW; exact h.1), decide_eq_true (by unfold mostW; exact h.2)]
  rfl
section
variable {P : Program} {w : World} {K : PySem.W.Frag} {mg : Str → Option Value} {base : Heap}
/-! ### a weight -/
end
end YK

namespace YK
open PySem PySem.Spec PyProof.Rows L2 GV
def RowL (ns : List Int) : Prop := ns.length ≤ 40 ∧ (∀ z ∈ ns, okW z) ∧ ns.Nodup
section
variable {P : Program} {w : World} {K : PySem.W.Frag} {mg : Str → Option Value} {base : Heap}
end
end YK

/-! A list of lambdas, given to a name: their closures are pinned for the rest of the block. -/
namespace GV
open PySem PySem.Spec PyProof.Rows L2
structure Lm where
  ps : Arguments
  bd : Expr
  sc : Scope
  po : Pos
def Lm.e (l : Lm) : Expr := .Lambda l.ps l.bd l.sc l.po
def lmsOf : List Expr → List Lm
  | .Lambda a b c d :: es => ⟨a, b, c, d⟩ :: lmsOf es
  | _ => []
abbrev cloO (X : Cx) (l : Lm) (pm : Value) (c' : Addr) (ctv : Value) : Obj := PySem.W.kla_obj "<lambda>" (X.env.qual ++ "<lambda>") l.ps l.bd l.sc (cloFrom X.env.cells l.sc.names []) pm c' ctv
abbrev qlam (X : Cx) : Str := X.env.qual ++ "<lambda>"
/-- the closure of l stands at f -/
def CloAt (X : Cx) (pn : List (Addr × Obj)) (H : Hp) (l : Lm) (f : Addr) : Prop := ∃ pm c' ctv, (f, cloO X l pm c' ctv) ∈ pn ∧ H c' = some (LamX.CodeO c' (qlam X))
structure LmOk (X : Cx) (l : Lm) : Prop where
  sc : LamX.LamS X.env.scope l.sc
  df : defaultsOf l.ps X.env = ([], [])
  bi : ∀ (q : Str) (cl : List (Str × Addr)) (pm cv ctv : Value), bindArgs (PySem.W.kla_fn "<lambda>" q l.ps l.bd l.sc cl pm cv ctv) ⟨[], []⟩ = pure []
section
variable {X : Cx} {pins : List (Addr × Obj)} {σ : St} {H : Hp} {s : Shared}
theorem inv_pinF {f : Addr} {l : Lm} {pm ctv : Value} {c' : Addr} (I : Inv X pins σ H s) (hf : s.heap.get? f = some (cloO X l pm c' ctv)) (hn : H f = none) (hfr : f ∉ frs X.stack) : Inv X ((f, cloO X l pm c' ctv) :: pins) σ H s := by
  refine ⟨I.ok, I.os, I.bare, I.base, I.loc, I.cell, I.free, I.freeC, fun p hp => ?_, I.hok, I.len⟩
  rcases List.mem_append.mp hp with h | h
  · exact I.pin p (List.mem_append_left _ h)
  rcases List.mem_cons.mp h with e | h
  · subst e
    refine ⟨hf, hn, fun e => ?_, fun z => hfr ?_, fun v z => ?_⟩
    · obtain ⟨m, hns, _⟩ := I.loc
      obtain ⟨ob, es, ep, ho, r⟩ := hns
      have e : f = X.env.locals := e
      rw [← e, hf] at ho
      cases ho
      simp at r
    · rcases I.ok.stk with e | ⟨e, _⟩
      · rw [e]
        exact z
      · rw [e]
        show f ∈ List.filterMap (fun x : Env => x.frame) (X.env :: X.outer)
        rw [List.filterMap_cons]
        split
        · exact z
        · exact List.mem_cons_of_mem _ z
    · have z : (cloO X l pm c' ctv).data = .cell v := z
      cases z
  · exact I.pin p (List.mem_append_right _ h)
theorem inv_fewer {pn : List (Addr × Obj)} (I : Inv X (pn ++ pins) σ H s) : Inv X pins σ H s :=
  ⟨I.ok, I.os, I.bare, I.base, I.loc, I.cell, I.free, I.freeC, fun p hp => I.pin p ((List.mem_append.mp hp).elim (List.mem_append_left _) fun h => List.mem_append_right _ (List.mem_append_right _ h)), I.hok, I.len⟩
/-- all of them, one after another -/
theorem lams_eval {T : List (Addr × Str)} {c P : Addr} {pos : Pos} (TB : LamX.TabB X.base X.mg c P) (hcode : X.env.code = .ref c) (hm : (P, qlam X) ∈ T) (hu : ∀ p ∈ T, p.1 = P → p.2 = qlam X) :
    ∀ (ls : List Lm) {pins : List (Addr × Obj)} {H : Hp} {s : Shared} {Q : List Value → Shared → Prop}, (∀ l ∈ ls, LmOk X l) → Inv X pins σ H s → LamX.Tabs T H →
      (∀ (fs : List Addr) (pn : List (Addr × Obj)) (H1 : Hp) (s1 : Shared), Inv X (pn ++ pins) σ H1 s1 → LamX.ExtN H H1 → LamX.Tabs T H1 → fs.length = ls.length → (∀ (j : Nat) (l : Lm) (f : Addr), ls[j]? = some l → fs[j]? = some f → CloAt X (pn ++ pins) H1 l f) → Q (fs.map Value.ref) s1) →
      wpAny (model X.prog X.w) X.A (spliced (backTo pos (starEach (ls.map Lm.e) X.env))) Q X.xe s
  | [], pins, H, s, Q, _, I, hT, h => Calls.spliced_nil (h [] [] H s I (LamX.ExtN.refl H) hT rfl fun j l f h => by cases h)
  | l :: ls, pins, H, s, Q, ok, I, hT, h => by
    have okl := ok l (List.mem_cons_self ..)
    show wpAny _ _ (spliced ((false, eval (.Lambda l.ps l.bd l.sc l.po) X.env) :: backTo pos (starEach (ls.map Lm.e) X.env))) _ _ s
    refine Calls.spliced_cons (LamX.lam_make2 I TB hcode hm hu hT okl.df (LamX.LamS.has okl.sc I.ok) fun f c' pm ctv H1 s1 I1 eN T1 hf hfn hfr hco => ?_)
    refine lams_eval TB hcode hm hu ls (fun k hk => ok k (List.mem_cons_of_mem _ hk)) (inv_pinF I1 hf hfn hfr) T1 fun fs pn H2 s2 I2 e2 T2 hl hc => ?_
    have ea : pn ++ (f, cloO X l pm c' ctv) :: pins = (pn ++ [(f, cloO X l pm c' ctv)]) ++ pins := by simp
    rw [ea] at I2 hc
    refine h (f :: fs) (pn ++ [(f, cloO X l pm c' ctv)]) H2 s2 I2 (eN.trans e2) T2 (by simp [hl]) fun j k g hj hg => ?_
    cases j with
    | zero =>
      cases hj
      cases hg
      exact ⟨pm, c', ctv, by simp, e2 _ _ hco LamX.codeO_ne⟩
    | succ j => exact hc j k g hj hg
theorem b_lams {T : List (Addr × Str)} {c P : Addr} {i : Nat} {x : Str} {es : List Expr} {p1 p2 p3 : Pos} {rest : List Stmt} {D : Ends} (TB : LamX.TabB X.base X.mg c P) (hcode : X.env.code = .ref c) (hm : (P, qlam X) ∈ T) (hu : ∀ p ∈ T, p.1 = P → p.2 = qlam X)
    (hN : X.N.Nodup) (hi : X.N[i]? = some x) (hx : Loc X.env.scope x) (ok : ∀ l ∈ lmsOf es, LmOk X l) (hT : LamX.Tabs T H) (hl : (lmsOf es).length ≤ 100)
    (h : ∀ (pn : List (Addr × Obj)) (fs : List Addr) (H1 : Hp) (p : Addr), LamX.ExtN H H1 → LamX.Tabs T H1 → H1 p = none → fs.length = (lmsOf es).length → (∀ (j : Nat) (l : Lm) (f : Addr), (lmsOf es)[j]? = some l → fs[j]? = some f → CloAt X pn H1 l f) →
      wB (X.tr pn X.xe) rest D (σ.set i (some (.ref p))) (upd H1 p (.lst (fs.map V.ref))))
    (he : es = (lmsOf es).map Lm.e := by rfl) (hs : swapsWith (.List es p2) (some (.Name x p1)) p3.line X.env = pure false := by rfl) (hf : X.fn x = true ∨ X.env.scope.names.lookup x = some .local := by first | exact .inl rfl | exact .inr rfl | assumption) :
    wB X (.Assign [.Name x p1] (.List es p2) p3 :: rest) D σ H := by
  refine ⟨fun D σ H => LamX.Tabs T H ∧ ∀ (pn : List (Addr × Obj)) (fs : List Addr) (H1 : Hp) (p : Addr), LamX.ExtN H H1 → LamX.Tabs T H1 → H1 p = none → fs.length = (lmsOf es).length → (∀ (j : Nat) (l : Lm) (f : Addr), (lmsOf es)[j]? = some l → fs[j]? = some f → CloAt X pn H1 l f) →
      wB (X.tr pn X.xe) rest D (σ.set i (some (.ref p))) (upd H1 p (.lst (fs.map V.ref))), ⟨fun pins s σ H D I hq => ?_⟩, hT, h⟩
  obtain ⟨hT, hq⟩ := hq
  refine wpAny_execs_cons (wpAny_Assign_Name (wpAny_List_spliced ?_) hs)
  rw [he]
  refine lams_eval TB hcode hm hu (lmsOf es) ok I hT fun fs pn H1 s1 I1 e1 T1 hlen hc => ⟨?_, ?_⟩
  · rw [List.length_map, hlen]
    exact Nat.le_trans hl (by decide)
  have hp : H1 s1.heap.objs.size = none := I1.hok.fresh (Nat.le_refl _)
  have rv : Vals (fs.map V.ref) (fs.map Value.ref) := by
    clear hlen hc
    induction fs with
    | nil => exact .nil
    | cons f t ih => exact .cons rfl ih
  have I2 : Inv X (pn ++ pins) σ (upd H1 s1.heap.objs.size (.lst (fs.map V.ref))) { s1 with heap := s1.heap.push { cls := .type "list", data := .seq (fs.map Value.ref).toArray } } :=
    I1.laid (t' := s1.toks) (fun b u e => Heap.get?_push_of_some _ e) (Nat.le_refl _) ⟨by rw [List.length_map, hlen]; exact Nat.le_trans hl (by decide), _, 0, rv, Heap.get?_push_size _ rfl⟩
  refine store_ok I2 hN hi hx (v := .ref s1.heap.objs.size) rfl (fun s2 I3 => ?_) hf
  have hr := hq (X.pn ++ (pn ++ pins)) fs H1 s1.heap.objs.size e1 T1 hp hlen fun j l f hj hf => by
    obtain ⟨pm, c', ctv, h1, h2⟩ := hc j l f hj hf
    exact ⟨pm, c', ctv, List.mem_append_right _ h1, h2⟩
  refine thn ((wB.ps (X := X.tr (X.pn ++ (pn ++ pins)) X.xe)).run [] s2 _ _ D (I3.toTry X.xe) hr) fun f s3 q => ?_
  cases f with
  | next =>
    obtain ⟨σ', H', I', q⟩ := q
    exact ⟨σ', H', inv_fewer (I'.ofTry I.ok), q⟩
  | ret v =>
    obtain ⟨v, σ', H', I', q⟩ := q
    exact ⟨v, σ', H', inv_fewer (I'.ofTry I.ok), q⟩
  | brk =>
    obtain ⟨σ', H', I', q⟩ := q
    exact ⟨σ', H', inv_fewer (I'.ofTry I.ok), q⟩
  | cont =>
    obtain ⟨σ', H', I', q⟩ := q
    exact ⟨σ', H', inv_fewer (I'.ofTry I.ok), q⟩
/-- a walk over a list of whatever -/
theorem s_forL {e : Expr} {pos p2 : Pos} {slot : Nat} {x : Str} {body : List Stmt} {D : Ends} (hp : PassesOwn (model X.prog X.w) X.A X.env X.xe) (hc : X.calm = true) (hN : X.N.Nodup) (hx : X.N[slot]? = some x) (hl : Loc X.env.scope x)
    (h : wE X e σ H fun v H1 => ∃ (l : Addr) (xs : List V) (J : Nat → St → Hp → Prop), v = .ref l ∧ J 0 σ H1 ∧ (∀ i σ' H', J i σ' H' → H' l = some (.lst xs)) ∧
      (∀ i σ' H' y, xs[i]? = some y → J i σ' H' → wB X body { D with nx := J (i + 1), ct := J (i + 1), bk := D.nx } (σ'.set slot (some y)) H') ∧ ∀ σ' H', J xs.length σ' H' → D.nx σ' H')
    (hf : ∀ x, foldedSetIterable e X.env x = pure x := by intro _; rfl) (hfn : X.fn x = true ∨ X.env.scope.names.lookup x = some .local := by first | exact .inl rfl | exact .inr rfl | assumption) : wS X (.For (.Name x p2) e body [] pos) D σ H := by
  refine ⟨_, ps_for hp hc (pi_list wE.pe) (pg_name hN hx hl hfn) wB.ps hf, wE.weak h ?_⟩
  rintro v H1 ⟨l, xs, J, rfl, h0, hk, ht, hd⟩
  refine ⟨l, rfl, ⟨xs, .inl (.inl (hk _ _ _ h0))⟩, fun i m σ' H' => m = xs.length - i ∧ i ≤ xs.length ∧ J i σ' H', ⟨xs.length, rfl, Nat.zero_le _, h0⟩, ?_⟩
  rintro i m σ' H' ⟨rfl, hi', j⟩
  have hl := hk _ _ _ j
  by_cases hlt : i < xs.length
  · refine .inr ⟨⟨xs, xs[i], .inl (.inl hl), List.getElem?_eq_getElem hlt⟩, J (i + 1), fun σ2 H2 j2 => ⟨xs.length - (i + 1), by omega, rfl, hlt, j2⟩, fun y H2 q => ?_⟩
    obtain ⟨rfl, q⟩ := q
    exact ht i σ' _ y (q xs (.inl (.inl hl))) j
  · have e2 : i = xs.length := by omega
    subst e2
    exact .inl ⟨⟨xs, .inl (.inl hl), Nat.le_refl _⟩, hd σ' H' j⟩
end
end GV

/-! min(e, key=lambda a: ..), e a list of whole numbers: the first of those with the least key -/
namespace GV
open PySem PySem.Spec PyProof.Rows L2
/-- a list's iterator at turn i, whatever the tokens of its whole numbers -/
def ItS (I l : Addr) (ns : List Int) (i : Nat) (s : Shared) : Prop := s.heap.IsListIter I l i ∧ ∃ xs : Array Value, s.heap.IsList l xs ∧ IntsAre xs.toList ns
def IntP (ns : List Int) (i : Nat) (v : Value) : Prop := ∃ t, v = .int (ns.getD i 0) t
theorem walk_ints {prog : Program} {w : World} {A : Around} (hh : A.handled = none) (I l : Addr) (ne : l ≠ I) (ns : List Int) : WalksS prog w A I [I, l] [I] (fun a b => b = a) ns.length (IntP ns) (ItS I l ns) where
  sub := fun b hb => by
    rw [List.mem_singleton.mp hb]
    exact List.mem_cons_self ..
  grefl := fun _ => rfl
  gtrans := fun _ _ _ p q => q.trans p
  frame := fun i s h' tk ⟨si, xs, sl, sn⟩ _ hk => by
    obtain ⟨o1, a1, r1⟩ := si
    obtain ⟨o2, a2, r2⟩ := sl
    exact ⟨⟨o1, hk I (by simp) o1 a1, r1⟩, xs, ⟨o2, hk l (by simp) o2 a2, r2⟩, sn⟩
  item := fun i s Q E hi ⟨si, xs, sl, sn⟩ hQ => by
    have hx : i < xs.size := by
      rw [← Array.length_toList, IntsAre.length sn]
      exact hi
    obtain ⟨t, e⟩ := IntsAre.int_at sn i xs[i] (by simp [hx])
    refine wpAny_pyNext_list_item si sl (x := xs[i]) (by simp [hx]) fun g si' sb => ?_
    refine hQ _ { s with heap := g } ⟨t, ?_⟩ ⟨si', xs, sl.extBut sb.extBut ne, sn⟩ ⟨fun b o nb q => sb.extBut b o (fun z => nb (by simp [z])) q, rfl, rfl, rfl, Nat.le_refl _⟩
    rw [e]
  done := fun s Q E ⟨si, xs, sl, sn⟩ hQ => by
    have hx : xs[ns.length]? = none := by
      rw [← IntsAre.length sn, Array.length_toList]
      simp
    exact wpAny_pyNext_list_end hh si sl hx fun g xb => hQ { s with heap := g } ⟨fun b o nb q => xb b o (fun z => nb (by simp [z])) q, rfl, rfl, rfl, Nat.le_refl _⟩
  self := fun i s Q E st q => wpAny_pyIter_listiter st.1 q
/-- a lambda of one parameter: captured names, globals, and the parameter -/
structure Lam1S (sc scope : Scope) (a : Str) : Prop where
  kind : scope.kind = .function
  co : scope.isCoroutine = false
  gen : scope.isGenerator = false
  cell : ∀ y ∈ scope.names, y.2 ≠ .cell
  loc : ∀ y ∈ scope.names, y.2 = .local → y.1 = a
  par : scope.names.lookup a = some .local
  free : ∀ y ∈ scope.names, y.2 = .free → sc.names.lookup y.1 = some .cell ∨ sc.names.lookup y.1 = some .free
def lam1B (sc scope : Scope) (a : Str) : Bool :=
  decide (scope.kind = .function) && !scope.isCoroutine && !scope.isGenerator && decide (scope.names.lookup a = some .local) && scope.names.all fun y => !decide (y.2 = .cell) && (!decide (y.2 = .local) || decide (y.1 = a)) && (!decide (y.2 = .free) || (decide (sc.names.lookup y.1 = some .cell) || decide (sc.names.lookup y.1 = some .free)))
theorem lam1_by {sc scope : Scope} {a : Str} (h : lam1B sc scope a = true) : Lam1S sc scope a := by
  unfold lam1B at h
  simp only [Bool.and_eq_true, Bool.or_eq_true, Bool.not_eq_true', decide_eq_true_eq, decide_eq_false_iff_not, List.all_eq_true] at h
  obtain ⟨⟨⟨⟨k1, k2⟩, k3⟩, k4⟩, k5⟩ := h
  exact ⟨k1, k2, k3, fun y m => (k5 y m).1.1, fun y m e => (k5 y m).1.2.resolve_left (fun z => z e), k4, fun y m e => (k5 y m).2.resolve_left (fun z => z e)⟩
section
variable {X : Cx} {pins : List (Addr × Obj)} {σ : L2.St} {H HZ : Hp} {s s1 : Shared}
theorem Lam1S.has {a : Str} {scope : Scope} (L : Lam1S X.env.scope scope a) (ok : X.Ok) : ∀ y ∈ scope.names, y.2 = .free → ∃ c, X.env.cells.lookup y.1 = some c := fun y m e => (L.free y m e).elim (fun z => ok.has _ (.inl z)) fun z => ok.has _ (.inr z)
/-- the lambda's body is entered: its parameter stands in slot i -/
theorem lam1_start {A : Around} {outer : List Env} {E : XK} {scope : Scope} {f c' : Addr} {g : Heap} {tk i : Nat} {a : Str} {v : V} {u : Value} (I : Inv X pins σ H s) (L : Lam1S X.env.scope scope a) (hN : X.N.Nodup) (hi : X.N[i]? = some a) (rv : RelV v u) (e0 : Env0 X.prog X.w X.K X.mg X.base A outer s1 HZ) (hd : A.handled = none)
    (un : Un (frs X.stack) [] H HZ s.heap s1.heap) (hns : g.Ns s1.heap.objs.size fun y => ([(a, u)] : List (Str × Value)).reverse.lookup y) (kp : ∀ b o, s1.heap.get? b = some o → g.get? b = some o) :
    Inv (LamX.lamCx X A outer s1 HZ E scope f c') [] (σ.set i (some v)) HZ { s1 with heap := g, toks := tk } := by
  have has := L.has I.ok
  have up : ∀ {y c}, (cloFrom X.env.cells scope.names []).lookup y = some c → X.env.cells.lookup y = some c := fun {y c} e => by
    rcases cloFrom_mem (PySem.mem_of_lookup e) with z | ⟨z1, z2⟩
    · cases z
    · obtain ⟨d, hd⟩ := has _ z1 rfl
      have hd : X.env.cells.lookup y = some d := hd
      rw [z2, hd] <;> rfl
  have low : ∀ {y}, scope.names.lookup y = some .free → ∃ c, (cloFrom X.env.cells scope.names []).lookup y = some c := fun {y} e => mem_lookup (cloFrom_has (cells := X.env.cells) (acc := []) (show (y, NameKind.free) ∈ scope.names from PySem.mem_of_lookup e))
  have ck : ∀ {c : Addr} {z : Option Value}, H c = none → s.heap.IsCell c z → g.IsCell c z := fun {c z} n ⟨o, ho, hz⟩ => by
    obtain ⟨sl, q⟩ := un.any ho n (by simp)
    exact ⟨_, kp _ _ q, hz⟩
  have nx : ∀ b : Addr, ¬ b ∈ (LamX.lamCx X A outer s1 HZ E scope f c').ex := fun b z => by
    have z : b ∈ ([] : List Addr) := z
    cases z
  refine ⟨⟨e0.mod, L.kind, rfl, rfl, Nat.le_refl _, fun y z c p q => I.ok.inj y z c (up p) (up q), fun y hy => ?_, fun y c z _ => ?_, fun _ => hd, Around.frames_deeper e0.frames, .inr ⟨rfl, rfl⟩, fun b z => (nx b z).elim, e0.bs, e0.bsz, fun b _ _ => nx b, fun b z => (nx b z).elim, e0.funs, e0.frf⟩, rfl, e0.bare, Un.kept kp, ⟨_, hns, fun j y w p q k => ?_⟩, fun y c e => ?_, e0.hok.fresh (Nat.le_refl _), fun y c e => ?_, fun q hq => ?_, e0.hok.kept kp, by rw [List.length_set]; exact I.len⟩
  · have hy : scope.names.lookup y = some .cell ∨ scope.names.lookup y = some .free := hy
    rcases hy with hy | hy
    · exact (L.cell _ (PySem.mem_of_lookup hy) rfl).elim
    · exact low hy
  · have z : false = true := z
    cases z
  · have k : Vis scope y := k
    rcases k with k | k | k
    · have e : y = a := L.loc _ (PySem.mem_of_lookup k) rfl
      subst e
      have hj := (List.getElem?_eq_some_iff.mp p).1
      have ji : j = i := (List.getElem?_inj hj hN).mp (p.trans hi.symm)
      subst ji
      rw [List.getElem?_set_self (by rw [I.len]; exact hj)] at q
      cases q
      exact ⟨u, rv, .inl ⟨k, by simp⟩⟩
    · exact (L.cell _ (PySem.mem_of_lookup k) rfl).elim
    · have ji : i ≠ j := fun e => by
        subst e
        have p : X.N[i]? = some y := p
        rw [hi] at p
        cases p
        rw [L.par] at k
        cases k
      rw [List.getElem?_set_ne ji] at q
      obtain ⟨m, hn, look⟩ := I.loc
      have fr := L.free _ (PySem.mem_of_lookup k) rfl
      have vis : Vis X.env.scope y := fr.elim (fun z => .inr (.inl z)) fun z => .inr (.inr z)
      obtain ⟨x, r, z⟩ := look j y w p q vis
      obtain ⟨d, hd⟩ := low k
      refine ⟨x, r, .inr ⟨.inr k, d, hd, ?_⟩⟩
      rcases z with ⟨z, _⟩ | ⟨_, d', e', z⟩
      · have z : X.env.scope.names.lookup y = some .local := z
        rcases fr with e | e <;> (have e : X.env.scope.names.lookup y = _ := e; rw [z] at e; cases e)
      · rw [up hd] at e'
        cases e'
        exact ck (I.freeC y _ (up hd)) z
  · obtain ⟨x, z⟩ := I.cell y c (up e)
    exact ⟨x, ck (I.freeC y c (up e)) z⟩
  · obtain ⟨x, o, ho, hz⟩ := I.cell y c (up e)
    exact un.free c o ho (I.freeC y c (up e)) (by simp)
  · have hq : q ∈ ([] : List (Addr × Obj)) ++ [] := hq
    cases hq
end
end GV

namespace GV
open PySem PySem.Spec PyProof.Rows L2
/-- item i of ns has the lesser key -/
def keyB (key : Int → Int) (ns : List Int) (i j : Nat) : Bool := decide (key (ns.getD i 0) < key (ns.getD j 0))
def firstK (key : Int → Int) (ns : List Int) : Int := ns.getD (argBest (keyB key ns) (ns.length - 1)) 0
section
variable {X : Cx} {σ : L2.St} {H : Hp} {e : Expr}
def rMinKey (X : Cx) (T : List (Addr × Str)) (k i : Nat) (body : Expr) (scope : Scope) (σ : L2.St) (key : Int → Int) (v : V) (H1 : Hp) (Q : VK) : Prop :=
  ∃ l ns, v = .ref l ∧ SqL X.K H1 l (ns.map V.int) ∧ ns ≠ [] ∧ LamX.Tabs T H1 ∧ ∀ H2, LamX.ExtN H1 H2 → LamX.Tabs T H2 →
    (∀ z ∈ ns, ∀ A outer s H0 f c' H3, Room k (A.deeper (LamX.lamEnv X scope s.heap.objs.size f c')) → Evl.Ex H2 H3 → wE (LamX.lamCx X A outer s H0 C8.E0 scope f c') body (σ.set i (some (.int z))) H3 fun u H4 => u = .int (key z) ∧ Evl.Ex H3 H4) ∧
    ∀ H4, Evl.Ex H2 H4 → Q (.int (firstK key ns)) H4
theorem ce_minKey {T : List (Addr × Str)} {c P : Addr} {k i : Nat} {a : Str} {params : Arguments} {body : Expr} {scope : Scope} {p lpos kp pos : Pos} {Q : VK} (key : Int → Int)
    (hc : X.calm = true) (hN : X.N.Nodup) (hi : X.N[i]? = some a) (hg : Gl X "min") (hm : X.mg "min" = none) (hr : Room (k + 2) X.A)
    (TB : LamX.TabB X.base X.mg c P) (hcode : X.env.code = .ref c) (hmT : (P, X.env.qual ++ "<lambda>") ∈ T) (hu : ∀ p ∈ T, p.1 = P → p.2 = X.env.qual ++ "<lambda>")
    (L : Lam1S X.env.scope scope a) (hdef : defaultsOf params X.env = ([], [])) (hbind : ∀ (q : Str) (cl : List (Str × Addr)) (pm cv ctv v : Value), bindArgs (PySem.W.kla_fn "<lambda>" q params body scope cl pm cv ctv) ⟨[v], []⟩ = pure [(a, v)])
    (h : wE X e σ H fun v H1 => rMinKey X T k i body scope σ key v H1 Q)
    (h1 : starEach (e :: []) X.env = (false, eval e X.env) :: starEach [] X.env := by rfl) (he : backTo pos (starEach (e :: []) X.env) = (false, eval e X.env) :: backTo pos (starEach [] X.env) := by rfl) (hpl : (backTo pos (starEach (e :: []) X.env)).any (·.1) = false := by rfl)
    (hall : (backToKw pos (keywordEach [⟨some "key", .Lambda params body scope lpos, kp⟩] X.env)).all (·.1.isSome) = true := by rfl) (hnone : (backToKw pos (keywordEach [⟨some "key", .Lambda params body scope lpos, kp⟩] X.env)).any (·.1.isNone) = false := by rfl)
    (hks : (backToKw pos (keywordEach [⟨some "key", .Lambda params body scope lpos, kp⟩] X.env)).filterMap (·.1) = (["key"] : List Str) := by rfl) :
    wE X (.Call (.Name "min" p) [e] [⟨some "key", .Lambda params body scope lpos, kp⟩] pos) σ H Q := by
  refine ⟨fun σ' H' Q' => σ' = σ ∧ wE X e σ H' fun v H1 => rMinKey X T k i body scope σ key v H1 Q', ⟨fun pins s σ' H' Q' I hq => ?_⟩, rfl, h⟩
  obtain ⟨e1, hq⟩ := hq
  subst e1
  refine wpAny_Call_Name_kw (ld_blt I hg hm PyProof.Rows.boot_min ?_ (by decide) (by decide))
  refine PyProof.Rows.callWith_kw (thn ((pa_cons wE.pe pa_nil h1).run pos pins s σ' H' (fun vs H1 => ∃ v, vs = [v] ∧ rMinKey X T k i body scope σ' key v H1 Q') I (wE.weak hq fun v H1 z => ⟨v, rfl, z⟩)) fun us s1 ⟨vs, H1, I1, r1, v, ev, q1⟩ => ?_) he hpl hall hnone
  subst ev
  obtain ⟨l, ns, ev, hs, hne, hT, q1⟩ := q1
  subst ev
  rw [Vals.ref1 r1, hks]
  show wpAny _ _ (evalAll ((do let v ← eval (.Lambda params body scope lpos) X.env; standAt pos; pure v) :: (backToKw pos (keywordEach [] X.env)).map (·.2))) _ _ s1
  refine wpAny_evalAll_cons (wpAny_bind (LamX.lam_make2 I1 TB hcode hmT hu hT hdef (L.has I1.ok) fun f c' pm ctv H2 s2 I2 eN T2 hf hfn hfr hco => wpAny_bind (wpAny_standAt (wpAny_pure (wpAny_evalAll_nil ?_)))))
  show wpAny _ _ (call (.builtin "min") [.ref l] [(Str.ofString "key", .ref f)]) _ _ s2
  obtain ⟨hb, hQ⟩ := q1 H2 eN T2
  have hs2 : SqL X.K H2 l (ns.map V.int) := hs.imp (fun z => z.imp (fun z => eN _ _ z fun _ z => by cases z) fun ⟨o, z⟩ => ⟨o, eN _ _ z fun _ z => by cases z⟩) id
  obtain ⟨its, rvs, pl, _⟩ := I2.list hs2
  have hd := I2.ok.hd hc
  have lt : l < s2.heap.objs.size := let ⟨_, q, _⟩ := pl.isList; Heap.lt_size q
  have ltf := Heap.lt_size hf
  refine call_min_walkK (wpAny_pyIter_list pl.isList ?_)
  have szI : ∀ ob : Obj, (s2.heap.push ob).objs.size = s2.heap.objs.size + 1 := fun ob => Heap.size_push ..
  refine ⟨s2.heap.objs.size, [s2.heap.objs.size, l], [s2.heap.objs.size], fun a b => b = a, ns.length, IntP ns, ItS s2.heap.objs.size l ns,
    fun s => ∃ H', Evl.Ex H2 H' ∧ Inv X pins σ' H' s ∧ H' s2.heap.objs.size = none ∧ H' (s2.heap.objs.size + 1) = none ∧ s.heap.get? f = some (PySem.W.kla_obj "<lambda>" (X.env.qual ++ "<lambda>") params body scope (cloFrom X.env.cells scope.names []) pm c' ctv) ∧ H' f = none,
    fun j u _ => ∃ t, u = .int (key (ns.getD j 0)) t, keyB key ns, rfl, walk_ints (by exact hd) _ l (Nat.ne_of_lt lt) ns, ⟨⟨_, Heap.get?_push_size _ rfl, rfl, rfl⟩, its.toArray, pl.isList.push _, by simpa using rvs.ints⟩, ?_, List.length_pos_iff.mpr hne, ?_, ?_, ?_⟩
  · intro b hb
    rw [szI]
    rcases List.mem_cons.mp hb with e | hb
    · rw [e]
      exact Nat.lt_succ_self _
    · rw [List.mem_singleton.mp hb]
      exact Nat.lt_succ_of_lt lt
  · rw [szI]
    refine ⟨fun s s' ⟨H', x, J, n1, n2, hf', n3⟩ mv => ?_, fun _ _ _ _ z _ => z, fun j v s o Q E hj hP hJ hst hS kk => ?_, fun i j ki kj s Q E _ ⟨t, e1⟩ ⟨u, e2⟩ q => ?_⟩
    · obtain ⟨g, gn, dr, tk, os⟩ := s'
      obtain rfl : gn = s.gens := mv.gens
      obtain rfl : dr = s.drawn := mv.drawn
      obtain rfl : os = s.os := mv.os
      refine ⟨H', x, J.turnedL (ch := [s2.heap.objs.size + 1, s2.heap.objs.size]) (fun b o nb e => mv.heap b o nb e) (fun b hb => ?_), n1, n2, mv.heap _ _ ?_ hf', n3⟩
      · rcases List.mem_cons.mp hb with e | hb
        · rw [e]
          exact I2.fpOk (Nat.le_succ _) n2
        · rw [List.mem_singleton.mp hb]
          exact I2.fpOk (Nat.le_refl _) n1
      · simp only [List.mem_cons, List.not_mem_nil, or_false, not_or]
        exact ⟨Nat.ne_of_lt (Nat.lt_succ_of_lt ltf), Nat.ne_of_lt ltf⟩
    · obtain ⟨H', x, J, n1, n2, hf', hfn'⟩ := hJ
      obtain ⟨t, ev⟩ := hP
      obtain ⟨si, _⟩ := hst
      subst ev
      generalize hz : ns.getD j 0 = z at *
      have zm : z ∈ ns := by
        rw [← hz, List.getD_eq_getElem?_getD, List.getElem?_eq_getElem hj, Option.getD_some]
        exact List.getElem_mem _
      obtain ⟨⟨oc, vs, tt, hoc, hdc, hvc⟩, _, _⟩ := J.hok c' _ (x _ _ hco)
      have r1 : Room (k + 1) X.A.in1 := hr.in1
      have rc : codeAny (model X.prog X.w) X.A.in1 (.call (.ref f) ⟨[.int z t], []⟩) (L2.CR (L2.CX X.prog X.w) X.stack X.prog X.w H' s (fun u H4 => u = .int (key z) ∧ Evl.Ex H' H4) C8.E0) s := by
        refine PySem.W.kla_callFunE r1.depth hf' rfl L.co L.gen rfl ⟨c', oc, vs, tt, rfl, hoc, hdc, hvc⟩ ?_
        rw [hbind]
        refine wpAny_pure (wpAny_newFunctionEnv L.cell (fun y hy => by rw [List.mem_singleton.mp hy]; exact L.par) (fun g hns hsb => ⟨J.nolimit.fresh _ hsb, ?_⟩) L.kind)
        show codeAny _ _ (.expr body (LamX.lamEnv X scope s.heap.objs.size f c')) _ _
        have Jn : Inv (LamX.lamCx X X.A.in1 X.stack s H' C8.E0 scope f c') [] (σ'.set i (some (.int z))) H' { s with heap := g, toks := s.toks + ([(a, Value.int z t)] : List (Str × Value)).length } :=
          lam1_start J L hN hi ⟨t, rfl⟩ J.env0.in1 r1.hd Un.refl hns fun b o e => hsb.extBut b o (Nat.ne_of_lt (Heap.lt_size e)) (Heap.get?_push_of_some _ e)
        refine PySem.W.kla_codeExpr (wpAny_mono (wE.pe.run [] _ _ H' _ Jn (hb z zm _ _ _ _ f c' H' (r1.deeper _) x)) (fun v s' hq => ?_) fun e s' hq => hq)
        obtain ⟨w', H'', J', rv, q⟩ := hq
        exact ⟨w', H'', J'.os, J'.bare, J'.base, J'.hok, rv, q⟩
      refine wpAny_call (codeAny_mono rc fun r s' hr' => ?_)
      rcases r with er | fl
      · obtain ⟨_, _, _, _, _, _, _, _, _, _, _, _, z⟩ := hr'
        exact z.elim
      rcases fl with _ | _ | _ | u
      iterate 3 exact hr'.elim
      obtain ⟨v, H4, os, bare, un, hok, rv, ev, x4⟩ := hr'
      subst ev
      obtain ⟨t', eu⟩ := rv
      subst eu
      have J4 : Inv X pins σ' H4 s' := J.call' (ch := []) os un hok bare fun _ z => by cases z
      have hS' : s.heap.get? (s2.heap.objs.size + 1) = some o := hS
      obtain ⟨oi, ai, ri⟩ := si
      have nf : ∀ b, s2.heap.objs.size ≤ b → b ∉ frs X.stack := fun b hb z => by
        rcases List.mem_cons.mp (I2.stkSub _ z) with e | e
        · exact absurd (Nat.lt_of_le_of_lt hb (by rw [e]; exact I2.lt)) (Nat.lt_irrefl _)
        · exact I2.nofs hb e
      have ki := un.keep _ _ ai n1 (nf _ (Nat.le_refl _)) (by simp)
      have kS := un.keep _ _ hS' n2 (nf _ (Nat.le_succ _)) (by simp)
      have kf := un.keep _ _ hf' hfn' hfr (by simp)
      obtain ⟨its4, rv4, pl4, _⟩ := J4.list (show SqL X.K H4 l (ns.map V.int) from hs2.imp (fun z => z.imp (fun z => x4 _ _ (x _ _ z)) fun ⟨o, z⟩ => ⟨o, x4 _ _ (x _ _ z)⟩) id)
      refine kk _ _ ⟨H4, x.trans x4, J4, un.free _ _ ai n1 (by simp), un.free _ _ hS' n2 (by simp), kf, un.free _ _ hf' hfn' (by simp)⟩ ⟨⟨oi, ki, ri⟩, its4.toArray, pl4.isList, by simpa using rv4.ints⟩ kS ⟨t', rfl⟩ fun _ _ z => z
    · subst e1
      subst e2
      exact wpAny_lt_int q
  · exact ⟨H2, Evl.Ex.refl H2, I2.kept fun b o e => Heap.get?_push_of_some _ e, I2.hok.fresh (Nat.le_refl _), I2.hok.fresh (Nat.le_succ _), Heap.get?_push_of_some _ hf, hfn⟩
  · rintro v s' ⟨t, ev⟩ ⟨H', x, J, _, _, _, _⟩
    exact ⟨.int (firstK key ns), H', J, ⟨t, ev⟩, hQ H' x⟩
end
end GV

/-! isinstance of an exception that has attributes: the library's kitx_exc, carried to the suite of an except clause -/
namespace GV
open PySem PySem.Spec PyProof.Rows L2
theorem call_isEd {X : Cx} {a D dd : Addr} {oe : Obj} {fs : List (Str × V)} {pn : List (Addr × Obj)} (C : ExcC X.K D) (hz : Zc (.ref D) (some dd) oe) (hf : ∃ vs, oe.data = .fields vs) :
    CallR (X.suite a ((a, oe) :: pn)) (.builtin "isinstance") (fun xs H Q => H dd = some (.xd fs) ∧ rIsE X.K D a xs H Q) := by
  intro pins s σ H xs us Q J r h
  obtain ⟨hdd, c, cv, b, rfl, hcv, e, q⟩ := h
  obtain ⟨u1, u2, rfl, rx, rt⟩ : ∃ u1 u2, us = [u1, u2] ∧ L2.RelV (.ref a) u1 ∧ L2.RelV c u2 := by
    rcases r with _ | ⟨rx, _ | ⟨rt, _ | _⟩⟩
    exact ⟨_, _, rfl, rx, rt⟩
  cases rx
  have ec := hcv _ rt
  subst ec
  have ha := (J.pin (a, oe) (List.mem_append.mpr (.inl (List.mem_cons_self ..)))).1
  obtain ⟨mA, hns, _⟩ := (show ObjOk X.prog X.w H s.heap dd (.xd fs) from J.hok dd _ hdd)
  obtain ⟨od, ho, _⟩ := lookIn_ns hns
  obtain ⟨vs, hv⟩ := hf
  have no : PySem.W.notCls oe = true := by
    unfold PySem.W.notCls
    rw [hv] <;> rfl
  have at_ : PySem.W.InstAt s.heap a oe D (some od) := ⟨ha, hz.1, no, by rw [hz.2]; exact ho⟩
  have hcl : (PySem.W.clsIn X.K D).isSome = true := by
    obtain ⟨cd, hc, _⟩ := PySem.W.any_some C.hd
    rw [hc]
    rfl
  exact PySem.W.kia_one (PySem.W.kitx_exc hcl C.hg C.hk C.hs C.ha C.hn C.ht C.hm) J.kIn at_ e (fun z => nomatch z) fun tk => ⟨.bl b, H, J.kept (t' := tk) fun _ _ z => z, rfl, q⟩
end GV

namespace GV
open PySem PySem.Spec PyProof.Rows L2
section
variable {X : Cx} {M : Addr → Prop} {σ : St} {H H' : Hp} {a b c e : Expr} {da db d : PyData} {pos : Pos} {es : List Expr} {ds : List PyData}
/-! ### != of tuples that hold the same things -/
def rNeSame (K : PySem.W.Frag) : R2 := fun x y H Q => ∃ a b xs, x = .ref a ∧ y = .ref b ∧ SqT K H a xs ∧ SqT K H b xs ∧ (∀ v ∈ xs, sameB v = true) ∧ Q (.bl false) H
theorem op_neSame (hu : X.A.units < cLine) : OpR X (compareOp .NotEq) (rNeSame X.K) := by
  intro pins s σ H x y v u Q I rx ry h
  obtain ⟨a, b, xs, rfl, rfl, ha, hb, hs, q⟩ := h
  cases (show v = Value.ref a from rx)
  cases (show u = Value.ref b from ry)
  obtain ⟨us, r1, p1, _⟩ := I.tuple ha
  obtain ⟨ws, r2, p2, _⟩ := I.tuple hb
  have l1 := r1.length
  have l2 := r2.length
  refine SeqAt.RcNeAt.tuples (e := fun _ => true) p1 p2 hu (fun j h1 h2 => ?_) X.prog X.w X.xe _ ?_
  · have hj : j < xs.length := by
      rw [l1]
      simpa using h1
    have hx : xs[j]? = some xs[j] := List.getElem?_eq_getElem hj
    obtain ⟨v1, e1, rv1⟩ := r1.get hx
    obtain ⟨v2, e2, rv2⟩ := r2.get hx
    have f1 : us.toArray[j] = v1 := by
      have : us[j]? = some us[j] := List.getElem?_eq_getElem (by simpa using h1)
      rw [this] at e1
      simpa using e1
    have f2 : ws.toArray[j] = v2 := by
      have : ws[j]? = some ws[j] := List.getElem?_eq_getElem (by simpa using h2)
      rw [this] at e2
      simpa using e2
    rw [f1, f2]
    have hv := hs _ (List.getElem_mem hj)
    generalize xs[j] = z at rv1 rv2 hv
    cases z with
    | ref r =>
      cases (show v1 = Value.ref r from rv1)
      cases (show v2 = Value.ref r from rv2)
      exact SeqAt.EqAt.same _
    | _ => exact eqAt_same rv1 rv2 hv
  · refine ⟨.bl false, H, I, ?_, q⟩
    have e1 : us.toArray.size = ws.toArray.size := by
      rw [List.size_toArray, List.size_toArray, ← l1, ← l2]
    rw [e1, show ((List.range (min ws.toArray.size ws.toArray.size)).all fun _ => true) = true from List.all_eq_true.mpr fun _ _ => rfl]
    simp [L2.RelV]
theorem ct_neSame {Q : Bool → Hp → Prop} (hu : X.A.units + 64 < cLine) (h : wE X a σ H fun x H2 => wE X b σ H2 fun y H3 => rNeSame X.K x y H3 fun v H4 => v = .bl false ∧ Q false H4) : wT X (.Compare a [.NotEq] [b] pos) σ H Q :=
  ⟨_, pt_cmpR (op_neSame (by omega)) wE.pe wE.pe (nomark _), wE.weak h fun x H2 h2 => wE.weak h2 fun y H3 ⟨a, b, xs, e1, e2, s1, s2, hs, _, q⟩ => ⟨a, b, xs, e1, e2, s1, s2, hs, _, rfl, q⟩⟩
theorem ct_ne {Q : Bool → Hp → Prop} (hu : X.A.units + 64 < cLine) (h : wE X a σ H fun x H2 => wE X b σ H2 fun y H3 => ∃ da db, Dp X.K H3 x da ∧ Dp X.K H3 y db ∧ SeqAt.shaped da = true ∧ SeqAt.shaped db = true ∧ Q (!PyData.eqv da db) H3) : wT X (.Compare a [.NotEq] [b] pos) σ H Q :=
  ⟨_, pt_cmpR (op_neD hu) wE.pe wE.pe (nomark _), wE.weak h fun x H2 h2 => wE.weak h2 fun y H3 ⟨da, db, h1, h2, h3, h4, q⟩ => ⟨da, db, h1, h2, h3, h4, _, rfl, q⟩⟩
/-- e == ("..", name), where e gives just that -/
theorem ce_same2 {s : Str} {i n m : Nat} {cn : Str} {vb : V} {p1 p2 p3 : Pos} {Q : VK} (hu : X.A.units + 64 < cLine) (hs : sameB vb = true) (hi : X.N[i]? = some cn) (hv : Vis X.env.scope cn) (hσ : σ[i]? = some (some vb))
    (h : wE X a σ H fun x H2 => ∃ p, x = .ref p ∧ H2 p = some (.tup [.str s, vb]) ∧ ∀ H3, Evl.Ex H2 H3 → Q (.bl true) H3)
    (hd : (cn == ("__debug__" : Str)) = false := by decide) (hcd : (cn == ("__classdict__" : Str)) = false := by decide) (h1 : starEach (.Constant (.str s) n p1 :: [.Name cn p2]) X.env = (false, eval (.Constant (.str s) n p1) X.env) :: starEach [.Name cn p2] X.env := by rfl) (h2 : starEach (.Name cn p2 :: []) X.env = (false, eval (.Name cn p2) X.env) :: starEach [] X.env := by rfl) :
    wE X (.Compare a [.Eq] [.Tuple [.Constant (.str s) n p1, .Name cn p2] m p3] pos) σ H Q := by
  refine ce_eqSame hu (wE.weak h ?_)
  rintro x H2 ⟨p, rfl, hp, q⟩
  refine ce_tup (ca_cons (ce_str (ca_cons (ce_name hi hv hσ (ca_nil ⟨(by show 2 ≤ 1000; decide), fun t ht => ?_⟩) hd hcd) h2)) h1)
  refine ⟨p, t, _, rfl, rfl, .inl (.inl (Evl.Ex.new ht _ _ hp)), .inl (.inl upd_same), fun v hv => ?_, q _ (Evl.Ex.new ht)⟩
  simp only [List.mem_cons, List.not_mem_nil, or_false] at hv
  rcases hv with rfl | rfl
  · rfl
  · exact hs
theorem ct_same2 {s : Str} {i n m : Nat} {cn : Str} {vb : V} {p1 p2 p3 : Pos} {Q : Bool → Hp → Prop} (hu : X.A.units + 64 < cLine) (hs : sameB vb = true) (hi : X.N[i]? = some cn) (hv : Vis X.env.scope cn) (hσ : σ[i]? = some (some vb))
    (h : wE X a σ H fun x H2 => ∃ p, x = .ref p ∧ H2 p = some (.tup [.str s, vb]) ∧ ∀ H3, Evl.Ex H2 H3 → Q false H3)
    (hd : (cn == ("__debug__" : Str)) = false := by decide) (hcd : (cn == ("__classdict__" : Str)) = false := by decide) (h1 : starEach (.Constant (.str s) n p1 :: [.Name cn p2]) X.env = (false, eval (.Constant (.str s) n p1) X.env) :: starEach [.Name cn p2] X.env := by rfl) (h2 : starEach (.Name cn p2 :: []) X.env = (false, eval (.Name cn p2) X.env) :: starEach [] X.env := by rfl) :
    wT X (.Compare a [.NotEq] [.Tuple [.Constant (.str s) n p1, .Name cn p2] m p3] pos) σ H Q := by
  refine ct_neSame hu (wE.weak h ?_)
  rintro x H2 ⟨p, rfl, hp, q⟩
  refine ce_tup (ca_cons (ce_str (ca_cons (ce_name hi hv hσ (ca_nil ⟨(by show 2 ≤ 1000; decide), fun t ht => ?_⟩) hd hcd) h2)) h1)
  refine ⟨p, t, _, rfl, rfl, .inl (.inl (Evl.Ex.new ht _ _ hp)), .inl (.inl upd_same), fun v hv => ?_, rfl, q _ (Evl.Ex.new ht)⟩
  simp only [List.mem_cons, List.not_mem_nil, or_false] at hv
  rcases hv with rfl | rfl
  · rfl
  · exact hs
end
end GV

namespace GV
open PySem PySem.Spec PyProof.Rows L2
section
variable {X : Cx} {σ : St} {H : Hp} {e elt : Expr} {pos : Pos}
theorem s_setLcR {iy : Nat} {yn : Str} {py spos : Pos} {D0 : Ends} {slot : Nat} {x : Str} {p p1 p2 : Pos} {scope : Scope} {own : List (Str × Nat)} (hc : X.calm = true) (hN : X.N.Nodup) (hg : Gl X "range") (hm : X.mg "range" = none) (ok : BlkOk X.N X.env.scope scope own)
    (hx : ∀ s H C cl fp, PG (Cx.lc X s H scope C cl fp) (.Name x p2) (gName slot)) (hw : ∀ v, wipe ((wipe σ (own.map (·.2))).set slot (some v)) (own.map (·.2)) = wipe σ (own.map (·.2)))
    (h : wE X e σ H fun v H1 => ∃ n : Nat, v = .int (n : Nat) ∧ n ≤ 1000000 ∧ ∀ D, H1 D = none → ∃ J : Nat → Hp → Prop, J 0 (upd H1 D (.lst [])) ∧
      (∀ i H', i < n → J i H' → ∀ s0 H0 C cl fp, wE (Cx.lc X s0 H0 scope C cl fp) elt ((wipe σ (own.map (·.2))).set slot (some (.int (i : Nat)))) H' fun y H4 => ∃ acc, H4 D = some (.lst acc) ∧ acc.length < 100000 ∧ J (i + 1) (upd H4 D (.lst (acc ++ [y])))) ∧ ∀ H', J n H' → D0.nx (σ.set iy (some (.ref D))) H')
    (hy : X.N[iy]? = some yn) (hyl : X.env.scope.names.lookup yn = some .local) (hsw : swapsWith (.ListComp elt [⟨.Name x p2, .Call (.Name "range" p) [e] [] p1, [], 0⟩] scope pos) (some (.Name yn py)) spos.line X.env = pure true) (hs : starEach [e] X.env = [(false, eval e X.env)] := by rfl) (hs' : starEach (e :: []) X.env = (false, eval e X.env) :: starEach [] X.env := by rfl)
    (hf : ∀ x, foldedSetIterable (.Call (.Name "range" p) [e] [] p1) X.env x = pure x := by intro _; rfl) : wS X (.Assign [.Name yn py] (.ListComp elt [⟨.Name x p2, .Call (.Name "range" p) [e] [] p1, [], 0⟩] scope pos) spos) D0 σ H := by
  refine ⟨_, ps_setLc (tt := fun σ H Q => Q true H) (te := fun σ H Q => ∀ s0 H0 C cl fp, wE (Cx.lc X s0 H0 scope C cl fp) elt σ H Q) hc hN hy hyl hsw (pi_range1 hg hm wA.pa hs) ok hx (fun _ _ _ _ _ => ⟨fun pins s σ H Q I h => pts_nil.run pins s σ H Q I h⟩)
    (fun s0 H0 C cl fp => ⟨fun pins s σ H Q I h => wE.pe.run pins s σ H Q I (h s0 H0 C cl fp)⟩) hf, ca_cons (wE.weak h ?_) hs'⟩
  rintro v H1 ⟨n, rfl, hn, run⟩
  refine ca_nil ⟨(n : Nat), rfl, by omega, by omega, ?_⟩
  rw [show ((n : Nat) : Int).toNat = n by omega]
  intro D hD
  obtain ⟨J, h0, ht, hd⟩ := run D hD
  refine ⟨fun i m H' => m = n - i ∧ i ≤ n ∧ J i H', ⟨n, rfl, Nat.zero_le _, h0⟩, ?_⟩
  rintro i m H' ⟨rfl, hi', j⟩
  have wk := wk_range (K := X.K) (M := M0) (H := H') 0 n
  have ln : ((List.range n).map fun i => PyData.int (0 + (i : Nat))).length = n := by simp
  by_cases hlt : i < n
  · refine .inr ⟨wk.go M0 i H' (fun _ z => z.elim) (ExM.refl _) (by rw [ln]; exact hlt), J (i + 1), fun H2 j2 => ⟨n - (i + 1), by omega, rfl, hlt, j2⟩, fun x H2 y => ?_⟩
    obtain ⟨rfl, rfl⟩ := y
    rw [Int.zero_add]
    refine ⟨hw _, ?_⟩
    show if true = true then _ else _
    rw [if_pos rfl]
    intro s0 H0 C cl fp
    refine wE.weak (ht i _ hlt j s0 H0 C cl fp) ?_
    rintro y H4 ⟨acc, h1, h2, h3⟩
    exact ⟨acc, h1, Nat.lt_of_lt_of_le h2 (by rw [sizeLine_eq]; decide), h3⟩
  · have e2 : i = n := by omega
    subst e2
    have := wk.stop M0 H' (fun _ z => z.elim) (ExM.refl _)
    rw [ln] at this
    exact .inl ⟨this, hd H' j⟩
end
end GV

namespace GV
open PySem PySem.Spec PyProof.Rows L2
/-! ### the first of the least keys -/
theorem argB_spec (key : Int → Int) (ns : List Int) : ∀ j, argBest (keyB key ns) j ≤ j ∧ (∀ i, i ≤ j → key (ns.getD (argBest (keyB key ns) j) 0) ≤ key (ns.getD i 0)) ∧ ∀ i, i < argBest (keyB key ns) j → key (ns.getD (argBest (keyB key ns) j) 0) < key (ns.getD i 0)
  | 0 => ⟨Nat.le_refl _, fun i h => by
      rw [Nat.le_zero.mp h]
      exact Int.le_refl _, fun i h => absurd h (Nat.not_lt_zero _)⟩
  | j + 1 => by
    obtain ⟨h1, h2, h3⟩ := argB_spec key ns j
    generalize hb : argBest (keyB key ns) j = b at h1 h2 h3
    have e : argBest (keyB key ns) (j + 1) = if keyB key ns (j + 1) b = true then j + 1 else b := by rw [← hb]; rfl
    by_cases hk : keyB key ns (j + 1) b = true
    · rw [e, if_pos hk]
      have hk := of_decide_eq_true hk
      refine ⟨Nat.le_refl _, fun i hi => ?_, fun i hi => ?_⟩
      · rcases Nat.lt_or_ge i (j + 1) with z | z
        · have := h2 i (by omega)
          omega
        · rw [show i = j + 1 by omega]
          exact Int.le_refl _
      · have := h2 i (by omega)
        omega
    · rw [e, if_neg hk]
      have hk := of_decide_eq_false (Bool.not_eq_true _ ▸ hk)
      refine ⟨by omega, fun i hi => ?_, h3⟩
      rcases Nat.lt_or_ge i (j + 1) with z | z
      · exact h2 i (by omega)
      · rw [show i = j + 1 by omega]
        omega
/-- of an ascending list: the one with the least key, and of these the least -/
theorem firstK_eq {key : Int → Int} {ns : List Int} {m : Int} (up : ns.Pairwise (· < ·)) (hm : m ∈ ns) (h : ∀ y ∈ ns, key m < key y ∨ (key m = key y ∧ m ≤ y)) : firstK key ns = m := by
  obtain ⟨i, hi⟩ := List.mem_iff_getElem?.mp hm
  have hil := (List.getElem?_eq_some_iff.mp hi).1
  obtain ⟨h1, h2, h3⟩ := argB_spec key ns (ns.length - 1)
  unfold firstK
  generalize argBest (keyB key ns) (ns.length - 1) = b at h1 h2 h3 ⊢
  have hbl : b < ns.length := by omega
  have eb : ns.getD b 0 = ns[b] := by rw [List.getD_eq_getElem?_getD, List.getElem?_eq_getElem hbl]; rfl
  have ei : ns.getD i 0 = m := by rw [List.getD_eq_getElem?_getD, hi]; rfl
  have hb := h (ns.getD b 0) (by rw [eb]; exact List.getElem_mem _)
  have k2 := h2 i (by omega)
  rw [ei] at k2
  rcases hb with hb | ⟨hb, hle⟩
  · omega
  · rcases Nat.lt_trichotomy i b with z | z | z
    · have := h3 i z
      rw [ei] at this
      omega
    · rw [← z, ei]
    · have := List.pairwise_iff_getElem.mp up b i hbl hil z
      rw [(List.getElem?_eq_some_iff.mp hi).2, ← eb] at this
      omega
/-! ### texts -/
theorem RpAll.of_strs {K : PySem.W.Frag} {M : Addr → Prop} {H : Hp} : ∀ {vs : List V} {ns : List Str}, RpAll K M H vs (ns.map PyData.str) → vs = ns.map V.str
  | [], [], .nil => rfl
  | _ :: _, n :: r, .cons h hs => by
    cases h
    rw [RpAll.of_strs hs]
    rfl
theorem eqv_str (a b : Str) : PyData.eqv (.str a) (.str b) = decide (a = b) := by
  rw [Bool.eq_iff_iff, decide_eq_true_eq]
  simp [PyData.eqv]
theorem inV_strs (x : Str) (ns : List Str) : inV (.str x) (ns.map V.str) = decide (x ∈ ns) := by
  unfold inV
  rw [List.any_map, Bool.eq_iff_iff, decide_eq_true_eq, List.any_eq_true]
  constructor
  · rintro ⟨y, hy, e⟩
    have e : (y == x) = true := e
    rw [← beq_iff_eq.mp e]
    exact hy
  · intro h
    exact ⟨x, h, (by show (x == x) = true; simp)⟩
section
variable {X : Cx} {M : Addr → Prop} {σ : St} {H H' : Hp} {a b c e o : Expr} {da db d : PyData} {pos : Pos}
theorem td_inS {x : Str} {ns : List Str} (ha : PD X M a σ H (.str x)) (hb : PD X M b σ H (.list (ns.map PyData.str))) (hk : behindInMarks .In b = false := by rfl) : TD X M (.Compare a [.In] [b] pos) σ H (decide (x ∈ ns)) :=
  td_cmpR op_in_seq hk (fun u v H1 ru rv _ Q q => by
    cases ru
    cases rv with
    | lst m hs rs =>
      have all : (ns.map V.str).all flatV = true := by
        rw [List.all_map, List.all_eq_true]
        exact fun _ _ => rfl
      rw [rs.of_strs] at hs
      refine ⟨_, _, rfl, .inl (.inl hs), rfl, all, ?_⟩
      show Q (.bl (inV (.str x) (ns.map V.str))) H1
      rw [inV_strs]
      exact q _ H1 (Evl.Ex.refl H1) (.bl _)) ha hb
theorem pd_addS {x y : Str} (ha : PD X M a σ H (.str x)) (hb : PD X M b σ H (.str y)) (hl : x.length + y.length ≤ 100000) : PD X M (.BinOp a .Add b pos) σ H (.str (x ++ y)) :=
  pd_binR op_add_str (fun u v H1 ru rv _ Q q => by
    cases ru
    cases rv
    exact ⟨x, y, rfl, rfl, Evl.sz_of hl, q _ H1 (Evl.Ex.refl H1) (.str _)⟩) ha hb
theorem pd_shr {i : Int} {k : Nat} (ha : PD X M a σ H (.int i)) (hb : PD X M b σ H (.int (k : Nat))) : PD X M (.BinOp a .RShift b pos) σ H (.int (i / 2 ^ k)) :=
  PD.is (pd_binR op_shr (rd_I (C := fun _ j => (0 : Int) ≤ j) (i := i) (j := (k : Nat)) (by omega)) ha hb) (by rw [Int.toNat_natCast])
theorem pd_join {apos : Pos} {z : Str} {ys : List Str} (ho : PD X M o σ H (.str z)) (he : PD X M e σ H (.list (ys.map PyData.str))) (hl : (ys.map (·.length)).sum + ys.length * z.length ≤ 16777216)
    (hs : starEach [e] X.env = [(false, eval e X.env)] := by rfl) (hbase : attributeBase o "join" X.env (eval o X.env) = eval o X.env := by rfl) (hline : (apos.endLine == pos.line) = true := by rfl) :
    PD X M (.Call (.Attribute o "join" apos) [e] [] pos) σ H (.str (Txt.join z ys)) := .mk fun H1 e1 al Q q =>
  ⟨_, pe_join wE.pe wE.pe hs hbase hline, ho.run H1 e1 al _ fun u H2 x2 ru => by
    cases ru
    refine ⟨⟨_, rfl⟩, he.run H2 (e1.trans (.of x2)) (al.mono x2) _ fun v H3 x3 rv => ?_⟩
    cases rv with
    | lst m hr rs =>
      rw [rs.of_strs] at hr
      exact ⟨z, _, ys, rfl, rfl, .inl (.inl hr), hl, q _ H3 (x2.trans x3) (.str _)⟩⟩
end
end GV

namespace YK
open PySem PySem.Spec PyProof.Rows L2 GV
/-! ### the texts of the houses -/
def sideT : Nat → Str
  | 0 => ""
  | 1 => "l"
  | 2 => "b"
  | 3 => "lb"
  | 4 => "h"
  | 5 => "lh"
  | 6 => "bh"
  | _ => "lbh"
def txN (n : Nat) : Str := sideT (n % 8) ++ "-" ++ sideT (n / 8)
def ordK : List Str := ["l-", "b-", "h-", "-l", "-b", "-h"]
def bitN (n k : Nat) : Bool := decide ((n : Int) / 2 ^ k % 2 = 1)
def kindsL (n : Nat) : List Str := ((List.range 6).filter (bitN n)).map fun i => ordK.getD i ""
theorem all63 {p : Nat → Prop} [DecidablePred p] (h : (List.range 64).all (fun n => decide (p n)) = true) {n : Nat} (hn : n < 64) : p n := of_decide_eq_true (List.all_eq_true.mp h n (List.mem_range.mpr hn))
theorem part_tx {n : Nat} (hn : n < 64) : Txt.partition (txN n) (Str.ofString "-") = (sideT (n % 8), Str.ofString "-", sideT (n / 8)) :=
  all63 (p := fun n => Txt.partition (txN n) (Str.ofString "-") = (sideT (n % 8), Str.ofString "-", sideT (n / 8))) (by decide +kernel) hn
theorem len_tx {n : Nat} (hn : n < 64) : (txN n).length ≤ 7 := all63 (p := fun n => (txN n).length ≤ 7) (by decide +kernel) hn
theorem side_len {i : Nat} (hi : i < 64) : (sideT i).length ≤ 3 := all63 (p := fun n => (sideT n).length ≤ 3) (by decide +kernel) hi
structure Sides (K : PySem.W.Frag) (mg : Str → Option Value) (w : World) : Prop where
  ex : ∃ d es n, mg "_SIDES" = some (.ref d) ∧ KDict K w d es n ∧ ∀ i, i < 8 → ∃ t, PySem.W.nsIn K d (sideT i) = some (some (.int i t))
section
variable {X : Cx} {M : Addr → Prop} {σ : St} {H : Hp} {a : Expr}
theorem td_ninS {i : Nat} {p pos : Pos} (hi : i < 8) (S : Sides X.K X.mg X.w) (hg : Gl X "_SIDES") (ha : PD X M a σ H (.str (sideT i))) : TD X M (.Compare a [.NotIn] [.Name "_SIDES" p] pos) σ H false := by
  obtain ⟨d, es, n, hm, D, ns⟩ := S.ex
  obtain ⟨t, n1⟩ := ns i hi
  refine .mk fun H1 e1 al Q q => ⟨_, pt_cmpR (op_notIn_kd D) wE.pe (pe_glob hg hm (v := .ref d) rfl (by decide)) rfl, ha.run H1 e1 al _ fun v H2 x2 r => ?_⟩
  cases r
  exact ⟨_, _, rfl, rfl, n1, _, rfl, q H2 x2⟩
theorem pd_ixS {i : Nat} {p pos : Pos} (hi : i < 8) (S : Sides X.K X.mg X.w) (hg : Gl X "_SIDES") (ha : PD X M a σ H (.str (sideT i))) (hs : PlainIx a := by exact fun _ _ => rfl) : PD X M (.Subscript (.Name "_SIDES" p) a pos) σ H (.int (i : Nat)) := by
  obtain ⟨d, es, n, hm, D, ns⟩ := S.ex
  obtain ⟨t, n1⟩ := ns i hi
  refine .mk fun H1 e1 al Q q => ⟨_, pe_ix ix_kdict (pe_glob hg hm (v := .ref d) rfl (by decide)) wE.pe hs, ha.run H1 e1 al _ fun v H2 x2 r => ?_⟩
  cases r
  exact ⟨d, _, .int (i : Nat), rfl, rfl, ⟨es, n, _, D.at_, D.lit, n1, ⟨t, rfl⟩⟩, q _ H2 x2 (.int _)⟩
theorem cs_unp3 {e : Expr} {pos px py pz pt : Pos} {i j l kt : Nat} {x y z : Str} {D : Ends} {u v w : Str} (hx : PG X (.Name x px) (gName i)) (hy : PG X (.Name y py) (gName j)) (hz : PG X (.Name z pz) (gName l))
    (h : wE X e σ H fun r H2 => ∃ p, r = .ref p ∧ H2 p = some (.tup [.str u, .str v, .str w]) ∧ D.nx (((σ.set i (some (.str u))).set j (some (.str v))).set l (some (.str w))) H2)
    (ht : PG X (.Tuple [.Name x px, .Name y py, .Name z pz] kt pt) (gTup X.K 3 (gCons (gName i) (gCons (gName j) (gCons (gName l) gNil))))) (hs : swapsWithSole [.Tuple [.Name x px, .Name y py, .Name z pz] kt pt] e pos.line X.env = pure false := by rfl) (hw : swappedStores [.Tuple [.Name x px, .Name y py, .Name z pz] kt pt] e X.env = pure none := by rfl)
    (h1 : (assignEach [.Tuple [.Name x px, .Name y py, .Name z pz] kt pt] X.env).map (·.2) = [assign (.Tuple [.Name x px, .Name y py, .Name z pz] kt pt) X.env] := by rfl) : wS X (.Assign [.Tuple [.Name x px, .Name y py, .Name z pz] kt pt] e pos) D σ H :=
  ⟨_, ps_asg wE.pe ht hs hw h1, wE.weak h fun r H2 ⟨p, e, hp, q⟩ => ⟨p, _, e, .inl (.inl hp), rfl, _, _, rfl, _, _, rfl, _, _, rfl, rfl, q⟩⟩
end
section
variable {P : Program} {w : World} {K : PySem.W.Frag} {mg : Str → Option Value} {base : Heap}
theorem eqv_int (i j : Int) : PyData.eqv (.int i) (.int j) = decide (i = j) := by
  rw [Bool.eq_iff_iff, decide_eq_true_eq]
  simp [PyData.eqv]
def R_not (ds : List PyData) (d : PyData) : Prop := ∃ n : Nat, n < 64 ∧ ds = [.str (txN n)] ∧ d = .int (n : Nat)
theorem cl_number_of_text {f : Addr} {fd : FuncData} (F : At K mg "number_of_text" s_number_of_text f fd) (nb : NoB mg) (S : Sides K mg w) : Cl P w K mg base CX0 1 "number_of_text" (PureR K R_not) := by
  refine cl_pure F sc_number_of_text (F.fn.binds fun _ _ _ _ _ _ us hl => match us, hl with | [_], _ => rfl) (fun ds d h => ?_) (fun X cdv A outer s H Q E M vs ds d hX hr al r h q => ?_)
  · obtain ⟨n, _, rfl, _⟩ := h
    rfl
  · obtain ⟨n, hn, rfl, rfl⟩ := h
    obtain ⟨v, rfl, r1⟩ := rpa1 r
    cases r1
    subst hX
    have h1 : n % 8 < 8 := Nat.mod_lt _ (by decide)
    have h2 : n / 8 < 8 := by omega
    refine b_cons (s_if (k := false) al (td_not (k := true) (td_val (pd_isi rfl nb.isinstance rfl nb.str PyProof.Rows.boot_str (nm 0 (.str (txN n))) (by decide +kernel : kitB "str" "str" = some true)))) (fun k => by cases k) (fun _ H2 x2 => ?_))
    refine b_nil (b_cons (cs_unp3 (i := 1) (j := 2) (l := 3) (u := sideT (n % 8)) (v := "-") (w := sideT (n / 8)) (pg_name (i := 1) sc_number_of_text.nd rfl (.inl rfl)) (pg_name (i := 2) sc_number_of_text.nd rfl (.inl rfl)) (pg_name (i := 3) sc_number_of_text.nd rfl (.inl rfl)) ⟨_, pe_partition wE.pe wE.pe, ce_nm 0 ⟨⟨txN n, rfl⟩, ce_str ⟨txN n, "-", rfl, rfl, by decide +kernel, Evl.sz_of (Nat.le_trans (len_tx hn) (by decide)), fun p hp => ⟨p, rfl, (by rw [part_tx hn]; exact upd_same), ?_⟩⟩⟩⟩ (pg_tup rfl (pgs_cons (pg_name (i := 1) sc_number_of_text.nd rfl (.inl rfl)) (pgs_cons (pg_name (i := 2) sc_number_of_text.nd rfl (.inl rfl)) (pgs_cons (pg_name (i := 3) sc_number_of_text.nd rfl (.inl rfl)) pgs_nil))))))
    refine b_cons (s_if (k := false) (al.mono (x2.trans (Evl.Ex.new hp))) (WD.td (wd_or (k1 := false) (k2 := false) (TD.is (td_eq hr.units (nm 2 (.str "-")) pd_str (by decide +kernel) (by decide +kernel)) (by decide +kernel)) fun _ => wd_or (k1 := false) (k2 := false) (td_ninS h1 S rfl (nm 1 (.str _))) fun _ => wd_or1 (td_ninS h2 S rfl (nm 3 (.str _))))) (fun k => by cases k) (fun _ H4 x4 => ?_))
    exact b_nil (b_cons (s_ret ((al.mono (x2.trans (Evl.Ex.new hp))).mono x4) (PD.is (pd_add (pd_ixS h1 S rfl (nm 1 (.str _))) (pd_mul pd_int (pd_ixS h2 S rfl (nm 3 (.str _))) (.inl (by decide)))) (congrArg PyData.int (by omega))) fun v H5 x5 rv => q v H5 (((x2.trans (Evl.Ex.new hp)).trans x4).trans x5) rv))
structure HouC (K : PySem.W.Frag) (CH : Addr) : Prop where
  ins : C8.InsC K CH
  nT : NoAttr K CH "text"
  nN : NoAttr K CH "number"
def HAt (CH : Addr) (n : Nat) (H : Hp) (h : Addr) : Prop := ∃ dx, H h = some (.ins CH dx [("text", .str (txN n)), ("number", .int (n : Nat))])
theorem HAt.ex {CH h : Addr} {n : Nat} {H H' : Hp} (a : HAt CH n H h) (x : ∀ o, H h = some o → H' h = some o) : HAt CH n H' h := let ⟨dx, e⟩ := a; ⟨dx, x _ e⟩
theorem HAt.exM {CH h : Addr} {n : Nat} {M : Addr → Prop} {H H' : Hp} (a : HAt CH n H h) (x : ExM M H H') (m : ¬ M h) : HAt CH n H' h := let ⟨dx, e⟩ := a; ⟨dx, x _ _ e m fun _ z => by cases z⟩
def spHInit (CH : Addr) : Sp := fun vs H Q _ => ∃ (b dx : Addr) (n : Nat), vs = [.ref b, .str (txN n)] ∧ 1 ≤ n ∧ n < 64 ∧ H b = some (.ins CH dx []) ∧ ∀ H', (∀ a o, H a = some o → a ≠ b → H' a = some o) → HAt CH n H' b → Q .non H'
theorem ok_hinit {f CH : Addr} {fd : FuncData} (F : Fun K "__init__" "House.__init__" s_House_init f fd) (B : HouC K CH) (c1 : Cl P w K mg base CX0 1 "number_of_text" (PureR K R_not)) : FnOk P w K mg base CX0 2 f fd ["self", "text"] (spHInit CH) := by
  refine F.ok sc_House_init (fun vs H Q E h => ?_) (fun cdv A outer sh H vs Q E hr h => ⟨_, wB.ps, ?_⟩)
  · obtain ⟨b, dx, n, rfl, _⟩ := h
    rfl
  · obtain ⟨b, dx, n, rfl, hn0, hn, hb, q⟩ := h
    refine b_cons (s_set (M := M0) (i := 2) (d := .int (n : Nat)) alive0 sc_House_init.nd rfl (.inl rfl) (pd_callC c1 hr (by decide) rfl (ad_cons (nm 1 (.str (txN n))) ad_nil) ⟨n, hn, rfl, rfl⟩) fun v H2 x2 r2 => ?_)
    cases r2
    refine b_cons (s_if (M := M0) (k := false) alive0 (TD.is (td_eq hr.units (nm 2 (.int (n : Nat))) pd_int rfl rfl) (by rw [eqv_int]; exact decide_eq_false (by omega))) (fun k => by cases k) (fun _ H3 x3 => ?_))
    refine b_nil (b_cons (cs_fld (ce_nm 1 (ce_nm 0 ⟨b, CH, dx, [], rfl, x3 _ _ (x2 _ _ hb), B.ins.cl, B.nT, (by show 0 < 1000; decide), ?_⟩))))
    refine b_cons (cs_fld (ce_nm 2 (ce_nm 0 ⟨b, CH, dx, _, rfl, upd_same, B.ins.cl, B.nN, (by show 1 < 1000; decide), b_nil (q _ (fun a o ha na => ?_) ⟨dx, ?_⟩)⟩)))
    · rw [upd_ne na, upd_ne na]
      exact x3 _ _ (x2 _ _ ha)
    · rw [upd_same]
      rfl
def spBit (CH : Addr) : Sp := fun vs H Q _ => ∃ (h : Addr) (n k : Nat), vs = [.ref h, .int (k : Nat)] ∧ HAt CH n H h ∧ ∀ H', Evl.Ex H H' → Q (.bl (bitN n k)) H'
theorem ok_bit {f CH : Addr} {fd : FuncData} (F : Fun K "names_index" "House.names_index" s_House_names_index f fd) (B : HouC K CH) : FnOk P w K mg base CX0 1 f fd ["self", "index"] (spBit CH) := by
  refine F.ok sc_House_names_index (fun vs H Q E h => ?_) (fun cdv A outer sh H vs Q E hr h => ⟨_, wB.ps, ?_⟩)
  · obtain ⟨b, n, k, rfl, _⟩ := h
    rfl
  · obtain ⟨b, n, k, rfl, ⟨dx, hb⟩, q⟩ := h
    refine b_cons (s_ret (M := M0) (d := .bool (bitN n k)) alive0 (PD.is (pd_eq hr.units (pd_binR (d := .int ((n : Int) / 2 ^ k % 2 ^ 1)) op_andM (fun x y H1 rx ry _ Q q => ?_) (pd_shr (pd_fld (AtN.name (i := 0) rfl (.inl rfl) rfl) (fun z => z) hb B.ins.cl B.nN rfl (.int (n : Nat))) (nm 1 (.int (k : Nat)))) (pd_int (i := 1))) pd_int rfl rfl) ?_) fun v H2 x2 r2 => ?_)
    · cases rx
      cases ry
      exact ⟨_, 1, rfl, rfl, q _ H1 (Evl.Ex.refl H1) (.int _)⟩
    · show PyData.bool (PyData.eqv _ _) = PyData.bool (bitN n k)
      rw [eqv_int]
      rfl
    · cases r2
      exact q H2 x2
end
end YK

namespace YK
open PySem PySem.Spec PyProof.Rows L2 GV
theorem getD_of {ns : List Int} {i : Nat} {z : Int} (h : ns[i]? = some z) : ns.getD i 0 = z := by
  rw [List.getD_eq_getElem?_getD, h]
  rfl
theorem cut_pair {ns : List Int} {p : Nat} {x y : Int} (hx : ns[p]? = some x) (hy : ns[p + 1]? = some y) : cutD (ns.map PyData.int) (some (p : Int)) (some ((p : Int) + 2)) = [.int x, .int y] := by
  have hp := (List.getElem?_eq_some_iff.mp hy).1
  obtain ⟨hx', ex⟩ := List.getElem?_eq_some_iff.mp hx
  obtain ⟨_, ey⟩ := List.getElem?_eq_some_iff.mp hy
  unfold GV.cutD
  rw [show (p : Int) + 2 = ((p + 2 : Nat) : Int) by omega, HT.sIx_nat, HT.sIx_nat, List.length_map, Nat.min_eq_left (by omega : p ≤ ns.length), Nat.min_eq_left (by omega : p + 2 ≤ ns.length), show p + 2 - p = 2 by omega, ← List.map_drop, ← List.map_take, List.drop_eq_getElem_cons hx', List.drop_eq_getElem_cons hp]
  simp [ex, ey]
def letZ (lo hi z : Int) : Int := if z < lo then 0 else if z < hi then 1 else 2
abbrev ikD (i : Nat) (k : Int) : PyData := .tuple [.int (i : Nat), .int k]
def lo2 (ns : List Int) (p : Nat) : Int := min (ns.getD p 0) (ns.getD (p + 1) 0)
def hi2 (ns : List Int) (p : Nat) : Int := max (ns.getD p 0) (ns.getD (p + 1) 0)
def letL (ns : List Int) (p : Nat) : List Int := ns.map (letZ (lo2 ns p) (hi2 ns p))
def befL (ns : List Int) (p : Nat) : List PyData := (List.range p).map fun i => ikD i ((letL ns p).getD i 0)
def behL (ns : List Int) (p : Nat) : List PyData := (List.range (ns.length - (p + 2))).map fun j => ikD (p + 2 + j) ((letL ns p).getD (p + 2 + j) 0 + 3)
theorem letL_len (ns : List Int) (p : Nat) : (letL ns p).length = ns.length := by
  unfold letL
  rw [List.length_map]
def lD (lo hi : Int) : PyData → PyData
  | .int z => .int (letZ lo hi z)
  | d => d
def beD (l : List Int) : PyData → PyData
  | .int i => ikD i.toNat (l.getD i.toNat 0)
  | d => d
def bhD (l : List Int) : PyData → PyData
  | .int i => ikD i.toNat (l.getD i.toNat 0 + 3)
  | d => d
section
variable {P : Program} {w : World} {K : PySem.W.Frag} {mg : Str → Option Value} {base : Heap}
def R_third (ds es : List PyData) : Prop := ∃ (tp : Bool) (ns : List Int) (p : Nat), p + 1 < ns.length ∧ ns.length ≤ 900 ∧ ds = [sqD tp (ns.map PyData.int), .int (p : Nat)] ∧ es = befL ns p ++ behL ns p
theorem cl_third_kinds {f : Addr} {fd : FuncData} (F : At K mg "_third_kinds" s_third_kinds f fd) (nb : NoB mg) : Cl P w K mg base CX0 1 "_third_kinds" (FreshR K R_third) := by
  refine ⟨f, fd, _, F.fn.ok sc_third_kinds (fun vs H Q E h => ?_) (fun cdv A outer sh H vs Q E hr h => ⟨_, wB.ps, ?_⟩), F.gl, F.fn.kp, F.fn.binds fun _ _ _ _ _ _ us hl => match us, hl with | [_, _], _ => rfl⟩
  · obtain ⟨M, ds, es, al, r, ⟨_, _, _, _, _, rfl, _⟩, _⟩ := h
    rw [r.length]
    rfl
  · obtain ⟨M, ds, es, al, r, ⟨tp, ns, p, hp, hl, rfl, rfl⟩, q⟩ := h
    obtain ⟨u, v, rfl, r1, r2⟩ := rpa2 r
    obtain ⟨x, hx⟩ := get_i (ns := ns) (i := p) (by omega)
    obtain ⟨y, hy⟩ := get_i (ns := ns) (i := p + 1) hp
    have elo : lo2 ns p = min x y := by
      unfold lo2
      rw [getD_of hx, getD_of hy]
    have ehi : hi2 ns p = max x y := by
      unfold hi2
      rw [getD_of hx, getD_of hy]
    refine b_cons (s_unp2 (i := 2) (j := 3) al rfl (fd_sort2 rfl nb.sorted (PD.is (pd_sliceS (nm 0 r1) (od_some (nm 1 r2)) (od_some (pd_add (nm 1 r2) pd_int))) (congrArg (sqD tp) (cut_pair hx hy)))) (pg_name (i := 2) sc_third_kinds.nd rfl (by first | exact .inl rfl | exact .inr rfl)) (pg_name (i := 3) sc_third_kinds.nd rfl (by first | exact .inl rfl | exact .inr rfl)) fun v2 v3 H2 x2 q2 q3 => ?_)
    cases q2
    cases q3
    have al2 := al.mono x2
    have r1a := r1.mono (fun _ z => z) (ExM.of x2)
    have r2a := r2.mono (fun _ z => z) (ExM.of x2)
    refine b_cons (cs_set (i := 4) sc_third_kinds.nd rfl (by first | exact .inl rfl | exact .inr rfl) (ce_fd al2 (fd_map (t := .one 6) (own := [("stone", 6)]) (lD (min x y) (max x y)) rfl sc_third_kinds.nd (src_S (nm 0 r1a)) (blkOk_by (N := n_third_kinds) (sc := defScope s_third_kinds) (by decide +kernel)) (fun _ _ _ _ _ => pg_name (i := 6) sc_third_kinds.nd rfl (.inl rfl)) (fun _ _ => trivial) ?_ ?_ ?_) fun l ws H3 hl3 x3 h3 rw3 => ?_))
    · rintro M H d σ' ⟨v, _, rfl⟩
      rfl
    · rw [List.length_map]
      omega
    · rintro s0 H0 C cl fp M' H' d σ' hM lift hd ⟨v', rv, rfl⟩
      obtain ⟨z, _, rfl⟩ := List.mem_map.mp hd
      refine pd_if (k := decide (z < min x y)) (td_lt (nm 6 rv) (nm 2 (.int (min x y)))) (fun k => PD.is pd_int ?_) (fun k => pd_if (k := decide (z < max x y)) (td_lt (nm 6 rv) (nm 3 (.int (max x y)))) (fun k2 => PD.is pd_int ?_) (fun k2 => PD.is pd_int ?_))
      · show PyData.int 0 = .int (letZ _ _ _)
        unfold letZ
        rw [if_pos (of_decide_eq_true k)]
      · show PyData.int 1 = .int (letZ _ _ _)
        unfold letZ
        rw [if_neg (of_decide_eq_false k), if_pos (of_decide_eq_true k2)]
      · show PyData.int 2 = .int (letZ _ _ _)
        unfold letZ
        rw [if_neg (of_decide_eq_false k), if_neg (of_decide_eq_false k2)]
    have ew : (ns.map PyData.int).map (lD (min x y) (max x y)) = (letL ns p).map PyData.int := by
      unfold letL
      rw [elo, ehi, List.map_map, List.map_map]
      rfl
    rw [ew] at rw3
    have al3 := al2.mono x3
    have rl : Rp K M H3 (.ref l) (intsD (letL ns p)) := .lst (al2.fresh hl3) (.inl h3) rw3
    have r1b := r1a.mono (fun _ z => z) (ExM.of x3)
    have r2b := r2a.mono (fun _ z => z) (ExM.of x3)
    have ll := letL_len ns p
    have i2 : ((p : Nat) : Int) + 2 = ((p + 2 : Nat) : Int) := by omega
    refine b_cons (s_setLc (i := 5) (t := .one 7) (own := [("index", 7)]) (ds := (List.range ((ns.length : Int) - (((p : Nat) : Int) + 2)).toNat).map fun k => PyData.int (((p : Nat) : Int) + 2 + (k : Nat))) rfl sc_third_kinds.nd ?_ (blkOk_by (N := n_third_kinds) (sc := defScope s_third_kinds) (by decide +kernel)) (fun _ _ _ _ _ => pg_name (i := 7) sc_third_kinds.nd rfl (.inl rfl)) (fun _ _ => trivial) ?_ (fun _ => true) (bhD (letL ns p)) ?_ ?_ al3 rfl rfl rfl fun l2 ws2 H4 hl4 x4 h4 rw4 => ?_)
    · exact src_range2 rfl nb.range (pd_add (nm 1 r2b) pd_int) (pd_len nb rfl (nm 0 r1b) (n := ns.length) (by rw [len_sq, List.length_map])) (by omega) (by omega)
    · rintro M H d σ' ⟨v, _, rfl⟩
      rfl
    · rw [List.length_map, List.length_range]
      omega
    · rintro s0 H0 C cl fp M' H' d σ' hM lift hd ⟨v', rv, rfl⟩
      obtain ⟨j, hj, rfl⟩ := List.mem_map.mp hd
      have hj := List.mem_range.mp hj
      have ej : ((p : Nat) : Int) + 2 + (j : Nat) = ((p + 2 + j : Nat) : Int) := by omega
      rw [ej] at rv ⊢
      obtain ⟨z, hz⟩ := get_i (ns := letL ns p) (i := p + 2 + j) (by omega)
      refine ⟨tsd_nil, fun _ => PD.is (pd_tup (ad_cons (nm 7 rv) (ad_cons (pd_add (pd_ix (nm 4 (lift _ _ rl)) (nm 7 rv) (ixD_ints hz)) pd_int) ad_nil)) (by show 2 ≤ 100000; decide)) ?_⟩
      show PyData.tuple [_, _] = ikD _ _
      rw [Int.toNat_natCast, getD_of hz]
    rw [filt_all] at rw4
    have al4 := al3.mono x4
    have rl4 := rl.mono (fun _ z => z) (ExM.of x4)
    have rb4 : Rp K M H4 (.ref l2) (.list (behL ns p)) := by
      have e : ((List.range ((ns.length : Int) - (((p : Nat) : Int) + 2)).toNat).map fun k => PyData.int (((p : Nat) : Int) + 2 + (k : Nat))).map (bhD (letL ns p)) = behL ns p := by
        unfold behL
        rw [show ((ns.length : Int) - (((p : Nat) : Int) + 2)).toNat = ns.length - (p + 2) by omega, List.map_map]
        refine List.map_congr_left fun j _ => ?_
        show ikD _ _ = ikD _ _
        rw [show (((p : Nat) : Int) + 2 + (j : Nat)).toNat = p + 2 + j by omega]
      rw [e] at rw4
      exact .lst (al3.fresh hl4) (.inl h4) rw4
    have lb : (befL ns p).length = p := by
      unfold befL
      rw [List.length_map, List.length_range]
    have lh : (behL ns p).length ≤ 900 := by
      unfold behL
      rw [List.length_map, List.length_range]
      omega
    refine b_cons (cs_ret (ce_fd al4 (fd_cat (es := befL ns p) (fs := behL ns p) (PD.is (FD.pd (fd_map (t := .one 7) (own := [("index", 7)]) (beD (letL ns p)) rfl sc_third_kinds.nd (src_range1 rfl nb.range (nm 1 (r2b.mono (fun _ z => z) (ExM.of x4))) (by omega) (by omega)) (blkOk_by (N := n_third_kinds) (sc := defScope s_third_kinds) (by decide +kernel)) (fun _ _ _ _ _ => pg_name (i := 7) sc_third_kinds.nd rfl (.inl rfl)) (fun _ _ => trivial) ?_ ?_ ?_)) ?_) (nm 5 rb4) (by omega)) fun l5 ws5 H5 hl5 x5 h5 rw5 => q l5 ws5 H5 (Evl.fresh_back ((x2.trans x3).trans x4) hl5) (((x2.trans x3).trans x4).trans x5) h5 rw5))
    · rintro M H d σ' ⟨v, _, rfl⟩
      rfl
    · rw [List.length_map, List.length_range]
      omega
    · rintro s0 H0 C cl fp M' H' d σ' hM lift hd ⟨v', rv, rfl⟩
      obtain ⟨j, hj, rfl⟩ := List.mem_map.mp hd
      have hj := List.mem_range.mp hj
      rw [Int.zero_add] at rv ⊢
      obtain ⟨z, hz⟩ := get_i (ns := letL ns p) (i := j) (by omega)
      refine PD.is (pd_tup (ad_cons (nm 7 rv) (ad_cons (pd_ix (nm 4 (lift _ _ rl4)) (nm 7 rv) (ixD_ints hz)) ad_nil)) (by show 2 ≤ 100000; decide)) ?_
      show PyData.tuple [_, _] = ikD _ _
      rw [Int.toNat_natCast, getD_of hz]
    · congr 1
      unfold befL
      rw [Int.toNat_natCast, List.map_map]
      refine List.map_congr_left fun j _ => ?_
      show ikD _ _ = ikD _ _
      rw [Int.zero_add, Int.toNat_natCast]
end
end YK

namespace YK
open PySem PySem.Spec PyProof.Rows L2 GV
section
variable {P : Program} {w : World} {K : PySem.W.Frag} {mg : Str → Option Value} {base : Heap}
theorem rowW {ns : List Int} (h : RowL ns) : ∀ z ∈ ns, isWeightD (.int z) = true := fun z hz => (h.2.1 z hz).is
def spRowOk (K : PySem.W.Frag) (g : Hp → VK → Prop) : Sp := fun vs H Q _ => ∃ (M : Addr → Prop) (v : V) (tp : Bool) (ns : List Int), vs = [v] ∧ Alive M H ∧ Rp K M H v (sqD tp (ns.map PyData.int)) ∧ RowL ns ∧ g H Q
theorem bagB_of {tp : Bool} {ns : List Int} (hl : ns.length ≤ 40) (hw : ∀ z ∈ ns, isWeightD (.int z) = true) : bagB (sqD tp (ns.map PyData.int)) = true := by
  have e : (ns.map PyData.int).all isWeightD = true := List.all_eq_true.mpr fun d hd => by
    obtain ⟨z, hz, rfl⟩ := List.mem_map.mp hd
    exact hw z hz
  have e2 : decide ((ns.map PyData.int).length ≤ 40) = true := decide_eq_true (by rw [List.length_map]; exact hl)
  cases tp <;> (show (true && decide ((ns.map PyData.int).length ≤ 40) && (ns.map PyData.int).all isWeightD) = true; rw [e, e2]; rfl)
theorem parts_sq' (tp : Bool) (ds : List PyData) : (partsD (sqD tp ds)).length = ds.length := by cases tp <;> rfl
abbrev toB (b : Bool) (H : Hp) (Q : VK) : Prop := ∀ H', Evl.Ex H H' → Q (.bl b) H'
abbrev toN (H : Hp) (Q : VK) : Prop := ∀ H', Evl.Ex H H' → Q .non H'
theorem cl_is_row {f : Addr} {fd : FuncData} (F : At K mg "is_row" s_is_row f fd) (nb : NoB mg) (c1 : Cl P w K mg base CX0 4 "is_bag_row" (PureR K R_bag)) : Cl P w K mg base CX0 5 "is_row" (spRowOk K (toB true)) := by
  refine ⟨f, fd, _, F.fn.ok sc_is_row (fun vs H Q E h => ?_) (fun cdv A outer s H vs Q E hr h => ⟨_, wB.ps, ?_⟩), F.gl, F.fn.kp, F.fn.binds fun _ _ _ _ _ _ us hl => match us, hl with | [_], _ => rfl⟩
  · obtain ⟨M, v, tp, ns, rfl, _⟩ := h
    rfl
  · obtain ⟨M, v, tp, ns, rfl, al, r1, hrow, q⟩ := h
    have hb := bagB_of (tp := tp) hrow.1 (rowW hrow)
    have hl := hrow.1
    refine b_cons (s_ret al (pd_and (k1 := true) (k2 := true) (PD.is (pd_callC c1 hr (by decide) rfl (ad_cons (nm 0 r1) ad_nil) ⟨_, rfl, (by rw [parts_sq', List.length_map]; omega), rfl⟩) (by rw [hb])) fun _ => pd_one (PD.is (pd_eq hr.units (pd_lenSet rfl rfl nb.len rfl nb.set (nm 0 r1) (by omega)) (pd_len nb rfl (nm 0 r1) (n := ns.length) (by rw [len_sq, List.length_map])) rfl rfl) ?_)) fun v2 H2 x2 r2 => ?_)
    · rw [dd_eq.mpr hrow.2.2, eqv_int]
      simp
    · cases r2
      exact q H2 x2
theorem cl_check_row {f : Addr} {fd : FuncData} (F : At K mg "check_row" s_check_row f fd) (c1 : Cl P w K mg base CX0 5 "is_row" (spRowOk K (toB true))) : Cl P w K mg base CX0 6 "check_row" (spRowOk K toN) := by
  refine ⟨f, fd, _, F.fn.ok sc_check_row (fun vs H Q E h => ?_) (fun cdv A outer s H vs Q E hr h => ⟨_, wB.ps, ?_⟩), F.gl, F.fn.kp, F.fn.binds fun _ _ _ _ _ _ us hl => match us, hl with | [_], _ => rfl⟩
  · obtain ⟨M, v, tp, ns, rfl, _⟩ := h
    rfl
  · obtain ⟨M, v, tp, ns, rfl, al, bg, hn, q⟩ := h
    exact b_cons (cs_if (ct_not (ct_val (ce_call c1 hr (by decide) rfl (ca_cons (ce_nm 0 (ca_nil ⟨M, v, tp, ns, rfl, al, bg, hn, fun H2 x2 => ⟨true, rfl, b_nil (b_nil (q H2 x2))⟩⟩)))))))
def R_place (ds : List PyData) (d : PyData) : Prop := ∃ (tp : Bool) (ns : List Int) (p : Nat), p + 1 < ns.length ∧ ds = [sqD tp (ns.map PyData.int), .int (p : Nat)] ∧ d = .bool true
theorem cl_is_place {f : Addr} {fd : FuncData} (F : At K mg "is_place" s_is_place f fd) (nb : NoB mg) (c1 : Cl P w K mg base CX0 2 "is_number" (PureR K R_is_number)) : Cl P w K mg base CX0 3 "is_place" (PureR K R_place) := by
  refine cl_pure F sc_is_place (F.fn.binds fun _ _ _ _ _ _ us hl => match us, hl with | [_, _], _ => rfl) (fun ds d h => ?_) (fun X cdv A outer s H Q E M vs ds d hX hr al r h q => ?_)
  · obtain ⟨_, _, _, _, rfl, _⟩ := h
    rfl
  · obtain ⟨tp, ns, p, hp, rfl, rfl⟩ := h
    obtain ⟨u, v, rfl, r1, r2⟩ := rpa2 r
    subst hX
    refine b_cons (s_ret al (pd_callC c1 hr (by decide) rfl (ad_cons (nm 1 r2) (ad_cons pd_int (ad_cons (pd_sub (pd_len nb rfl (nm 0 r1) (n := ns.length) (by rw [len_sq, List.length_map])) pd_int) ad_nil))) ⟨_, _, _, rfl, ?_⟩) q)
    show PyData.bool true = .bool (decide ((0 : Int) ≤ (p : Nat)) && decide (((p : Nat) : Int) ≤ (ns.length : Nat) - 2))
    rw [decide_eq_true (by omega), decide_eq_true (by omega)]
    rfl
def spPlOk (K : PySem.W.Frag) : Sp := fun vs H Q _ => ∃ (M : Addr → Prop) (u v : V) (tp : Bool) (ns : List Int) (p : Nat), vs = [u, v] ∧ Alive M H ∧ Rp K M H u (sqD tp (ns.map PyData.int)) ∧ Rp K M H v (.int (p : Nat)) ∧ p + 1 < ns.length ∧ toN H Q
theorem cl_check_place {f : Addr} {fd : FuncData} (F : At K mg "check_place" s_check_place f fd) (c1 : Cl P w K mg base CX0 3 "is_place" (PureR K R_place)) : Cl P w K mg base CX0 4 "check_place" (spPlOk K) := by
  refine ⟨f, fd, _, F.fn.ok sc_check_place (fun vs H Q E h => ?_) (fun cdv A outer s H vs Q E hr h => ⟨_, wB.ps, ?_⟩), F.gl, F.fn.kp, F.fn.binds fun _ _ _ _ _ _ us hl => match us, hl with | [_, _], _ => rfl⟩
  · obtain ⟨M, u, v, tp, ns, p, rfl, _⟩ := h
    rfl
  · obtain ⟨M, u, v, tp, ns, p, rfl, al, r1, r2, hp, q⟩ := h
    exact b_cons (s_if (k := false) al (td_not (k := true) (td_val (pd_callC c1 hr (by decide) rfl (ad_cons (nm 0 r1) (ad_cons (nm 1 r2) ad_nil)) ⟨tp, ns, p, hp, rfl, rfl⟩))) (fun k => by cases k) (fun _ H2 x2 => b_nil (b_nil (q H2 x2))))
/-! ### the functions that the law asks -/
end
end YK

namespace YK
open PySem PySem.Spec PyProof.Rows L2 GV
abbrev MkH (P : Program) (w : World) (K : PySem.W.Frag) (mg : Str → Option Value) (base : Heap) (CH : Addr) : Prop := ∃ fI fdI, Mk K CH fI ∧ FnOk P w K mg base CX0 2 fI fdI ["self", "text"] (spHInit CH) ∧ Binds K fdI ["self", "text"] []
theorem ce_houseE {X : Cx} {σ : St} {H : Hp} {CH : Addr} {e : Expr} {p pos : Pos} {j n : Nat} {Q : VK} (mk : MkH X.prog X.w X.K X.mg X.base CH) (gH : X.mg "House" = some (.ref CH)) (hr : Room j X.A) (hj : 3 ≤ j) (hg : Gl X "House") (h1 : 1 ≤ n) (h2 : n < 64) (ha : PD X M0 e σ H (.str (txN n)))
    (q : ∀ h H', H h = none → Evl.Ex H H' → HAt CH n H' h → Q (.ref h) H') (he : starEach (e :: []) X.env = (false, eval e X.env) :: starEach [] X.env := by rfl) (hpl : (backTo pos (starEach [] X.env)).any (·.1) = false := by rfl) : wE X (.Call (.Name "House" p) [e] [] pos) σ H Q := by
  obtain ⟨fI, fdI, m, ok, bi⟩ := mk
  refine ⟨_, pe_make m ok (hr.mono hj) hg gH bi .nil pass0 wA.pa (by decide) he hpl, ca_cons (ce_pd alive0 ha fun v H1 x1 r1 => ca_nil fun x dx hx hdx ne => ?_) he⟩
  cases r1
  refine ⟨x, dx, n, rfl, h1, h2, upd_same, fun H' k a => ⟨rfl, q x H' (Evl.fresh_back x1 hx) (x1.trans fun b o hb => ?_) a⟩⟩
  have nx : b ≠ x := ne_of_none hb hx
  exact k b o (by rw [upd_ne nx, upd_ne (ne_of_none hb hdx)]; exact hb) nx
section
variable {P : Program} {w : World} {K : PySem.W.Frag} {mg : Str → Option Value} {base : Heap}
/-! ### the law -/
end
end YK

namespace GV
open PySem PySem.Spec PyProof.Rows L2
section
variable {X : Cx} {M : Addr → Prop} {σ : St} {H H' : Hp} {a b c e o : Expr} {da db d : PyData} {pos : Pos}
/-- min(a, b), max(a, b), step by step -/
theorem ce_min2 {p : Pos} {Q : VK} (hg : Gl X "min") (hn : X.mg "min" = none) (h : wA X [a, b] σ H fun vs H2 => ∃ i j, vs = [.int i, .int j] ∧ Q (.int (min i j)) H2) (hc : X.calm = true := by rfl)
    (h1 : starEach (a :: [b]) X.env = (false, eval a X.env) :: starEach [b] X.env := by rfl) (hpl : (backTo pos (starEach [b] X.env)).any (·.1) = false := by rfl) : wE X (.Call (.Name "min" p) [a, b] [] pos) σ H Q := by
  obtain ⟨t, ht, q⟩ := h
  refine ⟨_, pe_callB (call_min2 hc) hg hn PyProof.Rows.boot_min wA.pa (by decide) (by decide) h1 hpl, ⟨fun σ' H' Q' => σ' = σ ∧ H' = H ∧ ∀ vs H2, (∃ i j, vs = [.int i, .int j] ∧ Q (.int (min i j)) H2) → Q' vs H2, ⟨fun ps pins s σ' H' Q' I ⟨e1, e2, k⟩ => ?_⟩, rfl, rfl, fun vs H2 ⟨i, j, e, z⟩ => ⟨i, j, e, ?_⟩⟩⟩
  · subst e1
    subst e2
    exact thn (ht.run ps pins s σ' H' _ I q) fun us s' ⟨vs, H2, I2, r, z⟩ => ⟨vs, H2, I2, r, k vs H2 z⟩
  · rw [show (if j < i then j else i) = min i j by split <;> omega]
    exact z
theorem ce_max2 {p : Pos} {Q : VK} (hg : Gl X "max") (hn : X.mg "max" = none) (h : wA X [a, b] σ H fun vs H2 => ∃ i j, vs = [.int i, .int j] ∧ Q (.int (max i j)) H2) (hc : X.calm = true := by rfl)
    (h1 : starEach (a :: [b]) X.env = (false, eval a X.env) :: starEach [b] X.env := by rfl) (hpl : (backTo pos (starEach [b] X.env)).any (·.1) = false := by rfl) : wE X (.Call (.Name "max" p) [a, b] [] pos) σ H Q := by
  obtain ⟨t, ht, q⟩ := h
  refine ⟨_, pe_callB (call_max2 hc) hg hn PyProof.Rows.boot_max wA.pa (by decide) (by decide) h1 hpl, ⟨fun σ' H' Q' => σ' = σ ∧ H' = H ∧ ∀ vs H2, (∃ i j, vs = [.int i, .int j] ∧ Q (.int (max i j)) H2) → Q' vs H2, ⟨fun ps pins s σ' H' Q' I ⟨e1, e2, k⟩ => ?_⟩, rfl, rfl, fun vs H2 ⟨i, j, e, z⟩ => ⟨i, j, e, ?_⟩⟩⟩
  · subst e1
    subst e2
    exact thn (ht.run ps pins s σ' H' _ I q) fun us s' ⟨vs, H2, I2, r, z⟩ => ⟨vs, H2, I2, r, k vs H2 z⟩
  · rw [show (if j > i then j else i) = max i j by split <;> omega]
    exact z
theorem ce_mul {Q : VK} (h : wE X a σ H fun x H2 => wE X b σ H2 fun y H3 => ∃ i j, x = .int i ∧ y = .int j ∧ CMul i j ∧ Q (.int (i * j)) H3) : wE X (.BinOp a .Mult b pos) σ H Q := ce_bin op_mul h
theorem ce_shl {Q : VK} (h : wE X a σ H fun x H2 => wE X b σ H2 fun y H3 => ∃ i j, x = .int i ∧ y = .int j ∧ CPow i j ∧ Q (.int (i * 2 ^ j.toNat)) H3) : wE X (.BinOp a .LShift b pos) σ H Q := ce_bin op_shl h
end
end GV

/-! objects: methods of whatever object, own operators, own == and own len, calls without arguments -/
namespace PySem.W
open PySem PySem.Calls PyProof.Rows
section
variable {K : Frag} {x C L f : Addr} {h₀ : Heap} {m : Str → Option Value} {ox : Obj} {od : Option Obj} {A : Around} {E : Value → Shared → Prop} {s : Shared} {T : String}
/-- a op b, a of a class with its own op, b of a built-in type: the left one's method -/
theorem gv_right {prog : Program} {w : World} {op : Operator} {b : Value} {p1 p2 p3 : Option Value} {Q : Value → Shared → Prop} (F : Fr h₀ L s.heap m) (X₀ : K.In h₀) (I : InstAt s.heap x ox C od) (hb : ∀ M : Model, Looks M s.heap (typeOf b) (.type T)) (hc : selfFirst K C = true)
    (g0 : findIn K (.ref C) (PySem.dunder op.info.2) = some (some (.ref f))) (gf : isFn K (.ref f) = true) (g1 : findIn K (.ref C) (dunderR op.info.2) = some p3) (gp : p3 = none ∨ ∃ g : Addr, p3 = some (.ref g))
    (g2 : findIn K (.type T) (PySem.dunder op.info.2) = some p1) (g3 : findIn K (.type T) (dunderR op.info.2) = some p2) (g4 : subIn K (.type T) (.ref C) = some false)
    (h : wpAny (model prog w) A (call (.ref f) [.ref x, b]) (CmpBack Q) E s) : wpAny (model prog w) A (binaryOp op (.ref x) b) Q E s := by
  have KX := X₀.keeps F.keep
  obtain ⟨cdC, more, hC, eC⟩ := ksp_first hc
  have tried := ksp_try KX I g0 gf h
  generalize hi : op.info = info at g0 g1 g2 g3 tried
  obtain ⟨sign, nm⟩ := info
  obtain ⟨hp, gs, ds, tk, os⟩ := s
  have a1 : Looks (model prog w) hp (typeOf (.ref x)) (.ref C) := I.type
  have a2 : Looks (model prog w) hp (typeOf b) (.type T) := hb _
  have a3 : Looks (model prog w) hp (fillsNumberSlot (.ref C) nm) true := fills_K KX hC eC g0
  have a4 : Looks (model prog w) hp (fillsNumberSlot (.type T) nm) ((p1.isSome && !isSeqSlot p1) || (p2.isSome && !isSeqSlot p2)) := ksp_fillsT KX g2 g3
  have a5 : Looks (model prog w) hp (isSubtype (.type T) (.ref C)) false := looks_subIn KX g4
  have a6 : Looks (model prog w) hp (numberSlotInPython (.ref C) nm) true := ksp_inPy KX g0 g1 gp
  have a7 : Looks (model prog w) hp (numberSlotInPython (.type T) nm) false := Looks.of_pure rfl
  have a8 : Looks (model prog w) hp (typeLookup (.type T) (dunderR nm)) p2 := looks_findIn KX g3
  have other : (Value.ref C == Value.type T) = false := Bool.eq_false_iff.mpr (fun q => nomatch beq_iff_eq.mp q)
  generalize ((p1.isSome && !isSeqSlot p1) || (p2.isSome && !isSeqSlot p2)) = both at a4
  simp only [binaryOp, hi]
  refine wpAny_holding (wpAny_bind (show wpAny _ _ (binaryOp1 nm (.ref x) b) _ _ _ from ?_))
  unfold binaryOp1
  refine wpAny_bind (a1.at (wpAny_bind (a2.at (wpAny_bind (a3.at (?_ : wpAny _ _ _ _ _ _))))))
  simp only [other, Bool.false_eq_true, if_false]
  cases both <;> (ksp_lk; exact wpAny_mono tried (fun r s' ⟨v, er, hq⟩ => by subst er; ksp_lk; exact hq) fun _ _ e => e)
end
end PySem.W
namespace GV
open PySem PySem.Spec PyProof.Rows L2
/-- a method (or an own operator) of the class at C, with what it promises -/
def MethS (P : Program) (w : World) (K : PySem.W.Frag) (mg : Str → Option Value) (base : Heap) (CX : CXT) (C : Addr) (m : Str) (k : Nat) (ps : List Str) (sp : Sp) : Prop := ∃ f fd, Meth K C m f ∧ FnOk P w K mg base CX k f fd ps sp ∧ Binds K fd ps []
theorem vback {Q : Value → Shared → Prop} {v : V} {u : Value} {s : Shared} (r : RelV v u) (q : Q u s) : PySem.W.CmpBack Q u s := by
  cases v <;> first | (cases r; exact q) | (obtain ⟨t, z⟩ := r; subst z; exact q)
/-- what an operator of the class's own wants of the right side: its type -/
structure RightT (K : PySem.W.Frag) (C : Addr) (op : Operator) (T : String) : Prop where
  ex : ∃ p1 p2 p3, PySem.W.findIn K (.ref C) (PySem.dunderR op.info.2) = some p3 ∧ (p3 = none ∨ ∃ g : Addr, p3 = some (.ref g)) ∧ PySem.W.findIn K (.type T) (PySem.dunder op.info.2) = some p1 ∧ PySem.W.findIn K (.type T) (PySem.dunderR op.info.2) = some p2
  sub : PySem.W.subIn K (.type T) (.ref C) = some false
section
variable {X : Cx} {M : Addr → Prop} {σ : St} {H : Hp} {a b e o : Expr} {es : List Expr} {pos : Pos}
/-- f() -/
theorem ce_call0 {sp : Sp} {Q : VK} {j k : Nat} {x : Str} {p : Pos} (cl : Cl X.prog X.w X.K X.mg X.base CX0 k x sp) (hr : Room j X.A) (hkj : k ≤ j) (hg : Gl X x) (h : sp [] H Q E0) (hdb : (x == ("__debug__" : Str)) = false := by decide) : wE X (.Call (.Name x p) [] [] pos) σ H Q := by
  obtain ⟨f, fd, ps, F, hm, hk, hb⟩ := cl.ex
  exact ⟨_, pe_call0 F (hr.mono hkj) hg hm hk hb .nil pass0 hdb, h⟩
theorem fd_call0 {R : List PyData → List PyData → Prop} {fs : List PyData} {j k : Nat} {x : Str} {p : Pos} (cl : Cl X.prog X.w X.K X.mg X.base CX0 k x (FreshR X.K R)) (hr : Room j X.A) (hkj : k ≤ j) (hg : Gl X x) (hR : R [] fs) (hdb : (x == ("__debug__" : Str)) = false := by decide) : FD X M (.Call (.Name x p) [] [] pos) σ H fs :=
  .mk fun H1 e1 al Q q => ce_call0 cl hr hkj hg ⟨M, [], fs, al, .nil, hR, q⟩ hdb
/-- o.m(e, ..), whatever o is -/
theorem ce_methH {sp : Sp} {Q : VK} {j k : Nat} {C : Addr} {m : Str} {ps : List Str} {apos : Pos} {pl : Sem Bool} (c : Cls X.K C) (mt : MethS X.prog X.w X.K X.mg X.base CX0 C m k ps sp) (hr : Room j X.A) (hkj : k ≤ j)
    (h : wE X o σ H fun x H1 => ∃ a dx fs, x = .ref a ∧ H1 a = some (.ins C dx fs) ∧ fs.lookup m = none ∧ wA X (e :: es) σ H1 fun vs H2 => sp (.ref a :: vs) H2 Q E0)
    (he : starEach (e :: es) X.env = (false, eval e X.env) :: starEach es X.env := by rfl) (hpl : (backTo pos (starEach es X.env)).any (·.1) = false := by rfl)
    (hev : eval (.Call (.Attribute o m apos) (e :: es) [] pos) X.env = (do
      let ov ← eval o X.env
      standAt apos.atName
      let (f, first) ← holding [ov] (getMethod ov m pl)
      callWith pos f first (backTo pos (starEach (e :: es) X.env)) (backToKw pos (keywordEach [] X.env))) := by rfl) : wE X (.Call (.Attribute o m apos) (e :: es) [] pos) σ H Q := by
  obtain ⟨f, fd, hm, F, hb⟩ := mt
  refine ⟨_, pe_meth wE.pe c hm F (hr.mono hkj) hb .nil pass0 wA.pa he hpl hev, wE.weak h ?_⟩
  rintro x H1 ⟨p, dx, fs, rfl, hp, hf, hA⟩
  refine ⟨p, dx, fs, rfl, hp, hf, ?_⟩
  simp only [List.append_nil]
  exact hA
theorem ce_methH0 {sp : Sp} {Q : VK} {j k : Nat} {C : Addr} {m : Str} {ps : List Str} {apos : Pos} {pl : Sem Bool} (c : Cls X.K C) (mt : MethS X.prog X.w X.K X.mg X.base CX0 C m k ps sp) (hr : Room j X.A) (hkj : k ≤ j)
    (h : wE X o σ H fun x H1 => ∃ a dx fs, x = .ref a ∧ H1 a = some (.ins C dx fs) ∧ fs.lookup m = none ∧ sp [.ref a] H1 Q E0)
    (hev : eval (.Call (.Attribute o m apos) [] [] pos) X.env = (do
      let ov ← eval o X.env
      standAt apos.atName
      let (f, first) ← holding [ov] (getMethod ov m pl)
      callWith pos f first (backTo pos (starEach [] X.env)) (backToKw pos (keywordEach [] X.env))) := by rfl) : wE X (.Call (.Attribute o m apos) [] [] pos) σ H Q := by
  obtain ⟨f, fd, hm, F, hb⟩ := mt
  refine ⟨_, pe_meth0 wE.pe c hm F (hr.mono hkj) hb .nil pass0 hev, wE.weak h ?_⟩
  rintro x H1 ⟨p, dx, fs, rfl, hp, hf, hA⟩
  exact ⟨p, dx, fs, rfl, hp, hf, hA⟩
/-- .. that may raise -/
theorem ce_methX {sp : Sp} {W : WX} {Q : VK} {j k : Nat} {C : Addr} {m : Str} {ps : List Str} {apos : Pos} {pl : Sem Bool} (c : Cls X.K C) (mt : MethS X.prog X.w X.K X.mg X.base (L2.CX X.prog X.w) C m k ps sp) (hr : Room j X.A) (hkj : k ≤ j) (tk : Takes X W)
    (h : wE X o σ H fun x H1 => ∃ a dx fs, x = .ref a ∧ H1 a = some (.ins C dx fs) ∧ fs.lookup m = none ∧ wA X (e :: es) σ H1 fun vs H2 => sp (.ref a :: vs) H2 Q fun cls d H' => W cls d σ H')
    (he : starEach (e :: es) X.env = (false, eval e X.env) :: starEach es X.env := by rfl) (hpl : (backTo pos (starEach es X.env)).any (·.1) = false := by rfl)
    (hev : eval (.Call (.Attribute o m apos) (e :: es) [] pos) X.env = (do
      let ov ← eval o X.env
      standAt apos.atName
      let (f, first) ← holding [ov] (getMethod ov m pl)
      callWith pos f first (backTo pos (starEach (e :: es) X.env)) (backToKw pos (keywordEach [] X.env))) := by rfl) : wE X (.Call (.Attribute o m apos) (e :: es) [] pos) σ H Q := by
  obtain ⟨f, fd, hm, F, hb⟩ := mt
  refine ⟨fun σ H Q => wE X o σ H fun x H1 => ∃ a dx fs, x = .ref a ∧ H1 a = some (.ins C dx fs) ∧ fs.lookup m = none ∧ wA X (e :: es) σ H1 fun vs H2 => sp (.ref a :: vs) H2 Q fun cls d H' => W cls d σ H', ⟨fun pins s σ H Q I h => ?_⟩, h⟩
  refine PySem.W.methodCall_KW (pl := pl) (thn (wE.pe.run pins s σ H _ I h) fun u s1 ⟨x, H1, I1, rx, g, dx, fs, ex, eg, l, q⟩ => ?_) hev
  cases ex
  cases (show u = Value.ref g from rx)
  refine getmeth_ok I1 eg c hm l (PySem.W.callWith_K (first := [.ref g]) (h₀ := X.base) I1.ok.mod.kin hm.kp (thn (wA.pa.run pos pins s1 σ H1 _ I1 q) fun us s2 ⟨vs, H2, I2, r, q2⟩ => ⟨I2.kIn, ?_⟩) he hpl)
  exact run_fnS (us := .ref g :: us) (vs := .ref g :: vs) (E := fun σ cls d H' => W cls d σ H') F (hr.mono hkj) hb (passAt tk σ) I2 (.cons rfl r) q2
/-- a op b by the left side's own method: an object of the same class, or a value of a built-in type, on the right -/
def OwnR (X : Cx) (C : Addr) (op : Operator) (sp : Sp) (W : WX) (σ : St) (x y : V) (H : Hp) (Q : VK) : Prop := ∃ (a dx : Addr) (fs : List (Str × V)), x = .ref a ∧ H a = some (.ins C dx fs) ∧
  ((∃ (b dy : Addr) (gs : List (Str × V)), y = .ref b ∧ H b = some (.ins C dy gs)) ∨ ∃ T : String, TyX X.K H y (.type T) ∧ RightT X.K C op T) ∧ sp [x, y] H Q fun cls d H' => W cls d σ H'
theorem ce_own {op : Operator} {CX : CXT} {sp : Sp} {W : WX} {Q : VK} {j k : Nat} {C : Addr} {m : Str} {ps : List Str} (mt : MethS X.prog X.w X.K X.mg X.base CX C m k ps sp) (hm : m = PySem.dunder op.info.2) (hc : PySem.W.selfFirst X.K C = true) (hr : Room j X.A) (hkj : k ≤ j) (hx : ∀ σ, PassesAt CX X σ (WE W σ))
    (h : wE X a σ H fun x H1 => wE X b σ H1 fun y H2 => OwnR X C op sp W σ x y H2 Q) : wE X (.BinOp a op b pos) σ H Q := by
  subst hm
  obtain ⟨f, fd, hm, F, hb⟩ := mt
  refine ⟨fun σ H Q => wE X a σ H fun x H1 => wE X b σ H1 fun y H2 => OwnR X C op sp W σ x y H2 Q, ⟨fun pins s σ H Q I h => ?_⟩, h⟩
  refine wpAny_BinOp (binT (R := fun x y H2 => OwnR X C op sp W σ x y H2 Q) wE.pe wE.pe I h fun v u s2 x y H2 I2 rx ry ⟨a, dx, fs, ex, ea, right, q⟩ => ?_)
  subst ex
  cases (show v = Value.ref a from rx)
  obtain ⟨mA, J, _⟩ := ins_get I2.hok ea
  obtain ⟨od, J, _⟩ := J.look
  obtain ⟨mm, hF⟩ := I2.fr
  have run := run_fnS (us := [.ref a, u]) (vs := [.ref a, y]) (E := fun σ cls d H' => W cls d σ H') F (hr.mono hkj) hb (hx σ) I2 (.cons rfl (.cons ry .nil)) q
  have back : wpAny (model X.prog X.w) X.A (call (.ref f) [.ref a, u]) (PySem.W.CmpBack (EP X pins σ Q)) X.xe s2 := wpAny_mono run (fun r s' ⟨v, H', I', rv, q⟩ => vback rv ⟨v, H', I', rv, q⟩) fun _ _ z => z
  rcases right with ⟨b, dy, gs, ey, eb⟩ | ⟨T, ty, rt⟩
  · subst ey
    cases (show u = Value.ref b from ry)
    obtain ⟨mB, J', _⟩ := ins_get I2.hok eb
    obtain ⟨od', J', _⟩ := J'.look
    exact PySem.W.binop_K hF I2.ok.mod.kin J J'.type hc hm.at_ hm.fn back
  · obtain ⟨Pz, Z, pz, _⟩ := kit_of I2 ry ty
    obtain ⟨p1, p2, p3, r1, r2, r3, r4⟩ := rt.ex
    exact PySem.W.gv_right hF I2.ok.mod.kin J (fun M => Z.ty M _ I2.kIn pz) hc hm.at_ hm.fn r1 r2 r3 r4 rt.sub back
/-- a == b of objects, by the class's own == -/
def OwnE (C : Addr) (sp : Sp) : R2 := fun x y H Q => ∃ (a dx : Addr) (fs : List (Str × V)) (b dy : Addr) (gs : List (Str × V)), x = .ref a ∧ H a = some (.ins C dx fs) ∧ y = .ref b ∧ H b = some (.ins C dy gs) ∧ sp [x, y] H Q E0
theorem op_ownEq {sp : Sp} {j k : Nat} {C : Addr} {ps : List Str} (mt : MethS X.prog X.w X.K X.mg X.base CX0 C "__eq__" k ps sp) (hr : Room j X.A) (hkj : k ≤ j) : OpR X (compareOp .Eq) (OwnE C sp) := by
  intro pins s σ H x y v u Q I rx ry ⟨a, dx, fs, b, dy, gs, ex, ea, ey, eb, q⟩
  obtain ⟨f, fd, hm, F, hb⟩ := mt
  subst ex
  subst ey
  cases (show v = Value.ref a from rx)
  cases (show u = Value.ref b from ry)
  obtain ⟨mA, J, _⟩ := ins_get I.hok ea
  obtain ⟨mB, J', _⟩ := ins_get I.hok eb
  obtain ⟨od, J, _⟩ := J.look
  obtain ⟨od', J', _⟩ := J'.look
  obtain ⟨mm, hF⟩ := I.fr
  have run := run_fn (us := [.ref a, .ref b]) (vs := [.ref a, .ref b]) (dvs := []) (ds := []) F (hr.mono hkj) hb .nil pass0 I (.cons rfl (.cons rfl .nil)) q
  refine PySem.W.cmp_K (op := .Eq) (tb := .ref C) hr.units0 hF I.ok.mod.kin J J'.type (by simp [PySem.W.notFirst]) hm.at_ hm.fn (wpAny_mono run (fun r s' ⟨v, H', I', rv, q⟩ => vback rv ⟨v, H', I', rv, q⟩) fun _ _ z => z)
theorem ce_ownEq {sp : Sp} {Q : VK} {j k : Nat} {C : Addr} {ps : List Str} (mt : MethS X.prog X.w X.K X.mg X.base CX0 C "__eq__" k ps sp) (hr : Room j X.A) (hkj : k ≤ j) (h : wE X a σ H fun x H2 => wE X b σ H2 fun y H3 => OwnE C sp x y H3 Q) : wE X (.Compare a [.Eq] [b] pos) σ H Q :=
  ⟨_, pe_cmpR (op_ownEq mt hr hkj) wE.pe wE.pe (nomark _), h⟩
/-- len(o) of an object, by the class's own len -/
theorem call_ownLen {sp : Sp} {j k : Nat} {C : Addr} {ps : List Str} (mt : MethS X.prog X.w X.K X.mg X.base CX0 C "__len__" k ps sp) (hr : Room (j + 1) X.A) (hkj : k ≤ j) :
    CallR X (.builtin "len") (fun xs H Q => ∃ (a dx : Addr) (fs : List (Str × V)), xs = [.ref a] ∧ H a = some (.ins C dx fs) ∧ sp xs H (fun v H' => ∃ n : Nat, v = .int n ∧ n < 2 ^ 62 ∧ Q v H') E0) := by
  intro pins s σ H xs us Q I r ⟨a, dx, fs, ex, ea, q⟩
  obtain ⟨f, fd, hm, F, hb⟩ := mt
  subst ex
  cases r with
  | cons rx rt =>
    cases rt
    rename_i u
    cases (show u = Value.ref a from rx)
    obtain ⟨mA, J, _⟩ := ins_get I.hok ea
    obtain ⟨od, J, _⟩ := J.look
    obtain ⟨mm, hF⟩ := I.fr
    have hl := F.len _ _ _ _ q
    have bt := hb s [.ref a] I.kIn hl
    refine PySem.W.len_K hF I.ok.mod.kin J hm.at_ hm.fn (wpAny_call (codeAny_mono (F.run X.A.in1 X.stack s H ⟨[.ref a], []⟩ [.ref a] [.ref a] _ E0 (hr.in1.mono hkj) I.env0.in1 bt (.cons rfl .nil) q) fun r s' hq => ?_))
    cases r with
    | error e => exact hq.elim
    | ok fl =>
      cases fl with
      | ret u =>
        obtain ⟨v, H', I', rv, n, ev, hn, q'⟩ := I.after hq
        subst ev
        obtain ⟨t, et⟩ := (show ∃ t, u = Value.int n t from rv)
        subst et
        exact ⟨⟨by omega, by omega⟩, .int n, H', I'.tok _, ⟨_, rfl⟩, q'⟩
      | next => exact False.elim hq
      | brk => exact False.elim hq
      | cont => exact False.elim hq
end
end GV

/-! what the top wrote: list(a dict of texts), items of a tuple, enumerate(a tuple), a class's constant -/
namespace GV
open PySem PySem.Spec PyProof.Rows L2
/-- the keys of a written dict, in their order -/
inductive KeysT : List DictEntry → List Str → Prop
  | nil : KeysT [] []
  | cons {e : DictEntry} {x : Str} {es : List DictEntry} {xs : List Str} : (∃ t, e.key = .str x t) → KeysT es xs → KeysT (e :: es) (x :: xs)
theorem KeysT.pairs {prog : Program} {w : World} : ∀ {es : List DictEntry} {xs : List Str}, KeysT es xs → ∃ kvs : List (Str × Value), kvs.map (·.1) = xs ∧ PySem.Pairs (PySem.strKind prog w) es kvs
  | _, _, .nil => ⟨[], rfl, .nil⟩
  | _, _, .cons (e := e) (x := x) ⟨t, h⟩ r => by
    obtain ⟨kvs, h1, h2⟩ := r.pairs (prog := prog) (w := w)
    refine ⟨(x, e.val) :: kvs, by rw [List.map_cons, h1], .cons ?_ rfl h2⟩
    rw [h]
    show Value.isStrOf x (.str x t) = true
    simp [Value.isStrOf]
section
variable {X : Cx} {M : Addr → Prop} {σ : St} {H : Hp} {a b e : Expr} {pos : Pos}
theorem call_listKD {d : Addr} {es : Array DictEntry} {n : Nat} {ks : List Str} (hcalm : X.calm = true) (D : KDict X.K X.w d es n) (kt : KeysT es.toList ks) (nd : ks.Nodup) (hz : ks.length ≤ 1000) :
    CallR X (.type "list") (fun xs H Q => xs = [.ref d] ∧ ∀ p, H p = none → Q (.ref p) (upd H p (.lst (ks.map V.str)))) := by
  intro pins s σ H xs us Q I r ⟨ex, q⟩
  subst ex
  obtain ⟨u, eu, rx⟩ := vals1 r
  subst eu
  cases rx
  obtain ⟨kvs, hk1, hk2⟩ := kt.pairs (prog := X.prog) (w := X.w)
  have mo := PySem.W.mapOf_K (prog := X.prog) (w := X.w) I.kIn D.at_ D.lit
  obtain ⟨o, es', ep, ho, hx, hd, hko, _⟩ := mo
  have ho2 := I.kIn _ _ D.at_
  rw [ho] at ho2
  cases ho2
  have hat : s.heap.DictAt (PySem.strKind X.prog X.w) d kvs n := by
    cases hd
    exact ⟨_, es, ho, hx, rfl, hko, hk2, by rw [hk1]; exact nd⟩
  have hlen : kvs.length = ks.length := by rw [← hk1, List.length_map]
  refine PySem.W.kdl_call (PySem.W.kdl_dict (knd := PySem.strKind X.prog X.w) (kvs := kvs) (ep := n) D.low) (I.ok.hd hcalm) hat (by rw [hlen, sizeLine_eq]; omega) fun h' tk acc c' hk hD hacc => ?_
  have hv : Vals (ks.map V.str) acc.toList := by
    have gen : ∀ (zs : List (Str × Value)) (us : List Value), us.length = zs.length → (∀ (j : Nat) (v : Value), us[j]? = some v → ∃ k x, zs[j]? = some (k, x) ∧ (PySem.strKind X.prog X.w).is k v = true) → Vals ((zs.map (·.1)).map V.str) us := by
      intro zs
      induction zs with
      | nil =>
        intro us hl _
        cases us with
        | nil => exact .nil
        | cons _ _ => cases hl
      | cons z zs ih =>
        intro us hl h
        cases us with
        | nil => cases hl
        | cons v us =>
          obtain ⟨k, x, e1, e2⟩ := h 0 v rfl
          cases e1
          obtain ⟨t, et⟩ := Value.isStrOf_shape (show Value.isStrOf k v = true from e2)
          exact .cons ⟨t, et⟩ (ih us (Nat.succ.inj hl) fun j v hj => h (j + 1) v hj)
    rw [← hk1]
    exact gen kvs acc.toList (by rw [Array.length_toList]; exact hacc.1) fun j v e => hacc.2 j v (by rw [← Array.getElem?_toList]; exact e)
  refine ⟨.ref s.heap.objs.size, upd H s.heap.objs.size (.lst (ks.map V.str)), I.laid (t' := tk) hk (Nat.le_refl _)
    (show ObjOk X.prog X.w _ _ _ (.lst (ks.map V.str)) from ⟨by rw [List.length_map, sizeLine_eq]; omega, acc.toList, c', hv, by rw [Array.toArray_toList]; exact hD⟩), rfl, q _ (I.hok.fresh (Nat.le_refl _))⟩
/-- list(D), D a dict of texts that the top wrote -/
theorem fd_listKD {d : Addr} {es : Array DictEntry} {n : Nat} {ks : List Str} {x : Str} {p p2 : Pos} (hcalm : X.calm = true) (hg : Gl X "list") (hm : X.mg "list" = none) (hgD : Gl X x) (hmD : X.mg x = some (.ref d)) (D : KDict X.K X.w d es n) (kt : KeysT es.toList ks) (nd : ks.Nodup) (hz : ks.length ≤ 1000)
    (hdb : (x == ("__debug__" : Str)) = false := by decide) (hs : starEach (.Name x p2 :: []) X.env = (false, eval (.Name x p2) X.env) :: starEach [] X.env := by rfl) (hpl : (backTo pos (starEach [] X.env)).any (·.1) = false := by rfl) :
    FD X M (.Call (.Name "list" p) [.Name x p2] [] pos) σ H (ks.map PyData.str) := .mk fun H1 e1 al Q q =>
  ⟨_, pe_callTy (call_listKD hcalm D kt nd hz) hg hm PyProof.Rows.boot_list wA.pa (by decide) (by decide) hs hpl, ca_cons ⟨_, pe_glob hgD hmD (v := .ref d) rfl hdb, ca_nil ⟨rfl, fun p hp => q p _ _ hp (Evl.Ex.new hp) upd_same (.strs ks)⟩⟩ hs⟩
/-- a tuple that the top wrote -/
def KTup (K : PySem.W.Frag) (a : Addr) (xs : List V) : Prop := ∃ (o : Obj) (its : Array Value) (n : Nat), K.lookup a = some o ∧ o.cls = .type "tuple" ∧ o.data = .seq its n ∧ its.size ≤ sizeLine ∧ Vals xs its.toList
theorem pd_ixK {t : Addr} {ks : List Str} {x z : Str} {i : Nat} {p : Pos} (h : KTup X.K t (ks.map V.str)) (hg : Gl X x) (hm : X.mg x = some (.ref t)) (hb : PD X M b σ H (.int (i : Nat))) (hz : ks[i]? = some z) (hdb : (x == ("__debug__" : Str)) = false := by decide) (hs : PlainIx b := by exact fun _ _ => rfl) :
    PD X M (.Subscript (.Name x p) b pos) σ H (.str z) := .mk fun H1 e1 al Q q =>
  ⟨_, pe_ix ix_seq (pe_glob hg hm (v := .ref t) rfl hdb) wE.pe hs, hb.run H1 e1 al _ fun v H2 x2 r => by
    cases r
    refine .inr (.inl ⟨t, ks.map V.str, (i : Nat), .str z, rfl, rfl, .inr h, ?_, q _ H2 x2 (.str z)⟩)
    exact atI_nat (by rw [List.getElem?_map, hz]; rfl)⟩
theorem wk_enumK {K : PySem.W.Frag} {t : Addr} {xs : List V} {ds : List PyData} (h : KTup K t xs) (r : RpAll K M H xs ds) : Wk K M (IteT K t) H (enumD ds) := by
  refine ⟨fun M' i H' hm e hi => ?_, fun M' H' hm e => ⟨xs, .inr h, by rw [r.length, enumD_length]; exact Nat.le_refl _⟩, fun M' i H' x H'' hm e al y => ?_⟩
  · have hx : i < xs.length := by rw [r.length, ← enumD_length]; exact hi
    exact ⟨xs, xs[i], .inr h, List.getElem?_eq_getElem hx⟩
  · obtain ⟨T, z, rfl, hT, rfl, y⟩ := y
    refine ⟨Evl.Ex.new hT, fun d hd => ?_⟩
    obtain ⟨e', he, rfl⟩ := enumD_get hd
    obtain ⟨v, hv, rv⟩ := r.get he
    have q := y xs (.inr h)
    rw [hv] at q
    cases q
    exact .tup (al.fresh hT) (.inl upd_same) (.cons (.int _) (.cons (((rv.wide hm).mono (fun _ z => z) e).mono (fun _ z => z) (.of (Evl.Ex.new hT))) .nil))
theorem src_enumK {p tpos : Pos} {elts : List Expr} {kk : Nat} {t : Addr} {xs : List V} {ds : List PyData} (hg : Gl X "enumerate") (hm : X.mg "enumerate" = none) (h : KTup X.K t xs) (r : ∀ H, RpAll X.K M H xs ds) (he : ∀ H1 (Q : VK), Q (.ref t) H1 → wE X e σ H1 Q) (hs : starEach [e] X.env = [(false, eval e X.env)] := by rfl)
    (hs' : starEach (e :: []) X.env = (false, eval e X.env) :: starEach [] X.env := by rfl) : Src X M (.Tuple elts kk tpos) (.Call (.Name "enumerate" p) [e] [] pos) σ H (enumD ds) :=
  ⟨_, pi_enumT hg hm wA.pa hs, fun H1 e1 al R q => ca_cons (he _ _ (ca_nil ⟨t, xs, rfl, .inr h, q _ H1 (Evl.Ex.refl H1) (wk_enumK h (r H1))⟩)) hs'⟩
/-- C.f, a constant of the class at C -/
theorem ce_cval {C : Addr} {mc u : Value} {x f : Str} {v : V} {p : Pos} {Q : VK} (hg : Gl X x) (hm : X.mg x = some (.ref C)) (r : ClX.CRead X.K C mc) (k : ClX.CVal X.K C mc f v u) (q : Q v H) (hdb : (x == ("__debug__" : Str)) = false := by decide) (hb : attributeBase (.Name x p) f X.env (eval (.Name x p) X.env) = eval (.Name x p) X.env := by rfl) :
    wE X (.Attribute (.Name x p) f pos) σ H Q := ⟨_, ClX.pe_cval (pe_glob hg hm (v := .ref C) rfl hdb) hb, C, mc, v, u, rfl, r, k, q⟩
end
end GV

namespace YK
open PySem PySem.Spec PyProof.Rows L2 GV
/-! ### houses as values -/
def flS (i : Nat) : Nat := 4 * (i % 2) + 2 * (i / 2 % 2) + i / 4
def mirN (n : Nat) : Nat := n / 8 + 8 * (n % 8)
def flN (n : Nat) : Nat := flS (n % 8) + 8 * flS (n / 8)
theorem mir_lt {n : Nat} (hn : n < 64) : mirN n < 64 := by unfold mirN; omega
theorem fl_lt {n : Nat} (hn : n < 64) : flN n < 64 := all63 (p := fun n => flN n < 64) (by decide +kernel) hn
theorem mir_pos {n : Nat} (hn : n < 64) (h : 1 ≤ n) : 1 ≤ mirN n := by unfold mirN; omega
theorem fl_pos {n : Nat} (hn : n < 64) (h : 1 ≤ n) : 1 ≤ flN n := by
  have := all63 (p := fun n => 1 ≤ n → 1 ≤ flN n) (by decide +kernel) hn
  exact this h
def sidesL : List Str := ["", "l", "b", "lb", "h", "lh", "bh", "lbh"]
def flipL : List Str := ["", "h", "b", "bh", "l", "lh", "lb", "lbh"]
theorem sides_get {i : Nat} (h : i < 8) : sidesL[i]? = some (sideT i) := by
  match i, h with
  | 0, _ => rfl
  | 1, _ => rfl
  | 2, _ => rfl
  | 3, _ => rfl
  | 4, _ => rfl
  | 5, _ => rfl
  | 6, _ => rfl
  | 7, _ => rfl
theorem flip_get {i : Nat} (h : i < 8) : flipL[i]? = some (sideT (flS i)) := by
  match i, h with
  | 0, _ => rfl
  | 1, _ => rfl
  | 2, _ => rfl
  | 3, _ => rfl
  | 4, _ => rfl
  | 5, _ => rfl
  | 6, _ => rfl
  | 7, _ => rfl
theorem fl_tx {n : Nat} (hn : n < 64) : sideT (flS (n % 8)) ++ "-" ++ sideT (flS (n / 8)) = txN (flN n) := all63 (p := fun n => sideT (flS (n % 8)) ++ "-" ++ sideT (flS (n / 8)) = txN (flN n)) (by decide +kernel) hn
theorem fls_lt {i : Nat} (h : i < 8) : flS i < 8 := by unfold flS; omega
structure SidesK (K : PySem.W.Frag) (mg : Str → Option Value) (w : World) : Prop where
  ex : ∃ d es n, mg "_SIDES" = some (.ref d) ∧ KDict K w d es n ∧ KeysT es.toList sidesL
structure FlipK (K : PySem.W.Frag) (mg : Str → Option Value) : Prop where
  ex : ∃ t, mg "_FLIPPED_SIDES" = some (.ref t) ∧ KTup K t (flipL.map V.str)
structure KindsK (K : PySem.W.Frag) (CH : Addr) : Prop where
  ex : ∃ (t : Addr) (mc : Value), ClX.CRead K CH mc ∧ ClX.CVal K CH mc "KINDS" (.ref t) (.ref t) ∧ KTup K t (ordK.map V.str)
structure HD (X : Cx) (CH : Addr) (e : Expr) (σ : St) (H : Hp) (n : Nat) : Prop where
  run : ∀ H1, ExM M0 H H1 → ∀ Q : VK, (∀ h H2, Evl.Ex H1 H2 → HAt CH n H2 h → Q (.ref h) H2) → wE X e σ H1 Q
section
variable {X : Cx} {CH : Addr} {σ : St} {H H' : Hp} {a b e : Expr} {n m : Nat} {pos : Pos}
theorem HD.mono (h : HD X CH e σ H n) (x : ExM M0 H H') : HD X CH e σ H' n := ⟨fun H1 e1 Q q => h.run H1 (x.trans e1) Q q⟩
theorem HD.is (h : HD X CH e σ H n) (q : n = m) : HD X CH e σ H m := q ▸ h
theorem HAt.ex' {h : Addr} (a : HAt CH n H h) (x : Evl.Ex H H') : HAt CH n H' h := a.ex fun o => x _ _
theorem HAt.m0 {h : Addr} (a : HAt CH n H h) (x : ExM M0 H H') : HAt CH n H' h := a.exM x fun z => z
theorem ce_hd {Q : VK} (h : HD X CH e σ H n) (q : ∀ h H2, Evl.Ex H H2 → HAt CH n H2 h → Q (.ref h) H2) : wE X e σ H Q := h.run H (ExM.refl H) Q q
theorem hnm (i : Nat) {x : Str} {h : Addr} (r : HAt CH n H h) (hN : X.N[i]? = some x := by rfl) (hv : Vis X.env.scope x := by first | exact .inl rfl | exact .inr (.inl rfl) | exact .inr (.inr rfl)) (hs : σ[i]? = some (some (.ref h)) := by rfl) (hd : (x == ("__debug__" : Str)) = false := by decide)
    (hcd : (x == ("__classdict__" : Str)) = false := by decide) : HD X CH (.Name x pos) σ H n := ⟨fun H1 e1 Q q => ce_nm i (q h H1 (Evl.Ex.refl H1) (r.m0 e1)) hN hv hs hd hcd⟩
theorem pd_numH (B : HouC X.K CH) (h : HD X CH e σ H n) (hb : attributeBase e "number" X.env (eval e X.env) = eval e X.env := by rfl) : PD X M0 (.Attribute e "number" pos) σ H (.int (n : Nat)) := .mk fun H1 e1 al Q q => by
  refine ce_fld (h.run H1 e1 _ fun hh H2 x2 ho => ?_) hb
  obtain ⟨dx, e2⟩ := ho
  exact ⟨hh, CH, dx, _, _, rfl, e2, B.ins.cl, B.nN, rfl, q _ H2 x2 (.int _)⟩
theorem pd_txtH (B : HouC X.K CH) (h : HD X CH e σ H n) (hb : attributeBase e "text" X.env (eval e X.env) = eval e X.env := by rfl) : PD X M0 (.Attribute e "text" pos) σ H (.str (txN n)) := .mk fun H1 e1 al Q q => by
  refine ce_fld (h.run H1 e1 _ fun hh H2 x2 ho => ?_) hb
  obtain ⟨dx, e2⟩ := ho
  exact ⟨hh, CH, dx, _, _, rfl, e2, B.ins.cl, B.nT, rfl, q _ H2 x2 (.str _)⟩
end
section
variable {P : Program} {w : World} {K : PySem.W.Frag} {mg : Str → Option Value} {base : Heap}
/-! ### text_of_number -/
def R_ton (ds : List PyData) (d : PyData) : Prop := ∃ n : Nat, n < 64 ∧ ds = [.int (n : Nat)] ∧ d = .str (txN n)
theorem cl_text_of_number {f : Addr} {fd : FuncData} (F : At K mg "text_of_number" s_text_of_number f fd) (nb : NoB mg) (S : SidesK K mg w) : Cl P w K mg base CX0 1 "text_of_number" (PureR K R_ton) := by
  refine cl_pure F sc_text_of_number (F.fn.binds fun _ _ _ _ _ _ us hl => match us, hl with | [_], _ => rfl) (fun ds d h => ?_) (fun X cdv A outer s H Q E M vs ds d hX hr al r h q => ?_)
  · obtain ⟨n, _, rfl, _⟩ := h
    rfl
  · obtain ⟨n, hn, rfl, rfl⟩ := h
    obtain ⟨v, rfl, r1⟩ := rpa1 r
    cases r1
    subst hX
    obtain ⟨d, es, k, hm, D, kt⟩ := S.ex
    have h1 : n % 8 < 8 := Nat.mod_lt _ (by decide)
    have h2 : n / 8 < 8 := by omega
    refine b_cons (cs_set (i := 1) sc_text_of_number.nd rfl (.inl rfl) (ce_fd al (fd_listKD rfl rfl nb.list rfl hm D kt (by decide) (by decide)) fun l ws H2 hl x2 hl2 rl => ?_))
    have rl2 : Rp K M H2 (.ref l) (.list (sidesL.map PyData.str)) := .lst (al.fresh hl) (.inl hl2) rl
    have ixs : ∀ i, i < 8 → ixD (.list (sidesL.map PyData.str)) (.int (i : Nat)) = some (.str (sideT i)) := fun i hi => ixD_list (by rw [List.getElem?_map, sides_get hi]; rfl)
    have hl8 : ∀ i, i < 8 → (sideT i).length ≤ 3 := fun i hi => side_len (by omega)
    refine b_cons (s_ret (al.mono x2) (pd_addS (pd_addS (pd_ix (nm 1 rl2) (PD.is (pd_mod (nm 0 (.int (n : Nat))) (pd_int (i := 8)) (by decide)) (congrArg PyData.int (show (n : Int) % 8 = ((n % 8 : Nat) : Int) by omega))) (ixs _ h1)) pd_str ?_) (pd_ix (nm 1 rl2) (PD.is (pd_div (nm 0 (.int (n : Nat))) (pd_int (i := 8)) ⟨by decide, by decide⟩) (congrArg PyData.int (show (n : Int) / 8 = ((n / 8 : Nat) : Int) by omega))) (ixs _ h2)) ?_) fun v H3 x3 r3 => q v H3 (x2.trans x3) r3)
    · have := hl8 _ h1
      have e : ("-" : Str).length = 1 := by decide +kernel
      omega
    · have a1 := hl8 _ h1
      have a2 := hl8 _ h2
      have e : (sideT (n % 8) ++ "-").length ≤ 4 := all63 (p := fun n => (sideT (n % 8) ++ "-").length ≤ 4) (by decide +kernel) hn
      omega
end
end YK

namespace YK
open PySem PySem.Spec PyProof.Rows L2 GV
/-! ### the methods of a house -/
section
variable {X : Cx} {CH : Addr} {σ : St} {H H' : Hp} {a b e : Expr} {n m : Nat} {pos : Pos}
end
abbrev toFr (K : PySem.W.Frag) (ds : List PyData) (H : Hp) (Q : VK) : Prop := ∀ p ws H', H p = none → Evl.Ex H H' → H' p = some (.lst ws) → RpAll K M0 H' ws ds → Q (.ref p) H'
abbrev toHo (CH : Addr) (n : Nat) (H : Hp) (Q : VK) : Prop := ∀ h H', Evl.Ex H H' → HAt CH n H' h → Q (.ref h) H'
section
variable {P : Program} {w : World} {K : PySem.W.Frag} {mg : Str → Option Value} {base : Heap}
end
end YK

/-! lists of texts walked by comprehensions, a dict of four texts, the index of a text -/
namespace GV
open PySem PySem.Spec PyProof.Rows L2
def strP (p : Str → Bool) : PyData → Bool
  | .str x => p x
  | _ => false
def strF (g : Str → PyData) : PyData → PyData
  | .str x => g x
  | d => d
theorem strs_filter (p : Str → Bool) (g : Str → PyData) (l : List Str) : ((l.map PyData.str).filter (strP p)).map (strF g) = (l.filter p).map g := by
  rw [List.filter_map, List.map_map]
  rfl
section
variable {X : Cx} {M : Addr → Prop} {σ : St} {H : Hp} {a b e o tg iter tst : Expr} {pos : Pos}
/-- [elt for x in a list of texts if test] -/
theorem fd_filterS {i : Nat} {elt : Expr} {scope : Scope} {own : List (Str × Nat)} {l : List Str} (p : Str → Bool) (g : Str → PyData) (hc : X.calm = true) (hN : X.N.Nodup) (hi : PD X M iter σ H (.list (l.map PyData.str))) (ok : BlkOk X.N X.env.scope scope own)
    (hg : ∀ s H C cl fp, PG (Cx.lc X s H scope C cl fp) tg (gName i)) (hl : l.length ≤ 100000)
    (body : ∀ s0 H0 C cl fp M' H' y, (∀ a, M a → M' a) → (∀ v e, Rp X.K M H v e → Rp X.K M' H' v e) → (∀ a o, ¬ M a → NT o → H a = some o → H' a = some o ∧ ¬ M' a) → y ∈ l →
      TD (Cx.lc X s0 H0 scope C cl fp) M' tst ((wipe σ (own.map (·.2))).set i (some (.str y))) H' (p y) ∧ PD (Cx.lc X s0 H0 scope C cl fp) M' elt ((wipe σ (own.map (·.2))).set i (some (.str y))) H' (g y))
    (hw : ∀ v, wipe ((wipe σ (own.map (·.2))).set i v) (own.map (·.2)) = wipe σ (own.map (·.2)) := by intro _; rfl) (hs : ∀ x, foldedSetIterable iter X.env x = pure x := by intro _; rfl) : FD X M (.ListComp elt [⟨tg, iter, [tst], 0⟩] scope pos) σ H ((l.filter p).map g) := by
  rw [← strs_filter p g l]
  refine fd_filterO (t := .one i) (strP p) (strF g) hc hN (src_list hi) ok hg (fun _ _ => trivial) ?_ (by rw [List.length_map]; exact hl) ?_ hs
  · rintro M H d σ' ⟨v, _, rfl⟩
    exact hw _
  · rintro s0 H0 C cl fp M' H' d σ' hM lift kp hd ⟨v, rv, rfl⟩
    obtain ⟨y, hy, rfl⟩ := List.mem_map.mp hd
    cases rv
    exact body s0 H0 C cl fp M' H' y hM lift kp hy
/-- [elt for x in a list of texts] -/
theorem fd_mapS {i : Nat} {elt : Expr} {scope : Scope} {own : List (Str × Nat)} {l : List Str} (g : Str → PyData) (hc : X.calm = true) (hN : X.N.Nodup) (hi : PD X M iter σ H (.list (l.map PyData.str))) (ok : BlkOk X.N X.env.scope scope own)
    (hg : ∀ s H C cl fp, PG (Cx.lc X s H scope C cl fp) tg (gName i)) (hl : l.length ≤ 100000)
    (body : ∀ s0 H0 C cl fp M' H' y, (∀ a, M a → M' a) → (∀ v e, Rp X.K M H v e → Rp X.K M' H' v e) → (∀ a o, ¬ M a → NT o → H a = some o → H' a = some o ∧ ¬ M' a) → y ∈ l →
      PD (Cx.lc X s0 H0 scope C cl fp) M' elt ((wipe σ (own.map (·.2))).set i (some (.str y))) H' (g y))
    (hw : ∀ v, wipe ((wipe σ (own.map (·.2))).set i v) (own.map (·.2)) = wipe σ (own.map (·.2)) := by intro _; rfl) (hs : ∀ x, foldedSetIterable iter X.env x = pure x := by intro _; rfl) : FD X M (.ListComp elt [⟨tg, iter, [], 0⟩] scope pos) σ H (l.map g) := by
  have e : l.map g = ((l.map PyData.str).filter fun _ => true).map (strF g) := by
    rw [filt_all, List.map_map]
    rfl
  rw [e]
  refine fd_lcO (t := .one i) hc hN (src_list hi) ok hg (fun _ _ => trivial) ?_ (fun _ => true) (strF g) (by rw [List.length_map]; exact hl) ?_ hs
  · rintro M H d σ' ⟨v, _, rfl⟩
    exact hw _
  · rintro s0 H0 C cl fp M' H' d σ' hM lift kp hd ⟨v, rv, rfl⟩
    obtain ⟨y, hy, rfl⟩ := List.mem_map.mp hd
    cases rv
    exact ⟨tsd_nil, fun _ => body s0 H0 C cl fp M' H' y hM lift kp hy⟩
theorem td_ninS {x : Str} {ns : List Str} (ha : PD X M a σ H (.str x)) (hb : PD X M b σ H (.list (ns.map PyData.str))) (hk : behindInMarks .NotIn b = false := by rfl) : TD X M (.Compare a [.NotIn] [b] pos) σ H (!decide (x ∈ ns)) :=
  td_cmpR op_notIn_seq hk (fun u v H1 ru rv _ Q q => by
    cases ru
    cases rv with
    | lst m hs rs =>
      have all : (ns.map V.str).all flatV = true := by
        rw [List.all_map, List.all_eq_true]
        exact fun _ _ => rfl
      rw [rs.of_strs] at hs
      refine ⟨_, _, rfl, .inl (.inl hs), rfl, all, ?_⟩
      show Q (.bl (!inV (.str x) (ns.map V.str))) H1
      rw [inV_strs]
      exact q _ H1 (Evl.Ex.refl H1) (.bl _)) ha hb
/-- o.index(e), a text that is there -/
theorem pd_indexS {apos cpos : Pos} {ns : List Str} {k : Str} {j : Nat} (ho : PD X M o σ H (.list (ns.map PyData.str))) (he : PD X M e σ H (.str k)) (hj : ns[j]? = some k) (hf : ∀ m z, m < j → ns[m]? = some z → z ≠ k)
    (h1 : attributeBase o ("index" : Str) X.env (eval o X.env) = eval o X.env := by rfl)
    (h2 : ((((backTo cpos (starEach (e :: []) X.env)).all fun x => !x.1) && (backToKw cpos (keywordEach [] X.env)).all fun x => x.1.isSome) && decide (((e :: []).length + ([] : List Keyword).length + if ([] : List Keyword).isEmpty = true then 0 else 1) < 30)) = true := by rfl)
    (h3 : (apos.endLine == cpos.line) = true := by rfl) (h4 : starEach (e :: []) X.env = (false, eval e X.env) :: starEach [] X.env := by rfl) (h5 : (backTo cpos (starEach [] X.env)).any (·.1) = false := by rfl) :
    PD X M (.Call (.Attribute o "index" apos) [e] [] cpos) σ H (.int (j : Nat)) := .mk fun H1 e1 al Q q => by
  refine ⟨_, pe_bm PySem.F.plainAttrs_list PySem.F.slot_list_index PySem.F.type_list_index mt_index wE.pe (pa_cons wE.pe pa_nil h4) h1 h2 h3 h4 h5, ?_⟩
  refine ho.run H1 e1 al _ fun x H2 x2 r => ?_
  cases r with
  | lst m hs rs =>
    refine ⟨.inl ⟨rfl, _, .inl hs⟩, he.run H2 (e1.trans (.of x2)) (al.mono x2) _ fun y H3 x3 ry => ?_⟩
    cases ry
    have hs3 := GV.Rd.exM hs m (.of x3)
    have ev := rs.of_strs
    subst ev
    refine ⟨_, _, _, j, .str k, rfl, rfl, .inl hs3, rfl, ?_, ?_, ?_, ?_, q _ H3 (x2.trans x3) (.int _)⟩
    · rw [List.all_eq_true]
      intro v hv
      obtain ⟨z, _, rfl⟩ := List.mem_map.mp hv
      rfl
    · rw [List.getElem?_map, hj]
      rfl
    · simp [eqV]
    · intro m z hm hz
      rw [List.getElem?_map] at hz
      obtain ⟨u, hu, rfl⟩ := Option.map_eq_some_iff.mp hz
      simpa [eqV] using hf m u hm hu
/-- {k: v, ..} of four texts -/
theorem ce_dict4 {k1 k2 k3 k4 v1 v2 v3 v4 : Str} {t1 t2 t3 t4 u1 u2 u3 u4} {p1 p2 p3 p4 q1 q2 q3 q4 : Pos} {kvs : List (Key × V)} {Q : VK} (hk : kvs = mergeK [] [(.inr k1, .str v1), (.inr k2, .str v2), (.inr k3, .str v3), (.inr k4, .str v4)]) (h : ∀ p, H p = none → Q (.ref p) (upd H p (.dK kvs))) :
    wE X (.Dict [some (.Constant (.str k1) t1 p1), some (.Constant (.str k2) t2 p2), some (.Constant (.str k3) t3 p3), some (.Constant (.str k4) t4 p4)] [.Constant (.str v1) u1 q1, .Constant (.str v2) u2 q2, .Constant (.str v3) u3 q3, .Constant (.str v4) u4 q4] pos) σ H Q := by
  refine ⟨_, pe_disp (pps_cons pe_str pe_str (pps_cons pe_str pe_str (pps_cons pe_str pe_str (pps_cons pe_str pe_str pps_nil)))) rfl rfl (by simp) (by show 4 ≤ 15; decide), fun p hp => ?_⟩
  refine ⟨upd_same, [(.inr k1, .str v1), (.inr k2, .str v2), (.inr k3, .str v3), (.inr k4, .str v4)], rfl, by show 4 ≤ 15; decide, ?_⟩
  rw [← hk]
  have e : upd (upd H p (.dK [])) p (.dK kvs) = upd H p (.dK kvs) := by
    funext x
    by_cases hx : x = p
    · subst hx
      rw [upd_same, upd_same]
    · rw [upd_ne hx, upd_ne hx, upd_ne hx]
  rw [e]
  exact h p hp
/-- d[e], d a dict of texts in slot i -/
theorem pd_ixD {i : Nat} {x k z : Str} {d : Addr} {kvs : List (Key × V)} {p : Pos} (hu : X.A.units + 1 < cLine) (hd : H d = some (.dK kvs)) (m : ¬ M d) (hb : PD X M b σ H (.str k)) (hv : valV kvs (Sum.inr k) = some (.str z)) (hN : X.N[i]? = some x := by rfl)
    (hvis : Vis X.env.scope x := by first | exact .inl rfl | exact .inr (.inl rfl) | exact .inr (.inr rfl)) (hs : σ[i]? = some (some (.ref d)) := by rfl) (hdb : (x == ("__debug__" : Str)) = false := by decide) (hcd : (x == ("__classdict__" : Str)) = false := by decide) (hsl : NoSl b := by exact fun _ _ => rfl) :
    PD X M (.Subscript (.Name x p) b pos) σ H (.str z) := .mk fun H1 e1 al Q q =>
  ⟨_, pe_dget hu wE.pe wE.pe hsl, ce_nm i (hb.run H1 e1 al _ fun v H2 x2 r => by
    cases r
    have h2 : H2 d = some (.dK kvs) := x2 _ _ (e1 _ _ hd m fun _ z => by cases z)
    exact ⟨d, .str z, rfl, .inl ⟨kvs, .inr k, .inl h2, rfl, hv.symm⟩, q _ H2 x2 (.str z)⟩) hN hvis hs hdb hcd⟩
end
end GV

/-! isinstance of an error with attributes, of one of two classes -/
namespace GV
open PySem PySem.Spec PyProof.Rows L2
theorem call_isEdT {X : Cx} {a D dd : Addr} {oe : Obj} {fs : List (Str × V)} {pn : List (Addr × Obj)} (C : ExcC X.K D) (hz : Zc (.ref D) (some dd) oe) (hf : ∃ vs, oe.data = .fields vs) :
    CallR (X.suite a ((a, oe) :: pn)) (.builtin "isinstance") (fun xs H Q => ∃ (tp c1 c2 : Addr) (b : Bool), xs = [.ref a, .ref tp] ∧ H dd = some (.xd fs) ∧ H tp = some (.tup [.ref c1, .ref c2]) ∧ PySem.W.kitAny X.K (.ref D) [.ref c1, .ref c2] = some b ∧ Q (.bl b) H) := by
  intro pins s σ H xs us Q J r h
  obtain ⟨tp, c1, c2, b, rfl, hdd, htp, e, q⟩ := h
  obtain ⟨u1, u2, rfl, rx, rt⟩ := vals2 r
  cases rx
  cases rt
  have ha := (J.pin (a, oe) (List.mem_append.mpr (.inl (List.mem_cons_self ..)))).1
  obtain ⟨mA, hns, _⟩ := (show ObjOk X.prog X.w H s.heap dd (.xd fs) from J.hok dd _ hdd)
  obtain ⟨od, ho, _⟩ := lookIn_ns hns
  obtain ⟨vs, hv⟩ := hf
  have no : PySem.W.notCls oe = true := by
    unfold PySem.W.notCls
    rw [hv] <;> rfl
  have at_ : PySem.W.InstAt s.heap a oe D (some od) := ⟨ha, hz.1, no, by rw [hz.2]; exact ho⟩
  have hcl : (PySem.W.clsIn X.K D).isSome = true := by
    obtain ⟨cd, hc, _⟩ := PySem.W.any_some C.hd
    rw [hc]
    rfl
  obtain ⟨_, its, rv, o, h1, h2, n, h3⟩ := (show ObjOk X.prog X.w H s.heap tp (.tup [.ref c1, .ref c2]) from J.hok tp _ htp)
  have e3 := ClsV.all (.cons (.own c1) (.cons (.own c2) .nil)) rv
  subst e3
  obtain ⟨oc, od', dt, sl⟩ := o
  simp only at h2 h3
  subst h2 h3
  exact PySem.W.kia_tup (PySem.W.kitx_exc hcl C.hg C.hk C.hs C.ha C.hn C.ht C.hm) J.kIn at_ h1 e (fun z => nomatch z) fun tk => ⟨.bl b, H, J.kept (t' := tk) fun _ _ z => z, rfl, q⟩
end GV

/-! a name of its own for a comprehension over texts -/
namespace GV
open PySem PySem.Spec PyProof.Rows L2
section
variable {X : Cx} {M : Addr → Prop} {σ : St} {H : Hp} {a b e o tg iter tst : Expr} {pos : Pos}
/-- y = [elt for x in a list of texts if test] -/
theorem s_filterS {i j : Nat} {y : Str} {py spos : Pos} {D : Ends} {elt : Expr} {scope : Scope} {own : List (Str × Nat)} {l : List Str} (p : Str → Bool) (g : Str → PyData) (al : Alive M H) (hc : X.calm = true) (hN : X.N.Nodup) (hy : X.N[j]? = some y) (hyl : X.env.scope.names.lookup y = some .local) (hi : PD X M iter σ H (.list (l.map PyData.str))) (ok : BlkOk X.N X.env.scope scope own)
    (hg : ∀ s H C cl fp, PG (Cx.lc X s H scope C cl fp) tg (gName i)) (hl : l.length ≤ 100000)
    (body : ∀ s0 H0 C cl fp M' H' y, (∀ a, M a → M' a) → (∀ v e, Rp X.K M H v e → Rp X.K M' H' v e) → y ∈ l →
      TD (Cx.lc X s0 H0 scope C cl fp) M' tst ((wipe σ (own.map (·.2))).set i (some (.str y))) H' (p y) ∧ PD (Cx.lc X s0 H0 scope C cl fp) M' elt ((wipe σ (own.map (·.2))).set i (some (.str y))) H' (g y))
    (q : ∀ l' ws H2, H l' = none → Evl.Ex H H2 → H2 l' = some (.lst ws) → RpAll X.K M H2 ws ((l.filter p).map g) → D.nx (σ.set j (some (.ref l'))) H2)
    (hsw : swapsWith (.ListComp elt [⟨tg, iter, [tst], 0⟩] scope pos) (some (.Name y py)) spos.line X.env = pure true := by rfl) (hw : ∀ v, wipe ((wipe σ (own.map (·.2))).set i v) (own.map (·.2)) = wipe σ (own.map (·.2)) := by intro _; rfl) (hs : ∀ x, foldedSetIterable iter X.env x = pure x := by intro _; rfl) :
    wS X (.Assign [.Name y py] (.ListComp elt [⟨tg, iter, [tst], 0⟩] scope pos) spos) D σ H := by
  refine s_setLc (t := .one i) hc hN (src_list hi) ok hg (fun _ _ => trivial) ?_ (strP p) (strF g) (by rw [List.length_map]; exact hl) ?_ al hy hyl hsw (fun l' ws H2 h1 h2 h3 h4 => q l' ws H2 h1 h2 h3 (by rw [← strs_filter p g l]; exact h4)) hs
  · rintro M H d σ' ⟨v, _, rfl⟩
    exact hw _
  · rintro s0 H0 C cl fp M' H' d σ' hM lift hd ⟨v, rv, rfl⟩
    obtain ⟨y, hy, rfl⟩ := List.mem_map.mp hd
    cases rv
    obtain ⟨h1, h2⟩ := body s0 H0 C cl fp M' H' y hM lift hy
    exact ⟨tsd_one h1, fun _ => h2⟩
end
end GV

/-! defs that are told what reprs are under way: the guards of the frame, whatever they are -/
namespace GV
open PySem PySem.Spec PyProof.Rows L2
/-- what holds whatever is under way -/
theorem codeAny_G {M : Model} {A : Around} {c : Code} {R : Result → Shared → Prop} {s : Shared} (h : ∀ G, codeAny M { A with guards := some G } c R s) : codeAny M A c R s :=
  fun Γ p hc hb => h (guardsOf Γ.below) Γ p hc ⟨hb.1, hb.2.1, hb.2.2.1, fun g e => Option.some.inj e, hb.2.2.2.2⟩
/-- a def that is told what is under way -/
structure FnG (G : List Code) (P : Program) (w : World) (K : PySem.W.Frag) (mg : Str → Option Value) (base : Heap) (CX : CXT) (k : Nat) (f : Addr) (fd : FuncData) (ps : List Str) (sp : Sp) : Prop where
  len : ∀ vs H Q E, sp vs H Q E → vs.length = ps.length
  run : ∀ (A : Around) (outer : List Env) (s : Shared) (H : Hp) (args : Args) (us : List Value) (vs : List V) (Q : VK) (E : XK), A.guards = some G → Room k A → Env0 P w K mg base A outer s H → BindsTo s fd args (ps.zip us) → Vals vs us → sp vs H Q E →
    codeAny (model P w) A (.call (.ref f) args) (CR CX outer P w H s Q E) s
section
variable {P : Program} {w : World} {K : PySem.W.Frag} {mg : Str → Option Value} {base : Heap}
theorem fnOk_ofG {CX : CXT} {k : Nat} {f : Addr} {fd : FuncData} {ps : List Str} {sp : Sp} (h : ∀ G, FnG G P w K mg base CX k f fd ps sp) : FnOk P w K mg base CX k f fd ps sp :=
  ⟨(h []).len, fun A outer s H args us vs Q E hr e0 hb hv hs => codeAny_G fun G => (h G).run { A with guards := some G } outer s H args us vs Q E rfl ⟨hr.hd, hr.dp, hr.un⟩ ⟨e0.frames, e0.mod, e0.bs, e0.bsz, e0.funs, e0.frf, e0.hok, e0.bare⟩ hb hv hs⟩
theorem fn_ofG {G : List Code} {CX : CXT} {k : Nat} {f : Addr} {name qual : Str} {params : Arguments} {rows : List Stmt} {scope : Scope} {dV kV doc pm cdv ct oc : Value} {an od : Option Addr} {osl : Array (Option Value)} {N ps : List Str} {sp : Sp}
    (lk : K.lookup f = some ⟨oc, od, .func (PySem.W.fnOf name qual params rows scope dV kV doc pm an cdv ct), osl⟩) (hcd : PySem.W.codeIn K cdv qual = true) (S : FnScope N ps scope) (len : ∀ vs H Q E, sp vs H Q E → vs.length = ps.length)
    (body : ∀ (A : Around) (outer : List Env) (s : Shared) (H : Hp) (vs : List V) (Q : VK) (E : XK), A.guards = some G → Room k (A.deeper (envOfC qual scope s.heap.objs.size f cdv)) → sp vs H Q E →
      ∃ t, PSs (cxOf CX P w K mg base N qual scope f cdv A outer s H E) rows t ∧ t { nx := fun _ H' => Q .non H', rt := Q } (L2.start N vs) H) : FnG G P w K mg base CX (k + 1) f (PySem.W.fnOf name qual params rows scope dV kV doc pm an cdv ct) ps sp := by
  refine ⟨len, fun A outer s H args us vs Q E hG room env bind vals promise => ?_⟩
  have kept : ∀ b o, base.get? b = some o → s.heap.get? b = some o := fun b o z => (env.bs b o z).1
  have inK : K.In s.heap := env.mod.kin.keeps kept
  have sorts : ∀ y ∈ ps.zip us, scope.names.lookup y.1 = some .local ∨ (scope.names.lookup y.1 = some .cell ∧ ((cellsFrom (s.heap.objs.size + 1) scope.names []).lookup y.1).isSome = true) := by
    rintro ⟨n, v⟩ hy
    cases S.par n (List.of_mem_zip hy).1 with
    | inl z => exact .inl z
    | inr z => exact .inr ⟨z, PySem.W.cellsFrom_some _ _ _ (.inl z)⟩
  refine codeAny_call_function room.depth (inK _ _ lk) rfl S.co S.gen rfl (PySem.W.codeRec_of inK hcd) (bind _ _ _ _ ?_)
  refine wpAny_newFunctionEnv_cells S.kind sorts fun en e1 s1 made => ?_
  subst e1
  refine ⟨(env.mod.nolimit.keeps kept).keeps made.toInCall.keep, codeAny_func ?_⟩
  obtain ⟨t, reads, holds⟩ := body A outer s H vs Q E hG (room.deeper _) promise
  refine wpAny_mono (reads.run [] s1 (L2.start N vs) H _ (inv_start S room.hd env (len _ _ _ _ promise) vals made) holds) (fun fl s2 got => ?_) fun _ _ z => z
  cases fl with
  | ret u =>
    obtain ⟨v, τ, H2, J, rv, q⟩ := got
    exact ⟨v, H2, J.os, J.bare, J.base, J.hok, rv, q⟩
  | next =>
    obtain ⟨τ, H2, J, q⟩ := got
    exact ⟨V.non, H2, J.os, J.bare, J.base, J.hok, rfl, q⟩
  | brk =>
    obtain ⟨_, _, _, no⟩ := got
    exact no.elim
  | cont =>
    obtain ⟨_, _, _, no⟩ := got
    exact no.elim
theorem okG {G : List Code} {x qual : Str} {st : Stmt} {f : Addr} {fd : FuncData} {N ps : List Str} {k : Nat} {sp : Sp} (F : Fun K x qual st f fd) (S : FnScope N ps (defScope st)) (len : ∀ vs H Q E, sp vs H Q E → vs.length = ps.length)
    (body : ∀ (cdv : Value) (A : Around) (outer : List Env) (s : Shared) (H : Hp) (vs : List V) (Q : VK) (E : XK), A.guards = some G → Room k (A.deeper (envOfC qual (defScope st) s.heap.objs.size f cdv)) → sp vs H Q E →
      wB (cxOf CX0 P w K mg base N qual (defScope st) f cdv A outer s H E).nox (defBody st) { nx := fun _ H' => Q .non H', rt := Q } (L2.start N vs) H) : FnG G P w K mg base CX0 (k + 1) f fd ps sp := by
  obtain ⟨oc, od, kV, doc, pm, an, cdv, ct, osl, rfl, lk, hcd⟩ := F.ex
  exact fn_ofG lk hcd S len fun A outer s H vs Q E hG hr hs => ⟨_, PSs.nox wB.ps, body cdv A outer s H vs Q E hG hr hs⟩
structure ClG (G : List Code) (P : Program) (w : World) (K : PySem.W.Frag) (mg : Str → Option Value) (base : Heap) (k : Nat) (x : Str) (sp : Sp) : Prop where
  ex : ∃ (f : Addr) (fd : FuncData) (ps : List Str), FnG G P w K mg base CX0 k f fd ps sp ∧ mg x = some (.ref f) ∧ PySem.W.keepIn K (.ref f) = true ∧ Binds K fd ps []
end
section
variable {X : Cx} {σ : St} {H : Hp} {e : Expr} {es : List Expr} {pos : Pos}
theorem ce_callG {G : List Code} {sp : Sp} {Q : VK} {j k : Nat} {x : Str} {p : Pos} (cl : ClG G X.prog X.w X.K X.mg X.base k x sp) (hG : X.A.guards = some G) (hr : Room j X.A) (hkj : k ≤ j) (hg : Gl X x) (h : wA X (e :: es) σ H fun vs H2 => sp vs H2 Q E0)
    (hdb : (x == ("__debug__" : Str)) = false := by decide) (he : starEach (e :: es) X.env = (false, eval e X.env) :: starEach es X.env := by rfl) (hpl : (backTo pos (starEach es X.env)).any (·.1) = false := by rfl) : wE X (.Call (.Name x p) (e :: es) [] pos) σ H Q := by
  obtain ⟨f, fd, ps, F, hm, hk, hb⟩ := cl.ex
  refine ⟨fun σ H Q => wA X (e :: es) σ H fun vs H2 => sp vs H2 Q E0, ⟨fun pins s σ H Q I h => ?_⟩, h⟩
  refine wpAny_Call_Name_kw (ld_glob I hg hm ?_ hdb)
  refine PySem.W.callWith_K (h₀ := X.base) I.ok.mod.kin hk (thn (wA.pa.run pos pins s σ H _ I h) fun us s2 ⟨vs, H2, I2, rv, q2⟩ => ⟨I2.kIn, ?_⟩) he hpl
  have same : us.length = ps.length := rv.length.symm.trans (F.len _ _ _ _ q2)
  have bt := hb s2 us I2.kIn (by rw [List.append_nil]; exact same)
  rw [List.append_nil] at bt
  refine wpAny_call (codeAny_mono (F.run X.A X.stack s2 H2 ⟨us, []⟩ us vs Q E0 hG (hr.mono hkj) I2.env0 bt rv q2) fun r s' got => ?_)
  cases r with
  | error _ => exact got.elim
  | ok fl =>
    cases fl with
    | ret u => exact I2.after got
    | next => exact False.elim got
    | brk => exact False.elim got
    | cont => exact False.elim got
end
end GV

/-! repr of lists, tuples, dicts, whatever is under way -/
namespace PySem
open Sem
/-- list.__repr__'s question -/
def gvLstWay (self : Value) : Code × Pos → Bool := fun
  | (.builtin "list.__repr__.loop" ⟨v :: _, _⟩, _) => Builtin.List.listSameRef v self
  | _ => false
theorem gvLstWay_pos (self : Value) (c : Code) (p : Pos) : gvLstWay self (c, p) = gvLstWay self (c, default) := by
  unfold gvLstWay
  split
  · next v rest kw q heq =>
    cases heq
    rfl
  · next hne =>
    split
    · next v rest kw q heq =>
      cases heq
      exact (hne _ _ _ _ rfl).elim
    · rfl
theorem gvLstWay_off (self : Value) (c : Code) (p : Pos) (hc : c.isGuard = false) : gvLstWay self (c, p) = false := by
  unfold gvLstWay
  split
  · next v rest kw _ heq =>
    cases heq
    simp [Code.isGuard, guardIds] at hc
  · rfl
section
variable {prog : Program} {w : World} {A : Around} {E : Value → Shared → Prop} {s : Shared} {a : Addr} {o : Obj} {n : Nat} {g : List Code}
theorem gv_lst_own {M : Model} {c : Code} {x : Value} {l : List Value} {Q : Fin → Shared → Prop} (hg : A.guards = some g) (ha : s.heap.get? a = some o) (hd : o.data = .seq (x :: l).toArray n) (hw : (g.any fun c => gvLstWay (.ref a) (c, default)) = true)
    (h : Q (.done (.ret (.str "[...]" s.toks))) { s with toks := s.toks + 1 }) : wpOwn M A c (Builtin.listReprAt 0 ⟨[.ref a], []⟩) Q E s := by
  intro Γ p hc hΓ
  have hb : Γ.below.any (gvLstWay (.ref a)) = true := by
    rw [any_eq_guards (gvLstWay_off _) (gvLstWay_pos _), hΓ.2.2.2.1 g hg]
    exact hw
  unfold Builtin.listReprAt
  simp [slotArgs, Builtin.List.listItems, seqItems?, wp_load_of (h := ha), hd, stack]
  show wp M Γ (if Γ.below.any (gvLstWay (.ref a)) = true then _ else _) _ _ p s
  rw [if_pos hb]
  simp [rule, retStr, ret]
  exact h
/-- repr of a list of one text -/
theorem gv_repr_lst {x : Str} {t : Tok} {Q : Value → Shared → Prop} (hu : A.units + 1 < cLine) (hg : A.guards = some g) (ha : s.heap.get? a = some o) (hc : o.cls = .type "list") (hd : o.data = .seq [Value.str x t].toArray n) (hz : (listText [reprText x]).length ≤ sizeLine) (hz1 : (reprText x).length ≤ sizeLine)
    (h : ∀ h' u tk, (∀ b o, s.heap.get? b = some o → h'.get? b = some o) → Q (.str (if (g.any fun c => gvLstWay (.ref a) (c, default)) = true then "[...]" else listText [reprText x]) u) { s with heap := h', toks := tk }) : wpAny (model prog w) A (call (.builtin "repr") [.ref a]) Q E s := by
  have hTy : s.TypeIs (.ref a) "list" := ⟨o, ha, hc⟩
  refine call_repr_slot hu hTy F.slot_list_repr.toG ?_
  by_cases hw : (g.any fun c => gvLstWay (.ref a) (c, default)) = true
  · refine wpAny_call (codeAny_call_builtin_own (Code.quiet_builtin _ (by decide +kernel)) F.entry_list_repr (F.slot_list_repr.check _ _ _ _ _ _ _ _ hTy (F.args_list_repr_1 _) (gv_lst_own (A := A.in1) hg ha hd hw ⟨_, _, rfl, ?_⟩)))
    have := h s.heap s.toks (s.toks + 1) fun b o z => z
    rw [if_pos hw] at this
    exact this
  · refine call_list_repr (ts := [reprText x]) hTy hg (fun v rest kw hm => ?_) ha hd rfl (fun i y hy => ?_) (fun h' u tk hk => ⟨_, _, rfl, ?_⟩) hz
    · cases hv : Builtin.List.listSameRef v (.ref a) with
      | false => rfl
      | true => exact absurd (List.any_eq_true.mpr ⟨_, hm, hv⟩) hw
    · match i, hy with
      | 0, hy =>
        cases hy
        exact ⟨_, rfl, ReprIs.str x t hz1⟩
    · have := h h' u tk hk
      rw [if_neg hw] at this
      exact this
/-- repr of a tuple of one text -/
theorem gv_repr_tup {x : Str} {t : Tok} {Q : Value → Shared → Prop} (hu : A.units + 1 < cLine) (hg : A.guards = some g) (ha : s.heap.get? a = some o) (hc : o.cls = .type "tuple") (hd : o.data = .seq [Value.str x t].toArray n) (hz : (tupleText [reprText x]).length ≤ sizeLine) (hz1 : (reprText x).length ≤ sizeLine)
    (h : ∀ u tk, Q (.str (if (g.any fun c => tupGuardF (.ref a) (c, default)) = true then "(...)" else tupleText [reprText x]) u) { s with toks := tk }) : wpAny (model prog w) A (call (.builtin "repr") [.ref a]) Q E s := by
  have hTy : s.TypeIs (.ref a) "tuple" := ⟨o, ha, hc⟩
  refine call_repr_slot hu hTy F.slot_tuple_repr ?_
  by_cases hw : (g.any fun c => tupGuardF (.ref a) (c, default)) = true
  · refine wpAny_call (codeAny_call_builtin_own (Code.quiet_builtin _ (by decide +kernel)) F.entry_tuple_repr (F.slot_tuple_repr.check _ _ _ _ _ _ _ _ hTy (F.args_tuple_repr_1 _) ?_))
    show wpOwn _ _ _ (Builtin.tupleReprAt 0 ⟨[.ref a], []⟩) _ _ s
    rw [tuple_repr_tree, tupleReprUnderWay_eq]
    refine wpOwn_bind (wpOwn_stackTailAny (A := A.in1) hg (tupGuardF_off _) (tupGuardF_pos _) ?_)
    rw [hw]
    refine wpOwn_of_wpAny (PySem.W.KFB.if_so rfl ?_)
    refine wpAny_bind (wpAny_rule (wpAny_bind (wpAny_mkStr (wpAny_pure ⟨_, _, rfl, ?_⟩) (by decide +kernel))))
    have := h s.toks (s.toks + 1)
    rw [if_pos hw] at this
    exact this
  · refine call_tuple_repr (ts := [reprText x]) hTy hg (fun c hm => ?_) ha hd (.cons (ReprIs.str x t hz1) .nil) (fun u tk => ⟨_, _, rfl, ?_⟩) hz
    · cases hv : tupGuardF (.ref a) (c, default) with
      | false => rfl
      | true => exact absurd (List.any_eq_true.mpr ⟨c, hm, hv⟩) hw
    · have := h u tk
      rw [if_neg hw] at this
      exact this
/-- repr of an empty dict -/
theorem gv_repr_dict0 {Q : Value → Shared → Prop} (hu : A.units + 2 < cLine) (hg : A.guards = some g) (ha : s.heap.get? a = some o) (hc : o.cls = .type "dict") (hd : o.data = .dict #[] n) (hs : (a == sysModules) = false)
    (h : ∀ u tk, Q (.str (if (g.any fun c => dictGuardF (.ref a) (c, default)) = true then "{...}" else "{}") u) { s with toks := tk }) : wpAny (model prog w) A (call (.builtin "repr") [.ref a]) Q E s := by
  have hTy : s.TypeIs (.ref a) "dict" := ⟨o, ha, hc⟩
  refine call_repr_slot (by omega) hTy F.slot_dict_repr ?_
  refine wpAny_call (codeAny_call_builtin_own (Code.quiet_builtin _ (by decide +kernel)) F.entry_dict_repr (F.slot_dict_repr.check _ _ _ _ _ _ _ _ hTy (F.args_dict_repr_1 _) ?_))
  show wpOwn _ _ _ (Builtin.dictReprAt 0 ⟨[.ref a], []⟩) _ _ s
  unfold Builtin.dictReprAt
  refine wpOwn_bind (wpOwn_of_wpAny ?_)
  unfold Builtin.Dict.dictSlotNone
  refine wpAny_bind (wpAny_notOrdered_dict hTy ?_)
  show wpAny _ _ (Pure.pure (Value.ref a)) _ _ s
  refine wpAny_pure ?_
  rw [dictReprRunning_eq]
  refine wpOwn_bind (wpOwn_stackTailAny (A := A.in1) hg (dictGuardF_off _) (dictGuardF_pos _) ?_)
  by_cases hw : (g.any fun c => dictGuardF (.ref a) (c, default)) = true
  · rw [hw]
    refine wpOwn_of_wpAny (PySem.W.KFB.if_so rfl ?_)
    refine wpAny_bind (wpAny_rule (wpAny_bind (wpAny_mkStr (wpAny_pure ⟨_, _, rfl, ?_⟩) (by decide +kernel))))
    have := h s.toks (s.toks + 1)
    rw [if_pos hw] at this
    exact this
  · rw [Bool.eq_false_iff.mpr hw]
    refine wpOwn_of_wpAny (PySem.W.KFB.if_not rfl ?_)
    refine wpAny_bind (m := Builtin.Dict.addrOf (.ref a)) (wpAny_pure ?_)
    refine wpAny_bind (m := Builtin.Dict.showsAll a) ?_
    unfold Builtin.Dict.showsAll
    rw [if_neg (by rw [hs]; exact Bool.false_ne_true)]
    refine wpAny_pure (wpAny_bind (wpAny_dictEpoch ha hd (wpAny_bind (wpAny_dictEntries ha hd (wpAny_bind ?_)))))
    rw [Std.Legacy.Range.forIn_eq_forIn_range']
    refine wpAny_pure (wpAny_bind (wpAny_mkStr (wpAny_pure ⟨_, _, rfl, ?_⟩) (by decide +kernel)))
    have := h s.toks (s.toks + 1)
    rw [if_neg hw] at this
    exact this
end
end PySem

namespace GV
open PySem PySem.Spec PyProof.Rows L2
/-- what repr of a plain value gives where G is under way -/
inductive RepG (G : List Code) (H : Hp) : V → Str → Prop
  | non : RepG G H .non "None"
  | bl (b : Bool) : RepG G H (.bl b) (if b then ("True" : Str) else ("False" : Str))
  | int {i : Int} (h : i.natAbs.log2 < 1920) : RepG G H (.int i) (toString i)
  | str {x : Str} (h : (reprText x).length ≤ sizeLine) : RepG G H (.str x) (reprText x)
  | lst {a : Addr} {x : Str} (e : H a = some (.lst [.str x])) (h : (reprText x).length ≤ sizeLine) (h2 : (listText [reprText x]).length ≤ sizeLine) : RepG G H (.ref a) (if (G.any fun c => gvLstWay (.ref a) (c, default)) = true then "[...]" else listText [reprText x])
  | tup {a : Addr} {x : Str} (e : H a = some (.tup [.str x])) (h : (reprText x).length ≤ sizeLine) (h2 : (tupleText [reprText x]).length ≤ sizeLine) : RepG G H (.ref a) (if (G.any fun c => tupGuardF (.ref a) (c, default)) = true then "(...)" else tupleText [reprText x])
  | dict {a : Addr} (e : H a = some (.dK [])) : RepG G H (.ref a) (if (G.any fun c => dictGuardF (.ref a) (c, default)) = true then "{...}" else "{}")
theorem RepG.ext {G : List Code} {H H' : Hp} {v : V} {T : Str} (r : RepG G H v T) (x : Evl.Ex H H') : RepG G H' v T := by
  cases r with
  | non => exact .non
  | bl b => exact .bl b
  | int h => exact .int h
  | str h => exact .str h
  | lst e h h2 => exact .lst (x _ _ e) h h2
  | tup e h h2 => exact .tup (x _ _ e) h h2
  | dict e => exact .dict (x _ _ e)
section
variable {X : Cx} {σ : St} {H : Hp} {e : Expr} {pos : Pos}
theorem call_reprG {G : List Code} (hG : X.A.guards = some G) (hu : X.A.units + 2 < cLine) : CallR X (.builtin "repr") (fun xs H Q => ∃ v T, xs = [v] ∧ RepG G H v T ∧ Q (.str T) H) := by
  intro pins s σ H xs us Q I r h
  obtain ⟨v, T, rfl, rp, q⟩ := h
  cases r with
  | cons rv rt =>
    cases rt
    cases rp with
    | non =>
      cases rv
      exact P.repr_of_none ⟨.str _, H, I.tok _, ⟨_, rfl⟩, q⟩
    | bl b =>
      cases rv
      exact P.repr_of_bool ⟨.str _, H, I.tok _, ⟨_, rfl⟩, q⟩
    | int hi =>
      obtain ⟨t, rfl⟩ := rv
      exact P.repr_of_int hi ⟨.str _, H, I.tok _, ⟨_, rfl⟩, q⟩
    | str hx =>
      obtain ⟨t, rfl⟩ := rv
      exact P.repr_of_str ⟨.str _, H, I.tok _, ⟨_, rfl⟩, q⟩ hx
    | lst e h1 h2 =>
      rename_i u a x
      cases (show u = Value.ref a from rv)
      obtain ⟨_, its, n, rw1, e2⟩ := I.hok a _ e
      cases rw1 with
      | cons rx rn =>
        cases rn
        obtain ⟨t, rfl⟩ := rx
        exact gv_repr_lst (by omega) hG e2 rfl rfl h2 h1 fun h' u tk hk => ⟨.str _, H, I.kept hk, ⟨_, rfl⟩, q⟩
    | tup e h1 h2 =>
      rename_i u a x
      cases (show u = Value.ref a from rv)
      obtain ⟨_, its, rw1, o, e2, hc, n, hd⟩ := I.hok a _ e
      cases rw1 with
      | cons rx rn =>
        cases rn
        obtain ⟨t, rfl⟩ := rx
        exact gv_repr_tup (by omega) hG e2 hc hd h2 h1 fun u tk => ⟨.str _, H, I.tok _, ⟨_, rfl⟩, q⟩
    | dict e =>
      rename_i u a
      cases (show u = Value.ref a from rv)
      obtain ⟨_, hs, vs, kv, o, es, ep, e2, hx, hd, _, hp, _⟩ := I.hok a _ e
      cases kv
      obtain ⟨l⟩ := es
      cases hp
      exact gv_repr_dict0 hu hG e2 hx.1 hd hs fun u tk => ⟨.str _, H, I.tok _, ⟨_, rfl⟩, q⟩
/-- repr(e) -/
theorem ce_repr {G : List Code} {p : Pos} {Q : VK} (hG : X.A.guards = some G) (hu : X.A.units + 2 < cLine) (hg : Gl X "repr") (hm : X.mg "repr" = none) (h : wE X e σ H fun v H1 => ∃ T, RepG G H1 v T ∧ Q (.str T) H1)
    (hs : starEach (e :: []) X.env = (false, eval e X.env) :: starEach [] X.env := by rfl) (hpl : (backTo pos (starEach [] X.env)).any (·.1) = false := by rfl) : wE X (.Call (.Name "repr" p) [e] [] pos) σ H Q :=
  ⟨_, pe_callB (call_reprG hG hu) hg hm (by decide +kernel) wA.pa (by decide) (by decide) hs hpl, ca_cons (wE.weak h fun v H1 ⟨T, r, q⟩ => ca_nil ⟨v, T, rfl, r, q⟩) hs⟩
end
end GV

namespace GV
open PySem PySem.Spec PyProof.Rows L2
section
variable {X : Cx} {σ : St} {H : Hp} {a b : Expr} {pos : Pos}
theorem cw_or1 {Q : Bool → Hp → Prop} (h : wT X a σ H Q) : wW X (.BoolOp .Or [a] pos) σ H Q := ⟨_, pw_or1 wT.pt, h⟩
theorem cw_or {rest : List Expr} {Q : Bool → Hp → Prop} (h : wT X a σ H fun k H2 => (k = false → wW X (.BoolOp .Or (b :: rest) pos) σ H2 Q) ∧ (k = true → Q true H2)) : wW X (.BoolOp .Or (a :: b :: rest) pos) σ H Q :=
  ⟨_, pw_or wT.pt wW.pw, wT.weak h fun k H2 ⟨h1, h2⟩ => by
    cases k with
    | false => exact h1 rfl
    | true => exact h2 rfl⟩
theorem ce_intC {i : Int} {j} {Q : VK} (q : Q (.int i) H) : wE X (.Constant (.int i) j pos) σ H Q := ⟨_, pe_int, q⟩
theorem ce_blC {k : Bool} {j} {Q : VK} (q : Q (.bl k) H) : wE X (.Constant (.bool k) j pos) σ H Q := ⟨_, pe_bl, q⟩
theorem ce_nonC {j} {Q : VK} (q : Q .non H) : wE X (.Constant .none j pos) σ H Q := ⟨_, pe_non, q⟩
end
end GV

/-! objects: a static method, a class method, a class held by a name; own repr, str, in; own == against a built-in type -/
namespace GV
open PySem PySem.Spec PyProof.Rows L2
section
variable {X : Cx} {M : Addr → Prop} {σ : St} {H : Hp} {a b e o : Expr} {es : List Expr} {pos : Pos}
/-- a static method of the class at C -/
structure StatS (P : Program) (w : World) (K : PySem.W.Frag) (mg : Str → Option Value) (base : Heap) (C : Addr) (m : Str) (k : Nat) (sp : Sp) : Prop where
  ex : ∃ (f : Addr) (fd : FuncData) (ps : List Str) (p : Addr) (mc : Value) (rest : List Value), ClX.CRead K C mc ∧ PySem.W.findCls K (.ref C) mc m = some (.get (.builtin "staticmethod.__get__") (.ref p) .none (.ref C)) ∧ PySem.W.recIn K p "staticmethod" = some (.ref f :: rest) ∧ PySem.W.keepIn K (.ref f) = true ∧
    FnOk P w K mg base CX0 k f fd ps sp ∧ Binds K fd ps []
/-- C.m() -/
theorem ce_stat0 {C : Addr} {m x : Str} {k j : Nat} {sp : Sp} {Q : VK} {p apos : Pos} {pl : Sem Bool} (t : StatS X.prog X.w X.K X.mg X.base C m k sp) (hr : Room j X.A) (hkj : k ≤ j) (hg : Gl X x) (hm : X.mg x = some (.ref C)) (h : sp [] H Q E0) (hdb : (x == ("__debug__" : Str)) = false := by decide)
    (hev : eval (.Call (.Attribute (.Name x p) m apos) [] [] pos) X.env = (do
      let ov ← eval (.Name x p) X.env
      standAt apos.atName
      let (f, first) ← holding [ov] (getMethod ov m pl)
      callWith pos f first (backTo pos (starEach [] X.env)) (backToKw pos (keywordEach [] X.env))) := by rfl) : wE X (.Call (.Attribute (.Name x p) m apos) [] [] pos) σ H Q := by
  obtain ⟨f, fd, ps, q, mc, rest, r, fc, hp, hk, F, hb⟩ := t.ex
  refine ⟨fun σ H Q => sp [] H Q E0, ⟨fun pins s σ H Q I h => ?_⟩, h⟩
  refine PySem.W.methodCall_KW (pl := pl) (ld_glob I hg hm ?_ hdb) hev
  refine PySem.W.method_cls I.kIn r.ga (PySem.W.cls_bind I.kIn r.rd fc (wpAny_call (PySem.W.sm_get (s := { s with toks := s.toks + 1 }) (I.tok _).kIn hp (PySem.W.handed_on rfl ?_))))
  exact PySem.W.callWith_K0 (first := []) (I.tok _).kIn hk (run_fn (us := []) F (hr.mono hkj) hb .nil pass0 (I.tok _) .nil h)
/-- a class method of the class at C -/
structure ClsS (P : Program) (w : World) (K : PySem.W.Frag) (mg : Str → Option Value) (base : Heap) (CX : CXT) (C : Addr) (m : Str) (k : Nat) (sp : Sp) : Prop where
  ex : ∃ (f : Addr) (fd : FuncData) (ps : List Str) (p : Addr) (mc : Value), ClX.CRead K C mc ∧ ClX.CMet K C mc m p f ∧ FnOk P w K mg base CX k f fd ps sp ∧ Binds K fd ps []
/-- C.m(e, ..), that may raise -/
theorem ce_clsX {C : Addr} {m x : Str} {k j : Nat} {CX : CXT} {sp : Sp} {W : WX} {Q : VK} {p apos : Pos} {pl : Sem Bool} (t : ClsS X.prog X.w X.K X.mg X.base CX C m k sp) (hr : Room j X.A) (hkj : k ≤ j) (hx : ∀ σ, PassesAt CX X σ (WE W σ)) (hg : Gl X x) (hm : X.mg x = some (.ref C))
    (h : wA X (e :: es) σ H fun vs H2 => sp (.ref C :: vs) H2 Q fun cls d H' => W cls d σ H') (hdb : (x == ("__debug__" : Str)) = false := by decide)
    (he : starEach (e :: es) X.env = (false, eval e X.env) :: starEach es X.env := by rfl) (hpl : (backTo pos (starEach es X.env)).any (·.1) = false := by rfl)
    (hev : eval (.Call (.Attribute (.Name x p) m apos) (e :: es) [] pos) X.env = (do
      let ov ← eval (.Name x p) X.env
      standAt apos.atName
      let (f, first) ← holding [ov] (getMethod ov m pl)
      callWith pos f first (backTo pos (starEach (e :: es) X.env)) (backToKw pos (keywordEach [] X.env))) := by rfl) : wE X (.Call (.Attribute (.Name x p) m apos) (e :: es) [] pos) σ H Q := by
  obtain ⟨f, fd, ps, q, mc, r, c, F, hb⟩ := t.ex
  refine ⟨fun σ H Q => wA X (e :: es) σ H fun vs H2 => sp (.ref C :: vs) H2 Q fun cls d H' => W cls d σ H', ⟨fun pins s σ H Q I h => ?_⟩, h⟩
  refine PySem.W.methodCall_KW (pl := pl) (ld_glob I hg hm ?_ hdb) hev
  refine ClX.getmethcm_ok I r c fun s2 I2 => ?_
  refine ClX.callwith_cm I2 (ClX.base_none I (Nat.le_refl _)) c.fi (thn (wA.pa.run pos _ s2 σ H _ I2 h) fun us s3 ⟨vs, H3, I3, rv, q3⟩ => ⟨⟨ClX.pin_at I3, I3.kIn⟩, ?_⟩) he hpl
  have rv2 : Vals (V.ref C :: vs) (Value.ref C :: us) := .cons rfl rv
  have hl : (Value.ref C :: us).length = ps.length := rv2.length.symm.trans (F.len _ _ _ _ q3)
  have bt := hb s3 (Value.ref C :: us) I3.kIn (by rw [List.append_nil]; exact hl)
  rw [List.append_nil] at bt
  have ran : wpAny (model X.prog X.w) X.A (call (.ref s.heap.objs.size) us) (EP X ((s.heap.objs.size, PySem.W.methodObj (.ref f) (.ref C)) :: pins) σ Q) X.xe s3 := by
    refine wpAny_call (PySem.W.method_call (ClX.pin_at I3) (codeAny_mono (F.run X.A X.stack s3 H3 ⟨Value.ref C :: us, []⟩ (Value.ref C :: us) (V.ref C :: vs) Q _ (hr.mono hkj) I3.env0 bt rv2 q3) fun r s' got => ?_))
    cases r with
    | error z => exact hx σ _ H3 s3 z s' I3 got
    | ok fl =>
      cases fl with
      | ret u => exact I3.after got
      | next => exact False.elim got
      | brk => exact False.elim got
      | cont => exact False.elim got
  exact thn ran fun _ _ y => ClX.unpinE y
/-- x(e, ..), x a name that holds the class at C -/
theorem ce_makeN {C f : Addr} {fd : FuncData} {ps : List Str} {x : Str} {k j : Nat} {CX : CXT} {sp : Sp} {E : XK} {Q : VK} {p : Pos} (Mk_ : Mk X.K C f) (F : FnOk X.prog X.w X.K X.mg X.base CX k f fd ps sp) (hr : Room j X.A) (hkj : k + 1 ≤ j) (hb : Binds X.K fd ps []) (hx : Passes CX X E)
    (h : wE X (.Name x p) σ H fun v H1 => v = .ref C ∧ wA X (e :: es) σ H1 fun vs H2 => ∀ x dx, H2 x = none → H2 dx = none → dx ≠ x → sp (.ref x :: vs) (upd (upd H2 dx (.own x)) x (.ins C dx [])) (fun v H3 => v = .non ∧ Q (.ref x) H3) E)
    (he : starEach (e :: es) X.env = (false, eval e X.env) :: starEach es X.env := by rfl) (hpl : (backTo pos (starEach es X.env)).any (·.1) = false := by rfl) : wE X (.Call (.Name x p) (e :: es) [] pos) σ H Q := by
  refine ⟨fun σ H Q => wE X (.Name x p) σ H fun v H1 => v = .ref C ∧ wA X (e :: es) σ H1 fun vs H2 => ∀ x dx, H2 x = none → H2 dx = none → dx ≠ x → sp (.ref x :: vs) (upd (upd H2 dx (.own x)) x (.ins C dx [])) (fun v H3 => v = .non ∧ Q (.ref x) H3) E, ⟨fun pins s σ H Q I h => ?_⟩, h⟩
  refine wpAny_Call_Name_kw (thn (wE.pe.run pins s σ H _ I h) fun u s1 ⟨v, H1, I1, rx, ev, q⟩ => ?_)
  subst ev
  cases (show u = Value.ref C from rx)
  refine PySem.W.callWith_K (h₀ := X.base) I1.ok.mod.kin Mk_.kp (thn (wA.pa.run pos pins s1 σ H1 _ I1 q) fun us s2 ⟨vs, H2, I2, rv, q2⟩ => ⟨I2.kIn, ?_⟩) he hpl
  exact run_make Mk_ F (hr.mono hkj) hb .nil hx I2 rv (by simp only [List.append_nil]; exact q2)
theorem strBack {Q : Value → Shared → Prop} {m : Str} {u : Value} {s : Shared} (r : RelV (.str m) u) (q : Q u s) : PySem.W.StrBack Q u s := by
  obtain ⟨t, rfl⟩ := r
  exact q
/-- repr(o) of an object, by the class's own -/
theorem call_ownRepr {sp : Sp} {j k : Nat} {C : Addr} {ps : List Str} (mt : MethS X.prog X.w X.K X.mg X.base CX0 C "__repr__" k ps sp) (hr : Room (j + 1) X.A) (hkj : k ≤ j) :
    CallR X (.builtin "repr") (fun xs H Q => ∃ (a dx : Addr) (fs : List (Str × V)), xs = [.ref a] ∧ H a = some (.ins C dx fs) ∧ sp xs H (fun v H' => ∃ m : Str, v = .str m ∧ Q v H') E0) := by
  intro pins s σ H xs us Q I r ⟨a, dx, fs, ex, ea, q⟩
  obtain ⟨f, fd, hm, F, hb⟩ := mt
  subst ex
  obtain ⟨u, eu, rx⟩ := vals1 r
  subst eu
  cases (show u = Value.ref a from rx)
  obtain ⟨mA, J, _⟩ := ins_get I.hok ea
  obtain ⟨od, J, _⟩ := J.look
  obtain ⟨mm, hF⟩ := I.fr
  have bt := hb s [.ref a] I.kIn (F.len _ _ _ _ q)
  refine PySem.W.repr_K (Nat.lt_of_le_of_lt (Nat.add_le_add_left (by decide : 1 ≤ 64) _) hr.units) hF I.ok.mod.kin J hm.at_ hm.fn (wpAny_call (codeAny_mono (F.run X.A.in1 X.stack s H ⟨[.ref a], []⟩ [.ref a] [.ref a] _ E0 (hr.in1.mono hkj) I.env0.in1 bt (.cons rfl .nil) q) fun r s' hq => ?_))
  cases r with
  | error _ => exact hq.elim
  | ok fl =>
    cases fl with
    | ret u =>
      obtain ⟨v, H', I', rv, m, ev, q'⟩ := I.after hq
      subst ev
      exact strBack rv ⟨_, H', I', rv, q'⟩
    | next => exact False.elim hq
    | brk => exact False.elim hq
    | cont => exact False.elim hq
/-- str(o) -/
theorem call_ownStr {sp : Sp} {j k : Nat} {C : Addr} {ps : List Str} (mt : MethS X.prog X.w X.K X.mg X.base CX0 C "__str__" k ps sp) (hr : Room (j + 2) X.A) (hkj : k ≤ j) :
    CallR X (.type "str") (fun xs H Q => ∃ (a dx : Addr) (fs : List (Str × V)), xs = [.ref a] ∧ H a = some (.ins C dx fs) ∧ sp xs H (fun v H' => ∃ m : Str, v = .str m ∧ Q v H') E0) := by
  intro pins s σ H xs us Q I r ⟨a, dx, fs, ex, ea, q⟩
  obtain ⟨f, fd, hm, F, hb⟩ := mt
  subst ex
  obtain ⟨u, eu, rx⟩ := vals1 r
  subst eu
  cases (show u = Value.ref a from rx)
  obtain ⟨mA, J, _⟩ := ins_get I.hok ea
  obtain ⟨od, J, _⟩ := J.look
  have bt := hb s [.ref a] I.kIn (F.len _ _ _ _ q)
  refine PySem.W.kso_call (Nat.lt_of_le_of_lt (Nat.add_le_add_left (by decide : 2 ≤ 64) _) hr.units) I.kIn J hm.at_ hm.fn (wpAny_call (codeAny_mono (F.run X.A.in1.in1 X.stack s H ⟨[.ref a], []⟩ [.ref a] [.ref a] _ E0 (hr.in1.in1.mono hkj) I.env0.in1.in1 bt (.cons rfl .nil) q) fun r s' hq => ?_))
  cases r with
  | error _ => exact hq.elim
  | ok fl =>
    cases fl with
    | ret u =>
      obtain ⟨v, H', I', rv, m, ev, q'⟩ := I.after hq
      subst ev
      exact strBack rv ⟨_, H', I', rv, q'⟩
    | next => exact False.elim hq
    | brk => exact False.elim hq
    | cont => exact False.elim hq
/-- x in o -/
theorem op_ownIn {sp : Sp} {j k : Nat} {C : Addr} {ps : List Str} (mt : MethS X.prog X.w X.K X.mg X.base CX0 C "__contains__" k ps sp) (hr : Room j X.A) (hkj : k ≤ j) :
    OpR X (compareOp .In) (fun x y H Q => ∃ (a dx : Addr) (fs : List (Str × V)), y = .ref a ∧ H a = some (.ins C dx fs) ∧ sp [y, x] H (fun v H' => ∃ k : Bool, v = .bl k ∧ Q v H') E0) := by
  intro pins s σ H x y v u Q I rx ry ⟨a, dx, fs, ey, ea, q⟩
  obtain ⟨f, fd, hm, F, hb⟩ := mt
  subst ey
  cases (show u = Value.ref a from ry)
  obtain ⟨mA, J, _⟩ := ins_get I.hok ea
  obtain ⟨od, J, _⟩ := J.look
  obtain ⟨mm, hF⟩ := I.fr
  have run := run_fn (us := [.ref a, v]) (vs := [.ref a, x]) (dvs := []) (ds := []) F (hr.mono hkj) hb .nil pass0 I (.cons rfl (.cons rx .nil)) q
  refine PySem.W.in_K hF I.ok.mod.kin J hm.at_ hm.fn (thn run fun r s' ⟨z, H', I', rz, kk, ez, q'⟩ => ?_)
  subst ez
  cases (show r = Value.bool kk from rz)
  exact wpAny_pure ⟨.bl kk, H', I', rfl, q'⟩
theorem ce_ownIn {sp : Sp} {Q : VK} {j k : Nat} {C : Addr} {ps : List Str} (mt : MethS X.prog X.w X.K X.mg X.base CX0 C "__contains__" k ps sp) (hr : Room j X.A) (hkj : k ≤ j) (h : wE X a σ H fun x H2 => wE X b σ H2 fun y H3 => ∃ (a dx : Addr) (fs : List (Str × V)), y = .ref a ∧ H3 a = some (.ins C dx fs) ∧ sp [y, x] H3 (fun v H' => ∃ k : Bool, v = .bl k ∧ Q v H') E0)
    (hm : behindInMarks .In b = false := by with_unfolding_all rfl) : wE X (.Compare a [.In] [b] pos) σ H Q := ⟨_, pe_cmpR (op_ownIn mt hr hkj) wE.pe wE.pe hm, h⟩
/-- o == x, x of a built-in type -/
theorem op_ownEqT {sp : Sp} {j k : Nat} {C : Addr} {ps : List Str} (mt : MethS X.prog X.w X.K X.mg X.base CX0 C "__eq__" k ps sp) (hr : Room j X.A) (hkj : k ≤ j) :
    OpR X (compareOp .Eq) (fun x y H Q => ∃ (a dx : Addr) (fs : List (Str × V)) (T : String), x = .ref a ∧ H a = some (.ins C dx fs) ∧ TyX X.K H y (.type T) ∧ PySem.W.subIn X.K (.type T) (.ref C) = some false ∧ sp [x, y] H Q E0) := by
  intro pins s σ H x y v u Q I rx ry ⟨a, dx, fs, T, ex, ea, ty, su, q⟩
  obtain ⟨f, fd, hm, F, hb⟩ := mt
  subst ex
  cases (show v = Value.ref a from rx)
  obtain ⟨mA, J, _⟩ := ins_get I.hok ea
  obtain ⟨od, J, _⟩ := J.look
  obtain ⟨mm, hF⟩ := I.fr
  obtain ⟨Pz, Z, pz, _⟩ := kit_of I ry ty
  have run := run_fn (us := [.ref a, u]) (vs := [.ref a, y]) (dvs := []) (ds := []) F (hr.mono hkj) hb .nil pass0 I (.cons rfl (.cons ry .nil)) q
  refine PySem.W.cmp_K (op := .Eq) (tb := .type T) hr.units0 hF I.ok.mod.kin J (Z.ty _ _ I.kIn pz) (by simp [PySem.W.notFirst, su]) hm.at_ hm.fn (wpAny_mono run (fun r s' ⟨v, H', I', rv, q⟩ => vback rv ⟨v, H', I', rv, q⟩) fun _ _ z => z)
theorem ce_ownEqT {sp : Sp} {Q : VK} {j k : Nat} {C : Addr} {ps : List Str} (mt : MethS X.prog X.w X.K X.mg X.base CX0 C "__eq__" k ps sp) (hr : Room j X.A) (hkj : k ≤ j)
    (h : wE X a σ H fun x H2 => wE X b σ H2 fun y H3 => ∃ (a dx : Addr) (fs : List (Str × V)) (T : String), x = .ref a ∧ H3 a = some (.ins C dx fs) ∧ TyX X.K H3 y (.type T) ∧ PySem.W.subIn X.K (.type T) (.ref C) = some false ∧ sp [x, y] H3 Q E0) : wE X (.Compare a [.Eq] [b] pos) σ H Q :=
  ⟨_, pe_cmpR (op_ownEqT mt hr hkj) wE.pe wE.pe (nomark _), h⟩
end
end GV

namespace YK
open PySem PySem.Spec PyProof.Rows L2 GV
/-! ### texts that are no houses -/
section
variable {X : Cx} {M : Addr → Prop} {σ : St} {H : Hp} {a b e : Expr} {pos : Pos}
end
/-! ### values that are no houses -/
inductive OddV (K : PySem.W.Frag) (H : Hp) : V → String → Prop
  | data {v : V} {d : PyData} (r : Rp K M0 H v d) : OddV K H v (tyD d)
  | dict {a : Addr} {kvs : List (Key × V)} (h : H a = some (.dK kvs)) : OddV K H (.ref a) "dict"
section
variable {P : Program} {w : World} {K : PySem.W.Frag} {mg : Str → Option Value} {base : Heap}
end
section
variable {X : Cx} {CX : CXT} {k : Nat} {f C : Addr} {fd : FuncData} {ps : List Str} {sp : Sp} {σ : St}
end
section
variable {X : Cx} {CH CE : Addr} {σ : St} {H H' : Hp} {a b e : Expr} {n m : Nat} {pos : Pos}
theorem hd_house {p : Pos} {j : Nat} (mk : MkH X.prog X.w X.K X.mg X.base CH) (gH : X.mg "House" = some (.ref CH)) (hr : Room j X.A) (hj : 3 ≤ j) (hg : Gl X "House") (h1 : 1 ≤ n) (h2 : n < 64) (ha : PD X M0 e σ H (.str (txN n)))
    (he : starEach (e :: []) X.env = (false, eval e X.env) :: starEach [] X.env := by rfl) (hpl : (backTo pos (starEach [] X.env)).any (·.1) = false := by rfl) : HD X CH (.Call (.Name "House" p) [e] [] pos) σ H n :=
  ⟨fun H1 e1 Q q => ce_houseE mk gH hr hj hg h1 h2 (ha.mono e1) (fun h H' _ x a => q h H' x a) he hpl⟩
end
end YK

namespace GV
open PySem PySem.Spec PyProof.Rows L2
section
variable {X : Cx} {σ : St} {H : Hp} {a b e elt : Expr} {pos : Pos}
/-- [elt for x in range(1, e)], where elt may change things -/
theorem ce_lcR1 {slot : Nat} {x : Str} {p p1 p2 : Pos} {scope : Scope} {own : List (Str × Nat)} {Q : VK} (hc : X.calm = true) (hN : X.N.Nodup) (hg : Gl X "range") (hm : X.mg "range" = none) (ok : BlkOk X.N X.env.scope scope own)
    (hx : ∀ s H C cl fp, PG (Cx.lc X s H scope C cl fp) (.Name x p2) (gName slot)) (hw : ∀ v, wipe ((wipe σ (own.map (·.2))).set slot (some v)) (own.map (·.2)) = wipe σ (own.map (·.2)))
    (h : wE X a σ H fun v H0 => wE X b σ H0 fun u H1 => v = .int 1 ∧ ∃ n : Nat, u = .int ((n + 1 : Nat) : Int) ∧ n ≤ 1000000 ∧ ∀ D, H1 D = none → ∃ J : Nat → Hp → Prop, J 0 (upd H1 D (.lst [])) ∧
      (∀ i H', i < n → J i H' → ∀ s0 H0 C cl fp, wE (Cx.lc X s0 H0 scope C cl fp) elt ((wipe σ (own.map (·.2))).set slot (some (.int ((i + 1 : Nat) : Int)))) H' fun y H4 => ∃ acc, H4 D = some (.lst acc) ∧ acc.length < 100000 ∧ J (i + 1) (upd H4 D (.lst (acc ++ [y])))) ∧ ∀ H', J n H' → Q (.ref D) H')
    (hs : starEach [a, b] X.env = [(false, eval a X.env), (false, eval b X.env)] := by rfl) (hs2 : starEach [b] X.env = [(false, eval b X.env)] := by rfl)
    (hsa : starEach (a :: [b]) X.env = (false, eval a X.env) :: starEach [b] X.env := by rfl) (hsb : starEach (b :: []) X.env = (false, eval b X.env) :: starEach [] X.env := by rfl)
    (hf : ∀ x, foldedSetIterable (.Call (.Name "range" p) [a, b] [] p1) X.env x = pure x := by intro _; rfl) : wE X (.ListComp elt [⟨.Name x p2, .Call (.Name "range" p) [a, b] [] p1, [], 0⟩] scope pos) σ H Q := by
  refine ⟨_, pe_lc (tt := fun σ H Q => Q true H) (te := fun σ H Q => ∀ s0 H0 C cl fp, wE (Cx.lc X s0 H0 scope C cl fp) elt σ H Q) hc hN (pi_range2 hg hm wA.pa hs hs2) ok hx (fun _ _ _ _ _ => ⟨fun pins s σ H Q I h => pts_nil.run pins s σ H Q I h⟩)
    (fun s0 H0 C cl fp => ⟨fun pins s σ H Q I h => wE.pe.run pins s σ H Q I (h s0 H0 C cl fp)⟩) hf, ca_cons (wE.weak h fun v H0 h => ca_cons (wE.weak h ?_) hsb) hsa⟩
  rintro u H1 ⟨rfl, n, rfl, hn, run⟩
  refine ca_nil ⟨1, ((n + 1 : Nat) : Int), rfl, ⟨by omega, by omega, by omega, by omega⟩, ?_⟩
  rw [show (((n + 1 : Nat) : Int) - 1).toNat = n by omega]
  intro D hD
  obtain ⟨J, h0, ht, hd⟩ := run D hD
  refine ⟨fun i m H' => m = n - i ∧ i ≤ n ∧ J i H', ⟨n, rfl, Nat.zero_le _, h0⟩, ?_⟩
  rintro i m H' ⟨rfl, hi', j⟩
  have wk := wk_range (K := X.K) (M := M0) (H := H') 1 n
  have ln : ((List.range n).map fun i => PyData.int (1 + (i : Nat))).length = n := by simp
  by_cases hlt : i < n
  · refine .inr ⟨wk.go M0 i H' (fun _ z => z.elim) (ExM.refl _) (by rw [ln]; exact hlt), J (i + 1), fun H2 j2 => ⟨n - (i + 1), by omega, rfl, hlt, j2⟩, fun x H2 y => ?_⟩
    obtain ⟨rfl, rfl⟩ := y
    rw [show (1 : Int) + (i : Nat) = ((i + 1 : Nat) : Int) by omega]
    refine ⟨hw _, ?_⟩
    show if true = true then _ else _
    rw [if_pos rfl]
    intro s0 H0 C cl fp
    refine wE.weak (ht i _ hlt j s0 H0 C cl fp) ?_
    rintro y H4 ⟨acc, h1, h2, h3⟩
    exact ⟨acc, h1, Nat.lt_of_lt_of_le h2 (by rw [sizeLine_eq]; decide), h3⟩
  · have e2 : i = n := by omega
    subst e2
    have := wk.stop M0 H' (fun _ z => z.elim) (ExM.refl _)
    rw [ln] at this
    exact .inl ⟨this, hd H' j⟩
end
end GV

namespace YK
open PySem PySem.Spec PyProof.Rows L2 GV
/-! ### numbers -/
section
variable {P : Program} {w : World} {K : PySem.W.Frag} {mg : Str → Option Value} {base : Heap} {CH CE CN : Addr}
def MostK (mg : Str → Option Value) : Prop := ∃ t, mg "_MOST_HOUSES" = some (.int 63 t)
def HsL (CH : Addr) (n : Nat) (H : Hp) (xs : List V) : Prop := xs.length = n ∧ ∀ i, i < n → ∃ h, xs[i]? = some (.ref h) ∧ HAt CH (i + 1) H h
theorem HsL.ext {n : Nat} {H H' : Hp} {xs : List V} (h : HsL CH n H xs) (x : Evl.Ex H H') : HsL CH n H' xs := ⟨h.1, fun i hi => let ⟨g, e, a⟩ := h.2 i hi; ⟨g, e, a.ex' x⟩⟩
def spEv (CH : Addr) : Sp := fun vs H Q _ => vs = [] ∧ ∀ p xs H', H p = none → Evl.Ex H H' → H' p = some (.lst xs) → HsL CH 63 H' xs → Q (.ref p) H'
theorem ok_every {f : Addr} {fd : FuncData} (F : Fun K "every" "House.every" s_House_every f fd) (nb : NoB mg) (ct : Cl P w K mg base CX0 1 "text_of_number" (PureR K R_ton)) (mk : MkH P w K mg base CH) (gH : mg "House" = some (.ref CH)) (gM : MostK mg) : FnOk P w K mg base CX0 4 f fd [] (spEv CH) := by
  refine F.ok sc_House_every (fun vs H Q E h => ?_) (fun cdv A outer sh H vs Q E hr h => ⟨_, wB.ps, ?_⟩)
  · obtain ⟨rfl, _⟩ := h
    rfl
  obtain ⟨rfl, q⟩ := h
  obtain ⟨tm, gM⟩ := gM
  refine b_cons (cs_ret (ce_lcR1 (slot := 0) (own := [("number", 0)]) rfl sc_House_every.nd rfl nb.range (blkOk_by (N := n_House_every) (sc := defScope s_House_every) (by decide +kernel)) (fun _ _ _ _ _ => pg_name (i := 0) sc_House_every.nd rfl (.inl rfl)) (fun _ => rfl) (ce_intC (ce_add ⟨_, pe_glob rfl gM (v := .int 63) ⟨tm, rfl⟩ (by decide), ce_intC ⟨63, 1, rfl, rfl, rfl, 63, rfl, by decide, fun D hD => ?_⟩⟩))))
  refine ⟨fun i H' => ExB D H H' ∧ ∃ xs, H' D = some (.lst xs) ∧ HsL CH i H' xs, ⟨ExB.upd, [], upd_same, rfl, fun i hi => by omega⟩, ?_, ?_⟩
  · rintro i H' hi ⟨ex, xs, hx, hl, hs⟩ s0 H0 C cl fp
    refine ce_hd (hd_house (n := i + 1) mk gH hr (by decide) rfl (by omega) (by omega) (pd_callC ct hr (by decide) rfl (ad_cons (nm 0 (.int ((i + 1 : Nat) : Int))) ad_nil) ⟨i + 1, by omega, rfl, rfl⟩)) fun h H2 x2 ho => ?_
    refine ⟨xs, x2 _ _ hx, by omega, (ex.trans (.of x2)).trans .upd, xs ++ [.ref h], upd_same, ?_, fun j hj => ?_⟩
    · rw [List.length_append, hl]
      rfl
    · have up : ∀ {m g}, HAt CH m H2 g → HAt CH m (upd H2 D (.lst (xs ++ [.ref h]))) g := fun {m g} ⟨dx, e⟩ => ⟨dx, by
        rw [upd_ne (fun z => ?_)]
        · exact e
        · rw [z, x2 _ _ hx] at e
          cases e⟩
      by_cases e : j < i
      · obtain ⟨g, e1, a⟩ := hs j e
        exact ⟨g, by rw [List.getElem?_append_left (by omega)]; exact e1, up (a.ex' x2)⟩
      · have : j = i := by omega
        subst this
        refine ⟨h, ?_, up ho⟩
        rw [List.getElem?_append_right (by omega), hl, Nat.sub_self]
        rfl
  · rintro H' ⟨ex, xs, hx, hs⟩
    exact q D xs H' hD (fun a o ha => ex a o (ne_of_none ha hD) ha) hx hs
end
end YK

/-! {elt for tg in iter if ..} of ints -/
namespace GV
open PySem PySem.Spec PyProof.Rows L2 PpSet
section
variable {X : Cx}
/-- what a set comprehension of ints asks: D the new set, V what holds at its turns -/
def tScI (w : World) (wi : TI) (g : TG) (tt : TT) (te : TE) (vs : List Nat) : TE := fun σ H Q => wi σ H fun J Ha => ∀ D, Ha D = none → ∃ V : Nat → Nat → Hp → Prop, (∃ m, V 0 m (upd Ha D (SetO w D (fun _ => false) 0))) ∧ ∀ i m Hb, V i m Hb →
  (J.stop i Hb ∧ Q (.ref D) Hb) ∨ (J.go i Hb ∧ ∃ next : Hp → Prop, (∀ Hc, next Hc → ∃ k, k < m ∧ V (i + 1) k Hc) ∧ ∀ x Hc, J.yld i Hb x Hc → g x (wipe σ vs) Hc fun σ2 Hd => wipe σ2 vs = wipe σ vs ∧ tt σ2 Hd fun b He =>
    if b = true then te σ2 He fun y Hf => ∃ (z : Int) (S : Int → Bool) (n : Nat), y = .int z ∧ Hf D = some (SetO w D S n) ∧ n + 1 < scanBound ∧ next (upd Hf D (SetO w D (fun j => S j || decide (j = z)) (if S z = true then n else n + 1))) else next He)
theorem pe_scI {elt tg iter : Expr} {ifs : List Expr} {scope : Scope} {own : List (Str × Nat)} {pos : Pos} {wi : TI} {g : TG} {tt : TT} {te : TE} (calm : X.calm = true) (nd : X.N.Nodup) (hi : PI X tg iter wi) (ok : BlkOk X.N X.env.scope scope own)
    (hg : ∀ s H C cl fp, PG (X.blk s H scope (compEnvC scope cl C X.env) fp) tg g) (ht : ∀ s H C cl fp, PTs (X.blk s H scope (compEnvC scope cl C X.env) fp) ifs tt) (he : ∀ s H C cl fp, PE (X.blk s H scope (compEnvC scope cl C X.env) fp) elt te)
    (hs : ∀ x, foldedSetIterable iter X.env x = pure x := by intro _; rfl) : PE X (.SetComp elt [⟨tg, iter, ifs, 0⟩] scope pos) (tScI X.w wi g tt te (own.map (·.2))) := ⟨by
  intro pins s0 σ H0 Q I0 asks
  have closed : ∀ y ∈ scope.names, y.2 = .free → ∃ c, X.env.cells.lookup y.1 = some c := fun y hy e => (ok.free y hy e).elim (fun k => I0.ok.has _ (.inl k)) fun k => I0.ok.has _ (.inr k)
  rw [eval_SetComp]
  refine wpAny_comprehension_free (use := none) rfl hs (closure_ok closed) ok.kind (fun y hy e => by rw [ok.uniq y hy, e]) (thn (hi.run pins s0 σ H0 _ I0 asks) fun xv sa ha => thn ha fun itv sb ⟨it, fp, tn, J, Hb, e, Ib, T, stb, fb, q⟩ => ?_)
  subst e
  refine newSet_ok (newEnv_comp ?_)
  obtain ⟨D, hD⟩ : ∃ D, D = sb.heap.objs.size := ⟨_, rfl⟩
  rw [← hD]
  obtain ⟨V, ⟨m0, v0⟩, turn⟩ := q D (Ib.hok.fresh (by rw [hD]; exact Nat.le_refl _))
  generalize hO : ({ cls := .type "set", dict := none, data := .set #[] 0 (.fresh 0 0 (!X.w.params.followText "set-order")) } : Obj) = O
  have put : (sb.heap.push O).get? D = some O := by
    rw [hD]
    exact Heap.get?_push_size _ (by rw [← hO]; rfl)
  have new : SetR X.w (sb.heap.push O) D (fun _ => false) 0 := by
    have z := setR_new_at (w := X.w) (h := sb.heap.push O) (a := D) (ns := []) (by rw [hO]; exact put)
    simpa using z
  generalize hHc : upd Hb D (SetO X.w D (fun _ => false) 0) = Hc at v0
  generalize hsc : ({ sb with heap := sb.heap.push O } : Shared) = sc
  have sch : sc.heap = sb.heap.push O := by rw [← hsc]
  have Ic : Inv X pins σ Hc sc := by
    rw [← hHc, ← hsc]
    exact Ib.laid (t' := sb.toks) (fun b o z => Heap.get?_push_of_some _ z) (Nat.le_of_eq hD.symm) (setO_new new)
  have fc : ∀ b ∈ fp, FpOk X pins Hc b ∧ b < sc.heap.objs.size := fun b hb => by
    obtain ⟨o, z, _⟩ := T.obj _ _ stb b hb
    have lt := Heap.lt_size z
    refine ⟨⟨?_, (fb b hb).2⟩, by rw [sch, Heap.size_push]; exact Nat.lt_succ_of_lt lt⟩
    rw [← hHc, upd_ne (by rw [hD]; exact Nat.ne_of_lt lt)]
    exact (fb b hb).1
  have I4 := block_start Ic ok nd fc
  have st4 : tn 0 (pushCells (sc.heap.push { cls := .type "dict", data := .dict #[] }) scope.names) := T.keep _ _ _ stb fun b _ o z => pushCells_keeps _ _ _ _ (Heap.get?_push_of_some _ (by rw [sch]; exact Heap.get?_push_of_some _ z))
  obtain ⟨ce, hce⟩ : ∃ ce, ce = compEnvC scope (cellsFrom (sc.heap.objs.size + 1) scope.names (cloFrom X.env.cells scope.names [])) sc.heap.objs.size X.env := ⟨_, rfl⟩
  have pg := hg sc Hc sc.heap.objs.size (cellsFrom (sc.heap.objs.size + 1) scope.names (cloFrom X.env.cells scope.names [])) fp
  have pt := ht sc Hc sc.heap.objs.size (cellsFrom (sc.heap.objs.size + 1) scope.names (cloFrom X.env.cells scope.names [])) fp
  have pe := he sc Hc sc.heap.objs.size (cellsFrom (sc.heap.objs.size + 1) scope.names (cloFrom X.env.cells scope.names [])) fp
  rw [← hce] at I4 pg pt pe
  generalize hsd : ({ sc with heap := pushCells (sc.heap.push { cls := .type "dict", data := .dict #[] }) scope.names } : Shared) = sd at I4
  have std : tn 0 sd.heap := by rw [← hsd]; exact st4
  have at_ : ∀ {σ' : St} {H' : Hp} {s' : Shared}, Inv (X.blk sc Hc scope ce fp) [] σ' H' s' → (∀ b ∈ fp, H' b = none) → ∀ b ∈ fp, FpOk (X.blk sc Hc scope ce fp) [] H' b := fun {σ' H' s'} J' hn b hb =>
    ⟨hn b hb, (J'.ok.exf b hb).1, J'.ok.exfs b hb, .inl hb, fun x c z => (J'.ok.exf b hb).2 x c z, fun p hp => by simp at hp⟩
  have walk : codeAny (model X.prog X.w) X.A (.compLoop (.SetComp elt [⟨tg, iter, ifs, 0⟩] scope pos) 0 (.ref it) (.ref D) ce) (compPost (model X.prog X.w) X.A X.xe none (EP X pins σ Q) (.ref D) sc.heap.objs.size) sd := by
    refine compLoopS_any (fun m s' => ∃ i H', Inv (X.blk sc Hc scope ce fp) [] (wipe σ (own.map (·.2))) H' s' ∧ tn i s'.heap ∧ (∀ b ∈ fp, H' b = none) ∧ V i m H') ?_ m0 ⟨0, Hc, I4, std, fun b hb => (fc b hb).1.1, v0⟩
    intro m s5 ⟨i, H5, I5, st5, n5, v5⟩
    rcases turn i m H5 v5 with ⟨ends, fin⟩ | ⟨goes, next, hnext, step⟩
    · refine thnF (T.done (X.blk sc Hc scope ce fp) rfl rfl rfl calm i [] s5 _ H5 (fun _ _ => False) I5 (at_ I5 n5) st5 ends) fun r s6 ⟨hr, I6⟩ => ?_
      subst hr
      have I7 : Inv X pins σ H5 s6 := Ic.call' (ch := fp) I6.os I6.base I6.hok I6.bare fun b hb => let z := (fc b hb).1.2; ⟨z.2.2.1, z.1, z.2.2.2.1, z.2.2.2.2⟩
      have free : H5 sc.heap.objs.size = none := by
        have z : H5 ce.locals = none := I6.free
        rwa [hce] at z
      obtain ⟨mm, hn, _⟩ := I6.loc
      have hn : s6.heap.Ns ce.locals mm := hn
      rw [hce] at hn
      obtain ⟨f0, f1, f2, f3, f4, f5⟩ := Ic.fpOk (Nat.le_refl _) free
      exact ⟨mm, hn, fun h'' keep => ⟨.ref D, H5, I7.turned (t' := s6.toks) (fun b o hb z => (keep.2 b hb).trans z) f0 f1 f3 f4 f5, rfl, fin⟩⟩
    · refine thnF (T.item (X.blk sc Hc scope ce fp) rfl rfl rfl calm i [] s5 _ H5 (fun _ _ => False) I5 (at_ I5 n5) st5 goes) fun r s6 ⟨u, hr, h6⟩ => ?_
      subst hr
      refine thnF h6 fun _ s7 ⟨x, H7, I7, r7, y7, st7, n7⟩ => ?_
      refine thnF (pg.run _ s7 _ H7 x u _ (I7.pinned (at_ I7 n7) (T.obj _ _ st7)) r7 (step x H7 y7)) fun _ s8 ⟨σ8, H8, I8, wiped, q8⟩ => ?_
      refine thnF (pt.run _ s8 σ8 H8 _ I8 q8) fun b s9 ⟨H9, I9, q9⟩ => ?_
      have over : ∀ {s' : Shared} {H' : Hp}, Inv (X.blk sc Hc scope ce fp) ([] ++ pinsAt fp s7.heap) σ8 H' s' → next H' → ∃ k, k < m ∧ ∃ i H', Inv (X.blk sc Hc scope ce fp) [] (wipe σ (own.map (·.2))) H' s' ∧ tn i s'.heap ∧ (∀ b ∈ fp, H' b = none) ∧ V i k H' := fun {s' H'} J' nx => by
        obtain ⟨k, lt, v'⟩ := hnext H' nx
        have pinned : ∀ b ∈ fp, ∀ o, s7.heap.get? b = some o → s'.heap.get? b = some o ∧ H' b = none := fun b hb o z => let y := J'.pin (b, o) (List.mem_append_right _ (List.mem_append_right _ (mem_pinsAt hb z))); ⟨y.1, y.2.1⟩
        refine ⟨k, lt, i + 1, H', (J'.unpinned (pins := [])).weak (by rw [← wiped, wipe_length]) (fun j v z => ?_), T.keep _ _ _ st7 fun b hb o z => (pinned b hb o z).1, fun b hb => ?_, v'⟩
        · rw [← wiped] at z
          exact (wipe_some z).1
        · obtain ⟨o, z, _⟩ := T.obj _ _ st7 b hb
          exact (pinned b hb o z).2
      cases b with
      | false => exact over I9 q9
      | true =>
        show wpAny _ _ _ _ _ s9
        refine thnF (pe.run _ s9 σ8 H9 _ I9 q9) fun z s10 ⟨yv, H10, I10, r10, k, S, n, ey, hDk, room, nx⟩ => ?_
        subst ey
        have added := mt_sadd (X := X.blk sc Hc scope ce fp) _ s10 σ8 H10 (.ref D) [.int k] (.ref D) [z] (fun v H' => v = .non ∧ next H') I10 rfl (.cons r10 .nil) ⟨D, k, S, n, rfl, rfl, hDk, room, rfl, nx⟩
        exact thnF added fun _ s11 ⟨_, H11, I11, _, _, nx⟩ => over I11 nx
  subst hce hsd
  exact codeAny_compStart_set walk (T.self X.A 0 _ _ _ std walk)⟩
end
section
variable {X : Cx} {M : Addr → Prop} {σ : St} {H : Hp} {tg iter elt : Expr} {ds : List PyData}
/-- sorted({elt for tg in iter}) of ints, fewer than 64 -/
theorem fd_sortedScI {t : Tg} {scope : Scope} {own : List (Str × Nat)} {pos p pos2 : Pos} (f : PyData → Int) (out : List Int) (ho : out.Pairwise (· < ·)) (hc : X.calm = true) (hN : X.N.Nodup) (hgs : Gl X "sorted") (hms : X.mg "sorted" = none) (hi : Src X M tg iter σ H ds) (ok : BlkOk X.N X.env.scope scope own)
    (hg : ∀ s H C cl fp, PG (Cx.lc X s H scope C cl fp) tg (t.g X.K)) (hf : ∀ d ∈ ds, t.Fits d) (hw : ∀ M H d σ', t.Ok X.K M H d (wipe σ (own.map (·.2))) σ' → wipe σ' (own.map (·.2)) = wipe σ (own.map (·.2)))
    (hl : ds.length < 64) (hmem : ∀ k, k ∈ out ↔ ∃ d ∈ ds, f d = k)
    (body : ∀ s0 H0 C cl fp M' H' d σ', (∀ a, M a → M' a) → (∀ v e, Rp X.K M H v e → Rp X.K M' H' v e) → d ∈ ds → t.Ok X.K M' H' d (wipe σ (own.map (·.2))) σ' → PD (Cx.lc X s0 H0 scope C cl fp) M' elt σ' H' (.int (f d)))
    (hs : ∀ x, foldedSetIterable iter X.env x = pure x := by intro _; rfl) (h1 : starEach (.SetComp elt [⟨tg, iter, [], 0⟩] scope pos2 :: []) X.env = (false, eval (.SetComp elt [⟨tg, iter, [], 0⟩] scope pos2) X.env) :: starEach [] X.env := by rfl)
    (hpl : (backTo pos (starEach [] X.env)).any (·.1) = false := by rfl) : FD X M (.Call (.Name "sorted" p) [.SetComp elt [⟨tg, iter, [], 0⟩] scope pos2] [] pos) σ H (out.map PyData.int) := .mk fun H1 e1 al Q q => by
  obtain ⟨wi, pi, run⟩ := hi.ex
  refine ⟨_, pe_callB (cr_sortedSet hc) hgs hms PyProof.Rows.boot_sorted wA.pa (by decide) (by decide) h1 hpl, ca_cons ⟨_, pe_scI (te := fun σ H Q => ∀ s0 H0 C cl fp, wE (Cx.lc X s0 H0 scope C cl fp) elt σ H Q) (tt := fun σ H Q => Q true H) hc hN pi ok hg (fun _ _ _ _ _ => ⟨fun pins s σ H Q I h => pts_nil.run pins s σ H Q I h⟩) (fun s0 H0 C cl fp => ⟨fun pins s σ H Q I h => wE.pe.run pins s σ H Q I (h s0 H0 C cl fp)⟩) hs, run H1 e1 al _ fun It Hs xs wk D hD => ?_⟩ h1⟩
  have alS := al.mono xs
  have hm : ∀ a, (M a ∨ a = D) → M a ∨ Hs a = none := fun a z => z.elim .inl fun e => .inr (by rw [e]; exact hD)
  have al2 : ∀ H', Evl.Ex Hs H' → (∃ S n, H' D = some (SetO X.w D S n)) → Alive (fun a => M a ∨ a = D) H' := fun H' e ⟨S, n, h⟩ a z => by
    rcases z with z | z
    · exact (alS.mono e) a z
    · subst z
      exact ⟨_, h⟩
  refine ⟨fun i m H' => m = ds.length - i ∧ i ≤ ds.length ∧ Evl.Ex Hs H' ∧ ∃ S n, H' D = some (SetO X.w D S n) ∧ n ≤ i ∧ ∀ k, S k = true ↔ ∃ d ∈ ds.take i, f d = k, ⟨ds.length, rfl, Nat.zero_le _, Evl.Ex.new hD, _, 0, upd_same, Nat.le_refl _, fun k => by simp⟩, ?_⟩
  rintro i m H' ⟨rfl, hi', x, S, n, hS, hn, hk⟩
  have eM : ExM (fun a => M a ∨ a = D) Hs H' := .of x
  by_cases hlt : i < ds.length
  · refine .inr ⟨wk.go _ i H' hm eM hlt, fun H2 => Evl.Ex Hs H2 ∧ ∃ S n, H2 D = some (SetO X.w D S n) ∧ n ≤ i + 1 ∧ ∀ k, S k = true ↔ ∃ d ∈ ds.take (i + 1), f d = k, fun H2 ⟨a1, a2⟩ => ⟨ds.length - (i + 1), by omega, rfl, hlt, a1, a2⟩, fun v H2 y => ?_⟩
    obtain ⟨x2, r⟩ := wk.yld _ i H' v H2 hm eM (al2 H' x ⟨S, n, hS⟩) y
    have hd' : ds[i]? = some ds[i] := List.getElem?_eq_getElem hlt
    have hS2 : H2 D = some (SetO X.w D S n) := x2 _ _ hS
    have lift : ∀ v e, Rp X.K M H v e → Rp X.K (fun a => M a ∨ a = D) H2 v e := fun v e rv => ((rv.mono (fun _ z => z) (e1.trans (.of xs))).wide hm).mono (fun _ z => z) (.of (x.trans x2))
    refine Tg.run (hf _ (List.getElem_mem hlt)) (r _ hd') fun σ2 okk => ⟨hw _ _ _ _ okk, ?_⟩
    show if true = true then _ else _
    rw [if_pos rfl]
    intro s0 H0 C cl fp
    refine (body s0 H0 C cl fp _ H2 ds[i] σ2 (fun _ z => .inl z) lift (List.getElem_mem hlt) okk).run H2 (.of (Evl.Ex.refl _)) (al2 H2 (x.trans x2) ⟨S, n, hS2⟩) _ fun w H4 x4 rw4 => ?_
    cases rw4
    refine ⟨f ds[i], S, n, rfl, x4 _ _ hS2, Nat.lt_trans (show n + 1 < 100 by omega) (by decide), fun a o ha => ?_, _, _, upd_same, ?_, fun k => ?_⟩
    · rw [upd_ne (ne_of_none ha hD)]
      exact x4 _ _ (x2 _ _ (x _ _ ha))
    · split <;> omega
    · rw [List.take_add_one, hd', Bool.or_eq_true, hk, decide_eq_true_eq]
      constructor
      · rintro (⟨d, h1, h2⟩ | e)
        · exact ⟨d, List.mem_append_left _ h1, h2⟩
        · exact ⟨ds[i], List.mem_append_right _ (by simp), e.symm⟩
      · rintro ⟨d, h1, h2⟩
        rcases List.mem_append.mp h1 with h | h
        · exact .inl ⟨d, h, h2⟩
        · have : d = ds[i] := by simpa using h
          rw [this] at h2
          exact .inr h2.symm
  · have e2 : i = ds.length := by omega
    subst e2
    refine .inl ⟨wk.stop _ H' hm eM, ca_nil ⟨D, S, n, rfl, hS, by omega, fun ns p hns hm2 _ hp => ?_⟩⟩
    have en : ns = out := up_ext hns ho fun k => by
      rw [hm2, hk, hmem, List.take_length]
    subst en
    have xx : Evl.Ex H1 (upd H' p (.lst (ns.map V.int))) := fun a o ha => by
      rw [upd_ne (ne_of_none (x _ _ (xs _ _ ha)) hp)]
      exact x _ _ (xs _ _ ha)
    exact q p _ _ (Evl.fresh_back (xs.trans x) hp) xx upd_same (RpAll.ints ns)
end
end GV

/-! comprehensions over data of one kind -/
namespace GV
open PySem PySem.Spec PyProof.Rows L2
section
variable {α : Type} {β : Type} (e : α → PyData)
open Classical in
/-- what is asked of e y is asked of y -/
noncomputable def backA (b : β) (g : α → β) (d : PyData) : β := if h : ∃ y, e y = d then g h.choose else b
theorem backA_of {e : α → PyData} (inj : ∀ a b, e a = e b → a = b) (b : β) (g : α → β) (y : α) : backA e b g (e y) = g y := by
  unfold backA
  have h : ∃ z, e z = e y := ⟨y, rfl⟩
  rw [dif_pos h, inj _ _ h.choose_spec]
theorem filter_back {e : α → PyData} (inj : ∀ a b, e a = e b → a = b) (p : α → Bool) (g : α → PyData) (l : List α) : ((l.map e).filter (backA e false p)).map (backA e .none g) = (l.filter p).map g := by
  have e1 : (backA e false p ∘ e) = p := funext fun y => backA_of inj false p y
  rw [List.filter_map, e1, List.map_map]
  exact List.map_congr_left fun y _ => (show backA e .none g (e y) = g y from backA_of inj .none g y)
end
section
variable {X : Cx} {M : Addr → Prop} {σ : St} {H : Hp} {tg iter tst elt : Expr} {pos : Pos} {α : Type}
theorem fd_filterA {e : α → PyData} (inj : ∀ a b, e a = e b → a = b) {l : List α} (p : α → Bool) (g : α → PyData) {t : Tg} {scope : Scope} {own : List (Str × Nat)} (hc : X.calm = true) (hN : X.N.Nodup) (hi : Src X M tg iter σ H (l.map e)) (ok : BlkOk X.N X.env.scope scope own)
    (hg : ∀ s H C cl fp, PG (Cx.lc X s H scope C cl fp) tg (t.g X.K)) (hf : ∀ d ∈ l.map e, t.Fits d) (hw : ∀ M H d σ', t.Ok X.K M H d (wipe σ (own.map (·.2))) σ' → wipe σ' (own.map (·.2)) = wipe σ (own.map (·.2))) (hl : l.length ≤ 100000)
    (body : ∀ s0 H0 C cl fp M' H' y σ', (∀ a, M a → M' a) → (∀ v e, Rp X.K M H v e → Rp X.K M' H' v e) → (∀ a o, ¬ M a → NT o → H a = some o → H' a = some o ∧ ¬ M' a) → y ∈ l → t.Ok X.K M' H' (e y) (wipe σ (own.map (·.2))) σ' → TD (Cx.lc X s0 H0 scope C cl fp) M' tst σ' H' (p y) ∧ PD (Cx.lc X s0 H0 scope C cl fp) M' elt σ' H' (g y))
    (hs : ∀ x, foldedSetIterable iter X.env x = pure x := by intro _; rfl) : FD X M (.ListComp elt [⟨tg, iter, [tst], 0⟩] scope pos) σ H ((l.filter p).map g) := by
  rw [← filter_back inj p g l]
  refine fd_filterO _ _ hc hN hi ok hg hf hw (by rw [List.length_map]; exact hl) (fun s0 H0 C cl fp M' H' d σ' hM lift kp hd hok => ?_) hs
  obtain ⟨y, hy, rfl⟩ := List.mem_map.mp hd
  rw [backA_of inj, backA_of inj]
  exact body s0 H0 C cl fp M' H' y σ' hM lift kp hy hok
theorem fd_mapA {e : α → PyData} (inj : ∀ a b, e a = e b → a = b) {l : List α} (g : α → PyData) {t : Tg} {scope : Scope} {own : List (Str × Nat)} (hc : X.calm = true) (hN : X.N.Nodup) (hi : Src X M tg iter σ H (l.map e)) (ok : BlkOk X.N X.env.scope scope own)
    (hg : ∀ s H C cl fp, PG (Cx.lc X s H scope C cl fp) tg (t.g X.K)) (hf : ∀ d ∈ l.map e, t.Fits d) (hw : ∀ M H d σ', t.Ok X.K M H d (wipe σ (own.map (·.2))) σ' → wipe σ' (own.map (·.2)) = wipe σ (own.map (·.2))) (hl : l.length ≤ 100000)
    (body : ∀ s0 H0 C cl fp M' H' y σ', (∀ a, M a → M' a) → (∀ v e, Rp X.K M H v e → Rp X.K M' H' v e) → (∀ a o, ¬ M a → NT o → H a = some o → H' a = some o ∧ ¬ M' a) → y ∈ l → t.Ok X.K M' H' (e y) (wipe σ (own.map (·.2))) σ' → PD (Cx.lc X s0 H0 scope C cl fp) M' elt σ' H' (g y))
    (hs : ∀ x, foldedSetIterable iter X.env x = pure x := by intro _; rfl) : FD X M (.ListComp elt [⟨tg, iter, [], 0⟩] scope pos) σ H (l.map g) := by
  have h := filter_back inj (fun _ => true) g l
  rw [filt_all] at h
  rw [← h]
  refine fd_lcO hc hN hi ok hg hf hw _ _ (by rw [List.length_map]; exact hl) (fun s0 H0 C cl fp M' H' d σ' hM lift kp hd hok => ?_) hs
  obtain ⟨y, hy, rfl⟩ := List.mem_map.mp hd
  rw [backA_of inj, backA_of inj]
  exact ⟨tsd_nil, fun _ => body s0 H0 C cl fp M' H' y σ' hM lift kp hy hok⟩
end
/-- naturals as data -/
abbrev natD (n : Nat) : PyData := .int (n : Nat)
theorem natD_inj : ∀ a b : Nat, natD a = natD b → a = b := fun a b h => by
  have := PyData.int.inj h
  omega
abbrev natsD (l : List Nat) : PyData := .list (l.map natD)
theorem nats_ints (l : List Nat) : l.map natD = (l.map fun n => ((n : Nat) : Int)).map PyData.int := by
  rw [List.map_map]
  rfl
section
variable {X : Cx} {M : Addr → Prop} {σ : St} {H : Hp} {a b e : Expr} {pos : Pos} {n m : Nat}
theorem src_rangeN {tg : Expr} {p : Pos} (hg : Gl X "range") (hm : X.mg "range" = none) (hb : PD X M b σ H (.int (n : Nat))) (hn : n < 1000000) (hs : starEach [b] X.env = [(false, eval b X.env)] := by rfl) (hs' : starEach (b :: []) X.env = (false, eval b X.env) :: starEach [] X.env := by rfl) : Src X M tg (.Call (.Name "range" p) [b] [] pos) σ H ((List.range n).map natD) := by
  have h := src_range1 (tg := tg) (p := p) (pos := pos) hg hm hb (by omega) (by omega) hs hs'
  have e2 : ((List.range ((n : Nat) : Int).toNat).map fun k => PyData.int (0 + (k : Nat))) = (List.range n).map natD := by
    rw [Int.toNat_natCast]
    exact List.map_congr_left fun k _ => by rw [Int.zero_add]
  rwa [e2] at h
theorem bor_nat (a b : Nat) : Builtin.bitOr (a : Int) (b : Int) = ((a ||| b : Nat) : Int) := by
  have n1 : ¬ 0 ≤ Builtin.bitNot (a : Int) := by unfold Builtin.bitNot; omega
  have n2 : ¬ 0 ≤ Builtin.bitNot (b : Int) := by unfold Builtin.bitNot; omega
  have e : ∀ x : Int, Builtin.bitNot (Builtin.bitNot x) = x := fun x => by unfold Builtin.bitNot; omega
  unfold Builtin.bitOr
  simp only [Builtin.bitAnd, n1, n2, decide_false]
  rw [e, e, e]
  simp
theorem band_nat (a b : Nat) : Builtin.bitAnd (a : Int) (b : Int) = ((a &&& b : Nat) : Int) := by simp [Builtin.bitAnd]
theorem pd_orN (ha : PD X M a σ H (natD n)) (hb : PD X M b σ H (natD m)) : PD X M (.BinOp a .BitOr b pos) σ H (natD (n ||| m)) := PD.is (pd_binR op_or rd_I0 ha hb) (by rw [bor_nat])
theorem pd_andN (ha : PD X M a σ H (natD n)) (hb : PD X M b σ H (natD m)) : PD X M (.BinOp a .BitAnd b pos) σ H (natD (n &&& m)) := PD.is (pd_binR op_and rd_I0 ha hb) (by rw [band_nat])
theorem pd_shlN {k : Nat} (ha : PD X M a σ H (natD n)) (hb : PD X M b σ H (natD k)) (hc : CPow n k) : PD X M (.BinOp a .LShift b pos) σ H (natD (n * 2 ^ k)) := .mk fun H1 e1 al Q q =>
  ce_shl (ha.run H1 e1 al _ fun x H2 x2 r2 => hb.run H2 (e1.trans (.of x2)) (al.mono x2) _ fun y H3 x3 r3 => by
    cases r2
    cases r3
    refine ⟨_, _, rfl, rfl, hc, ?_⟩
    have e : ((n : Nat) : Int) * 2 ^ ((k : Nat) : Int).toNat = ((n * 2 ^ k : Nat) : Int) := by
      rw [Int.toNat_natCast, Int.natCast_mul, Int.natCast_pow]
      rfl
    rw [e]
    exact q _ H3 (x2.trans x3) (.int _))
end
end GV

namespace YK
open PySem PySem.Spec PyProof.Rows L2 GV
/-! ### checks -/
def spCN (K : PySem.W.Frag) (CN : Addr) : Sp := fun vs H Q E => ∃ v d lo hi, vs = [v, .int lo, .int hi] ∧ Rp K M0 H v d ∧ ((isNumD d lo hi = true ∧ ∀ H', Evl.Ex H H' → Q .non H') ∨ (isNumD d lo hi = false ∧ Raised CN [("number", v)] H E))
theorem raised_ex {C : Addr} {fs : List (Str × V)} {H H1 : Hp} {E : XK} (r : Raised C fs H E) (x : Evl.Ex H H1) : Raised C fs H1 E := fun d H' hd x2 h => r d H' (Evl.fresh_back x hd) (x.trans x2) h
def spAns : Sp := fun vs H Q _ => ∃ k, vs = [.bl k] ∧ Q .non H
def spRoom : Sp := fun vs H Q _ => ∃ a b : Int, vs = [.int a, .int b] ∧ a < b ∧ ∀ H', Evl.Ex H H' → Q .non H'
/-! ### kinds -/
def kd (z lo hi : Int) (late : Bool) : Nat := (if z < lo then 0 else if z < hi then 1 else 2) + (if late then 3 else 0)
def kAt (ns : List Int) (p i : Nat) : Nat := kd (ns.getD i 0) (lo2 ns p) (hi2 ns p) (decide (p < i))
def thirds (n p : Nat) : List Nat := (List.range n).filter fun i => decide (i ≠ p) && decide (i ≠ p + 1)
def kLs (ns : List Int) (p : Nat) : List Nat := (thirds ns.length p).map (kAt ns p)
def mOf (l : List Nat) : Nat := (((List.range 6).filter fun k => decide (k ∈ l)).map (2 ^ ·)).sum
def msk (ns : List Int) (p : Nat) : Nat := mOf (kLs ns p)
def presL (ns : List Int) (p : Nat) : List Nat := (List.range 6).filter fun k => decide (k ∈ kLs ns p)
def secI : PyData → Int
  | .tuple [_, .int k] => k
  | _ => 0
theorem kAt_lt (ns : List Int) (p i : Nat) : kAt ns p i < 6 := by
  unfold kAt kd
  refine Nat.lt_of_le_of_lt (Nat.add_le_add (?_ : _ ≤ 2) (?_ : _ ≤ 3)) (by decide)
  · split
    · decide
    · split <;> decide
  · split <;> decide
theorem kLs_lt {ns : List Int} {p k : Nat} (h : k ∈ kLs ns p) : k < 6 := by
  obtain ⟨i, _, rfl⟩ := List.mem_map.mp h
  exact kAt_lt ns p i
theorem letL_get {ns : List Int} {p i : Nat} (h : i < ns.length) : (letL ns p).getD i 0 = letZ (lo2 ns p) (hi2 ns p) (ns.getD i 0) := by
  have e : ns[i]? = some ns[i] := List.getElem?_eq_getElem h
  unfold letL
  rw [List.getD_eq_getElem?_getD, List.getElem?_map, e, List.getD_eq_getElem?_getD, e]
  rfl
theorem letZ_kd (z lo hi : Int) : letZ lo hi z = ((kd z lo hi false : Nat) : Int) := by
  unfold letZ kd
  split
  · rfl
  · split <;> rfl
theorem kd_late (z lo hi : Int) : ((kd z lo hi true : Nat) : Int) = letZ lo hi z + 3 := by
  rw [letZ_kd]
  unfold kd
  split
  · rfl
  · split <;> rfl
theorem mem_third {ns : List Int} {p : Nat} (hp : p + 1 < ns.length) (k : Int) : (∃ d ∈ befL ns p ++ behL ns p, secI d = k) ↔ ∃ n : Nat, k = (n : Nat) ∧ n ∈ kLs ns p := by
  have lt {i : Nat} (h : i < p) : ((kAt ns p i : Nat) : Int) = (letL ns p).getD i 0 := by
    rw [letL_get (by omega), letZ_kd]
    unfold kAt
    rw [decide_eq_false (by omega)]
  have gt {i : Nat} (h : p < i) (h2 : i < ns.length) : ((kAt ns p i : Nat) : Int) = (letL ns p).getD i 0 + 3 := by
    rw [letL_get h2, ← kd_late]
    unfold kAt
    rw [decide_eq_true h]
  constructor
  · rintro ⟨d, hd, rfl⟩
    rcases List.mem_append.mp hd with h | h
    · obtain ⟨i, hi, rfl⟩ := List.mem_map.mp h
      have hi := List.mem_range.mp hi
      exact ⟨kAt ns p i, (lt hi).symm, List.mem_map.mpr ⟨i, List.mem_filter.mpr ⟨List.mem_range.mpr (by omega), by simp; omega⟩, rfl⟩⟩
    · obtain ⟨j, hj, rfl⟩ := List.mem_map.mp h
      have hj := List.mem_range.mp hj
      exact ⟨kAt ns p (p + 2 + j), (gt (by omega) (by omega)).symm, List.mem_map.mpr ⟨p + 2 + j, List.mem_filter.mpr ⟨List.mem_range.mpr (by omega), by simp; omega⟩, rfl⟩⟩
  · rintro ⟨n, rfl, hn⟩
    obtain ⟨i, hi, rfl⟩ := List.mem_map.mp hn
    obtain ⟨h1, h2⟩ := List.mem_filter.mp hi
    have h1 := List.mem_range.mp h1
    rw [Bool.and_eq_true, decide_eq_true_eq, decide_eq_true_eq] at h2
    by_cases hlt : i < p
    · exact ⟨_, List.mem_append_left _ (List.mem_map.mpr ⟨i, List.mem_range.mpr hlt, rfl⟩), (lt hlt).symm⟩
    · refine ⟨_, List.mem_append_right _ (List.mem_map.mpr ⟨i - (p + 2), List.mem_range.mpr (by omega), rfl⟩), ?_⟩
      show (letL ns p).getD (p + 2 + (i - (p + 2))) 0 + 3 = _
      rw [show p + 2 + (i - (p + 2)) = i by omega, gt (by omega) h1]
theorem pres_up (ns : List Int) (p : Nat) : ((presL ns p).map fun k => ((k : Nat) : Int)).Pairwise (· < ·) := by
  unfold presL
  rw [List.pairwise_map]
  exact (List.Pairwise.filter _ List.pairwise_lt_range).imp fun h => by omega
def R_pres (ds es : List PyData) : Prop := ∃ (tp : Bool) (ns : List Int) (p : Nat), p + 1 < ns.length ∧ ns.length ≤ 60 ∧ ds = [sqD tp (ns.map PyData.int), .int (p : Nat)] ∧ es = ((presL ns p).map fun k => ((k : Nat) : Int)).map PyData.int
def R_kn (ds : List PyData) (d : PyData) : Prop := ∃ (tp : Bool) (ns : List Int) (p : Nat), p + 1 < ns.length ∧ ns.length ≤ 60 ∧ ds = [sqD tp (ns.map PyData.int), .int (p : Nat)] ∧ d = natD (msk ns p)
def R_frees (ds : List PyData) (d : PyData) : Prop := ∃ n k : Nat, ds = [natD n, natD k] ∧ d = .bool (decide (0 < n &&& k))
def R_tos (ds es : List PyData) : Prop := ∃ l : List Nat, (∀ n ∈ l, n < 64) ∧ l.length ≤ 1000 ∧ ds = [natsD l] ∧ es = l.map fun n => .str (txN n)
def finB (n m : Nat) : Bool := decide (n ||| m = m)
def R_fin (ds : List PyData) (d : PyData) : Prop := ∃ n m : Nat, ds = [natD n, natD m] ∧ d = .bool (finB n m)
def anoB (n m : Nat) : Bool := decide (n ≠ m) && finB n m
def R_ano (ds : List PyData) (d : PyData) : Prop := ∃ n m : Nat, ds = [natD n, natD m] ∧ d = .bool (anoB n m)
def finestN (l : List Nat) : List Nat := l.filter fun n => !(l.map fun m => anoB m n).any id
def R_fof (ds es : List PyData) : Prop := ∃ l : List Nat, (∀ n ∈ l, n < 64) ∧ l.length ≤ 1000 ∧ ds = [natsD l] ∧ es = (finestN l).map fun n => .str (txN n)
theorem eqvN (a b : Nat) : PyData.eqv (natD a) (natD b) = decide (a = b) := by
  rw [eqv_int]
  exact decide_eq_decide.mpr (by omega)
def finScope : Scope := match ((defBody s_finest_of)[0]? : Option Stmt) with
  | some (Stmt.Return (some (Expr.Call _ [Expr.ListComp _ _ sc _] _ _)) _) => sc
  | _ => defScope s_finest_of
def finScope2 : Scope := { finScope with names := finScope.names.map fun x => if x.2 = .free then (x.1, .cell) else x }
section
variable {P : Program} {w : World} {K : PySem.W.Frag} {mg : Str → Option Value} {base : Heap} {CN : Addr}
theorem cl_check_number {f : Addr} {fd : FuncData} (F : At K mg "check_number" s_check_number f fd) (c1 : Cl P w K mg base CX0 2 "is_number" (PureR K R_is_number)) (er : ErrC P w K mg base "InvalidNumber" CN ["number"]) : Cl P w K mg base (L2.CX P w) 3 "check_number" (spCN K CN) := by
  refine ⟨f, fd, _, F.fn.okX sc_check_number (fun vs H Q E h => ?_) (fun cdv A outer s H vs Q E hr h => ⟨_, wB.ps, ?_⟩), F.gl, F.fn.kp, F.fn.binds fun _ _ _ _ _ _ us hl => match us, hl with | [_, _, _], _ => rfl⟩
  · obtain ⟨v, d, lo, hi, rfl, _⟩ := h
    rfl
  obtain ⟨v, d, lo, hi, rfl, r, h⟩ := h
  have tk : Takes _ (fun cls d (_ : St) H' => E cls d H') := takes_of (X := cxOf (L2.CX P w) P w K mg base n_check_number "check_number" (defScope s_check_number) f cdv A outer s H E) rfl rfl rfl rfl
  refine b_cons (s_if (M := M0) (k := !isNumD d lo hi) alive0 (td_not (td_val (pd_callC c1 hr (by decide) rfl (ad_cons (nm 0 r) (ad_cons (nm 1 (.int lo)) (ad_cons (nm 2 (.int hi)) ad_nil))) ⟨d, lo, hi, rfl, rfl⟩))) (fun k H2 x2 => ?_) (fun k H2 x2 => b_nil ?_))
  · rcases h with ⟨h, q⟩ | ⟨h, q⟩
    · rw [h] at k
      cases k
    · exact b_cons (s_raise rfl er (hr.mono (by decide)) tk rfl (ca_cons (ce_nm 0 (ca_nil ⟨rfl, (by show 1 ≤ 1000; decide), raised_ex q x2⟩))))
  · rcases h with ⟨h, q⟩ | ⟨h, q⟩
    · exact b_nil (q H2 x2)
    · rw [h] at k
      cases k
theorem cl_check_answer {f : Addr} {fd : FuncData} (F : At K mg "check_answer" s_check_answer f fd) : Cl P w K mg base CX0 1 "check_answer" spAns := by
  refine ⟨f, fd, _, F.fn.ok sc_check_answer (fun vs H Q E h => ?_) (fun cdv A outer s H vs Q E hr h => ⟨_, wB.ps, ?_⟩), F.gl, F.fn.kp, F.fn.binds fun _ _ _ _ _ _ us hl => match us, hl with | [_], _ => rfl⟩
  · obtain ⟨k, rfl, _⟩ := h
    rfl
  obtain ⟨k, rfl, q⟩ := h
  refine b_cons (cs_if (ct_w (cw_and (ct_isnB (k := k) (ce_nm 0 ⟨rfl, fun h1 => cw_and1 (ct_isnB (k := k) (ce_nm 0 ⟨rfl, ?_⟩)), fun _ => ?_⟩)))))
  · cases k
    · rw [if_neg (by decide)]
      exact b_nil (b_nil q)
    · cases h1
  · rw [if_neg (by decide)]
    exact b_nil (b_nil q)
theorem cl_check_room {f : Addr} {fd : FuncData} (F : At K mg "check_room" s_check_room f fd) : Cl P w K mg base CX0 1 "check_room" spRoom := by
  refine ⟨f, fd, _, F.fn.ok sc_check_room (fun vs H Q E h => ?_) (fun cdv A outer s H vs Q E hr h => ⟨_, wB.ps, ?_⟩), F.gl, F.fn.kp, F.fn.binds fun _ _ _ _ _ _ us hl => match us, hl with | [_, _], _ => rfl⟩
  · obtain ⟨a, b, rfl, _⟩ := h
    rfl
  obtain ⟨a, b, rfl, hab, q⟩ := h
  exact b_cons (s_if (M := M0) (k := false) alive0 (TD.is (td_ge (nm 0 (.int a)) (nm 1 (.int b))) (decide_eq_false (by omega))) (fun k => by cases k) (fun _ H2 x2 => b_nil (b_nil (q H2 x2))))
theorem cl_present_kinds {f : Addr} {fd : FuncData} (F : At K mg "present_kinds" s_present_kinds f fd) (nb : NoB mg) (c1 : Cl P w K mg base CX0 1 "_third_kinds" (FreshR K R_third)) : Cl P w K mg base CX0 2 "present_kinds" (FreshR K R_pres) := by
  refine ⟨f, fd, _, F.fn.ok sc_present_kinds (fun vs H Q E h => ?_) (fun cdv A outer sh H vs Q E hr h => ⟨_, wB.ps, ?_⟩), F.gl, F.fn.kp, F.fn.binds fun _ _ _ _ _ _ us hl => match us, hl with | [_, _], _ => rfl⟩
  · obtain ⟨M, ds, es, al, r, ⟨_, _, _, _, _, rfl, _⟩, _⟩ := h
    rw [r.length]
    rfl
  · obtain ⟨M, ds, es, al, r, ⟨tp, ns, p, hp, hl, rfl, rfl⟩, q⟩ := h
    obtain ⟨u, v, rfl, r1, r2⟩ := rpa2 r
    refine b_cons (cs_ret (ce_fd al (fd_sortedScI secI _ (pres_up ns p) (t := .two 2 3) (own := [("_", 2), ("kind", 3)]) rfl sc_present_kinds.nd rfl nb.sorted (src_list (FD.pd (fd_callC c1 hr (by decide) rfl (ad_cons (nm 0 r1) (ad_cons (nm 1 r2) ad_nil)) ⟨tp, ns, p, hp, by omega, rfl, rfl⟩))) (blkOk_by (N := n_present_kinds) (sc := defScope s_present_kinds) (by decide +kernel)) (fun _ _ _ _ _ => pg_tup rfl (pgs_cons (pg_name (i := 2) sc_present_kinds.nd rfl (.inl rfl)) (pgs_cons (pg_name (i := 3) sc_present_kinds.nd rfl (.inl rfl)) pgs_nil))) ?_ ?_ ?_ (fun k => ?_) ?_) q))
    · intro d hd
      rcases List.mem_append.mp hd with h | h
      · obtain ⟨i, _, rfl⟩ := List.mem_map.mp h
        exact ⟨_, _, rfl⟩
      · obtain ⟨i, _, rfl⟩ := List.mem_map.mp h
        exact ⟨_, _, rfl⟩
    · rintro M H d σ' ⟨_, _, _, _, _, _, _, rfl⟩
      rfl
    · unfold befL behL
      rw [List.length_append, List.length_map, List.length_map, List.length_range, List.length_range]
      omega
    · rw [mem_third hp, List.mem_map]
      unfold presL
      constructor
      · rintro ⟨n, hn, rfl⟩
        exact ⟨n, rfl, of_decide_eq_true (List.mem_filter.mp hn).2⟩
      · rintro ⟨n, rfl, hn⟩
        exact ⟨n, List.mem_filter.mpr ⟨List.mem_range.mpr (kLs_lt hn), decide_eq_true hn⟩, rfl⟩
    · rintro s0 H0 C cl fp M' H' d σ' hM lift hd ⟨da, db, v1, v2, e, q1, q2, rfl⟩
      have hk : db = .int (secI d) := by
        rcases List.mem_append.mp hd with h | h
        · obtain ⟨i, _, rfl⟩ := List.mem_map.mp h
          cases e
          rfl
        · obtain ⟨i, _, rfl⟩ := List.mem_map.mp h
          cases e
          rfl
      rw [hk] at q2
      exact nm 3 q2
theorem pow_le {k : Nat} (h : k < 6) : 2 ^ k ≤ 32 := by
  match k, h with
  | 0, _ => decide
  | 1, _ => decide
  | 2, _ => decide
  | 3, _ => decide
  | 4, _ => decide
  | 5, _ => decide
theorem cl_kinds_number {f : Addr} {fd : FuncData} (F : At K mg "_kinds_number" s_kinds_number f fd) (nb : NoB mg) (c1 : Cl P w K mg base CX0 2 "present_kinds" (FreshR K R_pres)) : Cl P w K mg base CX0 3 "_kinds_number" (PureR K R_kn) := by
  refine cl_pure F sc_kinds_number (F.fn.binds fun _ _ _ _ _ _ us hl => match us, hl with | [_, _], _ => rfl) (fun ds d h => ?_) (fun X cdv A outer s H Q E M vs ds d hX hr al r h q => ?_)
  · obtain ⟨_, _, _, _, _, rfl, _⟩ := h
    rfl
  · obtain ⟨tp, ns, p, hp, hl, rfl, rfl⟩ := h
    obtain ⟨u, v, rfl, r1, r2⟩ := rpa2 r
    subst hX
    refine b_cons (s_ret al (PD.is (pd_sum (ns := (presL ns p).map fun k => ((2 ^ k : Nat) : Int)) rfl nb rfl (PD.is (FD.pd (fd_mapA natD_inj (fun k => natD (2 ^ k)) (t := .one 2) (own := [("index", 2)]) rfl sc_kinds_number.nd (src_list (PD.is (FD.pd (fd_callC c1 hr (by decide) rfl (ad_cons (nm 0 r1) (ad_cons (nm 1 r2) ad_nil)) ⟨tp, ns, p, hp, hl, rfl, rfl⟩)) (congrArg PyData.list (nats_ints (presL ns p)).symm))) (blkOk_by (N := n_kinds_number) (sc := defScope s_kinds_number) (by decide +kernel)) (fun _ _ _ _ _ => pg_name (i := 2) sc_kinds_number.nd rfl (.inl rfl)) (fun _ _ => trivial) ?_ ?_ ?_)) ?_)) ?_) q)
    · rintro M H d σ' ⟨_, _, rfl⟩
      rfl
    · exact Nat.le_trans (List.length_filter_le _ _) (by decide)
    · rintro s0 H0 C cl fp M' H' k σ' hM lift kp hk ⟨v', rv, rfl⟩
      have h6 : k < 6 := List.mem_range.mp (List.mem_filter.mp hk).1
      exact PD.is (pd_shlN (n := 1) (k := k) pd_int (nm 2 rv) ⟨by omega, by omega, by decide⟩) (by rw [Nat.one_mul])
    · rw [List.map_map]
      rfl
    · unfold natD msk mOf presL
      congr 1
      generalize (List.range 6).filter _ = l
      induction l with
      | nil => rfl
      | cons a l ih =>
        rw [List.map_cons, List.sum_cons, List.map_cons, List.sum_cons, ih]
        omega
theorem cl_frees {f : Addr} {fd : FuncData} (F : At K mg "_frees" s_frees f fd) : Cl P w K mg base CX0 1 "_frees" (PureR K R_frees) := by
  refine cl_pure F sc_frees (F.fn.binds fun _ _ _ _ _ _ us hl => match us, hl with | [_, _], _ => rfl) (fun ds d h => ?_) (fun X cdv A outer s H Q E M vs ds d hX hr al r h q => ?_)
  · obtain ⟨_, _, rfl, _⟩ := h
    rfl
  · obtain ⟨n, k, rfl, rfl⟩ := h
    obtain ⟨u, v, rfl, r1, r2⟩ := rpa2 r
    subst hX
    exact b_cons (s_ret al (PD.is (pd_gt (pd_andN (nm 0 r1) (nm 1 r2)) pd_int) (congrArg PyData.bool (decide_eq_decide.mpr (by omega)))) q)
theorem cl_texts_of {f : Addr} {fd : FuncData} (F : At K mg "texts_of" s_texts_of f fd) (ct : Cl P w K mg base CX0 1 "text_of_number" (PureR K R_ton)) : Cl P w K mg base CX0 2 "texts_of" (FreshR K R_tos) := by
  refine ⟨f, fd, _, F.fn.ok sc_texts_of (fun vs H Q E h => ?_) (fun cdv A outer sh H vs Q E hr h => ⟨_, wB.ps, ?_⟩), F.gl, F.fn.kp, F.fn.binds fun _ _ _ _ _ _ us hl => match us, hl with | [_], _ => rfl⟩
  · obtain ⟨M, ds, es, al, r, ⟨_, _, _, rfl, _⟩, _⟩ := h
    rw [r.length]
    rfl
  · obtain ⟨M, ds, es, al, r, ⟨l, h64, hl, rfl, rfl⟩, q⟩ := h
    obtain ⟨u, rfl, r1⟩ := rpa1 r
    refine b_cons (cs_ret (ce_fd al (fd_mapA natD_inj (fun n => .str (txN n)) (t := .one 1) (own := [("number", 1)]) rfl sc_texts_of.nd (src_list (nm 0 r1)) (blkOk_by (N := n_texts_of) (sc := defScope s_texts_of) (by decide +kernel)) (fun _ _ _ _ _ => pg_name (i := 1) sc_texts_of.nd rfl (.inl rfl)) (fun _ _ => trivial) ?_ (by omega) ?_) q))
    · rintro M H d σ' ⟨_, _, rfl⟩
      rfl
    · rintro s0 H0 C cl fp M' H' k σ' hM lift kp hk ⟨v', rv, rfl⟩
      exact pd_callC ct hr (by decide) rfl (ad_cons (nm 1 rv) ad_nil) ⟨k, h64 k hk, rfl, rfl⟩
theorem cl_is_finer_number {f : Addr} {fd : FuncData} (F : At K mg "is_finer_number" s_is_finer_number f fd) : Cl P w K mg base CX0 1 "is_finer_number" (PureR K R_fin) := by
  refine cl_pure F sc_is_finer_number (F.fn.binds fun _ _ _ _ _ _ us hl => match us, hl with | [_, _], _ => rfl) (fun ds d h => ?_) (fun X cdv A outer s H Q E M vs ds d hX hr al r h q => ?_)
  · obtain ⟨_, _, rfl, _⟩ := h
    rfl
  · obtain ⟨n, k, rfl, rfl⟩ := h
    obtain ⟨u, v, rfl, r1, r2⟩ := rpa2 r
    subst hX
    exact b_cons (s_ret al (PD.is (pd_eq hr.units (pd_orN (nm 0 r1) (nm 1 r2)) (nm 1 r2) rfl rfl) (congrArg PyData.bool (eqvN _ _))) q)
theorem cl_is_another_finer {f : Addr} {fd : FuncData} (F : At K mg "_is_another_finer" s_is_another_finer f fd) (c1 : Cl P w K mg base CX0 1 "is_finer_number" (PureR K R_fin)) : Cl P w K mg base CX0 2 "_is_another_finer" (PureR K R_ano) := by
  refine cl_pure F sc_is_another_finer (F.fn.binds fun _ _ _ _ _ _ us hl => match us, hl with | [_, _], _ => rfl) (fun ds d h => ?_) (fun X cdv A outer s H Q E M vs ds d hX hr al r h q => ?_)
  · obtain ⟨_, _, rfl, _⟩ := h
    rfl
  · obtain ⟨n, k, rfl, rfl⟩ := h
    obtain ⟨u, v, rfl, r1, r2⟩ := rpa2 r
    subst hX
    refine b_cons (s_ret al (PD.is (pd_and (k1 := decide (n ≠ k)) (k2 := finB n k) (PD.is (pd_ne hr.units (nm 0 r1) (nm 1 r2) rfl rfl) ?_) fun _ => pd_one (pd_callC c1 hr (by decide) rfl (ad_cons (nm 0 r1) (ad_cons (nm 1 r2) ad_nil)) ⟨n, k, rfl, rfl⟩)) rfl) q)
    rw [eqvN]
    simp
theorem cl_finest_of {f : Addr} {fd : FuncData} (F : At K mg "finest_of" s_finest_of f fd) (nb : NoB mg) (c1 : Cl P w K mg base CX0 2 "_is_another_finer" (PureR K R_ano)) (c2 : Cl P w K mg base CX0 2 "texts_of" (FreshR K R_tos)) : Cl P w K mg base CX0 3 "finest_of" (FreshR K R_fof) := by
  refine ⟨f, fd, _, F.fn.ok sc_finest_of (fun vs H Q E h => ?_) (fun cdv A outer sh H vs Q E hr h => ⟨_, wB.ps, ?_⟩), F.gl, F.fn.kp, F.fn.binds fun _ _ _ _ _ _ us hl => match us, hl with | [_], _ => rfl⟩
  · obtain ⟨M, ds, es, al, r, ⟨_, _, _, rfl, _⟩, _⟩ := h
    rw [r.length]
    rfl
  · obtain ⟨M, ds, es, al, r, ⟨l, h64, hl, rfl, rfl⟩, q⟩ := h
    obtain ⟨u, rfl, r1⟩ := rpa1 r
    refine b_cons (cs_ret (ce_fd al (fd_callC c2 hr (by decide) rfl (ad_cons (FD.pd (fd_filterA natD_inj (fun n => !(l.map fun m => anoB m n).any id) natD (t := .one 1) (own := [("number", 1)]) rfl sc_finest_of.nd (src_list (nm 0 r1)) (blkOk_by (N := n_finest_of) (sc := defScope s_finest_of) (by decide +kernel)) (fun _ _ _ _ _ => pg_name (i := 1) sc_finest_of.nd rfl (.inr rfl)) (fun _ _ => trivial) ?_ (by omega) ?_)) ad_nil) ⟨finestN l, fun n hn => h64 n (List.mem_filter.mp hn).1, Nat.le_trans (List.length_filter_le _ _) hl, rfl, rfl⟩) q))
    · rintro M H d σ' ⟨_, _, rfl⟩
      rfl
    · rintro s0 H0 C cl fp M' H' k σ' hM lift kp hk ⟨v', rv, rfl⟩
      refine ⟨td_not (td_val (PD.is (pd_callB (cr_any rfl) rfl nb.any PyProof.Rows.boot_any (ad_cons (PD.is (d' := .list ((l.map fun m => anoB m k).map PyData.bool)) (FD.pd (fd_mapA natD_inj (fun m => .bool (anoB m k)) (t := .one 2) (own := [("other", 2)]) rfl sc_finest_of.nd (src_list (nm 0 (lift _ _ r1))) (blkOk_by (N := n_finest_of) (sc := finScope2) (by decide +kernel)) (fun _ _ _ _ _ => pg_name (i := 2) sc_finest_of.nd rfl (.inl rfl)) (fun _ _ => trivial) ?_ (by omega) ?_)) ?_) ad_nil) rn_any) rfl)), nm 1 rv⟩
      · rintro M H d σ' ⟨_, _, rfl⟩
        rfl
      · rintro s1 H1 C1 cl1 fp1 M1 H2 m σ2 hM1 lift1 kp1 hm ⟨v2, rv2, rfl⟩
        exact pd_callC c1 hr (by decide) rfl (ad_cons (nm 2 rv2) (ad_cons (nm 1 (lift1 _ _ rv)) ad_nil)) ⟨m, k, rfl, rfl⟩
      · rw [List.map_map]
        rfl
end
end YK

/-! methods with keyword-only parameters; comprehensions over a list of whatever -/
namespace GV
open PySem PySem.Spec PyProof.Rows L2
def wK (X : Cx) (kws : List Keyword) : TA := fun σ H Q => ∃ t, PK X kws t ∧ t σ H Q
theorem wK.pk {X : Cx} {kws : List Keyword} : PK X kws (wK X kws) := ⟨fun pos pins s σ H Q I ⟨_, h, q⟩ => h.run pos pins s σ H Q I q⟩
section
variable {X : Cx} {M : Addr → Prop} {σ : St} {H : Hp} {a b e o elt tst : Expr} {es : List Expr} {pos : Pos}
theorem ck_nil {Q : List V → Hp → Prop} (q : Q [] H) : wK X [] σ H Q := ⟨_, pk_nil, q⟩
theorem ck_one {nm : Option Str} {kpos : Pos} {Q : List V → Hp → Prop} (h : wE X e σ H fun v H1 => Q [v] H1) : wK X [⟨nm, e, kpos⟩] σ H Q := ⟨_, pk_cons wE.pe pk_nil, h⟩
/-- a method that may be told some of its parameters by name -/
structure MethK (P : Program) (w : World) (K : PySem.W.Frag) (mg : Str → Option Value) (base : Heap) (CX : CXT) (C : Addr) (m : Str) (k : Nat) (ks : List Str) (gV : List V → List V → List V) (sp : Sp) : Prop where
  ex : ∃ (f : Addr) (fd : FuncData) (ps : List Str) (g : List Value → List Value → List Value), Meth K C m f ∧ FnOk P w K mg base CX k f fd ps sp ∧ KBn K fd ps 1 ks g gV
/-- o.m(k = e, ..) -/
theorem ce_methK {C : Addr} {m : Str} {k j : Nat} {ks : List Str} {gV : List V → List V → List V} {CX : CXT} {sp : Sp} {W : WX} {Q : VK} {apos : Pos} {kws : List Keyword} {pl : Sem Bool} (c : Cls X.K C) (t : MethK X.prog X.w X.K X.mg X.base CX C m k ks gV sp) (hr : Room j X.A) (hkj : k ≤ j) (hx : ∀ σ, PassesAt CX X σ (WE W σ))
    (h : wE X o σ H fun x H1 => ∃ a dx fs, x = .ref a ∧ H1 a = some (.ins C dx fs) ∧ fs.lookup m = none ∧ wK X kws σ H1 fun zs H2 => zs.length = ks.length ∧ sp (gV [.ref a] zs) H2 Q fun cls d H' => W cls d σ H')
    (hall : (backToKw pos (keywordEach kws X.env)).all (·.1.isSome) = true := by rfl) (hks : (backToKw pos (keywordEach kws X.env)).filterMap (·.1) = ks := by rfl)
    (hpl : ((backTo pos (starEach [] X.env)).any (·.1) || (backToKw pos (keywordEach kws X.env)).any (·.1.isNone)) = false := by rfl)
    (hev : eval (.Call (.Attribute o m apos) [] kws pos) X.env = (do
      let ov ← eval o X.env
      standAt apos.atName
      let (f, first) ← holding [ov] (getMethod ov m pl)
      callWith pos f first (backTo pos (starEach [] X.env)) (backToKw pos (keywordEach kws X.env))) := by rfl) : wE X (.Call (.Attribute o m apos) [] kws pos) σ H Q := by
  obtain ⟨f, fd, ps, g, hm, F, hb⟩ := t.ex
  refine ⟨fun σ H Q => wE X o σ H fun x H1 => ∃ a dx fs, x = .ref a ∧ H1 a = some (.ins C dx fs) ∧ fs.lookup m = none ∧ wK X kws σ H1 fun zs H2 => zs.length = ks.length ∧ sp (gV [.ref a] zs) H2 Q fun cls d H' => W cls d σ H', ⟨fun pins s σ H Q I h => ?_⟩, h⟩
  refine PySem.W.methodCall_KW (pl := pl) (thn (wE.pe.run pins s σ H _ I h) fun u s1 ⟨x, H1, I1, rx, y, dx, fs, ex, eg, l, q⟩ => ?_) hev
  cases ex
  cases (show u = Value.ref y from rx)
  refine getmeth_ok I1 eg c hm l (PySem.W.callWith_KW0 (first := [.ref y]) (h₀ := X.base) I1.ok.mod.kin hm.kp hall (thn (wK.pk.run pos pins s1 σ H1 _ I1 q) fun ws s2 ⟨zs, H2, I2, rz, hl, q2⟩ => ⟨I2.kIn, ?_⟩) hpl)
  rw [hks]
  have r1 : Vals [V.ref y] [Value.ref y] := .cons rfl .nil
  have r2 := hb.rel r1 rz
  have bt := hb.to s2 [.ref y] ws I2.kIn rfl (by rw [← rz.length, hl])
  refine wpAny_call (codeAny_mono (F.run X.A X.stack s2 H2 ⟨[.ref y], ks.zip ws⟩ _ _ Q _ (hr.mono hkj) I2.env0 bt r2 q2) fun r s' got => ?_)
  match r, got with
  | .error z, got => exact hx σ _ H2 s2 z s' I2 got
  | .ok (.ret u), got => exact I2.after got
  | .ok .next, got => exact (show False from got).elim
  | .ok .brk, got => exact (show False from got).elim
  | .ok .cont, got => exact (show False from got).elim
/-- [elt for x in e if tst], e a list of whatever; the heap is named at each turn -/
theorem ce_lcL {slot : Nat} {x : Str} {p2 : Pos} {scope : Scope} {own : List (Str × Nat)} {Q : VK} (hc : X.calm = true) (hN : X.N.Nodup) (ok : BlkOk X.N X.env.scope scope own)
    (hx : ∀ s H C cl fp, PG (Cx.lc X s H scope C cl fp) (.Name x p2) (gName slot)) (hw : ∀ v, wipe ((wipe σ (own.map (·.2))).set slot (some v)) (own.map (·.2)) = wipe σ (own.map (·.2)))
    (h : wE X e σ H fun v H1 => ∃ (l : Addr) (xs : List V), v = .ref l ∧ H1 l = some (.lst xs) ∧ ∀ D, H1 D = none → ∃ J : Nat → Hp → Prop, J 0 (upd H1 D (.lst [])) ∧ (∀ i H', J i H' → H' l = some (.lst xs)) ∧
      (∀ i H' y, xs[i]? = some y → J i H' → ∀ s0 H0 C cl fp, wT (Cx.lc X s0 H0 scope C cl fp) tst ((wipe σ (own.map (·.2))).set slot (some y)) H' fun b H3 => if b = true then ∀ s0 H0 C cl fp, wE (Cx.lc X s0 H0 scope C cl fp) elt ((wipe σ (own.map (·.2))).set slot (some y)) H3 fun z H4 => ∃ acc, H4 D = some (.lst acc) ∧ acc.length < 100000 ∧ J (i + 1) (upd H4 D (.lst (acc ++ [z]))) else J (i + 1) H3) ∧ ∀ H', J xs.length H' → Q (.ref D) H')
    (hf : ∀ x, foldedSetIterable e X.env x = pure x := by intro _; rfl) : wE X (.ListComp elt [⟨.Name x p2, e, [tst], 0⟩] scope pos) σ H Q := by
  refine ⟨_, pe_lc (tt := fun σ H Q => ∀ s0 H0 C cl fp, wT (Cx.lc X s0 H0 scope C cl fp) tst σ H Q) (te := fun σ H Q => ∀ s0 H0 C cl fp, wE (Cx.lc X s0 H0 scope C cl fp) elt σ H Q) hc hN (pi_list wE.pe) ok hx (fun s0 H0 C cl fp => ⟨fun pins s σ H Q I h => (pts_one wT.pt).run pins s σ H Q I (h s0 H0 C cl fp)⟩)
    (fun s0 H0 C cl fp => ⟨fun pins s σ H Q I h => wE.pe.run pins s σ H Q I (h s0 H0 C cl fp)⟩) hf, wE.weak h ?_⟩
  rintro v H1 ⟨l, xs, rfl, h1, run⟩
  refine ⟨l, rfl, ⟨xs, SqL.of h1⟩, ?_⟩
  intro D hD
  obtain ⟨J, h0, hk, ht, hd⟩ := run D hD
  refine ⟨fun i m H' => m = xs.length - i ∧ i ≤ xs.length ∧ J i H', ⟨xs.length, rfl, Nat.zero_le _, h0⟩, ?_⟩
  rintro i m H' ⟨rfl, hi', j⟩
  have hl := hk _ _ j
  by_cases hlt : i < xs.length
  · refine .inr ⟨⟨xs, xs[i], .inl (.inl hl), List.getElem?_eq_getElem hlt⟩, J (i + 1), fun H2 j2 => ⟨xs.length - (i + 1), by omega, rfl, hlt, j2⟩, fun y H2 q => ?_⟩
    obtain ⟨rfl, q⟩ := q
    refine ⟨hw _, fun s0 H0 C cl fp => wT.weak (ht i _ y (q xs (.inl (.inl hl))) j s0 H0 C cl fp) fun b H3 => ?_⟩
    cases b with
    | false => exact id
    | true =>
      intro hh s1 H1 C1 cl1 fp1
      refine wE.weak (hh s1 H1 C1 cl1 fp1) ?_
      rintro z H4 ⟨acc, a1, a2, a3⟩
      exact ⟨acc, a1, Nat.lt_of_lt_of_le a2 (by rw [sizeLine_eq]; decide), a3⟩
  · have e2 : i = xs.length := by omega
    subst e2
    exact .inl ⟨⟨xs, .inl (.inl hl), Nat.le_refl _⟩, hd H' j⟩
end
end GV

namespace YK
open PySem PySem.Spec PyProof.Rows L2 GV
/-! ### the lines of a log -/
structure Ln where
  row : List Int
  p : Nat
  d : Bool
abbrev Ln.m (l : Ln) : Nat := msk l.row l.p
def lnD (l : Ln) : PyData := .tuple [tintsD l.row, natD l.p, .bool l.d]
def lineD (l : Ln) : PyData := .tuple [tintsD l.row, natD l.p, .bool l.d, natD l.m]
theorem ints_inj : ∀ a b : List Int, a.map PyData.int = b.map PyData.int → a = b
  | [], [], _ => rfl
  | [], _ :: _, h => by cases h
  | _ :: _, [], h => by cases h
  | x :: a, y :: b, h => by
    rw [List.map_cons, List.map_cons, List.cons.injEq] at h
    rw [PyData.int.inj h.1, ints_inj a b h.2]
theorem lnD_inj : ∀ a b : Ln, lnD a = lnD b → a = b := fun a b h => by
  unfold lnD at h
  simp only [PyData.tuple.injEq, List.cons.injEq, and_true] at h
  obtain ⟨h1, h2, h3⟩ := h
  have e1 := ints_inj _ _ h1
  have e2 := natD_inj _ _ h2
  have e3 := PyData.bool.inj h3
  cases a
  cases b
  cases e1
  cases e2
  cases e3
  rfl
theorem lineD_inj : ∀ a b : Ln, lineD a = lineD b → a = b := fun a b h => by
  unfold lineD at h
  simp only [PyData.tuple.injEq, List.cons.injEq, and_true] at h
  obtain ⟨h1, h2, h3, _⟩ := h
  have e1 := ints_inj _ _ h1
  have e2 := natD_inj _ _ h2
  have e3 := PyData.bool.inj h3
  cases a
  cases b
  cases e1
  cases e2
  cases e3
  rfl
theorem flats_ints : ∀ l : List Int, flats (l.map PyData.int) = true
  | [] => rfl
  | _ :: l => by
    show (true && flats (l.map PyData.int)) = true
    rw [flats_ints l]
    rfl
theorem flat_row (l : List Int) : flat (tintsD l) = true := flats_ints l
theorem flats_map {α : Type} {e : α → PyData} (h : ∀ a, flat (e a) = true) : ∀ l : List α, flats (l.map e) = true
  | [] => rfl
  | a :: l => by
    show (flat (e a) && flats (l.map e)) = true
    rw [h a, flats_map h l]
    rfl
theorem flat_ln (l : Ln) : flat (lnD l) = true := by
  show (flat (tintsD l.row) && true) = true
  rw [flat_row]
  rfl
theorem flat_line (l : Ln) : flat (lineD l) = true := by
  show (flat (tintsD l.row) && true) = true
  rw [flat_row]
  rfl
/-! ### what is flat stays where only lists change -/
section
variable {K : PySem.W.Frag} {H H' : Hp} {S : Addr → Prop}
theorem flat_ext {ws : List V} {ds : List PyData} (r : RpAll K M0 H ws ds) (hf : flats ds = true) (L : Lists S H) (e : ExM S H H') : RpAll K M0 H' ws ds := ((r.off hf L).mono (fun _ z => z) e).mono (fun _ z => z.elim) (ExM.refl _)
theorem flat_ext1 {v : V} {d : PyData} (r : Rp K M0 H v d) (hf : flat d = true) (L : Lists S H) (e : ExM S H H') : Rp K M0 H' v d := ((r.off hf L).mono (fun _ z => z) e).mono (fun _ z => z.elim) (ExM.refl _)
theorem upd_exM {a : Addr} {o : HO} (h : S a) : ExM S H (upd H a o) := fun b u hb nb _ => by
  rw [upd_ne (fun e => nb (by rw [e]; exact h))]
  exact hb
theorem ExM.wid {S' : Addr → Prop} (e : ExM S H H') (h : ∀ a, S a → S' a) : ExM S' H H' := fun a o ha na nt => e a o ha (fun z => na (h a z)) nt
theorem ExM.lst {a : Addr} {xs : List V} (e : ExM S H H') (h : H a = some (.lst xs)) (n : ¬ S a) : H' a = some (.lst xs) := e a _ h n (fun _ z => by cases z)
theorem ExM.ins {a C dx : Addr} {fs : List (Str × V)} (e : ExM S H H') (h : H a = some (.ins C dx fs)) (n : ¬ S a) : H' a = some (.ins C dx fs) := e a _ h n (fun _ z => by cases z)
theorem Lists.not_ins {a C dx : Addr} {fs : List (Str × V)} (L : Lists S H) (h : H a = some (.ins C dx fs)) : ¬ S a := fun z => by
  obtain ⟨xs, hx⟩ := L a z
  rw [h] at hx
  cases hx
end
abbrev Two (a b : Addr) : Addr → Prop := fun x => x = a ∨ x = b
theorem lists2 {a b : Addr} {H : Hp} {xs ys : List V} (h1 : H a = some (.lst xs)) (h2 : H b = some (.lst ys)) : Lists (Two a b) H := fun x z => by
  rcases z with rfl | rfl
  · exact ⟨_, h1⟩
  · exact ⟨_, h2⟩
theorem lists1 {a : Addr} {H : Hp} {xs : List V} (h : H a = some (.lst xs)) : Lists (fun x => x = a) H := fun x z => by
  cases z
  exact ⟨_, h⟩
/-! ### the log -/
structure LogC (K : PySem.W.Frag) (CL : Addr) : Prop where
  ins : C8.InsC K CL
  n1 : NoAttr K CL "_lines"
  n2 : NoAttr K CL "_kinds"
structure LogAt (K : PySem.W.Frag) (CL : Addr) (H : Hp) (g l1 l2 : Addr) (ls : List Ln) : Prop where
  ins : ∃ dx, H g = some (.ins CL dx [("_lines", .ref l1), ("_kinds", .ref l2)])
  ne : l1 ≠ l2
  w : ∃ ws, H l1 = some (.lst ws) ∧ RpAll K M0 H ws (ls.map lnD)
  k : H l2 = some (.lst (ls.map fun l => V.int (l.m : Nat)))
section
variable {K : PySem.W.Frag} {CL : Addr} {H H' : Hp} {g l1 l2 : Addr} {ls : List Ln} {S : Addr → Prop}
theorem LogAt.exM (a : LogAt K CL H g l1 l2 ls) (e : ExM S H H') (L : Lists S H) (h1 : ¬ S l1) (h2 : ¬ S l2) : LogAt K CL H' g l1 l2 ls := by
  obtain ⟨dx, hi⟩ := a.ins
  obtain ⟨ws, hw, rw_⟩ := a.w
  exact ⟨⟨dx, ExM.ins e hi (Lists.not_ins L hi)⟩, a.ne, ⟨ws, ExM.lst e hw h1, flat_ext rw_ (flats_map flat_ln ls) L e⟩, ExM.lst e a.k h2⟩
theorem LogAt.ex (a : LogAt K CL H g l1 l2 ls) (x : Evl.Ex H H') : LogAt K CL H' g l1 l2 ls := a.exM (S := M0) (.of x) (fun _ z => z.elim) (fun z => z) fun z => z
theorem LogAt.lists (a : LogAt K CL H g l1 l2 ls) : Lists (Two l1 l2) H := let ⟨_, h, _⟩ := a.w; lists2 h a.k
theorem LogAt.rp (a : LogAt K CL H g l1 l2 ls) : Rp K M0 H (.ref l1) (.list (ls.map lnD)) := let ⟨_, h, r⟩ := a.w; .lst (fun z => z) (.inl h) r
theorem rp_ms : ∀ ls : List Ln, RpAll K M0 H (ls.map fun l => V.int (l.m : Nat)) ((ls.map Ln.m).map natD)
  | [] => .nil
  | l :: ls => .cons (.int _) (rp_ms ls)
theorem LogAt.rk (a : LogAt K CL H g l1 l2 ls) : Rp K M0 H (.ref l2) (natsD (ls.map Ln.m)) := .lst (fun z => z) (.inl a.k) (rp_ms ls)
end
def spLInit (K : PySem.W.Frag) (CL : Addr) : Sp := fun vs H Q _ => ∃ (b dx : Addr), vs = [.ref b] ∧ H b = some (.ins CL dx []) ∧ ∀ H' l1 l2, H l1 = none → H l2 = none → (∀ a o, H a = some o → a ≠ b → H' a = some o) → LogAt K CL H' b l1 l2 [] → Q .non H'
def spNote (K : PySem.W.Frag) (CL : Addr) : Sp := fun vs H Q _ => ∃ (g l1 l2 : Addr) (rv : V) (ls : List Ln) (l : Ln), vs = [.ref g, rv, .int (l.p : Nat), .bl l.d] ∧ LogAt K CL H g l1 l2 ls ∧ Rp K M0 H rv (tintsD l.row) ∧ RowL l.row ∧ l.p + 1 < l.row.length ∧ ls.length < 200 ∧
  ∀ H', ExS (Two l1 l2) H H' → LogAt K CL H' g l1 l2 (ls ++ [l]) → Q .non H'
def spStrike (K : PySem.W.Frag) (CL : Addr) : Sp := fun vs H Q _ => ∃ (g l1 l2 : Addr) (ls : List Ln) (i : Nat), vs = [.ref g, .int (i : Nat)] ∧ LogAt K CL H g l1 l2 ls ∧ i < ls.length ∧ ls.length < 1000 ∧ ∀ H', ExS (Two l1 l2) H H' → LogAt K CL H' g l1 l2 (ls.eraseIdx i) → Q .non H'
def MostL (mg : Str → Option Value) : Prop := ∃ t, mg "_MOST_LINES" = some (.int 200 t)
section
variable {X : Cx} {CL : Addr} {σ : St} {H : Hp} {e : Expr} {pos : Pos}
theorem ce_lnsA {Q : VK} (B : LogC X.K CL) (h : wE X e σ H fun x H1 => ∃ g l1 l2 ls, x = .ref g ∧ LogAt X.K CL H1 g l1 l2 ls ∧ Q (.ref l1) H1) (hb : attributeBase e "_lines" X.env (eval e X.env) = eval e X.env := by rfl) : wE X (.Attribute e "_lines" pos) σ H Q :=
  ce_fld (wE.weak h fun x H1 ⟨g, l1, l2, ls, ex, a, q⟩ => let ⟨dx, hi⟩ := a.ins; ⟨g, CL, dx, _, _, ex, hi, B.ins.cl, B.n1, rfl, q⟩) hb
theorem ce_kndA {Q : VK} (B : LogC X.K CL) (h : wE X e σ H fun x H1 => ∃ g l1 l2 ls, x = .ref g ∧ LogAt X.K CL H1 g l1 l2 ls ∧ Q (.ref l2) H1) (hb : attributeBase e "_kinds" X.env (eval e X.env) = eval e X.env := by rfl) : wE X (.Attribute e "_kinds" pos) σ H Q :=
  ce_fld (wE.weak h fun x H1 ⟨g, l1, l2, ls, ex, a, q⟩ => let ⟨dx, hi⟩ := a.ins; ⟨g, CL, dx, _, _, ex, hi, B.ins.cl, B.n2, rfl, q⟩) hb
theorem ce_lenL {p : Pos} {Q : VK} (hg : Gl X "len") (hm : X.mg "len" = none) (h : wE X e σ H fun x H1 => ∃ l xs, x = .ref l ∧ H1 l = some (.lst xs) ∧ Q (.int (xs.length : Nat)) H1)
    (hs : starEach (e :: []) X.env = (false, eval e X.env) :: starEach [] X.env := by rfl) (hpl : (backTo pos (starEach [] X.env)).any (·.1) = false := by rfl) : wE X (.Call (.Name "len" p) [e] [] pos) σ H Q :=
  ⟨_, pe_callB call_len_seq hg hm PySem.boot_len wA.pa (by decide) (by decide) hs hpl, ca_cons (wE.weak h fun x H1 ⟨l, xs, ex, hl, q⟩ => ca_nil ⟨l, xs, by rw [ex], .inl (SqL.of hl), q⟩) hs⟩
end
section
variable {P : Program} {w : World} {K : PySem.W.Frag} {mg : Str → Option Value} {base : Heap} {CL CN : Addr}
theorem ok_linit {f : Addr} {fd : FuncData} (F : Fun K "__init__" "Log.__init__" s_Log_init f fd) (B : LogC K CL) : FnOk P w K mg base CX0 1 f fd ["self"] (spLInit K CL) := by
  refine F.ok sc_Log_init (fun vs H Q E h => ?_) (fun cdv A outer sh H vs Q E hr h => ⟨_, wB.ps, ?_⟩)
  · obtain ⟨b, dx, rfl, _⟩ := h
    rfl
  obtain ⟨b, dx, rfl, hb, q⟩ := h
  refine b_cons (cs_fld (ce_lst (ca_nil ⟨(by decide), fun l1 h1 => ce_nm 0 ⟨b, CL, dx, [], rfl, by rw [upd_ne (ne_of_none hb h1)]; exact hb, B.ins.cl, B.n1, (by show 0 < 1000; decide), ?_⟩⟩)))
  have nb1 : b ≠ l1 := ne_of_none hb h1
  have hb1 : upd (upd H l1 (.lst [])) b (.ins CL dx (putF "_lines" (.ref l1) [])) b = some (.ins CL dx [("_lines", .ref l1)]) := upd_same
  refine b_cons (cs_fld (ce_lst (ca_nil ⟨(by decide), fun l2 h2 => ?_⟩)))
  have n2b : l2 ≠ b := fun e => by
    rw [e, hb1] at h2
    cases h2
  have n21 : l2 ≠ l1 := fun e => by
    rw [e, upd_ne nb1.symm, upd_same] at h2
    cases h2
  have h2' : H l2 = none := by
    rw [upd_ne n2b, upd_ne n21] at h2
    exact h2
  refine ce_nm 0 ⟨b, CL, dx, [("_lines", .ref l1)], rfl, by rw [upd_ne n2b.symm]; exact hb1, B.ins.cl, B.n2, (by show 1 < 1000; decide), b_nil (q _ l1 l2 h1 h2' (fun a o ha na => ?_) ⟨⟨dx, upd_same⟩, n21.symm, ⟨[], ?_, .nil⟩, ?_⟩)⟩
  · rw [upd_ne na, upd_ne (ne_of_none ha h2'), upd_ne na, upd_ne (ne_of_none ha h1)]
    exact ha
  · rw [upd_ne nb1.symm, upd_ne n21.symm, upd_ne nb1.symm, upd_same]
  · rw [upd_ne n2b, upd_same]
    rfl
theorem ok_note {f : Addr} {fd : FuncData} (F : Fun K "note" "Log.note" s_Log_note f fd) (nb : NoB mg) (B : LogC K CL) (gM : MostL mg) (c1 : Cl P w K mg base CX0 6 "check_row" (spRowOk K toN)) (c2 : Cl P w K mg base CX0 4 "check_place" (spPlOk K)) (c3 : Cl P w K mg base CX0 1 "check_answer" spAns) (c4 : Cl P w K mg base CX0 1 "check_room" spRoom) (c5 : Cl P w K mg base CX0 3 "_kinds_number" (PureR K R_kn)) :
    FnOk P w K mg base CX0 7 f fd ["self", "row", "place", "done"] (spNote K CL) := by
  refine F.ok sc_Log_note (fun vs H Q E h => ?_) (fun cdv A outer sh H vs Q E hr h => ⟨_, wB.ps, ?_⟩)
  · obtain ⟨g, l1, l2, rv, ls, l, rfl, _⟩ := h
    rfl
  obtain ⟨g, l1, l2, rv, ls, l, rfl, a, r, hrow, hp, hl, q⟩ := h
  obtain ⟨tm, gM⟩ := gM
  refine b_cons (cs_expr (ce_call c1 hr (by decide) rfl (ca_cons (ce_nm 1 (ca_nil ⟨M0, rv, true, l.row, rfl, alive0, r, hrow, fun H1 x1 => ?_⟩)))))
  have r1 := r.mono (fun _ z => z) (ExM.of x1)
  refine b_cons (cs_expr (ce_call c2 hr (by decide) rfl (ca_cons (ce_nm 1 (ca_cons (ce_nm 2 (ca_nil ⟨M0, rv, _, true, l.row, l.p, rfl, alive0, r1, .int _, hp, fun H2 x2 => ?_⟩)))))))
  refine b_cons (cs_expr (ce_call c3 hr (by decide) rfl (ca_cons (ce_nm 3 (ca_nil ⟨_, rfl, ?_⟩)))))
  have a2 := a.ex (x1.trans x2)
  obtain ⟨ws, hw, rws⟩ := a2.w
  have hlen : ws.length = ls.length := by rw [rws.length, List.length_map]
  refine b_cons (cs_expr (ce_call c4 hr (by decide) rfl (ca_cons (ce_lenL rfl nb.len (ce_lnsA B (ce_nm 0 ⟨g, l1, l2, ls, rfl, a2, l1, ws, rfl, hw, ca_cons ⟨_, pe_glob rfl gM (v := .int 200) ⟨tm, rfl⟩ (by decide), ca_nil ⟨_, _, rfl, by omega, fun H3 x3 => ?_⟩⟩⟩))))))
  have x13 := (x1.trans x2).trans x3
  have a3 := a.ex x13
  have r3 := r.mono (fun _ z => z) (ExM.of x13)
  refine b_cons (cs_expr (ce_append (ce_lnsA B (ce_nm 0 ⟨g, l1, l2, ls, rfl, a3, l1, ws, rfl, x3 _ _ hw, ce_tup (ca_cons (ce_pd (M := M0) alive0 (pd_callTy call_tuple_of rfl nb.tuple PyProof.Rows.boot_tuple (ad_cons (nm 1 r3) ad_nil) (rn_tuple rfl)) fun tv H4 x4 r4 => ca_cons (ce_nm 2 (ca_cons (ce_nm 3 (ca_nil ⟨(by show 3 ≤ 1000; decide), fun p hp4 => ?_⟩))))))⟩))))
  have x5 := x4.trans (Evl.Ex.new hp4 (o := .tup [tv, .int (l.p : Nat), .bl l.d]))
  have a5 := a3.ex x5
  generalize hH5 : upd H4 p (.tup [tv, .int (l.p : Nat), .bl l.d]) = H5 at x5 a5 ⊢
  have hp5 : H5 p = some (.tup [tv, .int (l.p : Nat), .bl l.d]) := hH5 ▸ upd_same
  obtain ⟨ws', hw5, rws5⟩ := a5.w
  have r5 : Rp K M0 H5 tv (tintsD l.row) := r4.mono (fun _ z => z) (by rw [← hH5]; exact .of (Evl.Ex.new hp4))
  have rl : Rp K M0 H5 (.ref p) (lnD l) := .tup (fun z => z) (.inl hp5) (.cons r5 (.cons (.int _) (.cons (.bl _) .nil)))
  have rv5 : Rp K M0 H5 rv (tintsD l.row) := r3.mono (fun _ z => z) (.of x5)
  refine ⟨ws', hw5, by rw [rws5.length, List.length_map]; omega, ?_⟩
  generalize hH6 : upd H5 l1 (.lst (ws' ++ [.ref p])) = H6
  have e6 : ExM (fun x => x = l1) H5 H6 := hH6 ▸ upd_exM rfl
  have s6 : ExS (Two l1 l2) H5 H6 := hH6 ▸ ExS.upd (.inl rfl)
  have L5 := lists1 hw5
  obtain ⟨dx, hi5⟩ := a5.ins
  have hg6 : H6 g = some (.ins CL dx [("_lines", .ref l1), ("_kinds", .ref l2)]) := ExM.ins e6 hi5 (Lists.not_ins (S := fun x => x = l1) L5 hi5)
  have hk6 := ExM.lst e6 a5.k (fun z => a5.ne z.symm)
  have rv6 := flat_ext1 rv5 (flat_row _) L5 e6
  have rw6 : RpAll K M0 H6 (ws' ++ [.ref p]) ((ls ++ [l]).map lnD) := by
    rw [List.map_append]
    exact flat_ext (rws5.append (.cons rl .nil)) (by rw [← List.map_append]; exact flats_map flat_ln _) L5 e6
  have hw6 : H6 l1 = some (.lst (ws' ++ [.ref p])) := hH6 ▸ upd_same
  refine b_cons (cs_expr (ce_append (ce_fld (ce_nm 0 ⟨g, CL, dx, _, _, rfl, hg6, B.ins.cl, B.n2, rfl, l2, _, rfl, hk6, ce_pd (M := M0) alive0 (pd_callC c5 hr (by decide) rfl (ad_cons (nm 1 rv6) (ad_cons (nm 2 (.int (l.p : Nat))) ad_nil)) ⟨true, l.row, l.p, hp, by have := hrow.1; omega, rfl, rfl⟩) fun kv H7 x7 r7 => ⟨_, x7 _ _ hk6, by rw [List.length_map]; omega, b_nil ?_⟩⟩))))
  cases r7
  have e8 : ExM (fun x => x = l2) H7 (upd H7 l2 (.lst ((ls.map fun l => V.int (l.m : Nat)) ++ [.int (l.m : Nat)]))) := upd_exM rfl
  have L7 := lists1 (x7 _ _ hk6)
  refine q _ ?_ ⟨⟨dx, ExM.ins e8 (x7 _ _ hg6) (Lists.not_ins (S := fun x => x = l2) L7 (x7 _ _ hg6))⟩, a5.ne, ⟨_, ExM.lst e8 (x7 _ _ hw6) a5.ne, flat_ext (rw6.mono (fun _ z => z) (.of x7)) (flats_map flat_ln _) L7 e8⟩, ?_⟩
  · exact ((ExS.of (x13.trans x5)).trans s6).trans ((ExS.of x7).trans (ExS.upd (.inr rfl)))
  · rw [upd_same, List.map_append]
    rfl
end
end YK

namespace YK
open PySem PySem.Spec PyProof.Rows L2 GV
/-! ### what a log tells -/
def enD (q : Ln × Nat) : PyData := .tuple [natD q.2, lnD q.1]
theorem enD_inj : ∀ a b : Ln × Nat, enD a = enD b → a = b := fun a b h => by
  unfold enD at h
  simp only [PyData.tuple.injEq, List.cons.injEq, and_true] at h
  exact Prod.ext (lnD_inj _ _ h.2) (natD_inj _ _ h.1)
theorem enum_ln (ls : List Ln) : enumD (ls.map lnD) = ls.zipIdx.map enD := by
  unfold enumD
  rw [List.zipIdx_map, List.map_map]
  rfl
def wrongL (ls : List Ln) (n : Nat) : List Nat := (ls.zipIdx.filter fun q => (decide (0 < n &&& q.1.m)) != q.1.d).map (·.2)
def fitN (ls : List Ln) (wr : Int) : List Nat := ((List.range 63).map (· + 1)).filter fun n => decide (((wrongL ls n).length : Int) ≤ wr)
def fitTo (ls : List Ln) (wr : Int) (i : Nat) : List Nat := ((List.range i).map (· + 1)).filter fun n => decide (((wrongL ls n).length : Int) ≤ wr)
theorem fitTo_succ (ls : List Ln) (wr : Int) (i : Nat) : fitTo ls wr (i + 1) = fitTo ls wr i ++ (if decide (((wrongL ls (i + 1)).length : Int) ≤ wr) = true then [i + 1] else []) := by
  unfold fitTo
  rw [List.range_succ, List.map_append, List.filter_append]
  simp only [List.map_cons, List.map_nil, List.filter_cons, List.filter_nil]
theorem fit_lt {ls : List Ln} {wr : Int} {n : Nat} (h : n ∈ fitN ls wr) : 1 ≤ n ∧ n < 64 := by
  obtain ⟨i, hi, rfl⟩ := List.mem_map.mp (List.mem_filter.mp h).1
  have := List.mem_range.mp hi
  exact ⟨by omega, by show i + 1 < 64; omega⟩
theorem fit_len (ls : List Ln) (wr : Int) : (fitN ls wr).length ≤ 63 := Nat.le_trans (List.length_filter_le _ _) (by rw [List.length_map, List.length_range]; exact Nat.le_refl _)
def orL (l : List Nat) : Nat := l.foldl (· ||| ·) 0
theorem orL_lt {l : List Nat} (h : ∀ n ∈ l, n < 64) : orL l < 64 := by
  unfold orL
  have key : ∀ (l : List Nat) (a : Nat), a < 64 → (∀ n ∈ l, n < 64) → l.foldl (· ||| ·) a < 64 := by
    intro l
    induction l with
    | nil => exact fun a ha _ => ha
    | cons b l ih => exact fun a ha hl => ih _ (Nat.or_lt_two_pow (n := 6) ha (hl b (List.mem_cons_self ..))) fun n hn => hl n (List.mem_cons_of_mem _ hn)
  exact key l 0 (by decide) h
theorem orL_snoc (l : List Nat) (n : Nat) : orL (l ++ [n]) = orL l ||| n := by
  unfold orL
  rw [List.foldl_append]
  rfl
def txtD (n : Nat) : PyData := .str (txN n)
theorem rp_erase {K : PySem.W.Frag} {M : Addr → Prop} {H : Hp} : ∀ {vs : List V} {ds : List PyData} (j : Nat), RpAll K M H vs ds → RpAll K M H (vs.eraseIdx j) (ds.eraseIdx j)
  | _, _, _, .nil => .nil
  | _, _, 0, .cons _ r => r
  | _, _, j + 1, .cons h r => .cons h (rp_erase j r)
theorem map_erase {α β : Type} (f : α → β) : ∀ (l : List α) (i : Nat), (l.map f).eraseIdx i = (l.eraseIdx i).map f
  | [], _ => rfl
  | _ :: _, 0 => rfl
  | a :: l, i + 1 => by
    show f a :: (l.map f).eraseIdx i = f a :: (l.eraseIdx i).map f
    rw [map_erase f l i]
def spWrong (K : PySem.W.Frag) (CL : Addr) : Sp := fun vs H Q _ => ∃ (g l1 l2 : Addr) (ls : List Ln) (n : Nat), vs = [.ref g, .int (n : Nat)] ∧ LogAt K CL H g l1 l2 ls ∧ ls.length ≤ 1000 ∧ toFr K ((wrongL ls n).map natD) H Q
def spFitN (K : PySem.W.Frag) (CL : Addr) : Sp := fun vs H Q _ => ∃ (g l1 l2 : Addr) (ls : List Ln) (wr : Int), vs = [.ref g, .int wr] ∧ LogAt K CL H g l1 l2 ls ∧ ls.length ≤ 1000 ∧ toFr K ((fitN ls wr).map natD) H Q
def spFit (K : PySem.W.Frag) (CL CN : Addr) : Sp := fun vs H Q E => ∃ (g l1 l2 : Addr) (ls : List Ln) (wv : V), vs = [.ref g, wv] ∧ LogAt K CL H g l1 l2 ls ∧ ls.length ≤ 1000 ∧ ((∃ wr : Int, wv = .int wr ∧ 0 ≤ wr ∧ wr ≤ 200 ∧ toFr K ((fitN ls wr).map txtD) H Q) ∨ (∃ d, Rp K M0 H wv d ∧ isNumD d 0 200 = false ∧ Raised CN [("number", wv)] H E))
def spGreat (K : PySem.W.Frag) (CL : Addr) : Sp := fun vs H Q _ => ∃ (g l1 l2 : Addr) (ls : List Ln), vs = [.ref g] ∧ LogAt K CL H g l1 l2 ls ∧ ls.length ≤ 1000 ∧ ∀ H', Evl.Ex H H' → Q (if orL (fitN ls 0) = 0 then .non else .str (txN (orL (fitN ls 0)))) H'
def spLeast (K : PySem.W.Frag) (CL : Addr) : Sp := fun vs H Q _ => ∃ (g l1 l2 : Addr) (ls : List Ln), vs = [.ref g] ∧ LogAt K CL H g l1 l2 ls ∧ ls.length ≤ 1000 ∧ toFr K ((finestN (fitN ls 0)).map txtD) H Q
section
variable {P : Program} {w : World} {K : PySem.W.Frag} {mg : Str → Option Value} {base : Heap} {CL CN CH : Addr}
theorem ok_strike {f : Addr} {fd : FuncData} (F : Fun K "strike" "Log.strike" s_Log_strike f fd) (nb : NoB mg) (B : LogC K CL) (c1 : Cl P w K mg base (L2.CX P w) 3 "check_number" (spCN K CN)) : FnOk P w K mg base (L2.CX P w) 4 f fd ["self", "index"] (spStrike K CL) := by
  refine F.okX sc_Log_strike (fun vs H Q E h => ?_) (fun cdv A outer sh H vs Q E hr h => ⟨_, wB.ps, ?_⟩)
  · obtain ⟨g, l1, l2, ls, i, rfl, _⟩ := h
    rfl
  obtain ⟨g, l1, l2, ls, i, rfl, a, hi, hl, q⟩ := h
  have tk : Takes _ (fun cls d (_ : St) H' => E cls d H') := takes_of (X := cxOf (L2.CX P w) P w K mg base n_Log_strike "Log.strike" (defScope s_Log_strike) f cdv A outer sh H E) rfl rfl rfl rfl
  obtain ⟨ws, hw, rws⟩ := a.w
  have hlen : ws.length = ls.length := by rw [rws.length, List.length_map]
  have sq : ∀ n : Nat, i < n → seqIndex? (i : Nat) n = some i := fun n hn => by
    unfold seqIndex?
    have h1 : ¬ ((i : Nat) : Int) < 0 := by omega
    simp only [h1, if_false]
    have h2 : (decide (0 ≤ ((i : Nat) : Int)) && decide (((i : Nat) : Int) < (n : Nat))) = true := by
      rw [Bool.and_eq_true, decide_eq_true_eq, decide_eq_true_eq]
      omega
    rw [if_pos h2, Int.toNat_natCast]
  refine b_cons (cs_expr (ce_callX c1 hr (by decide) rfl tk (ca_cons (ce_nm 1 (ca_cons (ce_intC (ca_cons (ce_sub (ce_lenL rfl nb.len (ce_lnsA B (ce_nm 0 ⟨g, l1, l2, ls, rfl, a, l1, ws, rfl, hw, ce_intC ⟨_, 1, rfl, rfl, ca_nil ⟨_, .int (i : Nat), 0, _, rfl, .int _, .inl ⟨?_, fun H1 x1 => ?_⟩⟩⟩⟩)))))))))))
  · show (decide (0 ≤ ((i : Nat) : Int)) && decide (((i : Nat) : Int) ≤ (ws.length : Nat) - 1)) = true
    rw [Bool.and_eq_true, decide_eq_true_eq, decide_eq_true_eq]
    omega
  have a1 := a.ex x1
  have hw1 := x1 _ _ hw
  refine b_cons ⟨_, ps_delL wE.pe wE.pe, ce_lnsA B (ce_nm 0 ⟨g, l1, l2, ls, rfl, a1, ce_nm 1 ⟨l1, ws, _, i, rfl, rfl, hw1, by omega, by omega, sq _ (by omega), ?_⟩⟩)⟩
  have e2 : ExM (fun x => x = l1) H1 (upd H1 l1 (.lst (ws.eraseIdx i))) := upd_exM rfl
  have s2 : ExS (Two l1 l2) H1 (upd H1 l1 (.lst (ws.eraseIdx i))) := ExS.upd (.inl rfl)
  generalize hH2 : upd H1 l1 (.lst (ws.eraseIdx i)) = H2 at e2 s2 ⊢
  have hw2 : H2 l1 = some (.lst (ws.eraseIdx i)) := hH2 ▸ upd_same
  have L1 := lists1 hw1
  obtain ⟨dx, hi1⟩ := a1.ins
  have hg2 := ExM.ins e2 hi1 (Lists.not_ins (S := fun x => x = l1) L1 hi1)
  have hk2 := ExM.lst e2 a1.k fun z => a1.ne z.symm
  refine b_cons ⟨_, ps_delL wE.pe wE.pe, ce_fld (ce_nm 0 ⟨g, CL, dx, _, _, rfl, hg2, B.ins.cl, B.n2, rfl, ce_nm 1 ⟨l2, _, _, i, rfl, rfl, hk2, by omega, by omega, sq _ (by rw [List.length_map]; omega), b_nil ?_⟩⟩)⟩
  have e3 : ExM (fun x => x = l2) H2 (upd H2 l2 (.lst ((ls.map fun l => V.int (l.m : Nat)).eraseIdx i))) := upd_exM rfl
  have L2' := lists1 hk2
  have r1 : RpAll K M0 H1 (ws.eraseIdx i) ((ls.eraseIdx i).map lnD) := by
    rw [← map_erase]
    exact rp_erase i (rws.mono (fun _ z => z) (.of x1))
  refine q _ (((ExS.of x1).trans s2).trans (ExS.upd (.inr rfl))) ⟨⟨dx, ExM.ins e3 hg2 (Lists.not_ins (S := fun x => x = l2) L2' hg2)⟩, a1.ne, ⟨_, ExM.lst e3 hw2 a1.ne, flat_ext (flat_ext r1 (flats_map flat_ln _) L1 e2) (flats_map flat_ln _) L2' e3⟩, ?_⟩
  rw [upd_same, map_erase]
theorem ok_wrong_for {f : Addr} {fd : FuncData} (F : Fun K "_wrong_for" "Log._wrong_for" s_Log_wrong_for f fd) (nb : NoB mg) (B : LogC K CL) (c1 : Cl P w K mg base CX0 1 "_frees" (PureR K R_frees)) : FnOk P w K mg base CX0 2 f fd ["self", "number"] (spWrong K CL) := by
  refine F.ok sc_Log_wrong_for (fun vs H Q E h => ?_) (fun cdv A outer sh H vs Q E hr h => ⟨_, wB.ps, ?_⟩)
  · obtain ⟨g, l1, l2, ls, n, rfl, _⟩ := h
    rfl
  obtain ⟨g, l1, l2, ls, n, rfl, a, hl, q⟩ := h
  have pk : ∀ {X : Cx} {σ : St} {H1 : Hp} {e : Expr} {pos : Pos}, X.K = K → LogAt K CL H1 g l1 l2 ls → (∀ H2 (Q : VK), Q (.ref g) H2 → wE X e σ H2 Q) → attributeBase e "_kinds" X.env (eval e X.env) = eval e X.env → PD X M0 (.Attribute e "_kinds" pos) σ H1 (natsD (ls.map Ln.m)) := by
    intro X σ H1 e pos hK a1 he hb
    subst hK
    exact .mk fun H2 e2 al Q q => ce_kndA B (he _ _ ⟨g, l1, l2, ls, rfl, a1.exM (S := M0) e2 (fun _ z => z.elim) (fun z => z) fun z => z, q _ H2 (Evl.Ex.refl _) ((a1.exM (S := M0) e2 (fun _ z => z.elim) (fun z => z) fun z => z).rk)⟩) hb
  have pl : ∀ {X : Cx} {σ : St} {H1 : Hp} {e : Expr} {pos : Pos}, X.K = K → LogAt K CL H1 g l1 l2 ls → (∀ H2 (Q : VK), Q (.ref g) H2 → wE X e σ H2 Q) → attributeBase e "_lines" X.env (eval e X.env) = eval e X.env → PD X M0 (.Attribute e "_lines" pos) σ H1 (.list (ls.map lnD)) := by
    intro X σ H1 e pos hK a1 he hb
    subst hK
    exact .mk fun H2 e2 al Q q => ce_lnsA B (he _ _ ⟨g, l1, l2, ls, rfl, a1.exM (S := M0) e2 (fun _ z => z.elim) (fun z => z) fun z => z, q _ H2 (Evl.Ex.refl _) ((a1.exM (S := M0) e2 (fun _ z => z.elim) (fun z => z) fun z => z).rp)⟩) hb
  refine b_cons (cs_set (i := 2) sc_Log_wrong_for.nd rfl (by first | exact .inl rfl | exact .inr rfl) (ce_fd (M := M0) alive0 (fd_mapA natD_inj (fun m => .bool (decide (0 < n &&& m))) (l := ls.map Ln.m) (t := .one 3) (own := [("kinds", 3)]) rfl sc_Log_wrong_for.nd (src_list (pk rfl a (fun H2 Q q => ce_nm 0 q) rfl)) (blkOk_by (N := n_Log_wrong_for) (sc := defScope s_Log_wrong_for) (by decide +kernel)) (fun _ _ _ _ _ => pg_name (i := 3) sc_Log_wrong_for.nd rfl (.inl rfl)) (fun _ _ => trivial) ?_ (by rw [List.length_map]; omega) ?_) fun fl ws H1 hfl x1 h1 r1 => ?_))
  · rintro M H d σ' ⟨_, _, rfl⟩
    rfl
  · rintro s0 H0 C cl fp M' H' k σ' hM lift kp hk ⟨v', rv, rfl⟩
    exact pd_callC c1 hr (by decide) rfl (ad_cons (nm 1 (.int (n : Nat))) (ad_cons (nm 3 rv) ad_nil)) ⟨n, k, rfl, rfl⟩
  have a1 := a.ex x1
  have rf : Rp K M0 H1 (.ref fl) (.list ((ls.map Ln.m).map fun m => .bool (decide (0 < n &&& m)))) := .lst (fun z => z) (.inl h1) r1
  have e : (wrongL ls n).map natD = (ls.zipIdx.filter fun q => (decide (0 < n &&& q.1.m)) != q.1.d).map fun q => natD q.2 := by
    unfold wrongL
    rw [List.map_map]
    rfl
  rw [e] at q
  refine b_cons (cs_ret (ce_fd (M := M0) alive0 (fd_filterA enD_inj (fun q => (decide (0 < n &&& q.1.m)) != q.1.d) (fun q => natD q.2) (l := ls.zipIdx) (t := .two 4 5) (own := [("index", 4), ("line", 5)]) rfl sc_Log_wrong_for.nd (by rw [← enum_ln]; exact src_enum rfl nb.enumerate (pl rfl a1 (fun H2 Q q => ce_nm 0 q) rfl)) (blkOk_by (N := n_Log_wrong_for) (sc := defScope s_Log_wrong_for) (by decide +kernel)) (fun _ _ _ _ _ => pg_tup rfl (pgs_cons (pg_name (i := 4) sc_Log_wrong_for.nd rfl (.inl rfl)) (pgs_cons (pg_name (i := 5) sc_Log_wrong_for.nd rfl (.inl rfl)) pgs_nil))) ?_ ?_ (by rw [List.length_zipIdx]; omega) ?_) fun p ws2 H2 hp x2 h2 r2 => q p ws2 H2 (Evl.fresh_back x1 hp) (x1.trans x2) h2 r2))
  · intro d hd
    obtain ⟨y, _, rfl⟩ := List.mem_map.mp hd
    exact ⟨_, _, rfl⟩
  · rintro M H d σ' ⟨_, _, _, _, _, _, _, rfl⟩
    rfl
  · rintro s0 H0 C cl fp M' H' y σ' hM lift kp hy ⟨da, db, v1, v2, e, q1, q2, rfl⟩
    obtain ⟨l, i⟩ := y
    cases e
    have hi : ls[i]? = some l := List.mk_mem_zipIdx_iff_getElem?.mp hy
    refine ⟨TD.is (td_ne hr.units (pd_ix (nm 2 (lift _ _ rf)) (nm 4 q1) (d := .bool (decide (0 < n &&& l.m))) (ixD_list (by rw [List.getElem?_map, List.getElem?_map, hi]; rfl))) (pd_ix (nm 5 q2) pd_int (d := .bool l.d) rfl) rfl rfl) ?_, nm 4 q1⟩
    show (!PyData.eqv _ _) = _
    cases decide (0 < n &&& l.m) <;> cases l.d <;> rfl
end
end YK

namespace YK
open PySem PySem.Spec PyProof.Rows L2 GV
theorem HAt.chg {CH h : Addr} {n : Nat} {H H' : Hp} {S : Addr → Prop} (a : HAt CH n H h) (e : ExM S H H') (L : Lists S H) : HAt CH n H' h := by
  obtain ⟨dx, hi⟩ := a
  exact ⟨dx, ExM.ins e hi (Lists.not_ins L hi)⟩
theorem HsL.chg {CH : Addr} {n : Nat} {H H' : Hp} {xs : List V} {S : Addr → Prop} (a : HsL CH n H xs) (e : ExM S H H') (L : Lists S H) : HsL CH n H' xs := ⟨a.1, fun i hi => let ⟨h, e1, o⟩ := a.2 i hi; ⟨h, e1, o.chg e L⟩⟩
theorem exb_of {D : Addr} {H H1 : Hp} (e : ExB D H H1) (hD : H D = none) : Evl.Ex H H1 := fun a o ha => e a o (ne_of_none ha hD) ha
section
variable {P : Program} {w : World} {K : PySem.W.Frag} {mg : Str → Option Value} {base : Heap} {CL CN CH : Addr}
theorem ok_fitting_numbers {f : Addr} {fd : FuncData} (F : Fun K "_fitting_numbers" "Log._fitting_numbers" s_Log_fitting_numbers f fd) (nb : NoB mg) (B : LogC K CL) (BH : HouC K CH) (gH : mg "House" = some (.ref CH)) (ev : StatS P w K mg base CH "every" 4 (spEv CH)) (wf : MethS P w K mg base CX0 CL "_wrong_for" 2 ["self", "number"] (spWrong K CL)) :
    FnOk P w K mg base CX0 5 f fd ["self", "wrong"] (spFitN K CL) := by
  refine F.ok sc_Log_fitting_numbers (fun vs H Q E h => ?_) (fun cdv A outer sh H vs Q E hr h => ⟨_, wB.ps, ?_⟩)
  · obtain ⟨g, l1, l2, ls, wr, rfl, _⟩ := h
    rfl
  obtain ⟨g, l1, l2, ls, wr, rfl, a, hl, q⟩ := h
  refine b_cons (cs_ret (ce_lcL (slot := 2) (own := [("house", 2)]) rfl sc_Log_fitting_numbers.nd (blkOk_by (N := n_Log_fitting_numbers) (sc := defScope s_Log_fitting_numbers) (by decide +kernel)) (fun _ _ _ _ _ => pg_name (i := 2) sc_Log_fitting_numbers.nd rfl (.inl rfl)) (fun _ => rfl) (ce_stat0 ev hr (by decide) rfl gH ⟨rfl, fun l xs H1 hl0 x1 h1 hs => ⟨l, xs, rfl, h1, fun D hD => ?_⟩⟩)))
  have a1 := a.ex x1
  have nl : D ≠ l := fun e => by rw [e, h1] at hD; cases hD
  have n1 : D ≠ l1 := fun e => by
    obtain ⟨ws, hw, _⟩ := a1.w
    rw [e, hw] at hD
    cases hD
  have n2 : D ≠ l2 := fun e => by rw [e, a1.k] at hD; cases hD
  have upS : ∀ {H2 : Hp} {xs ys : List V}, H2 D = some (.lst xs) → ExM (fun x => x = D) H2 (upd H2 D (.lst ys)) ∧ Lists (fun x => x = D) H2 := fun h => ⟨upd_exM rfl, lists1 h⟩
  refine ⟨fun i H' => ExB D H1 H' ∧ LogAt K CL H' g l1 l2 ls ∧ HsL CH 63 H' xs ∧ H' l = some (.lst xs) ∧ H' D = some (.lst ((fitTo ls wr i).map fun n => V.int (n : Nat))), ⟨ExB.upd, ?_, ?_, ?_, upd_same⟩, fun i H' j => j.2.2.2.1, ?_, ?_⟩
  · exact a1.ex (Evl.Ex.new hD)
  · exact hs.ext (Evl.Ex.new hD)
  · rw [upd_ne nl.symm]
    exact h1
  · rintro i H' y hy ⟨ex, aH, hsH, hlH, hDH⟩ s0 H0 C cl fp
    have hi : i < 63 := by
      have := (List.getElem?_eq_some_iff.mp hy).1
      rw [hsH.1] at this
      exact this
    obtain ⟨h, hx, ho⟩ := hsH.2 i hi
    rw [hy] at hx
    cases hx
    obtain ⟨dx, hg⟩ := aH.ins
    refine ⟨_, pt_cmpR op_le wE.pe wE.pe (nomark _), ce_lenL rfl nb.len (ce_methH B.ins.cl wf hr (by decide) (ce_nm 0 ⟨g, dx, _, rfl, hg, rfl, ca_cons (ce_pd (M := M0) alive0 (pd_numH BH (hnm 2 ho)) fun v2 H2 x2 r2 => ca_nil ?_)⟩))⟩
    cases r2
    refine ⟨g, l1, l2, ls, i + 1, rfl, aH.ex x2, hl, fun p ws H3 hp x3 h3 r3 => ⟨p, ws, rfl, h3, ce_nm 1 ⟨_, wr, rfl, rfl, _, rfl, ?_⟩⟩⟩
    have lw : ws.length = (wrongL ls (i + 1)).length := by rw [r3.length, List.length_map]
    rw [lw]
    have x23 := x2.trans x3
    by_cases hd : (((wrongL ls (i + 1)).length : Nat) : Int) ≤ wr
    · rw [decide_eq_true hd]
      show (if (true : Bool) = true then _ else _)
      rw [if_pos rfl]
      intro s1 H01 C1 cl1 fp1
      refine ce_pd (M := M0) alive0 (pd_numH BH (hnm 2 (ho.ex' x23))) fun v4 H4 x4 r4 => ?_
      cases r4
      have x24 := x23.trans x4
      have hD4 := x24 _ _ hDH
      obtain ⟨e5, L5⟩ := upS (ys := (fitTo ls wr i).map (fun n => V.int (n : Nat)) ++ [.int ((i + 1 : Nat) : Int)]) hD4
      refine ⟨_, hD4, by rw [List.length_map]; exact Nat.lt_of_le_of_lt (List.length_filter_le _ _) (by rw [List.length_map, List.length_range]; omega), (ex.trans (.of x24)).trans .upd, (aH.ex x24).exM (S := fun x => x = D) e5 L5 (fun z => n1 z.symm) (fun z => n2 z.symm), (hsH.ext x24).chg (S := fun x => x = D) e5 L5, ?_, ?_⟩
      · rw [upd_ne nl.symm]
        exact x24 _ _ hlH
      · rw [upd_same, fitTo_succ, decide_eq_true hd, if_pos rfl, List.map_append]
        rfl
    · rw [decide_eq_false hd]
      show (if (false : Bool) = true then _ else _)
      rw [if_neg (by decide)]
      refine ⟨ex.trans (.of x23), aH.ex x23, hsH.ext x23, x23 _ _ hlH, ?_⟩
      rw [fitTo_succ, decide_eq_false hd, if_neg (by decide), List.append_nil]
      exact x23 _ _ hDH
  · rintro H' ⟨ex, aH, hsH, hlH, hDH⟩
    rw [hsH.1] at hDH
    refine q D _ H' (Evl.fresh_back x1 hD) (x1.trans (exb_of ex hD)) hDH ?_
    have e : (fitTo ls wr 63).map (fun n => V.int (n : Nat)) = ((fitN ls wr).map fun n => ((n : Nat) : Int)).map V.int := by
      rw [List.map_map]
      rfl
    rw [e, nats_ints]
    exact RpAll.ints _
theorem pd_fits {X : Cx} {σ : St} {H : Hp} {g l1 l2 : Addr} {ls : List Ln} {wr : Int} {o e : Expr} {pos apos : Pos} {j : Nat} {pl : Sem Bool} (B : LogC X.K CL) (fn : MethS X.prog X.w X.K X.mg X.base CX0 CL "_fitting_numbers" 5 ["self", "wrong"] (spFitN X.K CL)) (hr : Room j X.A) (hj : 5 ≤ j) (a : LogAt X.K CL H g l1 l2 ls) (hl : ls.length ≤ 1000)
    (ho : ∀ H2 (Q : VK), Q (.ref g) H2 → wE X o σ H2 Q) (he : ∀ H2, ExM M0 H H2 → ∀ Q : VK, (∀ H3, Evl.Ex H2 H3 → Q (.int wr) H3) → wE X e σ H2 Q)
    (hs : starEach (e :: []) X.env = (false, eval e X.env) :: starEach [] X.env := by rfl) (hpl : (backTo pos (starEach [] X.env)).any (·.1) = false := by rfl)
    (hev : eval (.Call (.Attribute o "_fitting_numbers" apos) (e :: []) [] pos) X.env = (do
      let ov ← eval o X.env
      standAt apos.atName
      let (f, first) ← holding [ov] (getMethod ov "_fitting_numbers" pl)
      callWith pos f first (backTo pos (starEach (e :: []) X.env)) (backToKw pos (keywordEach [] X.env))) := by rfl) : FD X M0 (.Call (.Attribute o "_fitting_numbers" apos) [e] [] pos) σ H ((fitN ls wr).map natD) := .mk fun H1 e1 al Q q => by
  have a1 := a.exM (S := M0) e1 (fun _ z => z.elim) (fun z => z) fun z => z
  obtain ⟨dx, hg⟩ := a1.ins
  exact ce_methH B.ins.cl fn hr hj (ho _ _ ⟨g, dx, _, rfl, hg, rfl, ca_cons (he _ e1 _ fun H3 x3 => ca_nil ⟨g, l1, l2, ls, wr, rfl, a1.ex x3, hl, fun p ws H4 hp x4 h4 r4 => q p ws H4 (Evl.fresh_back x3 hp) (x3.trans x4) h4 r4⟩) hs⟩) hs hpl hev
theorem ok_fitting {f : Addr} {fd : FuncData} {kws : List (Str × V)} (F : FunD K "fitting" "Log.fitting" (defArgs s_Log_fitting) (defBody s_Log_fitting) (defScope s_Log_fitting) [] kws f fd) (nb : NoB mg) (B : LogC K CL) (gM : MostL mg) (c1 : Cl P w K mg base (L2.CX P w) 3 "check_number" (spCN K CN)) (c2 : Cl P w K mg base CX0 2 "texts_of" (FreshR K R_tos)) (fn : MethS P w K mg base CX0 CL "_fitting_numbers" 5 ["self", "wrong"] (spFitN K CL)) :
    FnOk P w K mg base (L2.CX P w) 6 f fd ["self", "wrong"] (spFit K CL CN) := by
  refine FunD.ok F sc_Log_fitting (fun vs H Q E h => ?_) (fun cdv A outer sh H vs Q E hr h => ⟨_, wB.ps, ?_⟩)
  · obtain ⟨g, l1, l2, ls, wv, rfl, _⟩ := h
    rfl
  obtain ⟨g, l1, l2, ls, wv, rfl, a, hl, h⟩ := h
  obtain ⟨tm, gM⟩ := gM
  have tk : Takes _ (fun cls d (_ : St) H' => E cls d H') := takes_of (X := cxOf (L2.CX P w) P w K mg base n_Log_fitting "Log.fitting" (defScope s_Log_fitting) f cdv A outer sh H E) rfl rfl rfl rfl
  rcases h with ⟨wr, rfl, w0, w1, q⟩ | ⟨d, rd, hd, q⟩
  · have hb : isNumD (.int wr) 0 200 = true := by
      show (decide (0 ≤ wr) && decide (wr ≤ 200)) = true
      rw [decide_eq_true w0, decide_eq_true w1]
      rfl
    refine b_cons (cs_expr (ce_callX c1 hr (by decide) rfl tk (ca_cons (ce_nm 1 (ca_cons (ce_intC (ca_cons ⟨_, pe_glob rfl gM (v := .int 200) ⟨tm, rfl⟩ (by decide), ca_nil ⟨_, .int wr, 0, 200, rfl, .int wr, .inl ⟨hb, fun H1 x1 => ?_⟩⟩⟩)))))))
    exact b_cons (cs_ret (ce_fd (M := M0) alive0 (fd_callC c2 hr (by decide) rfl (ad_cons (FD.pd (pd_fits B fn hr (by decide) (a.ex x1) hl (fun H2 Q q => ce_nm 0 q) (fun H2 e2 Q q => ce_nm 1 (q H2 (Evl.Ex.refl _))))) ad_nil) ⟨fitN ls wr, fun n hn => (fit_lt hn).2, Nat.le_trans (fit_len _ _) (by decide), rfl, rfl⟩) fun p ws H2 hp x2 h2 r2 => q p ws H2 (Evl.fresh_back x1 hp) (x1.trans x2) h2 r2))
  · exact b_cons (cs_expr (ce_callX c1 hr (by decide) rfl tk (ca_cons (ce_nm 1 (ca_cons (ce_intC (ca_cons ⟨_, pe_glob rfl gM (v := .int 200) ⟨tm, rfl⟩ (by decide), ca_nil ⟨_, d, 0, 200, rfl, rd, .inr ⟨hd, q⟩⟩⟩)))))))
theorem ok_least {f : Addr} {fd : FuncData} (F : Fun K "least" "Log.least" s_Log_least f fd) (nb : NoB mg) (B : LogC K CL) (fn : MethS P w K mg base CX0 CL "_fitting_numbers" 5 ["self", "wrong"] (spFitN K CL)) (cf : Cl P w K mg base CX0 3 "finest_of" (FreshR K R_fof)) : FnOk P w K mg base CX0 6 f fd ["self"] (spLeast K CL) := by
  refine F.ok sc_Log_least (fun vs H Q E h => ?_) (fun cdv A outer sh H vs Q E hr h => ⟨_, wB.ps, ?_⟩)
  · obtain ⟨g, l1, l2, ls, rfl, _⟩ := h
    rfl
  obtain ⟨g, l1, l2, ls, rfl, a, hl, q⟩ := h
  exact b_cons (cs_ret (ce_fd (M := M0) alive0 (fd_callC cf hr (by decide) rfl (ad_cons (FD.pd (pd_fits B fn hr (by decide) a hl (fun H2 Q q => ce_nm 0 q) (fun H2 e2 Q q => ce_intC (q H2 (Evl.Ex.refl _))))) ad_nil) ⟨fitN ls 0, fun n hn => (fit_lt hn).2, Nat.le_trans (fit_len _ _) (by decide), rfl, rfl⟩) q))
end
end YK

namespace YK
open PySem PySem.Spec PyProof.Rows L2 GV
/-! ### the boxes of the law -/
abbrev potL (r c k : Int) : HO := .lst [.int r, .int c, .int k]
def PotAt (H : Hp) (b : Addr) : Prop := ∃ r c s : Int, H b = some (potL r c s)
abbrev Ma (a : Addr) : Addr → Prop := fun x => x = a
theorem ExB.exM {a : Addr} {H H' : Hp} (e : ExB a H H') : ExM (Ma a) H H' := fun x o h n _ => e x o n h
theorem ExB.trE {a : Addr} {H H1 H2 : Hp} (e : ExB a H H1) (x : Evl.Ex H1 H2) : ExB a H H2 := e.trans (.of x)
theorem PotAt.ex {b : Addr} {H H' : Hp} (h : PotAt H b) (x : Evl.Ex H H') : PotAt H' b := let ⟨r, c, s, e⟩ := h; ⟨r, c, s, x _ _ e⟩
theorem PotAt.lists {b : Addr} {H : Hp} (h : PotAt H b) : Lists (Ma b) H := let ⟨_, _, _, e⟩ := h; lists1 e
theorem al_pot {a : Addr} {H : Hp} (h : PotAt H a) : Alive (Ma a) H := let ⟨_, _, _, e⟩ := h; fun x z => ⟨_, z ▸ e⟩
theorem PotAt.ne {a p : Addr} {H : Hp} (h : PotAt H a) (hp : H p = none) : a ≠ p := fun e => by
  obtain ⟨_, _, _, h⟩ := h
  rw [← e, h] at hp
  cases hp
theorem fresh_backB {a p : Addr} {H H' : Hp} (e : ExB a H H') (ha' : PotAt H' a) (hp : H' p = none) : H p = none := by
  cases hh : H p with
  | none => rfl
  | some u =>
    have := e p u (ha'.ne hp).symm hh
    rw [hp] at this
    cases this
section
variable {P : Program} {w : World} {K : PySem.W.Frag} {mg : Str → Option Value} {base : Heap}
def spCell (K : PySem.W.Frag) : Sp := fun vs H Q _ => ∃ (M : Addr → Prop) (a : Addr) (ns : List Int) (i : Nat), vs = [.ref a, .int i] ∧ Alive M H ∧ ScAt K M H a ns ∧ ∀ z H', Evl.Ex H H' → Q (.int z) H'
theorem cl_law_cell {f : Addr} {fd : FuncData} (F : At K mg "_law_cell" s_law_cell f fd) (nb : NoB mg) : Cl P w K mg base CX0 1 "_law_cell" (spCell K) := by
  refine ⟨f, fd, _, F.fn.ok sc_law_cell (fun vs H Q E h => ?_) (fun cdv A outer s H vs Q E hr h => ⟨_, wB.ps, ?_⟩), F.gl, F.fn.kp, F.fn.binds fun _ _ _ _ _ _ us hl => match us, hl with | [_, _], _ => rfl⟩
  · obtain ⟨M, a, ns, i, rfl, _⟩ := h
    rfl
  · obtain ⟨M, a, ns, i, rfl, al, r1, q⟩ := h
    refine b_cons (s_if al (td_lt (nm 1 (.int (i : Int))) (pd_scLen (j := 0) r1 rfl nb.len)) (fun hk H2 x2 => ?_) (fun _ H2 x2 => b_nil ?_))
    · have hi : i < ns.length := by
        have := of_decide_eq_true hk
        omega
      exact b_cons (s_ret (al.mono x2) (pd_scIx (j := 0) (r1.mono (fun _ z => z) (ExM.of x2)) (nm 1 (.int (i : Int))) (List.getElem?_eq_getElem hi)) fun v H3 x3 r3 => by
        cases r3
        exact q _ H3 (x2.trans x3))
    · exact b_cons (s_ret (al.mono x2) (pd_add (pd_add (pd_mul pd_int (pd_mod (pd_sum rfl nb rfl (PD.is (FD.pd (fd_scSlice (j := 0) (r1.mono (fun _ z => z) (ExM.of x2)) od_none (od_some pd_int))) ((congrArg PyData.list (cutD_take _ 4)).trans (by rw [List.map_take])))) pd_int (by decide)) (.inl (by decide))) (pd_mul pd_int (nm 1 (.int (i : Int))) (.inl (by decide)))) pd_int) fun v H3 x3 r3 => by
        cases r3
        exact q _ H3 (x2.trans x3))
def spBox (K : PySem.W.Frag) : Sp := fun vs H Q _ => ∃ (M : Addr → Prop) (a : Addr) (ns : List Int) (i : Nat), vs = [.ref a, .int i] ∧ Alive M H ∧ ScAt K M H a ns ∧ ∀ p H', H p = none → Evl.Ex H H' → PotAt H' p → Q (.ref p) H'
theorem cl_law_box {f : Addr} {fd : FuncData} (F : At K mg "_law_box" s_law_box f fd) (nb : NoB mg) (cc : Cl P w K mg base CX0 1 "_law_cell" (spCell K)) : Cl P w K mg base CX0 2 "_law_box" (spBox K) := by
  refine ⟨f, fd, _, F.fn.ok sc_law_box (fun vs H Q E h => ?_) (fun cdv A outer s H vs Q E hr h => ⟨_, wB.ps, ?_⟩), F.gl, F.fn.kp, F.fn.binds fun _ _ _ _ _ _ us hl => match us, hl with | [_, _], _ => rfl⟩
  · obtain ⟨M, a, ns, i, rfl, _⟩ := h
    rfl
  · obtain ⟨M, a, ns, i, rfl, al, r1, q⟩ := h
    have last : ∀ (c : Int) H2, Evl.Ex H H2 → wB (cxOf CX0 P w K mg base n_law_box "_law_box" (defScope s_law_box) f cdv A outer s H E).nox ((defBody s_law_box).drop 2) { nx := fun _ H' => Q .non H', rt := Q } [some (.ref a), some (.int i), some (.int c), none] H2 := by
      intro c H2 x2
      refine b_cons (s_set (i := 3) (al.mono x2) sc_law_box.nd rfl (.inl rfl) (pd_mod (pd_intI nb rfl (pd_add (nm 2 (.int c)) (pd_mul pd_int (nm 1 (.int (i : Int))) (.inl (by decide))))) pd_int (by decide)) fun v H3 x3 r3 => ?_)
      cases r3
      have x23 := x2.trans x3
      generalize (c + 999983 * (i : Int)) % 2147483647 = sd
      refine b_cons (s_if (al.mono x23) (td_lt (nm 2 (.int c)) (pd_pow pd_int pd_int ⟨by decide, by decide, by decide⟩)) (fun _ H4 x4 => ?_) (fun _ H4 x4 => b_nil ?_))
      · refine b_cons (cs_ret (ce_fd (al.mono (x23.trans x4)) (fd_lst (ad_cons pd_int (ad_cons pd_int (ad_cons (nm 3 (.int sd)) ad_nil))) (by simp)) fun p ws H5 hp x5 h5 rw5 => ?_))
        obtain ⟨u, v, x, rfl, a1, a2, a3⟩ := rpa3 rw5
        cases a1
        cases a2
        cases a3
        exact q p H5 (Evl.fresh_back (x23.trans x4) hp) ((x23.trans x4).trans x5) ⟨_, _, _, h5⟩
      · refine b_cons (cs_ret (ce_fd (al.mono (x23.trans x4)) (fd_lst (ad_cons (pd_sub (nm 2 (.int c)) (pd_pow pd_int pd_int ⟨by decide, by decide, by decide⟩)) (ad_cons pd_int (ad_cons (nm 3 (.int sd)) ad_nil))) (by simp)) fun p ws H5 hp x5 h5 rw5 => ?_))
        obtain ⟨u, v, x, rfl, a1, a2, a3⟩ := rpa3 rw5
        cases a1
        cases a2
        cases a3
        exact q p H5 (Evl.fresh_back (x23.trans x4) hp) ((x23.trans x4).trans x5) ⟨_, _, _, h5⟩
    refine b_cons (cs_set (i := 2) sc_law_box.nd rfl (.inl rfl) (ce_call cc hr (by decide) rfl (ca_cons (ce_nm 0 (ca_cons (ce_nm 1 (ca_nil ⟨M, a, ns, i, rfl, al, r1, fun z H1 x1 => ?_⟩)))))))
    refine b_cons (s_if (al.mono x1) (td_lt (nm 2 (.int z)) pd_int) (fun _ H4 x4 => ?_) (fun _ H4 x4 => b_nil (last z H4 (x1.trans x4))))
    exact b_cons (s_set (i := 2) (al.mono (x1.trans x4)) sc_law_box.nd rfl (.inl rfl) (pd_sub pd_int (pd_mul pd_int (nm 2 (.int z)) (.inl (by decide)))) fun v H5 x5 r5 => by
      cases r5
      exact b_nil (last _ H5 ((x1.trans x4).trans x5)))
def spTake : Sp := fun vs H Q _ => ∃ (b : Addr) (n : Int), vs = [.ref b, .int n] ∧ PotAt H b ∧ 0 < n ∧ n.natAbs < 2 ^ 8000 ∧ ∀ z H', 0 ≤ z → z < n → ExB b H H' → PotAt H' b → Q (.int z) H'
theorem cl_law_take {f : Addr} {fd : FuncData} (F : At K mg "_law_take" s_law_take f fd) (nb : NoB mg) : Cl P w K mg base CX0 1 "_law_take" spTake := by
  refine ⟨f, fd, _, F.fn.ok sc_law_take (fun vs H Q E h => ?_) (fun cdv A outer s H vs Q E hr h => ⟨_, wB.ps, ?_⟩), F.gl, F.fn.kp, F.fn.binds fun _ _ _ _ _ _ us hl => match us, hl with | [_, _], _ => rfl⟩
  · obtain ⟨b, n, rfl, _⟩ := h
    rfl
  · obtain ⟨b, n, rfl, ⟨r, c, k, hb⟩, h0, hn, q⟩ := h
    have pot : ∀ {H' : Hp} {r c k : Int}, H' b = some (potL r c k) → Rp K M0 H' (.ref b) (.list [.int r, .int c, .int k]) := fun e => .lst (fun z => z) (.inl e) (.cons (.int _) (.cons (.int _) (.cons (.int _) .nil)))
    refine b_cons (s_if alive0 (td_gt (pd_ix (nm 0 (pot hb)) pd_int rfl) pd_int) (fun _ H4 x4 => ?_) (fun _ H4 x4 => ?_))
    · have hb4 := x4 _ _ hb
      refine b_cons (s_set (i := 2) alive0 sc_law_take.nd rfl (.inl rfl) (pd_mod (pd_intI nb rfl (pd_ix (nm 0 (pot hb4)) pd_int rfl)) (nm 1 (.int n)) h0) fun v H5 x5 r5 => ?_)
      cases r5
      have hb5 := x5 _ _ hb4
      refine b_cons (cs_sub (ce_pd alive0 (pd_div (pd_ix (nm 0 (pot hb5)) pd_int rfl) (nm 1 (.int n)) (wide_div h0 hn (by decide) (by decide))) fun v H6 x6 r6 => ce_name (i := 0) rfl (.inl rfl) rfl (ce_pd alive0 pd_int fun y H7 x7 r7 => ?_)))
      cases r6
      cases r7
      refine ⟨b, _, 0, 0, rfl, rfl, x7 _ _ (x6 _ _ hb5), rfl, ?_⟩
      refine b_cons (cs_ret (ce_name (i := 2) rfl (.inl rfl) rfl ?_))
      obtain ⟨z0, z1⟩ := emod_lt' r h0
      exact q _ _ z0 z1 ((((ExB.of x4).trans (.of x5)).trans (.of (x6.trans x7))).trans .upd) ⟨_, _, _, upd_same⟩
    · have hb4 := x4 _ _ hb
      refine b_nil (b_cons (cs_sub (ce_pd alive0 (pd_add (pd_ix (nm 0 (pot hb4)) pd_int rfl) pd_int) fun v H5 x5 r5 => ce_name (i := 0) rfl (.inl rfl) rfl (ce_pd alive0 pd_int fun y H6 x6 r6 => ?_))))
      cases r5
      cases r6
      refine ⟨b, _, 1, 1, rfl, rfl, x6 _ _ (x5 _ _ hb4), rfl, ?_⟩
      generalize hH7 : upd H6 b (.lst (List.set [V.int r, V.int c, V.int k] 1 (V.int (c + 1)))) = H7
      have hb7 : H7 b = some (potL r (c + 1) k) := by
        rw [← hH7, upd_same]
        rfl
      have e7 : ExB b H H7 := by
        rw [← hH7]
        exact (((ExB.of x4).trans (.of x5)).trans (.of x6)).trans .upd
      refine b_cons (s_set (i := 3) alive0 sc_law_take.nd rfl (.inl rfl) (pd_mod (pd_intI nb rfl (pd_add (pd_mul (pd_add (pd_ix (nm 0 (pot hb7)) pd_int rfl) (pd_mul pd_int (pd_ix (nm 0 (pot hb7)) pd_int rfl) (.inl (by decide)))) pd_int (.inr (by decide))) pd_int)) pd_int (by decide)) fun v H8 x8 r8 => ?_)
      cases r8
      have hb8 := x8 _ _ hb7
      generalize hlow : ((k + 7919 * (c + 1)) * 48271 + 11) % 2147483647 = low
      obtain ⟨l0, l1⟩ : 0 ≤ low ∧ low < 2147483647 := hlow ▸ emod_lt' _ (by decide)
      refine b_cons (s_set (i := 4) alive0 sc_law_take.nd rfl (.inl rfl) (pd_mod (pd_intI nb rfl (pd_add (pd_add (pd_mul (nm 3 (.int low)) (nm 3 (.int low)) (small_mul l0 (by omega))) (pd_mul pd_int (nm 3 (.int low)) (.inl (by decide)))) (pd_mul pd_int (pd_ix (nm 0 (pot hb8)) pd_int rfl) (.inl (by decide))))) pd_int (by decide)) fun v H9 x9 r9 => ?_)
      cases r9
      generalize hmid : (low * low + 69621 * low + 104729 * (c + 1)) % 2147483629 = mid
      obtain ⟨m0, m1⟩ : 0 ≤ mid ∧ mid < 2147483629 := hmid ▸ emod_lt' _ (by decide)
      refine b_cons (s_set (i := 5) alive0 sc_law_take.nd rfl (.inl rfl) (pd_mod (pd_intI nb rfl (pd_add (pd_add (pd_mul (nm 4 (.int mid)) (nm 4 (.int mid)) (small_mul m0 (by omega))) (pd_mul pd_int (nm 4 (.int mid)) (.inl (by decide)))) pd_int)) pd_int (by decide)) fun v HA xA rA => ?_)
      cases rA
      generalize hthi : (mid * mid + 40692 * mid + 13) % 2147483587 = thi
      refine b_cons (s_ret alive0 (pd_mod (pd_div (nm 5 (.int thi)) pd_int (wide_div (b := 40) (by decide) (by decide) (by decide) (by decide))) (nm 1 (.int n)) h0) fun v HB xB rB => ?_)
      cases rB
      obtain ⟨z0, z1⟩ := emod_lt' (thi / 32) h0
      exact q _ HB z0 z1 (e7.trans (.of ((x8.trans x9).trans (xA.trans xB)))) ⟨_, _, _, xB _ _ (xA _ _ (x9 _ _ hb8))⟩
theorem ce_take {X : Cx} {σ : St} {H : Hp} {a : Addr} {e1 e2 : Expr} {p pos : Pos} {Q : VK} {j : Nat} {n : Int} (cd : Cl X.prog X.w X.K X.mg X.base CX0 1 "_law_take" spTake) (hr : Room j X.A) (hj : 1 ≤ j) (hg : Gl X "_law_take")
    (he : ∀ H1 (Q : VK), Q (.ref a) H1 → wE X e1 σ H1 Q) (hn : PD X (Ma a) e2 σ H (.int n)) (ha : PotAt H a) (h0 : 0 < n) (h1 : n.natAbs < 2 ^ 8000)
    (q : ∀ z H', 0 ≤ z → z < n → ExB a H H' → PotAt H' a → Q (.int z) H')
    (hs : starEach (e1 :: [e2]) X.env = (false, eval e1 X.env) :: starEach [e2] X.env := by rfl) (hs2 : starEach (e2 :: []) X.env = (false, eval e2 X.env) :: starEach [] X.env := by rfl) (hpl : (backTo pos (starEach [e2] X.env)).any (·.1) = false := by rfl) : wE X (.Call (.Name "_law_take" p) [e1, e2] [] pos) σ H Q := by
  refine ce_call cd hr hj hg (ca_cons (he _ _ (ca_cons (ce_pd (al_pot ha) hn fun v H2 x2 r2 => ?_) hs2)) hs) (by decide) hs hpl
  cases r2
  exact ca_nil ⟨a, n, rfl, ha.ex x2, h0, h1, fun z H' z0 z1 e h => q z H' z0 z1 ((ExB.of x2).trans e) h⟩
theorem n8000 {n : Int} (h0 : 0 ≤ n) (h : n ≤ 1000000) : n.natAbs < 2 ^ 8000 := Nat.lt_of_le_of_lt (m := 1000000) (by omega) (by decide +kernel)
end
end YK

namespace YK
open PySem PySem.Spec PyProof.Rows L2 GV
/-! ### the rows of the law -/
theorem p12 : (10 : Int) ^ Int.toNat 12 = 1000000000000 := by decide +kernel
def wt (st gp : Int) (k : Nat) : Int := st + gp * (k : Nat) + 7 * (k : Int) * (k : Int) % gp
theorem wt_step {st gp : Int} (h : 1 ≤ gp) (i : Nat) : st + gp * (i : Nat) ≤ wt st gp i ∧ wt st gp i < st + gp * ((i : Nat) + 1) := by
  unfold wt
  have m := emod_lt' (7 * (i : Int) * (i : Int)) (m := gp) (by omega)
  rw [Int.mul_add, Int.mul_one]
  omega
theorem wt_lt {st gp : Int} (h : 1 ≤ gp) {i j : Nat} (hij : i < j) : wt st gp i < wt st gp j := by
  have a := (wt_step (st := st) h i).2
  have b := (wt_step (st := st) h j).1
  have c : gp * ((i : Int) + 1) ≤ gp * (j : Int) := Int.mul_le_mul_of_nonneg_left (by omega) (by omega)
  omega
theorem wt_lo {st gp : Int} (h : 1 ≤ gp) (i : Nat) : st ≤ wt st gp i := by
  have a := (wt_step (st := st) h i).1
  have c : 0 ≤ gp * (i : Int) := Int.mul_nonneg (by omega) (by omega)
  omega
theorem wt_hi {st gp : Int} (h : 1 ≤ gp) {i m : Nat} (hi : i < m) : wt st gp i < st + gp * (m : Nat) := by
  have a := (wt_step (st := st) h i).2
  have c : gp * ((i : Int) + 1) ≤ gp * (m : Int) := Int.mul_le_mul_of_nonneg_left (by omega) (by omega)
  omega
theorem getD_rng (f : Nat → Int) {n i : Nat} (h : i < n) : ((List.range n).map f).getD i 0 = f i := by
  rw [List.getD_eq_getElem?_getD, List.getElem?_map, List.getElem?_range h]
  rfl
theorem getD_set' {ws : List Int} {j i : Nat} {z : Int} (h : j < ws.length) : (ws.set j z).getD i 0 = if j = i then z else ws.getD i 0 := by
  rw [List.getD_eq_getElem?_getD, List.getElem?_set]
  by_cases e : j = i
  · rw [if_pos e, if_pos (by omega), if_pos e]
    rfl
  · rw [if_neg e, if_neg e, List.getD_eq_getElem?_getD]
def Good (ws : List Int) (n : Nat) : Prop := ws.length = n ∧ (∀ i, i < n → okW (ws.getD i 0)) ∧ ∀ i j, i < j → j < n → ws.getD i 0 < ws.getD j 0
theorem good_wt {st gp : Int} {n : Nat} (h : 1 ≤ gp) (lo : -1000000000000 ≤ st) (hi : st + 40 * gp ≤ 1000000000000) (hn : n ≤ 40) : Good ((List.range n).map (wt st gp)) n := by
  refine ⟨by rw [List.length_map, List.length_range], fun i hi' => ?_, fun i j hij hj => ?_⟩
  · rw [getD_rng _ hi']
    have a := wt_lo (st := st) h i
    have b := wt_hi (st := st) h (show i < 40 by omega)
    unfold okW
    omega
  · rw [getD_rng _ hj, getD_rng _ (Nat.lt_trans hij hj)]
    exact wt_lt h hij
theorem good_set {st gp : Int} {n : Nat} (h : 1 ≤ gp) (lo : -1000000000000 ≤ st) (hi : st + 39 * gp ≤ 1000000000000) (h2 : 2 ≤ n) (hn : n ≤ 40) : Good (((List.range n).map (wt st gp)).set (n - 1) 1000000000000) n := by
  have hl : n - 1 < ((List.range n).map (wt st gp)).length := by rw [List.length_map, List.length_range]; omega
  have low : ∀ i, i < n - 1 → wt st gp i < 1000000000000 := fun i hi' => by
    have b := wt_hi (st := st) h (show i < 39 by omega)
    omega
  refine ⟨by rw [List.length_set, List.length_map, List.length_range], fun i hi' => ?_, fun i j hij hj => ?_⟩
  · rw [getD_set' hl]
    split
    · unfold okW
      omega
    · rw [getD_rng _ hi']
      have a := wt_lo (st := st) h i
      have b := low i (by omega)
      unfold okW
      omega
  · rw [getD_set' hl, getD_set' hl, if_neg (by omega), getD_rng _ (Nat.lt_trans hij hj)]
    split
    · exact low i (by omega)
    · rw [getD_rng _ hj]
      exact wt_lt h hij
theorem rowL_of {ws : List Int} {os : List Nat} {n : Nat} (g : Good ws n) (hl : os.length = n) (hn : n ≤ 40) (hb : ∀ k ∈ os, k < n) (nd : os.Nodup) : RowL (os.map fun k => ws.getD k 0) := by
  refine ⟨by rw [List.length_map]; omega, fun z hz => ?_, List.pairwise_map.mpr (List.Pairwise.imp_of_mem (fun {a b} ha hb' hab e => ?_) nd)⟩
  · obtain ⟨k, hk, rfl⟩ := List.mem_map.mp hz
    exact g.2.1 k (hb k hk)
  · rcases Nat.lt_or_gt_of_ne hab with h | h
    · have := g.2.2 a b h (hb b hb')
      omega
    · have := g.2.2 b a h (hb a ha)
      omega
theorem ins_mem {α : Type} (l : List α) (k : Nat) (x y : α) : y ∈ l.take k ++ [x] ++ l.drop k ↔ y = x ∨ y ∈ l := by
  rw [List.mem_append, List.mem_append, List.mem_singleton]
  constructor
  · rintro ((h | h) | h)
    · exact .inr (List.mem_of_mem_take h)
    · exact .inl h
    · exact .inr (List.mem_of_mem_drop h)
  · rintro (h | h)
    · exact .inl (.inr h)
    · rw [← List.take_append_drop k l] at h
      exact (List.mem_append.mp h).elim (fun h => .inl (.inl h)) .inr
theorem ins_len {α : Type} (l : List α) (k : Nat) (x : α) : (l.take k ++ [x] ++ l.drop k).length = l.length + 1 := by
  rw [List.length_append, List.length_append, List.length_take, List.length_drop, List.length_singleton]
  omega
theorem ins_nodup {α : Type} {l : List α} {k : Nat} {x : α} (h : l.Nodup) (hx : x ∉ l) : (l.take k ++ [x] ++ l.drop k).Nodup := by
  have p : (l.take k ++ [x] ++ l.drop k).Perm (x :: l) := by
    have q : (x :: (l.take k ++ l.drop k)).Perm (l.take k ++ ([x] ++ l.drop k)) := (List.perm_middle (l₁ := l.take k) (a := x) (l₂ := l.drop k)).symm
    rw [List.take_append_drop] at q
    rw [List.append_assoc]
    exact q.symm
  exact p.symm.nodup (List.nodup_cons.mpr ⟨hx, h⟩)
abbrev natsV (l : List Nat) : List V := l.map fun n => V.int (n : Nat)
theorem rp_nats {K : PySem.W.Frag} {M : Addr → Prop} {H : Hp} : ∀ l : List Nat, RpAll K M H (natsV l) (l.map natD)
  | [] => .nil
  | _ :: l => .cons (.int _) (rp_nats l)
section
variable {P : Program} {w : World} {K : PySem.W.Frag} {mg : Str → Option Value} {base : Heap}
def RowQ (K : PySem.W.Frag) (b : Addr) (n : Nat) (H : Hp) (Q : VK) : Prop := ∀ v (ns : List Int) H', ExB b H H' → PotAt H' b → Rp K M0 H' v (tintsD ns) → ns.length = n → RowL ns → Q v H'
def spRow (K : PySem.W.Frag) : Sp := fun vs H Q _ => ∃ (b : Addr) (n : Nat), vs = [.ref b, .int (n : Nat)] ∧ PotAt H b ∧ 2 ≤ n ∧ n ≤ 40 ∧ RowQ K b n H Q
theorem cl_law_row {f : Addr} {fd : FuncData} (F : At K mg "_law_row" s_law_row f fd) (nb : NoB mg) (cd : Cl P w K mg base CX0 1 "_law_take" spTake) : Cl P w K mg base CX0 2 "_law_row" (spRow K) := by
  refine ⟨f, fd, _, F.fn.ok sc_law_row (fun vs H Q E h => ?_) (fun cdv A outer sh H vs Q E hr h => ⟨_, wB.ps, ?_⟩), F.gl, F.fn.kp, F.fn.binds fun _ _ _ _ _ _ us hl => match us, hl with | [_, _], _ => rfl⟩
  · obtain ⟨b, n, rfl, _⟩ := h
    rfl
  obtain ⟨b, n, rfl, hb, n2, n40, q⟩ := h
  have fin : ∀ (p l : Addr) (os : List Nat) (ws : List Int) (way st gp : Int) (xk : Option V) H2, os.length = n → (∀ k ∈ os, k < n) → os.Nodup → Good ws n → ExB b H H2 → PotAt H2 b → H2 p = some (.lst (natsV os)) → H2 l = some (.lst (ws.map V.int)) → wB (cxOf CX0 P w K mg base n_law_row "_law_row" (defScope s_law_row) f cdv A outer sh H E).nox ((defBody s_law_row).drop 9) { nx := fun _ H' => Q .non H', rt := Q } [some (.ref b), some (.int (n : Nat)), some (.ref p), xk, some (.int way), some (.int st), some (.int gp), some (.ref l)] H2 := by
    intro p l os ws way st gp xk H2 hl hlt nd g e2 hb2 hp hw
    have ro : Rp K M0 H2 (.ref p) (natsD os) := .lst (fun z => z) (.inl hp) (rp_nats os)
    have rl : Rp K M0 H2 (.ref l) (intsD ws) := .lst (fun z => z) (.inl hw) (.ints ws)
    refine b_cons (s_ret (M := M0) alive0 (pd_callTy call_tuple_of rfl nb.tuple PyProof.Rows.boot_tuple (ad_cons (FD.pd (fd_mapA natD_inj (fun k => .int (ws.getD k 0)) (l := os) (t := .one 3) (own := [("k", 3)]) rfl sc_law_row.nd (src_list (nm 2 ro)) (blkOk_by (N := n_law_row) (sc := defScope s_law_row) (by decide +kernel)) (fun _ _ _ _ _ => pg_name (i := 3) sc_law_row.nd rfl (.inl rfl)) (fun _ _ => trivial) ?_ (by omega) ?_)) ad_nil) (rn_tuple rfl)) fun v H3 x3 r3 => ?_)
    · rintro M H d σ' ⟨_, _, rfl⟩
      rfl
    · rintro s0 H0 C cl fp M' H' k σ' hM lift kp hk ⟨v', rv, rfl⟩
      have hk' : k < ws.length := by
        rw [g.1]
        exact hlt k hk
      refine pd_ix (nm 7 (lift _ _ rl)) (nm 3 rv) (ixD_ints ?_)
      rw [List.getD_eq_getElem?_getD, List.getElem?_eq_getElem hk']
      rfl
    · refine q v (os.map fun k => ws.getD k 0) H3 (e2.trE x3) (hb2.ex x3) ?_ (by rw [List.length_map]; exact hl) (rowL_of g hl n40 hlt nd)
      show Rp K M0 H3 v (.tuple ((os.map fun k => ws.getD k 0).map PyData.int))
      rw [List.map_map]
      exact r3
  have last : ∀ (p : Addr) (os : List Nat) (way st gp : Int) (xk : Option V) H2, os.length = n → (∀ k ∈ os, k < n) → os.Nodup → 1 ≤ gp → -1000000000000 ≤ st → st + 39 * gp ≤ 1000000000000 → (way ≠ 3 → st + 40 * gp ≤ 1000000000000) → ExB b H H2 → PotAt H2 b → H2 p = some (.lst (natsV os)) → wB (cxOf CX0 P w K mg base n_law_row "_law_row" (defScope s_law_row) f cdv A outer sh H E).nox ((defBody s_law_row).drop 7) { nx := fun _ H' => Q .non H', rt := Q } [some (.ref b), some (.int (n : Nat)), some (.ref p), xk, some (.int way), some (.int st), some (.int gp), none] H2 := by
    intro p os way st gp xk H2 hl hlt nd g1 lo hi3 hi e2 hb2 hp
    refine b_cons (cs_set (i := 7) sc_law_row.nd rfl (.inr rfl) (ce_fd (M := M0) alive0 (fd_mapA natD_inj (fun k => .int (wt st gp k)) (l := List.range n) (t := .one 3) (own := [("k", 3)]) rfl sc_law_row.nd (src_rangeN rfl nb.range (nm 1 (.int (n : Nat))) (by omega)) (blkOk_by (N := n_law_row) (sc := defScope s_law_row) (by decide +kernel)) (fun _ _ _ _ _ => pg_name (i := 3) sc_law_row.nd rfl (.inl rfl)) (fun _ _ => trivial) ?_ (by rw [List.length_range]; omega) ?_) fun l vs3 H3 hl3 x3 h3 r3 => ?_))
    · rintro M H d σ' ⟨_, _, rfl⟩
      rfl
    · rintro s0 H0 C cl fp M' H' k σ' hM lift kp hk ⟨v', rv, rfl⟩
      have hk' : k < n := List.mem_range.mp hk
      exact pd_add (pd_add (nm 5 (.int st)) (pd_mul (nm 6 (.int gp)) (nm 3 rv) (.inr ⟨by omega, by omega⟩))) (pd_mod (pd_intI nb rfl (pd_mul (pd_mul pd_int (nm 3 rv) (.inl (by decide))) (nm 3 rv) (.inr ⟨by omega, by omega⟩))) (nm 6 (.int gp)) (by omega))
    have hws : vs3 = ((List.range n).map (wt st gp)).map V.int := by
      have r3' : RpAll K M0 H3 vs3 (((List.range n).map (wt st gp)).map PyData.int) := by
        rw [List.map_map]
        exact r3
      exact r3'.of_ints
    rw [hws] at h3
    have bl : b ≠ l := hb2.ne hl3
    have pl : p ≠ l := fun e => by
      rw [← e, hp] at hl3
      cases hl3
    have e3 := e2.trE x3
    have hl0 : H l = none := fresh_backB e2 hb2 hl3
    have nn : n < 1000000000 := by omega
    refine b_cons (s_if (M := M0) (k := PyData.eqv (.int way) (.int 3) && decide ((1 : Int) < (n : Nat))) alive0 (WD.td (wd_and (td_eq hr.units (nm 4 (.int way)) pd_int rfl rfl) fun _ => wd_and1 (td_gt (nm 1 (.int (n : Nat))) pd_int))) (fun hk H4 x4 => ?_) (fun hk H4 x4 => b_nil (fin p l os _ way st gp xk H4 hl hlt nd (good_wt g1 lo (hi ?_) n40) (e3.trE x4) (hb2.ex (x3.trans x4)) (x4 _ _ (x3 _ _ hp)) (x4 _ _ h3))))
    · refine b_cons (cs_sub (ce_pd (M := M0) alive0 (pd_pow pd_int pd_int ⟨by decide, by decide, by decide⟩) fun v H5 x5 r5 => ce_nm 7 (ce_pd (M := M0) (d := .int ((n - 1 : Nat) : Int)) alive0 (PD.is (pd_sub (nm 1 (.int (n : Nat))) pd_int) (congrArg PyData.int (by omega))) fun y H6 x6 r6 => ?_)))
      cases r5
      cases r6
      have h6 := x6 _ _ (x5 _ _ (x4 _ _ h3))
      refine ⟨l, _, _, n - 1, rfl, rfl, h6, ?_, ?_⟩
      · rw [List.length_map, List.length_map, List.length_range]
        have h0 : (0 : Int) ≤ ((n - 1 : Nat) : Int) := by omega
        unfold ixN
        rw [if_pos h0, if_pos (by omega), Int.toNat_natCast]
      · rw [p12]
        refine b_nil (fin p l os _ way st gp xk _ hl hlt nd (good_set g1 lo hi3 n2 n40) ?_ ?_ ?_ (by rw [upd_same, List.map_set]))
        · intro a o na ha
          by_cases e : a = l
          · rw [e, hl0] at ha
            cases ha
          · rw [upd_ne e]
            exact x6 _ _ (x5 _ _ (x4 _ _ (e3 _ _ na ha)))
        · obtain ⟨u, v, w, hh⟩ := hb2.ex ((x3.trans x4).trans (x5.trans x6))
          exact ⟨u, v, w, by rw [upd_ne bl]; exact hh⟩
        · rw [upd_ne pl]
          exact x6 _ _ (x5 _ _ (x4 _ _ (x3 _ _ hp)))
    · intro e
      rw [e, eqv_int] at hk
      simp at hk
      omega
  refine b_cons (cs_set (i := 2) sc_law_row.nd rfl (.inl rfl) (ce_fd (M := M0) alive0 (fd_lst ad_nil (by simp)) fun p ws H1 hp x1 h1 rw1 => ?_))
  obtain ⟨⟩ := rw1
  have hb1 := hb.ex x1
  have bp : b ≠ p := hb.ne hp
  refine b_cons (s_forRW (slot := 3) PassesOwn.never rfl sc_law_row.nd rfl (.inl rfl) rfl nb.range (ce_nm 1 ⟨n, fun i σ' H' => ∃ (os : List Nat) (xk : Option V), σ' = [some (.ref b), some (.int (n : Nat)), some (.ref p), xk, none, none, none, none] ∧ ExB b H H' ∧ PotAt H' b ∧ H' p = some (.lst (natsV os)) ∧ os.length = i ∧ (∀ k ∈ os, k < i) ∧ os.Nodup, rfl, by omega, ⟨[], none, rfl, .of x1, hb1, h1, rfl, fun k hk => absurd hk List.not_mem_nil, List.nodup_nil⟩, ?_, ?_⟩))
  · rintro i σ' H' hi ⟨os, xk, rfl, e2, hb2, hp2, hl, hlt, nd⟩
    refine b_cons (cs_expr (ce_insert (ce_nm 2 ⟨p, rfl, ⟨_, hp2⟩, ce_take cd hr (by decide) rfl (fun H1 Q hq => ce_nm 0 hq) (pd_add (nm 3 (.int (i : Nat))) pd_int) hb2 (by omega) (n8000 (by omega) (by omega)) fun z H3 z0 z1 e3 hb3 => ce_nm 3 ?_⟩)))
    have hp3 := e3 _ _ bp.symm hp2
    refine ⟨_, z.toNat, hp3, by rw [Int.toNat_of_nonneg z0], by omega, by rw [List.length_map]; omega, b_nil ⟨os.take z.toNat ++ [i] ++ os.drop z.toNat, _, rfl, ?_, ?_, ?_, ?_, ?_, ins_nodup nd fun h => by have := hlt _ h; omega⟩⟩
    · intro x o nx h
      by_cases hx : x = p
      · rw [hx, hp] at h
        cases h
      · rw [upd_ne hx]
        exact e3 _ _ nx (e2 _ _ nx h)
    · obtain ⟨u, v, w, hh⟩ := hb3
      exact ⟨u, v, w, by rw [upd_ne bp]; exact hh⟩
    · rw [upd_same]
      unfold natsV
      rw [List.map_append, List.map_append, List.map_take, List.map_drop]
      rfl
    · rw [ins_len, hl]
    · intro y hy
      rcases (ins_mem os z.toNat _ y).mp hy with e | hy
      · omega
      · have := hlt _ hy
        omega
  · rintro σ' H' ⟨os, xk, rfl, e2, hb2, hp2, hl, hlt, nd⟩
    refine b_cons (cs_set (i := 4) sc_law_row.nd rfl (.inl rfl) (ce_take cd hr (by decide) rfl (fun H1 Q hq => ce_nm 0 hq) pd_int hb2 (by decide) (by decide +kernel) fun way H3 w0 w1 e3 hb3 => ?_))
    refine b_cons (s_set (M := M0) (i := 5) alive0 sc_law_row.nd rfl (.inr rfl) pd_int fun v H4 x4 r4 => ?_)
    cases r4
    refine b_cons (s_set (M := M0) (i := 6) alive0 sc_law_row.nd rfl (.inr rfl) pd_int fun v H5 x5 r5 => ?_)
    cases r5
    have e5 := ((e2.trans e3).trE x4).trE x5
    have hb5 := (hb3.ex x4).ex x5
    have hp5 := x5 _ _ (x4 _ _ (e3 _ _ bp.symm hp2))
    -- way 3
    have way3 : ∀ (st gp : Int) H6, 1 ≤ gp → -1000000000000 ≤ st → st + 40 * gp ≤ 1000000000000 → ExB b H H6 → PotAt H6 b → H6 p = some (.lst (natsV os)) → wB (cxOf CX0 P w K mg base n_law_row "_law_row" (defScope s_law_row) f cdv A outer sh H E).nox ((defBody s_law_row).drop 6) { nx := fun _ H' => Q .non H', rt := Q } [some (.ref b), some (.int (n : Nat)), some (.ref p), xk, some (.int way), some (.int st), some (.int gp), none] H6 := by
      intro st gp H6 g1 lo hi e6 hb6 hp6
      refine b_cons (s_if (M := M0) alive0 (td_eq hr.units (nm 4 (.int way)) pd_int rfl rfl) (fun hk H7 x7 => ?_) (fun _ H7 x7 => b_nil (last p os way st gp xk H7 hl hlt nd g1 lo (by omega) (fun _ => hi) (e6.trE x7) (hb6.ex x7) (x7 _ _ hp6))))
      refine b_cons (cs_set (i := 5) sc_law_row.nd rfl (.inr rfl) (ce_sub (ce_take cd hr (by decide) rfl (fun H1 Q hq => ce_nm 0 hq) pd_int (hb6.ex x7) (by decide) (by decide +kernel) fun z8 H8 z80 z81 e8 hb8 => ce_pd (M := M0) alive0 (pd_pow pd_int pd_int ⟨by decide, by decide, by decide⟩) fun v H9 x9 r9 => ?_)))
      cases r9
      rw [p12]
      refine ⟨_, _, rfl, rfl, ?_⟩
      refine b_cons (cs_set (i := 6) sc_law_row.nd rfl (.inr rfl) (ce_add (ce_intC (ce_mul (ce_intC (ce_take cd hr (by decide) rfl (fun H1 Q hq => ce_nm 0 hq) pd_int (hb8.ex x9) (by decide) (by decide +kernel) fun zA HA zA0 zA1 eA hbA => ?_))))))
      refine ⟨_, _, rfl, rfl, .inl ⟨by decide, by decide⟩, _, _, rfl, rfl, ?_⟩
      refine b_cons (cs_set (i := 6) sc_law_row.nd rfl (.inr rfl) (ce_add (ce_nm 6 (ce_take cd hr (by decide) rfl (fun H1 Q hq => ce_nm 0 hq) pd_int hbA (by decide) (by decide +kernel) fun zB HB zB0 zB1 eB hbB => ?_))))
      refine ⟨_, _, rfl, rfl, b_nil (last p os way _ _ xk HB hl hlt nd (by omega) (by omega) (by omega) (fun h => ?_) (((((e6.trE x7).trans e8).trE x9).trans eA).trans eB) hbB (eB _ _ bp.symm (eA _ _ bp.symm (x9 _ _ (e8 _ _ bp.symm (x7 _ _ hp6))))))⟩
      rw [eqv_int] at hk
      exact absurd (of_decide_eq_true hk) h
    refine b_cons (s_if (M := M0) alive0 (td_eq hr.units (nm 4 (.int way)) pd_int rfl rfl) (fun _ H7 x7 => ?_) (fun _ H7 x7 => b_nil (way3 1 1 H7 (by omega) (by omega) (by omega) (e5.trE x7) (hb5.ex x7) (x7 _ _ hp5))))
    refine b_cons (cs_set (i := 5) sc_law_row.nd rfl (.inr rfl) (ce_sub (ce_take cd hr (by decide) rfl (fun H1 Q hq => ce_nm 0 hq) pd_int (hb5.ex x7) (by decide) (by decide +kernel) fun z8 H8 z80 z81 e8 hb8 => ce_intC ⟨_, _, rfl, rfl, ?_⟩)))
    refine b_cons (cs_set (i := 6) sc_law_row.nd rfl (.inr rfl) (ce_add (ce_intC (ce_take cd hr (by decide) rfl (fun H1 Q hq => ce_nm 0 hq) pd_int hb8 (by decide) (by decide +kernel) fun zA HA zA0 zA1 eA hbA => ?_))))
    exact ⟨_, _, rfl, rfl, b_nil (way3 _ _ HA (by omega) (by omega) (by omega) (((e5.trE x7).trans e8).trans eA) hbA (eA _ _ bp.symm (e8 _ _ bp.symm (x7 _ _ hp5))))⟩
end
end YK

namespace YK
open PySem PySem.Spec PyProof.Rows L2 GV
/-! ### the mask and the text of the law -/
theorem ixD_tints {ns : List Int} {i : Nat} {z : Int} (h : ns[i]? = some z) : ixD (tintsD ns) (.int (i : Nat)) = some (.int z) := atI_nat (by rw [List.getElem?_map, h]; rfl)
def mB (b : Nat → Bool) : Nat := (((List.range 6).filter b).map (2 ^ ·)).sum
def b6 (a b c d e f : Bool) : Nat → Bool
  | 0 => a
  | 1 => b
  | 2 => c
  | 3 => d
  | 4 => e
  | _ => f
theorem mB_or6 : ∀ a b c d e f : Bool, ∀ k : Fin 6, mB (b6 a b c d e f) ||| 2 ^ k.val = mB fun j => b6 a b c d e f j || decide (j = k.val) := by decide +kernel
theorem mB_congr {b c : Nat → Bool} (h : ∀ j, j < 6 → b j = c j) : mB b = mB c := by
  unfold mB
  rw [List.filter_congr fun j hj => h j (List.mem_range.mp hj)]
theorem mB_or (b : Nat → Bool) {k : Nat} (hk : k < 6) : mB b ||| 2 ^ k = mB fun j => b j || decide (j = k) := by
  have e : ∀ j, j < 6 → b j = b6 (b 0) (b 1) (b 2) (b 3) (b 4) (b 5) j := fun j hj => by
    match j, hj with
    | 0, _ => rfl
    | 1, _ => rfl
    | 2, _ => rfl
    | 3, _ => rfl
    | 4, _ => rfl
    | 5, _ => rfl
  rw [mB_congr e, mB_or6 _ _ _ _ _ _ ⟨k, hk⟩]
  exact mB_congr fun j hj => by
    show (b6 _ _ _ _ _ _ j || decide (j = k)) = _
    rw [← e j hj]
theorem mOf_snoc (l : List Nat) {k : Nat} (hk : k < 6) : mOf (l ++ [k]) = mOf l ||| 2 ^ k := by
  show mB (fun j => decide (j ∈ l ++ [k])) = mB (fun j => decide (j ∈ l)) ||| 2 ^ k
  rw [mB_or _ hk]
  refine mB_congr fun j _ => ?_
  rw [← Bool.decide_or]
  exact decide_eq_decide.mpr (by rw [List.mem_append, List.mem_singleton])
theorem mOf_lt (l : List Nat) : mOf l < 64 := by
  have h : ∀ a b c d e f : Bool, mB (b6 a b c d e f) < 64 := by decide +kernel
  have e : mOf l = mB (b6 (decide (0 ∈ l)) (decide (1 ∈ l)) (decide (2 ∈ l)) (decide (3 ∈ l)) (decide (4 ∈ l)) (decide (5 ∈ l))) := mB_congr fun j hj => by
    match j, hj with
    | 0, _ => rfl
    | 1, _ => rfl
    | 2, _ => rfl
    | 3, _ => rfl
    | 4, _ => rfl
    | 5, _ => rfl
  rw [e]
  exact h _ _ _ _ _ _
def kTo (ns : List Int) (p i : Nat) : List Nat := (thirds i p).map (kAt ns p)
theorem kTo_succ (ns : List Int) (p i : Nat) : kTo ns p (i + 1) = kTo ns p i ++ (if (decide (i ≠ p) && decide (i ≠ p + 1)) = true then [kAt ns p i] else []) := by
  unfold kTo thirds
  rw [List.range_succ, List.filter_append, List.map_append]
  congr 1
  rw [List.filter_cons]
  split <;> rfl
theorem kd_of {z lo hi : Int} {late : Bool} (h1 : z ≠ lo) (h2 : z ≠ hi) (h : lo ≤ hi) : ((if decide (z > lo) = true then (1 : Int) else 0) + (if decide (z > hi) = true then 1 else 0)) + 3 * (if late = true then 1 else 0) = ((kd z lo hi late : Nat) : Int) := by
  unfold kd
  by_cases a : z < lo
  · rw [if_pos a, if_neg (by rw [decide_eq_true_eq]; omega), if_neg (by rw [decide_eq_true_eq]; omega)]
    cases late <;> rfl
  · rw [if_neg a, if_pos (decide_eq_true (by omega))]
    by_cases b : z < hi
    · rw [if_pos b, if_neg (by rw [decide_eq_true_eq]; omega)]
      cases late <;> rfl
    · rw [if_neg b, if_pos (decide_eq_true (by omega))]
      cases late <;> rfl
def R_mask (ds : List PyData) (d : PyData) : Prop := ∃ (ns : List Int) (p : Nat), p + 1 < ns.length ∧ ns.length ≤ 60 ∧ ns.Nodup ∧ ds = [tintsD ns, natD p] ∧ d = natD (msk ns p)
theorem sum_le {l : List Nat} {k : Nat} (h : ∀ x ∈ l, x ≤ k) : l.sum ≤ l.length * k := by
  induction l with
  | nil => simp
  | cons a l ih =>
    have h1 := h a (List.mem_cons_self ..)
    have h2 := ih fun x hx => h x (List.mem_cons_of_mem _ hx)
    simp only [List.sum_cons, List.length_cons, Nat.add_mul]
    omega
section
variable {P : Program} {w : World} {K : PySem.W.Frag} {mg : Str → Option Value} {base : Heap}
theorem cl_law_mask {f : Addr} {fd : FuncData} (F : At K mg "_law_mask" s_law_mask f fd) (nb : NoB mg) : Cl P w K mg base CX0 1 "_law_mask" (PureR K R_mask) := by
  refine cl_pure F sc_law_mask (F.fn.binds fun _ _ _ _ _ _ us hl => match us, hl with | [_, _], _ => rfl) (fun ds d h => ?_) (fun X cdv A outer s H Q E M vs ds d hX hr al r h q => ?_)
  · obtain ⟨_, _, _, _, _, rfl, _⟩ := h
    rfl
  obtain ⟨ns, p, hp, hl, nd, rfl, rfl⟩ := h
  obtain ⟨u, v, rfl, r1, r2⟩ := rpa2 r
  cases r2
  subst hX
  have gx : ∀ {i : Nat}, i < ns.length → ns[i]? = some (ns.getD i 0) := fun h => by
    rw [List.getD_eq_getElem?_getD, List.getElem?_eq_getElem h]
    rfl
  have p1 : ((p : Nat) : Int) + 1 = ((p + 1 : Nat) : Int) := by omega
  refine b_cons (s_set (i := 2) (d := .int (lo2 ns p)) al sc_law_mask.nd rfl (.inl rfl) (pd_min2 rfl nb.min (pd_ix (nm 0 r1) (nm 1 (.int (p : Nat))) (ixD_tints (gx (by omega)))) (pd_ix (nm 0 r1) (PD.is (pd_add (nm 1 (.int (p : Nat))) pd_int) (congrArg PyData.int p1)) (ixD_tints (gx hp)))) fun v1 H1 x1 r1' => ?_)
  cases r1'
  have al1 := al.mono x1
  have ra := r1.mono (fun _ z => z) (ExM.of x1)
  refine b_cons (s_set (i := 3) (d := .int (hi2 ns p)) al1 sc_law_mask.nd rfl (.inl rfl) (pd_max2 rfl nb.max (pd_ix (nm 0 ra) (nm 1 (.int (p : Nat))) (ixD_tints (gx (by omega)))) (pd_ix (nm 0 ra) (PD.is (pd_add (nm 1 (.int (p : Nat))) pd_int) (congrArg PyData.int p1)) (ixD_tints (gx hp)))) fun v2 H2 x2 r2' => ?_)
  cases r2'
  refine b_cons (s_set (i := 4) (d := natD 0) (al1.mono x2) sc_law_mask.nd rfl (.inl rfl) pd_int fun v3 H3 x3 r3' => ?_)
  cases r3'
  have x13 := (x1.trans x2).trans x3
  have al3 := al.mono x13
  have rb := r1.mono (fun _ z => z) (ExM.of x13)
  refine b_cons (s_forRW (slot := 5) PassesOwn.never rfl sc_law_mask.nd rfl (.inl rfl) rfl nb.range (ce_pd al3 (pd_len nb rfl (nm 0 rb) (n := ns.length) (by show some (ns.map PyData.int).length = _; rw [List.length_map])) fun v4 H4 x4 r4 => ?_))
  cases r4
  refine ⟨ns.length, fun i σ' H' => ∃ x5 x6 : Option V, σ' = [some u, some (.int (p : Nat)), some (.int (lo2 ns p)), some (.int (hi2 ns p)), some (.int (mOf (kTo ns p i) : Nat)), x5, x6] ∧ Evl.Ex H H', rfl, by omega, ⟨none, none, rfl, x13.trans x4⟩, ?_, ?_⟩
  · rintro i σ' H' hi ⟨x5, x6, rfl, x5'⟩
    have al5 := al.mono x5'
    have rc := r1.mono (fun _ z => z) (ExM.of x5')
    have c1 : (!PyData.eqv (natD i) (natD p)) = decide (i ≠ p) := by
      rw [eqvN]
      by_cases e : i = p <;> simp [e]
    have c2 : (!PyData.eqv (natD i) (natD (p + 1))) = decide (i ≠ p + 1) := by
      rw [eqvN]
      by_cases e : i = p + 1 <;> simp [e]
    refine b_cons (s_if (k := (!PyData.eqv (natD i) (natD p)) && (!PyData.eqv (natD i) (natD (p + 1)))) al5 (WD.td (wd_and (td_ne hr.units (nm 5 (.int (i : Nat))) (nm 1 (.int (p : Nat))) rfl rfl) fun _ => wd_and1 (td_ne hr.units (nm 5 (.int (i : Nat))) (PD.is (pd_add (nm 1 (.int (p : Nat))) pd_int) (congrArg PyData.int p1)) rfl rfl))) (fun hk H6 x6' => ?_) (fun hk H6 x6' => b_nil (b_nil ⟨some (.int (i : Nat)), x6, ?_, x5'.trans x6'⟩)))
    · rw [c1, c2] at hk
      have hk' := hk
      rw [Bool.and_eq_true, decide_eq_true_eq, decide_eq_true_eq] at hk
      have rd := rc.mono (fun _ z => z) (ExM.of x6')
      have al6 := al5.mono x6'
      have neq : ∀ j, j < ns.length → i ≠ j → ns.getD i 0 ≠ ns.getD j 0 := fun j hj hij e => by
        rw [List.getD_eq_getElem?_getD, List.getD_eq_getElem?_getD, List.getElem?_eq_getElem hi, List.getElem?_eq_getElem hj] at e
        exact hij ((List.getElem_inj nd).mp e)
      have n1 := neq p (by omega) hk.1
      have n2 := neq (p + 1) hp hk.2
      have kdE := kd_of (z := ns.getD i 0) (lo := lo2 ns p) (hi := hi2 ns p) (late := decide (p < i)) (by unfold lo2; omega) (by unfold hi2; omega) (by unfold lo2 hi2; omega)
      obtain ⟨kk, hkk⟩ : ∃ kk : Int, (if decide (ns.getD i 0 > lo2 ns p) = true then (1 : Int) else 0) + (if decide (ns.getD i 0 > hi2 ns p) = true then 1 else 0) = kk := ⟨_, rfl⟩
      rw [hkk] at kdE
      refine b_cons (s_set (i := 6) (d := .int kk) al6 sc_law_mask.nd rfl (.inl rfl) (PD.is (pd_add (pd_intB nb rfl (pd_gt (pd_ix (nm 0 rd) (nm 5 (.int (i : Nat))) (ixD_tints (gx hi))) (nm 2 (.int (lo2 ns p))))) (pd_intB nb rfl (pd_gt (pd_ix (nm 0 rd) (nm 5 (.int (i : Nat))) (ixD_tints (gx hi))) (nm 3 (.int (hi2 ns p)))))) (congrArg PyData.int hkk)) fun v7 H7 x7 r7 => ?_)
      cases r7
      refine b_cons (s_set (i := 4) (al6.mono x7) sc_law_mask.nd rfl (.inl rfl) (pd_orN (n := mOf (kTo ns p i)) (m := 1 * 2 ^ kAt ns p i) (nm 4 (.int _)) (pd_shlN (n := 1) (k := kAt ns p i) pd_int (PD.is (pd_add (nm 6 (.int _)) (pd_mul pd_int (pd_intB nb rfl (pd_gt (nm 5 (.int (i : Nat))) (nm 1 (.int (p : Nat))))) (.inl ⟨by decide, by decide⟩))) (congrArg PyData.int ?_)) ⟨by omega, ?_, by decide⟩)) fun v8 H8 x8 r8 => ?_)
      · unfold kAt
        rw [← kdE]
        have e : decide (((i : Nat) : Int) > ((p : Nat) : Int)) = decide (p < i) := decide_eq_decide.mpr (by omega)
        rw [e]
      · have := kAt_lt ns p i
        omega
      · cases r8
        refine b_nil (b_nil ⟨some (.int (i : Nat)), some (.int kk), ?_, (x5'.trans x6').trans (x7.trans x8)⟩)
        rw [kTo_succ, if_pos hk', mOf_snoc _ (kAt_lt ns p i), Nat.one_mul]
        rfl
    · rw [c1, c2] at hk
      rw [kTo_succ, hk, if_neg (by decide), List.append_nil]
      rfl
  · rintro σ' H' ⟨x5, x6, rfl, x5'⟩
    exact b_cons (s_ret (al.mono x5') (nm 4 (.int (mOf (kTo ns p ns.length) : Nat))) fun v H6 x6' r6 => q v H6 (x5'.trans x6') r6)
end
end YK

/-! a walk over range(1, n + 1) -/
namespace GV
open PySem PySem.Spec PyProof.Rows L2
section
variable {X : Cx} {M : Addr → Prop} {σ : St} {H : Hp} {a b : Expr} {pos : Pos}
theorem s_forR1 {n slot : Nat} {x : Str} {p p1 p2 : Pos} {body : List Stmt} {D : Ends} (hp : PassesOwn (model X.prog X.w) X.A X.env X.xe) (hc : X.calm = true) (hN : X.N.Nodup) (hx : X.N[slot]? = some x) (hl : Loc X.env.scope x) (hg : Gl X "range") (hm : X.mg "range" = none) (ha : PD X M a σ H (.int 1)) (hb : PD X M b σ H (.int ((n + 1 : Nat) : Int))) (hn : n ≤ 1000000) (al : Alive M H) (J : Hp → Nat → St → Hp → Prop)
    (h0 : ∀ H1, Evl.Ex H H1 → J H1 0 σ H1) (hk : ∀ H1 i σ' H', Evl.Ex H H1 → J H1 i σ' H' → ExM M H1 H' ∧ Alive M H')
    (ht : ∀ H1 i σ' H' H2, Evl.Ex H H1 → i < n → J H1 i σ' H' → Evl.Ex H' H2 → wB X body { D with nx := J H1 (i + 1), ct := J H1 (i + 1), bk := D.nx } (σ'.set slot (some (.int ((i + 1 : Nat) : Int)))) H2)
    (hd : ∀ H1 σ' H', Evl.Ex H H1 → J H1 n σ' H' → D.nx σ' H') (hs : starEach [a, b] X.env = [(false, eval a X.env), (false, eval b X.env)] := by rfl) (hs2 : starEach [b] X.env = [(false, eval b X.env)] := by rfl)
    (hsa : starEach (a :: [b]) X.env = (false, eval a X.env) :: starEach [b] X.env := by rfl) (hsb : starEach (b :: []) X.env = (false, eval b X.env) :: starEach [] X.env := by rfl)
    (hf : ∀ x, foldedSetIterable (.Call (.Name "range" p) [a, b] [] p1) X.env x = pure x := by intro _; rfl) (hfn : X.fn x = true ∨ X.env.scope.names.lookup x = some .local := by first | exact .inl rfl | exact .inr rfl | assumption) : wS X (.For (.Name x p2) (.Call (.Name "range" p) [a, b] [] p1) body [] pos) D σ H := by
  have en : (((n + 1 : Nat) : Int) - 1).toNat = n := by omega
  refine s_for (t := .one slot) hp hc (src_range2 hg hm ha hb (by omega) (by omega) hs hs2 hsa hsb) (pg_name hN hx hl hfn) al J h0 hk (fun _ _ => trivial) ?_ ?_ hf
  · rintro H1 i d σ' H' H2 σ2 x1 hd j x2 ⟨v, rv, rfl⟩
    rw [List.getElem?_map, en] at hd
    obtain ⟨k, h1, rfl⟩ := Option.map_eq_some_iff.mp hd
    obtain ⟨h2, h3⟩ := List.getElem?_eq_some_iff.mp h1
    rw [List.getElem_range] at h3
    subst h3
    rw [List.length_range] at h2
    cases rv
    have e1 : (1 : Int) + ((i : Nat) : Int) = ((i + 1 : Nat) : Int) := by omega
    rw [e1]
    exact ht H1 i σ' H' H2 x1 h2 j x2
  · intro H1 σ' H' x1 j
    refine hd H1 σ' H' x1 ?_
    rw [List.length_map, List.length_range, en] at j
    exact j
end
end GV

namespace YK
open PySem PySem.Spec PyProof.Rows L2 GV
/-! ### the lines of the law -/
def LinesAt (K : PySem.W.Frag) (H : Hp) (a : Addr) (ls : List Ln) : Prop := ∃ ws, H a = some (.lst ws) ∧ RpAll K M0 H ws (ls.map lineD)
section
variable {K : PySem.W.Frag} {H H' : Hp} {a : Addr} {ls : List Ln} {S : Addr → Prop}
theorem LinesAt.exM (h : LinesAt K H a ls) (e : ExM S H H') (L : Lists S H) (n : ¬ S a) : LinesAt K H' a ls := let ⟨ws, hw, r⟩ := h; ⟨ws, ExM.lst e hw n, flat_ext r (flats_map flat_line ls) L e⟩
theorem LinesAt.ex (h : LinesAt K H a ls) (x : Evl.Ex H H') : LinesAt K H' a ls := h.exM (S := M0) (.of x) (fun _ z => z.elim) fun z => z
theorem LinesAt.rp (h : LinesAt K H a ls) : Rp K M0 H (.ref a) (.list (ls.map lineD)) := let ⟨_, hw, r⟩ := h; .lst (fun z => z) (.inl hw) r
theorem LinesAt.lists (h : LinesAt K H a ls) : Lists (Ma a) H := let ⟨_, e, _⟩ := h; lists1 e
end
theorem ex_upd {H H' : Hp} {p : Addr} {o : HO} (x : Evl.Ex H H') (hp : H p = none) : Evl.Ex H (upd H' p o) := fun a u h => by
  rw [upd_ne (fun e => by rw [e, hp] at h; cases h)]
  exact x _ _ h
def missB (n : Nat) (l : Ln) : Bool := (decide (0 < n &&& l.m)) != l.d
def misN (ls : List Ln) (n : Nat) : Nat := (ls.filter (missB n)).length
theorem zip_filter (n : Nat) : ∀ (ls : List Ln) (k : Nat), ((ls.zipIdx k).filter fun q => (decide (0 < n &&& q.1.m)) != q.1.d).length = misN ls n
  | [], _ => rfl
  | l :: ls, k => by
    have ih := zip_filter n ls (k + 1)
    unfold misN at ih ⊢
    rw [List.zipIdx_cons, List.filter_cons, List.filter_cons]
    show (if missB n l = true then _ else _ : List (Ln × Nat)).length = _
    split
    · rw [List.length_cons, List.length_cons, ih]
    · exact ih
theorem wrongL_len (ls : List Ln) (n : Nat) : (wrongL ls n).length = misN ls n := by
  unfold wrongL
  rw [List.length_map]
  exact zip_filter n ls 0
theorem mis_succ {ls : List Ln} {n i : Nat} {l : Ln} (h : ls[i]? = some l) : misN (ls.take (i + 1)) n = misN (ls.take i) n + if missB n l = true then 1 else 0 := by
  unfold misN
  rw [List.take_add_one, h, List.filter_append, List.length_append]
  congr 1
  show ([l].filter (missB n)).length = _
  rw [List.filter_cons]
  split <;> rfl
theorem and_or64 : ∀ m n : Fin 64, decide (m.val &&& n.val = m.val) = decide (m.val ||| n.val = n.val) := by decide +kernel
def spFits (K : PySem.W.Frag) : Sp := fun vs H Q _ => ∃ (a : Addr) (ls : List Ln) (bd : Int), vs = [.ref a, .int bd] ∧ LinesAt K H a ls ∧ ls.length ≤ 1000 ∧ toFr K ((fitN ls bd).map natD) H Q
def spLine (K : PySem.W.Frag) : Sp := fun vs H Q _ => ∃ (b : Addr) (sc : Nat) (mode : Int), vs = [.ref b, .int (sc : Nat), .int mode] ∧ PotAt H b ∧ ∀ v (l : Ln) H', ExB b H H' → PotAt H' b → Rp K M0 H' v (lineD l) → RowL l.row → l.p + 1 < l.row.length → Q v H'
section
variable {P : Program} {w : World} {K : PySem.W.Frag} {mg : Str → Option Value} {base : Heap}
end
end YK

namespace YK
open PySem PySem.Spec PyProof.Rows L2 GV
abbrev szL : List Nat := [3, 4, 3, 2, 5, 4, 3, 6, 8, 3, 4, 40]
theorem szL_all : ∀ n ∈ szL, 2 ≤ n ∧ n ≤ 40 := by decide
section
variable {P : Program} {w : World} {K : PySem.W.Frag} {mg : Str → Option Value} {base : Heap}
theorem cl_law_line {f : Addr} {fd : FuncData} (F : At K mg "_law_line" s_law_line f fd) (nb : NoB mg) (cd : Cl P w K mg base CX0 1 "_law_take" spTake) (cr : Cl P w K mg base CX0 2 "_law_row" (spRow K)) (cm : Cl P w K mg base CX0 1 "_law_mask" (PureR K R_mask)) : Cl P w K mg base CX0 3 "_law_line" (spLine K) := by
  refine ⟨f, fd, _, F.fn.ok sc_law_line (fun vs H Q E h => ?_) (fun cdv A outer s H vs Q E hr h => ⟨_, wB.ps, ?_⟩), F.gl, F.fn.kp, F.fn.binds fun _ _ _ _ _ _ us hl => match us, hl with | [_, _, _], _ => rfl⟩
  · obtain ⟨b, sc, mode, rfl, _⟩ := h
    rfl
  obtain ⟨b, sc, mode, rfl, hb, q⟩ := h
  refine b_cons (cs_set (i := 3) sc_law_line.nd rfl (.inl rfl) (ce_ix (ce_pd (d := .list (szL.map natD)) (al_pot hb) (FD.pd (fd_lst (ad_cons pd_int (ad_cons pd_int (ad_cons pd_int (ad_cons pd_int (ad_cons pd_int (ad_cons pd_int (ad_cons pd_int (ad_cons pd_int (ad_cons pd_int (ad_cons pd_int (ad_cons pd_int (ad_cons pd_int ad_nil)))))))))))) (by simp))) fun v1 H1 x1 r1 => ce_take cd hr (by decide) rfl (fun H1 Q hq => ce_nm 0 hq) pd_int (hb.ex x1) (by decide) (by decide +kernel) fun z H2 z0 z1 e2 hb2 => ?_)))
  obtain ⟨sz, hsz⟩ : ∃ n, szL[z.toNat]? = some n := ⟨_, List.getElem?_eq_getElem (show z.toNat < 12 by omega)⟩
  obtain ⟨s2, s40⟩ := szL_all sz (List.mem_of_getElem? hsz)
  refine rIx_of (M := Ma b) (da := .list (szL.map natD)) (d := natD sz) (r1.mono (fun _ z => z) (ExB.exM e2)) (by rw [show z = ((z.toNat : Nat) : Int) by omega]; exact ixD_list (by rw [List.getElem?_map, hsz]; rfl)) fun vo ro => ?_
  cases ro
  have e12 : ExB b H H2 := (ExB.of x1).trans e2
  refine b_cons (cs_set (i := 4) sc_law_line.nd rfl (.inl rfl) (ce_call cr hr (by decide) rfl (ca_cons (ce_nm 0 (ca_cons (ce_nm 3 (ca_nil ⟨b, sz, rfl, hb2, s2, s40, fun rv ns H3 e3 hb3 rr hlen hrow => ?_⟩)))))))
  refine b_cons (cs_set (i := 5) sc_law_line.nd rfl (.inl rfl) (ce_take cd hr (by decide) rfl (fun H1 Q hq => ce_nm 0 hq) (pd_sub (nm 3 (.int (sz : Nat))) pd_int) hb3 (by omega) (n8000 (by omega) (by omega)) fun z4 H4 z40 z41 e4 hb4 => ?_))
  obtain ⟨p, rfl⟩ : ∃ p : Nat, z4 = (p : Nat) := ⟨z4.toNat, by omega⟩
  have rr4 : Rp K M0 H4 rv (tintsD ns) := flat_ext1 rr (flat_row _) hb3.lists e4.exM
  have hp : p + 1 < ns.length := by omega
  refine b_cons (s_set (i := 6) (M := M0) (d := natD (msk ns p)) alive0 sc_law_line.nd rfl (.inl rfl) (pd_callC cm hr (by decide) rfl (ad_cons (nm 4 rr4) (ad_cons (nm 5 (.int (p : Nat))) ad_nil)) ⟨ns, p, hp, by omega, hrow.2.2, rfl, rfl⟩) fun v5 H5 x5 r5 => ?_)
  cases r5
  have e5 := ((e12.trans e3).trans e4).trE x5
  have fin : ∀ (dn : Bool) H', ExB b H5 H' → PotAt H' b → wB (cxOf CX0 P w K mg base n_law_line "_law_line" (defScope s_law_line) f cdv A outer s H E).nox ((defBody s_law_line).drop 7) { nx := fun _ H' => Q .non H', rt := Q } [some (.ref b), some (.int (sc : Nat)), some (.int mode), some (.int (sz : Nat)), some rv, some (.int (p : Nat)), some (.int (msk ns p : Nat)), some (.bl dn)] H' := by
    intro dn H6 e6 hb6
    have rr6 : Rp K M0 H6 rv (tintsD ns) := flat_ext1 (rr4.mono (fun _ z => z) (.of x5)) (flat_row _) (hb4.ex x5).lists e6.exM
    exact b_cons (s_ret (M := M0) (d := lineD ⟨ns, p, dn⟩) alive0 (pd_tup (ad_cons (nm 4 rr6) (ad_cons (nm 5 (.int (p : Nat))) (ad_cons (nm 7 (.bl dn)) (ad_cons (nm 6 (.int (msk ns p : Nat))) ad_nil)))) (by simp)) fun v H7 x7 r7 => q v ⟨ns, p, dn⟩ H7 ((e5.trans e6).trE x7) (hb6.ex x7) r7 hrow hp)
  have mid : ∀ (dn : Bool) H', ExB b H5 H' → PotAt H' b → wB (cxOf CX0 P w K mg base n_law_line "_law_line" (defScope s_law_line) f cdv A outer s H E).nox ((defBody s_law_line).drop 6) { nx := fun _ H' => Q .non H', rt := Q } [some (.ref b), some (.int (sc : Nat)), some (.int mode), some (.int (sz : Nat)), some rv, some (.int (p : Nat)), some (.int (msk ns p : Nat)), some (.bl dn)] H' := by
    intro dn H6 e6 hb6
    refine b_cons (s_if (M := M0) alive0 (td_eq hr.units (nm 2 (.int mode)) pd_int rfl rfl) (fun _ H7 x7 => ?_) (fun _ H7 x7 => b_nil (fin dn H7 (e6.trE x7) (hb6.ex x7))))
    refine b_cons (cs_set (i := 7) sc_law_line.nd rfl (.inl rfl) (ce_eq hr.units (ce_take cd hr (by decide) rfl (fun H1 Q hq => ce_nm 0 hq) pd_int (hb6.ex x7) (by decide) (by decide +kernel) fun z8 H8 z80 z81 e8 hb8 => ce_intC ⟨.int z8, .int 1, (Rp.int (M := M0) _).dp, (Rp.int (M := M0) _).dp, rfl, rfl, ?_⟩)))
    exact b_nil (fin _ H8 ((e6.trE x7).trans e8) hb8)
  refine b_cons (s_set (i := 7) (M := M0) alive0 sc_law_line.nd rfl (.inl rfl) (pd_ne hr.units (pd_andN (n := msk ns p) (m := sc) (nm 6 (.int (msk ns p : Nat))) (nm 1 (.int (sc : Nat)))) pd_int rfl rfl) fun v6 H6 x6 r6 => ?_)
  cases r6
  generalize (!PyData.eqv (natD (msk ns p &&& sc)) (.int 0)) = dn
  have hb6 := (hb4.ex x5).ex x6
  refine b_cons (cs_if (ct_w (cw_and (ct_td (M := M0) alive0 (td_eq hr.units (nm 2 (.int mode)) pd_int rfl rfl) fun H7 x7 => ⟨fun _ => cw_and1 (ct_eq hr.units (ce_take cd hr (by decide) rfl (fun H1 Q hq => ce_nm 0 hq) pd_int (hb6.ex x7) (by decide) (by decide +kernel) fun z8 H8 z80 z81 e8 hb8 => ce_intC ⟨.int z8, .int 2, (Rp.int (M := M0) _).dp, (Rp.int (M := M0) _).dp, rfl, rfl, ?_⟩)), fun _ => ?_⟩))))
  · have e8' := ((ExB.of (b := b) x6).trE x7).trans e8
    by_cases h : PyData.eqv (.int z8) (.int 2) = true
    · rw [if_pos h]
      exact b_cons (s_set (i := 7) (M := M0) alive0 sc_law_line.nd rfl (.inl rfl) (pd_not (nm 7 (.bl dn))) fun v9 H9 x9 r9 => by
        cases r9
        exact b_nil (mid _ H9 (e8'.trE x9) (hb8.ex x9)))
    · rw [if_neg h]
      exact b_nil (mid dn H8 e8' hb8)
  · rw [if_neg (by decide)]
    exact b_nil (mid dn H7 ((ExB.of (b := b) x6).trE x7) (hb6.ex x7))
end
end YK

namespace YK
open PySem PySem.Spec PyProof.Rows L2 GV
/-! ### Log() and its twin -/
abbrev MkL (P : Program) (w : World) (K : PySem.W.Frag) (mg : Str → Option Value) (base : Heap) (CL : Addr) : Prop := ∃ fI fdI, Mk K CL fI ∧ FnOk P w K mg base CX0 1 fI fdI ["self"] (spLInit K CL) ∧ Binds K fdI ["self"] []
theorem upd_none {H : Hp} {a b : Addr} {o : HO} (h : upd H a o b = none) : H b = none ∧ b ≠ a := by
  by_cases e : b = a
  · rw [e, upd_same] at h
    cases h
  · rw [upd_ne e] at h
    exact ⟨h, e⟩
theorem ce_log {X : Cx} {σ : St} {H : Hp} {CL : Addr} {p pos : Pos} {j : Nat} {Q : VK} (mk : MkL X.prog X.w X.K X.mg X.base CL) (gL : X.mg "Log" = some (.ref CL)) (hr : Room j X.A) (hj : 2 ≤ j) (hg : Gl X "Log")
    (q : ∀ g l1 l2 H', H g = none → H l1 = none → H l2 = none → Evl.Ex H H' → LogAt X.K CL H' g l1 l2 [] → Q (.ref g) H') : wE X (.Call (.Name "Log" p) [] [] pos) σ H Q := by
  obtain ⟨fI, fdI, m, ok, bi⟩ := mk
  refine ce_make0 m ok hr hj hg gL bi pass0 fun a dx ha hdx ne => ⟨a, dx, rfl, upd_same, fun H' l1 l2 h1 h2 k lg => ⟨rfl, q a l1 l2 H' ha (upd_none (upd_none h1).1).1 (upd_none (upd_none h2).1).1 (fun b o hb => ?_) lg⟩⟩
  have nx : b ≠ a := ne_of_none hb ha
  exact k b o (by rw [upd_ne nx, upd_ne (ne_of_none hb hdx)]; exact hb) nx
theorem LogAt.someG {K : PySem.W.Frag} {CL : Addr} {H : Hp} {g l1 l2 : Addr} {ls : List Ln} (a : LogAt K CL H g l1 l2 ls) : ∃ o, H g = some o := let ⟨_, h⟩ := a.ins; ⟨_, h⟩
theorem LogAt.some1 {K : PySem.W.Frag} {CL : Addr} {H : Hp} {g l1 l2 : Addr} {ls : List Ln} (a : LogAt K CL H g l1 l2 ls) : ∃ o, H l1 = some o := let ⟨_, h, _⟩ := a.w; ⟨_, h⟩
theorem LogAt.some2 {K : PySem.W.Frag} {CL : Addr} {H : Hp} {g l1 l2 : Addr} {ls : List Ln} (a : LogAt K CL H g l1 l2 ls) : ∃ o, H l2 = some o := ⟨_, a.k⟩
theorem pd_lns {X : Cx} {CL : Addr} {σ : St} {H : Hp} {e : Expr} {pos : Pos} {g l1 l2 : Addr} {ls : List Ln} (B : LogC X.K CL) (a : LogAt X.K CL H g l1 l2 ls) (he : ∀ H2 (Q : VK), Q (.ref g) H2 → wE X e σ H2 Q) (hb : attributeBase e "_lines" X.env (eval e X.env) = eval e X.env := by rfl) : PD X M0 (.Attribute e "_lines" pos) σ H (.list (ls.map lnD)) :=
  .mk fun H2 e2 al Q q => ce_lnsA B (he _ _ ⟨g, l1, l2, ls, rfl, a.exM (S := M0) e2 (fun _ z => z.elim) (fun z => z) fun z => z, q _ H2 (Evl.Ex.refl _) ((a.exM (S := M0) e2 (fun _ z => z.elim) (fun z => z) fun z => z).rp)⟩) hb
theorem pd_knd {X : Cx} {CL : Addr} {σ : St} {H : Hp} {e : Expr} {pos : Pos} {g l1 l2 : Addr} {ls : List Ln} (B : LogC X.K CL) (a : LogAt X.K CL H g l1 l2 ls) (he : ∀ H2 (Q : VK), Q (.ref g) H2 → wE X e σ H2 Q) (hb : attributeBase e "_kinds" X.env (eval e X.env) = eval e X.env := by rfl) : PD X M0 (.Attribute e "_kinds" pos) σ H (natsD (ls.map Ln.m)) :=
  .mk fun H2 e2 al Q q => ce_kndA B (he _ _ ⟨g, l1, l2, ls, rfl, a.exM (S := M0) e2 (fun _ z => z.elim) (fun z => z) fun z => z, q _ H2 (Evl.Ex.refl _) ((a.exM (S := M0) e2 (fun _ z => z.elim) (fun z => z) fun z => z).rk)⟩) hb
end YK

namespace YK
open PySem PySem.Spec PyProof.Rows L2 GV
def spLines (K : PySem.W.Frag) (CL : Addr) : Sp := fun vs H Q _ => ∃ (g l1 l2 : Addr) (ls : List Ln), vs = [.ref g] ∧ LogAt K CL H g l1 l2 ls ∧ ls.length ≤ 1000 ∧ toFr K (ls.map lnD) H Q
theorem nz_pos (a : Nat) : (!decide (a = 0)) = decide (0 < a) := by
  cases a with
  | zero => rfl
  | succ a => rw [decide_eq_false (by omega), decide_eq_true (by omega)]; rfl
section
variable {P : Program} {w : World} {K : PySem.W.Frag} {mg : Str → Option Value} {base : Heap} {CL CN CH CB : Addr}
theorem ok_lines {f : Addr} {fd : FuncData} (F : Fun K "lines" "Log.lines" s_Log_lines f fd) (nb : NoB mg) (B : LogC K CL) : FnOk P w K mg base CX0 1 f fd ["self"] (spLines K CL) := by
  refine F.ok sc_Log_lines (fun vs H Q E h => ?_) (fun cdv A outer sh H vs Q E hr h => ⟨_, wB.ps, ?_⟩)
  · obtain ⟨g, l1, l2, ls, rfl, _⟩ := h
    rfl
  obtain ⟨g, l1, l2, ls, rfl, a, hl, q⟩ := h
  exact b_cons (cs_ret (ce_fd (M := M0) alive0 (fd_listOf rfl nb.list (pd_lns B a fun H2 Q q => ce_nm 0 q) rfl) q))
end
end YK

namespace YK
open PySem PySem.Spec PyProof.Rows L2 GV
/-! ### the same datum, told part by part -/
def isStrD : PyData → Bool
  | .str _ => true
  | _ => false
theorem kit_str (d : PyData) : kitB (tyD d) "str" = some (isStrD d) := by
  cases d with
  | none => exact (by decide +kernel : kitB "NoneType" "str" = some false)
  | bool _ => exact (by decide +kernel : kitB "bool" "str" = some false)
  | int _ => exact (by decide +kernel : kitB "int" "str" = some false)
  | str _ => exact (by decide +kernel : kitB "str" "str" = some true)
  | list _ => exact (by decide +kernel : kitB "list" "str" = some false)
  | tuple _ => exact (by decide +kernel : kitB "tuple" "str" = some false)
  | dict _ => exact (by decide +kernel : kitB "dict" "str" = some false)
def atomD : PyData → Bool
  | .none => true
  | .bool _ => true
  | .int _ => true
  | .str x => SeqAt.shaped (.str x)
  | _ => false
section
variable {P : Program} {w : World} {K : PySem.W.Frag} {mg : Str → Option Value} {base : Heap}
end
end YK

namespace YK
open PySem PySem.Spec PyProof.Rows L2 GV
/-! ### the methods of a house -/
section
variable {X : Cx} {CH : Addr} {σ : St} {H H' : Hp} {a b e : Expr} {n m : Nat} {pos : Pos}
end
def spH (CH : Addr) (then_ : Addr → Nat → Hp → VK → Prop) : Sp := fun vs H Q _ => ∃ h n, vs = [.ref h] ∧ HAt CH n H h ∧ 1 ≤ n ∧ n < 64 ∧ then_ h n H Q
def nbD (n : Nat) : PyData → Bool
  | .tuple [.int i, _] => bitN n i.toNat
  | _ => false
def sndD : PyData → PyData
  | .tuple [_, d] => d
  | d => d
theorem named_eq {n : Nat} (hn : n < 64) : ((enumD (ordK.map PyData.str)).filter (nbD n)).map sndD = (kindsL n).map PyData.str := by
  have e : (enumD (ordK.map PyData.str)) = (List.range 6).map fun i => PyData.tuple [.int (i : Nat), .str (ordK.getD i "")] := rfl
  rw [e, List.filter_map, List.map_map]
  unfold kindsL
  rw [List.map_map]
  have e2 : (List.range 6).filter (nbD n ∘ fun i => PyData.tuple [.int (i : Nat), .str (ordK.getD i "")]) = (List.range 6).filter (bitN n) := List.filter_congr fun i _ => by
    show bitN n ((i : Nat) : Int).toNat = bitN n i
    rw [Int.toNat_natCast]
  rw [e2]
  rfl
section
variable {P : Program} {w : World} {K : PySem.W.Frag} {mg : Str → Option Value} {base : Heap}
theorem ok_named {f CH : Addr} {fd : FuncData} (F : Fun K "named" "House.named" s_House_named f fd) (nb : NoB mg) (B : HouC K CH) (gH : mg "House" = some (.ref CH)) (kk : KindsK K CH) (bm : MethS P w K mg base CX0 CH "names_index" 1 ["self", "index"] (spBit CH)) :
    FnOk P w K mg base CX0 2 f fd ["self"] (spH CH fun _ n H Q => toFr K ((kindsL n).map PyData.str) H Q) := by
  refine F.ok sc_House_named (fun vs H Q E h => ?_) (fun cdv A outer sh H vs Q E hr h => ⟨_, wB.ps, ?_⟩)
  · obtain ⟨b, n, rfl, _⟩ := h
    rfl
  · obtain ⟨h, n, rfl, ⟨dx, hh⟩, n1, n2, q⟩ := h
    obtain ⟨t, mc, r, cv, kt⟩ := kk.ex
    obtain ⟨fb, fdb, bm1, bm2, bm3⟩ := bm
    refine b_cons (cs_ret (ce_fd (M := M0) alive0 (fd_filterO (t := .two 1 2) (own := [("index", 1), ("kind", 2)]) (nbD n) sndD rfl sc_House_named.nd (src_enumK rfl nb.enumerate kt (fun H => RpAll.strs ordK) (fun H1 Q q => ce_cval rfl gH r cv q)) (blkOk_by (N := n_House_named) (sc := defScope s_House_named) (by decide +kernel)) (fun _ _ _ _ _ => pg_tup rfl (pgs_cons (pg_name (i := 1) sc_House_named.nd rfl (.inl rfl)) (pgs_cons (pg_name (i := 2) sc_House_named.nd rfl (.inl rfl)) pgs_nil))) ?_ ?_ ?_ ?_) fun l ws H' h1 h2 h3 h4 => q l ws H' h1 h2 h3 (by rw [← named_eq n2]; exact h4)))
    · intro d hd
      obtain ⟨i, hi⟩ := List.mem_iff_getElem?.mp hd
      obtain ⟨e', he, rfl⟩ := enumD_get hi
      exact ⟨_, _, rfl⟩
    · rintro M H d σ' ⟨_, _, _, _, _, _, _, rfl⟩
      rfl
    · decide
    · rintro s0 H0 C cl fp M' H' d σ' hM lift kp hd ⟨da, db, v1, v2, e, q1, q2, rfl⟩
      obtain ⟨i, hi⟩ := List.mem_iff_getElem?.mp hd
      obtain ⟨e', he, rfl⟩ := enumD_get hi
      cases e
      cases q1
      obtain ⟨hh', nh'⟩ := kp _ _ (fun z => z) (fun _ z => by cases z) hh
      refine ⟨td_val (.mk fun H1 e1 al1 Q q => ?_), nm 2 q2⟩
      have hh1 := e1 _ _ hh' nh' (fun _ z => by cases z)
      refine ce_meth (AtN.name (i := 0) rfl (by first | exact .inl rfl | exact .inr (.inl rfl) | exact .inr (.inr rfl)) rfl) B.ins.cl bm1 bm2 hr (by decide) bm3 pass0 hh1 rfl (ca_cons (ce_nm 1 (ca_nil ⟨h, n, i, rfl, ⟨dx, hh1⟩, fun H3 x3 => ?_⟩)))
      have e2 : bitN n i = nbD n (.tuple [.int (i : Nat), db]) := by
        show _ = bitN n ((i : Nat) : Int).toNat
        rw [Int.toNat_natCast]
      rw [e2]
      exact q _ H3 x3 (.bl _)
end
end YK

/-! ("x", *xs); x in a tuple of texts; a walk over a tuple of texts that the top wrote; xs.index(i) of ints -/
namespace GV
open PySem PySem.Spec PyProof.Rows L2
section
variable {X : Cx} {K : PySem.W.Frag} {M : Addr → Prop} {σ : St} {H H' : Hp} {a b c e o tg iter : Expr} {es : List Expr} {da db d : PyData} {ds : List PyData} {pos p : Pos}
theorem Rp.seqV {tp : Bool} {v : V} (r : Rp K M H v (sqD tp ds)) : ∃ q xs, v = .ref q ∧ (SqT K H q xs ∨ SqL K H q xs) ∧ RpAll K M H xs ds := by
  cases tp with
  | false =>
    cases r with
    | lst m h rs => exact ⟨_, _, rfl, .inr (.inl h), rs⟩
  | true =>
    cases r with
    | tup m h rs => exact ⟨_, _, rfl, .inl (.inl h), rs⟩
theorem rpAll_append {vs ws : List V} {ds es : List PyData} : RpAll K M H vs ds → RpAll K M H ws es → RpAll K M H (vs ++ ws) (ds ++ es)
  | .nil, h => h
  | .cons r rs, h => .cons r (rpAll_append rs h)
/-- .., *xs, .. in a display -/
theorem ad_star {tp : Bool} {ds es' : List PyData} (h : PD X M e σ H (sqD tp ds)) (hr : AD X M es σ H es') (hs : starEach (.Starred e p :: es) X.env = (true, eval e X.env) :: starEach es X.env := by rfl) : AD X M (.Starred e p :: es) σ H (ds ++ es') := .mk fun H1 e1 al Q q =>
  ⟨_, StX.pa_star wE.pe wA.pa hs, h.run H1 e1 al _ fun v H2 x2 rv => by
    obtain ⟨t, xs, rfl, hx, rs⟩ := Rp.seqV rv
    exact ⟨t, xs, rfl, hx, hr.run H2 (e1.trans (.of x2)) (al.mono x2) _ fun vs H3 x3 rvs => q (xs ++ vs) H3 (x2.trans x3) (rpAll_append (rs.mono (fun _ z => z) (.of x3)) rvs)⟩⟩
theorem ad_star1 {tp : Bool} {ds : List PyData} (h : PD X M e σ H (sqD tp ds)) (hs : starEach (.Starred e p :: []) X.env = (true, eval e X.env) :: starEach [] X.env := by rfl) : AD X M [.Starred e p] σ H ds := by
  have z := ad_star h ad_nil hs
  rwa [List.append_nil] at z
theorem td_inT {x : Str} {ns : List Str} (ha : PD X M a σ H (.str x)) (hb : PD X M b σ H (.tuple (ns.map PyData.str))) (hk : behindInMarks .In b = false := by rfl) : TD X M (.Compare a [.In] [b] pos) σ H (decide (x ∈ ns)) :=
  td_cmpR op_in_seq hk (fun u v H1 ru rv _ Q q => by
    cases ru
    cases rv with
    | tup m hs rs =>
      have all : (ns.map V.str).all flatV = true := by
        rw [List.all_map, List.all_eq_true]
        exact fun _ _ => rfl
      rw [rs.of_strs] at hs
      refine ⟨_, _, rfl, .inr (.inl hs), rfl, all, ?_⟩
      show Q (.bl (inV (.str x) (ns.map V.str))) H1
      rw [inV_strs]
      exact q _ H1 (Evl.Ex.refl H1) (.bl _)) ha hb
theorem wk_tupK {t : Addr} {xs : List V} {ds : List PyData} (h : KTup K t xs) (r : RpAll K M H xs ds) : Wk K M (Itt K t) H ds := by
  refine ⟨fun M' i H' hm e hi => ⟨xs, xs[i]'(by rw [r.length]; exact hi), .inr h, List.getElem?_eq_getElem _⟩, fun M' H' hm e => ⟨xs, .inr h, by rw [r.length]; exact Nat.le_refl _⟩, fun M' i H' x H'' hm e al y => ?_⟩
  obtain ⟨rfl, y⟩ := y
  refine ⟨Evl.Ex.refl _, fun d hd => ?_⟩
  obtain ⟨v, hv, rv⟩ := r.get hd
  have q := y xs (.inr h)
  rw [hv] at q
  cases q
  exact (rv.wide hm).mono (fun _ z => z) e
theorem src_tupK {t : Addr} {xs : List V} {ds : List PyData} (h : KTup X.K t xs) (r : ∀ H, RpAll X.K M H xs ds) (he : ∀ H1 (Q : VK), Q (.ref t) H1 → wE X iter σ H1 Q) : Src X M tg iter σ H ds :=
  ⟨_, pi_tup wE.pe, fun H1 e1 al R q => he _ _ ⟨t, rfl, ⟨xs, .inr h⟩, q _ H1 (Evl.Ex.refl H1) (wk_tupK h (r H1))⟩⟩
/-- for .. in TEXTS, a name of the top -/
theorem src_gtup {t : Addr} {ks : List Str} {x : Str} (h : KTup X.K t (ks.map V.str)) (hg : Gl X x) (hm : X.mg x = some (.ref t)) (hdb : (x == ("__debug__" : Str)) = false := by decide) : Src X M tg (.Name x p) σ H (ks.map PyData.str) :=
  src_tupK h (fun _ => .strs ks) fun H1 Q q => ⟨_, pe_glob hg hm (v := .ref t) rfl hdb, q⟩
/-- o.index(e), an int that is there -/
theorem pd_indexI {apos cpos : Pos} {ns : List Int} {k : Int} {j : Nat} (ho : PD X M o σ H (.list (ns.map PyData.int))) (he : PD X M e σ H (.int k)) (hj : ns[j]? = some k) (hf : ∀ m z, m < j → ns[m]? = some z → z ≠ k)
    (h1 : attributeBase o ("index" : Str) X.env (eval o X.env) = eval o X.env := by rfl)
    (h2 : ((((backTo cpos (starEach (e :: []) X.env)).all fun x => !x.1) && (backToKw cpos (keywordEach [] X.env)).all fun x => x.1.isSome) && decide (((e :: []).length + ([] : List Keyword).length + if ([] : List Keyword).isEmpty = true then 0 else 1) < 30)) = true := by rfl)
    (h3 : (apos.endLine == cpos.line) = true := by rfl) (h4 : starEach (e :: []) X.env = (false, eval e X.env) :: starEach [] X.env := by rfl) (h5 : (backTo cpos (starEach [] X.env)).any (·.1) = false := by rfl) :
    PD X M (.Call (.Attribute o "index" apos) [e] [] cpos) σ H (.int (j : Nat)) := .mk fun H1 e1 al Q q => by
  refine ⟨_, pe_bm PySem.F.plainAttrs_list PySem.F.slot_list_index PySem.F.type_list_index mt_index wE.pe (pa_cons wE.pe pa_nil h4) h1 h2 h3 h4 h5, ?_⟩
  refine ho.run H1 e1 al _ fun x H2 x2 r => ?_
  cases r with
  | lst m hs rs =>
    refine ⟨.inl ⟨rfl, _, .inl hs⟩, he.run H2 (e1.trans (.of x2)) (al.mono x2) _ fun y H3 x3 ry => ?_⟩
    cases ry
    have hs3 := GV.Rd.exM hs m (.of x3)
    have ev := rs.of_ints
    subst ev
    refine ⟨_, _, _, j, .int k, rfl, rfl, .inl hs3, rfl, ?_, ?_, ?_, ?_, q _ H3 (x2.trans x3) (.int _)⟩
    · rw [List.all_eq_true]
      intro v hv
      obtain ⟨z, _, rfl⟩ := List.mem_map.mp hv
      rfl
    · rw [List.getElem?_map, hj]
      rfl
    · simp [eqV]
    · intro m z hm hz
      rw [List.getElem?_map] at hz
      obtain ⟨u, hu, rfl⟩ := Option.map_eq_some_iff.mp hz
      simpa [eqV] using hf m u hm hu
end
end GV

/-! o.pop(e), e an int that stands in the list -/
namespace GV
open PySem PySem.Spec PyProof.Rows L2
section
variable {X : Cx} {σ : St} {H : Hp} {o e : Expr}
theorem ce_popAt {apos cpos : Pos} {Q : VK} (h : wE X o σ H fun x H1 => ∃ l xs, x = .ref l ∧ H1 l = some (.lst xs) ∧ wE X e σ H1 fun z H2 => ∃ ys k y, z = .int (k : Nat) ∧ H2 l = some (.lst ys) ∧ k < 1000000 ∧ ys[k]? = some y ∧ Q y (upd H2 l (.lst (ys.eraseIdx k))))
    (h1 : attributeBase o ("pop" : Str) X.env (eval o X.env) = eval o X.env := by rfl)
    (h2 : ((((backTo cpos (starEach (e :: []) X.env)).all fun x => !x.1) && (backToKw cpos (keywordEach [] X.env)).all fun x => x.1.isSome) && decide (((e :: []).length + ([] : List Keyword).length + if ([] : List Keyword).isEmpty = true then 0 else 1) < 30)) = true := by rfl)
    (h3 : (apos.endLine == cpos.line) = true := by rfl) (h4 : starEach (e :: []) X.env = (false, eval e X.env) :: starEach [] X.env := by rfl) (h5 : (backTo cpos (starEach [] X.env)).any (·.1) = false := by rfl) :
    wE X (.Call (.Attribute o "pop" apos) [e] [] cpos) σ H Q := by
  refine ⟨_, pe_bm PySem.F.plainAttrs_list PySem.F.slot_list_pop PySem.F.type_list_pop mt_popAt wE.pe wA.pa h1 h2 h3 h4 h5, ?_⟩
  obtain ⟨t, p, q⟩ := h
  refine ⟨fun σ H Q => ∃ Q0, t σ H Q0 ∧ ∀ x H1, Q0 x H1 → Q x H1, ⟨fun pins s σ H Q I ⟨Q0, h0, imp⟩ => wpAny_mono (p.run pins s σ H Q0 I h0) (fun us s1 ⟨v, H1, I1, r1, q1⟩ => ⟨v, H1, I1, r1, imp v H1 q1⟩) fun _ _ z => z⟩, _, q, ?_⟩
  rintro x H1 ⟨l, xs, rfl, hl, h2⟩
  refine ⟨.inl ⟨rfl, _, SqL.of hl⟩, ?_⟩
  obtain ⟨t2, p2, q2⟩ := h2
  refine ⟨_, pa_cons (te := fun σ H Q => ∃ Q0, t2 σ H Q0 ∧ ∀ x H1, Q0 x H1 → Q x H1) ⟨fun pins s σ H Q I ⟨Q0, h0, imp⟩ => wpAny_mono (p2.run pins s σ H Q0 I h0) (fun us s1 ⟨v, H1, I1, r1, q1⟩ => ⟨v, H1, I1, r1, imp v H1 q1⟩) fun _ _ z => z⟩ pa_nil h4, _, q2, ?_⟩
  rintro z H2 ⟨ys, k, y, rfl, hy, hk, hk2, hq⟩
  refine ⟨l, ys, _, k, y, rfl, rfl, hy, by omega, by omega, ?_, hk2, hq⟩
  have lt : k < ys.length := (List.getElem?_eq_some_iff.mp hk2).1
  unfold seqIndex?
  have n0 : ¬ ((k : Nat) : Int) < 0 := by omega
  simp only [n0, if_false]
  have b0 : (decide (0 ≤ ((k : Nat) : Int)) && decide (((k : Nat) : Int) < (ys.length : Nat))) = true := by
    rw [Bool.and_eq_true, decide_eq_true_eq, decide_eq_true_eq]
    omega
  rw [if_pos b0, Int.toNat_natCast]
end
end GV

namespace GV
open PySem PySem.Spec PyProof.Rows L2
section
variable {X : Cx} {M : Addr → Prop} {σ : St} {H : Hp} {a : Expr} {pos : Pos}
/-- a is True, a is False; .. is not .. -/
theorem td_isB {k j : Bool} {jj p2} (h : PD X M a σ H (.bool k)) : TD X M (.Compare a [.Is] [.Constant (.bool j) jj p2] pos) σ H (decide (k = j)) :=
  td_cmpR op_isBl (nomark _) (fun x y H1 rx ry _ Q q => by
    cases rx
    cases ry
    exact ⟨k, j, rfl, rfl, q _ H1 (Evl.Ex.refl H1) (.bl _)⟩) h pd_bl
theorem td_isnB {k j : Bool} {jj p2} (h : PD X M a σ H (.bool k)) : TD X M (.Compare a [.IsNot] [.Constant (.bool j) jj p2] pos) σ H (!decide (k = j)) :=
  td_cmpR op_notBl (nomark _) (fun x y H1 rx ry _ Q q => by
    cases rx
    cases ry
    exact ⟨k, j, rfl, rfl, q _ H1 (Evl.Ex.refl H1) (.bl _)⟩) h pd_bl
end
section
variable {X : Cx} {σ : St} {H : Hp} {o : Expr}
/-- o.clear() -/
theorem ce_clear {apos cpos : Pos} {Q : VK} {l : Addr} {xs : List V} (h : wE X o σ H fun x H1 => x = .ref l ∧ H1 l = some (.lst xs) ∧ Q .non (upd H1 l (.lst [])))
    (h1 : attributeBase o ("clear" : Str) X.env (eval o X.env) = eval o X.env := by rfl) (h3 : (apos.endLine == cpos.line) = true := by rfl) : wE X (.Call (.Attribute o "clear" apos) [] [] cpos) σ H Q := by
  refine ⟨_, pe_bm0 PySem.F.plainAttrs_list PySem.F.slot_list_clear PySem.F.type_list_clear mt_clear wE.pe h1 h3, ?_⟩
  obtain ⟨t, p, q⟩ := h
  refine ⟨fun σ H Q => ∃ Q0, t σ H Q0 ∧ ∀ x H1, Q0 x H1 → Q x H1, ⟨fun pins s σ H Q I ⟨Q0, h0, imp⟩ => wpAny_mono (p.run pins s σ H Q0 I h0) (fun us s1 ⟨v, H1, I1, r1, q1⟩ => ⟨v, H1, I1, r1, imp v H1 q1⟩) fun _ _ z => z⟩, _, q, ?_⟩
  rintro x H1 ⟨rfl, hl, hq⟩
  exact ⟨.inl ⟨rfl, _, SqL.of hl⟩, l, _, rfl, rfl, hl, hq⟩
end
end GV

/-! a is True .. of what is no bool -/
namespace GV
open PySem PySem.Spec PyProof.Rows L2
def boolV : V → Bool
  | .bl _ => true
  | _ => false
section
variable {X : Cx} {σ : St} {H : Hp} {a : Expr} {pos : Pos}
theorem op_isnot_bl2 : OpR X (compareOp .IsNot) (fun x y H Q => ∃ b, boolV x = false ∧ y = .bl b ∧ Q (.bl true) H) := by
  intro pins s σ H x y v u Q I rx ry h
  obtain ⟨b, hx, rfl, q⟩ := h
  cases (show u = Value.bool b from ry)
  have fin : plainIs v (Value.bool b) = true → v ≠ Value.bool b → wpAny (model X.prog X.w) X.A (compareOp .IsNot v (Value.bool b)) (EP X pins σ Q) X.xe s := fun hp hn => wpAny_isNot_other hp hn ⟨.bl true, H, I, rfl, q⟩
  cases x with
  | bl k => cases hx
  | non =>
    cases (show v = Value.none from rx)
    exact fin rfl (fun z => by cases z)
  | int i =>
    obtain ⟨t, rfl⟩ := rx
    exact fin rfl (fun z => by cases z)
  | str i =>
    obtain ⟨t, rfl⟩ := rx
    exact fin rfl (fun z => by cases z)
  | byt i =>
    obtain ⟨t, rfl⟩ := rx
    exact fin rfl (fun z => by cases z)
  | flt i =>
    obtain ⟨t, rfl⟩ := rx
    exact fin rfl (fun z => by cases z)
  | ref i =>
    cases (show v = Value.ref i from rx)
    exact fin rfl (fun z => by cases z)
  | ty i =>
    cases (show v = Value.type i from rx)
    exact fin rfl (fun z => by cases z)
theorem ct_isnX {Q : Bool → Hp → Prop} {j : Bool} {jj p2} (h : wE X a σ H fun x H2 => boolV x = false ∧ Q true H2) : wT X (.Compare a [.IsNot] [.Constant (.bool j) jj p2] pos) σ H Q :=
  ⟨_, pt_cmpR op_isnot_bl2 wE.pe pe_bl (nomark _), wE.weak h fun x H2 ⟨e, q⟩ => (by exact ⟨j, e, rfl, _, rfl, q⟩)⟩
end
end GV

/-! y = [.. for .. in ..], y no captured local, over data of one kind -/
namespace GV
open PySem PySem.Spec PyProof.Rows L2
section
variable {X : Cx} {M : Addr → Prop} {σ : St} {H : Hp} {tg iter elt : Expr} {pos : Pos} {α : Type}
theorem s_setFA {ifs : List Expr} {e : α → PyData} (inj : ∀ a b, e a = e b → a = b) {l : List α} (p : α → Bool) (g : α → PyData) {t : Tg} {scope : Scope} {own : List (Str × Nat)} (hc : X.calm = true) (hN : X.N.Nodup) (hi : Src X M tg iter σ H (l.map e)) (ok : BlkOk X.N X.env.scope scope own)
    (hg : ∀ s H C cl fp, PG (Cx.lc X s H scope C cl fp) tg (t.g X.K)) (hf : ∀ d ∈ l.map e, t.Fits d) (hw : ∀ M H d σ', t.Ok X.K M H d (wipe σ (own.map (·.2))) σ' → wipe σ' (own.map (·.2)) = wipe σ (own.map (·.2))) (hl : l.length ≤ 100000)
    (body : ∀ s0 H0 C cl fp M' H' y σ', (∀ a, M a → M' a) → (∀ v e, Rp X.K M H v e → Rp X.K M' H' v e) → y ∈ l → t.Ok X.K M' H' (e y) (wipe σ (own.map (·.2))) σ' → TsD (Cx.lc X s0 H0 scope C cl fp) M' ifs σ' H' (p y) ∧ (p y = true → PD (Cx.lc X s0 H0 scope C cl fp) M' elt σ' H' (g y)))
    {i : Nat} {y : Str} {py spos : Pos} {D : Ends} (al : Alive M H) (hy : X.N[i]? = some y) (hyl : X.env.scope.names.lookup y = some .local) (hsw : swapsWith (.ListComp elt [⟨tg, iter, ifs, 0⟩] scope pos) (some (.Name y py)) spos.line X.env = pure true) (q : ∀ a ws H2, H a = none → Evl.Ex H H2 → H2 a = some (.lst ws) → RpAll X.K M H2 ws ((l.filter p).map g) → D.nx (σ.set i (some (.ref a))) H2)
    (hs : ∀ x, foldedSetIterable iter X.env x = pure x := by intro _; rfl) : wS X (.Assign [.Name y py] (.ListComp elt [⟨tg, iter, ifs, 0⟩] scope pos) spos) D σ H := by
  rw [← filter_back inj p g l] at q
  refine s_setLc hc hN hi ok hg hf hw _ _ (by rw [List.length_map]; exact hl) (fun s0 H0 C cl fp M' H' d σ' hM lift hd hok => ?_) al hy hyl hsw q hs
  obtain ⟨z, hz, rfl⟩ := List.mem_map.mp hd
  rw [backA_of inj, backA_of inj]
  exact body s0 H0 C cl fp M' H' z σ' hM lift hz hok
theorem s_setMA {e : α → PyData} (inj : ∀ a b, e a = e b → a = b) {l : List α} (g : α → PyData) {t : Tg} {scope : Scope} {own : List (Str × Nat)} (hc : X.calm = true) (hN : X.N.Nodup) (hi : Src X M tg iter σ H (l.map e)) (ok : BlkOk X.N X.env.scope scope own)
    (hg : ∀ s H C cl fp, PG (Cx.lc X s H scope C cl fp) tg (t.g X.K)) (hf : ∀ d ∈ l.map e, t.Fits d) (hw : ∀ M H d σ', t.Ok X.K M H d (wipe σ (own.map (·.2))) σ' → wipe σ' (own.map (·.2)) = wipe σ (own.map (·.2))) (hl : l.length ≤ 100000)
    (body : ∀ s0 H0 C cl fp M' H' y σ', (∀ a, M a → M' a) → (∀ v e, Rp X.K M H v e → Rp X.K M' H' v e) → y ∈ l → t.Ok X.K M' H' (e y) (wipe σ (own.map (·.2))) σ' → PD (Cx.lc X s0 H0 scope C cl fp) M' elt σ' H' (g y))
    {i : Nat} {y : Str} {py spos : Pos} {D : Ends} (al : Alive M H) (hy : X.N[i]? = some y) (hyl : X.env.scope.names.lookup y = some .local) (hsw : swapsWith (.ListComp elt [⟨tg, iter, [], 0⟩] scope pos) (some (.Name y py)) spos.line X.env = pure true) (q : ∀ a ws H2, H a = none → Evl.Ex H H2 → H2 a = some (.lst ws) → RpAll X.K M H2 ws (l.map g) → D.nx (σ.set i (some (.ref a))) H2)
    (hs : ∀ x, foldedSetIterable iter X.env x = pure x := by intro _; rfl) : wS X (.Assign [.Name y py] (.ListComp elt [⟨tg, iter, [], 0⟩] scope pos) spos) D σ H :=
  s_setFA inj (fun _ => true) g hc hN hi ok hg hf hw hl (fun s0 H0 C cl fp M' H' z σ' hM lift hz hok => ⟨tsd_nil, fun _ => body s0 H0 C cl fp M' H' z σ' hM lift hz hok⟩) al hy hyl hsw (by rw [filt_all]; exact q) hs
end
end GV

namespace YK
open PySem PySem.Spec PyProof.Rows L2 GV
/-! ### the probe of some kinds -/
def BW : List Str := ["l-", "-l", "lighter", "b-", "-b", "heavier", "h-", "-h"]
def BI : List Str := ["l-", "b-", "h-", "lighter", "heavier", "-l", "-b", "-h"]
def heldL (ks : List Str) : List Str := "lighter" :: "heavier" :: ks
def bwL (ks : List Str) : List Str := BW.filter fun p => decide (p ∈ heldL ks)
def idx (l : List Str) (p : Str) : Nat := l.findIdx fun q => decide (q = p)
def rowI (ks : List Str) : List Int := (BI.filter fun p => decide (p ∈ heldL ks)).map fun p => ((idx (bwL ks) p : Nat) : Int) + 1
def plI (ks : List Str) : Nat := (rowI ks).findIdx fun z => decide (z = ((idx (bwL ks) "lighter" : Nat) : Int) + 1)
theorem find_ok {α : Type} [DecidableEq α] {l : List α} {p : α} (h : p ∈ l) : l[l.findIdx fun q => decide (q = p)]? = some p ∧ ∀ m z, m < l.findIdx (fun q => decide (q = p)) → l[m]? = some z → z ≠ p := by
  have hlt : l.findIdx (fun q => decide (q = p)) < l.length := List.findIdx_lt_length_of_exists ⟨p, h, decide_eq_true rfl⟩
  refine ⟨?_, fun m z hm hz e => ?_⟩
  · rw [List.getElem?_eq_getElem hlt]
    have := List.findIdx_getElem (p := fun q => decide (q = p)) (w := hlt)
    rw [decide_eq_true_eq] at this
    rw [this]
  · have h2 := List.not_of_lt_findIdx hm
    obtain ⟨hl, e2⟩ := List.getElem?_eq_some_iff.mp hz
    rw [e2] at h2
    simp [e] at h2
theorem bi_bw {p : Str} (h : p ∈ BI) : p ∈ BW := by
  have : ∀ p ∈ BI, p ∈ BW := by decide +kernel
  exact this p h
theorem mem_bw {ks : List Str} {p : Str} (h : p ∈ BI) (hk : p ∈ heldL ks) : p ∈ bwL ks := List.mem_filter.mpr ⟨bi_bw h, decide_eq_true hk⟩
theorem mem_row {ks : List Str} : (((idx (bwL ks) "lighter" : Nat) : Int) + 1) ∈ rowI ks := List.mem_map.mpr ⟨"lighter", List.mem_filter.mpr ⟨by decide +kernel, decide_eq_true (List.mem_cons_self ..)⟩, rfl⟩
def strsD (ks : List Str) : PyData := .list (ks.map PyData.str)
def R_prb (ds : List PyData) (d : PyData) : Prop := ∃ (tp : Bool) (ks : List Str), ks.length ≤ 1000 ∧ ds = [sqD tp (ks.map PyData.str)] ∧ d = .tuple [tintsD (rowI ks), natD (plI ks)]
theorem str_inj : ∀ a b : Str, PyData.str a = PyData.str b → a = b := fun a b h => by
  cases h
  rfl
structure ByW (K : PySem.W.Frag) (mg : Str → Option Value) : Prop where
  w : ∃ t, mg "_BY_WEIGHT" = some (.ref t) ∧ KTup K t (BW.map V.str)
  i : ∃ t, mg "_BY_INDEX" = some (.ref t) ∧ KTup K t (BI.map V.str)
section
variable {P : Program} {w : World} {K : PySem.W.Frag} {mg : Str → Option Value} {base : Heap} {CA CN CH : Addr}
theorem cl_probe_of {f : Addr} {fd : FuncData} (F : At K mg "_probe_of" s_probe_of f fd) (nb : NoB mg) (by_ : ByW K mg) : Cl P w K mg base CX0 1 "_probe_of" (PureR K R_prb) := by
  refine cl_pure F sc_probe_of (F.fn.binds fun _ _ _ _ _ _ us hl => match us, hl with | [_], _ => rfl) (fun ds d h => ?_) (fun X cdv A outer s H Q E M vs ds d hX hr al r h q => ?_)
  · obtain ⟨_, _, _, rfl, _⟩ := h
    rfl
  obtain ⟨tp, ks, hks, rfl, rfl⟩ := h
  obtain ⟨v, rfl, r1⟩ := rpa1 r
  obtain ⟨⟨tw, gw, kw⟩, ti, gi, ki⟩ := by_
  subst hX
  have hlen : ((heldL ks).map PyData.str).length ≤ 100000 := by
    rw [List.length_map]
    exact Nat.le_trans (Nat.add_le_add_right (Nat.add_le_add_right hks 1) 1) (by decide)
  refine b_cons (s_set (i := 1) (d := .tuple ((heldL ks).map PyData.str)) al sc_probe_of.nd rfl (by first | exact .inl rfl | exact .inr rfl) (pd_tup (ds := (heldL ks).map PyData.str) (ad_cons pd_str (ad_cons pd_str (ad_star1 (tp := tp) (nm 0 r1)))) hlen) fun v1 H1 x1 rh => ?_)
  have al1 := al.mono x1
  refine b_cons (cs_set (i := 2) sc_probe_of.nd rfl (by first | exact .inl rfl | exact .inr rfl) (ce_fd al1 (fd_filterA (M := M) str_inj (fun p => decide (p ∈ heldL ks)) PyData.str (l := BW) (t := .one 4) (own := [("part", 4)]) rfl sc_probe_of.nd (src_gtup kw rfl gw) (blkOk_by (N := n_probe_of) (sc := defScope s_probe_of) (by decide +kernel)) (fun _ _ _ _ _ => pg_name (i := 4) sc_probe_of.nd rfl (.inl rfl)) (fun _ _ => trivial) ?_ (by decide) ?_) fun pb wsb H2 hpb x2 h2 r2 => ?_))
  · rintro M H d σ' ⟨v, _, rfl⟩
    rfl
  · rintro s0 H0 C cl fp M' H' p σ' hM lift kp hp ⟨v', rv, rfl⟩
    exact ⟨td_inT (nm 4 rv) (nm 1 (lift _ _ rh)), nm 4 rv⟩
  have al2 := al1.mono x2
  have rh2 := rh.mono (fun _ z => z) (.of x2)
  have rb : Rp K M H2 (.ref pb) (strsD (bwL ks)) := .lst (al1.fresh hpb |> fun z => z) (.inl h2) r2
  refine b_cons (s_setFA (M := M) (i := 3) str_inj (fun p => decide (p ∈ heldL ks)) (fun p => .int (((idx (bwL ks) p : Nat) : Int) + 1)) (l := BI) (t := .one 4) (own := [("part", 4)]) rfl sc_probe_of.nd (by exact src_gtup ki rfl gi) (blkOk_by (N := n_probe_of) (sc := defScope s_probe_of) (by decide +kernel)) (fun _ _ _ _ _ => pg_name (i := 4) sc_probe_of.nd rfl (.inl rfl)) (fun _ _ => trivial) ?_ (by decide) ?_ al2 rfl rfl rfl fun pr wsr H3 hpr x3 h3 r3 => ?_)
  · rintro M H d σ' ⟨v, _, rfl⟩
    rfl
  · rintro s0 H0 C cl fp M' H' p σ' hM lift hp ⟨v', rv, rfl⟩
    refine ⟨tsd_one (td_inT (nm 4 rv) (nm 1 (lift _ _ rh2))), fun hk => ?_⟩
    have hm := find_ok (mem_bw hp (of_decide_eq_true hk))
    exact pd_add (pd_indexS (nm 2 (lift _ _ rb)) (nm 4 rv) hm.1 hm.2) pd_int
  have al3 := al2.mono x3
  have rb3 := rb.mono (fun _ z => z) (.of x3)
  have rr3 : Rp K M H3 (.ref pr) (.list ((rowI ks).map PyData.int)) := .lst (al2.fresh hpr) (.inl h3) (by
    have e : (rowI ks).map PyData.int = (BI.filter fun p => decide (p ∈ heldL ks)).map fun p => PyData.int (((idx (bwL ks) p : Nat) : Int) + 1) := by
      unfold rowI
      rw [List.map_map]
      rfl
    rw [e]
    exact r3)
  have hl := find_ok (mem_bw (ks := ks) (p := "lighter") (by decide +kernel) (List.mem_cons_self ..))
  have hr2 := find_ok (mem_row (ks := ks))
  refine b_cons (s_ret al3 (pd_tup (ad_cons (pd_tupleOf rfl nb.tuple (nm 3 rr3) rfl) (ad_cons (pd_indexI (nm 3 rr3) (pd_add (pd_indexS (nm 2 rb3) pd_str hl.1 hl.2) pd_int) hr2.1 hr2.2) ad_nil)) (by show 2 ≤ 100000; decide)) fun v4 H4 x4 r4 => q v4 H4 (((x1.trans x2).trans x3).trans x4) r4)
end
end YK

set_option maxHeartbeats 2000000
/-! a lambda handed to a def that keeps names of its own while it calls it: what is raised may speak of these names -/
namespace GV
open PySem PySem.Spec PyProof.Rows L2
section
variable {X : Cx} {pins : List (Addr × Obj)} {σ : St} {H HZ : Hp} {s s1 : Shared}
/-- x(), in the def that got the closure; the error's promise is asked at the names that stand -/
theorem pe_actA {CXg : CXT} {Eg : XK} {Ng : List Str} {qg : Str} {sg : Scope} {g f c' : Addr} {cdg pm ctv : Value} {params : Arguments} {body : Expr} {scope : Scope} {k i : Nat} {a : Str} {pn : List (Addr × Obj)} {xe : Value → Shared → Prop} {W : WX} {E : XK} {tb : TE} {p1 p2 : Pos}
    (J : Inv X pins σ H s) (L : LamX.LamS X.env.scope scope) (of0 : s.heap.get? f = some (PySem.W.kla_obj "<lambda>" (X.env.qual ++ "<lambda>") params body scope (cloFrom X.env.cells scope.names []) pm c' ctv)) (n0 : H f = none) (nfr : f ∉ frs X.stack)
    (bd : bindArgs (PySem.W.kla_fn "<lambda>" (X.env.qual ++ "<lambda>") params body scope (cloFrom X.env.cells scope.names []) pm (.ref c') ctv) ⟨[], []⟩ = pure [])
    (tk : Takes ((cxOf CXg X.prog X.w X.K X.mg X.base Ng qg sg g cdg X.A X.stack s H Eg).tr pn xe) W) (room : Room (k + 1) (X.A.deeper (envOfC qg sg s.heap.objs.size g cdg)))
    (rd : ∀ (A : Around) (outer : List Env) (s : Shared) (H : Hp), Room k (A.deeper (LamX.lamEnv X scope s.heap.objs.size f c')) → PE (LamX.lamCx X A outer s H E scope f c') body tb)
    (hN : Ng[i]? = some a) (hv : Vis sg a) (hd : (a == ("__debug__" : Str)) = false := by decide) (hcd : (a == ("__classdict__" : Str)) = false := by decide) :
    PE ((cxOf CXg X.prog X.w X.K X.mg X.base Ng qg sg g cdg X.A X.stack s H Eg).tr pn xe) (.Call (.Name a p1) [] [] p2)
      (fun τ HZ Q => τ[i]? = some (some (.ref f)) ∧ HZ c' = some (LamX.CodeO c' (X.env.qual ++ "<lambda>")) ∧ (∀ cls d H', E cls d H' → W cls d τ H') ∧ tb σ HZ Q) := by
  constructor
  rintro pz sz τ HZ Q JZ ⟨at_, co, hW, rdg⟩
  have nameRun := (pe_var (pos := p1) (i := i) hN hv hd hcd).run pz sz τ HZ (fun v H1 => v = .ref f ∧ H1 = HZ) JZ ⟨.ref f, at_, rfl, rfl⟩
  refine wpAny_Call_Name_kw (thn nameRun ?_)
  rintro u t ⟨v, H1, J1, rel, ev, eh⟩
  cases ev
  rw [eh] at J1
  cases (show u = Value.ref f from rel)
  have of1 := J1.base.keep f _ of0 n0 nfr fun z => nomatch (show f ∈ ([] : List Addr) from z)
  obtain ⟨⟨oc, vs, tt, o1, o2, o3⟩, _⟩ := J1.hok c' _ co
  have go : codeAny (model X.prog X.w) (X.A.deeper (envOfC qg sg s.heap.objs.size g cdg)) (.call (.ref f) ⟨[], []⟩) (L2.CR (L2.CX X.prog X.w) (envOfC qg sg s.heap.objs.size g cdg :: X.stack) X.prog X.w HZ t Q E) t := by
    refine PySem.W.kla_callFunE room.depth of1 rfl L.co L.gen rfl ⟨c', oc, vs, tt, rfl, o1, o2, o3⟩ ?_
    rw [bd]
    refine wpAny_pure (wpAny_newFunctionEnv (fun y hy => (L.own y hy).2) (fun y hy => absurd hy (by simp)) (fun g1 gns gsb => ⟨J1.nolimit.fresh _ gsb, ?_⟩) L.kind)
    have stay : ∀ b o, t.heap.get? b = some o → g1.get? b = some o := fun b o e => gsb.extBut b o (Nat.ne_of_lt (Heap.lt_size e)) (Heap.get?_push_of_some _ e)
    have JL := LamX.lam_start2 (E := E) (f := f) (c' := c') (tk := t.toks + ([] : List (Str × Value)).length) J L J1.env0 room.hd J1.base gns stay
    show codeAny _ _ (.expr body (LamX.lamEnv X scope t.heap.objs.size f c')) _ _
    refine PySem.W.kla_codeExpr (wpAny_mono ((rd _ _ t HZ (room.deeper _)).run [] _ _ HZ Q JL rdg) ?_ fun _ _ z => z)
    rintro v s' ⟨w', H', J', rv, q⟩
    exact ⟨w', H', J'.os, J'.bare, J'.base, J'.hok, rv, q⟩
  refine PySem.W.callWith_F0 ⟨_, _, _, _, of1⟩ (wpAny_call (codeAny_mono go fun r s' got => ?_))
  match r, got with
  | .error e, got => exact tk e s' (XE.of_call J1 hW got)
  | .ok (.ret u), got => exact J1.after got
  | .ok .next, got => exact (show False from got).elim
  | .ok .brk, got => exact (show False from got).elim
  | .ok .cont, got => exact (show False from got).elim
end
/-- the def that calls what it got -/
def GivesA (X : Cx) (Ng : List Str) (x : Str) (sg : Scope) (g : Addr) (cdg : Value) (bg : List Stmt) (a : Str) (q : Str) (TT : (XK → Hp → VK → Prop) → Hp → VK → Prop) : Prop :=
  ∀ (f c' : Addr) (s : Shared) (H : Hp) (Q : VK) (tl : XK → Hp → VK → Prop),
    (∀ (W : WX) (pn : List (Addr × Obj)) (xe : Value → Shared → Prop) (E : XK) (p1 p2 : Pos), Takes ((cxOf C8.CX0 X.prog X.w X.K X.mg X.base Ng x sg g cdg X.A X.stack s H C8.E0).tr pn xe) W →
      PE ((cxOf C8.CX0 X.prog X.w X.K X.mg X.base Ng x sg g cdg X.A X.stack s H C8.E0).tr pn xe) (.Call (.Name a p1) [] [] p2) fun τ HZ Q => τ[0]? = some (some (.ref f)) ∧ HZ c' = some (LamX.CodeO c' q) ∧ (∀ cls d H', E cls d H' → W cls d τ H') ∧ tl E HZ Q) →
    H c' = some (LamX.CodeO c' q) → TT tl H Q → wB (cxOf C8.CX0 X.prog X.w X.K X.mg X.base Ng x sg g cdg X.A X.stack s H C8.E0).nox bg { nx := fun _ H' => Q .non H', rt := Q } (L2.start Ng [.ref f]) H
/-- x(lambda: body) -/
theorem ce_lamA {X : Cx} {σ : St} {H : Hp} {Q : VK} {T : List (Addr × Str)} {TT : (XK → Hp → VK → Prop) → Hp → VK → Prop} {x a : Str} {g c P : Addr} {k : Nat} {pg : Arguments} {bg : List Stmt} {sg : Scope} {dV kV doc pm cdv ct oc : Value} {an od : Option Addr} {osl : Array (Option Value)} {Ng : List Str}
    {params : Arguments} {body : Expr} {scope : Scope} {p lpos pos : Pos} (hg : Gl X x) (hm : X.mg x = some (.ref g)) (hk : PySem.W.keepIn X.K (.ref g) = true)
    (lk : X.K.lookup g = some ⟨oc, od, .func (PySem.W.fnOf x x pg bg sg dV kV doc pm an cdv ct), osl⟩) (hcg : PySem.W.codeIn X.K cdv x = true) (hb : Binds X.K (PySem.W.fnOf x x pg bg sg dV kV doc pm an cdv ct) [a] []) (Sg : FnScope Ng [a] sg) (hNg : Ng[0]? = some a) (hva : Vis sg a)
    (hG : GivesA X Ng x sg g cdv bg a (X.env.qual ++ "<lambda>") TT) (TB : LamX.TabB X.base X.mg c P) (hcode : X.env.code = .ref c) (hmT : (P, X.env.qual ++ "<lambda>") ∈ T) (hu : ∀ p ∈ T, p.1 = P → p.2 = X.env.qual ++ "<lambda>") (room : Room (k + 2) X.A) (L : LamX.LamS X.env.scope scope) (hdef : defaultsOf params X.env = ([], []))
    (bd : ∀ (q : Str) (cl : List (Str × Addr)) (pm cv ctv : Value), bindArgs (PySem.W.kla_fn "<lambda>" q params body scope cl pm cv ctv) ⟨[], []⟩ = pure [])
    (hT : LamX.Tabs T H) (h : ∀ H1, LamX.ExtN H H1 → LamX.Tabs T H1 → TT (fun E H' Q' => ∀ (A : Around) (outer : List Env) (s : Shared) (H0 : Hp) (f c' : Addr), Room k (A.deeper (LamX.lamEnv X scope s.heap.objs.size f c')) → wE (LamX.lamCx X A outer s H0 E scope f c') body σ H' Q') H1 Q)
    (hdb : (x == ("__debug__" : Str)) = false := by decide) (hd : (a == ("__debug__" : Str)) = false := by decide) (hcd : (a == ("__classdict__" : Str)) = false := by decide) :
    wE X (.Call (.Name x p) [.Lambda params body scope lpos] [] pos) σ H Q := by
  refine ⟨fun τ HZ Q => τ = σ ∧ LamX.Tabs T HZ ∧ ∀ H1, LamX.ExtN HZ H1 → LamX.Tabs T H1 → TT (fun E H' Q' => ∀ (A : Around) (outer : List Env) (s : Shared) (H0 : Hp) (f c' : Addr), Room k (A.deeper (LamX.lamEnv X scope s.heap.objs.size f c')) → wE (LamX.lamCx X A outer s H0 E scope f c') body σ H' Q') H1 Q, ⟨?_⟩, rfl, hT, h⟩
  rintro pins s τ HZ Q J ⟨rfl, t, h⟩
  refine wpAny_Call_Name_kw (ld_glob J hg hm (PySem.W.callWith_K (h₀ := X.base) J.ok.mod.kin hk ?_ (by rfl) (by rfl)) hdb)
  show wpAny _ _ (spliced ((false, eval (.Lambda params body scope lpos) X.env) :: backTo pos (starEach [] X.env))) _ _ s
  refine Calls.spliced_cons (LamX.lam_make2 J TB hcode hmT hu t hdef (L.has J.ok) ?_)
  intro f c' pm' ctv H1 s' J1 eN T1 of1 n1 nfr co
  have done : codeAny (model X.prog X.w) X.A (.call (.ref g) ⟨[.ref f], []⟩) (L2.CR C8.CX0 X.stack X.prog X.w H1 s' Q C8.E0) s' := LamX.run_ofS (N := Ng) (ps := [a]) (us := [.ref f]) (vs := [.ref f]) lk hcg Sg room J1.env0 (hb s' [.ref f] J1.kIn rfl) (.cons rfl .nil) rfl fun room' => by
    obtain ⟨u, hu', q⟩ := hG f c' s' H1 Q _ (fun W pn xe E p1 p2 tk => pe_actA (i := 0) (tb := fun τ H' Q' => ∀ (A : Around) (outer : List Env) (s : Shared) (H0 : Hp) (f c' : Addr), Room k (A.deeper (LamX.lamEnv X scope s.heap.objs.size f c')) → wE (LamX.lamCx X A outer s H0 E scope f c') body τ H' Q') J1 L of1 n1 nfr (bd _ _ _ _ _) tk room' (fun A outer s H0 hr2 => ⟨fun pins sh σ H Q I h => wE.pe.run pins sh σ H Q I (h A outer s H0 f c' hr2)⟩) hNg hva hd hcd) co (h H1 eN T1)
    exact ⟨u, hu'.nox, q⟩
  refine Calls.spliced_nil ⟨J1.kIn, wpAny_call (codeAny_mono done fun r s2 got => ?_)⟩
  match r, got with
  | .error e, got => exact (show False from got).elim
  | .ok (.ret u), got => exact J1.after got
  | .ok .next, got => exact (show False from got).elim
  | .ok .brk, got => exact (show False from got).elim
  | .ok .cont, got => exact (show False from got).elim
end GV

/-! sorted(e), e a list of fewer than 64 whole numbers whose order is known -/
namespace GV
open PySem PySem.Spec PyProof.Rows L2
section
variable {X : Cx} {M : Addr → Prop} {σ : St} {H : Hp} {a : Expr} {pos : Pos}
theorem fd_sortL {p : Pos} {ns out : List Int} (hg : Gl X "sorted") (hm : X.mg "sorted" = none) (ha : PD X M a σ H (.list (ns.map PyData.int))) (hl : ns.length < 64) (ho : out.Pairwise (· ≤ ·)) (hp : out.Perm ns) (hs : starEach (a :: []) X.env = (false, eval a X.env) :: starEach [] X.env := by rfl) (hpl : (backTo pos (starEach [] X.env)).any (·.1) = false := by rfl) :
    FD X M (.Call (.Name "sorted" p) [a] [] pos) σ H (out.map PyData.int) := by
  refine fd_callB cr_sortQ hg hm PyProof.Rows.boot_sorted (ad_cons ha ad_nil hs) (fun vs H1 r al Q q => ?_) (by decide) (by decide) hs hpl
  obtain ⟨v, rfl, r1⟩ := rpa1 r
  cases r1 with
  | lst m h rs =>
    rw [rs.of_ints] at h
    refine ⟨_, ns, rfl, .inl (.inl h), hl, fun ns' p' hp' hs' hn => ?_⟩
    rw [List.Perm.eq_of_pairwise (le := (· ≤ ·)) (fun a b _ _ h1 h2 => Int.le_antisymm h1 h2) hs' ho (hp'.trans hp.symm)]
    exact q p' _ _ hn (Evl.Ex.new hn) upd_same (RpAll.ints _)
end
end GV

/-! x += e of ints; a walk over enumerate(a tuple of the top) whatever its turns change; a tuple of two unpacked -/
namespace GV
open PySem PySem.Spec PyProof.Rows L2
section
variable {X : Cx} {σ : St} {H : Hp} {e : Expr} {pos : Pos} {D : Ends}
theorem cs_augI {i : Nat} {x : Str} {p : Pos} {n : Int} (hN : X.N.Nodup) (hi : X.N[i]? = some x) (hx : Loc X.env.scope x) (hs : σ[i]? = some (some (.int n))) (h : wE X e σ H fun v H2 => ∃ m, v = .int m ∧ D.nx (σ.set i (some (.int (n + m)))) H2)
    (hf : X.fn x = true ∨ X.env.scope.names.lookup x = some .local := by first | exact .inl rfl | exact .inr rfl | assumption) : wS X (.AugAssign (.Name x p) .Add e pos) D σ H :=
  ⟨_, ps_aug hN hi hx wE.pe ip_add hf, .int n, hs, wE.weak h fun v H2 ⟨m, e, q⟩ => ⟨n, m, rfl, e, q⟩⟩
theorem s_forEK {i j kk : Nat} {p p1 tpos : Pos} {elts : List Expr} {t : Addr} {xs : List V} {body : List Stmt} (hp : PassesOwn (model X.prog X.w) X.A X.env X.xe) (hc : X.calm = true) (hg : Gl X "enumerate") (hm : X.mg "enumerate" = none) (hT : PG X (.Tuple elts kk tpos) (Tg.g X.K (.two i j))) (hk : KTup X.K t xs)
    (he : ∀ Q : VK, Q (.ref t) H → wE X e σ H Q) (J : Nat → St → Hp → Prop) (h0 : J 0 σ H)
    (ht : ∀ k σ' H' y H2, xs[k]? = some y → J k σ' H' → Evl.Ex H' H2 → wB X body { D with nx := J (k + 1), ct := J (k + 1), bk := D.nx } ((σ'.set i (some (.int (k : Nat)))).set j (some y)) H2)
    (hd : ∀ σ' H', J xs.length σ' H' → D.nx σ' H') (hs : starEach [e] X.env = [(false, eval e X.env)] := by rfl) (hs' : starEach (e :: []) X.env = (false, eval e X.env) :: starEach [] X.env := by rfl)
    (hf : ∀ x, foldedSetIterable (.Call (.Name "enumerate" p) [e] [] p1) X.env x = pure x := by intro _; rfl) : wS X (.For (.Tuple elts kk tpos) (.Call (.Name "enumerate" p) [e] [] p1) body [] pos) D σ H := by
  refine ⟨_, ps_for hp hc (pi_enumT hg hm wA.pa hs) hT wB.ps hf, ca_cons (he _ (ca_nil ⟨t, xs, rfl, .inr hk, ?_⟩)) hs'⟩
  refine ⟨fun k m σ' H' => m = xs.length - k ∧ k ≤ xs.length ∧ J k σ' H', ⟨xs.length, rfl, Nat.zero_le _, h0⟩, ?_⟩
  rintro k m σ' H' ⟨rfl, hk', jj⟩
  by_cases hlt : k < xs.length
  · refine .inr ⟨⟨xs, xs[k], .inr hk, List.getElem?_eq_getElem hlt⟩, J (k + 1), fun σ2 H2 j2 => ⟨xs.length - (k + 1), by omega, rfl, hlt, j2⟩, fun v H2 q => ?_⟩
    obtain ⟨T, z, rfl, hT, rfl, q⟩ := q
    exact ⟨T, _, rfl, .inl (.inl upd_same), rfl, _, [z], rfl, z, [], rfl, rfl, ht k σ' H' z _ (q xs (.inr hk)) jj (Evl.Ex.new hT)⟩
  · have e2 : k = xs.length := by omega
    subst e2
    exact .inl ⟨⟨xs, .inr hk, Nat.le_refl _⟩, hd σ' H' jj⟩
/-- x, y = a tuple of two, whatever its making changes -/
theorem cs_unpP {i j kt : Nat} {x y : Str} {px py pt : Pos} (hc : X.calm = true) (hx : PG X (.Name x px) (gName i)) (hy : PG X (.Name y py) (gName j))
    (h : wE X e σ H fun r H2 => ∃ p v w, r = .ref p ∧ SqT X.K H2 p [v, w] ∧ D.nx ((σ.set i (some v)).set j (some w)) H2)
    (hn : (assignEach [.Name x px, .Name y py] X.env).length = 2 := by rfl) (hst : (assignEach [.Name x px, .Name y py] X.env).findIdx? (·.1) = none := by rfl) (hs : swapsWithSole [.Tuple [.Name x px, .Name y py] kt pt] e pos.line X.env = pure false := by rfl) (hw : swappedStores [.Tuple [.Name x px, .Name y py] kt pt] e X.env = pure none := by rfl)
    (h1 : (assignEach [.Tuple [.Name x px, .Name y py] kt pt] X.env).map (·.2) = [assign (.Tuple [.Name x px, .Name y py] kt pt) X.env] := by rfl) : wS X (.Assign [.Tuple [.Name x px, .Name y py] kt pt] e pos) D σ H :=
  ⟨_, ps_asg wE.pe (pg_tup hc (pgs_cons hx (pgs_cons hy pgs_nil)) hn hst) hs hw h1, wE.weak h fun r H2 ⟨p, v, w, e, hp, q⟩ => ⟨p, _, e, hp, rfl, v, _, rfl, w, _, rfl, rfl, q⟩⟩
/-- a if c else b -/
theorem ce_if {c a b : Expr} {Q : VK} (h : wT X c σ H fun k H2 => if k = true then wE X a σ H2 Q else wE X b σ H2 Q) : wE X (.IfExp c a b pos) σ H Q := ⟨_, pe_ifExp wT.pt wE.pe wE.pe, h⟩
end
end GV

namespace YK
open PySem PySem.Spec PyProof.Rows L2 GV
abbrev gv0 : List V → List V → List V := fun vs _ => vs ++ [V.int 0]
/-! ### what the law asks of a log -/
structure LogM (P : Program) (w : World) (K : PySem.W.Frag) (mg : Str → Option Value) (base : Heap) (CL CN CH : Addr) : Prop where
  nb : NoB mg
  B : LogC K CL
  BH : HouC K CH
  gL : mg "Log" = some (.ref CL)
  mkL : MkL P w K mg base CL
  gH : mg "House" = some (.ref CH)
  mkH : MkH P w K mg base CH
  note : MethS P w K mg base CX0 CL "note" 7 ["self", "row", "place", "done"] (spNote K CL)
  strike : MethS P w K mg base (L2.CX P w) CL "strike" 6 ["self", "index"] (spStrike K CL)
  lines : MethS P w K mg base CX0 CL "lines" 1 ["self"] (spLines K CL)
  fit0 : MethK P w K mg base (L2.CX P w) CL "fitting" 6 [] gv0 (spFit K CL CN)
theorem LogAt.m0 {K : PySem.W.Frag} {CL : Addr} {H H' : Hp} {g l1 l2 : Addr} {ls : List Ln} (a : LogAt K CL H g l1 l2 ls) (e : ExM M0 H H') : LogAt K CL H' g l1 l2 ls := a.exM (S := M0) e (fun _ z => z.elim) (fun z => z) fun z => z
theorem LinesAt.m0 {K : PySem.W.Frag} {H H' : Hp} {a : Addr} {ls : List Ln} (h : LinesAt K H a ls) (e : ExM M0 H H') : LinesAt K H' a ls := h.exM (S := M0) e (fun _ z => z.elim) fun z => z
theorem PotAt.m0 {H H' : Hp} {b : Addr} (h : PotAt H b) (e : ExM M0 H H') : PotAt H' b := let ⟨r, c, s, hh⟩ := h; ⟨r, c, s, e _ _ hh (fun z => z) fun _ z => by cases z⟩
section
variable {X : Cx} {CL CN CH : Addr} {σ : St} {H : Hp} {o e e1 e2 : Expr} {pos apos p : Pos} {j : Nat} {g l1 l2 : Addr} {ls : List Ln} {pl : Sem Bool}
theorem fd_fit0 (L : LogM X.prog X.w X.K X.mg X.base CL CN CH) (hr : Room j X.A) (hj : 6 ≤ j) (a : LogAt X.K CL H g l1 l2 ls) (hl : ls.length ≤ 1000) (ho : ∀ H2 (Q : VK), Q (.ref g) H2 → wE X o σ H2 Q)
    (hall : (backToKw pos (keywordEach [] X.env)).all (·.1.isSome) = true := by rfl) (hks : (backToKw pos (keywordEach [] X.env)).filterMap (·.1) = [] := by rfl)
    (hpl : ((backTo pos (starEach [] X.env)).any (·.1) || (backToKw pos (keywordEach [] X.env)).any (·.1.isNone)) = false := by rfl)
    (hev : eval (.Call (.Attribute o "fitting" apos) [] [] pos) X.env = (do
      let ov ← eval o X.env
      standAt apos.atName
      let (f, first) ← holding [ov] (getMethod ov "fitting" pl)
      callWith pos f first (backTo pos (starEach [] X.env)) (backToKw pos (keywordEach [] X.env))) := by rfl) : FD X M0 (.Call (.Attribute o "fitting" apos) [] [] pos) σ H ((fitN ls 0).map txtD) := .mk fun H1 x1 al Q q => by
  have a1 := a.m0 x1
  obtain ⟨dx, hg⟩ := a1.ins
  exact ce_methK (pl := pl) (W := fun _ _ _ _ => False) L.B.ins.cl L.fit0 hr hj (fun σ => passAt takes0 σ) (ho _ _ ⟨g, dx, _, rfl, hg, rfl, ck_nil ⟨rfl, g, l1, l2, ls, .int 0, rfl, a1, hl, .inl ⟨0, rfl, by decide, by decide, q⟩⟩⟩) hall hks hpl hev
end
/-- a def of the text, with the code object that is its own -/
structure FunC (K : PySem.W.Frag) (mg : Str → Option Value) (x : Str) (st : Stmt) (f : Addr) (fd : FuncData) (cdv : Value) : Prop where
  ex : ∃ oc od kV doc pm an ct osl, fd = PySem.W.fnOf x x (defArgs st) (defBody st) (defScope st) .none kV doc pm an cdv ct ∧ K.lookup f = some ⟨oc, od, .func fd, osl⟩ ∧ PySem.W.codeIn K cdv x = true
  kp : PySem.W.keepIn K (.ref f) = true
  gl : mg x = some (.ref f)
theorem FunC.fn {K : PySem.W.Frag} {mg : Str → Option Value} {x : Str} {st : Stmt} {f : Addr} {fd : FuncData} {cdv : Value} (F : FunC K mg x st f fd cdv) : Fun K x x st f fd := by
  obtain ⟨oc, od, kV, doc, pm, an, ct, osl, h1, h2, h3⟩ := F.ex
  exact ⟨⟨oc, od, kV, doc, pm, an, cdv, ct, osl, h1, h2, h3⟩, F.kp⟩
section
variable {P : Program} {w : World} {K : PySem.W.Frag} {mg : Str → Option Value} {base : Heap}
theorem FunC.ok {x : Str} {st : Stmt} {f : Addr} {fd : FuncData} {cdv : Value} {N ps : List Str} {k : Nat} {sp : Sp} (F : FunC K mg x st f fd cdv) (S : FnScope N ps (defScope st)) (len : ∀ vs H Q E, sp vs H Q E → vs.length = ps.length)
    (body : ∀ (A : Around) (outer : List Env) (s : Shared) (H : Hp) (vs : List V) (Q : VK) (E : XK), Room k (A.deeper (PyProof.Rows.envOfC x (defScope st) s.heap.objs.size f cdv)) → sp vs H Q E →
      wB (cxOf CX0 P w K mg base N x (defScope st) f cdv A outer s H E).nox (defBody st) { nx := fun _ H' => Q .non H', rt := Q } (L2.start N vs) H) : FnOk P w K mg base CX0 (k + 1) f fd ps sp := by
  obtain ⟨oc, od, kV, doc, pm, an, ct, osl, rfl, lk, hcd⟩ := F.ex
  exact fn_of lk hcd S len fun A outer s H vs Q E hr hsp => ⟨_, PSs.nox wB.ps, body A outer s H vs Q E hr hsp⟩
/-- the table of the code objects of the lambda in the def whose code is cdv -/
def LamB (mg : Str → Option Value) (base : Heap) (T : List (Addr × Str)) (cdv : Value) (q : Str) : Prop := ∃ c Pt, cdv = .ref c ∧ LamX.TabB base mg c Pt ∧ (Pt, q) ∈ T ∧ ∀ p ∈ T, p.1 = Pt → p.2 = q
end
def pRow (c : Nat) : List Int := rowI (kindsL c)
def pPl (c : Nat) : Nat := plI (kindsL c)
end YK

/-! len(set(xs)), xs a list or tuple of texts, any of them as often as it likes -/
namespace GV
open PySem PySem.Spec PyProof.Rows L2
/-- how many different ones stand among the first -/
def dN (xs : List Str) : Nat → Nat
  | 0 => 0
  | i + 1 => if decide (xs.getD i Str.empty ∈ xs.take i) = true then dN xs i else dN xs i + 1
theorem dN_le (xs : List Str) : ∀ i, dN xs i ≤ i
  | 0 => Nat.le_refl 0
  | i + 1 => by
    have := dN_le xs i
    unfold dN
    split <;> omega
theorem dN_nodup {xs : List Str} (h : xs.Nodup) : ∀ i, i ≤ xs.length → dN xs i = i
  | 0, _ => rfl
  | i + 1, hi => by
    have e := dN_nodup h i (by omega)
    have n : ¬ xs.getD i Str.empty ∈ xs.take i := fun m => by
      obtain ⟨j, hj, ej⟩ := List.mem_iff_getElem.mp m
      rw [List.length_take] at hj
      rw [List.getElem_take, List.getD_eq_getElem?_getD, List.getElem?_eq_getElem (by omega)] at ej
      have := (List.getElem_inj h).mp ej
      omega
    unfold dN
    rw [if_neg (by rw [decide_eq_false n]; decide), e]
theorem dN_dup {xs : List Str} (h : ¬ xs.Nodup) : dN xs xs.length < xs.length := by
  have key : ∀ i, i ≤ xs.length → dN xs i = i → (xs.take i).Nodup := by
    intro i
    induction i with
    | zero => intro _ _; rw [List.take_zero]; exact List.nodup_nil
    | succ i ih =>
      intro hi e
      unfold dN at e
      have l := dN_le xs i
      split at e
      · omega
      · rename_i k
        have k : ¬ xs.getD i Str.empty ∈ xs.take i := fun z => k (decide_eq_true z)
        have hx : xs[i]? = some (xs.getD i Str.empty) := by
          rw [List.getD_eq_getElem?_getD, List.getElem?_eq_getElem (by omega)]
          rfl
        rw [List.take_add_one, hx]
        refine List.nodup_append.mpr ⟨ih (by omega) (by omega), by simp, ?_⟩
        rintro a ha b hb rfl
        simp only [Option.toList_some, List.mem_singleton] at hb
        exact k (hb ▸ ha)
  have l := dN_le xs xs.length
  rcases Nat.lt_or_ge (dN xs xs.length) xs.length with z | z
  · exact z
  · have := key xs.length (Nat.le_refl _) (by omega)
    rw [List.take_length] at this
    exact absurd this h
section
variable {P : Program} {w : World} {A : Around} {E : Value → Shared → Prop} {s : Shared}
theorem upd_strs {I : Addr} {fp wr : List Addr} {G : Array GenState → Array GenState → Prop} {n : Nat} {Pv : Nat → Value → Prop} {St : Nat → Shared → Prop} {R : Result → Shared → Prop} (W : WalksS P w A.in1 I fp wr G n Pv St) (S : Addr) (nf : S ∉ fp) (xs : List Str) (hn : n = xs.length) (hb : xs.length + 1 < scanBound)
    (val : ∀ i v, Pv i v → ∃ x t, xs[i]? = some x ∧ v = .str x t) : ∀ (m i : Nat) (s : Shared), n - i = m → i ≤ n → St i s → s.heap.SetOf (PySem.strKind P w) S (fun x => decide (x ∈ xs.take i)) (dN xs i) →
      (∀ s', Moved (S :: wr) G s s' → s'.heap.SetOf (PySem.strKind P w) S (fun x => decide (x ∈ xs.take n)) (dN xs n) → R (.ok (.ret .none)) s') → codeAny (model P w) A (.builtin "set.update.loop" ⟨[.ref S, .ref I], []⟩) R s := by
  have nw : S ∉ wr := fun z => nf (W.sub _ z)
  have sub : ∀ b ∈ wr, b ∈ S :: wr := fun b z => List.mem_cons_of_mem _ z
  have stay : ∀ {s s' : Shared} {f : Str → Bool} {c : Nat}, s.heap.SetOf (PySem.strKind P w) S f c → Moved wr G s s' → s'.heap.SetOf (PySem.strKind P w) S f c := fun ⟨o, es, ep, t, ho, rest⟩ mv => ⟨o, es, ep, t, mv.heap S _ nw ho, rest⟩
  intro m
  induction m with
  | zero =>
    intro i s hm hi st so fin
    obtain rfl : i = n := by omega
    refine codeAny_builtin F.entry_set_update_loop (by rw [Around.under_plainId F.plain_set_update_loop _]; exact (show wpAny _ A.in1 (pyNext (.ref I) >>= _) _ _ s from wpAny_bind (W.done s _ _ st fun s' mv => (show wpAny _ A.in1 (ret Value.none) _ _ s' from wpAny_pure (fin s' (mv.mono sub) (stay so mv))))))
  | succ m ih =>
    intro i s hm hi st so fin
    have lt : i < n := by omega
    refine codeAny_builtin F.entry_set_update_loop ?_; rw [Around.under_plainId F.plain_set_update_loop _]
    refine (show wpAny _ A.in1 (pyNext (.ref I) >>= _) _ _ s from wpAny_bind (W.item i s _ _ lt st fun v s' hP st' mv => ?_))
    obtain ⟨x, t, hx, rfl⟩ := val i v hP
    have so' := stay so mv
    show wpAny _ A.in1 (holding [Value.str x t] (setAdd S (.str x t)) >>= _) _ _ s'
    refine wpAny_bind (wpAny_holding ?_)
    unfold setAdd
    refine wpAny_holding (wpAny_bind ((PySem.strKind P w).pyHash (k := x) (strKind_is _ _ _ _) ?_))
    have room : dN xs i + 1 < scanBound := by
      have := dN_le xs i
      omega
    refine wpAny_setAddHashed_of (knd := PySem.strKind P w) (s := { s' with toks := s'.toks + 1 }) (strKind_is _ _ _ _) rfl so' room fun g sb so2 => ?_
    have ex : xs.getD i Str.empty = x := by
      rw [List.getD_eq_getElem?_getD, hx]
      rfl
    have so3 : g.SetOf (PySem.strKind P w) S (fun y => decide (y ∈ xs.take (i + 1))) (dN xs (i + 1)) := SetOf_congr so2 (fun y => by
      show (decide (y ∈ xs.take i) || decide (y = x)) = decide (y ∈ xs.take (i + 1))
      rw [List.take_add_one, hx]
      simp [List.mem_append]) (by
      show (if decide (x ∈ xs.take i) = true then dN xs i else dN xs i + 1) = dN xs (i + 1)
      rw [← ex]
      rfl)
    refine wpAny_pure ⟨plainId_quiet F.plain_set_update_loop _, ih (i + 1) _ (by omega) lt (W.frame _ s' _ _ st' (Nat.le_succ _) fun b hb' o e => ?_) so3 fun s2 mv2 so4 => ?_⟩
    · rw [sb.2 b fun z : b = S => nf (z ▸ hb')]
      exact e
    · refine fin s2 (Moved.trans W.gtrans ((mv.mono sub).then_heap (Nat.le_succ _) fun b o nb e => ?_) mv2) so4
      rw [sb.2 b fun z : b = S => nb (z ▸ List.mem_cons_self ..)]
      exact e
set_option maxHeartbeats 3200000 in
/-- set(l) of texts -/
theorem set_ofS {tp : Bool} {l : Addr} {items : Array Value} {xs : List Str} {Q : Value → Shared → Prop} (hh : A.handled = none) (hl : if tp = true then s.heap.IsTuple l items else s.heap.IsList l items) (hit : StrsAre items.toList xs) (hb : xs.length + 1 < scanBound)
    (fin : ∀ (g : Heap) (tk : Nat), g.SetOf (PySem.strKind P w) s.heap.objs.size (fun x => decide (x ∈ xs)) (dN xs xs.length) → (∀ b o, s.heap.get? b = some o → g.get? b = some o) → Q (.ref s.heap.objs.size) { s with heap := g, toks := tk }) :
    wpAny (model P w) A (call (.type "set") [.ref l]) Q E s := by
  have size : items.size = xs.length := by
    have q := StrsAre.len_eq hit
    rwa [Array.length_toList] at q
  obtain ⟨c, tl, hmro⟩ := F.called_set.mro
  have a1 := F.called_set.made
  have a2 := F.called_set.sub
  refine wpAny_call (codeAny_of_tree (show wpAny _ _ (callAny (.type "set") _) _ _ _ from wpAny_pure ⟨Code.quiet_builtin _ (by decide +kernel), codeAny_builtin F.entry_type_call ?_⟩))
  rw [Around.under_plain (weight_type_call_type "set" [.ref l] []) rfl]
  have a3 := F.called_set.notType
  have a4 := F.called_set.canCreate
  have a5 := F.typeCall_set_1 (.ref l)
  repeat (any_goals first | assumption | wp_step)
  refine codeAny_mono (code_set_led1 (.ref l) (E := E) (Q₁ := fun o s₁ => o = .ref s.heap.objs.size ∧ s₁ = { s with heap := s.heap.push (nset w) }) ⟨rfl, rfl⟩) fun r s₁ hr => ?_
  rcases r with er | fl
  · exact hr
  rcases fl with _ | _ | _ | ob
  iterate 3 exact hr.elim
  obtain ⟨rfl, rfl⟩ := hr
  have at0 : (s.heap.push (nset w)).get? s.heap.objs.size = some (nset w) := Heap.get?_push_size _ rfl
  have ty0 : Shared.TypeIs { s with heap := s.heap.push (nset w) } (.ref s.heap.objs.size) "set" := ⟨_, at0, rfl⟩
  have b1 := F.called_set.init.lookup
  have b2 := F.called_set.init.bind (.ref s.heap.objs.size)
  repeat (any_goals first | assumption | wp_step)
  refine codeAny_mono (codeAny_call_builtin (R := wants (fun r s₂ => r = .none ∧ ∃ g tk, s₂ = { s with heap := g, toks := tk } ∧ g.SetOf (PySem.strKind P w) s.heap.objs.size (fun x => decide (x ∈ xs)) (dN xs xs.length) ∧ (∀ b o, s.heap.get? b = some o → g.get? b = some o)) E)
    F.called_set.init.plain F.entry_set_init (check_set_init_1 ty0 ?_)) fun r₂ s₂ hr₂ => ?_
  · have lt : l < s.heap.objs.size := by
      cases tp with
      | true => obtain ⟨_, q, _⟩ := hl; exact Heap.lt_size q
      | false => obtain ⟨_, q, _⟩ := hl; exact Heap.lt_size q
    have hh3 : A.in1.in1.in1.handled = none := by simp [hh]
    have neI : l ≠ (s.heap.push (nset w)).objs.size := by
      rw [Heap.size_push]
      exact Nat.ne_of_lt (Nat.lt_succ_of_lt lt)
    have nf : s.heap.objs.size ∉ [(s.heap.push (nset w)).objs.size, l] := by
      rw [Heap.size_push]
      simp only [List.mem_cons, List.not_mem_nil, or_false, not_or]
      exact And.intro (Nat.ne_of_lt (Nat.lt_succ_self _)) (Nat.ne_of_gt lt)
    have val : ∀ (i : Nat) (v : Value), items[i]? = some v → ∃ x t, xs[i]? = some x ∧ v = .str x t := fun i v hv => by
      have hi : i < xs.length := by rw [← size]; exact (Array.getElem?_eq_some_iff.mp hv).1
      obtain ⟨t, e⟩ := SS.strs_at hit i v (by rwa [Array.getElem?_toList])
      refine ⟨xs[i], t, List.getElem?_eq_getElem hi, ?_⟩
      rw [e, List.getD_eq_getElem?_getD, List.getElem?_eq_getElem hi, Option.getD_some]
    have so0 : ∀ {g : Heap}, g.get? s.heap.objs.size = some (nset w) → g.SetOf (PySem.strKind P w) s.heap.objs.size (fun x => decide (x ∈ xs.take 0)) (dN xs 0) := fun e => SetOf_congr ((setObjOf_fresh (knd := PySem.strKind P w) _).setOf e (by unfold scanBound; omega)) (fun y => by simp) rfl
    have done : ∀ (ob : Obj) {s3 : Shared}, Moved [s.heap.objs.size, (s.heap.push (nset w)).objs.size] (fun a b => b = a) { s with heap := (s.heap.push (nset w)).push ob } s3 → s3.heap.SetOf (PySem.strKind P w) s.heap.objs.size (fun x => decide (x ∈ xs.take items.size)) (dN xs items.size) → ∃ g tk, s3 = { s with heap := g, toks := tk } ∧ g.SetOf (PySem.strKind P w) s.heap.objs.size (fun x => decide (x ∈ xs)) (dN xs xs.length) ∧ (∀ b o, s.heap.get? b = some o → g.get? b = some o) := by
      rintro ob ⟨g, gn, dr, tk, os⟩ hm hS'
      obtain rfl : gn = s.gens := hm.gens
      obtain rfl : dr = s.drawn := hm.drawn
      obtain rfl : os = s.os := hm.os
      refine ⟨g, tk, rfl, ?_, fun b o e => ?_⟩
      · rw [size, List.take_length] at hS'
        exact hS'
      · have b0 : b < s.heap.objs.size := Heap.lt_size e
        refine hm.heap b o ?_ (Heap.get?_push_of_some _ (Heap.get?_push_of_some _ e))
        rw [Heap.size_push]
        simp only [List.mem_cons, List.not_mem_nil, or_false, not_or]
        exact And.intro (Nat.ne_of_lt b0) (Nat.ne_of_lt (Nat.lt_succ_of_lt b0))
    cases tp with
    | false =>
      obtain ⟨⟨oc, od, odt, osl⟩, hol, hcl, nl, hdl⟩ := hl
      simp only at hcl hdl
      subst hcl hdl
      have ol : (s.heap.push (nset w)).get? l = some { cls := .type "list", dict := od, data := .seq items nl, slots := osl } := Heap.get?_push_of_some _ hol
      have c1 := F.sub_list_set
      have c2 := F.sub_list_frozenset
      have c3 : (Value.type "list" == Value.type "dict") = false := by decide
      have isl : (s.heap.push (nset w)).IsList l items := ⟨_, ol, rfl, nl, rfl⟩
      unfold Builtin.«set.__init__» noKeywords Builtin.Frozenset.updateFrom
      generalize hPI : pyIter = PI
      wp_walk
      subst hPI
      refine wpAny_pyIter_list isl (wpAny_bind (wpAny_runValue ?_))
      refine upd_strs ((Walks.list hh3 _ l neI items).toS) s.heap.objs.size nf xs size hb val (items.size - 0) 0 _ (by omega) (Nat.zero_le _) ⟨⟨_, Heap.get?_push_size _ rfl, rfl, rfl⟩, isl.push _⟩ (so0 (Heap.get?_push_of_some _ at0)) fun s3 mv so => ?_
      exact wpAny_pure (show wpAny _ _ (ret Value.none) _ _ _ from wpAny_pure ⟨rfl, done _ mv so⟩)
    | true =>
      obtain ⟨⟨oc, od, odt, osl⟩, hol, hcl, nl, hdl⟩ := hl
      simp only at hcl hdl
      subst hcl hdl
      have ol : (s.heap.push (nset w)).get? l = some { cls := .type "tuple", dict := od, data := .seq items nl, slots := osl } := Heap.get?_push_of_some _ hol
      have c1 := F.sub_tuple_set
      have c2 := F.sub_tuple_frozenset
      have c3 : (Value.type "tuple" == Value.type "dict") = false := by decide
      have isl : (s.heap.push (nset w)).IsTuple l items := ⟨_, ol, rfl, nl, rfl⟩
      unfold Builtin.«set.__init__» noKeywords Builtin.Frozenset.updateFrom
      generalize hPI : pyIter = PI
      wp_walk
      subst hPI
      refine wpAny_pyIter_tuple isl (wpAny_bind (wpAny_runValue ?_))
      refine upd_strs ((Walks.tuple hh3 _ l neI items).toS) s.heap.objs.size nf xs size hb val (items.size - 0) 0 _ (by omega) (Nat.zero_le _) ⟨⟨_, Heap.get?_push_size _ rfl, rfl, rfl⟩, isl.push _⟩ (so0 (Heap.get?_push_of_some _ at0)) fun s3 mv so => ?_
      exact wpAny_pure (show wpAny _ _ (ret Value.none) _ _ _ from wpAny_pure ⟨rfl, done _ mv so⟩)
  · rcases r₂ with er | fl₂
    · exact hr₂
    rcases fl₂ with _ | _ | _ | r
    iterate 3 exact hr₂.elim
    obtain ⟨rfl, g, tk, rfl, hS', hk'⟩ := hr₂
    repeat (any_goals first | assumption | wp_step)
    exact fin _ _ hS' hk'
end
section
variable {X : Cx} {M : Addr → Prop} {σ : St} {H : Hp} {a : Expr} {pos : Pos} {tp : Bool}
theorem pd_lenSetS {p p2 q2 : Pos} {xs : List Str} (hc : X.calm = true) (hg : Gl X "len") (hm : X.mg "len" = none) (hg2 : Gl X "set") (hm2 : X.mg "set" = none) (ha : PD X M a σ H (sqD tp (xs.map PyData.str))) (hl : xs.length < 60)
    (na : starEach [a] X.env = (false, eval a X.env) :: starEach [] X.env := by rfl) : PD X M (.Call (.Name "len" p) [.Call (.Name "set" p2) [a] [] q2] [] pos) σ H (.int (dN xs xs.length : Nat)) := .mk fun H1 e1 al Q q => by
  refine ⟨fun σ H Q => wE X a σ H fun x H1 => ∃ l, x = V.ref l ∧ (SqL X.K H1 l (xs.map V.str) ∨ SqT X.K H1 l (xs.map V.str)) ∧ Q (.int (dN xs xs.length : Nat)) H1, ⟨fun pins s σ H Q J h => ?_⟩, ?_⟩
  · refine Call_ (ld_blt J hg hm PySem.boot_len (PyProof.Rows.callWith_builtin1 (PyProof.Rows.args_cons ?_ rfl) rfl rfl))
    refine Call_ (ld_blt J hg2 hm2 PyProof.Rows.boot_set (PyProof.Rows.callWith_type1 (PyProof.Rows.args_cons (thn (wE.pe.run pins s σ H _ J h) fun v s1 ⟨x, H1, J1, r1, l, e2, hq, q1⟩ => PyProof.Rows.args_nil ?_) na) na rfl))
    subst e2
    cases r1
    have fin : ∀ (g : Heap) (tk : Nat), g.SetOf (PySem.strKind X.prog X.w) s1.heap.objs.size (fun x => decide (x ∈ xs)) (dN xs xs.length) → (∀ b o, s1.heap.get? b = some o → g.get? b = some o) →
        wpAny (model X.prog X.w) X.A (spliced (backTo pos (starEach [] X.env))) (fun vs s₂ => wpAny (model X.prog X.w) X.A (call (.builtin "len") (Value.ref s1.heap.objs.size :: vs)) (EP X pins σ Q) X.xe s₂) X.xe { s1 with heap := g, toks := tk } := by
      intro g tk R k
      refine PyProof.Rows.args_nil ?_
      have J2 : Inv X pins σ H1 { s1 with heap := g, toks := tk } := J1.kept k
      have b := dN_le xs xs.length
      obtain ⟨o, es, ep, t, ho, hex, hd, _, _, _, hf, hn⟩ := R
      exact call_len_set ho hex hd hf (by rw [hn] <;> omega) ⟨.int (dN xs xs.length : Nat), H1, J2.tok _, ⟨_, by rw [hn]⟩, q1⟩
    rcases hq with hq | hq
    · obtain ⟨its, r, pl, hz⟩ := J1.list hq
      exact set_ofS (tp := false) (xs := xs) (J1.ok.hd hc) (show if (false : Bool) = true then _ else _ from by rw [if_neg (by decide)]; exact pl.isList) (by simpa using strsAre_of r) (by unfold scanBound; omega) fun g tk R k => fin g tk R k
    · obtain ⟨its, r, pl, hz⟩ := J1.tuple hq
      exact set_ofS (tp := true) (xs := xs) (J1.ok.hd hc) (show if (true : Bool) = true then _ else _ from by rw [if_pos rfl]; exact pl) (by simpa using strsAre_of r) (by unfold scanBound; omega) fun g tk R k => fin g tk R k
  · refine ha.run H1 e1 al _ fun v H2 x2 r => ?_
    cases tp with
    | true =>
      cases r with
      | tup m hr rs => exact ⟨_, rfl, .inr (.inl (by rw [← rs.of_strs]; exact hr)), q _ H2 x2 (.int _)⟩
    | false =>
      cases r with
      | lst m hr rs => exact ⟨_, rfl, .inl (.inl (by rw [← rs.of_strs]; exact hr)), q _ H2 x2 (.int _)⟩
end
end GV

namespace GV
open PySem PySem.Spec PyProof.Rows L2
/-! min(e, key=lambda a: ..), e a list of objects: the first of those with the least key -/
def keyR (key : Nat → Int) (i j : Nat) : Bool := decide (key i < key j)
/-- the first index of the least key below n + 1 -/
def firstR (key : Nat → Int) (n : Nat) : Nat := argBest (keyR key) n
theorem firstR_spec (key : Nat → Int) : ∀ j, firstR key j ≤ j ∧ (∀ i, i ≤ j → key (firstR key j) ≤ key i) ∧ ∀ i, i < firstR key j → key (firstR key j) < key i
  | 0 => ⟨Nat.le_refl _, fun i h => by
      rw [Nat.le_zero.mp h]
      exact Int.le_refl _, fun i h => absurd h (Nat.not_lt_zero _)⟩
  | j + 1 => by
    obtain ⟨h1, h2, h3⟩ := firstR_spec key j
    generalize hb : firstR key j = b at h1 h2 h3
    have e : firstR key (j + 1) = if keyR key (j + 1) b = true then j + 1 else b := by rw [← hb]; rfl
    by_cases hk : keyR key (j + 1) b = true
    · rw [e, if_pos hk]
      have hk := of_decide_eq_true hk
      refine ⟨Nat.le_refl _, fun i hi => ?_, fun i hi => ?_⟩
      · rcases Nat.lt_or_ge i (j + 1) with z | z
        · have := h2 i (by omega)
          omega
        · rw [show i = j + 1 by omega]
          exact Int.le_refl _
      · have := h2 i (by omega)
        omega
    · rw [e, if_neg hk]
      have hk := of_decide_eq_false (Bool.not_eq_true _ ▸ hk)
      refine ⟨by omega, fun i hi => ?_, h3⟩
      rcases Nat.lt_or_ge i (j + 1) with z | z
      · exact h2 i (by omega)
      · rw [show i = j + 1 by omega]
        omega
theorem firstR_eq {key : Nat → Int} {n m : Nat} (hm : m ≤ n) (h1 : ∀ i, i ≤ n → key m ≤ key i) (h2 : ∀ i, i < m → key m < key i) : firstR key n = m := by
  obtain ⟨k1, k2, k3⟩ := firstR_spec key n
  rcases Nat.lt_trichotomy (firstR key n) m with z | z | z
  · have := h2 _ z
    have := k2 m hm
    omega
  · exact z
  · have := k3 m z
    have := h1 _ k1
    omega
/-- a list's iterator at turn i, its items known addresses -/
def ItR (I l : Addr) (as : List Addr) (i : Nat) (s : Shared) : Prop := s.heap.IsListIter I l i ∧ ∃ xs : Array Value, s.heap.IsList l xs ∧ xs.toList = as.map Value.ref
def RefP (as : List Addr) (i : Nat) (v : Value) : Prop := v = .ref (as.getD i 0)
theorem walk_refs {prog : Program} {w : World} {A : Around} (hh : A.handled = none) (I l : Addr) (ne : l ≠ I) (as : List Addr) : WalksS prog w A I [I, l] [I] (fun a b => b = a) as.length (RefP as) (ItR I l as) where
  sub := fun b hb => by
    rw [List.mem_singleton.mp hb]
    exact List.mem_cons_self ..
  grefl := fun _ => rfl
  gtrans := fun _ _ _ p q => q.trans p
  frame := fun i s h' tk ⟨si, xs, sl, sn⟩ _ hk => by
    obtain ⟨o1, a1, r1⟩ := si
    obtain ⟨o2, a2, r2⟩ := sl
    exact ⟨⟨o1, hk I (by simp) o1 a1, r1⟩, xs, ⟨o2, hk l (by simp) o2 a2, r2⟩, sn⟩
  item := fun i s Q E hi ⟨si, xs, sl, sn⟩ hQ => by
    have hx : i < xs.size := by
      rw [← Array.length_toList, sn, List.length_map]
      exact hi
    have e : xs[i] = Value.ref (as.getD i 0) := by
      have z : xs.toList[i]? = some (Value.ref (as.getD i 0)) := by
        rw [sn, List.getElem?_map, List.getElem?_eq_getElem hi, List.getD_eq_getElem?_getD, List.getElem?_eq_getElem hi]
        rfl
      rw [Array.getElem?_toList, Array.getElem?_eq_getElem hx] at z
      exact Option.some.inj z
    refine wpAny_pyNext_list_item si sl (x := xs[i]) (by simp [hx]) fun g si' sb => ?_
    exact hQ _ { s with heap := g } e ⟨si', xs, sl.extBut sb.extBut ne, sn⟩ ⟨fun b o nb q => sb.extBut b o (fun z => nb (by simp [z])) q, rfl, rfl, rfl, Nat.le_refl _⟩
  done := fun s Q E ⟨si, xs, sl, sn⟩ hQ => by
    have hx : xs[as.length]? = none := by
      rw [Array.getElem?_eq_none]
      rw [← Array.length_toList, sn, List.length_map]
      exact Nat.le_refl _
    exact wpAny_pyNext_list_end hh si sl hx fun g xb => hQ { s with heap := g } ⟨fun b o nb q => xb b o (fun z => nb (by simp [z])) q, rfl, rfl, rfl, Nat.le_refl _⟩
  self := fun i s Q E st q => wpAny_pyIter_listiter st.1 q
theorem vals_refsV : ∀ {as : List Addr} {us : List Value}, Vals (as.map V.ref) us → us = as.map Value.ref
  | [], _, h => by cases h; rfl
  | a :: as, _, h => by
    cases h with
    | cons r rs =>
      cases r
      exact congrArg (Value.ref a :: ·) (vals_refsV rs)
section
variable {X : Cx} {σ : L2.St} {H : Hp} {e : Expr}
def rMinR (X : Cx) (T : List (Addr × Str)) (k i : Nat) (body : Expr) (scope : Scope) (σ : L2.St) (key : Nat → Int) (v : V) (H1 : Hp) (Q : VK) : Prop :=
  ∃ (l : Addr) (ns : List Addr), v = .ref l ∧ SqL X.K H1 l (ns.map V.ref) ∧ ns ≠ [] ∧ LamX.Tabs T H1 ∧ ∀ H2, LamX.ExtN H1 H2 → LamX.Tabs T H2 →
    (∀ (j : Nat) (z : Addr), ns[j]? = some z → ∀ A outer s H0 f c' H3, Room k (A.deeper (LamX.lamEnv X scope s.heap.objs.size f c')) → Evl.Ex H2 H3 → wE (LamX.lamCx X A outer s H0 C8.E0 scope f c') body (σ.set i (some (.ref z))) H3 fun u H4 => u = .int (key j) ∧ Evl.Ex H3 H4) ∧
    ∀ H4, Evl.Ex H2 H4 → Q (.ref (ns.getD (firstR key (ns.length - 1)) 0)) H4
theorem ce_minR {T : List (Addr × Str)} {c P : Addr} {k i : Nat} {a : Str} {params : Arguments} {body : Expr} {scope : Scope} {p lpos kp pos : Pos} {Q : VK} (key : Nat → Int)
    (hc : X.calm = true) (hN : X.N.Nodup) (hi : X.N[i]? = some a) (hg : Gl X "min") (hm : X.mg "min" = none) (hr : Room (k + 2) X.A)
    (TB : LamX.TabB X.base X.mg c P) (hcode : X.env.code = .ref c) (hmT : (P, X.env.qual ++ "<lambda>") ∈ T) (hu : ∀ p ∈ T, p.1 = P → p.2 = X.env.qual ++ "<lambda>")
    (L : Lam1S X.env.scope scope a) (hdef : defaultsOf params X.env = ([], [])) (hbind : ∀ (q : Str) (cl : List (Str × Addr)) (pm cv ctv v : Value), bindArgs (PySem.W.kla_fn "<lambda>" q params body scope cl pm cv ctv) ⟨[v], []⟩ = pure [(a, v)])
    (h : wE X e σ H fun v H1 => rMinR X T k i body scope σ key v H1 Q)
    (h1 : starEach (e :: []) X.env = (false, eval e X.env) :: starEach [] X.env := by rfl) (he : backTo pos (starEach (e :: []) X.env) = (false, eval e X.env) :: backTo pos (starEach [] X.env) := by rfl) (hpl : (backTo pos (starEach (e :: []) X.env)).any (·.1) = false := by rfl)
    (hall : (backToKw pos (keywordEach [⟨some "key", .Lambda params body scope lpos, kp⟩] X.env)).all (·.1.isSome) = true := by rfl) (hnone : (backToKw pos (keywordEach [⟨some "key", .Lambda params body scope lpos, kp⟩] X.env)).any (·.1.isNone) = false := by rfl)
    (hks : (backToKw pos (keywordEach [⟨some "key", .Lambda params body scope lpos, kp⟩] X.env)).filterMap (·.1) = (["key"] : List Str) := by rfl) :
    wE X (.Call (.Name "min" p) [e] [⟨some "key", .Lambda params body scope lpos, kp⟩] pos) σ H Q := by
  refine ⟨fun σ' H' Q' => σ' = σ ∧ wE X e σ H' fun v H1 => rMinR X T k i body scope σ key v H1 Q', ⟨fun pins s σ' H' Q' I hq => ?_⟩, rfl, h⟩
  obtain ⟨e1, hq⟩ := hq
  subst e1
  refine wpAny_Call_Name_kw (ld_blt I hg hm PyProof.Rows.boot_min ?_ (by decide) (by decide))
  refine PyProof.Rows.callWith_kw (thn ((pa_cons wE.pe pa_nil h1).run pos pins s σ' H' (fun vs H1 => ∃ v, vs = [v] ∧ rMinR X T k i body scope σ' key v H1 Q') I (wE.weak hq fun v H1 z => ⟨v, rfl, z⟩)) fun us s1 ⟨vs, H1, I1, r1, v, ev, q1⟩ => ?_) he hpl hall hnone
  subst ev
  obtain ⟨l, ns, ev, hs, hne, hT, q1⟩ := q1
  subst ev
  rw [Vals.ref1 r1, hks]
  show wpAny _ _ (evalAll ((do let v ← eval (.Lambda params body scope lpos) X.env; standAt pos; pure v) :: (backToKw pos (keywordEach [] X.env)).map (·.2))) _ _ s1
  refine wpAny_evalAll_cons (wpAny_bind (LamX.lam_make2 I1 TB hcode hmT hu hT hdef (L.has I1.ok) fun f c' pm ctv H2 s2 I2 eN T2 hf hfn hfr hco => wpAny_bind (wpAny_standAt (wpAny_pure (wpAny_evalAll_nil ?_)))))
  show wpAny _ _ (call (.builtin "min") [.ref l] [(Str.ofString "key", .ref f)]) _ _ s2
  obtain ⟨hb, hQ⟩ := q1 H2 eN T2
  have hs2 : SqL X.K H2 l (ns.map V.ref) := hs.imp (fun z => z.imp (fun z => eN _ _ z fun _ z => by cases z) fun ⟨o, z⟩ => ⟨o, eN _ _ z fun _ z => by cases z⟩) id
  obtain ⟨its, rvs, pl, _⟩ := I2.list hs2
  have hd := I2.ok.hd hc
  have lt : l < s2.heap.objs.size := let ⟨_, q, _⟩ := pl.isList; Heap.lt_size q
  have ltf := Heap.lt_size hf
  refine call_min_walkK (wpAny_pyIter_list pl.isList ?_)
  have szI : ∀ ob : Obj, (s2.heap.push ob).objs.size = s2.heap.objs.size + 1 := fun ob => Heap.size_push ..
  refine ⟨s2.heap.objs.size, [s2.heap.objs.size, l], [s2.heap.objs.size], fun a b => b = a, ns.length, RefP ns, ItR s2.heap.objs.size l ns,
    fun s => ∃ H', Evl.Ex H2 H' ∧ Inv X pins σ' H' s ∧ H' s2.heap.objs.size = none ∧ H' (s2.heap.objs.size + 1) = none ∧ s.heap.get? f = some (PySem.W.kla_obj "<lambda>" (X.env.qual ++ "<lambda>") params body scope (cloFrom X.env.cells scope.names []) pm c' ctv) ∧ H' f = none,
    fun j u _ => ∃ t, u = .int (key j) t, keyR key, rfl, walk_refs (by exact hd) _ l (Nat.ne_of_lt lt) ns, ⟨⟨_, Heap.get?_push_size _ rfl, rfl, rfl⟩, its.toArray, pl.isList.push _, by rw [List.toList_toArray]; exact vals_refsV rvs⟩, ?_, List.length_pos_iff.mpr hne, ?_, ?_, ?_⟩
  · intro b hb
    rw [szI]
    rcases List.mem_cons.mp hb with e | hb
    · rw [e]
      exact Nat.lt_succ_self _
    · rw [List.mem_singleton.mp hb]
      exact Nat.lt_succ_of_lt lt
  · rw [szI]
    refine ⟨fun s s' ⟨H', x, J, n1, n2, hf', n3⟩ mv => ?_, fun _ _ _ _ z _ => z, fun j v s o Q E hj hP hJ hst hS kk => ?_, fun i j ki kj s Q E _ ⟨t, e1⟩ ⟨u, e2⟩ q => ?_⟩
    · obtain ⟨g, gn, dr, tk, os⟩ := s'
      obtain rfl : gn = s.gens := mv.gens
      obtain rfl : dr = s.drawn := mv.drawn
      obtain rfl : os = s.os := mv.os
      refine ⟨H', x, J.turnedL (ch := [s2.heap.objs.size + 1, s2.heap.objs.size]) (fun b o nb e => mv.heap b o nb e) (fun b hb => ?_), n1, n2, mv.heap _ _ ?_ hf', n3⟩
      · rcases List.mem_cons.mp hb with e | hb
        · rw [e]
          exact I2.fpOk (Nat.le_succ _) n2
        · rw [List.mem_singleton.mp hb]
          exact I2.fpOk (Nat.le_refl _) n1
      · simp only [List.mem_cons, List.not_mem_nil, or_false, not_or]
        exact ⟨Nat.ne_of_lt (Nat.lt_succ_of_lt ltf), Nat.ne_of_lt ltf⟩
    · obtain ⟨H', x, J, n1, n2, hf', hfn'⟩ := hJ
      obtain ⟨si, _⟩ := hst
      have ev : v = Value.ref (ns.getD j 0) := hP
      subst ev
      have zm : ns[j]? = some (ns.getD j 0) := by
        rw [List.getD_eq_getElem?_getD, List.getElem?_eq_getElem hj]
        rfl
      generalize hz : ns.getD j 0 = z at *
      obtain ⟨⟨oc, vs, tt, hoc, hdc, hvc⟩, _, _⟩ := J.hok c' _ (x _ _ hco)
      have r1 : Room (k + 1) X.A.in1 := hr.in1
      have rc : codeAny (model X.prog X.w) X.A.in1 (.call (.ref f) ⟨[.ref z], []⟩) (L2.CR (L2.CX X.prog X.w) X.stack X.prog X.w H' s (fun u H4 => u = .int (key j) ∧ Evl.Ex H' H4) C8.E0) s := by
        refine PySem.W.kla_callFunE r1.depth hf' rfl L.co L.gen rfl ⟨c', oc, vs, tt, rfl, hoc, hdc, hvc⟩ ?_
        rw [hbind]
        refine wpAny_pure (wpAny_newFunctionEnv L.cell (fun y hy => by rw [List.mem_singleton.mp hy]; exact L.par) (fun g hns hsb => ⟨J.nolimit.fresh _ hsb, ?_⟩) L.kind)
        show codeAny _ _ (.expr body (LamX.lamEnv X scope s.heap.objs.size f c')) _ _
        have Jn : Inv (LamX.lamCx X X.A.in1 X.stack s H' C8.E0 scope f c') [] (σ'.set i (some (.ref z))) H' { s with heap := g, toks := s.toks + ([(a, Value.ref z)] : List (Str × Value)).length } :=
          lam1_start J L hN hi rfl J.env0.in1 r1.hd Un.refl hns fun b o e => hsb.extBut b o (Nat.ne_of_lt (Heap.lt_size e)) (Heap.get?_push_of_some _ e)
        refine PySem.W.kla_codeExpr (wpAny_mono (wE.pe.run [] _ _ H' _ Jn (hb j z zm _ _ _ _ f c' H' (r1.deeper _) x)) (fun v s' hq => ?_) fun e s' hq => hq)
        obtain ⟨w', H'', J', rv, q⟩ := hq
        exact ⟨w', H'', J'.os, J'.bare, J'.base, J'.hok, rv, q⟩
      refine wpAny_call (codeAny_mono rc fun r s' hr' => ?_)
      rcases r with er | fl
      · obtain ⟨_, _, _, _, _, _, _, _, _, _, _, _, z⟩ := hr'
        exact z.elim
      rcases fl with _ | _ | _ | u
      iterate 3 exact hr'.elim
      obtain ⟨v, H4, os, bare, un, hok, rv, ev, x4⟩ := hr'
      subst ev
      obtain ⟨t', eu⟩ := rv
      subst eu
      have J4 : Inv X pins σ' H4 s' := J.call' (ch := []) os un hok bare fun _ z => by cases z
      have hS' : s.heap.get? (s2.heap.objs.size + 1) = some o := hS
      obtain ⟨oi, ai, ri⟩ := si
      have nf : ∀ b, s2.heap.objs.size ≤ b → b ∉ frs X.stack := fun b hb z => by
        rcases List.mem_cons.mp (I2.stkSub _ z) with e | e
        · exact absurd (Nat.lt_of_le_of_lt hb (by rw [e]; exact I2.lt)) (Nat.lt_irrefl _)
        · exact I2.nofs hb e
      have ki := un.keep _ _ ai n1 (nf _ (Nat.le_refl _)) (by simp)
      have kS := un.keep _ _ hS' n2 (nf _ (Nat.le_succ _)) (by simp)
      have kf := un.keep _ _ hf' hfn' hfr (by simp)
      obtain ⟨its4, rv4, pl4, _⟩ := J4.list (show SqL X.K H4 l (ns.map V.ref) from hs2.imp (fun z => z.imp (fun z => x4 _ _ (x _ _ z)) fun ⟨o, z⟩ => ⟨o, x4 _ _ (x _ _ z)⟩) id)
      refine kk _ _ ⟨H4, x.trans x4, J4, un.free _ _ ai n1 (by simp), un.free _ _ hS' n2 (by simp), kf, un.free _ _ hf' hfn' (by simp)⟩ ⟨⟨oi, ki, ri⟩, its4.toArray, pl4.isList, by rw [List.toList_toArray]; exact vals_refsV rv4⟩ kS ⟨t', rfl⟩ fun _ _ z => z
    · subst e1
      subst e2
      exact wpAny_lt_int q
  · exact ⟨H2, Evl.Ex.refl H2, I2.kept fun b o e => Heap.get?_push_of_some _ e, I2.hok.fresh (Nat.le_refl _), I2.hok.fresh (Nat.le_succ _), Heap.get?_push_of_some _ hf, hfn⟩
  · rintro v s' ev ⟨H', x, J, _, _, _, _⟩
    exact ⟨.ref (ns.getD (firstR key (ns.length - 1)) 0), H', J, ev, hQ H' x⟩
end
end GV

namespace YK
open PySem PySem.Spec PyProof.Rows L2 GV
section
variable {X : Cx} {M : Addr → Prop} {σ : St} {H : Hp} {a b : Expr} {pos p p2 : Pos} {CH : Addr}
theorem pd_inKinds {x : Str} (hg : Gl X "House") (gH : X.mg "House" = some (.ref CH)) (kk : KindsK X.K CH) (ha : PD X M a σ H (.str x)) (hk : behindInMarks .In (.Attribute (.Name "House" p) "KINDS" p2) = false := by rfl) (hab : attributeBase (.Name "House" p) "KINDS" X.env (eval (.Name "House" p) X.env) = eval (.Name "House" p) X.env := by rfl) :
    PD X M (.Compare a [.In] [.Attribute (.Name "House" p) "KINDS" p2] pos) σ H (.bool (decide (x ∈ ordK))) := .mk fun H1 e1 al Q q => by
  obtain ⟨t, mc, cr, cv, kt⟩ := kk.ex
  refine ⟨_, pe_cmpR op_in_seq wE.pe wE.pe hk, ha.run H1 e1 al _ fun v H2 x2 r => ce_cval hg gH cr cv ?_ (by decide) hab⟩
  cases r
  have all : (ordK.map V.str).all flatV = true := by
    rw [List.all_map, List.all_eq_true]
    exact fun _ _ => rfl
  refine ⟨t, ordK.map V.str, rfl, .inr (.inr kt), rfl, all, ?_⟩
  show Q (.bl (inV (.str x) (ordK.map V.str))) H2
  rw [inV_strs]
  exact q _ H2 x2 (.bl _)
end
/-! ### names of kinds -/
theorem rowK : ∀ c : Fin 64, rowI (kindsL c.val) = pRow c.val ∧ plI (kindsL c.val) = pPl c.val ∧ rowI (kindsL c.val).reverse = pRow c.val ∧ plI (kindsL c.val).reverse = pPl c.val := by decide +kernel
theorem kindsK_ok : ∀ c : Fin 64, (kindsL c.val).reverse.Nodup ∧ (kindsL c.val).Nodup ∧ (kindsL c.val).length ≤ 6 ∧ ∀ k ∈ kindsL c.val, k ∈ ordK := by decide +kernel
theorem ordK_sh : ∀ k ∈ ordK, SeqAt.shaped (.str k) = true := by decide +kernel
def spotD (c : Nat) : PyData := .tuple [tintsD (pRow c), natD (pPl c)]
def R_ck (ds : List PyData) (d : PyData) : Prop := ∃ (tp : Bool) (ks : List Str), (∀ k ∈ ks, k ∈ ordK) ∧ ks.Nodup ∧ ks.length ≤ 50 ∧ ds = [sqD tp (ks.map PyData.str)] ∧ d = .none
def R_pk (ds : List PyData) (d : PyData) : Prop := ∃ (tp : Bool) (ks : List Str), (∀ k ∈ ks, k ∈ ordK) ∧ ks.Nodup ∧ ks.length ≤ 50 ∧ ds = [sqD tp (ks.map PyData.str)] ∧ d = .tuple [tintsD (rowI ks), natD (plI ks)]
def cm (fs : List Nat) (h : Nat) : Nat := (fs.filter fun a => decide (0 < a &&& h)).length
def gp (fs : List Nat) (h : Nat) : Nat := max (cm fs h) (fs.length - cm fs h)
def R_gp (ds : List PyData) (d : PyData) : Prop := ∃ (h : Nat) (fs : List Nat), fs.length ≤ 1000 ∧ ds = [natD h, natsD fs] ∧ d = natD (gp fs h)
theorem cm_le (fs : List Nat) (h : Nat) : cm fs h ≤ fs.length := List.length_filter_le _ _
section
variable {P : Program} {w : World} {K : PySem.W.Frag} {mg : Str → Option Value} {base : Heap} {CH : Addr}
theorem cl_check_kinds {f : Addr} {fd : FuncData} (F : At K mg "_check_kinds" s_check_kinds f fd) (nb : NoB mg) (gH : mg "House" = some (.ref CH)) (kk : KindsK K CH) : Cl P w K mg base CX0 1 "_check_kinds" (PureR K R_ck) := by
  refine cl_pure F sc_check_kinds (F.fn.binds fun _ _ _ _ _ _ us hl => match us, hl with | [_], _ => rfl) (fun ds d h => ?_) (fun X cdv A outer s H Q E M vs ds d hX hr al r h q => ?_)
  · obtain ⟨_, _, _, _, _, rfl, _⟩ := h
    rfl
  obtain ⟨tp, ks, hk, hnd, hl, rfl, rfl⟩ := h
  obtain ⟨v, rfl, r1⟩ := rpa1 r
  subst hX
  have isq : (isListD (sqD tp (ks.map PyData.str)) || isTupD (sqD tp (ks.map PyData.str))) = true := by cases tp <;> rfl
  refine b_cons (s_if (k := false) al (TD.is (td_not (td_val (pd_isi2 rfl nb.isinstance rfl nb.list PyProof.Rows.boot_list rfl nb.tuple PyProof.Rows.boot_tuple (nm 0 r1) (kit_l _) (kit_t _)))) (by rw [isq]; rfl)) (fun k => by cases k) (fun _ H1 x1 => b_nil ?_))
  have s1 := r1.mono (fun _ z => z) (ExM.of x1)
  have eb : (ks.map fun x => PyData.bool (decide (x ∈ ordK))) = (ks.map fun _ => true).map PyData.bool := by
    rw [List.map_map]
    exact List.map_congr_left fun x hx => by rw [decide_eq_true (hk x hx)]; rfl
  refine b_cons (s_if (k := false) (al.mono x1) (td_not (k := true) (TD.is (td_val (pd_callB (cr_all rfl) rfl nb.all PyProof.Rows.boot_all (ad_cons (PD.is (FD.pd (fd_mapA str_inj (fun x => .bool (decide (x ∈ ordK))) (l := ks) (t := .one 1) (own := [("kind", 1)]) rfl sc_check_kinds.nd (src_S (nm 0 s1)) (blkOk_by (N := n_check_kinds) (sc := defScope s_check_kinds) (by decide +kernel)) (fun _ _ _ _ _ => pg_name (i := 1) sc_check_kinds.nd rfl (.inl rfl)) (fun _ _ => trivial) ?_ (by omega) ?_)) (congrArg PyData.list eb)) ad_nil) rn_all)) (by simp))) (fun k => by cases k) (fun _ H2 x2 => b_nil ?_))
  · rintro M H d σ' ⟨_, _, rfl⟩
    rfl
  · rintro s0 H0 C cl fp M' H' x σ' hM lift kp hx ⟨v', rv, rfl⟩
    exact PD.is (pd_and (pd_isi rfl nb.isinstance rfl nb.str PyProof.Rows.boot_str (nm 1 rv) (kit_str _)) fun _ => pd_one (pd_inKinds rfl gH kk (nm 1 rv))) (congrArg PyData.bool (Bool.true_and _))
  have x12 := x1.trans x2
  have t1 := r1.mono (fun _ z => z) (ExM.of x12)
  refine b_cons (s_if (k := false) (al.mono x12) (TD.is (td_lt (pd_lenSetS rfl rfl nb.len rfl nb.set (nm 0 t1) (by omega)) (pd_len nb rfl (nm 0 t1) (n := ks.length) (by rw [len_sq, List.length_map]))) (by rw [dN_nodup hnd _ (Nat.le_refl _)]; exact decide_eq_false (by omega))) (fun k => by cases k) (fun _ H3 x3 => b_nil (b_nil (q .non H3 (x12.trans x3) .non))))
theorem cl_probe {f : Addr} {fd : FuncData} (F : At K mg "probe" s_probe f fd) (ck : Cl P w K mg base CX0 1 "_check_kinds" (PureR K R_ck)) (cp : Cl P w K mg base CX0 1 "_probe_of" (PureR K R_prb)) : Cl P w K mg base CX0 2 "probe" (PureR K R_pk) := by
  refine cl_pure F sc_probe (F.fn.binds fun _ _ _ _ _ _ us hl => match us, hl with | [_], _ => rfl) (fun ds d h => ?_) (fun X cdv A outer s H Q E M vs ds d hX hr al r h q => ?_)
  · obtain ⟨_, _, _, _, _, rfl, _⟩ := h
    rfl
  obtain ⟨tp, ks, hk, hnd, hl, rfl, rfl⟩ := h
  obtain ⟨v, rfl, r1⟩ := rpa1 r
  subst hX
  refine b_cons (cs_expr (ce_pd al (pd_callC ck hr (by decide) rfl (ad_cons (nm 0 r1) ad_nil) ⟨tp, ks, hk, hnd, hl, rfl, rfl⟩) fun v1 H1 x1 _ => ?_))
  exact b_cons (s_ret (al.mono x1) (pd_callC cp hr (by decide) rfl (ad_cons (nm 0 (r1.mono (fun _ z => z) (ExM.of x1))) ad_nil) ⟨tp, ks, by omega, rfl, rfl⟩) fun v2 H2 x2 r2 => q v2 H2 (x1.trans x2) r2)
theorem cl_greater {f : Addr} {fd : FuncData} (F : At K mg "_greater_part" s_greater_part f fd) (nb : NoB mg) : Cl P w K mg base CX0 1 "_greater_part" (PureR K R_gp) := by
  refine cl_pure F sc_greater_part (F.fn.binds fun _ _ _ _ _ _ us hl => match us, hl with | [_, _], _ => rfl) (fun ds d h => ?_) (fun X cdv A outer s H Q E M vs ds d hX hr al r h q => ?_)
  · obtain ⟨_, _, _, rfl, _⟩ := h
    rfl
  obtain ⟨h, fs, hl, rfl, rfl⟩ := h
  obtain ⟨u, v, rfl, r1, r2⟩ := rpa2 r
  subst hX
  refine b_cons (s_set (i := 2) (d := natD (cm fs h)) al sc_greater_part.nd rfl (by first | exact .inl rfl | exact .inr rfl) (pd_len nb rfl (FD.pd (fd_filterA natD_inj (fun a => decide (0 < a &&& h)) natD (l := fs) (t := .one 3) (own := [("house", 3)]) rfl sc_greater_part.nd (src_list (nm 1 r2)) (blkOk_by (N := n_greater_part) (sc := defScope s_greater_part) (by decide +kernel)) (fun _ _ _ _ _ => pg_name (i := 3) sc_greater_part.nd rfl (.inl rfl)) (fun _ _ => trivial) ?_ (by omega) ?_)) (by show some _ = _; rw [List.length_map]; rfl)) fun v1 H1 x1 rc => ?_)
  · rintro M H d σ' ⟨_, _, rfl⟩
    rfl
  · rintro s0 H0 C cl fp M' H' a σ' hM lift kp ha ⟨v', rv, rfl⟩
    exact ⟨TD.is (td_gt (pd_andN (n := a) (m := h) (nm 3 rv) (nm 0 (lift _ _ r1))) pd_int) (decide_eq_decide.mpr (by omega)), nm 3 rv⟩
  have s2 := r2.mono (fun _ z => z) (ExM.of x1)
  have ll : lenD (natsD fs) = some fs.length := by show some _ = _; rw [List.length_map]
  have cl := cm_le fs h
  refine b_cons (s_ret (al.mono x1) (PD.is (pd_max2 rfl nb.max (nm 2 rc) (pd_sub (pd_len nb rfl (nm 1 s2) ll) (nm 2 rc))) ?_) fun v2 H2 x2 r2 => q v2 H2 (x1.trans x2) r2)
  unfold gp
  exact congrArg PyData.int (by omega)
end
end YK

namespace YK
open PySem PySem.Spec PyProof.Rows L2 GV
/-! ### the best probe -/
def keyN (fs : List Nat) (j : Nat) : Int := ((gp fs (j + 1) : Nat) : Int)
def bestH (fs : List Nat) : Nat := firstR (keyN fs) 62 + 1
theorem bestH_rng (fs : List Nat) : 1 ≤ bestH fs ∧ bestH fs < 64 := by
  have := (firstR_spec (keyN fs) 62).1
  unfold bestH
  omega
theorem gp_le (fs : List Nat) (h : Nat) : gp fs h ≤ fs.length := by
  have := cm_le fs h
  unfold gp
  omega
def lawB (fs : List Nat) : Nat → Nat × Nat
  | 0 => (0, 64)
  | j + 1 => if gp fs (j + 1) < (lawB fs j).2 then (j + 1, gp fs (j + 1)) else lawB fs j
theorem lawB_eq {fs : List Nat} (h : fs.length ≤ 63) : ∀ j, lawB fs (j + 1) = (firstR (keyN fs) j + 1, gp fs (firstR (keyN fs) j + 1))
  | 0 => by
    have := gp_le fs 1
    show (if gp fs 1 < 64 then (1, gp fs 1) else (0, 64)) = _
    rw [if_pos (by omega)]
    rfl
  | j + 1 => by
    have ih := lawB_eq h j
    have e : firstR (keyN fs) (j + 1) = if keyR (keyN fs) (j + 1) (firstR (keyN fs) j) = true then j + 1 else firstR (keyN fs) j := rfl
    show (if gp fs (j + 1 + 1) < (lawB fs (j + 1)).2 then (j + 1 + 1, gp fs (j + 1 + 1)) else lawB fs (j + 1)) = _
    rw [ih, e]
    by_cases k : gp fs (j + 1 + 1) < gp fs (firstR (keyN fs) j + 1)
    · have kb : keyR (keyN fs) (j + 1) (firstR (keyN fs) j) = true := decide_eq_true (Int.ofNat_lt.mpr k)
      rw [if_pos (show gp fs (j + 1 + 1) < (firstR (keyN fs) j + 1, gp fs (firstR (keyN fs) j + 1)).2 from k), if_pos kb]
    · have kb : ¬ keyR (keyN fs) (j + 1) (firstR (keyN fs) j) = true := fun z => k (Int.ofNat_lt.mp (of_decide_eq_true z))
      rw [if_neg (show ¬ gp fs (j + 1 + 1) < (firstR (keyN fs) j + 1, gp fs (firstR (keyN fs) j + 1)).2 from k), if_neg kb]
theorem lawB_best {fs : List Nat} (h : fs.length ≤ 63) : (lawB fs 63).1 = bestH fs := by rw [lawB_eq h 62]; rfl
theorem fit_nodup (ls : List Ln) (w : Int) : (fitN ls w).Nodup := by
  unfold fitN
  have z : ((List.range 63).map (· + 1)).Nodup := by decide +kernel
  exact List.Sublist.nodup List.filter_sublist z
theorem fit64 {ls : List Ln} {w : Int} : ∀ a ∈ fitN ls w, a < 64 := fun a h => (fit_lt h).2
def noT (t : Str) : Nat := (List.range 64).findIdx fun n => decide (txN n = t)
theorem noT_tx : ∀ n : Fin 64, noT (txN n.val) = n.val := by decide +kernel
section
variable {P : Program} {w : World} {K : PySem.W.Frag} {mg : Str → Option Value} {base : Heap} {CH : Addr}
end
end YK

namespace YK
open PySem PySem.Spec PyProof.Rows L2 GV
def spBP (K : PySem.W.Frag) (CL : Addr) (T : List (Addr × Str)) : Sp := fun vs H Q _ => ∃ (g l1 l2 : Addr) (ls : List Ln), vs = [.ref g] ∧ LogAt K CL H g l1 l2 ls ∧ ls.length ≤ 1000 ∧ LamX.Tabs T H ∧
  ((fitN ls 0).length < 2 → ∀ H', ExM M0 H H' → LamX.Tabs T H' → Q .non H') ∧ (2 ≤ (fitN ls 0).length → ∀ v H', ExM M0 H H' → LamX.Tabs T H' → Rp K M0 H' v (spotD (bestH (fitN ls 0))) → Q v H')
theorem hsl_refs {CH : Addr} {n : Nat} {H : Hp} {xs : List V} (h : HsL CH n H xs) : ∃ as : List Addr, xs = as.map V.ref ∧ as.length = n ∧ ∀ i a, as[i]? = some a → HAt CH (i + 1) H a := by
  obtain ⟨hl, hi⟩ := h
  let f : V → Addr := fun v => match v with
    | .ref a => a
    | _ => 0
  have e : xs = (xs.map f).map V.ref := by
    rw [List.map_map]
    apply List.ext_getElem (by simp)
    intro i h1 h2
    obtain ⟨a, ea, _⟩ := hi i (by omega)
    rw [List.getElem?_eq_getElem h1] at ea
    rw [List.getElem_map, Option.some.inj ea]
    rfl
  refine ⟨xs.map f, e, by rw [List.length_map]; exact hl, fun i a ha => ?_⟩
  rw [List.getElem?_map] at ha
  obtain ⟨v, hv, rfl⟩ := Option.map_eq_some_iff.mp ha
  have hlt := (List.getElem?_eq_some_iff.mp hv).1
  obtain ⟨b, eb, hb⟩ := hi i (by omega)
  rw [hv] at eb
  cases eb
  exact hb
theorem exM_ofN {M : Addr → Prop} {H H' : Hp} (e : LamX.ExtN H H') : ExM M H H' := fun a o h _ n => e a o h n
structure BpC (P : Program) (w : World) (K : PySem.W.Frag) (mg : Str → Option Value) (base : Heap) (CL CN CH : Addr) : Prop where
  L : LogM P w K mg base CL CN CH
  not : Cl P w K mg base CX0 1 "number_of_text" (PureR K R_not)
  ev : StatS P w K mg base CH "every" 4 (spEv CH)
  named : MethS P w K mg base CX0 CH "named" 2 ["self"] (spH CH fun _ n H Q => toFr K ((kindsL n).map PyData.str) H Q)
  gp : Cl P w K mg base CX0 1 "_greater_part" (PureR K R_gp)
  prb : Cl P w K mg base CX0 1 "_probe_of" (PureR K R_prb)
section
variable {P : Program} {w : World} {K : PySem.W.Frag} {mg : Str → Option Value} {base : Heap} {T : List (Addr × Str)} {CL CN CH : Addr}
theorem cl_best_probe {f : Addr} {fd : FuncData} {cdv : Value} (F : FunC K mg "best_probe" s_best_probe f fd cdv) (C : BpC P w K mg base CL CN CH) (lb : LamB mg base T cdv ((PyProof.Rows.envOfC "best_probe" (defScope s_best_probe) 0 f cdv).qual ++ "<lambda>")) : Cl P w K mg base CX0 8 "best_probe" (spBP K CL T) := by
  refine ⟨f, fd, _, F.ok sc_best_probe (fun vs H Q E h => ?_) (fun A outer sh H vs Q E hr h => ?_), F.gl, F.kp, F.fn.binds fun _ _ _ _ _ _ us hl => match us, hl with | [_], _ => rfl⟩
  · obtain ⟨g, l1, l2, ls, rfl, _⟩ := h
    rfl
  obtain ⟨g, l1, l2, ls, rfl, lg, hl, hT, q1, q2⟩ := h
  have nb := C.L.nb
  obtain ⟨dx, hg⟩ := lg.ins
  refine b_cons (cs_if (ct_not (ct_val ⟨_, pe_callB (C8.call_isC C.L.B.ins) rfl nb.isinstance PyProof.Rows.boot_isinstance (pa_cons wE.pe (pa_cons (pe_glob rfl C.L.gL (v := .ref CL) rfl (by decide)) pa_nil)) (by decide) (by decide), ce_nm 0 ⟨g, dx, _, rfl, hg, ⟨true, rfl, b_nil ?_⟩⟩⟩)))
  have es : (fitN ls 0).map txtD = ((fitN ls 0).map txN).map PyData.str := by rw [List.map_map]; rfl
  have en : ((fitN ls 0).map txN).map (fun t => natD (noT t)) = (fitN ls 0).map natD := by
    rw [List.map_map]
    exact List.map_congr_left fun a ha => congrArg natD (show noT (txN a) = a from noT_tx ⟨a, fit64 a ha⟩)
  have f63 := fit_len ls 0
  refine b_cons (cs_set (i := 1) sc_best_probe.nd rfl (by first | exact .inl rfl | exact .inr rfl) (ce_fd (M := M0) alive0 (fd_mapA str_inj (fun t => natD (noT t)) (l := (fitN ls 0).map txN) (t := .one 3) (own := [("text", 3)]) rfl sc_best_probe.nd (src_list (PD.is (FD.pd (fd_fit0 C.L hr (by decide) lg hl (fun H2 Q q => ce_nm 0 q))) (congrArg PyData.list es))) (blkOk_by (N := n_best_probe) (sc := defScope s_best_probe) (by decide +kernel)) (fun _ _ _ _ _ => pg_name (i := 3) sc_best_probe.nd rfl (.inl rfl)) (fun _ _ => trivial) ?_ (by rw [List.length_map]; omega) ?_) fun pf wf H1 hpf x1 h1 r1 => ?_))
  · rintro M H d σ' ⟨_, _, rfl⟩
    rfl
  · rintro s0 H0 C' cl fp M' H' t σ' hM lift kp ht ⟨v', rv, rfl⟩
    obtain ⟨a, ha, rfl⟩ := List.mem_map.mp ht
    have a64 := fit64 a ha
    exact PD.is (pd_callC C.not hr (by decide) rfl (ad_cons (nm 3 rv) ad_nil) ⟨a, a64, rfl, rfl⟩) (congrArg natD (show a = noT (txN a) from (noT_tx ⟨a, a64⟩).symm))
  rw [en] at r1
  have rf : Rp K M0 H1 (.ref pf) (natsD (fitN ls 0)) := .lst (fun z => z) (.inl h1) r1
  have ll : lenD (natsD (fitN ls 0)) = some (fitN ls 0).length := by show some _ = _; rw [List.length_map]
  refine b_cons (s_if (M := M0) alive0 (td_lt (pd_len nb rfl (nm 1 rf) ll) pd_int) (fun k H2 x2 => ?_) (fun k H2 x2 => b_nil ?_))
  · have k := of_decide_eq_true k
    exact b_cons (s_ret (M := M0) alive0 pd_non fun v H3 x3 r3 => by
      cases r3
      have x := x1.trans (x2.trans x3)
      exact q1 (by omega) H3 (.of x) (hT.ext x))
  · have k := of_decide_eq_false k
    have k2 : 2 ≤ (fitN ls 0).length := by omega
    obtain ⟨c, Pt, hc, tb, hm, hu⟩ := lb
    have x12 := x1.trans x2
    refine b_cons (cs_set (i := 2) sc_best_probe.nd rfl (by first | exact .inl rfl | exact .inr rfl) (ce_minR (T := T) (k := 5) (i := 4) (keyN (fitN ls 0)) rfl sc_best_probe.nd rfl rfl nb.min hr tb hc hm hu (lam1_by (by show lam1B (defScope s_best_probe) _ _ = true; decide +kernel)) rfl (fun _ _ _ _ _ _ => rfl) (ce_stat0 C.ev hr (by decide) rfl C.L.gH ⟨rfl, fun pl xs H3 hpl x3 h3 hs => ?_⟩)))
    obtain ⟨as, rfl, hal, hat⟩ := hsl_refs hs
    have x13 := x12.trans x3
    refine ⟨pl, as, rfl, .inl (.inl h3), (fun e => by
      rw [e] at hal
      cases hal), hT.ext x13, fun H4 e4 t4 => ⟨?_, ?_⟩⟩
    · intro j z hz A2 outer2 s2 H02 f2 c2 H5 hr2 x5
      have hj := hat j z hz
      have h5 : HAt CH (j + 1) H5 z := (hj.exM (M := M0) (exM_ofN e4) (fun z => z)).ex' x5
      have rf5 : Rp K M0 H5 (.ref pf) (natsD (fitN ls 0)) := (rf.mono (fun _ z => z) (((ExM.of x2).trans (ExM.of x3)).trans (exM_ofN e4))).mono (fun _ z => z) (.of x5)
      refine ce_call C.gp hr2 (by decide) rfl (ca_cons (ce_pd (M := M0) (d := natD (j + 1)) alive0 (pd_numH C.L.BH (hnm 4 h5)) fun v6 H6 x6 r6 => ca_cons (ce_nm 1 (ca_nil ⟨M0, [natD (j + 1), natsD (fitN ls 0)], _, alive0, .cons (r6.mono (fun _ z => z) (ExM.refl _)) (.cons (rf5.mono (fun _ z => z) (ExM.of x6)) .nil), ⟨j + 1, fitN ls 0, by omega, rfl, rfl⟩, fun v H7 x7 r7 => ?_⟩))))
      cases r7
      exact ⟨rfl, x6.trans x7⟩
    · intro H5 x5
      have bj := (firstR_spec (keyN (fitN ls 0)) 62).1
      have e62 : as.length - 1 = 62 := by omega
      rw [e62]
      have hlt : firstR (keyN (fitN ls 0)) 62 < as.length := by omega
      have hget : as[firstR (keyN (fitN ls 0)) 62]? = some (as.getD (firstR (keyN (fitN ls 0)) 62) 0) := by
        rw [List.getD_eq_getElem?_getD, List.getElem?_eq_getElem hlt]
        rfl
      generalize as.getD (firstR (keyN (fitN ls 0)) 62) 0 = z at hget ⊢
      have hz : HAt CH (bestH (fitN ls 0)) H5 z := ((hat _ _ hget).exM (M := M0) (exM_ofN e4) (fun z => z)).ex' x5
      obtain ⟨b1, b2⟩ := bestH_rng (fitN ls 0)
      obtain ⟨dz, hz'⟩ := hz
      have E05 : ExM M0 H H5 := ((ExM.of x13).trans (exM_ofN e4)).trans (.of x5)
      refine b_cons (s_ret (M := M0) (d := spotD (bestH (fitN ls 0))) alive0 (PD.is (pd_callC C.prb hr (by decide) rfl (ad_cons (FD.pd (.mk fun H6 e6 al6 Q6 q6 => ?_)) ad_nil) ⟨false, kindsL (bestH (fitN ls 0)), Nat.le_trans (kindsK_ok ⟨_, b2⟩).2.2.1 (by decide), rfl, rfl⟩) ?_) fun v7 H7 x7 r7 => q2 k2 v7 H7 (E05.trans (.of x7)) ((t4.ext x5).ext x7) r7)
      · have hz6 := e6 _ _ hz' (fun z => z) (fun _ z => by cases z)
        exact ce_methH0 C.L.BH.ins.cl C.named hr (by decide) (ce_nm 2 ⟨z, dz, _, rfl, hz6, rfl, z, bestH (fitN ls 0), rfl, ⟨dz, hz6⟩, b1, b2, q6⟩)
      · obtain ⟨k1, k2', _, _⟩ := rowK ⟨_, b2⟩
        rw [show rowI (kindsL (bestH (fitN ls 0))) = pRow (bestH (fitN ls 0)) from k1, show plI (kindsL (bestH (fitN ls 0))) = pPl (bestH (fitN ls 0)) from k2']
        rfl
end
end YK

namespace GV
open PySem PySem.Spec PyProof.Rows L2
/-! ### what is asked of values that are no data -/
section
variable {X : Cx} {M : Addr → Prop} {σ : St} {H : Hp} {a : Expr} {pos : Pos} {v : V}
/-- isinstance(a, T) of whatever, by its type -/
theorem pd_isiO {S T : String} {x : Str} {p p2 : Pos} {k : Bool} (hg : Gl X "isinstance") (hm : X.mg "isinstance" = none) (hgT : Gl X x) (hmT : X.mg x = none) (hv : bootBuiltins x = some (.type T)) (ha : ∀ H1 (Q : VK), Q v H1 → wE X a σ H1 Q) (ty : ∀ H1, ExM M H H1 → TyX X.K H1 v (.type S)) (hk : kitB S T = some k)
    (hn : x ≠ "__name__" := by decide) (hd : (x == ("__debug__" : Str)) = false := by decide)
    (h1 : starEach (a :: [.Name x p2]) X.env = (false, eval a X.env) :: starEach [.Name x p2] X.env := by rfl) (h2 : starEach (.Name x p2 :: []) X.env = (false, eval (.Name x p2) X.env) :: starEach [] X.env := by rfl)
    (hpl : (backTo pos (starEach [.Name x p2] X.env)).any (·.1) = false := by rfl) :
    PD X M (.Call (.Name "isinstance" p) [a, .Name x p2] [] pos) σ H (.bool k) := .mk fun H1 e1 al Q q =>
  ⟨_, pe_callB call_isi hg hm PyProof.Rows.boot_isinstance (pa_cons wE.pe (pa_cons (pe_bltn (v := .ty T) hgT hmT hv rfl hn hd) pa_nil h2) h1) (by decide) (by decide) h1 hpl, ha _ _ ⟨v, .ty T, .type S, .type T, k, rfl, .ty T, ty H1 e1, kit_ty hk, q _ H1 (Evl.Ex.refl H1) (.bl k)⟩⟩
theorem pd_lenO {p : Pos} {n : Nat} (nb : NoB X.mg) (hg : Gl X "len") (ha : ∀ H1 (Q : VK), Q v H1 → wE X a σ H1 Q) (hn : ∀ H1, ExM M H H1 → LenV X.K v H1 n) (hs : starEach (a :: []) X.env = (false, eval a X.env) :: starEach [] X.env := by rfl) (hpl : (backTo pos (starEach [] X.env)).any (·.1) = false := by rfl) :
    PD X M (.Call (.Name "len" p) [a] [] pos) σ H (.int n) := .mk fun H1 e1 al Q q =>
  ⟨_, pe_callB call_len hg nb.len PySem.boot_len wA.pa (by decide) (by decide) hs hpl, ca_cons (ha _ _ (ca_nil ⟨v, n, rfl, hn H1 e1, q _ H1 (Evl.Ex.refl H1) (.int _)⟩)) hs⟩
/-- len of a dict -/
theorem pd_lenK {p : Pos} {A : Addr} {kvs : List (Key × V)} (nb : NoB X.mg) (hg : Gl X "len") (ha : ∀ H1 (Q : VK), Q (.ref A) H1 → wE X a σ H1 Q) (hn : ∀ H1, ExM M H H1 → H1 A = some (.dK kvs)) (hs : starEach (a :: []) X.env = (false, eval a X.env) :: starEach [] X.env := by rfl) (hpl : (backTo pos (starEach [] X.env)).any (·.1) = false := by rfl) :
    PD X M (.Call (.Name "len" p) [a] [] pos) σ H (.int kvs.length) := .mk fun H1 e1 al Q q =>
  ⟨_, pe_callB call_lenD hg nb.len PySem.boot_len wA.pa (by decide) (by decide) hs hpl, ca_cons (ha _ _ (ca_nil ⟨A, kvs, rfl, hn H1 e1, q _ H1 (Evl.Ex.refl H1) (.int _)⟩)) hs⟩
theorem td_isO {jj p2} {A : Addr} (ha : ∀ H1 (Q : VK), Q (.ref A) H1 → wE X a σ H1 Q) : TD X M (.Compare a [.Is] [.Constant .none jj p2] pos) σ H false := .mk fun H1 e1 al Q q =>
  ⟨_, pt_cmpR op_isN wE.pe pe_non (nomark _), ha _ _ ⟨rfl, _, rfl, q _ (Evl.Ex.refl H1)⟩⟩
end
end GV

namespace YK
open PySem PySem.Spec PyProof.Rows L2 GV
def isDictD : PyData → Bool
  | .dict _ => true
  | _ => false
theorem kit_dict (d : PyData) : kitB (tyD d) "dict" = some (isDictD d) := by
  cases d with
  | none => exact (by decide +kernel : kitB "NoneType" "dict" = some false)
  | bool _ => exact (by decide +kernel : kitB "bool" "dict" = some false)
  | int _ => exact (by decide +kernel : kitB "int" "dict" = some false)
  | str _ => exact (by decide +kernel : kitB "str" "dict" = some false)
  | list _ => exact (by decide +kernel : kitB "list" "dict" = some false)
  | tuple _ => exact (by decide +kernel : kitB "tuple" "dict" = some false)
  | dict _ => exact (by decide +kernel : kitB "dict" "dict" = some true)
def alk : Nat → PyData → Prop
  | 0, d => atomD d = true ∨ ∃ tp ds, d = sqD tp ds ∧ ds.length ≤ 100000 ∧ ∀ e ∈ ds, False
  | n + 1, d => atomD d = true ∨ ∃ tp ds, d = sqD tp ds ∧ ds.length ≤ 100000 ∧ ∀ e ∈ ds, alk n e
def R_alk (n : Nat) (ds : List PyData) (r : PyData) : Prop := ∃ d, ds = [d, d] ∧ alk n d ∧ r = .bool true
section
variable {P : Program} {w : World} {K : PySem.W.Frag} {mg : Str → Option Value} {base : Heap}
theorem alk_step {m : Nat} {f : Addr} {fd : FuncData} (R : PyData → Prop) (F : At K mg "_law_alike" s_law_alike f fd) (nb : NoB mg) (nd : mg "dict" = none) (ih : (∃ d, R d) → Cl P w K mg base CX0 m "_law_alike" (PureR K fun ds r => ∃ d, ds = [d, d] ∧ R d ∧ r = .bool true)) :
    Cl P w K mg base CX0 (m + 1) "_law_alike" (PureR K fun ds r => ∃ d, ds = [d, d] ∧ (atomD d = true ∨ ∃ tp es, d = sqD tp es ∧ es.length ≤ 100000 ∧ ∀ e ∈ es, R e) ∧ r = .bool true) := by
  refine cl_pure F sc_law_alike (F.fn.binds fun _ _ _ _ _ _ us hl => match us, hl with | [_, _], _ => rfl) (fun ds d h => ?_) (fun X cdv A outer s H Q E M vs ds d hX hr al r h q => ?_)
  · obtain ⟨_, rfl, _⟩ := h
    rfl
  obtain ⟨d, rfl, h, rfl⟩ := h
  obtain ⟨u, v, rfl, r1, r2⟩ := rpa2 r
  have q1 : ∀ {H2 v H3}, Evl.Ex H H2 → Evl.Ex H2 H3 → Rp K M H3 v (.bool true) → Q v H3 := fun x y z => q _ _ (x.trans y) z
  have m1 : ∀ {H2}, Evl.Ex H H2 → Rp K M H2 u d ∧ Rp K M H2 v d ∧ Alive M H2 := fun x => ⟨r1.mono (fun _ z => z) (ExM.of x), r2.mono (fun _ z => z) (ExM.of x), al.mono x⟩
  let B := fun (k : Nat) (H' : Hp) => wB X ((defBody s_law_alike).drop k) { nx := fun _ H' => Q .non H', rt := Q } (L2.start n_law_alike [u, v]) H'
  subst hX
  have s1 : isNone d = false → (∀ H', Evl.Ex H H' → B 1 H') → B 0 H := fun hd k => b_cons (s_if (k := false) al (TD.is (td_isN (nm 1 r2)) hd) (fun k => by cases k) (fun _ H2 x2 => b_nil (k H2 x2)))
  have s2 : isBoolD d = false → (∀ H', Evl.Ex H H' → B 2 H') → ∀ H', Evl.Ex H H' → B 1 H' := fun hd k H' x => b_cons (s_if (k := false) (m1 x).2.2 (TD.is (td_val (pd_isi rfl nb.isinstance rfl nb.bool PyProof.Rows.boot_bool (nm 1 (m1 x).2.1) (kit_bool d))) hd) (fun k => by cases k) (fun _ H2 x2 => b_nil (k H2 (x.trans x2))))
  have s3 : isIntD d = false → isBoolD d = false → (∀ H', Evl.Ex H H' → B 3 H') → ∀ H', Evl.Ex H H' → B 2 H' := fun hd hb k H' x => b_cons (s_if (k := false) (m1 x).2.2 (TD.is (td_val (pd_isi rfl nb.isinstance rfl nb.int PyProof.Rows.boot_int (nm 1 (m1 x).2.1) (kit_int d))) (by rw [hd, hb]; rfl)) (fun k => by cases k) (fun _ H2 x2 => b_nil (k H2 (x.trans x2))))
  have s4 : isStrD d = false → (∀ H', Evl.Ex H H' → B 4 H') → ∀ H', Evl.Ex H H' → B 3 H' := fun hd k H' x => b_cons (s_if (k := false) (m1 x).2.2 (TD.is (td_val (pd_isi rfl nb.isinstance rfl nb.str PyProof.Rows.boot_str (nm 1 (m1 x).2.1) (kit_str d))) hd) (fun k => by cases k) (fun _ H2 x2 => b_nil (k H2 (x.trans x2))))
  have s4b : isDictD d = false → (∀ H', Evl.Ex H H' → B 5 H') → ∀ H', Evl.Ex H H' → B 4 H' := fun hd k H' x => b_cons (s_if (k := false) (m1 x).2.2 (TD.is (td_val (pd_isi rfl nb.isinstance rfl nd PyProof.Rows.boot_dict (nm 1 (m1 x).2.1) (kit_dict d))) hd) (fun k => by cases k) (fun _ H2 x2 => b_nil (k H2 (x.trans x2))))
  have s5 : (∀ H', Evl.Ex H H' → B 6 H') → ∀ H', Evl.Ex H H' → B 5 H' := fun k H' x => b_cons (s_if (k := false) (m1 x).2.2 (TD.is (WD.td (wd_and (td_val (pd_isi rfl nb.isinstance rfl nb.tuple PyProof.Rows.boot_tuple (nm 1 (m1 x).2.1) (kit_t d))) fun _ => wd_and1 (td_not (td_val (pd_isi rfl nb.isinstance rfl nb.tuple PyProof.Rows.boot_tuple (nm 0 (m1 x).1) (kit_t d)))))) (by cases isTupD d <;> rfl)) (fun k => by cases k) (fun _ H2 x2 => b_nil (k H2 (x.trans x2))))
  have s6 : (∀ H', Evl.Ex H H' → B 7 H') → ∀ H', Evl.Ex H H' → B 6 H' := fun k H' x => b_cons (s_if (k := false) (m1 x).2.2 (TD.is (WD.td (wd_and (td_val (pd_isi rfl nb.isinstance rfl nb.list PyProof.Rows.boot_list (nm 1 (m1 x).2.1) (kit_l d))) fun _ => wd_and1 (td_not (td_val (pd_isi rfl nb.isinstance rfl nb.list PyProof.Rows.boot_list (nm 0 (m1 x).1) (kit_l d)))))) (by cases isListD d <;> rfl)) (fun k => by cases k) (fun _ H2 x2 => b_nil (k H2 (x.trans x2))))
  have eT : ∀ {a b : PyData}, PyData.eqv a b = true → PyData.bool (PyData.eqv a b) = .bool true := fun h => by rw [h]
  show B 0 H
  rcases h with h | ⟨tp, es, rfl, hl, he⟩
  · cases d with
    | none => exact b_cons (s_if (k := true) al (TD.is (td_isN (nm 1 r2)) rfl) (fun _ H2 x2 => b_cons (s_ret (al.mono x2) (PD.is (pd_isN (nm 0 (m1 x2).1)) rfl) fun v H3 x3 rv => q1 x2 x3 rv)) (fun k => by cases k))
    | bool b => exact s1 rfl fun H1 x1 => b_cons (s_if (k := true) (m1 x1).2.2 (TD.is (td_val (pd_isi rfl nb.isinstance rfl nb.bool PyProof.Rows.boot_bool (nm 1 (m1 x1).2.1) (kit_bool _))) rfl) (fun _ H2 x2 => b_cons (s_ret (m1 (x1.trans x2)).2.2 (PD.is (pd_and (pd_isi rfl nb.isinstance rfl nb.bool PyProof.Rows.boot_bool (nm 0 (m1 (x1.trans x2)).1) (kit_bool _)) fun _ => pd_one (pd_eq hr.units (nm 0 (m1 (x1.trans x2)).1) (nm 1 (m1 (x1.trans x2)).2.1) rfl rfl)) (by cases b <;> rfl)) fun v H3 x3 rv => q1 (x1.trans x2) x3 rv)) (fun k => by cases k))
    | int i => exact s1 rfl (s2 rfl fun H1 x1 => b_cons (s_if (k := true) (m1 x1).2.2 (TD.is (td_val (pd_isi rfl nb.isinstance rfl nb.int PyProof.Rows.boot_int (nm 1 (m1 x1).2.1) (kit_int _))) rfl) (fun _ H2 x2 => b_cons (s_ret (m1 (x1.trans x2)).2.2 (PD.is (pd_and (pd_isi rfl nb.isinstance rfl nb.int PyProof.Rows.boot_int (nm 0 (m1 (x1.trans x2)).1) (kit_int _)) fun _ => pd_and (pd_not (pd_isi rfl nb.isinstance rfl nb.bool PyProof.Rows.boot_bool (nm 0 (m1 (x1.trans x2)).1) (kit_bool _))) fun _ => pd_one (pd_eq hr.units (nm 0 (m1 (x1.trans x2)).1) (nm 1 (m1 (x1.trans x2)).2.1) rfl rfl)) (by rw [eqv_int, decide_eq_true rfl]; rfl)) fun v H3 x3 rv => q1 (x1.trans x2) x3 rv)) (fun k => by cases k)))
    | str x => exact s1 rfl (s2 rfl (s3 rfl rfl fun H1 x1 => b_cons (s_if (k := true) (m1 x1).2.2 (TD.is (td_val (pd_isi rfl nb.isinstance rfl nb.str PyProof.Rows.boot_str (nm 1 (m1 x1).2.1) (kit_str _))) rfl) (fun _ H2 x2 => b_cons (s_ret (m1 (x1.trans x2)).2.2 (PD.is (pd_and (pd_isi rfl nb.isinstance rfl nb.str PyProof.Rows.boot_str (nm 0 (m1 (x1.trans x2)).1) (kit_str _)) fun _ => pd_one (pd_eq hr.units (nm 0 (m1 (x1.trans x2)).1) (nm 1 (m1 (x1.trans x2)).2.1) h h)) (by rw [eqv_str, decide_eq_true rfl]; rfl)) fun v H3 x3 rv => q1 (x1.trans x2) x3 rv)) (fun k => by cases k))))
    | list _ => cases h
    | tuple _ => cases h
    | dict _ => cases h
  · have n0 : isNone (sqD tp es) = false := by cases tp <;> rfl
    have n1 : isBoolD (sqD tp es) = false := by cases tp <;> rfl
    have n2 : isIntD (sqD tp es) = false := by cases tp <;> rfl
    have n3 : isStrD (sqD tp es) = false := by cases tp <;> rfl
    have n4 : isDictD (sqD tp es) = false := by cases tp <;> rfl
    have ln : lenD (sqD tp es) = some es.length := by cases tp <;> rfl
    have ix : ∀ {i : Nat} {e : PyData}, es[i]? = some e → ixD (sqD tp es) (.int (i : Nat)) = some e := fun h => by cases tp <;> exact atI_nat h
    refine s1 n0 (s2 n1 (s3 n2 n1 (s4 n3 (s4b n4 (s5 (s6 fun H1 x1 => ?_))))))
    refine b_cons (s_if (k := false) (m1 x1).2.2 (TD.is (td_ne hr.units (pd_len nb rfl (nm 0 (m1 x1).1) ln) (pd_len nb rfl (nm 1 (m1 x1).2.1) ln) rfl rfl) (by rw [eqv_int, decide_eq_true rfl]; rfl)) (fun k => by cases k) (fun _ H2 x2 => b_nil ?_))
    have x12 := x1.trans x2
    refine b_cons (s_for (M := M) (t := .one 2) PassesOwn.never rfl (src_rangeN rfl nb.range (pd_len nb rfl (nm 1 (m1 x12).2.1) ln) (by omega)) (pg_name (i := 2) sc_law_alike.nd rfl (.inl rfl)) (m1 x12).2.2
      (fun Hs i σ' H' => (∃ x2, σ' = [some u, some v, x2]) ∧ Evl.Ex Hs H') ?_ ?_ (fun _ _ => trivial) ?_ ?_)
    · exact fun Hs xs => ⟨⟨none, rfl⟩, Evl.Ex.refl _⟩
    · rintro Hs j σ' H' xs ⟨_, e⟩
      exact ⟨.of e, (m1 (x12.trans (xs.trans e))).2.2⟩
    · rintro Hs j d σ' H' H5 σ2 xs hd ⟨⟨y5, rfl⟩, e⟩ x5' ⟨z, rv, rfl⟩
      rw [List.getElem?_map] at hd
      obtain ⟨k, hk, rfl⟩ := Option.map_eq_some_iff.mp hd
      have hk' : k < es.length := List.mem_range.mp (List.mem_of_getElem? hk)
      have hek : es[k]? = some es[k] := List.getElem?_eq_getElem hk'
      have hR := he _ (List.getElem_mem hk')
      have x5 := x12.trans ((xs.trans e).trans x5')
      exact b_cons (s_if (k := false) (m1 x5).2.2 (td_not (k := true) (td_val (pd_callC (ih ⟨_, hR⟩) hr (by omega) rfl (ad_cons (pd_ix (nm 0 (m1 x5).1) (nm 2 rv) (ix hek)) (ad_cons (pd_ix (nm 1 (m1 x5).2.1) (nm 2 rv) (ix hek)) ad_nil)) ⟨es[k], rfl, hR, rfl⟩))) (fun k => by cases k) (fun _ H6 x6 => b_nil (b_nil ⟨⟨_, rfl⟩, (e.trans x5').trans x6⟩)))
    · rintro Hs σ' H' xs ⟨⟨y5, rfl⟩, e⟩
      have x5 := x12.trans (xs.trans e)
      exact b_cons (s_ret (m1 x5).2.2 pd_bl fun v H6 x6 r6 => q1 x5 x6 r6)
theorem cl_law_alike {f : Addr} {fd : FuncData} (F : At K mg "_law_alike" s_law_alike f fd) (nb : NoB mg) (nd : mg "dict" = none) : ∀ n, Cl P w K mg base CX0 (n + 1) "_law_alike" (PureR K (R_alk n))
  | 0 => by
    exact alk_step (P := P) (w := w) (base := base) (m := 0) (fun _ => False) F nb nd fun ⟨_, h⟩ => h.elim
  | n + 1 => by
    have h := alk_step (P := P) (w := w) (base := base) (m := n + 1) (alk n) F nb nd fun _ => cl_law_alike F nb nd n
    exact h
/-! ### values that are no data -/
def spSame (S : Hp → V → V → Prop) : Sp := fun vs H Q _ => ∃ u v, vs = [u, v] ∧ S H u v ∧ ∀ H', Evl.Ex H H' → Q (.bl true) H'
def DataS (K : PySem.W.Frag) (n : Nat) : Hp → V → V → Prop := fun H u v => ∃ d, Rp K M0 H u d ∧ Rp K M0 H v d ∧ alk n d
def DictS : Hp → V → V → Prop := fun H u v => ∃ A, u = .ref A ∧ v = .ref A ∧ H A = some (.dK [])
def sqO : Bool → List V → HO
  | true, xs => .tup xs
  | false, xs => .lst xs
def SeqS (S : Hp → V → V → Prop) : Hp → V → V → Prop := fun H u v => ∃ (a b : Addr) (tp : Bool) (xs ys : List V), u = .ref a ∧ v = .ref b ∧ H a = some (sqO tp xs) ∧ H b = some (sqO tp ys) ∧ xs.length = ys.length ∧ ys.length ≤ 1000 ∧ ∀ (i : Nat) (x y : V), xs[i]? = some x → ys[i]? = some y → S H x y
theorem same_data {n m : Nat} (h : Cl P w K mg base CX0 m "_law_alike" (PureR K (R_alk n))) : Cl P w K mg base CX0 m "_law_alike" (spSame (DataS K n)) := by
  obtain ⟨f, fd, ps, h1, h2⟩ := h.ex
  refine ⟨f, fd, ps, h1.imp (fun vs H Q E hh => ?_), h2⟩
  obtain ⟨u, v, rfl, ⟨d, r1, r2, ha⟩, q⟩ := hh
  exact ⟨M0, _, _, alive0, .cons r1 (.cons r2 .nil), ⟨d, rfl, ha, rfl⟩, fun x H' x1 r => by
    cases r
    exact q H' x1⟩
theorem same_dict {f : Addr} {fd : FuncData} (F : At K mg "_law_alike" s_law_alike f fd) (nb : NoB mg) (nd : mg "dict" = none) : Cl P w K mg base CX0 1 "_law_alike" (spSame DictS) := by
  refine ⟨f, fd, _, F.fn.ok sc_law_alike (fun vs H Q E h => ?_) (fun cdv A outer sh H vs Q E hr h => ⟨_, wB.ps, ?_⟩), F.gl, F.fn.kp, F.fn.binds fun _ _ _ _ _ _ us hl => match us, hl with | [_, _], _ => rfl⟩
  · obtain ⟨_, _, rfl, _⟩ := h
    rfl
  obtain ⟨u, v, rfl, ⟨A, rfl, rfl, hA⟩, q⟩ := h
  have ty : ∀ {H2 : Hp}, Evl.Ex H H2 → ∀ H1, ExM M0 H2 H1 → TyX K H1 (.ref A) (.type "dict") := fun x H1 e => .base (.dK (e _ _ (x _ _ hA) (fun z => z) fun _ z => by cases z))
  have x0 := Evl.Ex.refl H
  refine b_cons (s_if (M := M0) alive0 (td_isO fun H1 Q q => ce_nm 1 q) (fun k => by cases k) (fun _ H1 x1 => b_nil ?_))
  refine b_cons (s_if (M := M0) alive0 (td_val (pd_isiO rfl nb.isinstance rfl nb.bool PyProof.Rows.boot_bool (fun H1 Q q => ce_nm 1 q) (ty x1) (by decide +kernel : kitB "dict" "bool" = some false))) (fun k => by cases k) (fun _ H2 x2 => b_nil ?_))
  have y2 := x1.trans x2
  refine b_cons (s_if (M := M0) alive0 (td_val (pd_isiO rfl nb.isinstance rfl nb.int PyProof.Rows.boot_int (fun H1 Q q => ce_nm 1 q) (ty y2) (by decide +kernel : kitB "dict" "int" = some false))) (fun k => by cases k) (fun _ H3 x3 => b_nil ?_))
  have y3 := y2.trans x3
  refine b_cons (s_if (M := M0) alive0 (td_val (pd_isiO rfl nb.isinstance rfl nb.str PyProof.Rows.boot_str (fun H1 Q q => ce_nm 1 q) (ty y3) (by decide +kernel : kitB "dict" "str" = some false))) (fun k => by cases k) (fun _ H4 x4 => b_nil ?_))
  have y4 := y3.trans x4
  refine b_cons (s_if (M := M0) alive0 (td_val (pd_isiO rfl nb.isinstance rfl nd PyProof.Rows.boot_dict (fun H1 Q q => ce_nm 1 q) (ty y4) (by decide +kernel : kitB "dict" "dict" = some true))) (fun _ H5 x5 => ?_) (fun k => by cases k))
  have y5 := y4.trans x5
  have hK : ∀ H1, ExM M0 H5 H1 → H1 A = some (.dK []) := fun H1 e => e _ _ (y5 _ _ hA) (fun z => z) fun _ z => by cases z
  refine b_cons (s_ret (M := M0) (d := .bool true) alive0 (PD.is (pd_and (k1 := true) (k2 := true) (pd_isiO rfl nb.isinstance rfl nd PyProof.Rows.boot_dict (fun H1 Q q => ce_nm 0 q) (ty y5) (by decide +kernel : kitB "dict" "dict" = some true)) fun _ => pd_one (PD.is (pd_eq hr.units (pd_lenK nb rfl (fun H1 Q q => ce_nm 0 q) hK) (pd_lenK nb rfl (fun H1 Q q => ce_nm 1 q) hK) rfl rfl) rfl)) rfl) fun v H6 x6 r6 => ?_)
  cases r6
  exact q H6 (y5.trans x6)
theorem same_seq {m : Nat} {S : Hp → V → V → Prop} (mono : ∀ H H' u v, S H u v → Evl.Ex H H' → S H' u v) {f : Addr} {fd : FuncData} (F : At K mg "_law_alike" s_law_alike f fd) (nb : NoB mg) (nd : mg "dict" = none) (ih : Cl P w K mg base CX0 m "_law_alike" (spSame S)) : Cl P w K mg base CX0 (m + 1) "_law_alike" (spSame (SeqS S)) := by
  refine ⟨f, fd, _, F.fn.ok sc_law_alike (fun vs H Q E h => ?_) (fun cdv A outer sh H vs Q E hr h => ⟨_, wB.ps, ?_⟩), F.gl, F.fn.kp, F.fn.binds fun _ _ _ _ _ _ us hl => match us, hl with | [_, _], _ => rfl⟩
  · obtain ⟨_, _, rfl, _⟩ := h
    rfl
  obtain ⟨u, v, rfl, ⟨a, b, tp, xs, ys, rfl, rfl, ha, hb, hlen, hl, hS⟩, q⟩ := h
  have hT : ∀ {T : String} {k : Bool}, (kitB "list" T = some k ∧ kitB "tuple" T = some k) → kitB (if tp then "tuple" else "list") T = some k := fun h => by cases tp <;> simp [h]
  have keep : ∀ {H2 H1 : Hp} {c : Addr} {zs : List V}, H2 c = some (sqO tp zs) → ExM M0 H2 H1 → H1 c = some (sqO tp zs) := fun h e => e _ _ h (fun z => z) fun _ z => by cases tp <;> cases z
  have tyO : ∀ {H2 : Hp} {c : Addr} {zs : List V}, H2 c = some (sqO tp zs) → ∀ H1, ExM M0 H2 H1 → TyX K H1 (.ref c) (.type (if tp then "tuple" else "list")) := fun h H1 e => by
    have h1 := keep h e
    cases tp
    · exact .base (.lst h1)
    · exact .base (.tup h1)
  have lnO : ∀ {H2 : Hp} {c : Addr} {zs : List V}, H2 c = some (sqO tp zs) → ∀ H1, ExM M0 H2 H1 → LenV K (.ref c) H1 zs.length := fun {H2 c zs} h H1 e => by
    have h1 := keep h e
    cases tp
    · exact .inl ⟨zs, .inl (.inl h1), rfl⟩
    · exact .inr ⟨zs, .inl (.inl h1), rfl⟩
  have ixO : ∀ {H2 : Hp} {c : Addr} {zs : List V} {i : Nat} {z : V} {Q : VK}, H2 c = some (sqO tp zs) → zs[i]? = some z → Q z H2 → rIx K (.ref c) (.int (i : Nat)) H2 Q := fun {H2 c zs i z Q} h hz q => by
    cases tp
    · exact .inl ⟨c, zs, _, z, rfl, rfl, .inl (.inl h), atI_nat hz, q⟩
    · exact .inr (.inl ⟨c, zs, _, z, rfl, rfl, .inl (.inl h), atI_nat hz, q⟩)
  refine b_cons (s_if (M := M0) alive0 (td_isO fun H1 Q q => ce_nm 1 q) (fun k => by cases k) (fun _ H1 x1 => b_nil ?_))
  refine b_cons (s_if (M := M0) alive0 (td_val (pd_isiO rfl nb.isinstance rfl nb.bool PyProof.Rows.boot_bool (fun H1 Q q => ce_nm 1 q) (tyO (x1 _ _ hb)) (hT (k := false) (by decide +kernel)))) (fun k => by cases k) (fun _ H2 x2 => b_nil ?_))
  have y2 := x1.trans x2
  refine b_cons (s_if (M := M0) alive0 (td_val (pd_isiO rfl nb.isinstance rfl nb.int PyProof.Rows.boot_int (fun H1 Q q => ce_nm 1 q) (tyO (y2 _ _ hb)) (hT (k := false) (by decide +kernel)))) (fun k => by cases k) (fun _ H3 x3 => b_nil ?_))
  have y3 := y2.trans x3
  refine b_cons (s_if (M := M0) alive0 (td_val (pd_isiO rfl nb.isinstance rfl nb.str PyProof.Rows.boot_str (fun H1 Q q => ce_nm 1 q) (tyO (y3 _ _ hb)) (hT (k := false) (by decide +kernel)))) (fun k => by cases k) (fun _ H4 x4 => b_nil ?_))
  have y4 := y3.trans x4
  refine b_cons (s_if (M := M0) alive0 (td_val (pd_isiO rfl nb.isinstance rfl nd PyProof.Rows.boot_dict (fun H1 Q q => ce_nm 1 q) (tyO (y4 _ _ hb)) (hT (k := false) (by decide +kernel)))) (fun k => by cases k) (fun _ H5 x5 => b_nil ?_))
  have y5 := y4.trans x5
  have kt : kitB (if tp then "tuple" else "list") "tuple" = some tp := by cases tp <;> decide +kernel
  have kl : kitB (if tp then "tuple" else "list") "list" = some (!tp) := by cases tp <;> decide +kernel
  refine b_cons (s_if (M := M0) (k := false) alive0 (TD.is (WD.td (wd_and (td_val (pd_isiO rfl nb.isinstance rfl nb.tuple PyProof.Rows.boot_tuple (fun H1 Q q => ce_nm 1 q) (tyO (y5 _ _ hb)) kt)) fun _ => wd_and1 (td_not (td_val (pd_isiO rfl nb.isinstance rfl nb.tuple PyProof.Rows.boot_tuple (fun H1 Q q => ce_nm 0 q) (tyO (y5 _ _ ha)) kt))))) (by cases tp <;> rfl)) (fun k => by cases k) (fun _ H6 x6 => b_nil ?_))
  have y6 := y5.trans x6
  refine b_cons (s_if (M := M0) (k := false) alive0 (TD.is (WD.td (wd_and (td_val (pd_isiO rfl nb.isinstance rfl nb.list PyProof.Rows.boot_list (fun H1 Q q => ce_nm 1 q) (tyO (y6 _ _ hb)) kl)) fun _ => wd_and1 (td_not (td_val (pd_isiO rfl nb.isinstance rfl nb.list PyProof.Rows.boot_list (fun H1 Q q => ce_nm 0 q) (tyO (y6 _ _ ha)) kl))))) (by cases tp <;> rfl)) (fun k => by cases k) (fun _ H7 x7 => b_nil ?_))
  have y7 := y6.trans x7
  refine b_cons (s_if (M := M0) (k := false) alive0 (TD.is (td_ne hr.units (pd_lenO nb rfl (fun H1 Q q => ce_nm 0 q) (lnO (y7 _ _ ha))) (pd_lenO nb rfl (fun H1 Q q => ce_nm 1 q) (lnO (y7 _ _ hb))) rfl rfl) (by rw [eqv_int, hlen, decide_eq_true rfl]; rfl)) (fun k => by cases k) (fun _ H8 x8 => b_nil ?_))
  have y8 := y7.trans x8
  refine b_cons (s_for (M := M0) (t := .one 2) PassesOwn.never rfl (src_rangeN rfl nb.range (pd_lenO nb rfl (fun H1 Q q => ce_nm 1 q) (lnO (y8 _ _ hb))) (by omega)) (pg_name (i := 2) sc_law_alike.nd rfl (.inl rfl)) alive0
    (fun Hs i σ' H' => (∃ x2, σ' = [some (.ref a), some (.ref b), x2]) ∧ Evl.Ex Hs H') ?_ ?_ (fun _ _ => trivial) ?_ ?_)
  · exact fun Hs xs => ⟨⟨none, rfl⟩, Evl.Ex.refl _⟩
  · rintro Hs j σ' H' xs ⟨_, e⟩
    exact ⟨.of e, alive0⟩
  · rintro Hs j d σ' H' H9 σ2 xs0 hd ⟨⟨y5, rfl⟩, e⟩ x5' ⟨z, rv, rfl⟩
    rw [List.getElem?_map] at hd
    obtain ⟨k, hk, rfl⟩ := Option.map_eq_some_iff.mp hd
    have hk' : k < ys.length := List.mem_range.mp (List.mem_of_getElem? hk)
    cases rv
    have y9 := y8.trans ((xs0.trans e).trans x5')
    have g1 : xs[k]? = some xs[k] := List.getElem?_eq_getElem (by omega)
    have g2 : ys[k]? = some ys[k] := List.getElem?_eq_getElem hk'
    refine b_cons (cs_if (ct_not (ct_val (ce_call ih hr (by omega) rfl (ca_cons (ce_ix (ce_nm 0 (ce_nm 2 (ixO (y9 _ _ ha) g1 (ca_cons (ce_ix (ce_nm 1 (ce_nm 2 (ixO (y9 _ _ hb) g2 (ca_nil ⟨_, _, rfl, mono _ _ _ _ (hS k _ _ g1 g2) y9, fun H10 x10 => ⟨true, rfl, b_nil (b_nil ⟨⟨_, rfl⟩, (e.trans x5').trans x10⟩)⟩⟩)))))))))))))))
  · rintro Hs σ' H' xs0 ⟨⟨y5, rfl⟩, e⟩
    refine b_cons (s_ret (M := M0) alive0 pd_bl fun v H6 x6 r6 => ?_)
    cases r6
    exact q H6 ((y8.trans (xs0.trans e)).trans x6)
/-- [(s, v)] told twice -/
theorem pair_seq {S : Hp → V → V → Prop} {H : Hp} {l1 p1 l2 p2 : Addr} {s : V} {v : V} (a1 : H l1 = some (.lst [.ref p1])) (a2 : H p1 = some (.tup [s, v])) (b1 : H l2 = some (.lst [.ref p2])) (b2 : H p2 = some (.tup [s, v])) (h1 : S H s s) (h2 : S H v v) : SeqS (SeqS S) H (.ref l1) (.ref l2) := by
  refine ⟨l1, l2, false, _, _, rfl, rfl, a1, b1, rfl, by simp, fun i x y hx hy => ?_⟩
  match i, hx, hy with
  | 0, hx, hy =>
    cases hx
    cases hy
    refine ⟨p1, p2, true, _, _, rfl, rfl, a2, b2, rfl, by simp, fun i x y hx hy => ?_⟩
    match i, hx, hy with
    | 0, hx, hy =>
      cases hx
      cases hy
      exact h1
    | 1, hx, hy =>
      cases hx
      cases hy
      exact h2
  | i + 1, hx, hy => cases hx
end
end YK

namespace YK
open PySem PySem.Spec PyProof.Rows L2 GV
/-! ### what is refused -/
def okK1 : PyData → Bool
  | .str s => decide (s ∈ ordK)
  | _ => false
/-- no kinds: no list or tuple, or one with a part that is no kind, or kinds one of which stands twice -/
def KindsNo (d : PyData) : Prop := (isListD d = false ∧ isTupD d = false) ∨ ∃ tp ds, d = sqD tp ds ∧ ds.length ≤ 50 ∧ (ds.all okK1 = false ∨ ∃ ks : List Str, ds = ks.map PyData.str ∧ (∀ k ∈ ks, k ∈ ordK) ∧ ¬ ks.Nodup)
def BadK (K : PySem.W.Frag) (H : Hp) (v : V) : Prop := (∃ d, Rp K M0 H v d ∧ KindsNo d) ∨ ∃ A, v = .ref A ∧ H A = some (.dK [])
theorem BadK.m0 {K : PySem.W.Frag} {H H' : Hp} {v : V} (h : BadK K H v) (e : ExM M0 H H') : BadK K H' v := by
  rcases h with ⟨d, r, n⟩ | ⟨A, rfl, hA⟩
  · exact .inl ⟨d, r.mono (fun _ z => z) e, n⟩
  · exact .inr ⟨A, rfl, e _ _ hA (fun z => z) fun _ z => by cases z⟩
def spCKX (K : PySem.W.Frag) (CK : Addr) : Sp := fun vs H Q E => ∃ v, vs = [v] ∧ BadK K H v ∧ Raised CK [("kinds", v)] H E
/-- the types of values that are no log -/
def NoLog (K : PySem.W.Frag) (CL : Addr) : Prop := ∀ d : PyData, PySem.W.kitOne K (.type (tyD d)) (.ref CL) = some false
def spBPX (K : PySem.W.Frag) (CG : Addr) : Sp := fun vs H Q E => ∃ v d, vs = [v] ∧ Rp K M0 H v d ∧ Raised CG [("log", v)] H E
section
variable {P : Program} {w : World} {K : PySem.W.Frag} {mg : Str → Option Value} {base : Heap} {CH CK CG CL : Addr}
theorem cl_check_kindsX {f : Addr} {fd : FuncData} (F : At K mg "_check_kinds" s_check_kinds f fd) (nb : NoB mg) (gH : mg "House" = some (.ref CH)) (kk : KindsK K CH) (er : ErrC P w K mg base "InvalidKinds" CK ["kinds"]) : Cl P w K mg base (L2.CX P w) 3 "_check_kinds" (spCKX K CK) := by
  refine ⟨f, fd, _, F.fn.okX sc_check_kinds (fun vs H Q E h => ?_) (fun cdv A outer s H vs Q E hr h => ⟨_, wB.ps, ?_⟩), F.gl, F.fn.kp, F.fn.binds fun _ _ _ _ _ _ us hl => match us, hl with | [_], _ => rfl⟩
  · obtain ⟨k, rfl, _⟩ := h
    rfl
  have tk : Takes _ (fun cls d (_ : St) H' => E cls d H') := takes_of (X := cxOf (L2.CX P w) P w K mg base n_check_kinds "_check_kinds" (defScope s_check_kinds) f cdv A outer s H E) rfl rfl rfl rfl
  obtain ⟨v, rfl, h, q⟩ := h
  rcases h with ⟨d, r, h⟩ | ⟨A0, rfl, hA⟩
  · rcases h with ⟨h1, h2⟩ | ⟨tp, ds, rfl, hl, h⟩
    · refine b_cons (s_if (M := M0) (k := true) alive0 (TD.is (td_not (td_val (pd_isi2 rfl nb.isinstance rfl nb.list PyProof.Rows.boot_list rfl nb.tuple PyProof.Rows.boot_tuple (nm 0 r) (kit_l _) (kit_t _)))) (by rw [h1, h2]; rfl)) (fun _ H1 x1 => ?_) (fun k => by cases k))
      exact b_cons (s_raise rfl er (hr.mono (by decide)) tk rfl (ca_cons (ce_nm 0 (ca_nil ⟨rfl, (by show 1 ≤ 1000; decide), raised_ex q x1⟩))))
    have isq : (isListD (sqD tp ds) || isTupD (sqD tp ds)) = true := by cases tp <;> rfl
    refine b_cons (s_if (M := M0) (k := false) alive0 (TD.is (td_not (td_val (pd_isi2 rfl nb.isinstance rfl nb.list PyProof.Rows.boot_list rfl nb.tuple PyProof.Rows.boot_tuple (nm 0 r) (kit_l _) (kit_t _)))) (by rw [isq]; rfl)) (fun k => by cases k) (fun _ H1 x1 => b_nil ?_))
    have s1 := r.mono (fun _ z => z) (ExM.of x1)
    refine b_cons (s_if (M := M0) (k := !ds.all okK1) alive0 (td_not (k := ds.all okK1) (TD.is (td_val (pd_callB (cr_all rfl) rfl nb.all PyProof.Rows.boot_all (ad_cons (PD.is (FD.pd (fd_map (fun d => .bool (okK1 d)) (t := .one 1) (own := [("kind", 1)]) rfl sc_check_kinds.nd (src_S (nm 0 s1)) (blkOk_by (N := n_check_kinds) (sc := defScope s_check_kinds) (by decide +kernel)) (fun _ _ _ _ _ => pg_name (i := 1) sc_check_kinds.nd rfl (.inl rfl)) (fun _ _ => trivial) ?_ (by omega) ?_)) (congrArg PyData.list (show ds.map (fun d => PyData.bool (okK1 d)) = (ds.map okK1).map PyData.bool by rw [List.map_map]; rfl))) ad_nil) rn_all)) (by rw [List.all_map]; rfl))) (fun _ H2 x2 => ?_) (fun kn H2 x2 => b_nil ?_))
    · rintro M H d σ' ⟨_, _, rfl⟩
      rfl
    · rintro s0 H0 C cl fp M' H' x σ' hM lift hx ⟨v', rv, rfl⟩
      cases x with
      | str z => exact PD.is (pd_and (k1 := true) (pd_isi rfl nb.isinstance rfl nb.str PyProof.Rows.boot_str (nm 1 rv) (kit_str _)) fun _ => pd_one (pd_inKinds rfl gH kk (nm 1 rv))) (congrArg PyData.bool (Bool.true_and _))
      | _ => exact PD.is (pd_and (k1 := false) (k2 := false) (pd_isi rfl nb.isinstance rfl nb.str PyProof.Rows.boot_str (nm 1 rv) (kit_str _)) fun z => by cases z) rfl
    · exact b_cons (s_raise rfl er (hr.mono (by decide)) tk rfl (ca_cons (ce_nm 0 (ca_nil ⟨rfl, (by show 1 ≤ 1000; decide), raised_ex q (x1.trans x2)⟩))))
    rcases h with h | ⟨ks, rfl, hk, hnd⟩
    · rw [h] at kn
      cases kn
    · have x12 := x1.trans x2
      have t1 := r.mono (fun _ z => z) (ExM.of x12)
      rw [List.length_map] at hl
      refine b_cons (s_if (M := M0) (k := true) alive0 (TD.is (td_lt (pd_lenSetS rfl rfl nb.len rfl nb.set (nm 0 t1) (by omega)) (pd_len nb rfl (nm 0 t1) (n := ks.length) (by rw [len_sq, List.length_map]))) (decide_eq_true (by have := dN_dup hnd; omega))) (fun _ H3 x3 => ?_) (fun k => by cases k))
      exact b_cons (s_raise rfl er (hr.mono (by decide)) tk rfl (ca_cons (ce_nm 0 (ca_nil ⟨rfl, (by show 1 ≤ 1000; decide), raised_ex q (x12.trans x3)⟩))))
  · refine b_cons (s_if (M := M0) (k := true) alive0 (td_not (k := false) (td_val (PD.is (pd_isi2D rfl nb.isinstance rfl nb.list PyProof.Rows.boot_list rfl nb.tuple PyProof.Rows.boot_tuple (fun H1 Q hq => ce_nm 0 hq) hA (fun z => z) (by decide +kernel : kitB "dict" "list" = some false) (by decide +kernel : kitB "dict" "tuple" = some false)) rfl))) (fun _ H1 x1 => ?_) (fun k => by cases k))
    exact b_cons (s_raise rfl er (hr.mono (by decide)) tk rfl (ca_cons (ce_nm 0 (ca_nil ⟨rfl, (by show 1 ≤ 1000; decide), raised_ex q x1⟩))))
theorem cl_probeX {f : Addr} {fd : FuncData} (F : At K mg "probe" s_probe f fd) (ck : Cl P w K mg base (L2.CX P w) 3 "_check_kinds" (spCKX K CK)) : Cl P w K mg base (L2.CX P w) 4 "probe" (spCKX K CK) := by
  refine ⟨f, fd, _, F.fn.okX sc_probe (fun vs H Q E h => ?_) (fun cdv A outer s H vs Q E hr h => ⟨_, wB.ps, ?_⟩), F.gl, F.fn.kp, F.fn.binds fun _ _ _ _ _ _ us hl => match us, hl with | [_], _ => rfl⟩
  · obtain ⟨k, rfl, _⟩ := h
    rfl
  have tk : Takes _ (fun cls d (_ : St) H' => E cls d H') := takes_of (X := cxOf (L2.CX P w) P w K mg base n_probe "probe" (defScope s_probe) f cdv A outer s H E) rfl rfl rfl rfl
  obtain ⟨v, rfl, h, q⟩ := h
  exact b_cons (cs_expr (ce_callX ck hr (by decide) rfl tk (ca_cons (ce_nm 0 (ca_nil ⟨v, rfl, h, q⟩)))))
theorem cl_best_probeX {f : Addr} {fd : FuncData} (F : At K mg "best_probe" s_best_probe f fd) (nb : NoB mg) (gL : mg "Log" = some (.ref CL)) (no : NoLog K CL) (er : ErrC P w K mg base "InvalidLog" CG ["log"]) : Cl P w K mg base (L2.CX P w) 3 "best_probe" (spBPX K CG) := by
  refine ⟨f, fd, _, F.fn.okX sc_best_probe (fun vs H Q E h => ?_) (fun cdv A outer s H vs Q E hr h => ⟨_, wB.ps, ?_⟩), F.gl, F.fn.kp, F.fn.binds fun _ _ _ _ _ _ us hl => match us, hl with | [_], _ => rfl⟩
  · obtain ⟨v, d, rfl, _⟩ := h
    rfl
  have tk : Takes _ (fun cls d (_ : St) H' => E cls d H') := takes_of (X := cxOf (L2.CX P w) P w K mg base n_best_probe "best_probe" (defScope s_best_probe) f cdv A outer s H E) rfl rfl rfl rfl
  obtain ⟨v, d, rfl, r, q⟩ := h
  refine b_cons (cs_if (ct_not (ct_val ⟨_, pe_callB call_isi rfl nb.isinstance PyProof.Rows.boot_isinstance (pa_cons wE.pe (pa_cons (pe_glob rfl gL (v := .ref CL) rfl (by decide)) pa_nil)) (by decide) (by decide), ce_nm 0 ⟨v, .ref CL, .type (tyD d), .ref CL, false, rfl, .own CL, r.tyX, no d, false, rfl, ?_⟩⟩)))
  rw [if_pos (by decide)]
  exact b_cons (s_raise rfl er (hr.mono (by decide)) tk rfl (ca_cons (ce_nm 0 (ca_nil ⟨rfl, (by show 1 ≤ 1000; decide), q⟩))))
end
end YK

namespace YK
open PySem PySem.Spec PyProof.Rows L2 GV
/-! ### the faults of a deed -/
structure ErN (K : PySem.W.Frag) (mg : Str → Option Value) (CR CP CM : Addr) : Prop where
  gR : mg "InvalidKinds" = some (.ref CR)
  gP : mg "InvalidLog" = some (.ref CP)
  gM : mg "MillError" = some (.ref CM)
  gV : mg "ValueError" = none
  ecR : ExcC K CR
  ecP : ExcC K CP
  xfR : XfC K CR
  xfP : XfC K CP
  nR : PySem.W.findIn K (.ref CR) "kinds" = some none
  nP : PySem.W.findIn K (.ref CP) "log" = some none
  emR : PySem.W.exmOne K (.ref CR) (.ref CM) = some true
  emP : PySem.W.exmOne K (.ref CP) (.ref CM) = some true
  kRR : PySem.W.kitOne K (.ref CR) (.ref CR) = some true
  kRP : PySem.W.kitOne K (.ref CR) (.ref CP) = some false
  kPR : PySem.W.kitOne K (.ref CP) (.ref CR) = some false
  kPP : PySem.W.kitOne K (.ref CP) (.ref CP) = some true
  kRV : PySem.W.kitOne K (.ref CR) (.type "ValueError") = some true
  kPV : PySem.W.kitOne K (.ref CP) (.type "ValueError") = some true
def FQ (l : Addr) (s : Str) (v : V) (H1 : Hp) (Q : VK) : Prop := ∀ p H3, H1 p = none → (∀ a o, H1 a = some o → a ≠ l → H3 a = some o) → H3 p = some (.tup [.str s, v]) → H3 l = some (.lst [.ref p]) → Q (.ref l) H3
def FX (CR CP l : Addr) (Q : VK) : XK := fun cls d H1 => (cls = .ref CR ∧ ∃ dd v, d = some dd ∧ H1 dd = some (.xd [("kinds", v)]) ∧ H1 l = some (.lst []) ∧ FQ l "kinds" v H1 Q) ∨ (cls = .ref CP ∧ ∃ dd v, d = some dd ∧ H1 dd = some (.xd [("log", v)]) ∧ H1 l = some (.lst []) ∧ FQ l "log" v H1 Q)
def TTf (CR CP : Addr) : (XK → Hp → VK → Prop) → Hp → VK → Prop := fun tl H Q => ∀ l H2, H l = none → Evl.Ex H H2 → H2 l = some (.lst []) → tl (FX CR CP l Q) H2 fun _ _ => False
theorem faults_gives {X : Cx} {g CR CP CM : Addr} {cdg : Value} {q : Str} (nb : NoB X.mg) (T : ErN X.K X.mg CR CP CM) : GivesA X n_law_faults "_law_faults" (defScope s_law_faults) g cdg (defBody s_law_faults) "deed" q (TTf CR CP) := by
  intro f c' s H Q tl hcall hco htt
  refine b_cons (cs_set (i := 1) sc_law_faults.nd rfl (.inl rfl) (ce_fd (M := M0) alive0 (fd_lst ad_nil (by simp)) fun l ws H2 hl x2 h2 r2 => ?_))
  cases r2
  refine b_cons (s_try (Wout := fun _ _ _ _ => False) rfl rfl sc_law_faults.nd takes0 (.as_ (i := 2) ⟨rfl, by decide, .inl T.gM⟩ rfl rfl (fun a oe cls d pn hz hd => psW hz hd) .nil) fun pn xe tk => ?_)
  refine b_cons (cs_expr ⟨_, PE.weak (hcall _ pn xe (FX CR CP l Q) _ _ tk), fun _ _ => False, ⟨rfl, x2 _ _ hco, fun cls d H' h => ?_, htt l H2 hl x2 h2⟩, fun v H3 hq => hq.elim⟩)
  rcases h with ⟨rfl, dd, v, rfl, hdd, hl3, q3⟩ | ⟨rfl, dd, v, rfl, hdd, hl3, q3⟩
  · refine ⟨true, T.emR, fun _ a ha hlt => ?_, fun z => by cases z⟩
    intro oe pn2 hz hd
    refine b_cons (s_if (M := M0) (k := false) alive0 (td_not (k := true) (td_val (.mk fun H3 e3 al3 Q q3 => ⟨_, pe_callB (call_isEd T.ecR hz hd) rfl nb.isinstance PyProof.Rows.boot_isinstance (pa_cons wE.pe (pa_cons (pe_bltn (v := .ty "ValueError") rfl T.gV (by decide +kernel) rfl) pa_nil)) (by decide) (by decide), ce_nm 2 ⟨e3 _ _ hdd (fun z => z) (fun _ z => by cases z), .ty "ValueError", .type "ValueError", true, rfl, fun u h => h, T.kRV, q3 _ H3 (Evl.Ex.refl H3) (.bl true)⟩⟩))) (fun k => by cases k) (fun _ H4 x4 => b_nil ?_))
    refine b_cons (s_if (M := M0) (k := true) alive0 (td_val (.mk fun H3 e3 al3 Q q3 => ⟨_, pe_callB (call_isEd T.ecR hz hd) rfl nb.isinstance PyProof.Rows.boot_isinstance (pa_cons wE.pe (pa_cons (pe_glob rfl T.gR (v := .ref CR) rfl (by decide)) pa_nil)) (by decide) (by decide), ce_nm 2 ⟨e3 _ _ (x4 _ _ hdd) (fun z => z) (fun _ z => by cases z), .ref CR, .ref CR, true, rfl, fun u h => h, T.kRR, q3 _ H3 (Evl.Ex.refl H3) (.bl true)⟩⟩)) (fun _ H5 x5 => ?_) (fun k => by cases k))
    have x45 := x4.trans x5
    refine b_cons (cs_expr (ce_append (ce_nm 1 ⟨l, [], rfl, x45 _ _ hl3, ce_tup (ca_cons (ce_str (ca_cons (ce_xf T.xfR T.nR hz hd (ce_nm 2 ⟨rfl, rfl, dd, _, v, rfl, x45 _ _ hdd, rfl, ca_nil ⟨(by show 2 ≤ 1000; decide), fun p hp => ⟨[], ?_, by decide, ?_⟩⟩⟩)))))⟩)))
    · exact Evl.Ex.new hp _ _ (x45 _ _ hl3)
    · have ndl : dd ≠ l := fun e => by rw [e, hl3] at hdd; cases hdd
      have npl : p ≠ l := fun e => by rw [e, x45 _ _ hl3] at hp; cases hp
      have kp : ∀ a o, _ → a ≠ l → upd (upd H5 p (.tup [.str "kinds", v])) l (.lst ([] ++ [.ref p])) a = some o := fun a o (h : H' a = some o) ne => by
        rw [upd_ne ne, upd_ne (ne_of_none (x45 _ _ h) hp)]
        exact x45 _ _ h
      have hp6 : upd (upd H5 p (.tup [.str "kinds", v])) l (.lst ([] ++ [.ref p])) p = some (.tup [.str "kinds", v]) := by
        rw [upd_ne npl]
        exact upd_same
      have hl6 : upd (upd H5 p (.tup [.str "kinds", v])) l (.lst ([] ++ [.ref p])) l = some (.lst [.ref p]) := upd_same
      generalize upd (upd H5 p (.tup [.str "kinds", v])) l (.lst ([] ++ [.ref p])) = H6 at kp hp6 hl6 ⊢
      refine b_nil ?_
      refine b_cons (s_if (M := M0) (k := false) alive0 (td_val (.mk fun H3 e3 al3 Q q3 => ⟨_, pe_callB (call_isEd T.ecR hz hd) rfl nb.isinstance PyProof.Rows.boot_isinstance (pa_cons wE.pe (pa_cons (pe_glob rfl T.gP (v := .ref CP) rfl (by decide)) pa_nil)) (by decide) (by decide), ce_nm 2 ⟨e3 _ _ (kp _ _ hdd ndl) (fun z => z) (fun _ z => by cases z), .ref CP, .ref CP, false, rfl, fun u h => h, T.kRP, q3 _ H3 (Evl.Ex.refl H3) (.bl false)⟩⟩)) (fun k => by cases k) (fun _ H7 x7 => b_nil (b_nil ?_)))
      change wB (cxOf C8.CX0 X.prog X.w X.K X.mg X.base n_law_faults "_law_faults" (defScope s_law_faults) g cdg X.A X.stack s H C8.E0).nox ((defBody s_law_faults).drop 2) { nx := fun _ H' => Q .non H', rt := Q } [some (.ref f), some (.ref l), none] _
      exact b_cons (cs_ret (ce_nm 1 (q3 p H7 (Evl.fresh_back x45 hp) (fun a o h ne => x7 _ _ (kp a o h ne)) (x7 _ _ hp6) (x7 _ _ hl6))))
  · refine ⟨true, T.emP, fun _ a ha hlt => ?_, fun z => by cases z⟩
    intro oe pn2 hz hd
    refine b_cons (s_if (M := M0) (k := false) alive0 (td_not (k := true) (td_val (.mk fun H3 e3 al3 Q q3 => ⟨_, pe_callB (call_isEd T.ecP hz hd) rfl nb.isinstance PyProof.Rows.boot_isinstance (pa_cons wE.pe (pa_cons (pe_bltn (v := .ty "ValueError") rfl T.gV (by decide +kernel) rfl) pa_nil)) (by decide) (by decide), ce_nm 2 ⟨e3 _ _ hdd (fun z => z) (fun _ z => by cases z), .ty "ValueError", .type "ValueError", true, rfl, fun u h => h, T.kPV, q3 _ H3 (Evl.Ex.refl H3) (.bl true)⟩⟩))) (fun k => by cases k) (fun _ H4 x4 => b_nil ?_))
    refine b_cons (s_if (M := M0) (k := false) alive0 (td_val (.mk fun H3 e3 al3 Q q3 => ⟨_, pe_callB (call_isEd T.ecP hz hd) rfl nb.isinstance PyProof.Rows.boot_isinstance (pa_cons wE.pe (pa_cons (pe_glob rfl T.gR (v := .ref CR) rfl (by decide)) pa_nil)) (by decide) (by decide), ce_nm 2 ⟨e3 _ _ (x4 _ _ hdd) (fun z => z) (fun _ z => by cases z), .ref CR, .ref CR, false, rfl, fun u h => h, T.kPR, q3 _ H3 (Evl.Ex.refl H3) (.bl false)⟩⟩)) (fun k => by cases k) (fun _ H5 x5 => b_nil ?_))
    have x45 := x4.trans x5
    refine b_cons (s_if (M := M0) (k := true) alive0 (td_val (.mk fun H3 e3 al3 Q q3 => ⟨_, pe_callB (call_isEd T.ecP hz hd) rfl nb.isinstance PyProof.Rows.boot_isinstance (pa_cons wE.pe (pa_cons (pe_glob rfl T.gP (v := .ref CP) rfl (by decide)) pa_nil)) (by decide) (by decide), ce_nm 2 ⟨e3 _ _ (x45 _ _ hdd) (fun z => z) (fun _ z => by cases z), .ref CP, .ref CP, true, rfl, fun u h => h, T.kPP, q3 _ H3 (Evl.Ex.refl H3) (.bl true)⟩⟩)) (fun _ H6 x6 => ?_) (fun k => by cases k))
    have x46 := x45.trans x6
    refine b_cons (cs_expr (ce_append (ce_nm 1 ⟨l, [], rfl, x46 _ _ hl3, ce_tup (ca_cons (ce_str (ca_cons (ce_xf T.xfP T.nP hz hd (ce_nm 2 ⟨rfl, rfl, dd, _, v, rfl, x46 _ _ hdd, rfl, ca_nil ⟨(by show 2 ≤ 1000; decide), fun p hp => ⟨[], ?_, by decide, ?_⟩⟩⟩)))))⟩)))
    · exact Evl.Ex.new hp _ _ (x46 _ _ hl3)
    · have npl : p ≠ l := fun e => by rw [e, x46 _ _ hl3] at hp; cases hp
      refine b_nil (b_nil ?_)
      change wB (cxOf C8.CX0 X.prog X.w X.K X.mg X.base n_law_faults "_law_faults" (defScope s_law_faults) g cdg X.A X.stack s H C8.E0).nox ((defBody s_law_faults).drop 2) { nx := fun _ H' => Q .non H', rt := Q } [some (.ref f), some (.ref l), none] _
      refine b_cons (cs_ret (ce_nm 1 (q3 p _ (Evl.fresh_back x46 hp) (fun a o h ne => ?_) ?_ upd_same)))
      · rw [upd_ne ne, upd_ne (ne_of_none (x46 _ _ h) hp)]
        exact x46 _ _ h
      · rw [upd_ne npl]
        exact upd_same
section
theorem ce_faults {X : Cx} {σ : St} {H : Hp} {CR CP CM g : Addr} {fd : FuncData} {T : List (Addr × Str)} {k : Nat} {params : Arguments} {body : Expr} {scope : Scope} {p lpos pos : Pos} {Q : VK} (F : At X.K X.mg "_law_faults" s_law_faults g fd) (nb : NoB X.mg) (To : ErN X.K X.mg CR CP CM) (lb : LamB X.mg X.base T X.env.code (X.env.qual ++ "<lambda>"))
    (hr : Room (k + 2) X.A) (hg : Gl X "_law_faults") (L : LamX.LamS X.env.scope scope) (hdef : defaultsOf params X.env = ([], [])) (bd : ∀ (q : Str) (cl : List (Str × Addr)) (pm cv ctv : Value), bindArgs (PySem.W.kla_fn "<lambda>" q params body scope cl pm cv ctv) ⟨[], []⟩ = pure [])
    (hT : LamX.Tabs T H) (h : ∀ H1, LamX.ExtN H H1 → LamX.Tabs T H1 → ∀ l H2, H1 l = none → Evl.Ex H1 H2 → H2 l = some (.lst []) → ∀ (A : Around) (outer : List Env) (s : Shared) (H0 : Hp) (f c' : Addr), Room k (A.deeper (LamX.lamEnv X scope s.heap.objs.size f c')) → wE (LamX.lamCx X A outer s H0 (FX CR CP l Q) scope f c') body σ H2 fun _ _ => False) :
    wE X (.Call (.Name "_law_faults" p) [.Lambda params body scope lpos] [] pos) σ H Q := by
  obtain ⟨oc, od, kV, doc, pm, an, cdv, ct, osl, e, lk, hcd⟩ := F.fn.ex
  obtain ⟨c, Pt, hc, tb, hm, hu⟩ := lb
  have hb := F.fn.binds (ps := p_law_faults) fun _ _ _ _ _ _ us hl => match us, hl with | [_], _ => rfl
  rw [e] at lk hb
  exact ce_lamA hg F.gl F.fn.kp lk hcd hb sc_law_faults rfl (.inl rfl) (faults_gives nb To) tb hc hm hu hr L hdef bd hT fun H1 e1 t1 => h H1 e1 t1
end
end YK

namespace YK
open PySem PySem.Spec PyProof.Rows L2 GV
/-! ### the row and the place that are due -/
def stI (n g : Nat) (s : List Nat × Nat) : Nat → List Nat × Nat
  | 0 => s
  | j + 1 => if decide (n / 2 ^ (g + 3 * j) &&& 1 = 1) = true then ((stI n g s j).1.set (g + 3 * j) ((stI n g s j).2 + 1), (stI n g s j).2 + 1) else stI n g s j
def stG (n : Nat) : Nat → List Nat × List Nat × Nat
  | 0 => ([0, 0, 0, 0, 0, 0], [], 0)
  | g + 1 => if decide (g < 2) = true then ((stI n g ((stG n g).1, (stG n g).2.2) 2).1, (stG n g).2.1 ++ [(stI n g ((stG n g).1, (stG n g).2.2) 2).2 + 1], (stI n g ((stG n g).1, (stG n g).2.2) 2).2 + 1) else ((stI n g ((stG n g).1, (stG n g).2.2) 2).1, (stG n g).2.1, (stI n g ((stG n g).1, (stG n g).2.2) 2).2)
theorem stI_len (n g : Nat) (s : List Nat × Nat) : ∀ j, (stI n g s j).1.length = s.1.length
  | 0 => rfl
  | j + 1 => by
    have ih := stI_len n g s j
    unfold stI
    split
    · rw [List.length_set, ih]
    · exact ih
theorem stG_len (n : Nat) : ∀ g, (stG n g).1.length = 6 ∧ (stG n g).2.1.length ≤ g
  | 0 => ⟨rfl, Nat.le_refl _⟩
  | g + 1 => by
    have ih := stG_len n g
    have e := stI_len n g ((stG n g).1, (stG n g).2.2) 2
    have e : (stI n g ((stG n g).1, (stG n g).2.2) 2).1.length = (stG n g).1.length := e
    unfold stG
    split
    · exact ⟨e.trans ih.1, by rw [List.length_append, List.length_singleton]; omega⟩
    · exact ⟨e.trans ih.1, by show (stG n g).2.1.length ≤ g + 1; omega⟩
def someL (n : Nat) (ks : List Nat) : List Nat := (ks.filter fun k => decide (0 < (stG n 3).1.getD k 0)).map fun k => (stG n 3).1.getD k 0
def lawRow (n : Nat) : List Nat := someL n [0, 1, 2] ++ (stG n 3).2.1 ++ someL n [3, 4, 5]
theorem lawRow_is : ∀ c : Fin 64, (lawRow c.val).map (fun k => ((k : Nat) : Int)) = pRow c.val ∧ (someL c.val [0, 1, 2]).length = pPl c.val := by decide +kernel
def R_lp (ds : List PyData) (d : PyData) : Prop := ∃ n : Nat, n < 64 ∧ ds = [natD n] ∧ d = spotD n
section
variable {P : Program} {w : World} {K : PySem.W.Frag} {mg : Str → Option Value} {base : Heap}
theorem cl_law_probe {f : Addr} {fd : FuncData} (F : At K mg "_law_probe" s_law_probe f fd) (nb : NoB mg) : Cl P w K mg base CX0 1 "_law_probe" (PureR K R_lp) := by
  refine cl_pure F sc_law_probe (F.fn.binds fun _ _ _ _ _ _ us hl => match us, hl with | [_], _ => rfl) (fun ds d h => ?_) (fun X cdv A outer s H Q E M vs ds d hX hr al r h q => ?_)
  · obtain ⟨_, _, rfl, _⟩ := h
    rfl
  obtain ⟨n, hn, rfl, rfl⟩ := h
  obtain ⟨v0, rfl, r0⟩ := rpa1 r
  cases r0
  subst hX
  refine b_cons (cs_set (i := 1) sc_law_probe.nd rfl (by first | exact .inl rfl | exact .inr rfl) (ce_fd (M := M0) alive0 (fd_lst (ad_cons pd_int (ad_cons pd_int (ad_cons pd_int (ad_cons pd_int (ad_cons pd_int (ad_cons pd_int ad_nil)))))) (by simp)) fun pw ws H1 hpw x1 h1 r1 => ?_))
  have ews : ws = natsV [0, 0, 0, 0, 0, 0] := (show RpAll K M0 H1 ws (([0, 0, 0, 0, 0, 0] : List Int).map PyData.int) from r1).of_ints
  subst ews
  refine b_cons (cs_set (i := 2) sc_law_probe.nd rfl (by first | exact .inl rfl | exact .inr rfl) (ce_fd (M := M0) alive0 (fd_lst ad_nil (by simp)) fun pp ws2 H2 hpp x2 h2 r2 => ?_))
  cases r2
  have hpp0 : H pp = none := Evl.fresh_back x1 hpp
  have np : pw ≠ pp := fun e => by
    rw [← e, h1] at hpp
    cases hpp
  refine b_cons (s_set (M := M0) (i := 3) (d := natD 0) alive0 sc_law_probe.nd rfl (by first | exact .inl rfl | exact .inr rfl) pd_int fun v3 H3 x3 r3 => ?_)
  cases r3
  refine b_cons (s_forRW (slot := 4) PassesOwn.never rfl sc_law_probe.nd rfl (.inl rfl) rfl nb.range (ce_intC ⟨3, fun g σ' H' => ∃ x4 x5 : Option V, σ' = [some (.int (n : Nat)), some (.ref pw), some (.ref pp), some (.int ((stG n g).2.2 : Nat)), x4, x5, none, none, none] ∧ Evl.Ex H H' ∧ H' pw = some (.lst (natsV (stG n g).1)) ∧ H' pp = some (.lst (natsV (stG n g).2.1)), rfl, by decide, ⟨none, none, rfl, x1.trans (x2.trans x3), x3 _ _ (x2 _ _ h1), x3 _ _ h2⟩, ?_, ?_⟩))
  · rintro g σ' H' hg ⟨x4, x5, rfl, ex, hw, hp⟩
    refine b_cons (s_forRW (slot := 5) PassesOwn.never rfl sc_law_probe.nd rfl (.inl rfl) rfl nb.range (ce_intC ⟨2, fun j σ' H' => ∃ x5 : Option V, σ' = [some (.int (n : Nat)), some (.ref pw), some (.ref pp), some (.int ((stI n g ((stG n g).1, (stG n g).2.2) j).2 : Nat)), some (.int (g : Nat)), x5, none, none, none] ∧ Evl.Ex H H' ∧ H' pw = some (.lst (natsV (stI n g ((stG n g).1, (stG n g).2.2) j).1)) ∧ H' pp = some (.lst (natsV (stG n g).2.1)), rfl, by decide, ⟨x5, rfl, ex, hw, hp⟩, ?_, ?_⟩))
    · rintro j σ' H' hj ⟨x5, rfl, ex, hw, hp⟩
      have shr : ((n : Nat) : Int) / 2 ^ (g + 3 * j) = ((n / 2 ^ (g + 3 * j) : Nat) : Int) := by
        rw [Int.natCast_ediv, Int.natCast_pow]
        rfl
      have ixd : ∀ {X : Cx} {σ : St} {H : Hp} {a b : Expr} {pos : Pos}, True := fun {_ _ _ _ _ _} => trivial
      refine b_cons (s_if (M := M0) (k := decide (n / 2 ^ (g + 3 * j) &&& 1 = 1)) alive0 (TD.is (td_eq hr.units (pd_andN (m := 1) (PD.is (pd_shr (nm 0 (.int (n : Nat))) (PD.is (pd_add (nm 4 (.int (g : Nat))) (pd_mul pd_int (nm 5 (.int (j : Nat))) (.inl (by decide)))) (congrArg PyData.int (show ((g : Nat) : Int) + 3 * ((j : Nat) : Int) = ((g + 3 * j : Nat) : Int) by omega)))) (congrArg PyData.int shr)) pd_int) pd_int rfl rfl) (eqvN _ 1)) (fun hk H4 x4 => ?_) (fun hk H4 x4 => b_nil (b_nil ?_)))
      · have hk := of_decide_eq_true hk
        have stp : stI n g ((stG n g).1, (stG n g).2.2) (j + 1) = ((stI n g ((stG n g).1, (stG n g).2.2) j).1.set (g + 3 * j) ((stI n g ((stG n g).1, (stG n g).2.2) j).2 + 1), (stI n g ((stG n g).1, (stG n g).2.2) j).2 + 1) := by
          show (if decide (n / 2 ^ (g + 3 * j) &&& 1 = 1) = true then _ else _) = _
          rw [if_pos (decide_eq_true hk)]
        refine b_cons (s_set (M := M0) (i := 3) (d := natD ((stI n g ((stG n g).1, (stG n g).2.2) j).2 + 1)) alive0 sc_law_probe.nd rfl (by first | exact .inl rfl | exact .inr rfl) (PD.is (pd_add (nm 3 (.int ((stI n g ((stG n g).1, (stG n g).2.2) j).2 : Nat))) pd_int) (congrArg PyData.int (by omega))) fun v5 H5 y5 r5 => ?_)
        cases r5
        refine b_cons (cs_sub (ce_nm 3 (ce_nm 1 (ce_pd (M := M0) (d := natD (g + 3 * j)) alive0 (PD.is (pd_add (nm 4 (.int (g : Nat))) (pd_mul pd_int (nm 5 (.int (j : Nat))) (.inl (by decide)))) (congrArg PyData.int (show ((g : Nat) : Int) + 3 * ((j : Nat) : Int) = ((g + 3 * j : Nat) : Int) by omega))) fun y H6 y6 r6 => ?_))))
        cases r6
        have x46 := x4.trans (y5.trans y6)
        have hl : (stI n g ((stG n g).1, (stG n g).2.2) j).1.length = 6 := (stI_len n g _ j).trans (stG_len n g).1
        refine ⟨pw, _, _, g + 3 * j, rfl, rfl, x46 _ _ hw, ?_, ?_⟩
        · unfold natsV
          rw [List.length_map, hl]
          have h0 : (0 : Int) ≤ ((g + 3 * j : Nat) : Int) := by omega
          unfold ixN
          rw [if_pos h0, if_pos (by omega), Int.toNat_natCast]
        · refine b_nil (b_nil ⟨_, by rw [stp]; rfl, ex_upd (ex.trans x46) hpw, ?_, ?_⟩)
          · rw [upd_same, stp]
            unfold natsV
            rw [List.map_set]
          · rw [upd_ne np.symm]
            exact x46 _ _ hp
      · have stp : stI n g ((stG n g).1, (stG n g).2.2) (j + 1) = stI n g ((stG n g).1, (stG n g).2.2) j := by
          show (if decide (n / 2 ^ (g + 3 * j) &&& 1 = 1) = true then _ else _) = _
          rw [hk, if_neg (by decide)]
        exact ⟨_, by rw [stp]; rfl, ex.trans x4, by rw [stp]; exact x4 _ _ hw, x4 _ _ hp⟩
    · rintro σ' H' ⟨x5, rfl, ex, hw, hp⟩
      refine b_cons (s_if (M := M0) (k := decide (g < 2)) alive0 (TD.is (td_lt (nm 4 (.int (g : Nat))) pd_int) (decide_eq_decide.mpr (by omega))) (fun hk H4 x4 => ?_) (fun hk H4 x4 => b_nil (b_nil ?_)))
      · have hk := of_decide_eq_true hk
        have stp : stG n (g + 1) = ((stI n g ((stG n g).1, (stG n g).2.2) 2).1, (stG n g).2.1 ++ [(stI n g ((stG n g).1, (stG n g).2.2) 2).2 + 1], (stI n g ((stG n g).1, (stG n g).2.2) 2).2 + 1) := by
          show (if decide (g < 2) = true then _ else _) = _
          rw [if_pos (decide_eq_true hk)]
        refine b_cons (s_set (M := M0) (i := 3) (d := natD ((stI n g ((stG n g).1, (stG n g).2.2) 2).2 + 1)) alive0 sc_law_probe.nd rfl (by first | exact .inl rfl | exact .inr rfl) (PD.is (pd_add (nm 3 (.int ((stI n g ((stG n g).1, (stG n g).2.2) 2).2 : Nat))) pd_int) (congrArg PyData.int (by omega))) fun v5 H5 y5 r5 => ?_)
        cases r5
        have x45 := x4.trans y5
        have hp5 := x45 _ _ hp
        refine b_cons (cs_expr (ce_append (ce_nm 2 ⟨pp, _, rfl, hp5, ce_nm 3 ⟨_, hp5, ?_, b_nil (b_nil ⟨_, _, by rw [stp]; rfl, ex_upd (ex.trans x45) hpp0, ?_, ?_⟩)⟩⟩)))
        · unfold natsV
          rw [List.length_map]
          have := (stG_len n g).2
          omega
        · rw [upd_ne np, stp]
          exact x45 _ _ hw
        · rw [upd_same, stp]
          unfold natsV
          rw [List.map_append]
          rfl
      · have stp : stG n (g + 1) = ((stI n g ((stG n g).1, (stG n g).2.2) 2).1, (stG n g).2.1, (stI n g ((stG n g).1, (stG n g).2.2) 2).2) := by
          show (if decide (g < 2) = true then _ else _) = _
          rw [hk, if_neg (by decide)]
        exact ⟨_, _, by rw [stp], ex.trans x4, by rw [stp]; exact x4 _ _ hw, by rw [stp]; exact x4 _ _ hp⟩
  · rintro σ' H' ⟨x4, x5, rfl, ex, hw, hp⟩
    obtain ⟨g1, g2⟩ := stG_len n 3
    have al3 := al.mono ex
    have rw3 : Rp K M H' (.ref pw) (natsD (stG n 3).1) := .lst (al.fresh hpw) (.inl hw) (rp_nats _)
    have rp3 : Rp K M H' (.ref pp) (natsD (stG n 3).2.1) := .lst (al.fresh hpp0) (.inl hp) (rp_nats _)
    have ixw : ∀ {k : Nat}, k < 6 → ixD (natsD (stG n 3).1) (natD k) = some (natD ((stG n 3).1.getD k 0)) := fun {k} hk => ixD_list (by rw [List.getElem?_map, List.getD_eq_getElem?_getD, List.getElem?_eq_getElem (by omega)]; rfl)
    refine b_cons (s_setFA (M := M) (i := 6) natD_inj (fun k => decide (0 < (stG n 3).1.getD k 0)) (fun k => natD ((stG n 3).1.getD k 0)) (l := [0, 1, 2]) (t := .one 8) (own := [("k", 8)]) rfl sc_law_probe.nd (by exact src_rangeN rfl nb.range pd_int (n := 3) (by decide)) (blkOk_by (N := n_law_probe) (sc := defScope s_law_probe) (by decide +kernel)) (fun _ _ _ _ _ => pg_name (i := 8) sc_law_probe.nd rfl (.inl rfl)) (fun _ _ => trivial) ?_ (by decide) ?_ al3 rfl rfl rfl fun pb wb H4 hpb y4 h4 r4 => ?_)
    · rintro M H d σ' ⟨_, _, rfl⟩
      rfl
    · rintro s0 H0 C cl fp M' H' k σ' hM lift hk ⟨v', rv, rfl⟩
      have hk6 : k < 6 := by
        simp at hk
        omega
      exact ⟨tsd_one (TD.is (td_gt (pd_ix (nm 1 (lift _ _ rw3)) (nm 8 rv) (ixw hk6)) pd_int) (decide_eq_decide.mpr (by omega))), fun _ => pd_ix (nm 1 (lift _ _ rw3)) (nm 8 rv) (ixw hk6)⟩
    have rw4 := rw3.mono (fun _ z => z) (ExM.of y4)
    have rp4 := rp3.mono (fun _ z => z) (ExM.of y4)
    have rb4 : Rp K M H4 (.ref pb) (natsD (someL n [0, 1, 2])) := .lst (al3.fresh hpb) (.inl h4) (by unfold someL; rw [List.map_map]; exact r4)
    refine b_cons (s_setFA (M := M) (i := 7) natD_inj (fun k => decide (0 < (stG n 3).1.getD k 0)) (fun k => natD ((stG n 3).1.getD k 0)) (l := [3, 4, 5]) (t := .one 8) (own := [("k", 8)]) rfl sc_law_probe.nd (by show Src _ _ _ _ _ _ ((List.range ((6 : Int) - 3).toNat).map fun k => PyData.int ((3 : Int) + (k : Nat))); exact src_range2 rfl nb.range pd_int pd_int (by decide) (by decide)) (blkOk_by (N := n_law_probe) (sc := defScope s_law_probe) (by decide +kernel)) (fun _ _ _ _ _ => pg_name (i := 8) sc_law_probe.nd rfl (.inl rfl)) (fun _ _ => trivial) ?_ (by decide) ?_ (al3.mono y4) rfl rfl rfl fun pe we H5 hpe y5 h5 r5 => ?_)
    · rintro M H d σ' ⟨_, _, rfl⟩
      rfl
    · rintro s0 H0 C cl fp M' H' k σ' hM lift hk ⟨v', rv, rfl⟩
      have hk6 : k < 6 := by
        simp at hk
        omega
      exact ⟨tsd_one (TD.is (td_gt (pd_ix (nm 1 (lift _ _ rw4)) (nm 8 rv) (ixw hk6)) pd_int) (decide_eq_decide.mpr (by omega))), fun _ => pd_ix (nm 1 (lift _ _ rw4)) (nm 8 rv) (ixw hk6)⟩
    have re5 : Rp K M H5 (.ref pe) (natsD (someL n [3, 4, 5])) := .lst ((al3.mono y4).fresh hpe) (.inl h5) (by unfold someL; rw [List.map_map]; exact r5)
    have rp5 := rp4.mono (fun _ z => z) (ExM.of y5)
    have rb5 := rb4.mono (fun _ z => z) (ExM.of y5)
    obtain ⟨e1, e2⟩ := lawRow_is ⟨n, hn⟩
    have e1 : (lawRow n).map (fun k => ((k : Nat) : Int)) = pRow n := e1
    have e2 : (someL n [0, 1, 2]).length = pPl n := e2
    have sl : ∀ ks : List Nat, (someL n ks).length ≤ ks.length := fun ks => by
      unfold someL
      rw [List.length_map]
      exact List.length_filter_le _ _
    have s1 := sl [0, 1, 2]
    have s2 := sl [3, 4, 5]
    have s1 : (someL n [0, 1, 2]).length ≤ 3 := s1
    have s2 : (someL n [3, 4, 5]).length ≤ 3 := s2
    refine b_cons (s_ret (M := M) ((al3.mono y4).mono y5) (PD.is (pd_tup (ad_cons (pd_tupleOf rfl nb.tuple (FD.pd (fd_cat (FD.pd (fd_cat (nm 6 rb5) (nm 2 rp5) (by rw [List.length_map, List.length_map]; omega))) (nm 7 re5) (by rw [List.length_append, List.length_map, List.length_map, List.length_map]; omega))) rfl) (ad_cons (pd_len nb rfl (nm 6 rb5) (n := (someL n [0, 1, 2]).length) (by show some _ = _; rw [List.length_map])) ad_nil)) (by simp)) ?_) fun v6 H6 x6 r6 => q v6 H6 (ex.trans (y4.trans (y5.trans x6))) r6)
    unfold spotD
    rw [← e1, ← e2]
    unfold lawRow
    show PyData.tuple [.tuple _, _] = .tuple [.tuple _, _]
    rw [List.map_map, List.map_append, List.map_append]
    rfl
end
end YK

namespace YK
open PySem PySem.Spec PyProof.Rows L2 GV
/-! ### kinds in any order -/
def kdTo (n i : Nat) : List Str := ((List.range i).filter (bitN n)).map fun k => ordK.getD k ""
theorem kdTo_succ (n i : Nat) : kdTo n (i + 1) = kdTo n i ++ if bitN n i = true then [ordK.getD i ""] else [] := by
  unfold kdTo
  rw [List.range_succ, List.filter_append, List.map_append]
  congr 1
  rw [List.filter_cons]
  split <;> rfl
theorem kdTo_len (n i : Nat) : (kdTo n i).length ≤ i := by
  unfold kdTo
  rw [List.length_map]
  exact Nat.le_trans (List.length_filter_le _ _) (by rw [List.length_range]; exact Nat.le_refl _)
theorem ins_perm {α : Type} {l m : List α} {y : α} (z : Nat) (h : l.Perm m) : (l.take z ++ [y] ++ l.drop z).Perm (m ++ [y]) := by
  have e : l.take z ++ [y] ++ l.drop z = l.take z ++ y :: l.drop z := by simp
  rw [e]
  refine List.perm_middle.trans ?_
  rw [List.take_append_drop]
  exact ((h.cons y).trans (List.perm_append_comm (l₁ := [y]) (l₂ := m)))
theorem strs_of {K : PySem.W.Frag} {M : Addr → Prop} {H : Hp} : ∀ {l : List Str} {ws : List V}, RpAll K M H ws (l.map PyData.str) → ws = l.map V.str
  | [], _, .nil => rfl
  | x :: l, _, .cons r rs => by
    cases r
    rw [strs_of rs]
    rfl
def spKinds (K : PySem.W.Frag) : Sp := fun vs H Q _ => ∃ (b : Addr) (n : Nat), vs = [.ref b, .int (n : Nat)] ∧ n < 64 ∧ PotAt H b ∧ ∀ (p : Addr) (ks : List Str) (H' : Hp), H p = none → ExB b H H' → PotAt H' b → H' p = some (.lst (ks.map V.str)) → ks.Perm (kindsL n) → Q (.ref p) H'
section
variable {P : Program} {w : World} {K : PySem.W.Frag} {mg : Str → Option Value} {base : Heap}
theorem cl_law_kinds {f : Addr} {fd : FuncData} (F : At K mg "_law_kinds" s_law_kinds f fd) (nb : NoB mg) (cd : Cl P w K mg base CX0 1 "_law_take" spTake) : Cl P w K mg base CX0 2 "_law_kinds" (spKinds K) := by
  refine ⟨f, fd, _, F.fn.ok sc_law_kinds (fun vs H Q E h => ?_) (fun cdv A outer sh H vs Q E hr h => ⟨_, wB.ps, ?_⟩), F.gl, F.fn.kp, F.fn.binds fun _ _ _ _ _ _ us hl => match us, hl with | [_, _], _ => rfl⟩
  · obtain ⟨b, n, rfl, _⟩ := h
    rfl
  obtain ⟨b, n, rfl, hn, hb, q⟩ := h
  refine b_cons (cs_set (i := 2) sc_law_kinds.nd rfl (by first | exact .inl rfl | exact .inr rfl) (ce_fd (M := M0) alive0 (fd_lst (ad_cons pd_str (ad_cons pd_str (ad_cons pd_str (ad_cons pd_str (ad_cons pd_str (ad_cons pd_str ad_nil)))))) (by simp)) fun pn ws H1 hpn x1 h1 r1 => ?_))
  have ews : ws = ordK.map V.str := strs_of (l := ordK) r1
  subst ews
  refine b_cons (cs_set (i := 3) sc_law_kinds.nd rfl (by first | exact .inl rfl | exact .inr rfl) (ce_fd (M := M0) alive0 (fd_lst ad_nil (by simp)) fun pm ws2 H2 hpm x2 h2 r2 => ?_))
  cases r2
  have rn2 := x2 _ _ h1
  have bn : b ≠ pn := hb.ne hpn
  have nm_ : pn ≠ pm := fun e => by
    rw [← e, h1] at hpm
    cases hpm
  have x12 := x1.trans x2
  have hb2 := hb.ex x12
  have hpm0 : H pm = none := Evl.fresh_back x1 hpm
  have bm : b ≠ pm := hb.ne hpm0
  have LM : ∀ {H' : Hp} {ks : List Str}, PotAt H' b → H' pm = some (.lst (ks.map V.str)) → Lists (fun a => a = b ∨ a = pm) H' := fun h1 h2 a h => by
    rcases h with rfl | rfl
    · obtain ⟨_, _, _, e⟩ := h1
      exact ⟨_, e⟩
    · exact ⟨_, h2⟩
  refine b_cons (s_forRW (slot := 4) PassesOwn.never rfl sc_law_kinds.nd rfl (.inl rfl) rfl nb.range (ce_intC ⟨6, fun i σ' H' => ∃ (ks : List Str) (xk : Option V), σ' = [some (.ref b), some (.int (n : Nat)), some (.ref pn), some (.ref pm), xk] ∧ ExB b H H' ∧ PotAt H' b ∧ H' pn = some (.lst (ordK.map V.str)) ∧ H' pm = some (.lst (ks.map V.str)) ∧ ks.Perm (kdTo n i), rfl, by decide, ⟨[], none, rfl, .of x12, hb2, rn2, h2, .nil⟩, ?_, ?_⟩))
  · rintro i σ' H' hi ⟨ks, xk, rfl, e2, hb3, rn3, hp3, pm3⟩
    have hlen : ks.length ≤ i := by
      rw [pm3.length_eq]
      exact kdTo_len n i
    have shr : ((n : Nat) : Int) / 2 ^ i = ((n / 2 ^ i : Nat) : Int) := by
      rw [Int.natCast_ediv, Int.natCast_pow]
      rfl
    have eb : decide (n / 2 ^ i &&& 1 = 1) = bitN n i := by
      unfold bitN
      rw [Nat.and_one_is_mod, shr]
      exact decide_eq_decide.mpr (by omega)
    refine b_cons (s_if (M := M0) (k := bitN n i) alive0 (TD.is (td_eq hr.units (pd_andN (m := 1) (PD.is (pd_shr (nm 1 (.int (n : Nat))) (nm 4 (.int (i : Nat)))) (congrArg PyData.int shr)) pd_int) pd_int rfl rfl) ((eqvN _ 1).trans eb)) (fun hk H4 x4 => ?_) (fun hk H4 x4 => b_nil (b_nil ⟨ks, _, rfl, e2.trE x4, hb3.ex x4, x4 _ _ rn3, x4 _ _ hp3, by rw [kdTo_succ, hk, if_neg (by decide), List.append_nil]; exact pm3⟩)))
    have hp4 := x4 _ _ hp3
    have hb4 := hb3.ex x4
    have rn4 := x4 _ _ rn3
    have rm4 : Rp K (Ma b) H4 (.ref pm) (strsD ks) := .lst (fun z => bm z.symm) (.inl hp4) (RpAll.strs ks)
    refine b_cons (cs_expr (ce_insert (ce_nm 3 ⟨pm, rfl, ⟨_, hp4⟩, ce_take cd hr (by decide) rfl (fun H1 Q hq => ce_nm 0 hq) (pd_add (pd_len nb rfl (nm 3 rm4) (n := ks.length) (by show some _ = _; rw [List.length_map])) pd_int) hb4 (by omega) (n8000 (by omega) (by omega)) fun z H5 z0 z1 e5 hb5 => ?_⟩)))
    have hp5 := e5 _ _ bm.symm hp4
    have rn5 := e5 _ _ bn.symm rn4
    have rr5 : Rp K M0 H5 (.ref pn) (strsD ordK) := .lst (fun z => z) (.inl rn5) (RpAll.strs _)
    refine ce_pd (M := M0) (d := .str (ordK.getD i "")) alive0 (pd_ix (nm 2 rr5) (nm 4 (.int (i : Nat))) (ixD_list (by rw [List.getElem?_map, List.getD_eq_getElem?_getD, List.getElem?_eq_getElem (show i < ordK.length from hi)]; rfl))) fun v6 H6 x6 r6 => ?_
    cases r6
    have hp6 := x6 _ _ hp5
    have hb6 := hb5.ex x6
    have rn6 := x6 _ _ rn5
    refine ⟨_, z.toNat, hp6, by rw [Int.toNat_of_nonneg z0], by omega, by rw [List.length_map]; omega, b_nil (b_nil ⟨ks.take z.toNat ++ [ordK.getD i ""] ++ ks.drop z.toNat, _, rfl, ?_, ?_, ?_, ?_, ?_⟩)⟩
    · intro x o nx h
      by_cases hx : x = pm
      · rw [hx, hpm0] at h
        cases h
      · rw [upd_ne hx]
        exact x6 _ _ (e5 _ _ nx (x4 _ _ (e2 _ _ nx h)))
    · obtain ⟨u, v, w, hh⟩ := hb6
      exact ⟨u, v, w, by rw [upd_ne bm]; exact hh⟩
    · rw [upd_ne nm_]
      exact rn6
    · rw [upd_same, List.map_append, List.map_append, List.map_take, List.map_drop]
      rfl
    · rw [kdTo_succ, if_pos hk]
      exact ins_perm _ pm3
  · rintro σ' H' ⟨ks, xk, rfl, e2, hb3, rn3, hp3, pm3⟩
    exact b_cons (cs_ret (ce_nm 3 (q pm ks H' hpm0 e2 hb3 hp3 pm3)))
end
end YK

namespace YK
open PySem PySem.Spec PyProof.Rows L2 GV
/-! ### the houses that fit the lines, and the set of kinds that is due -/
theorem line_inj : ∀ a b : Ln, lineD a = lineD b → a = b
  | ⟨r1, p1, d1⟩, ⟨r2, p2, d2⟩, h => by
    unfold lineD at h
    injection h with h
    injection h with h1 h
    injection h with h2 h
    injection h with h3 h
    have e1 : r1 = r2 := ints_inj _ _ (by injection h1)
    have e2 : p1 = p2 := by
      injection h2 with h2
      exact Int.ofNat.inj h2
    have e3 : d1 = d2 := by injection h3
    rw [e1, e2, e3]
def bestN (ls : List Ln) : Nat := if (fitN ls 0).length < 2 then 0 else bestH (fitN ls 0)
theorem bestN_lt (ls : List Ln) : bestN ls < 64 := by
  unfold bestN
  split
  · decide
  · exact (bestH_rng _).2
def spFts (K : PySem.W.Frag) : Sp := fun vs H Q _ => ∃ (a : Addr) (ls : List Ln), vs = [.ref a] ∧ LinesAt K H a ls ∧ ls.length ≤ 1000 ∧ toFr K ((fitN ls 0).map natD) H Q
def spBst (K : PySem.W.Frag) : Sp := fun vs H Q _ => ∃ (a : Addr) (ls : List Ln), vs = [.ref a] ∧ LinesAt K H a ls ∧ ls.length ≤ 1000 ∧ ∀ H', Evl.Ex H H' → Q (.int (bestN ls : Nat)) H'
section
variable {P : Program} {w : World} {K : PySem.W.Frag} {mg : Str → Option Value} {base : Heap}
theorem cl_law_fts {f : Addr} {fd : FuncData} (F : At K mg "_law_fits" s_law_fits f fd) (nb : NoB mg) : Cl P w K mg base CX0 1 "_law_fits" (spFts K) := by
  refine ⟨f, fd, _, F.fn.ok sc_law_fits (fun vs H Q E h => ?_) (fun cdv A outer s H vs Q E hr h => ⟨_, wB.ps, ?_⟩), F.gl, F.fn.kp, F.fn.binds fun _ _ _ _ _ _ us hl => match us, hl with | [_], _ => rfl⟩
  · obtain ⟨a, ls, rfl, _⟩ := h
    rfl
  obtain ⟨a, ls, rfl, la, hl, q⟩ := h
  refine b_cons (cs_set (i := 1) sc_law_fits.nd rfl (by first | exact .inl rfl | exact .inr rfl) (ce_fd (M := M0) alive0 (fd_lst ad_nil (by simp)) fun p ws H1 hp x1 h1 rw1 => ?_))
  obtain ⟨⟩ := rw1
  have ap : a ≠ p := fun e => by
    obtain ⟨ws, hw, _⟩ := la
    rw [← e, hw] at hp
    cases hp
  refine b_cons (s_forR1 (M := Ma p) (n := 63) (slot := 2) PassesOwn.never rfl sc_law_fits.nd rfl (.inr rfl) rfl nb.range pd_int pd_int (by decide) (fun x z => ⟨_, z ▸ h1⟩) (fun Hs i σ' H' => ∃ x3 x4 : Option V, σ' = [some (.ref a), some (.ref p), x3, x4] ∧ Evl.Ex H H' ∧ ExB p Hs H' ∧ H' p = some (.lst (natsV (fitTo ls 0 i)))) ?_ ?_ ?_ ?_)
  · exact fun H2 x2 => ⟨none, none, rfl, x1.trans x2, .of (Evl.Ex.refl _), x2 _ _ h1⟩
  · rintro H2 i σ' H' x2 ⟨_, _, _, _, e, h⟩
    exact ⟨e.exM, fun x z => ⟨_, z ▸ h⟩⟩
  · rintro H2 i σ' H' H3 x2 hi ⟨x3, x4, rfl, ex, eb, hp3⟩ x30
    have la3 := la.ex (ex.trans x30)
    refine b_cons (s_if (M := M0) (k := decide (((misN ls (i + 1) : Nat) : Int) ≤ 0)) alive0 (TD.is (td_eq hr.units (pd_len nb rfl (FD.pd (fd_filterA line_inj (missB (i + 1)) lineD (l := ls) (t := .one 3) (own := [("line", 3)]) rfl sc_law_fits.nd (src_list (nm 0 la3.rp)) (blkOk_by (N := n_law_fits) (sc := defScope s_law_fits) (by decide +kernel)) (fun _ _ _ _ _ => pg_name (i := 3) sc_law_fits.nd rfl (.inl rfl)) (fun _ _ => trivial) ?_ (by omega) ?_)) (n := misN ls (i + 1)) (by show some _ = _; rw [List.length_map]; rfl)) pd_int rfl rfl) ((eqvN _ 0).trans (decide_eq_decide.mpr (by omega)))) (fun hk H6 x6 => ?_) (fun hk H6 x6 => b_nil (b_nil ⟨_, _, rfl, (ex.trans x30).trans x6, (eb.trE x30).trE x6, ?_⟩)))
    · rintro M H d σ' ⟨_, _, rfl⟩
      rfl
    · rintro s0 H0 C cl fp M' H' l σ' hM lift kp hl ⟨v', rv, rfl⟩
      have c1 : (!PyData.eqv (.bool (!PyData.eqv (natD (l.m &&& (i + 1))) (.int 0))) (.bool l.d)) = missB (i + 1) l := by
        have c2 : (!PyData.eqv (natD (l.m &&& (i + 1))) (.int 0)) = decide (0 < (i + 1) &&& l.m) := by
          rw [show PyData.eqv (natD (l.m &&& (i + 1))) (.int 0) = decide (l.m &&& (i + 1) = 0) from eqvN _ 0, Nat.and_comm]
          exact nz_pos _
        unfold missB
        rw [c2]
        cases decide (0 < (i + 1) &&& l.m) <;> cases l.d <;> rfl
      exact ⟨TD.is (td_ne hr.units (pd_ne hr.units (pd_andN (n := l.m) (m := i + 1) (pd_ix (nm 3 rv) pd_int rfl) (nm 2 (.int ((i + 1 : Nat) : Int)))) pd_int rfl rfl) (pd_ix (nm 3 rv) pd_int (d := .bool l.d) rfl) rfl rfl) c1, nm 3 rv⟩
    · have hp6 := x6 _ _ (x30 _ _ hp3)
      refine b_cons (cs_expr (ce_append (ce_nm 1 ⟨p, _, rfl, hp6, ce_nm 2 ⟨_, hp6, ?_, b_nil (b_nil ⟨_, _, rfl, ex_upd ((ex.trans x30).trans x6) hp, ((eb.trE x30).trE x6).trans .upd, ?_⟩)⟩⟩)))
      · rw [List.length_map]
        exact Nat.lt_of_le_of_lt (List.length_filter_le _ _) (by rw [List.length_map, List.length_range]; omega)
      · rw [upd_same, fitTo_succ, wrongL_len, if_pos hk]
        unfold natsV
        rw [List.map_append]
        rfl
    · rw [fitTo_succ, wrongL_len, hk, if_neg (by decide), List.append_nil]
      exact x6 _ _ (x30 _ _ hp3)
  · rintro H2 σ' H' x2 ⟨x3, x4, rfl, ex, eb, hp3⟩
    exact b_cons (cs_ret (ce_nm 1 (q p _ H' hp ex hp3 (rp_nats _))))
theorem cl_law_bst {f : Addr} {fd : FuncData} (F : At K mg "_law_best" s_law_best f fd) (nb : NoB mg) (cf : Cl P w K mg base CX0 1 "_law_fits" (spFts K)) : Cl P w K mg base CX0 2 "_law_best" (spBst K) := by
  refine ⟨f, fd, _, F.fn.ok sc_law_best (fun vs H Q E h => ?_) (fun cdv A outer s H vs Q E hr h => ⟨_, wB.ps, ?_⟩), F.gl, F.fn.kp, F.fn.binds fun _ _ _ _ _ _ us hl => match us, hl with | [_], _ => rfl⟩
  · obtain ⟨a, ls, rfl, _⟩ := h
    rfl
  obtain ⟨a, ls, rfl, la, hl, q⟩ := h
  refine b_cons (cs_set (i := 1) sc_law_best.nd rfl (by first | exact .inl rfl | exact .inr rfl) (ce_call cf hr (by decide) rfl (ca_cons (ce_nm 0 (ca_nil ⟨a, ls, rfl, la, hl, fun pf wf H1 hpf x1 h1 r1 => ?_⟩)))))
  have f63 := fit_len ls 0
  have bn : bestN ls = if (fitN ls 0).length < 2 then 0 else bestH (fitN ls 0) := rfl
  generalize fitN ls 0 = fs at r1 f63 bn
  have rf : Rp K M0 H1 (.ref pf) (natsD fs) := .lst (fun z => z) (.inl h1) r1
  have ll : lenD (natsD fs) = some fs.length := by show some _ = _; rw [List.length_map]
  refine b_cons (s_if (M := M0) alive0 (td_lt (pd_len nb rfl (nm 1 rf) ll) pd_int) (fun k H2 x2 => ?_) (fun k H2 x2 => b_nil ?_))
  · have k := of_decide_eq_true k
    rw [if_pos (by omega)] at bn
    exact b_cons (cs_ret (ce_intC (by have h := q H2 (x1.trans x2); rw [bn] at h; exact h)))
  have k := of_decide_eq_false k
  rw [if_neg (by omega)] at bn
  have x12 := x1.trans x2
  refine b_cons (s_set (M := M0) (i := 2) (d := natD 0) alive0 sc_law_best.nd rfl (by first | exact .inl rfl | exact .inr rfl) pd_int fun v3 H3 x3 rb => ?_)
  cases rb
  refine b_cons (s_set (M := M0) (i := 3) (d := natD 64) alive0 sc_law_best.nd rfl (by first | exact .inl rfl | exact .inr rfl) pd_int fun v4 H4 x4 rb => ?_)
  cases rb
  have x14 := x12.trans (x3.trans x4)
  have s1 := rf.mono (fun _ z => z) (ExM.of (x2.trans (x3.trans x4)))
  refine b_cons (s_forR1 (M := M0) (n := 63) (slot := 4) PassesOwn.never rfl sc_law_best.nd rfl (.inr rfl) rfl nb.range pd_int pd_int (by decide) alive0 (fun Hs j σ' H' => ∃ y4 y5 y6 : Option V, σ' = [some (.ref a), some (.ref pf), some (.int ((lawB fs j).1 : Nat)), some (.int ((lawB fs j).2 : Nat)), y4, y5, y6] ∧ Evl.Ex Hs H') ?_ ?_ ?_ ?_)
  · exact fun Hs xs => ⟨none, none, none, rfl, Evl.Ex.refl _⟩
  · rintro Hs j σ' H' xs ⟨_, _, _, _, e⟩
    exact ⟨.of e, alive0⟩
  · rintro Hs j σ' H' H5 xs hj ⟨y4, y5, y6, rfl, e⟩ x5
    have t1 := s1.mono (fun _ z => z) (ExM.of (xs.trans (e.trans x5)))
    refine b_cons (s_set (M := M0) (i := 5) (d := natD (cm fs (j + 1))) alive0 sc_law_best.nd rfl (by first | exact .inl rfl | exact .inr rfl) (pd_len nb rfl (FD.pd (fd_filterA natD_inj (fun a => decide (0 < a &&& (j + 1))) natD (l := fs) (t := .one 6) (own := [("fit", 6)]) rfl sc_law_best.nd (src_list (nm 1 t1)) (blkOk_by (N := n_law_best) (sc := defScope s_law_best) (by decide +kernel)) (fun _ _ _ _ _ => pg_name (i := 6) sc_law_best.nd rfl (.inl rfl)) (fun _ _ => trivial) ?_ (by omega) ?_)) (by show some _ = _; rw [List.length_map]; rfl)) fun v6 H6 x6 rc => ?_)
    · rintro M H d σ' ⟨_, _, rfl⟩
      rfl
    · rintro s0 H0 C cl fp M' H' a σ' hM lift kp ha ⟨v', rv', rfl⟩
      refine ⟨TD.is (td_ne hr.units (pd_andN (n := a) (m := j + 1) (nm 6 rv') (nm 4 (.int (j + 1 : Nat)))) pd_int rfl rfl) ?_, nm 6 rv'⟩
      rw [show PyData.eqv (natD (a &&& (j + 1))) (.int 0) = decide (a &&& (j + 1) = 0) from eqvN _ 0]
      exact nz_pos _
    cases rc
    have u1 := t1.mono (fun _ z => z) (ExM.of x6)
    have cl := cm_le fs (j + 1)
    have e6 := (e.trans x5).trans x6
    have stp : lawB fs (j + 1) = if gp fs (j + 1) < (lawB fs j).2 then (j + 1, gp fs (j + 1)) else lawB fs j := rfl
    refine b_cons (s_if (M := M0) alive0 (td_lt (PD.is (pd_max2 rfl nb.max (nm 5 (.int (cm fs (j + 1) : Nat))) (pd_sub (pd_len nb rfl (nm 1 u1) ll) (nm 5 (.int (cm fs (j + 1) : Nat))))) (show PyData.int _ = PyData.int ((gp fs (j + 1) : Nat) : Int) by unfold gp; exact congrArg PyData.int (by omega))) (nm 3 (.int ((lawB fs j).2 : Nat)))) (fun k H8 x8 => ?_) (fun k H8 x8 => b_nil (b_nil ⟨_, _, _, by rw [stp, if_neg (fun z => of_decide_eq_false k (by omega))]; rfl, e6.trans x8⟩)))
    have k : gp fs (j + 1) < (lawB fs j).2 := by
      have := of_decide_eq_true k
      omega
    refine b_cons (s_set (M := M0) (i := 2) (d := natD (j + 1)) alive0 sc_law_best.nd rfl (by first | exact .inl rfl | exact .inr rfl) (nm 4 (.int (j + 1 : Nat))) fun v9 H9 x9 rc => ?_)
    cases rc
    refine b_cons (s_set (M := M0) (i := 3) (d := natD (gp fs (j + 1))) alive0 sc_law_best.nd rfl (by first | exact .inl rfl | exact .inr rfl) (PD.is (pd_max2 rfl nb.max (nm 5 (.int (cm fs (j + 1) : Nat))) (pd_sub (pd_len nb rfl (nm 1 (u1.mono (fun _ z => z) (ExM.of (x8.trans x9)))) ll) (nm 5 (.int (cm fs (j + 1) : Nat))))) (by unfold gp; exact congrArg PyData.int (by omega))) fun v10 H10 x10 rc => ?_)
    cases rc
    exact b_nil (b_nil ⟨_, _, _, by rw [stp, if_pos k]; rfl, e6.trans (x8.trans (x9.trans x10))⟩)
  · rintro Hs σ' H' xs ⟨y4, y5, y6, rfl, e⟩
    refine b_cons (cs_ret (ce_nm 2 ?_))
    rw [lawB_best f63, ← bn]
    exact q H' (x14.trans (xs.trans e))
end
end YK

namespace YK
open PySem PySem.Spec PyProof.Rows L2 GV
/-! ### spoilt kinds -/
def alkB : Nat → PyData → Bool
  | 0, d => atomD d
  | n + 1, .list ds => decide (ds.length ≤ 100000) && ds.all (alkB n)
  | n + 1, .tuple ds => decide (ds.length ≤ 100000) && ds.all (alkB n)
  | _, d => atomD d
theorem alk_of : ∀ (n : Nat) (d : PyData), alkB n d = true → alk n d
  | 0, d, h => .inl h
  | n + 1, .list ds, h => by
    unfold alkB at h
    rw [Bool.and_eq_true, decide_eq_true_eq, List.all_eq_true] at h
    exact .inr ⟨false, ds, rfl, h.1, fun e he => alk_of n e (h.2 e he)⟩
  | n + 1, .tuple ds, h => by
    unfold alkB at h
    rw [Bool.and_eq_true, decide_eq_true_eq, List.all_eq_true] at h
    exact .inr ⟨true, ds, rfl, h.1, fun e he => alk_of n e (h.2 e he)⟩
  | n + 1, .none, h => .inl h
  | n + 1, .bool _, h => .inl h
  | n + 1, .int _, h => .inl h
  | n + 1, .str _, h => .inl h
  | n + 1, .dict _, h => .inl h
abbrev oddK : List PyData := [.str "l", .str "-", .str "b", .str "lb-", .str "L-", .str "--l", .str "", .str "-lb", .str "l-h", .str "h -", .none, .int 1, .bool true, .tuple [.str "l-"], .list [.str "-h"]]
theorem odd_no : ∀ d ∈ oddK, okK1 d = false ∧ alkB 2 d = true := by decide +kernel
def BadV (K : PySem.W.Frag) (H : Hp) (v : V) : Prop := (∃ d, Rp K M0 H v d ∧ KindsNo d ∧ alk 3 d) ∨ ∃ A, v = .ref A ∧ H A = some (.dK [])
theorem BadV.bad {K : PySem.W.Frag} {H : Hp} {v : V} (h : BadV K H v) : BadK K H v := by
  rcases h with ⟨d, r, n, _⟩ | h
  · exact .inl ⟨d, r, n⟩
  · exact .inr h
theorem BadV.m0 {K : PySem.W.Frag} {H H' : Hp} {v : V} (h : BadV K H v) (e : ExM M0 H H') : BadV K H' v := by
  rcases h with ⟨d, r, n⟩ | ⟨A, rfl, hA⟩
  · exact .inl ⟨d, r.mono (fun _ z => z) e, n⟩
  · exact .inr ⟨A, rfl, e _ _ hA (fun z => z) fun _ z => by cases z⟩
abbrev eightV (pd : Addr) : List V := [.str "l-", .non, .int 6, .bl true, .ref pd, .str "", .str "-h", .int 0]
theorem eight_bad {K : PySem.W.Frag} {H : Hp} {pd : Addr} (h : H pd = some (.dK [])) : ∀ v ∈ eightV pd, BadV K H v := by
  intro v hv
  have s1 : atomD (.str ("l-" : Str)) = true := by decide +kernel
  have s2 : atomD (.str ("" : Str)) = true := by decide +kernel
  have s3 : atomD (.str ("-h" : Str)) = true := by decide +kernel
  simp only [List.mem_cons, List.not_mem_nil, or_false] at hv
  rcases hv with rfl | rfl | rfl | rfl | rfl | rfl | rfl | rfl
  · exact .inl ⟨_, .str _, .inl ⟨rfl, rfl⟩, .inl s1⟩
  · exact .inl ⟨_, .non, .inl ⟨rfl, rfl⟩, .inl rfl⟩
  · exact .inl ⟨_, .int _, .inl ⟨rfl, rfl⟩, .inl rfl⟩
  · exact .inl ⟨_, .bl _, .inl ⟨rfl, rfl⟩, .inl rfl⟩
  · exact .inr ⟨pd, rfl, h⟩
  · exact .inl ⟨_, .str _, .inl ⟨rfl, rfl⟩, .inl s2⟩
  · exact .inl ⟨_, .str _, .inl ⟨rfl, rfl⟩, .inl s3⟩
  · exact .inl ⟨_, .int _, .inl ⟨rfl, rfl⟩, .inl rfl⟩
/-- what is put among the kinds -/
def Added (ks : List Str) (d : PyData) : Prop := (okK1 d = false ∧ alk 2 d) ∨ ∃ x ∈ ks, d = .str x
theorem added_no {ks : List Str} {d : PyData} {t : Nat} (hk : ∀ k ∈ ks, k ∈ ordK) (hl : ks.length ≤ 6) (h : Added ks d) (tp : Bool) : KindsNo (sqD tp ((ks.map PyData.str).take t ++ [d] ++ (ks.map PyData.str).drop t)) ∧ alk 3 (sqD tp ((ks.map PyData.str).take t ++ [d] ++ (ks.map PyData.str).drop t)) := by
  have len : ((ks.map PyData.str).take t ++ [d] ++ (ks.map PyData.str).drop t).length ≤ 50 := by
    simp only [List.length_append, List.length_take, List.length_drop, List.length_map, List.length_singleton]
    omega
  have ka : ∀ k ∈ ks, alk 2 (.str k) := fun k hm => .inl (ordK_sh k (hk k hm))
  refine ⟨.inr ⟨tp, _, rfl, len, ?_⟩, .inr ⟨tp, _, rfl, by omega, fun e he => ?_⟩⟩
  · rcases h with ⟨h, _⟩ | ⟨x, hx, rfl⟩
    · refine .inl ?_
      rw [List.all_eq_false]
      exact ⟨d, by simp, by rw [h]; decide⟩
    · refine .inr ⟨ks.take t ++ [x] ++ ks.drop t, ?_, ?_, ?_⟩
      · rw [List.map_append, List.map_append, List.map_take, List.map_drop]
        rfl
      · intro k hm
        simp only [List.mem_append, List.mem_singleton] at hm
        rcases hm with (hm | rfl) | hm
        · exact hk _ (List.mem_of_mem_take hm)
        · exact hk _ hx
        · exact hk _ (List.mem_of_mem_drop hm)
      · intro nd
        have p : (ks.take t ++ [x] ++ ks.drop t).Perm (x :: ks) := by
          have e : ks.take t ++ [x] ++ ks.drop t = ks.take t ++ x :: ks.drop t := by simp
          rw [e]
          refine List.perm_middle.trans ?_
          rw [List.take_append_drop]
        exact (List.nodup_cons.mp (p.nodup_iff.mp nd)).1 hx
  · simp only [List.mem_append, List.mem_singleton] at he
    have inK : ∀ e, e ∈ ks.map PyData.str → alk 2 e := fun e he => by
      obtain ⟨k, hm, rfl⟩ := List.mem_map.mp he
      exact ka k hm
    rcases he with (he | rfl) | he
    · exact inK _ (List.mem_of_mem_take he)
    · rcases h with ⟨_, h⟩ | ⟨x, hx, rfl⟩
      · exact h
      · exact ka x hx
    · exact inK _ (List.mem_of_mem_drop he)
def spSpoilt (K : PySem.W.Frag) : Sp := fun vs H Q _ => ∃ (b a : Addr) (ks : List Str), vs = [.ref b, .ref a] ∧ PotAt H b ∧ H a = some (.lst (ks.map V.str)) ∧ a ≠ b ∧ (∀ k ∈ ks, k ∈ ordK) ∧ ks.length ≤ 6 ∧ ∀ v H', ExB b H H' → PotAt H' b → BadV K H' v → Q v H'
section
variable {P : Program} {w : World} {K : PySem.W.Frag} {mg : Str → Option Value} {base : Heap}
theorem cl_law_spoilt {f : Addr} {fd : FuncData} (F : At K mg "_law_spoilt" s_law_spoilt f fd) (nb : NoB mg) (cd : Cl P w K mg base CX0 1 "_law_take" spTake) : Cl P w K mg base CX0 2 "_law_spoilt" (spSpoilt K) := by
  refine ⟨f, fd, _, F.fn.ok sc_law_spoilt (fun vs H Q E h => ?_) (fun cdv A outer sh H vs Q E hr h => ⟨_, wB.ps, ?_⟩), F.gl, F.fn.kp, F.fn.binds fun _ _ _ _ _ _ us hl => match us, hl with | [_, _], _ => rfl⟩
  · obtain ⟨b, a, ks, rfl, _⟩ := h
    rfl
  obtain ⟨b, a, ks, rfl, hb, ha, ab, hk, hl6, q⟩ := h
  have ra : ∀ {H' : Hp}, H' a = some (.lst (ks.map V.str)) → Rp K (Ma b) H' (.ref a) (strsD ks) := fun h => .lst ab (.inl h) (RpAll.strs ks)
  have ln : lenD (strsD ks) = some ks.length := by show some _ = _; rw [List.length_map]
  have fin : ∀ (po : Addr) (vA : V) (dA : PyData) (t way : Nat) (H2 : Hp), ExB b H H2 → PotAt H2 b → Rp K (Ma b) H2 vA dA → Added ks dA → t ≤ ks.length → wB (cxOf CX0 P w K mg base n_law_spoilt "_law_spoilt" (defScope s_law_spoilt) f cdv A outer sh H E).nox ((defBody s_law_spoilt).drop 6) { nx := fun _ H' => Q .non H', rt := Q } [some (.ref b), some (.ref a), some (.ref po), some vA, some (.int (t : Nat)), some (.int (way : Nat)), none] H2 := by
    intro po vA dA t way H2 e2 hb2 rA had ht
    have ha2 := e2 _ _ ab ha
    obtain ⟨no, ak⟩ := added_no (t := t) hk hl6 had false
    obtain ⟨no', ak'⟩ := added_no (t := t) hk hl6 had true
    have ed : cutD (ks.map PyData.str) none (some ((t : Nat) : Int)) ++ [dA] ++ cutD (ks.map PyData.str) (some ((t : Nat) : Int)) none = (ks.map PyData.str).take t ++ [dA] ++ (ks.map PyData.str).drop t := by rw [cutD_take, cutD_drop]
    have l1 : (cutD (ks.map PyData.str) none (some ((t : Nat) : Int))).length ≤ 6 := by
      rw [cutD_take, List.length_take, List.length_map]
      omega
    have l2 : (cutD (ks.map PyData.str) (some ((t : Nat) : Int)) none).length ≤ 6 := by
      rw [cutD_drop, List.length_drop, List.length_map]
      omega
    refine b_cons (cs_set (i := 6) sc_law_spoilt.nd rfl (by first | exact .inl rfl | exact .inr rfl) (ce_fd (al_pot hb2) (fd_cat (FD.pd (fd_cat (FD.pd (fd_slice (nm 1 (ra ha2)) od_none (od_some (nm 4 (.int (t : Nat)))))) (FD.pd (fd_lst (ad_cons (nm 3 rA) ad_nil) (by simp))) (by simp only [List.length_singleton]; omega))) (FD.pd (fd_slice (nm 1 (ra ha2)) (od_some (nm 4 (.int (t : Nat)))) od_none)) (by simp only [List.length_append, List.length_singleton]; omega)) fun ps ws H3 hps x3 h3 r3 => ?_))
    rw [ed] at r3
    have e3 := e2.trE x3
    have hb3 := hb2.ex x3
    have rs : Rp K (Ma b) H3 (.ref ps) (sqD false ((ks.map PyData.str).take t ++ [dA] ++ (ks.map PyData.str).drop t)) := .lst ((al_pot hb2).fresh hps) (.inl h3) r3
    refine b_cons (cs_if (ct_eq hr.units (ce_take cd hr (by decide) rfl (fun H1 Q hq => ce_nm 0 hq) pd_int hb3 (by decide) (by decide +kernel) fun z8 H8 z80 z81 e8 hb8 => ce_intC ⟨.int z8, .int 1, (Rp.int (M := M0) _).dp, (Rp.int (M := M0) _).dp, rfl, rfl, ?_⟩)))
    have rs8 := rs.mono (fun _ z => z) e8.exM
    have e38 := e3.trans e8
    by_cases hz : z8 = 1
    · rw [hz, if_pos (by decide)]
      refine b_cons (s_ret (al_pot hb8) (pd_tupleOf rfl nb.tuple (nm 6 rs8) rfl) fun v9 H9 x9 r9 => ?_)
      exact q v9 H9 (e38.trE x9) (hb8.ex x9) (.inl ⟨_, r9.m0, no', ak'⟩)
    · rw [if_neg (by rw [eqv_int]; simpa using hz)]
      exact b_nil (b_cons (cs_ret (ce_nm 6 (q _ H8 e38 hb8 (.inl ⟨_, rs8.m0, no, ak⟩)))))
  refine b_cons (cs_set (i := 2) sc_law_spoilt.nd rfl (by first | exact .inl rfl | exact .inr rfl) (ce_fd (al_pot hb) (fd_lst (ad_cons pd_str (ad_cons pd_str (ad_cons pd_str (ad_cons pd_str (ad_cons pd_str (ad_cons pd_str (ad_cons pd_str (ad_cons pd_str (ad_cons pd_str (ad_cons pd_str (ad_cons pd_non (ad_cons pd_int (ad_cons pd_bl (ad_cons (pd_tup (ad_cons pd_str ad_nil) (by simp)) (ad_cons (FD.pd (fd_lst (ad_cons pd_str ad_nil) (by simp))) ad_nil))))))))))))))) (by simp)) fun po ws H1 hpo x1 h1 r1 => ?_))
  have hb1 := hb.ex x1
  have ro : Rp K (Ma b) H1 (.ref po) (.list oddK) := .lst ((al_pot hb).fresh hpo) (.inl h1) r1
  refine b_cons (cs_set (i := 3) sc_law_spoilt.nd rfl (by first | exact .inl rfl | exact .inr rfl) (ce_ix (ce_nm 2 (ce_take cd hr (by decide) rfl (fun H1 Q hq => ce_nm 0 hq) pd_int hb1 (by decide) (by decide +kernel) fun z2 H2 z20 z21 e2 hb2 => ?_))))
  obtain ⟨dA, hdA⟩ : ∃ d, oddK[z2.toNat]? = some d := ⟨_, List.getElem?_eq_getElem (show z2.toNat < 15 by omega)⟩
  obtain ⟨noA, akA⟩ := odd_no _ (List.mem_of_getElem? hdA)
  refine rIx_of (M := Ma b) (da := .list oddK) (d := dA) (ro.mono (fun _ z => z) e2.exM) (by rw [show z2 = ((z2.toNat : Nat) : Int) by omega]; exact ixD_list hdA) fun vA rA => ?_
  have e02 : ExB b H H2 := (ExB.of x1).trans e2
  have had : Added ks dA := .inl ⟨noA, alk_of 2 _ akA⟩
  refine b_cons (cs_set (i := 4) sc_law_spoilt.nd rfl (by first | exact .inl rfl | exact .inr rfl) (ce_take cd hr (by decide) rfl (fun H1 Q hq => ce_nm 0 hq) (pd_add (pd_len nb rfl (nm 1 (ra (e02 _ _ ab ha))) ln) pd_int) hb2 (by omega) (n8000 (by omega) (by omega)) fun z3 H3 z30 z31 e3 hb3 => ?_))
  have e03 := e02.trans e3
  refine b_cons (cs_set (i := 5) sc_law_spoilt.nd rfl (by first | exact .inl rfl | exact .inr rfl) (ce_take cd hr (by decide) rfl (fun H1 Q hq => ce_nm 0 hq) pd_int hb3 (by decide) (by decide +kernel) fun z4 H4 z40 z41 e4 hb4 => ?_))
  have e04 := e03.trans e4
  have rA4 := (rA.mono (fun _ z => z) e3.exM).mono (fun _ z => z) e4.exM
  obtain ⟨t, rfl⟩ : ∃ t : Nat, z3 = (t : Nat) := ⟨z3.toNat, by omega⟩
  obtain ⟨way, rfl⟩ : ∃ t : Nat, z4 = (t : Nat) := ⟨z4.toNat, by omega⟩
  have ht : t ≤ ks.length := by omega
  refine b_cons (s_if (M := M0) (k := decide (way = 0)) alive0 (TD.is (td_eq hr.units (nm 5 (.int (way : Nat))) pd_int rfl rfl) (eqvN _ 0)) (fun hw H5 x5 => ?_) (fun hw H5 x5 => b_nil ?_))
  · have hb5 := hb4.ex x5
    refine b_cons (cs_ret (ce_ix (ce_lst (ca_cons (ce_str (ca_cons (ce_nonC (ca_cons (ce_intC (ca_cons (ce_blC (ca_cons (ce_dict0 fun pd hpd => ca_cons (ce_str (ca_cons (ce_str (ca_cons (ce_intC (ca_nil ⟨(by show 8 ≤ 1000; decide), fun pl hpl => ?_⟩)))))))))))))))))))
    have bd : b ≠ pd := hb5.ne hpd
    have hbd : PotAt (upd H5 pd (.dK [])) b := by
      obtain ⟨u, v, w, hh⟩ := hb5
      exact ⟨u, v, w, by rw [upd_ne bd]; exact hh⟩
    have bl : b ≠ pl := hbd.ne hpl
    have dl : pd ≠ pl := fun e => by
      rw [← e, upd_same] at hpl
      cases hpl
    have hb6 : PotAt (upd (upd H5 pd (.dK [])) pl (.lst (eightV pd))) b := by
      obtain ⟨u, v, w, hh⟩ := hbd
      exact ⟨u, v, w, by rw [upd_ne bl]; exact hh⟩
    have x56 : Evl.Ex H5 (upd (upd H5 pd (.dK [])) pl (.lst (eightV pd))) := (Evl.Ex.new hpd).trans (Evl.Ex.new hpl)
    have d6 : (upd (upd H5 pd (.dK [])) pl (.lst (eightV pd))) pd = some (.dK []) := by rw [upd_ne dl, upd_same]
    have l6 : (upd (upd H5 pd (.dK [])) pl (.lst (eightV pd))) pl = some (.lst (eightV pd)) := upd_same
    exact ce_take cd hr (by decide) rfl (fun H1 Q hq => ce_nm 0 hq) pd_int hb6 (by decide) (by decide +kernel) fun z7 H7 z70 z71 e7 hb7 => by
        obtain ⟨v, hv⟩ : ∃ v, (eightV pd)[z7.toNat]? = some v := ⟨_, List.getElem?_eq_getElem (show z7.toNat < 8 by omega)⟩
        refine .inl ⟨pl, eightV pd, z7, v, rfl, rfl, .inl (.inl (e7 _ _ bl.symm l6)), by rw [show z7 = ((z7.toNat : Nat) : Int) by omega]; exact atI_nat hv, ?_⟩
        exact q v H7 ((e04.trE (x5.trans x56)).trans e7) hb7 (eight_bad (e7 _ _ bd.symm d6) v (List.mem_of_getElem? hv))
  · have hb5 := hb4.ex x5
    have e05 := e04.trE x5
    have rA5 := rA4.mono (fun _ z => z) (ExM.of x5)
    refine b_cons (cs_if (ct_w (cw_and (ct_td (M := M0) alive0 (td_eq hr.units (nm 5 (.int (way : Nat))) pd_int rfl rfl) fun H6 x6 => ⟨fun _ => cw_and1 (ct_td (M := Ma b) (al_pot (hb5.ex x6)) (td_gt (pd_len nb rfl (nm 1 (ra ((e05.trE x6) _ _ ab ha))) ln) pd_int) fun H7 x7 => ?_), fun _ => ?_⟩))))
    · by_cases hpos : 0 < ks.length
      · rw [if_pos (decide_eq_true (by omega))]
        have x67 := x6.trans x7
        have hb7 := hb5.ex x67
        have e07 := e05.trE x67
        refine b_cons (cs_set (i := 3) sc_law_spoilt.nd rfl (by first | exact .inl rfl | exact .inr rfl) (ce_ix (ce_nm 1 (ce_take cd hr (by decide) rfl (fun H1 Q hq => ce_nm 0 hq) (pd_len nb rfl (nm 1 (ra (e07 _ _ ab ha))) ln) hb7 (by omega) (n8000 (by omega) (by omega)) fun z8 H8 z80 z81 e8 hb8 => ?_))))
        have e08 := e07.trans e8
        obtain ⟨x, hx⟩ : ∃ x, ks[z8.toNat]? = some x := ⟨_, List.getElem?_eq_getElem (show z8.toNat < ks.length by omega)⟩
        refine rIx_of (M := Ma b) (da := strsD ks) (d := .str x) (ra (e08 _ _ ab ha)) (by rw [show z8 = ((z8.toNat : Nat) : Int) by omega]; exact ixD_list (by rw [List.getElem?_map, hx]; rfl)) fun vX rX => ?_
        exact b_nil (fin po vX (.str x) t way H8 e08 hb8 rX (.inr ⟨x, List.mem_of_getElem? hx, rfl⟩) ht)
      · rw [if_neg (fun z => hpos (by have := of_decide_eq_true z; omega))]
        have x67 := x6.trans x7
        exact b_nil (fin po vA dA t way H7 (e05.trE x67) (hb5.ex x67) (rA5.mono (fun _ z => z) (ExM.of x67)) had ht)
    · rw [if_neg (by decide)]
      exact b_nil (fin po vA dA t way H6 (e05.trE x6) (hb5.ex x6) (rA5.mono (fun _ z => z) (ExM.of x6)) had ht)
end
end YK

namespace YK
open PySem PySem.Spec PyProof.Rows L2 GV
/-! ### the kinds handed in -/
theorem alk_pair {n : Nat} {s : Str} {d : PyData} (hs : SeqAt.shaped (.str s) = true) (h : alk n d) : alk (n + 2) (.list [.tuple [.str s, d]]) := .inr ⟨false, _, rfl, by simp, fun e he => by
  cases List.mem_singleton.mp he
  have sn : alk n (.str s) := by
    cases n with
    | zero => exact .inl hs
    | succ n => exact .inl hs
  refine .inr ⟨true, _, rfl, by simp, fun e he => ?_⟩
  rcases List.mem_cons.mp he with rfl | he
  · exact sn
  · cases List.mem_singleton.mp he
    exact h⟩
theorem ordK_lay : ∀ k ∈ ordK, (PyData.str k).canLay0 = true ∧ (PyData.str k).depth = 0 := by decide +kernel
theorem shaped_ks {ks : List Str} (h : ∀ k ∈ ks, k ∈ ordK) : SeqAt.shaped (strsD ks) = true := by
  have key : ∀ ks : List Str, (∀ k ∈ ks, k ∈ ordK) → PyData.canLayAll0 (ks.map PyData.str) = true ∧ PyData.depthAll (ks.map PyData.str) ≤ 1 := by
    intro ks
    induction ks with
    | nil => exact fun _ => ⟨rfl, Nat.zero_le _⟩
    | cons d r ih =>
      intro h
      obtain ⟨a, b⟩ := ordK_lay d (h d (List.mem_cons_self))
      obtain ⟨a2, b2⟩ := ih fun x hx => h x (List.mem_cons_of_mem _ hx)
      refine ⟨?_, ?_⟩
      · show ((PyData.str d).canLay0 && PyData.canLayAll0 (r.map PyData.str)) = true
        rw [a, a2]
        rfl
      · show max (PyData.str d).depth (PyData.depthAll (r.map PyData.str)) ≤ 1
        omega
  obtain ⟨a, b⟩ := key ks h
  exact shaped_of (d := strsD ks) a (by show PyData.depthAll (ks.map PyData.str) + 1 ≤ 64; omega)
theorem perm_row {ks ls : List Str} (h : ks.Perm ls) : rowI ks = rowI ls ∧ plI ks = plI ls := by
  have e : ∀ p, decide (p ∈ heldL ks) = decide (p ∈ heldL ls) := fun p => decide_eq_decide.mpr (by
    unfold heldL
    simp only [List.mem_cons, h.mem_iff])
  have e : (fun p => decide (p ∈ heldL ks)) = (fun p => decide (p ∈ heldL ls)) := funext e
  have b : bwL ks = bwL ls := by
    unfold bwL
    rw [e]
  have r : rowI ks = rowI ls := by
    unfold rowI
    rw [e, b]
  refine ⟨r, ?_⟩
  unfold plI
  rw [r, b]
theorem ints_alk (l : List Int) (n : Nat) (h : l.length ≤ 100000) : alk (n + 1) (tintsD l) := .inr ⟨true, _, rfl, by rw [List.length_map]; exact h, fun e he => by
  obtain ⟨i, _, rfl⟩ := List.mem_map.mp he
  cases n with
  | zero => exact .inl rfl
  | succ n => exact .inl rfl⟩
theorem spot_alk (c : Nat) : alk 2 (spotD c) := .inr ⟨true, _, rfl, by simp, fun e he => by
  rcases List.mem_cons.mp he with rfl | he
  · refine ints_alk _ 0 ?_
    show (rowI (kindsL c)).length ≤ 100000
    unfold rowI
    rw [List.length_map]
    exact Nat.le_trans (List.length_filter_le _ _) (by decide)
  · cases List.mem_singleton.mp he
    exact .inl rfl⟩
theorem alk_succ : ∀ (n : Nat) (d : PyData), alk n d → alk (n + 1) d
  | 0, d, h => by
    rcases h with h | ⟨tp, ds, rfl, hl, he⟩
    · exact .inl h
    · exact .inr ⟨tp, ds, rfl, hl, fun e m => (he e m).elim⟩
  | n + 1, d, h => by
    rcases h with h | ⟨tp, ds, rfl, hl, he⟩
    · exact .inl h
    · exact .inr ⟨tp, ds, rfl, hl, fun e m => alk_succ n e (he e m)⟩
theorem alk_up {n m : Nat} {d : PyData} (h : n ≤ m) (a : alk n d) : alk m d := by
  obtain ⟨k, rfl⟩ := Nat.exists_eq_add_of_le h
  clear h
  induction k with
  | zero => exact a
  | succ k ih => exact alk_succ _ _ ih
def StrS : Hp → V → V → Prop := fun _ u v => ∃ x, u = .str x ∧ v = .str x ∧ SeqAt.shaped (.str x) = true
def SD : Hp → V → V → Prop := fun H u v => StrS H u v ∨ DictS H u v
theorem sd_mono (H H' : Hp) (u v : V) (h : SD H u v) (x : Evl.Ex H H') : SD H' u v := by
  rcases h with h | ⟨A, e1, e2, h⟩
  · exact .inl h
  · exact .inr ⟨A, e1, e2, x _ _ h⟩
theorem seq_mono {S : Hp → V → V → Prop} (mono : ∀ H H' u v, S H u v → Evl.Ex H H' → S H' u v) (H H' : Hp) (u v : V) (h : SeqS S H u v) (x : Evl.Ex H H') : SeqS S H' u v := by
  obtain ⟨a, b, tp, xs, ys, e1, e2, h1, h2, h3, h4, h5⟩ := h
  exact ⟨a, b, tp, xs, ys, e1, e2, x _ _ h1, x _ _ h2, h3, h4, fun i p q hp hq => mono _ _ _ _ (h5 i p q hp hq) x⟩
section
variable {P : Program} {w : World} {K : PySem.W.Frag} {mg : Str → Option Value} {base : Heap} {CK CG CM CH : Addr}
theorem same_sd {f : Addr} {fd : FuncData} (F : At K mg "_law_alike" s_law_alike f fd) (nb : NoB mg) (nd : mg "dict" = none) : Cl P w K mg base CX0 1 "_law_alike" (spSame SD) := by
  refine ⟨f, fd, _, F.fn.ok sc_law_alike (fun vs H Q E h => ?_) (fun cdv A outer sh H vs Q E hr h => ⟨_, wB.ps, ?_⟩), F.gl, F.fn.kp, F.fn.binds fun _ _ _ _ _ _ us hl => match us, hl with | [_, _], _ => rfl⟩
  · obtain ⟨_, _, rfl, _⟩ := h
    rfl
  obtain ⟨u, v, rfl, h, q⟩ := h
  rcases h with ⟨x, rfl, rfl, hx⟩ | ⟨A, rfl, rfl, hA⟩
  · have rs : ∀ {H' : Hp}, Rp K M0 H' (.str x) (.str x) := .str x
    refine b_cons (s_if (M := M0) (k := false) alive0 (TD.is (td_isN (nm 1 rs)) rfl) (fun k => by cases k) (fun _ H1 x1 => b_nil ?_))
    refine b_cons (s_if (M := M0) (k := false) alive0 (TD.is (td_val (pd_isi rfl nb.isinstance rfl nb.bool PyProof.Rows.boot_bool (nm 1 rs) (kit_bool _))) rfl) (fun k => by cases k) (fun _ H2 x2 => b_nil ?_))
    refine b_cons (s_if (M := M0) (k := false) alive0 (TD.is (td_val (pd_isi rfl nb.isinstance rfl nb.int PyProof.Rows.boot_int (nm 1 rs) (kit_int _))) rfl) (fun k => by cases k) (fun _ H3 x3 => b_nil ?_))
    refine b_cons (s_if (M := M0) (k := true) alive0 (TD.is (td_val (pd_isi rfl nb.isinstance rfl nb.str PyProof.Rows.boot_str (nm 1 rs) (kit_str _))) rfl) (fun _ H4 x4 => ?_) (fun k => by cases k))
    refine b_cons (s_ret (M := M0) (d := .bool true) alive0 (PD.is (pd_and (k1 := true) (k2 := true) (pd_isi rfl nb.isinstance rfl nb.str PyProof.Rows.boot_str (nm 0 rs) (kit_str _)) fun _ => pd_one (PD.is (pd_eq hr.units (nm 0 rs) (nm 1 rs) hx hx) (by rw [eqv_str, decide_eq_true rfl]))) rfl) fun v H6 x6 r6 => ?_)
    cases r6
    exact q H6 ((x1.trans x2).trans (x3.trans (x4.trans x6)))
  have ty : ∀ {H2 : Hp}, Evl.Ex H H2 → ∀ H1, ExM M0 H2 H1 → TyX K H1 (.ref A) (.type "dict") := fun x H1 e => .base (.dK (e _ _ (x _ _ hA) (fun z => z) fun _ z => by cases z))
  refine b_cons (s_if (M := M0) alive0 (td_isO fun H1 Q q => ce_nm 1 q) (fun k => by cases k) (fun _ H1 x1 => b_nil ?_))
  refine b_cons (s_if (M := M0) alive0 (td_val (pd_isiO rfl nb.isinstance rfl nb.bool PyProof.Rows.boot_bool (fun H1 Q q => ce_nm 1 q) (ty x1) (by decide +kernel : kitB "dict" "bool" = some false))) (fun k => by cases k) (fun _ H2 x2 => b_nil ?_))
  have y2 := x1.trans x2
  refine b_cons (s_if (M := M0) alive0 (td_val (pd_isiO rfl nb.isinstance rfl nb.int PyProof.Rows.boot_int (fun H1 Q q => ce_nm 1 q) (ty y2) (by decide +kernel : kitB "dict" "int" = some false))) (fun k => by cases k) (fun _ H3 x3 => b_nil ?_))
  have y3 := y2.trans x3
  refine b_cons (s_if (M := M0) alive0 (td_val (pd_isiO rfl nb.isinstance rfl nb.str PyProof.Rows.boot_str (fun H1 Q q => ce_nm 1 q) (ty y3) (by decide +kernel : kitB "dict" "str" = some false))) (fun k => by cases k) (fun _ H4 x4 => b_nil ?_))
  have y4 := y3.trans x4
  refine b_cons (s_if (M := M0) alive0 (td_val (pd_isiO rfl nb.isinstance rfl nd PyProof.Rows.boot_dict (fun H1 Q q => ce_nm 1 q) (ty y4) (by decide +kernel : kitB "dict" "dict" = some true))) (fun _ H5 x5 => ?_) (fun k => by cases k))
  have y5 := y4.trans x5
  have hK : ∀ H1, ExM M0 H5 H1 → H1 A = some (.dK []) := fun H1 e => e _ _ (y5 _ _ hA) (fun z => z) fun _ z => by cases z
  refine b_cons (s_ret (M := M0) (d := .bool true) alive0 (PD.is (pd_and (k1 := true) (k2 := true) (pd_isiO rfl nb.isinstance rfl nd PyProof.Rows.boot_dict (fun H1 Q q => ce_nm 0 q) (ty y5) (by decide +kernel : kitB "dict" "dict" = some true)) fun _ => pd_one (PD.is (pd_eq hr.units (pd_lenK nb rfl (fun H1 Q q => ce_nm 0 q) hK) (pd_lenK nb rfl (fun H1 Q q => ce_nm 1 q) hK) rfl rfl) rfl)) rfl) fun v H6 x6 r6 => ?_)
  cases r6
  exact q H6 (y5.trans x6)
/-- what the law's own defs promise of the kinds -/
structure PrC (P : Program) (w : World) (K : PySem.W.Frag) (mg : Str → Option Value) (base : Heap) (CK CG CM gF : Addr) (fdF : FuncData) : Prop where
  nb : NoB mg
  To : ErN K mg CK CG CM
  FF : At K mg "_law_faults" s_law_faults gF fdF
  cd : Cl P w K mg base CX0 1 "_law_take" spTake
  ck : Cl P w K mg base CX0 2 "_law_kinds" (spKinds K)
  cs : Cl P w K mg base CX0 2 "_law_spoilt" (spSpoilt K)
  lp : Cl P w K mg base CX0 1 "_law_probe" (PureR K R_lp)
  pr : Cl P w K mg base CX0 2 "probe" (PureR K R_pk)
  px : Cl P w K mg base (L2.CX P w) 4 "probe" (spCKX K CK)
  ca : Cl P w K mg base CX0 6 "_law_alike" (PureR K (R_alk 5))
  cd2 : Cl P w K mg base CX0 3 "_law_alike" (spSame (SeqS (SeqS SD)))
def spProbed (T : List (Addr × Str)) : Sp := fun vs H Q _ => ∃ b : Addr, vs = [.ref b] ∧ PotAt H b ∧ LamX.Tabs T H ∧ ∀ H', ExM (Ma b) H H' → PotAt H' b → LamX.Tabs T H' → Q (.bl true) H'
theorem cl_law_probed {f gF : Addr} {fd fdF : FuncData} {cdv : Value} {T : List (Addr × Str)} (F : FunC K mg "_law_probed" s_law_probed f fd cdv) (lb : LamB mg base T cdv ((PyProof.Rows.envOfC "_law_probed" (defScope s_law_probed) 0 f cdv).qual ++ "<lambda>")) (C : PrC P w K mg base CK CG CM gF fdF) : Cl P w K mg base CX0 9 "_law_probed" (spProbed T) := by
  refine ⟨f, fd, _, F.ok sc_law_probed (fun vs H Q E h => ?_) (fun A outer s H vs Q E hr h => ?_), F.gl, F.kp, F.fn.binds fun _ _ _ _ _ _ us hl => match us, hl with | [_], _ => rfl⟩
  · obtain ⟨b, rfl, _⟩ := h
    rfl
  obtain ⟨b, rfl, hb, hT, q⟩ := h
  have nb := C.nb
  refine b_cons (cs_set (i := 1) sc_law_probed.nd rfl (by first | exact .inl rfl | exact .inr rfl) (ce_take C.cd hr (by decide) rfl (fun H1 Q hq => ce_nm 0 hq) pd_int hb (by decide) (by decide +kernel) fun z H1 z0 z1 e1 hb1 => ?_))
  obtain ⟨n, rfl⟩ : ∃ n : Nat, z = (n : Nat) := ⟨z.toNat, by omega⟩
  have hn : n < 64 := by omega
  refine b_cons (cs_set (i := 2) sc_law_probed.nd rfl (by first | exact .inl rfl | exact .inr rfl) (ce_call C.ck hr (by decide) rfl (ca_cons (ce_nm 0 (ca_cons (ce_nm 1 (ca_nil ⟨b, n, rfl, hn, hb1, fun pk ks H2 hpk e2 hb2 hk2 pm => ?_⟩)))))))
  obtain ⟨_, k1, k2, k3⟩ := kindsK_ok ⟨n, hn⟩
  have k1 : (kindsL n).Nodup := k1
  have k2 : (kindsL n).length ≤ 6 := k2
  have k3 : ∀ k ∈ kindsL n, k ∈ ordK := k3
  have hk : ∀ k ∈ ks, k ∈ ordK := fun k h => k3 k (pm.mem_iff.mp h)
  have hnd : ks.Nodup := pm.nodup_iff.mpr k1
  have hl : ks.length ≤ 6 := by rw [pm.length_eq]; exact k2
  obtain ⟨er, ep⟩ := perm_row pm
  have e02 := e1.trans e2
  have bk : b ≠ pk := hb1.ne hpk
  have rk2 : ∀ {H' : Hp}, H' pk = some (.lst (ks.map V.str)) → Rp K M0 H' (.ref pk) (strsD ks) := fun h => .lst (fun z => z) (.inl h) (RpAll.strs ks)
  have due : ∀ tp : Bool, R_pk [sqD tp (ks.map PyData.str)] (spotD n) := fun tp => ⟨tp, ks, hk, hnd, by omega, rfl, by rw [er, ep]; rfl⟩
  refine b_cons (cs_set (i := 3) sc_law_probed.nd rfl (by first | exact .inl rfl | exact .inr rfl) (ce_fd (M := M0) alive0 (fd_listOf rfl nb.list (nm 2 (rk2 hk2)) rfl) fun ph wh H3 hph x3 h3 r3 => ?_))
  have rh3 : Rp K M0 H3 (.ref ph) (strsD ks) := .lst (fun z => z) (.inl h3) r3
  have hk3 := x3 _ _ hk2
  have sh := shaped_ks hk
  refine b_cons (s_if (M := M0) (k := false) alive0 (TD.is (WD.td (wd_or (k1 := false) (k2 := false) (td_not (k := true) (td_val (pd_callC C.ca hr (by decide) rfl (ad_cons (pd_callC C.pr hr (by decide) rfl (ad_cons (nm 3 rh3) ad_nil) (due false)) (ad_cons (pd_callC C.lp hr (by decide) rfl (ad_cons (nm 1 (.int (n : Nat))) ad_nil) ⟨n, hn, rfl, rfl⟩) ad_nil)) ⟨_, rfl, alk_up (by decide) (spot_alk n), rfl⟩))) fun _ => wd_or1 (TD.is (td_ne hr.units (nm 3 rh3) (nm 2 (rk2 hk3)) sh sh) (by rw [SeqAt.eqv_refl _ (SeqAt.canLay_of_shaped sh)]; rfl)))) rfl) (fun k => by cases k) (fun _ H4 x4 => b_nil ?_))
  have e04 := (e02.trE x3).trE x4
  have hb4 := (hb2.ex x3).ex x4
  have hk4 := x4 _ _ hk3
  refine b_cons (cs_set (i := 4) sc_law_probed.nd rfl (by first | exact .inl rfl | exact .inr rfl) (ce_call C.cs hr (by decide) rfl (ca_cons (ce_nm 0 (ca_cons (ce_nm 2 (ca_nil ⟨b, pk, ks, rfl, hb4, hk4, bk.symm, hk, hl, fun v5 H5 e5 hb5 bad5 => ?_⟩)))))))
  have e05 := e04.trans e5
  have hk5 := e5 _ _ bk.symm hk4
  have T5 : LamX.Tabs T H5 := Tabs.exS hT e05 hb.lists
  -- the rest, once the fault is told
  have rest : ∀ H8, ExM M0 H5 H8 → LamX.Tabs T H8 → wB (cxOf CX0 P w K mg base n_law_probed "_law_probed" (defScope s_law_probed) f cdv A outer s H E).nox ((defBody s_law_probed).drop 6) { nx := fun _ H' => Q .non H', rt := Q } [some (.ref b), some (.int (n : Nat)), some (.ref pk), some (.ref ph), some v5] H8 := by
    intro H8 m8 T8
    have hk8 := m8 _ _ hk5 (fun z => z) (fun _ z => by cases z)
    refine b_cons (s_ret (M := M0) alive0 (pd_callC C.ca hr (by decide) rfl (ad_cons (pd_callC C.pr hr (by decide) rfl (ad_cons (pd_tupleOf rfl nb.tuple (nm 2 (rk2 hk8)) rfl) ad_nil) (due true)) (ad_cons (pd_callC C.lp hr (by decide) rfl (ad_cons (nm 1 (.int (n : Nat))) ad_nil) ⟨n, hn, rfl, rfl⟩) ad_nil)) ⟨_, rfl, alk_up (by decide) (spot_alk n), rfl⟩) fun v9 H9 x9 r9 => ?_)
    cases r9
    exact q H9 (fun a o h nn nt => (m8.trans (ExM.of x9)) a o (e05 a o nn h) (fun z => z) nt) ((hb5.m0 m8).ex x9) (T8.ext x9)
  have sK : SeqAt.shaped (.str ("kinds" : Str)) = true := by decide +kernel
  have bk5 := bad5.bad
  rcases bad5 with ⟨d, rd, no, ak⟩ | ⟨A0, rfl, hA0⟩
  · refine b_cons (cs_if (ct_not (ct_val (ce_call C.ca hr (by decide) rfl (ca_cons (ce_faults (k := 6) C.FF nb C.To lb hr rfl (LamX.lamS_by (by show LamX.lamSB (defScope s_law_probed) _ = true; decide +kernel)) rfl (fun _ _ _ _ _ => rfl) T5 fun H6 y6 t6 l9 H7 hl6 y7 h7 A2 outer2 s2 H02 f2 c2 hr2 => ?_))))))
    have m57 : ExM M0 H5 H7 := (exM_ofN y6).trans (.of y7)
    refine ce_callX (W := fun cls d _ H' => FX CK CG l9 _ cls d H') C.px hr2 (by decide) rfl (takes_of rfl rfl rfl rfl) (ca_cons (ce_nm 4 (ca_nil ⟨v5, rfl, bk5.m0 m57, fun de H8 hde y8 h8 => .inl ⟨rfl, de, _, rfl, h8, y8 _ _ h7, fun p9 H9 hp9 k9 hp9 hl9 => ?_⟩⟩)))
    have y69 : Evl.Ex H6 H9 := fun a o h => k9 a o (y8 _ _ (y7 _ _ h)) (ne_of_none h hl6)
    have m9 : ExM M0 H5 H9 := (exM_ofN y6).trans (.of y69)
    have rd9 := rd.mono (fun _ z => z) m9
    refine ca_cons (ce_pd (M := M0) (d := .list [.tuple [.str "kinds", d]]) alive0 (FD.pd (fd_lst (ad_cons (pd_tup (ad_cons pd_str (ad_cons (nm 4 rd9) ad_nil)) (by simp)) ad_nil) (by simp))) fun vA HA xA rA => ca_nil ⟨M0, _, _, alive0, .cons ((Rp.lst (M := M0) (fun z => z) (.inl hl9) (.cons (.tup (fun z => z) (.inl hp9) (.cons (.str _) (.cons rd9 .nil))) .nil)).mono (fun _ z => z) (.of xA)) (.cons rA .nil), ⟨_, rfl, alk_pair sK ak, rfl⟩, fun vB HB xB rB => ?_⟩)
    cases rB
    refine ⟨true, rfl, ?_⟩
    show (if (false : Bool) = true then _ else _)
    rw [if_neg (by decide)]
    exact b_nil (rest HB (m9.trans (.of (xA.trans xB))) ((t6.ext y69).ext (xA.trans xB)))
  · refine b_cons (cs_if (ct_not (ct_val (ce_call C.cd2 hr (by decide) rfl (ca_cons (ce_faults (k := 6) C.FF nb C.To lb hr rfl (LamX.lamS_by (by show LamX.lamSB (defScope s_law_probed) _ = true; decide +kernel)) rfl (fun _ _ _ _ _ => rfl) T5 fun H6 y6 t6 l9 H7 hl6 y7 h7 A2 outer2 s2 H02 f2 c2 hr2 => ?_))))))
    have m57 : ExM M0 H5 H7 := (exM_ofN y6).trans (.of y7)
    refine ce_callX (W := fun cls d _ H' => FX CK CG l9 _ cls d H') C.px hr2 (by decide) rfl (takes_of rfl rfl rfl rfl) (ca_cons (ce_nm 4 (ca_nil ⟨(.ref A0), rfl, bk5.m0 m57, fun de H8 hde y8 h8 => .inl ⟨rfl, de, _, rfl, h8, y8 _ _ h7, fun p9 H9 hp9 k9 hp9 hl9 => ?_⟩⟩)))
    have y69 : Evl.Ex H6 H9 := fun a o h => k9 a o (y8 _ _ (y7 _ _ h)) (ne_of_none h hl6)
    have m9 : ExM M0 H5 H9 := (exM_ofN y6).trans (.of y69)
    have hA9 := m9 _ _ hA0 (fun z => z) (fun _ z => by cases z)
    refine ca_cons (ce_lst (ca_cons (ce_tup (ca_cons (ce_str (ca_cons (ce_nm 4 (ca_nil ⟨(by show 2 ≤ 1000; decide), fun pt hpt => ca_nil ⟨(by show 1 ≤ 1000; decide), fun pl hpl => ?_⟩⟩))))))))
    have tl : pt ≠ pl := fun e => by
      rw [← e, upd_same] at hpl
      cases hpl
    have xx : Evl.Ex H9 (upd (upd H9 pt (.tup [.str "kinds", .ref A0])) pl (.lst [.ref pt])) := (Evl.Ex.new hpt).trans (Evl.Ex.new hpl)
    refine ca_nil ⟨_, _, rfl, pair_seq (xx _ _ hl9) (xx _ _ hp9) upd_same (by rw [upd_ne tl, upd_same]) (.inl ⟨_, rfl, rfl, sK⟩) (.inr ⟨A0, rfl, rfl, xx _ _ hA9⟩), fun HB xB => ⟨true, rfl, ?_⟩⟩
    show (if (false : Bool) = true then _ else _)
    rw [if_neg (by decide)]
    exact b_nil (rest HB (m9.trans (.of (xx.trans xB))) ((t6.ext y69).ext (xx.trans xB)))
end
end YK

namespace YK
open PySem PySem.Spec PyProof.Rows L2 GV
/-! ### the best probe of the log, and its lines -/
def GoodL (ls : List Ln) : Prop := ∀ l ∈ ls, RowL l.row ∧ l.p + 1 < l.row.length
def dueD (ls : List Ln) : PyData := if (fitN ls 0).length < 2 then .none else spotD (bestH (fitN ls 0))
theorem due_alk (ls : List Ln) : alk 2 (dueD ls) := by
  unfold dueD
  split
  · exact .inl rfl
  · exact spot_alk _
theorem kept_alk {ls : List Ln} (h : GoodL ls) (hl : ls.length ≤ 1000) : alk 3 (.list (ls.map lnD)) := .inr ⟨false, _, rfl, by rw [List.length_map]; omega, fun e he => by
  obtain ⟨l, hm, rfl⟩ := List.mem_map.mp he
  have h40 := (h l hm).1.1
  refine .inr ⟨true, _, rfl, by simp, fun e he => ?_⟩
  simp only [List.mem_cons, List.not_mem_nil, or_false] at he
  rcases he with rfl | rfl | rfl
  · exact ints_alk _ 0 (by omega)
  · exact .inl rfl
  · exact .inl rfl⟩
def spBF (K : PySem.W.Frag) (CL : Addr) (T : List (Addr × Str)) : Sp := fun vs H Q _ => ∃ (g l1 l2 a : Addr) (ls : List Ln), vs = [.ref g, .ref a, .int (bestN ls : Nat)] ∧ LogAt K CL H g l1 l2 ls ∧ LinesAt K H a ls ∧ GoodL ls ∧ ls.length ≤ 100 ∧ LamX.Tabs T H ∧ ∀ H', ExM M0 H H' → LamX.Tabs T H' → Q (.bl true) H'
section
variable {X : Cx} {CL CN CH : Addr} {σ : St} {H : Hp} {o e e1 e2 : Expr} {pos apos p : Pos} {j : Nat} {g l1 l2 : Addr} {ls : List Ln} {pl : Sem Bool}
theorem fd_lines (L : LogM X.prog X.w X.K X.mg X.base CL CN CH) (hr : Room j X.A) (hj : 1 ≤ j) (a : LogAt X.K CL H g l1 l2 ls) (hl : ls.length ≤ 1000) (ho : ∀ H2 (Q : VK), Q (.ref g) H2 → wE X o σ H2 Q)
    (hev : eval (.Call (.Attribute o "lines" apos) [] [] pos) X.env = (do
      let ov ← eval o X.env
      standAt apos.atName
      let (f, first) ← holding [ov] (getMethod ov "lines" pl)
      callWith pos f first (backTo pos (starEach [] X.env)) (backToKw pos (keywordEach [] X.env))) := by rfl) : FD X M0 (.Call (.Attribute o "lines" apos) [] [] pos) σ H (ls.map lnD) := .mk fun H1 x1 al Q q => by
  have a1 := a.m0 x1
  obtain ⟨dx, hg⟩ := a1.ins
  exact ce_methH0 (pl := pl) L.B.ins.cl L.lines hr hj (ho _ _ ⟨g, dx, _, rfl, hg, rfl, g, l1, l2, ls, rfl, a1, hl, q⟩) hev
end
section
variable {P : Program} {w : World} {K : PySem.W.Frag} {mg : Str → Option Value} {base : Heap} {CL CN CH : Addr}
theorem cl_law_bf {f : Addr} {fd : FuncData} {T : List (Addr × Str)} (F : At K mg "_law_best_fits" s_law_best_fits f fd) (L : LogM P w K mg base CL CN CH) (lp : Cl P w K mg base CX0 1 "_law_probe" (PureR K R_lp)) (ca : Cl P w K mg base CX0 6 "_law_alike" (PureR K (R_alk 5))) (bp : Cl P w K mg base CX0 8 "best_probe" (spBP K CL T)) : Cl P w K mg base CX0 9 "_law_best_fits" (spBF K CL T) := by
  refine ⟨f, fd, _, F.fn.ok sc_law_best_fits (fun vs H Q E h => ?_) (fun cdv A outer sh H vs Q E hr h => ⟨_, wB.ps, ?_⟩), F.gl, F.fn.kp, F.fn.binds fun _ _ _ _ _ _ us hl => match us, hl with | [_, _, _], _ => rfl⟩
  · obtain ⟨g, l1, l2, a, ls, rfl, _⟩ := h
    rfl
  obtain ⟨g, l1, l2, a, ls, rfl, lg, la, gd, hl, hT, q⟩ := h
  have nb := L.nb
  have fin : ∀ (vd : V) (H1 : Hp), Evl.Ex H H1 → Rp K M0 H1 vd (dueD ls) → wB (cxOf CX0 P w K mg base n_law_best_fits "_law_best_fits" (defScope s_law_best_fits) f cdv A outer sh H E).nox ((defBody s_law_best_fits).drop 2) { nx := fun _ H' => Q .non H', rt := Q } [some (.ref g), some (.ref a), some (.int (bestN ls : Nat)), some vd, none, none] H1 := by
    intro vd H1 x1 rd
    have la1 := la.ex x1
    refine b_cons (s_setMA (M := M0) (i := 4) line_inj lnD (l := ls) (t := .one 5) (own := [("line", 5)]) rfl sc_law_best_fits.nd (by exact src_list (nm 1 la1.rp)) (blkOk_by (N := n_law_best_fits) (sc := defScope s_law_best_fits) (by decide +kernel)) (fun _ _ _ _ _ => pg_name (i := 5) sc_law_best_fits.nd rfl (.inl rfl)) (fun _ _ => trivial) ?_ (by omega) ?_ alive0 rfl rfl rfl fun pk wk H2 hpk x2 h2 r2 => ?_)
    · rintro M H d σ' ⟨_, _, rfl⟩
      rfl
    · rintro s0 H0 C cl fp M' H' l σ' hM lift hm ⟨v', rv, rfl⟩
      exact pd_tup (ad_cons (pd_ix (nm 5 rv) pd_int (d := tintsD l.row) rfl) (ad_cons (pd_ix (nm 5 rv) pd_int (d := natD l.p) rfl) (ad_cons (pd_ix (nm 5 rv) pd_int (d := .bool l.d) rfl) ad_nil))) (by simp)
    have rk : Rp K M0 H2 (.ref pk) (.list (ls.map lnD)) := .lst (fun z => z) (.inl h2) r2
    have x12 := x1.trans x2
    have lg2 := lg.ex x12
    have rd2 := rd.mono (fun _ z => z) (ExM.of x2)
    by_cases k : (fitN ls 0).length < 2
    · have hd : dueD ls = .none := if_pos k
      refine b_cons (cs_ret (ce_and (ce_call ca hr (by decide) rfl (ca_cons (ce_call bp hr (by decide) rfl (ca_cons (ce_nm 0 (ca_nil ⟨g, l1, l2, ls, rfl, lg2, by omega, hT.ext x12, fun _ H3 e3 t3 => ?_, fun z => by omega⟩))))))))
      have rd3 := rd2.mono (fun _ z => z) e3
      refine ca_cons (ce_nm 3 (ca_nil ⟨M0, [dueD ls, dueD ls], _, alive0, .cons (by rw [hd]; exact .non) (.cons rd3 .nil), ⟨_, rfl, alk_up (by decide) (due_alk ls), rfl⟩, fun vB HB xB rB => ?_⟩))
      cases rB
      refine ⟨true, rfl, fun _ => ?_, fun z => by cases z⟩
      have mB : ExM M0 H2 HB := e3.trans (.of xB)
      refine ce_one (ce_call ca hr (by decide) rfl (ca_cons (ce_fd (M := M0) alive0 (fd_lines L hr (by decide) (lg2.m0 mB) (by omega) (fun H2 Q q => ce_nm 0 q)) fun pl wl HC hpl xC hC rC => ca_cons (ce_nm 4 (ca_nil ⟨M0, [.list (ls.map lnD), .list (ls.map lnD)], _, alive0, .cons (.lst (fun z => z) (.inl hC) rC) (.cons (rk.mono (fun _ z => z) (mB.trans (.of xC))) .nil), ⟨_, rfl, alk_up (by decide) (kept_alk gd (by omega)), rfl⟩, fun vD HD xD rD => ?_⟩)))))
      cases rD
      exact q HD ((ExM.of x12).trans (mB.trans (.of (xC.trans xD)))) (t3.ext (xB.trans (xC.trans xD)))
    · have hd : dueD ls = spotD (bestH (fitN ls 0)) := if_neg k
      refine b_cons (cs_ret (ce_and (ce_call ca hr (by decide) rfl (ca_cons (ce_call bp hr (by decide) rfl (ca_cons (ce_nm 0 (ca_nil ⟨g, l1, l2, ls, rfl, lg2, by omega, hT.ext x12, fun z => by omega, fun _ v3 H3 e3 t3 r3 => ?_⟩))))))))
      have rd3 := rd2.mono (fun _ z => z) e3
      refine ca_cons (ce_nm 3 (ca_nil ⟨M0, [dueD ls, dueD ls], _, alive0, .cons (by rw [hd]; exact r3) (.cons rd3 .nil), ⟨_, rfl, alk_up (by decide) (due_alk ls), rfl⟩, fun vB HB xB rB => ?_⟩))
      cases rB
      refine ⟨true, rfl, fun _ => ?_, fun z => by cases z⟩
      have mB : ExM M0 H2 HB := e3.trans (.of xB)
      refine ce_one (ce_call ca hr (by decide) rfl (ca_cons (ce_fd (M := M0) alive0 (fd_lines L hr (by decide) (lg2.m0 mB) (by omega) (fun H2 Q q => ce_nm 0 q)) fun pl wl HC hpl xC hC rC => ca_cons (ce_nm 4 (ca_nil ⟨M0, [.list (ls.map lnD), .list (ls.map lnD)], _, alive0, .cons (.lst (fun z => z) (.inl hC) rC) (.cons (rk.mono (fun _ z => z) (mB.trans (.of xC))) .nil), ⟨_, rfl, alk_up (by decide) (kept_alk gd (by omega)), rfl⟩, fun vD HD xD rD => ?_⟩)))))
      cases rD
      exact q HD ((ExM.of x12).trans (mB.trans (.of (xC.trans xD)))) (t3.ext (xB.trans (xC.trans xD)))
  have dueP : (if 0 < bestN ls then spotD (bestN ls) else .none) = dueD ls := by
    unfold dueD bestN
    split
    · rfl
    · rw [if_pos (Nat.lt_of_lt_of_le Nat.zero_lt_one (bestH_rng _).1)]
  refine b_cons (s_set (M := M0) (i := 3) (d := .none) alive0 sc_law_best_fits.nd rfl (by first | exact .inl rfl | exact .inr rfl) pd_non fun v1 H1 x1 r1 => ?_)
  refine b_cons (s_if (M := M0) (k := decide (0 < bestN ls)) alive0 (TD.is (td_gt (nm 2 (.int (bestN ls : Nat))) pd_int) (decide_eq_decide.mpr (by omega))) (fun k H2 x2 => ?_) (fun k H2 x2 => b_nil (fin v1 H2 (x1.trans x2) ?_)))
  · have k := of_decide_eq_true k
    rw [if_pos k] at dueP
    refine b_cons (s_set (M := M0) (i := 3) (d := spotD (bestN ls)) alive0 sc_law_best_fits.nd rfl (by first | exact .inl rfl | exact .inr rfl) (pd_callC lp hr (by decide) rfl (ad_cons (nm 2 (.int (bestN ls : Nat))) ad_nil) ⟨bestN ls, bestN_lt ls, rfl, rfl⟩) fun v3 H3 x3 r3 => b_nil (fin v3 H3 (x1.trans (x2.trans x3)) (by rw [← dueP]; exact r3)))
  · have k := of_decide_eq_false k
    rw [if_neg k] at dueP
    rw [← dueP]
    exact r1.mono (fun _ z => z) (ExM.of x2)
end
end YK

namespace YK
open PySem PySem.Spec PyProof.Rows L2 GV
/-! ### what the law holds -/
def pOk (c : Nat) : Bool := decide (pPl c + 1 < (pRow c).length) && decide ((pRow c).length ≤ 8) && (pRow c).all (fun z => decide (-1000000000000 ≤ z) && decide (z ≤ 1000000000000)) && decide (pRow c).Nodup && decide (msk (pRow c) (pPl c) = c)
theorem pOk_all : (List.range 64).all pOk = true := by decide +kernel
theorem probe_ok {K : Nat} (h : K < 64) : pPl K + 1 < (pRow K).length ∧ (pRow K).length ≤ 8 ∧ RowL (pRow K) ∧ msk (pRow K) (pPl K) = K := by
  have := List.all_eq_true.mp pOk_all K (List.mem_range.mpr h)
  unfold pOk at this
  simp only [Bool.and_eq_true, decide_eq_true_eq] at this
  obtain ⟨⟨⟨⟨h1, h2⟩, h3⟩, h4⟩, h5⟩ := this
  exact ⟨h1, h2, ⟨by omega, fun z hz => by
    have := List.all_eq_true.mp h3 z hz
    simp only [Bool.and_eq_true, decide_eq_true_eq] at this
    exact this, h4⟩, h5⟩
theorem PotAt.exS {S : Addr → Prop} {H H' : Hp} {b : Addr} (h : PotAt H b) (e : ExS S H H') (n : ¬ S b) : PotAt H' b := let ⟨r, c, s, hh⟩ := h; ⟨r, c, s, e _ _ n hh⟩
theorem ExB.exS {b : Addr} {H H' : Hp} (e : ExB b H H') : ExS (Ma b) H H' := fun a o n h => e a o n h
theorem ne_some {H : Hp} {a p : Addr} (h : ∃ o, H a = some o) (hp : H p = none) : a ≠ p := fun e => by
  obtain ⟨o, h⟩ := h
  rw [e, hp] at h
  cases h
theorem PotAt.some {b : Addr} {H : Hp} (h : PotAt H b) : ∃ o, H b = some o := let ⟨_, _, _, e⟩ := h; ⟨_, e⟩
theorem LinesAt.some {K : PySem.W.Frag} {a : Addr} {H : Hp} {ls : List Ln} (h : LinesAt K H a ls) : ∃ o, H a = some o := let ⟨_, e, _⟩ := h; ⟨_, e⟩
def Off (K : PySem.W.Frag) (a0 : Addr) (ns : List Int) (x : Addr) : Prop := (∀ H', SqL K H' a0 (ns.map V.int)) ∨ a0 ≠ x
theorem ScAt.off {K : PySem.W.Frag} {H H' : Hp} {a0 : Addr} {ns : List Int} {S : Addr → Prop} (h : ScAt K M0 H a0 ns) (e : ExM S H H') (o : ∀ x, S x → Off K a0 ns x) : ScAt K M0 H' a0 ns := by
  rcases h with ⟨_, h⟩ | h
  · by_cases s : S a0
    · rcases o _ s with z | z
      · exact .inr z
      · exact absurd rfl z
    · exact .inl ⟨fun z => z, Rd.exM h s e⟩
  · exact .inr h
theorem ScAt.fresh {K : PySem.W.Frag} {H : Hp} {a0 p : Addr} {ns : List Int} (h : ScAt K M0 H a0 ns) (hp : H p = none) : Off K a0 ns p := by
  rcases h with ⟨_, h⟩ | h
  · exact .inr fun e => Rd.there h (by rw [e]; exact hp)
  · exact .inl h
structure W5 (K : PySem.W.Frag) (CL : Addr) (T : List (Addr × Str)) (H : Hp) (a0 : Addr) (ns : List Int) (b g l1 l2 a : Addr) (ls : List Ln) : Prop where
  sc : ScAt K M0 H a0 ns
  pot : PotAt H b
  lg : LogAt K CL H g l1 l2 ls
  la : LinesAt K H a ls
  t : LamX.Tabs T H
structure D5 (K : PySem.W.Frag) (a0 : Addr) (ns : List Int) (b l1 l2 a : Addr) : Prop where
  b1 : b ≠ l1
  b2 : b ≠ l2
  ba : b ≠ a
  a1 : l1 ≠ a
  a2 : l2 ≠ a
  ob : Off K a0 ns b
  o1 : Off K a0 ns l1
  o2 : Off K a0 ns l2
  oa : Off K a0 ns a
section
variable {K : PySem.W.Frag} {CL : Addr} {T : List (Addr × Str)} {H H' : Hp} {a0 b g l1 l2 a : Addr} {ns : List Int} {ls : List Ln} {S : Addr → Prop}
theorem W5.off (w : W5 K CL T H a0 ns b g l1 l2 a ls) (e : ExS S H H') (L : Lists S H) (nb : ¬ S b) (n1 : ¬ S l1) (n2 : ¬ S l2) (na : ¬ S a) (o : ∀ x, S x → Off K a0 ns x) : W5 K CL T H' a0 ns b g l1 l2 a ls :=
  ⟨YK.ScAt.off w.sc e.exM o, w.pot.exS e nb, w.lg.exM e.exM L n1 n2, w.la.exM e.exM L na, Tabs.exS w.t e L⟩
theorem W5.mono (w : W5 K CL T H a0 ns b g l1 l2 a ls) (x : Evl.Ex H H') : W5 K CL T H' a0 ns b g l1 l2 a ls :=
  ⟨w.sc.mono (fun _ z => z) (ExM.of x), w.pot.ex x, w.lg.ex x, w.la.ex x, w.t.ext x⟩
theorem W5.m0 (w : W5 K CL T H a0 ns b g l1 l2 a ls) (e : ExM M0 H H') (t : LamX.Tabs T H') : W5 K CL T H' a0 ns b g l1 l2 a ls :=
  ⟨w.sc.mono (fun _ z => z) e, w.pot.m0 e, w.lg.m0 e, w.la.m0 e, t⟩
theorem W5.head (w : W5 K CL T H a0 ns b g l1 l2 a ls) (d : D5 K a0 ns b l1 l2 a) (e : ExB b H H') (p : PotAt H' b) : W5 K CL T H' a0 ns b g l1 l2 a ls :=
  ⟨YK.ScAt.off w.sc e.exM fun x z => z ▸ d.ob, p, w.lg.exM e.exM w.pot.lists d.b1.symm d.b2.symm, w.la.exM e.exM w.pot.lists d.ba.symm, Tabs.exS w.t e w.pot.lists⟩
/-- a line is noted, or struck: the log's own lists and the law's list change -/
theorem W5.put {ls' : List Ln} (w : W5 K CL T H a0 ns b g l1 l2 a ls) (d : D5 K a0 ns b l1 l2 a) (e : ExS (fun x => x = l1 ∨ x = l2 ∨ x = a) H H') (lg : LogAt K CL H' g l1 l2 ls') (la : LinesAt K H' a ls') : W5 K CL T H' a0 ns b g l1 l2 a ls' := by
  have L : Lists (fun x => x = l1 ∨ x = l2 ∨ x = a) H := fun x z => by
    rcases z with z | z | z
    · exact w.lg.lists x (.inl z)
    · exact w.lg.lists x (.inr z)
    · exact w.la.lists x z
  refine ⟨YK.ScAt.off w.sc e.exM fun x z => ?_, w.pot.exS e fun z => ?_, lg, la, Tabs.exS w.t e L⟩
  · rcases z with rfl | rfl | rfl
    · exact d.o1
    · exact d.o2
    · exact d.oa
  · rcases z with z | z | z
    · exact d.b1 z
    · exact d.b2 z
    · exact d.ba z
end
theorem good_snoc {ls : List Ln} {l : Ln} (h : GoodL ls) (h1 : RowL l.row) (h2 : l.p + 1 < l.row.length) : GoodL (ls ++ [l]) := fun x hx => by
  rcases List.mem_append.mp hx with hx | hx
  · exact h x hx
  · cases List.mem_singleton.mp hx
    exact ⟨h1, h2⟩
theorem good_erase {ls : List Ln} (h : GoodL ls) (i : Nat) : GoodL (ls.eraseIdx i) := fun x hx => h x (List.mem_of_mem_eraseIdx hx)
structure LawC (P : Program) (w : World) (K : PySem.W.Frag) (mg : Str → Option Value) (base : Heap) (CL CN CH CK CG CM gF : Addr) (fdF : FuncData) (T : List (Addr × Str)) : Prop where
  L : LogM P w K mg base CL CN CH
  To : ErN K mg CK CG CM
  FF : At K mg "_law_faults" s_law_faults gF fdF
  box : Cl P w K mg base CX0 2 "_law_box" (spBox K)
  take : Cl P w K mg base CX0 1 "_law_take" spTake
  line : Cl P w K mg base CX0 3 "_law_line" (spLine K)
  bst : Cl P w K mg base CX0 2 "_law_best" (spBst K)
  bp : Cl P w K mg base CX0 8 "best_probe" (spBP K CL T)
  bx : Cl P w K mg base (L2.CX P w) 3 "best_probe" (spBPX K CG)
  bf : Cl P w K mg base CX0 9 "_law_best_fits" (spBF K CL T)
  pd : Cl P w K mg base CX0 9 "_law_probed" (spProbed T)
  ca : Cl P w K mg base CX0 6 "_law_alike" (PureR K (R_alk 5))
section
variable {X : Cx} {CL CN CH CK CG CM gF : Addr} {fdF : FuncData} {T : List (Addr × Str)} {σ : St} {H : Hp} {a0 b g l1 l2 a : Addr} {ns : List Int} {ls : List Ln}
/-- the log is noted a line -/
theorem ce_noted {o e1 e2 e3 : Expr} {pos apos : Pos} {pl : Sem Bool} {Q : VK} {l : Ln} {j : Nat} (L : LogM X.prog X.w X.K X.mg X.base CL CN CH) (hr : Room j X.A) (hj : 7 ≤ j) (w0 : W5 X.K CL T H a0 ns b g l1 l2 a ls) (hl : ls.length ≤ 100) (ho : ∀ H2 (Q : VK), Q (.ref g) H2 → wE X o σ H2 Q)
    (h1 : PD X M0 e1 σ H (tintsD l.row)) (h2 : PD X M0 e2 σ H (natD l.p)) (h3 : PD X M0 e3 σ H (.bool l.d)) (hrow : RowL l.row) (hpl : l.p + 1 < l.row.length)
    (q : ∀ H1 H2, Evl.Ex H H1 → ExS (Two l1 l2) H1 H2 → LogAt X.K CL H2 g l1 l2 (ls ++ [l]) → Q .non H2)
    (hs : starEach (e1 :: [e2, e3]) X.env = (false, eval e1 X.env) :: starEach [e2, e3] X.env := by rfl) (hs2 : starEach (e2 :: [e3]) X.env = (false, eval e2 X.env) :: starEach [e3] X.env := by rfl) (hs3 : starEach (e3 :: []) X.env = (false, eval e3 X.env) :: starEach [] X.env := by rfl) (hp : (backTo pos (starEach [e2, e3] X.env)).any (·.1) = false := by rfl)
    (hev : eval (.Call (.Attribute o "note" apos) (e1 :: [e2, e3]) [] pos) X.env = (do
      let ov ← eval o X.env
      standAt apos.atName
      let (f, first) ← holding [ov] (getMethod ov "note" pl)
      callWith pos f first (backTo pos (starEach (e1 :: [e2, e3]) X.env)) (backToKw pos (keywordEach [] X.env))) := by rfl) : wE X (.Call (.Attribute o "note" apos) [e1, e2, e3] [] pos) σ H Q := by
  obtain ⟨dx, hg⟩ := w0.lg.ins
  refine ce_methH (pl := pl) L.B.ins.cl L.note hr hj (ho _ _ ⟨g, dx, _, rfl, hg, rfl, ca_cons (h1.run H (ExM.refl H) alive0 _ fun v4 H4 x4 r4 => ca_cons (h2.run H4 (.of x4) alive0 _ fun v5 H5 x5 r5 => ca_cons (h3.run H5 ((ExM.of x4).trans (.of x5)) alive0 _ fun v6 H6 x6 r6 => ca_nil ?_) hs3) hs2) hs⟩) hs hp hev
  cases r5
  cases r6
  have x46 := x4.trans (x5.trans x6)
  exact ⟨g, l1, l2, v4, ls, l, rfl, w0.lg.ex x46, r4.mono (fun _ z => z) (.of (x5.trans x6)), hrow, hpl, by omega, fun H7 e7 lg7 => q H6 H7 x46 e7 lg7⟩
/-- the law's best of its lines -/
theorem ce_bfit {p1 p2 : Pos} {e1 e2 : Expr} {Q : VK} {j : Nat} (C : LawC X.prog X.w X.K X.mg X.base CL CN CH CK CG CM gF fdF T) (hr : Room j X.A) (hj : 9 ≤ j) (hg : Gl X "_law_best_fits") (w0 : W5 X.K CL T H a0 ns b g l1 l2 a ls) (gd : GoodL ls) (hl : ls.length ≤ 100)
    (h1 : ∀ H2 (Q : VK), Q (.ref g) H2 → wE X e1 σ H2 Q) (h2 : ∀ H2 (Q : VK), Q (.ref a) H2 → wE X e2 σ H2 Q) {e3 : Expr} (h3 : ∀ (Q : VK), (∀ H2, Evl.Ex H H2 → Q (.int (bestN ls : Nat)) H2) → wE X e3 σ H Q)
    (q : ∀ H', ExM M0 H H' → LamX.Tabs T H' → Q (.bl true) H')
    (hs : starEach (e1 :: [e2, e3]) X.env = (false, eval e1 X.env) :: starEach [e2, e3] X.env := by rfl) (hs2 : starEach (e2 :: [e3]) X.env = (false, eval e2 X.env) :: starEach [e3] X.env := by rfl) (hs3 : starEach (e3 :: []) X.env = (false, eval e3 X.env) :: starEach [] X.env := by rfl) (hp : (backTo p2 (starEach [e2, e3] X.env)).any (·.1) = false := by rfl) : wE X (.Call (.Name "_law_best_fits" p1) [e1, e2, e3] [] p2) σ H Q := by
  refine ce_call C.bf hr hj hg (ca_cons (h1 _ _ (ca_cons (h2 _ _ (ca_cons (h3 _ fun H2 x2 => ca_nil ?_) hs3)) hs2)) hs) (by decide) hs hp
  have w2 := w0.mono x2
  exact ⟨g, l1, l2, a, ls, rfl, w2.lg, w2.la, gd, hl, w2.t, fun H' e t => q H' ((ExM.of x2).trans e) t⟩
theorem ce_bst {p1 p2 : Pos} {e : Expr} {Q : VK} {j : Nat} (C : LawC X.prog X.w X.K X.mg X.base CL CN CH CK CG CM gF fdF T) (hr : Room j X.A) (hj : 2 ≤ j) (hg : Gl X "_law_best") (w0 : W5 X.K CL T H a0 ns b g l1 l2 a ls) (hl : ls.length ≤ 100) (h2 : ∀ H2 (Q : VK), Q (.ref a) H2 → wE X e σ H2 Q) (q : ∀ H2, Evl.Ex H H2 → Q (.int (bestN ls : Nat)) H2)
    (hs : starEach (e :: []) X.env = (false, eval e X.env) :: starEach [] X.env := by rfl) (hp : (backTo p2 (starEach [] X.env)).any (·.1) = false := by rfl) : wE X (.Call (.Name "_law_best" p1) [e] [] p2) σ H Q :=
  ce_call C.bst hr hj hg (ca_cons (h2 _ _ (ca_nil ⟨a, ls, rfl, w0.la, by omega, q⟩)) hs) (by decide) hs hp
/-- lines.append(line) behind log.note(..) -/
theorem W5.snoc {K : PySem.W.Frag} {H H1 H2 : Hp} {lv : V} {l : Ln} {ws : List V} (w0 : W5 K CL T H a0 ns b g l1 l2 a ls) (d : D5 K a0 ns b l1 l2 a) (x : Evl.Ex H H1) (e : ExS (Two l1 l2) H1 H2) (lg : LogAt K CL H2 g l1 l2 (ls ++ [l])) (hw : H2 a = some (.lst ws)) (hr : RpAll K M0 H2 ws (ls.map lineD)) (rl : Rp K M0 H2 lv (lineD l)) : W5 K CL T (upd H2 a (.lst (ws ++ [lv]))) a0 ns b g l1 l2 a (ls ++ [l]) := by
  have e8 : ExS (Ma a) H2 (upd H2 a (.lst (ws ++ [lv]))) := ExS.upd rfl
  have L7 : Lists (Ma a) H2 := lists1 hw
  have la8 : LinesAt K (upd H2 a (.lst (ws ++ [lv]))) a (ls ++ [l]) := ⟨_, upd_same, by
    rw [List.map_append]
    exact (flat_ext hr (flats_map flat_line ls) L7 e8.exM).append (.cons (flat_ext1 rl (flat_line l) L7 e8.exM) .nil)⟩
  have lg8 := lg.exM e8.exM L7 d.a1 d.a2
  exact (w0.mono x).put d ((e.mono fun y z => z.elim .inl fun z => .inr (.inl z)).trans (e8.mono fun y z => .inr (.inr z))) lg8 la8
end
end YK

namespace YK
open PySem PySem.Spec PyProof.Rows L2 GV
def lawLoop : List Stmt := match (defBody s_law)[9]? with
  | some (Stmt.For _ _ b _ _) => b
  | _ => []
def lawSteps : List Stmt := match (defBody s_law)[12]? with
  | some (Stmt.For _ _ b _ _) => b
  | _ => []
abbrev sg (a0 b : Addr) (sc : Nat) (mode : Int) (cn st : Nat) (xk : Option V) (g a : Addr) (x9 x10 x11 x12 x13 x14 : Option V) : St := [some (.ref a0), some (.ref b), some (.int (sc : Nat)), some (.int mode), some (.int (cn : Nat)), some (.int (st : Nat)), xk, some (.ref g), some (.ref a), x9, x10, x11, x12, x13, x14, none]
section
variable {P : Program} {w : World} {K : PySem.W.Frag} {mg : Str → Option Value} {base : Heap} {CL CN CH CK CG CM gF : Addr} {fdF : FuncData} {T : List (Addr × Str)}
abbrev XL (P : Program) (w : World) (K : PySem.W.Frag) (mg : Str → Option Value) (base : Heap) (f : Addr) (cdv : Value) (A : Around) (outer : List Env) (sh : Shared) (H : Hp) (E : XK) : Cx := (cxOf CX0 P w K mg base n_law "law" (defScope s_law) f cdv A outer sh H E).nox
theorem law_turn {f a0 b g l1 l2 a : Addr} {cdv : Value} {A : Around} {outer : List Env} {sh : Shared} {H0 H' : Hp} {E : XK} {D : Ends} {script : List Int} {sc cn st i : Nat} {mode : Int} {ls : List Ln} {x9 x10 x11 x12 x13 x14 : Option V} (C : LawC P w K mg base CL CN CH CK CG CM gF fdF T) (hr : Room 10 (XL P w K mg base f cdv A outer sh H0 E).A) (d : D5 K a0 script b l1 l2 a)
    (w0 : W5 K CL T H' a0 script b g l1 l2 a ls) (gd : GoodL ls) (hl : ls.length ≤ 90)
    (q : ∀ l x9 x10 H2, W5 K CL T H2 a0 script b g l1 l2 a (ls ++ [l]) → GoodL (ls ++ [l]) → D.nx (sg a0 b sc mode cn st (some (.int (i : Nat))) g a x9 x10 x11 x12 x13 x14) H2) :
    wB (XL P w K mg base f cdv A outer sh H0 E) lawLoop D (sg a0 b sc mode cn st (some (.int (i : Nat))) g a x9 x10 x11 x12 x13 x14) H' := by
  refine b_cons (cs_set (i := 9) sc_law.nd rfl (by first | exact .inl rfl | exact .inr rfl) (ce_call C.box hr (by decide) rfl (ca_cons (ce_nm 0 (ca_cons (ce_pd (M := M0) (d := natD (i + 4)) alive0 (PD.is (pd_add (nm 6 (.int (i : Nat))) pd_int) (congrArg PyData.int (by omega))) fun v1 H1 x1 rv1 => ca_nil ⟨M0, a0, script, i + 4, by cases rv1; rfl, alive0, (w0.mono x1).sc, fun p H2 hp x2 pot2 => ?_⟩))))))
  have w1 := w0.mono x1
  have w2 := w1.mono x2
  have np : ¬ Ma p b ∧ ¬ Ma p l1 ∧ ¬ Ma p l2 ∧ ¬ Ma p a := ⟨ne_some w1.pot.some hp, ne_some w1.lg.some1 hp, ne_some w1.lg.some2 hp, ne_some w1.la.some hp⟩
  obtain ⟨np1, np2, np3, np4⟩ := np
  have op : ∀ x, Ma p x → Off K a0 script x := fun x z => z ▸ ScAt.fresh w1.sc hp
  -- line
  refine b_cons (cs_set (i := 10) sc_law.nd rfl (by first | exact .inl rfl | exact .inr rfl) (ce_call C.line hr (by decide) rfl (ca_cons (ce_nm 9 (ca_cons (ce_nm 2 (ca_cons (ce_nm 3 (ca_nil ⟨p, sc, mode, rfl, pot2, fun lv l H3 e3 pot3 rl hrow hpl => ?_⟩)))))))))
  have w3 := w2.off e3.exS pot2.lists np1 np2 np3 np4 op
  -- the log
  refine b_cons (cs_expr (ce_noted C.L hr (by decide) w3 (by omega) (fun H2 Q q => ce_nm 7 q) (pd_ix (nm 10 rl) pd_int rfl) (pd_ix (nm 10 rl) pd_int rfl) (pd_ix (nm 10 rl) pd_int rfl) hrow hpl fun H4 H5 x4 e5 lg5 => ?_))
  have w4 := w3.mono x4
  have rl5 : Rp K M0 H5 lv (lineD l) := flat_ext1 (rl.mono (fun _ z => z) (.of x4)) (flat_line l) w4.lg.lists e5.exM
  have la5 : LinesAt K H5 a ls := w4.la.exM e5.exM w4.lg.lists fun z => z.elim d.a1.symm d.a2.symm
  obtain ⟨ws, hw, rws⟩ := la5
  have lw : ws.length = ls.length := by rw [rws.length, List.length_map]
  refine b_cons (cs_expr (ce_append (ce_nm 8 ⟨a, ws, rfl, hw, ce_nm 10 ⟨ws, hw, by omega, ?_⟩⟩)))
  have w6 := w3.snoc d x4 e5 lg5 hw rws rl5
  have pot6 : PotAt (upd H5 a (.lst (ws ++ [lv]))) p := ((pot3.ex x4).exS e5 fun z => z.elim (fun z => np2 z.symm) (fun z => np3 z.symm)).exS (ExS.upd (S := Ma a) rfl) fun z => np4 z.symm
  have gd' := good_snoc gd hrow hpl
  have hl' : (ls ++ [l]).length ≤ 100 := by rw [List.length_append, List.length_singleton]; omega
  generalize upd H5 a (.lst (ws ++ [lv])) = H6 at w6 pot6 ⊢
  refine b_cons (cs_if (ct_w (cw_and (ct_eq hr.units (ce_take C.take hr (by decide) rfl (fun H1 Q hq => ce_nm 9 hq) pd_int pot6 (by decide) (by decide +kernel) fun z7 H7 z70 z71 e7 pot7 => ce_intC ⟨.int z7, .int 1, (Rp.int (M := M0) _).dp, (Rp.int (M := M0) _).dp, rfl, rfl, ⟨fun _ => cw_and1 (ct_not (ct_val ?_)), fun _ => ?_⟩⟩)))))
  · have w7 := w6.off e7.exS pot6.lists np1 np2 np3 np4 op
    refine ce_bfit C hr (by decide) rfl w7 gd' hl' (fun H2 Q q => ce_nm 7 q) (fun H2 Q q => ce_nm 8 q) (fun Q hq => ce_bst C hr (by decide) rfl w7 hl' (fun H2 Q q => ce_nm 8 q) hq) fun H8 e8 t8 => ⟨true, rfl, ?_⟩
    show (if (false : Bool) = true then _ else _)
    rw [if_neg (by decide)]
    exact b_nil (b_nil (q l _ _ H8 (w7.m0 e8 t8) gd'))
  · rw [if_neg (by decide)]
    exact b_nil (b_nil (q l _ _ H7 (w6.off e7.exS pot6.lists np1 np2 np3 np4 op) gd'))
theorem law_step {f a0 b g l1 l2 a : Addr} {cdv : Value} {A : Around} {outer : List Env} {sh : Shared} {H0 H' : Hp} {E : XK} {D : Ends} {script : List Int} {sc cn st i : Nat} {mode : Int} {ls : List Ln} {x9 x10 x12 x13 x14 : Option V} (C : LawC P w K mg base CL CN CH CK CG CM gF fdF T) (hr : Room 10 (XL P w K mg base f cdv A outer sh H0 E).A) (d : D5 K a0 script b l1 l2 a)
    (w0 : W5 K CL T H' a0 script b g l1 l2 a ls) (gd : GoodL ls) (hl : ls.length ≤ 90)
    (q : ∀ ls' x12 x13 H2, W5 K CL T H2 a0 script b g l1 l2 a ls' → GoodL ls' → ls'.length ≤ ls.length + 1 → D.nx (sg a0 b sc mode cn st (some (.int (i : Nat))) g a x9 x10 (some (.int (bestN ls' : Nat))) x12 x13 x14) H2) :
    wB (XL P w K mg base f cdv A outer sh H0 E) lawSteps D (sg a0 b sc mode cn st (some (.int (i : Nat))) g a x9 x10 (some (.int (bestN ls : Nat))) x12 x13 x14) H' := by
  refine b_cons (s_if (M := M0) (k := decide (0 < bestN ls)) alive0 (TD.is (td_gt (nm 11 (.int (bestN ls : Nat))) pd_int) (decide_eq_decide.mpr (by omega))) (fun k H1 x1 => ?_) (fun k H1 x1 => b_nil (b_nil (q ls _ _ H1 (w0.mono x1) gd (by omega)))))
  have k := of_decide_eq_true k
  have w1 := w0.mono x1
  have two : ¬ (fitN ls 0).length < 2 := fun z => by
    unfold bestN at k
    rw [if_pos z] at k
    exact absurd k (by decide)
  have eb : bestN ls = bestH (fitN ls 0) := if_neg two
  refine b_cons (cs_set (i := 12) sc_law.nd rfl (by first | exact .inl rfl | exact .inr rfl) (ce_call C.bp hr (by decide) rfl (ca_cons (ce_nm 7 (ca_nil ⟨g, l1, l2, ls, rfl, w1.lg, by omega, w1.t, fun z => absurd z two, fun _ tv H2 e2 t2 r2 => ?_⟩)))))
  rw [← eb] at r2
  have w2 := w1.m0 e2 t2
  have c64 := bestN_lt ls
  generalize hc : bestN ls = c at r2 c64 ⊢
  obtain ⟨p1, p2, p3, p4⟩ := probe_ok c64
  refine b_cons (s_set (M := M0) (i := 13) (d := .bool (decide (0 < c &&& sc))) alive0 sc_law.nd rfl (by first | exact .inl rfl | exact .inr rfl) (PD.is (pd_ne hr.units (pd_andN (n := c) (m := sc) (nm 11 (.int (c : Nat))) (nm 2 (.int (sc : Nat)))) pd_int rfl rfl) (congrArg PyData.bool ((congrArg (!·) (eqvN (c &&& sc) 0)).trans (nz_pos _)))) fun v3 H3 x3 r3 => ?_)
  cases r3
  have w3 := w2.mono x3
  have rt3 := r2.mono (fun _ z => z) (ExM.of x3)
  obtain ⟨l, hlr, hlp, hld⟩ : ∃ l : Ln, l.row = pRow c ∧ l.p = pPl c ∧ l.d = decide (0 < c &&& sc) := ⟨⟨_, _, _⟩, rfl, rfl, rfl⟩
  have hlm : l.m = c := by
    show msk l.row l.p = c
    rw [hlr, hlp]
    exact p4
  have hrow : RowL l.row := by rw [hlr]; exact p3
  have hpl : l.p + 1 < l.row.length := by rw [hlr, hlp]; exact p1
  have el : lineD l = .tuple [tintsD (pRow c), natD (pPl c), .bool (decide (0 < c &&& sc)), natD c] := by
    show PyData.tuple [tintsD l.row, natD l.p, .bool l.d, natD l.m] = _
    rw [hlm, hlr, hlp, hld]
  refine b_cons (cs_expr (ce_noted (l := l) C.L hr (by decide) w3 (by omega) (fun H2 Q q => ce_nm 7 q) (PD.is (pd_ix (nm 12 rt3) pd_int (d := tintsD (pRow c)) rfl) (by rw [hlr])) (PD.is (pd_ix (nm 12 rt3) pd_int (d := natD (pPl c)) rfl) (by rw [hlp])) (PD.is (nm 13 (.bl _)) (by rw [hld])) hrow hpl fun H4 H5 x4 e5 lg5 => ?_))
  have w4 := w3.mono x4
  have fs : flat (spotD c) = true := by
    show (flat (tintsD (pRow c)) && (flat (natD (pPl c)) && true)) = true
    rw [flat_row]
    rfl
  have rt5 : Rp K M0 H5 tv (spotD c) := flat_ext1 (rt3.mono (fun _ z => z) (.of x4)) fs w4.lg.lists e5.exM
  have la5 : LinesAt K H5 a ls := w4.la.exM e5.exM w4.lg.lists fun z => z.elim d.a1.symm d.a2.symm
  obtain ⟨ws, hw, rws⟩ := la5
  have lw : ws.length = ls.length := by rw [rws.length, List.length_map]
  refine b_cons (cs_expr (ce_append (ce_nm 8 ⟨a, ws, rfl, hw, ce_pd (M := M0) (d := lineD l) alive0 (PD.is (pd_tup (ad_cons (pd_ix (nm 12 rt5) pd_int (d := tintsD (pRow c)) rfl) (ad_cons (pd_ix (nm 12 rt5) pd_int (d := natD (pPl c)) rfl) (ad_cons (nm 13 (.bl _)) (ad_cons (nm 11 (.int (c : Nat))) ad_nil)))) (by simp)) el.symm) fun lv H6 x6 rl6 => ⟨ws, x6 _ _ hw, by omega, ?_⟩⟩)))
  have w7 := w3.snoc d x4 (e5.trans (ExS.of x6)) (lg5.ex x6) (x6 _ _ hw) (rws.mono (fun _ z => z) (.of x6)) rl6
  have gd' := good_snoc gd hrow hpl
  have hl1 : (ls ++ [l]).length = ls.length + 1 := by rw [List.length_append, List.length_singleton]
  have hl' : (ls ++ [l]).length ≤ 100 := by omega
  generalize upd H6 a (.lst (ws ++ [lv])) = H7 at w7 ⊢
  refine b_cons (cs_set (i := 11) sc_law.nd rfl (by first | exact .inl rfl | exact .inr rfl) (ce_bst C hr (by decide) rfl w7 hl' (fun H2 Q q => ce_nm 8 q) fun H8 x8 => ?_))
  have w8 := w7.mono x8
  refine b_cons (cs_if (ct_not (ct_val (ce_bfit C hr (by decide) rfl w8 gd' hl' (fun H2 Q q => ce_nm 7 q) (fun H2 Q q => ce_nm 8 q) (fun Q hq => ce_nm 11 (hq _ (Evl.Ex.refl _))) fun H9 e9 t9 => ⟨true, rfl, ?_⟩))))
  show (if (false : Bool) = true then _ else _)
  rw [if_neg (by decide)]
  exact b_nil (b_nil (b_nil (q _ _ _ H9 (w8.m0 e9 t9) gd' (by omega))))
end
end YK

namespace YK
open PySem PySem.Spec PyProof.Rows L2 GV
def spLaw (K : PySem.W.Frag) (T : List (Addr × Str)) : Sp := fun vs H Q _ => ∃ (a : Addr) (ns : List Int), vs = [.ref a] ∧ SqL K H a (ns.map V.int) ∧ ns.length ≤ 63 ∧ LamX.Tabs T H ∧ ∀ H', Q (.bl true) H'
abbrev DL (Q : VK) : Ends := { nx := fun _ H' => Q .non H', rt := Q }
abbrev oddB : List PyData := [.none, .list [], .tuple [], .str "log", .int 3, .bool true, .int 0, .tuple [.tuple [.int 1, .int 2], .int 0]]
theorem oddB_alk : ∀ d ∈ oddB, alkB 3 d = true := by decide +kernel
abbrev cnL : List Nat := [2, 3, 1, 4, 0, 5, 2, 8]
theorem cnL_all : ∀ n ∈ cnL, n ≤ 8 := by decide
section
variable {P : Program} {w : World} {K : PySem.W.Frag} {mg : Str → Option Value} {base : Heap} {CL CN CH CK CG CM gF : Addr} {fdF : FuncData} {T : List (Addr × Str)}
theorem law_last {f a0 b g l1 l2 a : Addr} {cdv : Value} {A : Around} {outer : List Env} {sh : Shared} {H0 H' : Hp} {E : XK} {Q : VK} {script : List Int} {sc cn st : Nat} {mode : Int} {ls : List Ln} {xk x9 x10 x11 x12 x13 x14 : Option V} (C : LawC P w K mg base CL CN CH CK CG CM gF fdF T) (hr : Room 10 (XL P w K mg base f cdv A outer sh H0 E).A) (lb : LamB mg base T cdv ((PyProof.Rows.envOfC "law" (defScope s_law) 0 f cdv).qual ++ "<lambda>")) (d : D5 K a0 script b l1 l2 a)
    (w0 : W5 K CL T H' a0 script b g l1 l2 a ls) (q : ∀ H', Q (.bl true) H') :
    wB (XL P w K mg base f cdv A outer sh H0 E) ((defBody s_law).drop 14) (DL Q) (sg a0 b sc mode cn st xk g a x9 x10 x11 x12 x13 x14) H' := by
  have nb := C.L.nb
  refine b_cons (cs_set (i := 15) sc_law.nd rfl (by first | exact .inl rfl | exact .inr rfl) (ce_ix (ce_pd (d := .list oddB) (al_pot w0.pot) (FD.pd (fd_lst (ad_cons pd_non (ad_cons (FD.pd (fd_lst ad_nil (by simp))) (ad_cons (pd_tup ad_nil (by simp)) (ad_cons pd_str (ad_cons pd_int (ad_cons pd_bl (ad_cons pd_int (ad_cons (pd_tup (ad_cons (pd_tup (ad_cons pd_int (ad_cons pd_int ad_nil)) (by simp)) (ad_cons pd_int ad_nil)) (by simp)) ad_nil)))))))) (by simp))) fun v5 H5 x5 r5 => ce_take C.take hr (by decide) rfl (fun H1 Q hq => ce_nm 1 hq) pd_int (w0.pot.ex x5) (by decide) (by decide +kernel) fun z6 H6 z60 z61 e6 hb6 => ?_)))
  obtain ⟨dB, hdB⟩ : ∃ d, oddB[z6.toNat]? = some d := ⟨_, List.getElem?_eq_getElem (show z6.toNat < 8 by omega)⟩
  have ak := alk_of 3 _ (oddB_alk _ (List.mem_of_getElem? hdB))
  refine rIx_of (M := Ma b) (da := .list oddB) (d := dB) (r5.mono (fun _ z => z) e6.exM) (by rw [show z6 = ((z6.toNat : Nat) : Int) by omega]; exact ixD_list hdB) fun vB rB => ?_
  have w6 := (w0.mono x5).head d e6 hb6
  have rB6 : Rp K M0 H6 vB dB := rB.m0
  have sK : SeqAt.shaped (.str ("log" : Str)) = true := by decide +kernel
  refine b_cons (cs_ret (ce_call C.ca hr (by decide) rfl (ca_cons (ce_faults (k := 6) C.FF nb C.To lb (hr.mono (by decide)) rfl (LamX.lamS_by (by show LamX.lamSB (defScope s_law) _ = true; decide +kernel)) rfl (fun _ _ _ _ _ => rfl) w6.t fun H7 y7 t7 l9 H8 hl8 y8 h8 A2 outer2 s2 H02 f2 c2 hr2 => ?_))))
  have m68 : ExM M0 H6 H8 := (exM_ofN y7).trans (.of y8)
  refine ce_callX (W := fun cls d _ H' => FX CK CG l9 _ cls d H') C.bx hr2 (by decide) rfl (takes_of rfl rfl rfl rfl) (ca_cons (ce_nm 15 (ca_nil ⟨vB, dB, rfl, rB6.mono (fun _ z => z) m68, fun de H9 hde y9 h9 => .inr ⟨rfl, de, _, rfl, h9, y9 _ _ h8, fun pA HA hpA kA hpA' hlA => ?_⟩⟩)))
  have y7A : Evl.Ex H7 HA := fun a o h => kA a o (y9 _ _ (y8 _ _ h)) (ne_of_none h hl8)
  have mA : ExM M0 H6 HA := (exM_ofN y7).trans (.of y7A)
  have rBA := rB6.mono (fun _ z => z) mA
  refine ca_cons (ce_pd (M := M0) (d := .list [.tuple [.str "log", dB]]) alive0 (FD.pd (fd_lst (ad_cons (pd_tup (ad_cons pd_str (ad_cons (nm 15 rBA) ad_nil)) (by simp)) ad_nil) (by simp))) fun vC HC xC rC => ca_nil ⟨M0, _, _, alive0, .cons ((Rp.lst (M := M0) (fun z => z) (.inl hlA) (.cons (.tup (fun z => z) (.inl hpA') (.cons (.str _) (.cons rBA .nil))) .nil)).mono (fun _ z => z) (.of xC)) (.cons rC .nil), ⟨_, rfl, alk_pair sK ak, rfl⟩, fun vD HD xD rD => ?_⟩)
  cases rD
  exact q HD
theorem law_end {f a0 b g l1 l2 a : Addr} {cdv : Value} {A : Around} {outer : List Env} {sh : Shared} {H0 H' : Hp} {E : XK} {Q : VK} {script : List Int} {sc cn st : Nat} {mode : Int} {ls : List Ln} {xk x9 x10 x11 x12 x13 x14 : Option V} (C : LawC P w K mg base CL CN CH CK CG CM gF fdF T) (hr : Room 10 (XL P w K mg base f cdv A outer sh H0 E).A) (lb : LamB mg base T cdv ((PyProof.Rows.envOfC "law" (defScope s_law) 0 f cdv).qual ++ "<lambda>")) (d : D5 K a0 script b l1 l2 a)
    (w0 : W5 K CL T H' a0 script b g l1 l2 a ls) (gd : GoodL ls) (hl : ls.length ≤ 90) (q : ∀ H', Q (.bl true) H') :
    wB (XL P w K mg base f cdv A outer sh H0 E) ((defBody s_law).drop 13) (DL Q) (sg a0 b sc mode cn st xk g a x9 x10 x11 x12 x13 x14) H' := by
  have nb := C.L.nb
  have ln : lenD (.list (ls.map lineD)) = some ls.length := by show some _ = _; rw [List.length_map]
  refine b_cons (s_if (M := M0) (k := decide (0 < ls.length)) alive0 (TD.is (td_gt (pd_len nb rfl (nm 8 w0.la.rp) ln) pd_int) (decide_eq_decide.mpr (by omega))) (fun k H1 x1 => ?_) (fun k H1 x1 => b_nil (law_last C hr lb d (w0.mono x1) q)))
  have k := of_decide_eq_true k
  have w1 := w0.mono x1
  refine b_cons (s_set (M := M0) (i := 14) (d := natD (ls.length / 2)) alive0 sc_law.nd rfl (by first | exact .inl rfl | exact .inr rfl) (PD.is (pd_div (pd_len nb rfl (nm 8 w1.la.rp) ln) pd_int (wide_div (b := 40) (by decide) (by decide) (by decide) (by decide))) (congrArg PyData.int (by omega))) fun v2 H2 x2 r2 => ?_)
  cases r2
  have w2 := w1.mono x2
  generalize hi : ls.length / 2 = i
  have hil : i < ls.length := by omega
  obtain ⟨dy, hg2⟩ := w2.lg.ins
  refine b_cons (cs_expr (ce_methX (W := fun _ _ _ _ => False) C.L.B.ins.cl C.L.strike hr (by decide) takes0 (ce_nm 7 ⟨g, dy, _, rfl, hg2, rfl, ca_cons (ce_nm 14 (ca_nil ⟨g, l1, l2, ls, i, rfl, w2.lg, hil, by omega, fun H8 e8 lg8 => ?_⟩))⟩)))
  have la8 : LinesAt K H8 a ls := w2.la.exM e8.exM w2.lg.lists fun z => z.elim d.a1.symm d.a2.symm
  obtain ⟨vs, hvs, rvs⟩ := la8
  have vl : vs.length = ls.length := by rw [rvs.length, List.length_map]
  obtain ⟨y, hy⟩ : ∃ y, vs[i]? = some y := ⟨_, List.getElem?_eq_getElem (show i < vs.length by omega)⟩
  refine b_cons (cs_expr (ce_popAt (ce_nm 8 ⟨a, vs, rfl, hvs, ce_nm 14 ⟨vs, i, y, rfl, hvs, by omega, hy, ?_⟩⟩)))
  have e9 : ExS (Ma a) H8 (upd H8 a (.lst (vs.eraseIdx i))) := ExS.upd rfl
  have la9 : LinesAt K (upd H8 a (.lst (vs.eraseIdx i))) a (ls.eraseIdx i) := ⟨_, upd_same, by
    rw [← map_erase]
    exact flat_ext (rp_erase i rvs) (by rw [map_erase]; exact flats_map flat_line _) (lists1 hvs) e9.exM⟩
  have lg9 := lg8.exM e9.exM (lists1 hvs) d.a1 d.a2
  have w9 := w2.put d ((e8.mono fun y z => z.elim .inl fun z => .inr (.inl z)).trans (e9.mono fun y z => .inr (.inr z))) lg9 la9
  have gd9 := good_erase gd i
  have hl9 : (ls.eraseIdx i).length ≤ 100 := Nat.le_trans (List.length_eraseIdx_le ..) (by omega)
  generalize upd H8 a (.lst (vs.eraseIdx i)) = H9 at w9 ⊢
  refine b_cons (cs_if (ct_not (ct_val (ce_bfit C hr (by decide) rfl w9 gd9 hl9 (fun H2 Q q => ce_nm 7 q) (fun H2 Q q => ce_nm 8 q) (fun Q hq => ce_bst C hr (by decide) rfl w9 hl9 (fun H2 Q q => ce_nm 8 q) hq) fun HA eA tA => ⟨true, rfl, ?_⟩))))
  show (if (false : Bool) = true then _ else _)
  rw [if_neg (by decide)]
  exact b_nil (b_nil (law_last C hr lb d (w9.m0 eA tA) q))
theorem ok_law {f : Addr} {fd : FuncData} {cdv : Value} (F : FunC K mg "law" s_law f fd cdv) (C : LawC P w K mg base CL CN CH CK CG CM gF fdF T) (lb : LamB mg base T cdv ((PyProof.Rows.envOfC "law" (defScope s_law) 0 f cdv).qual ++ "<lambda>")) : FnOk P w K mg base CX0 11 f fd ["script"] (spLaw K T) := by
  refine F.ok sc_law (fun vs H Q E h => ?_) (fun A outer sh H vs Q E hr h => ?_)
  · obtain ⟨a, ns, rfl, _⟩ := h
    rfl
  obtain ⟨a0, script, rfl, hS, hlen, hT, q⟩ := h
  have sc0 : ScAt K M0 H a0 script := ScAt.of hS fun z => z
  have nb := C.L.nb
  have hr' : Room 10 (XL P w K mg base f cdv A outer sh H E).A := hr
  refine b_cons (cs_set (i := 1) sc_law.nd rfl (by first | exact .inl rfl | exact .inr rfl) (ce_call C.box hr (by decide) rfl (ca_cons (ce_nm 0 (ca_cons (ce_intC (ca_nil ⟨M0, a0, script, 0, rfl, alive0, sc0, fun b H1 hb0 x1 pot1 => ?_⟩)))))))
  have ob := ScAt.fresh sc0 hb0
  refine b_cons (cs_set (i := 2) sc_law.nd rfl (by first | exact .inl rfl | exact .inr rfl) (ce_add (ce_intC (ce_take C.take hr (by decide) rfl (fun H1 Q hq => ce_nm 1 hq) pd_int pot1 (by decide) (by decide +kernel) fun z2 H2 z20 z21 e2 pot2 => ⟨_, _, rfl, rfl, ?_⟩))))
  obtain ⟨sc, hsc⟩ : ∃ sc : Nat, 1 + z2 = (sc : Nat) := ⟨(1 + z2).toNat, by omega⟩
  rw [hsc]
  refine b_cons (cs_set (i := 3) sc_law.nd rfl (by first | exact .inl rfl | exact .inr rfl) (ce_take C.take hr (by decide) rfl (fun H1 Q hq => ce_nm 1 hq) pd_int pot2 (by decide) (by decide +kernel) fun mode H3 z30 z31 e3 pot3 => ?_))
  refine b_cons (cs_set (i := 4) sc_law.nd rfl (by first | exact .inl rfl | exact .inr rfl) (ce_ix (ce_pd (d := .list (cnL.map natD)) (al_pot pot3) (FD.pd (fd_lst (ad_cons pd_int (ad_cons pd_int (ad_cons pd_int (ad_cons pd_int (ad_cons pd_int (ad_cons pd_int (ad_cons pd_int (ad_cons pd_int ad_nil)))))))) (by simp))) fun v4 H4 x4 r4 => ce_take C.take hr (by decide) rfl (fun H1 Q hq => ce_nm 1 hq) pd_int (pot3.ex x4) (by decide) (by decide +kernel) fun z5 H5 z50 z51 e5 pot5 => ?_)))
  obtain ⟨cn, hcn⟩ : ∃ n, cnL[z5.toNat]? = some n := ⟨_, List.getElem?_eq_getElem (show z5.toNat < 8 by omega)⟩
  have c8 := cnL_all cn (List.mem_of_getElem? hcn)
  refine rIx_of (M := Ma b) (da := .list (cnL.map natD)) (d := natD cn) (r4.mono (fun _ z => z) (ExB.exM e5)) (by rw [show z5 = ((z5.toNat : Nat) : Int) by omega]; exact ixD_list (by rw [List.getElem?_map, hcn]; rfl)) fun vo ro => ?_
  cases ro
  refine b_cons (cs_set (i := 5) sc_law.nd rfl (by first | exact .inl rfl | exact .inr rfl) (ce_take C.take hr (by decide) rfl (fun H1 Q hq => ce_nm 1 hq) pd_int pot5 (by decide) (by decide +kernel) fun z6 H6 z60 z61 e6 pot6 => ?_))
  obtain ⟨st, rfl⟩ : ∃ t : Nat, z6 = (t : Nat) := ⟨z6.toNat, by omega⟩
  have st4 : st < 4 := by omega
  have e16 : ExB b H1 H6 := ((e2.trans e3).trans ((ExB.of x4).trans e5)).trans e6
  have sc1 : ScAt K M0 H1 a0 script := sc0.mono (fun _ z => z) (ExM.of x1)
  have sc6 : ScAt K M0 H6 a0 script := YK.ScAt.off sc1 e16.exM fun x z => z ▸ ob
  have t6 : LamX.Tabs T H6 := Tabs.exS (hT.ext x1) e16 pot1.lists
  refine b_cons (s_forRW (slot := 6) PassesOwn.never rfl sc_law.nd rfl (.inl rfl) rfl nb.range (ce_add (ce_intC (ce_take C.take hr (by decide) rfl (fun H1 Q hq => ce_nm 1 hq) pd_int pot6 (by decide) (by decide +kernel) fun z7 H7 z70 z71 e7 pot7 => ⟨_, _, rfl, rfl, (1 + z7).toNat, fun i σ' H' => ∃ xk : Option V, σ' = [some (.ref a0), some (.ref b), some (.int (sc : Nat)), some (.int mode), some (.int (cn : Nat)), some (.int (st : Nat)), xk, none, none, none, none, none, none, none, none, none] ∧ ScAt K M0 H' a0 script ∧ PotAt H' b ∧ LamX.Tabs T H', by rw [show (((1 + z7).toNat : Nat) : Int) = 1 + z7 by omega], by omega, ⟨none, rfl, YK.ScAt.off sc6 e7.exM fun x z => z ▸ ob, pot7, Tabs.exS t6 e7 pot6.lists⟩, ?_, ?_⟩))))
  · rintro i σ' H' hi ⟨xk, rfl, scI, potI, tI⟩
    refine b_cons (cs_if (ct_not (ct_val (ce_call C.pd hr (by decide) rfl (ca_cons (ce_call C.box hr (by decide) rfl (ca_cons (ce_nm 0 (ca_cons (ce_pd (M := M0) (d := natD (i + 1)) alive0 (PD.is (pd_add (nm 6 (.int (i : Nat))) pd_int) (congrArg PyData.int (by omega))) fun v1 G1 y1 rv1 => ca_nil ⟨M0, a0, script, i + 1, by cases rv1; rfl, alive0, scI.mono (fun _ z => z) (ExM.of y1), fun p G2 hp y2 potp => ca_nil ⟨p, rfl, potp, (tI.ext y1).ext y2, fun G3 eg potp3 tg => ⟨true, rfl, ?_⟩⟩⟩))))))))))
    show (if (false : Bool) = true then _ else _)
    rw [if_neg (by decide)]
    have scG : ScAt K M0 G2 a0 script := scI.mono (fun _ z => z) (ExM.of (y1.trans y2))
    have bp : b ≠ p := (potI.ex y1).ne hp
    obtain ⟨u, v, w', hb2⟩ := potI.ex (y1.trans y2)
    exact b_nil (b_nil ⟨_, rfl, YK.ScAt.off scG eg fun x z => z ▸ ScAt.fresh (scI.mono (fun _ z => z) (ExM.of y1)) hp, ⟨u, v, w', eg _ _ hb2 bp fun _ z => by cases z⟩, tg⟩)
  · rintro σ' H' ⟨xk, rfl, scI, potI, tI⟩
    refine b_cons (cs_set (i := 7) sc_law.nd rfl (by first | exact .inl rfl | exact .inr rfl) (ce_log C.L.mkL C.L.gL hr (by decide) rfl fun g l1 l2 G1 hg hl1 hl2 y1 lg1 => ?_))
    have sc1' := scI.mono (M' := M0) (fun _ z => z) (ExM.of y1)
    refine b_cons (cs_set (i := 8) sc_law.nd rfl (by first | exact .inl rfl | exact .inr rfl) (ce_fd (M := M0) alive0 (fd_lst ad_nil (by simp)) fun a wl G2 ha y2 h2 r2 => ?_))
    cases r2
    have d : D5 K a0 script b l1 l2 a := ⟨ne_some potI.some hl1, ne_some potI.some hl2, ne_some (potI.ex y1).some ha, ne_some lg1.some1 ha, ne_some lg1.some2 ha, ob, ScAt.fresh scI hl1, ScAt.fresh scI hl2, ScAt.fresh sc1' ha⟩
    have w2 : W5 K CL T G2 a0 script b g l1 l2 a [] := ⟨sc1'.mono (fun _ z => z) (ExM.of y2), potI.ex (y1.trans y2), lg1.ex y2, ⟨[], h2, .nil⟩, tI.ext (y1.trans y2)⟩
    have gd0 : GoodL [] := fun _ z => absurd z List.not_mem_nil
    have main : ∀ (xk : Option V) G3, W5 K CL T G3 a0 script b g l1 l2 a [] → wB (XL P w K mg base f cdv A outer sh H E) ((defBody s_law).drop 9) (DL Q) (sg a0 b sc mode cn st xk g a none none none none none none) G3 := by
      intro xk G3 w3
      refine b_cons (s_forRW (slot := 6) PassesOwn.never rfl sc_law.nd rfl (.inl rfl) rfl nb.range (ce_nm 4 ⟨cn, fun i σ' H' => ∃ ls xk x9 x10, σ' = sg a0 b sc mode cn st xk g a x9 x10 none none none none ∧ W5 K CL T H' a0 script b g l1 l2 a ls ∧ GoodL ls ∧ ls.length = i, rfl, by omega, ⟨[], _, none, none, rfl, w3, gd0, rfl⟩, ?_, ?_⟩))
      · rintro i σ' H' hi ⟨ls, xk', x9, x10, rfl, wI, gdI, hl⟩
        refine law_turn C hr d wI gdI (by omega) fun l x9' x10' G w' gd' => ⟨ls ++ [l], _, x9', x10', rfl, w', gd', ?_⟩
        rw [List.length_append, hl]
        rfl
      · rintro σ' H' ⟨ls, xk', x9, x10, rfl, wI, gdI, hl⟩
        refine b_cons (cs_set (i := 11) sc_law.nd rfl (by first | exact .inl rfl | exact .inr rfl) (ce_bst C hr' (by decide) rfl wI (by omega) (fun H2 Q q => ce_nm 8 q) fun G4 y4 => ?_))
        have w4 := wI.mono y4
        refine b_cons (cs_if (ct_w (cw_or (ct_not (ct_val (ce_bfit C hr' (by decide) rfl w4 gdI (by omega) (fun H2 Q q => ce_nm 7 q) (fun H2 Q q => ce_nm 8 q) (fun Q hq => ce_nm 11 (hq _ (Evl.Ex.refl _))) fun G5 e5 t5 => ⟨true, rfl, ⟨fun _ => cw_or1 (ct_not (ct_val ?_)), fun z => by cases z⟩⟩))))))
        have w5 := w4.m0 e5 t5
        refine ce_bfit C hr' (by decide) rfl w5 gdI (by omega) (fun H2 Q q => ce_nm 7 q) (fun H2 Q q => ce_nm 8 q) (fun Q hq => ce_nm 11 (hq _ (Evl.Ex.refl _))) fun G6 e6 t6 => ⟨true, rfl, ?_⟩
        show (if (false : Bool) = true then _ else _)
        rw [if_neg (by decide)]
        have w6 := w5.m0 e6 t6
        refine b_nil (b_cons (s_forRW (slot := 6) PassesOwn.never rfl sc_law.nd rfl (.inl rfl) rfl nb.range (ce_nm 5 ⟨st, fun i σ' H' => ∃ ls xk x12 x13, σ' = sg a0 b sc mode cn st xk g a x9 x10 (some (.int (bestN ls : Nat))) x12 x13 none ∧ W5 K CL T H' a0 script b g l1 l2 a ls ∧ GoodL ls ∧ ls.length ≤ 8 + i, rfl, by omega, ⟨ls, _, none, none, rfl, w6, gdI, by omega⟩, ?_, ?_⟩)))
        · rintro i σ' H' hi ⟨ls, xk', x12, x13, rfl, wJ, gdJ, hlJ⟩
          exact law_step C hr d wJ gdJ (by omega) fun ls' x12' x13' G w' gd' hl' => ⟨ls', _, x12', x13', rfl, w', gd', by omega⟩
        · rintro σ' H' ⟨ls, xk', x12, x13, rfl, wJ, gdJ, hlJ⟩
          exact law_end C hr lb d wJ gdJ (by omega) q
    refine b_cons (cs_if (ct_w (cw_and (ct_eq hr.units (ce_take C.take hr (by decide) rfl (fun H1 Q hq => ce_nm 1 hq) pd_int w2.pot (by decide) (by decide +kernel) fun z7 G3 z70 z71 e7 pot7 => ce_intC ⟨.int z7, .int 1, (Rp.int (M := M0) _).dp, (Rp.int (M := M0) _).dp, rfl, rfl, ⟨fun _ => cw_and1 (ct_not (ct_val ?_)), fun _ => ?_⟩⟩)))))
    · have w3 := w2.head d e7 pot7
      refine ce_bfit C hr' (by decide) rfl w3 gd0 (by decide) (fun H2 Q q => ce_nm 7 q) (fun H2 Q q => ce_nm 8 q) (fun Q hq => ce_bst C hr' (by decide) rfl w3 (by decide) (fun H2 Q q => ce_nm 8 q) hq) fun G4 e8 t8 => ⟨true, rfl, ?_⟩
      show (if (false : Bool) = true then _ else _)
      rw [if_neg (by decide)]
      exact b_nil (main _ G4 (w3.m0 e8 t8))
    · rw [if_neg (by decide)]
      exact b_nil (main _ G3 (w2.head d e7 pot7))
end
end YK

namespace YK
open PySem PySem.Spec PyProof.Rows L2 GV
abbrev gv1 : List V → List V → List V := fun vs zs => vs ++ zs
theorem at_mk {K : PySem.W.Frag} {h : Heap} {mg : Str → Option Value} {x : Str} {st : Stmt} {f : Addr} {od an : Option Addr} {sl : Array (Option Value)} {oc kV dc pm cd ct : Value} (X : K.In h) (G : h.Ns mainGlobals mg) (a : PySem.W.nsIn K mainGlobals x = some (some (.ref f)))
    (l : K.lookup f = some ⟨oc, od, .func (PySem.W.fnOf x x (defArgs st) (defBody st) (defScope st) .none kV dc pm an cd ct), sl⟩) (c : PySem.W.codeIn K cd x = true) (k : PySem.W.keepIn K (.ref f) = true) : ∃ f fd, At K mg x st f fd :=
  ⟨f, _, fun_mk l c k, PySem.W.mg_of X G a⟩
theorem exm_of {K : PySem.W.Frag} {S D : Addr} {b : Bool} (h1 : PySem.W.subIn K (.ref S) (.type "BaseException") = some true) (h0 : PySem.W.subIn K (.ref D) (.type "BaseException") = some true) (h2 : PySem.W.isClsIn K D = true) (h3 : PySem.W.typeIn K (.ref D) = some (.type "type")) (h4 : PySem.W.subIn K (.ref S) (.ref D) = some b) : PySem.W.exmOne K (.ref S) (.ref D) = some b := by
  have e1 : (PySem.W.subIn K (.ref D) (.type "BaseException") == some true) = true := by rw [h0] <;> rfl
  have e2 : ((PySem.W.clsIn K D).isSome && PySem.W.typeIn K (.ref D) == some (.type "type")) = true := by
    have h2' : (PySem.W.clsIn K D).isSome = true := h2
    rw [h2', h3] <;> rfl
  show (if (PySem.W.subIn K (.ref D) (.type "BaseException") == some true) = true then (if ((PySem.W.clsIn K D).isSome && PySem.W.typeIn K (.ref D) == some (.type "type")) = true then PySem.W.subIn K (.ref S) (.ref D) else none) else none) = some b
  rw [if_pos e1, if_pos e2]
  exact h4
abbrev qL (x : Str) (st : Stmt) (f c : Addr) : Str := (PyProof.Rows.envOfC x (defScope st) 0 f (.ref c)).qual ++ "<lambda>"
/-- a def with a lambda in it: its code object, and the table that hangs on it -/
structure LamF (K : PySem.W.Frag) (mg : Str → Option Value) (h : Heap) (x : Str) (st : Stmt) (f c Pt : Addr) : Prop where
  fn : ∃ fd, FunC K mg x st f fd (.ref c)
  hd : PySem.W.CodeHd h c Pt
  tb : h.get? Pt = some (PySem.W.tabObj #[])
  no : K.lookup Pt = none
theorem lam_mk {K : PySem.W.Frag} {h : Heap} {mg : Str → Option Value} {x : Str} {st : Stmt} {f c Pt : Addr} {od an : Option Addr} {sl : Array (Option Value)} {oc kV dc pm ct : Value} (X : K.In h) (G : h.Ns mainGlobals mg) (a : PySem.W.nsIn K mainGlobals x = some (some (.ref f)))
    (l : K.lookup f = some ⟨oc, od, .func (PySem.W.fnOf x x (defArgs st) (defBody st) (defScope st) .none kV dc pm an (.ref c) ct), sl⟩) (co : PySem.W.codeIn K (.ref c) x = true) (k : PySem.W.keepIn K (.ref f) = true) (hd : PySem.W.codeHdIn K c Pt = true) (tb : h.get? Pt = some (PySem.W.tabObj #[])) (no : K.lookup Pt = none) : LamF K mg h x st f c Pt :=
  ⟨⟨_, ⟨_, _, _, _, _, _, _, _, rfl, l, co⟩, k, PySem.W.mg_of X G a⟩, PySem.W.codeHd_of_K X hd, tb, no⟩
theorem gi_mk {K : PySem.W.Frag} {h : Heap} {mg : Str → Option Value} {x : Str} {i : Int} {t : Tok} (X : K.In h) (G : h.Ns mainGlobals mg) (a : PySem.W.nsIn K mainGlobals x = some (some (.int i t))) : ∃ t, mg x = some (.int i t) := ⟨t, PySem.W.mg_of X G a⟩
structure Facts (K : PySem.W.Frag) (mg : Str → Option Value) : Prop where
  nb : NoB mg
  is_integer : ∃ f fd, At K mg "is_integer" s_is_integer f fd
  is_number : ∃ f fd, At K mg "is_number" s_is_number f fd
  check_number : ∃ f fd, At K mg "check_number" s_check_number f fd
  check_answer : ∃ f fd, At K mg "check_answer" s_check_answer f fd
  check_room : ∃ f fd, At K mg "check_room" s_check_room f fd
  text_of_number : ∃ f fd, At K mg "text_of_number" s_text_of_number f fd
  number_of_text : ∃ f fd, At K mg "number_of_text" s_number_of_text f fd
  is_weight : ∃ f fd, At K mg "is_weight" s_is_weight f fd
  is_bag_row : ∃ f fd, At K mg "is_bag_row" s_is_bag_row f fd
  is_row : ∃ f fd, At K mg "is_row" s_is_row f fd
  is_place : ∃ f fd, At K mg "is_place" s_is_place f fd
  check_row : ∃ f fd, At K mg "check_row" s_check_row f fd
  check_place : ∃ f fd, At K mg "check_place" s_check_place f fd
  third_kinds : ∃ f fd, At K mg "_third_kinds" s_third_kinds f fd
  present_kinds : ∃ f fd, At K mg "present_kinds" s_present_kinds f fd
  texts_of : ∃ f fd, At K mg "texts_of" s_texts_of f fd
  kinds_number : ∃ f fd, At K mg "_kinds_number" s_kinds_number f fd
  frees : ∃ f fd, At K mg "_frees" s_frees f fd
  check_kinds : ∃ f fd, At K mg "_check_kinds" s_check_kinds f fd
  probe_of : ∃ f fd, At K mg "_probe_of" s_probe_of f fd
  probe : ∃ f fd, At K mg "probe" s_probe f fd
  greater_part : ∃ f fd, At K mg "_greater_part" s_greater_part f fd
  law_cell : ∃ f fd, At K mg "_law_cell" s_law_cell f fd
  law_box : ∃ f fd, At K mg "_law_box" s_law_box f fd
  law_take : ∃ f fd, At K mg "_law_take" s_law_take f fd
  law_row : ∃ f fd, At K mg "_law_row" s_law_row f fd
  law_mask : ∃ f fd, At K mg "_law_mask" s_law_mask f fd
  law_alike : ∃ f fd, At K mg "_law_alike" s_law_alike f fd
  law_line : ∃ f fd, At K mg "_law_line" s_law_line f fd
  law_fits : ∃ f fd, At K mg "_law_fits" s_law_fits f fd
  law_probe : ∃ f fd, At K mg "_law_probe" s_law_probe f fd
  law_best : ∃ f fd, At K mg "_law_best" s_law_best f fd
  law_kinds : ∃ f fd, At K mg "_law_kinds" s_law_kinds f fd
  law_faults : ∃ f fd, At K mg "_law_faults" s_law_faults f fd
  law_spoilt : ∃ f fd, At K mg "_law_spoilt" s_law_spoilt f fd
  law_best_fits : ∃ f fd, At K mg "_law_best_fits" s_law_best_fits f fd
  gW : ∃ t, mg "MOST_WEIGHT" = some (.int mostW t)
  gS : ∃ t, mg "MOST_STONES" = some (.int 40 t)
  gM : ∃ t, mg "_MOST_LINES" = some (.int 200 t)
  gH : ∃ t, mg "_MOST_HOUSES" = some (.int 63 t)
open PySem.W (nsIn findIn typeIn subIn keepIn isClsIn hasDictIn codeIn fnOf specialIn takesIn mroIn kitOne recIn fnIn)
/-- the class House -/
structure HFacts (K : PySem.W.Frag) (mg : Str → Option Value) (CH : Addr) : Prop where
  hc : HouC K CH
  gH : mg "House" = some (.ref CH)
  init : ∃ f fd, Mk K CH f ∧ Fun K "__init__" "House.__init__" s_House_init f fd
theorem hf_mk {K : PySem.W.Frag} {h : Heap} {mg : Str → Option Value} {C f1 : Addr} (X : K.In h) (G : h.Ns mainGlobals mg) {od1 an1 : Option Addr} {sl1 : Array (Option Value)} {oc1 kV1 dc1 pm1 cd1 ct1 : Value}
    (aC : nsIn K mainGlobals "House" = some (some (.ref C)))
    (pg : PySem.W.plainGet K C Str.empty = true) (hd : hasDictIn K C = true) (po : PySem.W.plainOver K C = true) (sa : findIn K (.ref C) "__setattr__" = some (some (.builtin "object.__setattr__"))) (mk : PySem.W.makesIn K C = true) (kc : keepIn K (.ref C) = true) (nT : findIn K (.ref C) "text" = some none) (nN : findIn K (.ref C) "number" = some none)
    (ha : findIn K (.ref C) "__class__" = some (some (.builtin "object.__class__"))) (hn : specialIn K (.builtin "object.__class__") "__get__" = some (some (.builtin "getset_descriptor.__get__"))) (ht : takesIn K (.builtin "object.__class__") = some true) (hm : mroIn K C (.type "object") = some true) (s01 : kitOne K (.ref C) (.ref C) = some true)
    (a1 : findIn K (.ref C) "__init__" = some (some (.ref f1))) (i1 : PySem.W.isFn K (.ref f1) = true) (l1 : K.lookup f1 = some ⟨oc1, od1, .func (fnOf "__init__" "House.__init__" (defArgs s_House_init) (defBody s_House_init) (defScope s_House_init) .none kV1 dc1 pm1 an1 cd1 ct1), sl1⟩) (c1 : codeIn K cd1 "House.__init__" = true) (k1 : keepIn K (.ref f1) = true) : HFacts K mg C :=
  ⟨⟨⟨⟨pg, hd, po, sa⟩, ha, hn, ht, hm, s01⟩, nT, nN⟩, PySem.W.mg_of X G aC, ⟨f1, _, ⟨mk, a1, i1, kc⟩, fun_mk l1 c1 k1⟩⟩
/-- the class Log -/
structure LFacts (K : PySem.W.Frag) (mg : Str → Option Value) (CL : Addr) : Prop where
  lc : LogC K CL
  gL : mg "Log" = some (.ref CL)
  init : ∃ f fd, Mk K CL f ∧ Fun K "__init__" "Log.__init__" s_Log_init f fd
theorem lf_mk {K : PySem.W.Frag} {h : Heap} {mg : Str → Option Value} {C f1 : Addr} (X : K.In h) (G : h.Ns mainGlobals mg) {od1 an1 : Option Addr} {sl1 : Array (Option Value)} {oc1 kV1 dc1 pm1 cd1 ct1 : Value}
    (aC : nsIn K mainGlobals "Log" = some (some (.ref C)))
    (pg : PySem.W.plainGet K C Str.empty = true) (hd : hasDictIn K C = true) (po : PySem.W.plainOver K C = true) (sa : findIn K (.ref C) "__setattr__" = some (some (.builtin "object.__setattr__"))) (mk : PySem.W.makesIn K C = true) (kc : keepIn K (.ref C) = true) (nT : findIn K (.ref C) "_lines" = some none) (nN : findIn K (.ref C) "_kinds" = some none)
    (ha : findIn K (.ref C) "__class__" = some (some (.builtin "object.__class__"))) (hn : specialIn K (.builtin "object.__class__") "__get__" = some (some (.builtin "getset_descriptor.__get__"))) (ht : takesIn K (.builtin "object.__class__") = some true) (hm : mroIn K C (.type "object") = some true) (s01 : kitOne K (.ref C) (.ref C) = some true)
    (a1 : findIn K (.ref C) "__init__" = some (some (.ref f1))) (i1 : PySem.W.isFn K (.ref f1) = true) (l1 : K.lookup f1 = some ⟨oc1, od1, .func (fnOf "__init__" "Log.__init__" (defArgs s_Log_init) (defBody s_Log_init) (defScope s_Log_init) .none kV1 dc1 pm1 an1 cd1 ct1), sl1⟩) (c1 : codeIn K cd1 "Log.__init__" = true) (k1 : keepIn K (.ref f1) = true) : LFacts K mg C :=
  ⟨⟨⟨⟨pg, hd, po, sa⟩, ha, hn, ht, hm, s01⟩, nT, nN⟩, PySem.W.mg_of X G aC, ⟨f1, _, ⟨mk, a1, i1, kc⟩, fun_mk l1 c1 k1⟩⟩
/-- a method, as the top wrote it -/
abbrev ME (K : PySem.W.Frag) (C : Addr) (m q : Str) (st : Stmt) : Prop := ∃ f fd, Meth K C m f ∧ Fun K m q st f fd
theorem me_mk {K : PySem.W.Frag} {h : Heap} {mg : Str → Option Value} {C f1 : Addr} {m q : Str} {st : Stmt} {od1 an1 : Option Addr} {sl1 : Array (Option Value)} {oc1 kV1 dc1 pm1 cd1 ct1 : Value} (X : K.In h) (G : h.Ns mainGlobals mg)
    (a1 : findIn K (.ref C) m = some (some (.ref f1))) (i1 : PySem.W.isFn K (.ref f1) = true) (l1 : K.lookup f1 = some ⟨oc1, od1, .func (fnOf m q (defArgs st) (defBody st) (defScope st) .none kV1 dc1 pm1 an1 cd1 ct1), sl1⟩) (c1 : codeIn K cd1 q = true) (k1 : keepIn K (.ref f1) = true) : ME K C m q st :=
  ⟨f1, _, ⟨a1, i1, k1⟩, fun_mk l1 c1 k1⟩
theorem kk_mk {K : PySem.W.Frag} {h : Heap} {mg : Str → Option Value} {C t : Addr} {od : Option Addr} {its : Array Value} {n : Nat} {sl : Array (Option Value)} (X : K.In h) (G : h.Ns mainGlobals mg)
    (rd : PySem.W.readsIn K C (.type "type") = true) (ga : specialIn K (.ref C) "__getattribute__" = some (some (.builtin "type.__getattribute__"))) (fc : PySem.W.findCls K (.ref C) (.type "type") "KINDS" = some (.val (.ref t)))
    (lt : K.lookup t = some ⟨.type "tuple", od, .seq its n, sl⟩) (sz : its.size ≤ 1000) (v6 : Vals (ordK.map V.str) its.toList) : KindsK K C :=
  ⟨t, .type "type", ⟨rd, ga⟩, ⟨fc, rfl⟩, _, its, n, lt, rfl, rfl, Nat.le_trans sz (by rw [sizeLine_eq]; decide), v6⟩
theorem bw_mk {K : PySem.W.Frag} {h : Heap} {mg : Str → Option Value} {t t' : Addr} {od od' : Option Addr} {its its' : Array Value} {n n' : Nat} {sl sl' : Array (Option Value)} (X : K.In h) (G : h.Ns mainGlobals mg)
    (aT : nsIn K mainGlobals "_BY_WEIGHT" = some (some (.ref t))) (lt : K.lookup t = some ⟨.type "tuple", od, .seq its n, sl⟩) (sz : its.size ≤ 1000) (v8 : Vals (BW.map V.str) its.toList)
    (bT : nsIn K mainGlobals "_BY_INDEX" = some (some (.ref t'))) (lu : K.lookup t' = some ⟨.type "tuple", od', .seq its' n', sl'⟩) (sz : its'.size ≤ 1000) (v8 : Vals (BI.map V.str) its'.toList) : ByW K mg :=
  ⟨⟨t, PySem.W.mg_of X G aT, _, its, n, lt, rfl, rfl, Nat.le_trans ‹its.size ≤ 1000› (by rw [sizeLine_eq]; decide), ‹Vals (BW.map V.str) its.toList›⟩, ⟨t', PySem.W.mg_of X G bT, _, its', n', lu, rfl, rfl, Nat.le_trans ‹its'.size ≤ 1000› (by rw [sizeLine_eq]; decide), ‹Vals (BI.map V.str) its'.toList›⟩⟩
theorem sd_mk {K : PySem.W.Frag} {h : Heap} {mg : Str → Option Value} {w : World} {d : Addr} {es : Array DictEntry} {n : Nat} {t0 t1 t2 t3 t4 t5 t6 t7 : Tok} (X : K.In h) (G : h.Ns mainGlobals mg) (aD : nsIn K mainGlobals "_SIDES" = some (some (.ref d))) (lD : K.lookup d = some ⟨.type "dict", none, .dict es n, #[]⟩) (kl : PySem.W.KeysLit w.params es.toList) (lo : (d == sysModules) = false)
    (n0 : nsIn K d "" = some (some (.int 0 t0))) (n1 : nsIn K d "l" = some (some (.int 1 t1))) (n2 : nsIn K d "b" = some (some (.int 2 t2))) (n3 : nsIn K d "lb" = some (some (.int 3 t3))) (n4 : nsIn K d "h" = some (some (.int 4 t4))) (n5 : nsIn K d "lh" = some (some (.int 5 t5))) (n6 : nsIn K d "bh" = some (some (.int 6 t6))) (n7 : nsIn K d "lbh" = some (some (.int 7 t7))) (kt : KeysT es.toList sidesL) : Sides K mg w ∧ SidesK K mg w := ⟨⟨d, es, n, PySem.W.mg_of X G aD, ⟨lD, kl, lo⟩, fun i hi => by
  match i, hi with
  | 0, _ => exact ⟨_, n0⟩
  | 1, _ => exact ⟨_, n1⟩
  | 2, _ => exact ⟨_, n2⟩
  | 3, _ => exact ⟨_, n3⟩
  | 4, _ => exact ⟨_, n4⟩
  | 5, _ => exact ⟨_, n5⟩
  | 6, _ => exact ⟨_, n6⟩
  | 7, _ => exact ⟨_, n7⟩
⟩, ⟨d, es, n, PySem.W.mg_of X G aD, ⟨lD, kl, lo⟩, kt⟩⟩
structure ECls (K : PySem.W.Frag) (mg : Str → Option Value) (x q : Str) (st : Stmt) (C : Addr) : Prop where
  g : mg x = some (.ref C)
  o : OexC K C
  xf : XfC K C
  be : PySem.W.subIn K (.ref C) (.type "BaseException") = some true
  ty : PySem.W.typeIn K (.ref C) = some (.type "type")
  ci : PySem.W.isClsIn K C = true
  i : ∃ f fd, PySem.W.findIn K (.ref C) "__init__" = some (some (.ref f)) ∧ PySem.W.typeIn K (.ref f) = some (.type "function") ∧ Fun K "__init__" q st f fd
theorem ec_mk {K : PySem.W.Frag} {h : Heap} {mg : Str → Option Value} {x q : Str} {st : Stmt} {CW fW : Addr} (X : K.In h) (G : h.Ns mainGlobals mg)
    {nmW qW : Str} {NW : Addr} {bsW bmW : List Value} {snW : List Str} {subW : List Value} {abW : Bool} {colW : Option Bool} {ddW : Option Addr} {w0 w1 w2 w3 w5 : Option Value}
    {od1 an1 : Option Addr} {sl1 : Array (Option Value)} {oc1 kV1 dc1 pm1 cd1 ct1 : Value}
    (aW : nsIn K mainGlobals x = some (some (.ref CW)))
    (lW : K.lookup CW = some (excClassObj nmW qW CW NW bsW bmW true snW subW abW colW ddW w0 w1 w2 w3 w5 "ValueError.__new__")) (rW : HandSPX.refsVE bmW = true)
    (saW : findIn K (.ref CW) "__setattr__" = some (some (.builtin "object.__setattr__")))
    (eW : subIn K (.ref CW) (.type "BaseException") = some true)
    (tW : typeIn K (.ref CW) = some (.type "type"))
    (kW : keepIn K (.ref CW) = true)
    (gaW : findIn K (.ref CW) "__getattribute__" = some (some (.builtin "BaseException.__getattribute__")))
    (ggW : findIn K (.ref CW) "__getattr__" = some none) (hdW : hasDictIn K CW = true)
    (cW : isClsIn K CW = true)
    (iW : findIn K (.ref CW) "__init__" = some (some (.ref fW))) (yW : typeIn K (.ref fW) = some (.type "function")) (l1 : K.lookup fW = some ⟨oc1, od1, .func (fnOf "__init__" q (defArgs st) (defBody st) (defScope st) .none kV1 dc1 pm1 an1 cd1 ct1), sl1⟩) (c1 : codeIn K cd1 q = true) (k1 : keepIn K (.ref fW) = true) : ECls K mg x q st CW :=
  ⟨PySem.W.mg_of X G aW, ⟨⟨_, _, _, _, _, _, _, _, _, _, _, _, _, _, _, lW, rW⟩, saW, eW, tW, kW⟩, ⟨gaW, ggW, eW, hdW⟩, eW, tW, cW, ⟨fW, _, iW, yW, fun_mk l1 c1 k1⟩⟩
/-- every, as the top wrote it -/
structure EvK (K : PySem.W.Frag) (C : Addr) : Prop where
  ex : ∃ (f : Addr) (fd : FuncData) (p : Addr) (mc : Value) (rest : List Value), ClX.CRead K C mc ∧ PySem.W.findCls K (.ref C) mc "every" = some (.get (.builtin "staticmethod.__get__") (.ref p) .none (.ref C)) ∧ recIn K p "staticmethod" = some (.ref f :: rest) ∧ keepIn K (.ref f) = true ∧ Fun K "every" "House.every" s_House_every f fd
theorem st_mk {K : PySem.W.Frag} {h : Heap} {mg : Str → Option Value} {C p f1 : Addr} {rest : List Value} {od1 an1 : Option Addr} {sl1 : Array (Option Value)} {oc1 kV1 dc1 pm1 cd1 ct1 : Value} (X : K.In h) (G : h.Ns mainGlobals mg)
    (rd : PySem.W.readsIn K C (.type "type") = true) (ga : specialIn K (.ref C) "__getattribute__" = some (some (.builtin "type.__getattribute__"))) (fc : PySem.W.findCls K (.ref C) (.type "type") "every" = some (.get (.builtin "staticmethod.__get__") (.ref p) .none (.ref C))) (rc : recIn K p "staticmethod" = some (.ref f1 :: rest))
    (l1 : K.lookup f1 = some ⟨oc1, od1, .func (fnOf "every" "House.every" (defArgs s_House_every) (defBody s_House_every) (defScope s_House_every) .none kV1 dc1 pm1 an1 cd1 ct1), sl1⟩) (c1 : codeIn K cd1 "House.every" = true) (k1 : keepIn K (.ref f1) = true) : EvK K C :=
  ⟨f1, _, p, .type "type", rest, ⟨rd, ga⟩, fc, rc, k1, fun_mk l1 c1 k1⟩
/-- fitting, as the top wrote it -/
abbrev FE (K : PySem.W.Frag) (C : Addr) : Prop := ∃ f fd, Meth K C "fitting" f ∧ FunD K "fitting" "Log.fitting" (defArgs s_Log_fitting) (defBody s_Log_fitting) (defScope s_Log_fitting) [] [("wrong", .int 0)] f fd
theorem ft_mk {K : PySem.W.Frag} {h : Heap} {mg : Str → Option Value} {C f1 D : Addr} {od1 an1 : Option Addr} {sl1 : Array (Option Value)} {oc1 dc1 pm1 cd1 ct1 : Value} {t : Tok} (X : K.In h) (G : h.Ns mainGlobals mg)
    (a1 : findIn K (.ref C) "fitting" = some (some (.ref f1))) (i1 : PySem.W.isFn K (.ref f1) = true) (l1 : K.lookup f1 = some ⟨oc1, od1, .func (fnOf "fitting" "Log.fitting" (defArgs s_Log_fitting) (defBody s_Log_fitting) (defScope s_Log_fitting) .none (.ref D) dc1 pm1 an1 cd1 ct1), sl1⟩) (c1 : codeIn K cd1 "Log.fitting" = true) (k1 : keepIn K (.ref f1) = true) (w1 : nsIn K D "wrong" = some (some (.int 0 t))) : FE K C :=
  ⟨f1, _, ⟨a1, i1, k1⟩, ⟨⟨_, _, _, _, _, _, _, _, _, _, rfl, l1, c1, .inl ⟨rfl, rfl⟩, .inr ⟨D, rfl, fun q hq => by
    cases List.mem_singleton.mp hq
    exact ⟨_, w1, t, rfl⟩⟩⟩, k1⟩⟩
structure NRaw (K : PySem.W.Frag) (mg : Str → Option Value) (CN CR CP CM CL : Addr) : Prop where
  gM : mg "MillError" = some (.ref CM)
  gV : mg "ValueError" = none
  gD : mg "dict" = none
  nN : findIn K (.ref CN) "number" = some none
  nR : findIn K (.ref CR) "kinds" = some none
  nP : findIn K (.ref CP) "log" = some none
  aR : subIn K (.ref CR) (.ref CM) = some true
  aP : subIn K (.ref CP) (.ref CM) = some true
  bM : subIn K (.ref CM) (.type "BaseException") = some true
  cM : isClsIn K CM = true
  tM : typeIn K (.ref CM) = some (.type "type")
  hR : findIn K (.ref CR) "__class__" = some (some (.builtin "object.__class__"))
  hP : findIn K (.ref CP) "__class__" = some (some (.builtin "object.__class__"))
  hn : specialIn K (.builtin "object.__class__") "__get__" = some (some (.builtin "getset_descriptor.__get__"))
  ht : takesIn K (.builtin "object.__class__") = some true
  mR : mroIn K CR (.type "object") = some true
  mP : mroIn K CP (.type "object") = some true
  s04 : kitOne K (.ref CR) (.ref CR) = some true
  s05 : kitOne K (.ref CR) (.ref CP) = some false
  s06 : kitOne K (.ref CP) (.ref CR) = some false
  s07 : kitOne K (.ref CP) (.ref CP) = some true
  s08 : kitOne K (.ref CR) (.type "ValueError") = some true
  s09 : kitOne K (.ref CP) (.type "ValueError") = some true
  s10 : kitOne K (.type "NoneType") (.ref CL) = some false
  s11 : kitOne K (.type "bool") (.ref CL) = some false
  s12 : kitOne K (.type "int") (.ref CL) = some false
  s13 : kitOne K (.type "str") (.ref CL) = some false
  s14 : kitOne K (.type "list") (.ref CL) = some false
  s15 : kitOne K (.type "tuple") (.ref CL) = some false
  s16 : kitOne K (.type "dict") (.ref CL) = some false
theorem nr_mk {K : PySem.W.Frag} {h : Heap} {mg : Str → Option Value} {CN CR CP CM CL : Addr} (X : K.In h) (G : h.Ns mainGlobals mg) (gM : nsIn K mainGlobals "MillError" = some (some (.ref CM))) (gV : nsIn K mainGlobals "ValueError" = some none) (gD : nsIn K mainGlobals "dict" = some none) (nN : findIn K (.ref CN) "number" = some none) (nR : findIn K (.ref CR) "kinds" = some none) (nP : findIn K (.ref CP) "log" = some none) (aR : subIn K (.ref CR) (.ref CM) = some true) (aP : subIn K (.ref CP) (.ref CM) = some true) (bM : subIn K (.ref CM) (.type "BaseException") = some true) (cM : isClsIn K CM = true) (tM : typeIn K (.ref CM) = some (.type "type")) (hR : findIn K (.ref CR) "__class__" = some (some (.builtin "object.__class__"))) (hP : findIn K (.ref CP) "__class__" = some (some (.builtin "object.__class__"))) (hn : specialIn K (.builtin "object.__class__") "__get__" = some (some (.builtin "getset_descriptor.__get__"))) (ht : takesIn K (.builtin "object.__class__") = some true) (mR : mroIn K CR (.type "object") = some true) (mP : mroIn K CP (.type "object") = some true) (s04 : kitOne K (.ref CR) (.ref CR) = some true) (s05 : kitOne K (.ref CR) (.ref CP) = some false) (s06 : kitOne K (.ref CP) (.ref CR) = some false) (s07 : kitOne K (.ref CP) (.ref CP) = some true) (s08 : kitOne K (.ref CR) (.type "ValueError") = some true) (s09 : kitOne K (.ref CP) (.type "ValueError") = some true) (s10 : kitOne K (.type "NoneType") (.ref CL) = some false) (s11 : kitOne K (.type "bool") (.ref CL) = some false) (s12 : kitOne K (.type "int") (.ref CL) = some false) (s13 : kitOne K (.type "str") (.ref CL) = some false) (s14 : kitOne K (.type "list") (.ref CL) = some false) (s15 : kitOne K (.type "tuple") (.ref CL) = some false) (s16 : kitOne K (.type "dict") (.ref CL) = some false) : NRaw K mg CN CR CP CM CL :=
  ⟨PySem.W.mg_of X G gM, PySem.W.mg_none_of X G gV, PySem.W.mg_none_of X G gD, nN, nR, nP, aR, aP, bM, cM, tM, hR, hP, hn, ht, mR, mP, s04, s05, s06, s07, s08, s09, s10, s11, s12, s13, s14, s15, s16⟩
theorem ok_initNumber {P : Program} {w : World} {K : PySem.W.Frag} {mg : Str → Option Value} {base : Heap} {f C : Addr} {fd : FuncData} (F : Fun K "__init__" "InvalidNumber.__init__" s_InvalidNumber_init f fd) (o : OexC K C) (n : PySem.W.findIn K (.ref C) "number" = some none) : FnOk P w K mg base CX0 1 f fd ["self", "number"] (spInit C ["number"]) := by
  refine F.ok sc_InvalidNumber_init (fun vs H Q E h => ?_) (fun cdv A outer s H vs Q E hr h => ⟨_, wB.ps, ?_⟩)
  · obtain ⟨a, xs, rfl, hl, _⟩ := h
    exact congrArg (· + 1) hl
  · obtain ⟨a, xs, rfl, hl, ha, q⟩ := h
    match xs, hl with
    | [v], _ =>
      refine b_cons (cs_ost (ce_name (i := 1) rfl (.inl rfl) rfl (ce_name (i := 0) rfl (.inl rfl) rfl ⟨a, C, rfl, o, n, .inl ⟨ha, fun dx hdx ne => b_nil (q _ dx (fun b o hb nb => ?_) hdx ne upd_same ?_)⟩⟩)))
      · rw [upd_ne nb, upd_ne (ne_of_none hb hdx)]
        exact hb
      · rw [upd_ne ne, upd_same]
        rfl
theorem ok_initKinds {P : Program} {w : World} {K : PySem.W.Frag} {mg : Str → Option Value} {base : Heap} {f C : Addr} {fd : FuncData} (F : Fun K "__init__" "InvalidKinds.__init__" s_InvalidKinds_init f fd) (o : OexC K C) (n : PySem.W.findIn K (.ref C) "kinds" = some none) : FnOk P w K mg base CX0 1 f fd ["self", "kinds"] (spInit C ["kinds"]) := by
  refine F.ok sc_InvalidKinds_init (fun vs H Q E h => ?_) (fun cdv A outer s H vs Q E hr h => ⟨_, wB.ps, ?_⟩)
  · obtain ⟨a, xs, rfl, hl, _⟩ := h
    exact congrArg (· + 1) hl
  · obtain ⟨a, xs, rfl, hl, ha, q⟩ := h
    match xs, hl with
    | [v], _ =>
      refine b_cons (cs_ost (ce_name (i := 1) rfl (.inl rfl) rfl (ce_name (i := 0) rfl (.inl rfl) rfl ⟨a, C, rfl, o, n, .inl ⟨ha, fun dx hdx ne => b_nil (q _ dx (fun b o hb nb => ?_) hdx ne upd_same ?_)⟩⟩)))
      · rw [upd_ne nb, upd_ne (ne_of_none hb hdx)]
        exact hb
      · rw [upd_ne ne, upd_same]
        rfl
theorem ok_initLog {P : Program} {w : World} {K : PySem.W.Frag} {mg : Str → Option Value} {base : Heap} {f C : Addr} {fd : FuncData} (F : Fun K "__init__" "InvalidLog.__init__" s_InvalidLog_init f fd) (o : OexC K C) (n : PySem.W.findIn K (.ref C) "log" = some none) : FnOk P w K mg base CX0 1 f fd ["self", "log"] (spInit C ["log"]) := by
  refine F.ok sc_InvalidLog_init (fun vs H Q E h => ?_) (fun cdv A outer s H vs Q E hr h => ⟨_, wB.ps, ?_⟩)
  · obtain ⟨a, xs, rfl, hl, _⟩ := h
    exact congrArg (· + 1) hl
  · obtain ⟨a, xs, rfl, hl, ha, q⟩ := h
    match xs, hl with
    | [v], _ =>
      refine b_cons (cs_ost (ce_name (i := 1) rfl (.inl rfl) rfl (ce_name (i := 0) rfl (.inl rfl) rfl ⟨a, C, rfl, o, n, .inl ⟨ha, fun dx hdx ne => b_nil (q _ dx (fun b o hb nb => ?_) hdx ne upd_same ?_)⟩⟩)))
      · rw [upd_ne nb, upd_ne (ne_of_none hb hdx)]
        exact hb
      · rw [upd_ne ne, upd_same]
        rfl
theorem noLog {K : PySem.W.Frag} {mg : Str → Option Value} {CN CR CP CM CL : Addr} (R : NRaw K mg CN CR CP CM CL) : NoLog K CL := fun d => by
  cases d with
  | none => exact R.s10
  | bool _ => exact R.s11
  | int _ => exact R.s12
  | str _ => exact R.s13
  | list _ => exact R.s14
  | tuple _ => exact R.s15
  | dict _ => exact R.s16
section
variable {P : Program} {w : World} {K : PySem.W.Frag} {mg : Str → Option Value} {base : Heap}
theorem fit_k {CL CN f : Addr} {fd : FuncData} (F : FunD K "fitting" "Log.fitting" (defArgs s_Log_fitting) (defBody s_Log_fitting) (defScope s_Log_fitting) [] [("wrong", .int 0)] f fd) (m : Meth K CL "fitting" f) (ok : FnOk P w K mg base (L2.CX P w) 6 f fd ["self", "wrong"] (spFit K CL CN)) : MethK P w K mg base (L2.CX P w) CL "fitting" 6 [] gv0 (spFit K CL CN) ∧ MethK P w K mg base (L2.CX P w) CL "fitting" 6 ["wrong"] gv1 (spFit K CL CN) := by
  have h0 := FunD.kbinds0 (ps := ["self", "wrong"]) F 1 [] [(("wrong" : Str), V.int 0)] (fun vs mz _ => vs ++ mz) (by simp) (fun q hq => hq) (fun r1 r2 _ => r1.append r2) fun D doc pm an cdv ct us mv ws h1 h2 h3 => match us, mv, ws, h1, h2, h3 with
    | [u], [m], [], _, _, _ => ⟨_, _, _, _, _, _, rfl, rfl, rfl⟩
  have h1 := FunD.kbinds0 (ps := ["self", "wrong"]) F 1 ["wrong"] [] (fun vs _ zs => vs ++ zs) (by simp) (fun q hq => by cases hq) (fun r1 _ r3 => r1.append r3) fun D doc pm an cdv ct us mv ws h1 h2 h3 => match us, mv, ws, h1, h2, h3 with
    | [u], [], [z], _, _, _ => rfl
  obtain ⟨mv0, k0⟩ := h0
  obtain ⟨mv1, k1⟩ := h1
  exact ⟨⟨f, fd, _, _, m, ok, k0⟩, ⟨f, fd, _, _, m, ok, k1⟩⟩
theorem lcall {CH CL CM CN CR CP f1 c1 f2 c2 : Addr} {T : List (Addr × Str)} {fd1 fd2 : FuncData} (FA : Facts K mg) (HF : HFacts K mg CH) (LF : LFacts K mg CL) (m1 : ME K CL "note" "Log.note" s_Log_note) (m2 : ME K CL "strike" "Log.strike" s_Log_strike) (m3 : ME K CL "lines" "Log.lines" s_Log_lines) (m4 : ME K CL "_wrong_for" "Log._wrong_for" s_Log_wrong_for) (m5 : ME K CL "_fitting_numbers" "Log._fitting_numbers" s_Log_fitting_numbers) (m6 : ME K CH "names_index" "House.names_index" s_House_names_index) (m7 : ME K CH "named" "House.named" s_House_named)
    (FT : FE K CL) (ST : EvK K CH) (KK : KindsK K CH) (SS : Sides K mg w ∧ SidesK K mg w) (BY : ByW K mg) (EN : ECls K mg "InvalidNumber" "InvalidNumber.__init__" s_InvalidNumber_init CN) (EK : ECls K mg "InvalidKinds" "InvalidKinds.__init__" s_InvalidKinds_init CR) (EG : ECls K mg "InvalidLog" "InvalidLog.__init__" s_InvalidLog_init CP) (NR : NRaw K mg CN CR CP CM CL) (F1 : FunC K mg "best_probe" s_best_probe f1 fd1 (.ref c1)) (F2 : FunC K mg "_law_probed" s_law_probed f2 fd2 (.ref c2))
    (lb1 : LamB mg base T (.ref c1) (qL "best_probe" s_best_probe f1 c1)) (lb2 : LamB mg base T (.ref c2) (qL "_law_probed" s_law_probed f2 c2)) : ∃ gF fdF, LawC P w K mg base CL CN CH CR CP CM gF fdF T := by
  have nb := FA.nb
  have nd := NR.gD
  obtain ⟨_, _, a0⟩ := FA.is_integer
  obtain ⟨_, _, a1⟩ := FA.is_number
  obtain ⟨_, _, a2⟩ := FA.check_number
  obtain ⟨_, _, a3⟩ := FA.check_answer
  obtain ⟨_, _, a4⟩ := FA.check_room
  obtain ⟨_, _, a5⟩ := FA.text_of_number
  obtain ⟨_, _, a6⟩ := FA.number_of_text
  obtain ⟨_, _, a7⟩ := FA.is_weight
  obtain ⟨_, _, a8⟩ := FA.is_bag_row
  obtain ⟨_, _, a9⟩ := FA.is_row
  obtain ⟨_, _, a10⟩ := FA.is_place
  obtain ⟨_, _, a11⟩ := FA.check_row
  obtain ⟨_, _, a12⟩ := FA.check_place
  obtain ⟨_, _, a13⟩ := FA.third_kinds
  obtain ⟨_, _, a14⟩ := FA.present_kinds
  obtain ⟨_, _, a15⟩ := FA.texts_of
  obtain ⟨_, _, a16⟩ := FA.kinds_number
  obtain ⟨_, _, a17⟩ := FA.frees
  obtain ⟨_, _, a18⟩ := FA.check_kinds
  obtain ⟨_, _, a19⟩ := FA.probe_of
  obtain ⟨_, _, a20⟩ := FA.probe
  obtain ⟨_, _, a21⟩ := FA.greater_part
  obtain ⟨_, _, a22⟩ := FA.law_cell
  obtain ⟨_, _, a23⟩ := FA.law_box
  obtain ⟨_, _, a24⟩ := FA.law_take
  obtain ⟨_, _, a25⟩ := FA.law_row
  obtain ⟨_, _, a26⟩ := FA.law_mask
  obtain ⟨_, _, a27⟩ := FA.law_alike
  obtain ⟨_, _, a28⟩ := FA.law_line
  obtain ⟨_, _, a29⟩ := FA.law_fits
  obtain ⟨_, _, a30⟩ := FA.law_probe
  obtain ⟨_, _, a31⟩ := FA.law_best
  obtain ⟨_, _, a32⟩ := FA.law_kinds
  obtain ⟨_, _, a33⟩ := FA.law_faults
  obtain ⟨_, _, a34⟩ := FA.law_spoilt
  obtain ⟨_, _, a35⟩ := FA.law_best_fits
  obtain ⟨_, gW⟩ := FA.gW
  obtain ⟨_, gS⟩ := FA.gS
  have cnot : Cl P w K mg base CX0 1 "number_of_text" _ := cl_number_of_text a6 nb SS.1
  have cton : Cl P w K mg base CX0 1 "text_of_number" _ := cl_text_of_number a5 nb SS.2
  have cint : Cl P w K mg base CX0 1 "is_integer" _ := cl_is_integer a0 nb
  have cnum := cl_is_number a1 cint
  have cwei := cl_is_weight a7 cnum gW
  have cbag := cl_is_bag_row a8 nb cwei gS
  have crow := cl_is_row a9 nb cbag
  have ccro := cl_check_row a11 crow
  have cpla := cl_is_place a10 nb cnum
  have ccpl := cl_check_place a12 cpla
  have cans : Cl P w K mg base CX0 1 "check_answer" _ := cl_check_answer a3
  have croo : Cl P w K mg base CX0 1 "check_room" _ := cl_check_room a4
  have cthi : Cl P w K mg base CX0 1 "_third_kinds" _ := cl_third_kinds a13 nb
  have cpre := cl_present_kinds a14 nb cthi
  have ckin := cl_kinds_number a16 nb cpre
  have cfre : Cl P w K mg base CX0 1 "_frees" _ := cl_frees a17
  have ctex := cl_texts_of a15 cton
  obtain ⟨fen, fden, ien1, ien2, ien3⟩ := EN.i
  have en : ErrC P w K mg base "InvalidNumber" CN ["number"] := ⟨EN.g, EN.o, EN.xf, fun f hf => by
    cases List.mem_singleton.mp hf
    exact NR.nN, fen, fden, _, ien1, ien2, ok_initNumber ien3 EN.o NR.nN, ien3.binds fun _ _ _ _ _ _ us hl => match us, hl with | [_, _], _ => rfl⟩
  obtain ⟨fek, fdek, iek1, iek2, iek3⟩ := EK.i
  have ek : ErrC P w K mg base "InvalidKinds" CR ["kinds"] := ⟨EK.g, EK.o, EK.xf, fun f hf => by
    cases List.mem_singleton.mp hf
    exact NR.nR, fek, fdek, _, iek1, iek2, ok_initKinds iek3 EK.o NR.nR, iek3.binds fun _ _ _ _ _ _ us hl => match us, hl with | [_, _], _ => rfl⟩
  obtain ⟨feg, fdeg, ieg1, ieg2, ieg3⟩ := EG.i
  have eg : ErrC P w K mg base "InvalidLog" CP ["log"] := ⟨EG.g, EG.o, EG.xf, fun f hf => by
    cases List.mem_singleton.mp hf
    exact NR.nP, feg, fdeg, _, ieg1, ieg2, ok_initLog ieg3 EG.o NR.nP, ieg3.binds fun _ _ _ _ _ _ us hl => match us, hl with | [_, _], _ => rfl⟩
  have cchk := cl_check_number a2 cnum en
  obtain ⟨fi, fdi, i1, i2⟩ := HF.init
  have mkH : MkH P w K mg base CH := ⟨fi, fdi, i1, ok_hinit i2 HF.hc cnot, i2.binds fun _ _ _ _ _ _ us hl => match us, hl with | [_, _], _ => rfl⟩
  obtain ⟨fl, fdl, j1, j2⟩ := LF.init
  have LB := LF.lc
  have mkL : MkL P w K mg base CL := ⟨fl, fdl, j1, ok_linit j2 LB, j2.binds fun _ _ _ _ _ _ us hl => match us, hl with | [_], _ => rfl⟩
  obtain ⟨fs, fds, ps, mcs, rests, rs, ds, vs, ks, us⟩ := ST.ex
  have ev : StatS P w K mg base CH "every" 4 (spEv CH) := ⟨fs, fds, [], ps, mcs, rests, rs, ds, vs, ks, ok_every us nb cton mkH HF.gH FA.gH, us.binds fun _ _ _ _ _ _ us hl => match us, hl with | [], _ => rfl⟩
  obtain ⟨_, _, p1, q1⟩ := m1
  obtain ⟨_, _, p2, q2⟩ := m2
  obtain ⟨_, _, p3, q3⟩ := m3
  obtain ⟨_, _, p4, q4⟩ := m4
  obtain ⟨_, _, p5, q5⟩ := m5
  obtain ⟨_, _, p6, q6⟩ := m6
  obtain ⟨_, _, p7, q7⟩ := m7
  obtain ⟨ff, fdf, pf, qf⟩ := FT
  have Mw : MethS P w K mg base CX0 CL "_wrong_for" 2 ["self", "number"] (spWrong K CL) := ⟨_, _, p4, ok_wrong_for q4 nb LB cfre, q4.binds fun _ _ _ _ _ _ us hl => match us, hl with | [_, _], _ => rfl⟩
  have Mf : MethS P w K mg base CX0 CL "_fitting_numbers" 5 ["self", "wrong"] (spFitN K CL) := ⟨_, _, p5, ok_fitting_numbers q5 nb LB HF.hc HF.gH ev Mw, q5.binds fun _ _ _ _ _ _ us hl => match us, hl with | [_, _], _ => rfl⟩
  have Fk := (fit_k qf pf (ok_fitting qf nb LB FA.gM cchk ctex Mf)).1
  have LM : LogM P w K mg base CL CN CH := ⟨nb, LB, HF.hc, LF.gL, mkL, HF.gH, mkH, ⟨_, _, p1, ok_note q1 nb LB FA.gM ccro ccpl cans croo ckin, q1.binds fun _ _ _ _ _ _ us hl => match us, hl with | [_, _, _, _], _ => rfl⟩, ⟨_, _, p2, (ok_strike q2 nb LB cchk).mono (by decide), q2.binds fun _ _ _ _ _ _ us hl => match us, hl with | [_, _], _ => rfl⟩, ⟨_, _, p3, ok_lines q3 nb LB, q3.binds fun _ _ _ _ _ _ us hl => match us, hl with | [_], _ => rfl⟩, Fk⟩
  have Mb : MethS P w K mg base CX0 CH "names_index" 1 ["self", "index"] (spBit CH) := ⟨_, _, p6, ok_bit q6 HF.hc, q6.binds fun _ _ _ _ _ _ us hl => match us, hl with | [_, _], _ => rfl⟩
  have Mn : MethS P w K mg base CX0 CH "named" 2 ["self"] _ := ⟨_, _, p7, ok_named q7 nb HF.hc HF.gH KK Mb, q7.binds fun _ _ _ _ _ _ us hl => match us, hl with | [_], _ => rfl⟩
  have lcel : Cl P w K mg base CX0 1 "_law_cell" _ := cl_law_cell a22 nb
  have lbox := cl_law_box a23 nb lcel
  have ltak : Cl P w K mg base CX0 1 "_law_take" _ := cl_law_take a24 nb
  have lrow := cl_law_row a25 nb ltak
  have lmas : Cl P w K mg base CX0 1 "_law_mask" _ := cl_law_mask a26 nb
  have llin := cl_law_line a28 nb ltak lrow lmas
  have lfts : Cl P w K mg base CX0 1 "_law_fits" _ := cl_law_fts a29 nb
  have lprb : Cl P w K mg base CX0 1 "_law_probe" _ := cl_law_probe a30 nb
  have lbst := cl_law_bst a31 nb lfts
  have lkin := cl_law_kinds a32 nb ltak
  have lspo := cl_law_spoilt a34 nb ltak
  have cprb : Cl P w K mg base CX0 1 "_probe_of" _ := cl_probe_of a19 nb BY
  have cckk : Cl P w K mg base CX0 1 "_check_kinds" _ := cl_check_kinds a18 nb HF.gH KK
  have cgrt : Cl P w K mg base CX0 1 "_greater_part" _ := cl_greater a21 nb
  have cpro := cl_probe a20 cckk cprb
  have cprx := cl_probeX a20 (cl_check_kindsX a18 nb HF.gH KK ek)
  have PC : BpC P w K mg base CL CN CH := ⟨LM, cnot, ev, Mn, cgrt, cprb⟩
  have cbp : Cl P w K mg base CX0 8 "best_probe" (spBP K CL T) := cl_best_probe F1 PC lb1
  have cbx := cl_best_probeX (P := P) (w := w) (base := base) ⟨F1.fn, F1.gl⟩ nb LF.gL (noLog NR) eg
  have To : ErN K mg CR CP CM := ⟨EK.g, EG.g, NR.gM, NR.gV, ⟨EK.xf.ga, EK.xf.gg, EK.be, EK.xf.hdC, NR.hR, NR.hn, NR.ht, NR.mR⟩, ⟨EG.xf.ga, EG.xf.gg, EG.be, EG.xf.hdC, NR.hP, NR.hn, NR.ht, NR.mP⟩, EK.xf, EG.xf, NR.nR, NR.nP, exm_of EK.be NR.bM NR.cM NR.tM NR.aR, exm_of EG.be NR.bM NR.cM NR.tM NR.aP, NR.s04, NR.s05, NR.s06, NR.s07, NR.s08, NR.s09⟩
  have lalk : Cl P w K mg base CX0 6 "_law_alike" (PureR K (R_alk 5)) := cl_law_alike a27 nb nd 5
  have lsd : Cl P w K mg base CX0 3 "_law_alike" (spSame (SeqS (SeqS SD))) := same_seq (seq_mono sd_mono) a27 nb nd (same_seq sd_mono a27 nb nd (same_sd a27 nb nd))
  have lpd : Cl P w K mg base CX0 9 "_law_probed" (spProbed T) := cl_law_probed F2 lb2 ⟨nb, To, a33, ltak, lkin, lspo, lprb, cpro, cprx, lalk, lsd⟩
  have lbf := cl_law_bf a35 LM lprb lalk cbp
  exact ⟨_, _, LM, To, a33, lbox, ltak, llin, lbst, cbp, cbx, lbf, lpd, lalk⟩
end
theorem law_at {l : PySem.W.OpenLaw} {w : World} {K : PySem.W.Frag} {h : Heap} {mg : Str → Option Value} {fa CH CL CM CN CR CP f1 c1 P1 f2 c2 P2 f3 c3 P3 : Addr} (hfa : mg "law" = some (.ref fa)) (A : Facts K mg) (HF : HFacts K mg CH) (LF : LFacts K mg CL) (m1 : ME K CL "note" "Log.note" s_Log_note) (m2 : ME K CL "strike" "Log.strike" s_Log_strike) (m3 : ME K CL "lines" "Log.lines" s_Log_lines) (m4 : ME K CL "_wrong_for" "Log._wrong_for" s_Log_wrong_for) (m5 : ME K CL "_fitting_numbers" "Log._fitting_numbers" s_Log_fitting_numbers) (m6 : ME K CH "names_index" "House.names_index" s_House_names_index) (m7 : ME K CH "named" "House.named" s_House_named)
    (FT : FE K CL) (ST : EvK K CH) (KK : KindsK K CH) (SS : Sides K mg w ∧ SidesK K mg w) (BY : ByW K mg) (EN : ECls K mg "InvalidNumber" "InvalidNumber.__init__" s_InvalidNumber_init CN) (EK : ECls K mg "InvalidKinds" "InvalidKinds.__init__" s_InvalidKinds_init CR) (EG : ECls K mg "InvalidLog" "InvalidLog.__init__" s_InvalidLog_init CP) (NR : NRaw K mg CN CR CP CM CL)
    (l1 : LamF K mg h "best_probe" s_best_probe f1 c1 P1) (l2 : LamF K mg h "_law_probed" s_law_probed f2 c2 P2) (l3 : LamF K mg h "law" s_law f3 c3 P3) (n12 : P1 ≠ P2) (n13 : P1 ≠ P3) (n23 : P2 ≠ P3) : LamX.LawAtS l w K CX0 11 63 "script" mg fa h := by
  obtain ⟨fd, AL⟩ := l3.fn
  have e := hfa.symm.trans AL.gl
  cases e
  obtain ⟨oc, od, kV, doc, pm, an, ct, osl, e1, lk, _⟩ := AL.ex
  refine ⟨fd, [(c1, P1), (c2, P2), (c3, P3)], spLaw K [(P1, qL "best_probe" s_best_probe f1 c1), (P2, qL "_law_probed" s_law_probed f2 c2), (P3, qL "law" s_law fa c3)], ?_, ?_, ?_, ?_, ?_, ?_⟩
  · simp only [List.mem_cons, List.not_mem_nil, or_false]
    rintro p (rfl | rfl | rfl)
    · exact l1.tb
    · exact l2.tb
    · exact l3.tb
  · simp only [List.mem_cons, List.not_mem_nil, or_false]
    rintro p (rfl | rfl | rfl)
    · exact l1.no
    · exact l2.no
    · exact l3.no
  · simp only [List.mem_cons, List.not_mem_nil, or_false]
    rintro p (rfl | rfl | rfl)
    · exact l1.hd
    · exact l2.hd
    · exact l3.hd
  · intro s u
    rw [e1]
    exact .of_eq rfl
  · intro H a ns hl _ ht hS
    refine ⟨a, ns, rfl, hS, hl, ?_, fun _ => rfl⟩
    intro p hp
    simp only [List.mem_cons, List.not_mem_nil, or_false] at hp
    rcases hp with rfl | rfl | rfl
    · exact LamX.TabS.nil (ht (c1, P1) (by simp))
    · exact LamX.TabS.nil (ht (c2, P2) (by simp))
    · exact LamX.TabS.nil (ht (c3, P3) (by simp))
  · intro base KB GB tb
    obtain ⟨fd1, F1⟩ := l1.fn
    obtain ⟨fd2, F2⟩ := l2.fn
    obtain ⟨_, _, LC⟩ := lcall (P := l.prog) (w := w) (base := base) (T := [(P1, qL "best_probe" s_best_probe f1 c1), (P2, qL "_law_probed" s_law_probed f2 c2), (P3, qL "law" s_law fa c3)]) A HF LF m1 m2 m3 m4 m5 m6 m7 FT ST KK SS BY EN EK EG NR F1 F2 ⟨c1, P1, rfl, tb (c1, P1) (by simp), by simp [qL], by
      simp only [List.mem_cons, List.not_mem_nil, or_false]
      rintro p (rfl | rfl | rfl) e
      · rfl
      · exact absurd e.symm n12
      · exact absurd e.symm n13⟩ ⟨c2, P2, rfl, tb (c2, P2) (by simp), by simp [qL], by
      simp only [List.mem_cons, List.not_mem_nil, or_false]
      rintro p (rfl | rfl | rfl) e
      · exact absurd e n12
      · rfl
      · exact absurd e.symm n23⟩
    exact ok_law AL LC ⟨c3, P3, rfl, tb (c3, P3) (by simp), by simp [qL], by
      simp only [List.mem_cons, List.not_mem_nil, or_false]
      rintro p (rfl | rfl | rfl) e
      · exact absurd e n13
      · exact absurd e n23
      · rfl⟩
end YK

open PySem PySem.W PyProof.Rows in
set_option maxRecDepth 100000 in
set_option maxHeartbeats 0 in
theorem PySem.Challenge.cw_millbrook_k50_probes_holds : PySem.Challenge.rw_millbrook_k50_probes.Holds := by
  w_on; o_law; k_head; (case hw => w_witness2)
  k_fill
  refine LamX.walk_ofTs (l := PySem.Challenge.rw_millbrook_k50_probes) (n := 63) (k := 11) (x := "script") (CX := fun _ => L2.CX0) rfl (by rw [sizeLine_eq]; decide) rfl ⟨rfl, by decide, by decide⟩ (fun w h Y => PySem.W.km_in_of Y) ?F (fun _ _ _ _ _ z => z)
  case F =>
    intro w mg fa h Y KX G hmg
    have TB := PySem.W.km_tabs_of Y
    refine' YK.law_at hmg ⟨⟨PySem.W.mg_none_of KX G ?z_0, PySem.W.mg_none_of KX G ?z_1, PySem.W.mg_none_of KX G ?z_2, PySem.W.mg_none_of KX G ?z_3, PySem.W.mg_none_of KX G ?z_4, PySem.W.mg_none_of KX G ?z_5, PySem.W.mg_none_of KX G ?z_6, PySem.W.mg_none_of KX G ?z_7, PySem.W.mg_none_of KX G ?z_8, PySem.W.mg_none_of KX G ?z_9, PySem.W.mg_none_of KX G ?z_10, PySem.W.mg_none_of KX G ?z_11, PySem.W.mg_none_of KX G ?z_12, PySem.W.mg_none_of KX G ?z_13, PySem.W.mg_none_of KX G ?z_14, PySem.W.mg_none_of KX G ?z_15, PySem.W.mg_none_of KX G ?z_16⟩, YK.at_mk KX G ?a_17 ?l_18 ?c_19 ?k_20, YK.at_mk KX G ?a_21 ?l_22 ?c_23 ?k_24, YK.at_mk KX G ?a_25 ?l_26 ?c_27 ?k_28, YK.at_mk KX G ?a_29 ?l_30 ?c_31 ?k_32, YK.at_mk KX G ?a_33 ?l_34 ?c_35 ?k_36, YK.at_mk KX G ?a_37 ?l_38 ?c_39 ?k_40, YK.at_mk KX G ?a_41 ?l_42 ?c_43 ?k_44, YK.at_mk KX G ?a_45 ?l_46 ?c_47 ?k_48, YK.at_mk KX G ?a_49 ?l_50 ?c_51 ?k_52, YK.at_mk KX G ?a_53 ?l_54 ?c_55 ?k_56, YK.at_mk KX G ?a_57 ?l_58 ?c_59 ?k_60, YK.at_mk KX G ?a_61 ?l_62 ?c_63 ?k_64, YK.at_mk KX G ?a_65 ?l_66 ?c_67 ?k_68, YK.at_mk KX G ?a_69 ?l_70 ?c_71 ?k_72, YK.at_mk KX G ?a_73 ?l_74 ?c_75 ?k_76, YK.at_mk KX G ?a_77 ?l_78 ?c_79 ?k_80, YK.at_mk KX G ?a_81 ?l_82 ?c_83 ?k_84, YK.at_mk KX G ?a_85 ?l_86 ?c_87 ?k_88, YK.at_mk KX G ?a_89 ?l_90 ?c_91 ?k_92, YK.at_mk KX G ?a_93 ?l_94 ?c_95 ?k_96, YK.at_mk KX G ?a_97 ?l_98 ?c_99 ?k_100, YK.at_mk KX G ?a_101 ?l_102 ?c_103 ?k_104, YK.at_mk KX G ?a_105 ?l_106 ?c_107 ?k_108, YK.at_mk KX G ?a_109 ?l_110 ?c_111 ?k_112, YK.at_mk KX G ?a_113 ?l_114 ?c_115 ?k_116, YK.at_mk KX G ?a_117 ?l_118 ?c_119 ?k_120, YK.at_mk KX G ?a_121 ?l_122 ?c_123 ?k_124, YK.at_mk KX G ?a_125 ?l_126 ?c_127 ?k_128, YK.at_mk KX G ?a_129 ?l_130 ?c_131 ?k_132, YK.at_mk KX G ?a_133 ?l_134 ?c_135 ?k_136, YK.at_mk KX G ?a_137 ?l_138 ?c_139 ?k_140, YK.at_mk KX G ?a_141 ?l_142 ?c_143 ?k_144, YK.at_mk KX G ?a_145 ?l_146 ?c_147 ?k_148, YK.at_mk KX G ?a_149 ?l_150 ?c_151 ?k_152, YK.at_mk KX G ?a_153 ?l_154 ?c_155 ?k_156, YK.at_mk KX G ?a_157 ?l_158 ?c_159 ?k_160, YK.gi_mk KX G ?g_161, YK.gi_mk KX G ?g_162, YK.gi_mk KX G ?g_163, YK.gi_mk KX G ?g_164⟩ (YK.hf_mk KX G ?e_165 ?e_166 ?e_167 ?e_168 ?e_169 ?e_170 ?e_171 ?e_172 ?e_173 ?e_174 ?e_175 ?e_176 ?e_177 ?sub_178 ?e_179 ?e_180 ?e_181 ?e_182 ?e_183) (YK.lf_mk KX G ?e_184 ?e_185 ?e_186 ?e_187 ?e_188 ?e_189 ?e_190 ?e_191 ?e_192 ?e_193 ?e_194 ?e_195 ?e_196 ?sub_197 ?e_198 ?e_199 ?e_200 ?e_201 ?e_202) (YK.me_mk KX G ?e_203 ?e_204 ?e_205 ?e_206 ?e_207) (YK.me_mk KX G ?e_208 ?e_209 ?e_210 ?e_211 ?e_212) (YK.me_mk KX G ?e_213 ?e_214 ?e_215 ?e_216 ?e_217) (YK.me_mk KX G ?e_218 ?e_219 ?e_220 ?e_221 ?e_222) (YK.me_mk KX G ?e_223 ?e_224 ?e_225 ?e_226 ?e_227) (YK.me_mk KX G ?e_228 ?e_229 ?e_230 ?e_231 ?e_232) (YK.me_mk KX G ?e_233 ?e_234 ?e_235 ?e_236 ?e_237) (YK.ft_mk KX G ?e_238 ?e_239 ?e_240 ?e_241 ?e_242 ?e_243) (YK.st_mk KX G ?e_244 ?e_245 ?e_246 ?e_247 ?e_248 ?e_249 ?e_250) (YK.kk_mk KX G ?e_251 ?e_252 ?e_253 ?e_254 ?low_255 ?v6_256) (YK.sd_mk KX G ?e_257 ?e_258 ?kl_259 ?low_260 ?e_261 ?e_262 ?e_263 ?e_264 ?e_265 ?e_266 ?e_267 ?e_268 ?kt_269) (YK.bw_mk KX G ?e_270 ?e_271 ?low_272 ?v8_273 ?e_274 ?e_275 ?low_276 ?v8_277) (YK.ec_mk KX G ?e_278 ?e_279 ?dec_280 ?e_281 ?e_282 ?e_283 ?e_284 ?e_285 ?e_286 ?e_287 ?e_288 ?e_289 ?e_290 ?e_291 ?e_292 ?e_293) (YK.ec_mk KX G ?e_294 ?e_295 ?dec_296 ?e_297 ?e_298 ?e_299 ?e_300 ?e_301 ?e_302 ?e_303 ?e_304 ?e_305 ?e_306 ?e_307 ?e_308 ?e_309) (YK.ec_mk KX G ?e_310 ?e_311 ?dec_312 ?e_313 ?e_314 ?e_315 ?e_316 ?e_317 ?e_318 ?e_319 ?e_320 ?e_321 ?e_322 ?e_323 ?e_324 ?e_325) (YK.nr_mk KX G ?e_326 ?e_327 ?e_328 ?e_329 ?e_330 ?e_331 ?e_332 ?e_333 ?e_334 ?e_335 ?e_336 ?e_337 ?e_338 ?e_339 ?e_340 ?e_341 ?e_342 ?sub_343 ?sub_344 ?sub_345 ?sub_346 ?sub_347 ?sub_348 ?sub_349 ?sub_350 ?sub_351 ?sub_352 ?sub_353 ?sub_354 ?sub_355) (YK.lam_mk (Pt := 593) KX G ?m_356 ?m_357 ?m_358 ?m_359 ?hd_360 ?tab_361 ?no_362) (YK.lam_mk (Pt := 681) KX G ?m_363 ?m_364 ?m_365 ?m_366 ?hd_367 ?tab_368 ?no_369) (YK.lam_mk (Pt := 693) KX G ?m_370 ?m_371 ?m_372 ?m_373 ?hd_374 ?tab_375 ?no_376) (by decide) (by decide) (by decide)
    (case z_0 => k_is)
    (case z_1 => k_is)
    (case z_2 => k_is)
    (case z_3 => k_is)
    (case z_4 => k_is)
    (case z_5 => k_is)
    (case z_6 => k_is)
    (case z_7 => k_is)
    (case z_8 => k_is)
    (case z_9 => k_is)
    (case z_10 => k_is)
    (case z_11 => k_is)
    (case z_12 => k_is)
    (case z_13 => k_is)
    (case z_14 => k_is)
    (case z_15 => k_is)
    (case z_16 => k_is)
    (case a_17 => k_is)
    (case l_18 => k_is)
    (case c_19 => k_is)
    (case k_20 => k_is)
    (case a_21 => k_is)
    (case l_22 => k_is)
    (case c_23 => k_is)
    (case k_24 => k_is)
    (case a_25 => k_is)
    (case l_26 => k_is)
    (case c_27 => k_is)
    (case k_28 => k_is)
    (case a_29 => k_is)
    (case l_30 => k_is)
    (case c_31 => k_is)
    (case k_32 => k_is)
    (case a_33 => k_is)
    (case l_34 => k_is)
    (case c_35 => k_is)
    (case k_36 => k_is)
    (case a_37 => k_is)
    (case l_38 => k_is)
    (case c_39 => k_is)
    (case k_40 => k_is)
    (case a_41 => k_is)
    (case l_42 => k_is)
    (case c_43 => k_is)
    (case k_44 => k_is)
    (case a_45 => k_is)
    (case l_46 => k_is)
    (case c_47 => k_is)
    (case k_48 => k_is)
    (case a_49 => k_is)
    (case l_50 => k_is)
    (case c_51 => k_is)
    (case k_52 => k_is)
    (case a_53 => k_is)
    (case l_54 => k_is)
    (case c_55 => k_is)
    (case k_56 => k_is)
    (case a_57 => k_is)
    (case l_58 => k_is)
    (case c_59 => k_is)
    (case k_60 => k_is)
    (case a_61 => k_is)
    (case l_62 => k_is)
    (case c_63 => k_is)
    (case k_64 => k_is)
    (case a_65 => k_is)
    (case l_66 => k_is)
    (case c_67 => k_is)
    (case k_68 => k_is)
    (case a_69 => k_is)
    (case l_70 => k_is)
    (case c_71 => k_is)
    (case k_72 => k_is)
    (case a_73 => k_is)
    (case l_74 => k_is)
    (case c_75 => k_is)
    (case k_76 => k_is)
    (case a_77 => k_is)
    (case l_78 => k_is)
    (case c_79 => k_is)
    (case k_80 => k_is)
    (case a_81 => k_is)
    (case l_82 => k_is)
    (case c_83 => k_is)
    (case k_84 => k_is)
    (case a_85 => k_is)
    (case l_86 => k_is)
    (case c_87 => k_is)
    (case k_88 => k_is)
    (case a_89 => k_is)
    (case l_90 => k_is)
    (case c_91 => k_is)
    (case k_92 => k_is)
    (case a_93 => k_is)
    (case l_94 => k_is)
    (case c_95 => k_is)
    (case k_96 => k_is)
    (case a_97 => k_is)
    (case l_98 => k_is)
    (case c_99 => k_is)
    (case k_100 => k_is)
    (case a_101 => k_is)
    (case l_102 => k_is)
    (case c_103 => k_is)
    (case k_104 => k_is)
    (case a_105 => k_is)
    (case l_106 => k_is)
    (case c_107 => k_is)
    (case k_108 => k_is)
    (case a_109 => k_is)
    (case l_110 => k_is)
    (case c_111 => k_is)
    (case k_112 => k_is)
    (case a_113 => k_is)
    (case l_114 => k_is)
    (case c_115 => k_is)
    (case k_116 => k_is)
    (case a_117 => k_is)
    (case l_118 => k_is)
    (case c_119 => k_is)
    (case k_120 => k_is)
    (case a_121 => k_is)
    (case l_122 => k_is)
    (case c_123 => k_is)
    (case k_124 => k_is)
    (case a_125 => k_is)
    (case l_126 => k_is)
    (case c_127 => k_is)
    (case k_128 => k_is)
    (case a_129 => k_is)
    (case l_130 => k_is)
    (case c_131 => k_is)
    (case k_132 => k_is)
    (case a_133 => k_is)
    (case l_134 => k_is)
    (case c_135 => k_is)
    (case k_136 => k_is)
    (case a_137 => k_is)
    (case l_138 => k_is)
    (case c_139 => k_is)
    (case k_140 => k_is)
    (case a_141 => k_is)
    (case l_142 => k_is)
    (case c_143 => k_is)
    (case k_144 => k_is)
    (case a_145 => k_is)
    (case l_146 => k_is)
    (case c_147 => k_is)
    (case k_148 => k_is)
    (case a_149 => k_is)
    (case l_150 => k_is)
    (case c_151 => k_is)
    (case k_152 => k_is)
    (case a_153 => k_is)
    (case l_154 => k_is)
    (case c_155 => k_is)
    (case k_156 => k_is)
    (case a_157 => k_is)
    (case l_158 => k_is)
    (case c_159 => k_is)
    (case k_160 => k_is)
    (case g_161 => k_is)
    (case g_162 => k_is)
    (case g_163 => k_is)
    (case g_164 => k_is)
    (case e_165 => k_is)
    (case e_166 => k_is)
    (case e_167 => k_is)
    (case e_168 => k_is)
    (case e_169 => k_is)
    (case e_170 => k_is)
    (case e_171 => k_is)
    (case e_172 => k_is)
    (case e_173 => k_is)
    (case e_174 => k_is)
    (case e_175 => k_is)
    (case e_176 => k_is)
    (case e_177 => k_is)
    (case sub_178 => first | rfl | k_is)
    (case e_179 => k_is)
    (case e_180 => k_is)
    (case e_181 => k_is)
    (case e_182 => k_is)
    (case e_183 => k_is)
    (case e_184 => k_is)
    (case e_185 => k_is)
    (case e_186 => k_is)
    (case e_187 => k_is)
    (case e_188 => k_is)
    (case e_189 => k_is)
    (case e_190 => k_is)
    (case e_191 => k_is)
    (case e_192 => k_is)
    (case e_193 => k_is)
    (case e_194 => k_is)
    (case e_195 => k_is)
    (case e_196 => k_is)
    (case sub_197 => first | rfl | k_is)
    (case e_198 => k_is)
    (case e_199 => k_is)
    (case e_200 => k_is)
    (case e_201 => k_is)
    (case e_202 => k_is)
    (case e_203 => k_is)
    (case e_204 => k_is)
    (case e_205 => k_is)
    (case e_206 => k_is)
    (case e_207 => k_is)
    (case e_208 => k_is)
    (case e_209 => k_is)
    (case e_210 => k_is)
    (case e_211 => k_is)
    (case e_212 => k_is)
    (case e_213 => k_is)
    (case e_214 => k_is)
    (case e_215 => k_is)
    (case e_216 => k_is)
    (case e_217 => k_is)
    (case e_218 => k_is)
    (case e_219 => k_is)
    (case e_220 => k_is)
    (case e_221 => k_is)
    (case e_222 => k_is)
    (case e_223 => k_is)
    (case e_224 => k_is)
    (case e_225 => k_is)
    (case e_226 => k_is)
    (case e_227 => k_is)
    (case e_228 => k_is)
    (case e_229 => k_is)
    (case e_230 => k_is)
    (case e_231 => k_is)
    (case e_232 => k_is)
    (case e_233 => k_is)
    (case e_234 => k_is)
    (case e_235 => k_is)
    (case e_236 => k_is)
    (case e_237 => k_is)
    (case e_238 => k_is)
    (case e_239 => k_is)
    (case e_240 => k_is)
    (case e_241 => k_is)
    (case e_242 => k_is)
    (case e_243 => k_is)
    (case e_244 => k_is)
    (case e_245 => k_is)
    (case e_246 => k_is)
    (case e_247 => k_is)
    (case e_248 => k_is)
    (case e_249 => k_is)
    (case e_250 => k_is)
    (case e_251 => k_is)
    (case e_252 => k_is)
    (case e_253 => k_is)
    (case e_254 => k_is)
    (case low_255 => first | decide | decide +kernel)
    (case v6_256 => exact .cons ⟨_, rfl⟩ (.cons ⟨_, rfl⟩ (.cons ⟨_, rfl⟩ (.cons ⟨_, rfl⟩ (.cons ⟨_, rfl⟩ (.cons ⟨_, rfl⟩ (.nil)))))))
    (case e_257 => k_is)
    (case e_258 => k_is)
    (case kl_259 => exact ⟨⟨_, _, rfl, rfl⟩, ⟨_, _, rfl, rfl⟩, ⟨_, _, rfl, rfl⟩, ⟨_, _, rfl, rfl⟩, ⟨_, _, rfl, rfl⟩, ⟨_, _, rfl, rfl⟩, ⟨_, _, rfl, rfl⟩, ⟨_, _, rfl, rfl⟩, True.intro⟩)
    (case low_260 => first | decide | decide +kernel)
    (case e_261 => k_is)
    (case e_262 => k_is)
    (case e_263 => k_is)
    (case e_264 => k_is)
    (case e_265 => k_is)
    (case e_266 => k_is)
    (case e_267 => k_is)
    (case e_268 => k_is)
    (case kt_269 => exact .cons ⟨_, rfl⟩ (.cons ⟨_, rfl⟩ (.cons ⟨_, rfl⟩ (.cons ⟨_, rfl⟩ (.cons ⟨_, rfl⟩ (.cons ⟨_, rfl⟩ (.cons ⟨_, rfl⟩ (.cons ⟨_, rfl⟩ (.nil)))))))))
    (case e_270 => k_is)
    (case e_271 => k_is)
    (case low_272 => first | decide | decide +kernel)
    (case v8_273 => exact .cons ⟨_, rfl⟩ (.cons ⟨_, rfl⟩ (.cons ⟨_, rfl⟩ (.cons ⟨_, rfl⟩ (.cons ⟨_, rfl⟩ (.cons ⟨_, rfl⟩ (.cons ⟨_, rfl⟩ (.cons ⟨_, rfl⟩ (.nil)))))))))
    (case e_274 => k_is)
    (case e_275 => k_is)
    (case low_276 => first | decide | decide +kernel)
    (case v8_277 => exact .cons ⟨_, rfl⟩ (.cons ⟨_, rfl⟩ (.cons ⟨_, rfl⟩ (.cons ⟨_, rfl⟩ (.cons ⟨_, rfl⟩ (.cons ⟨_, rfl⟩ (.cons ⟨_, rfl⟩ (.cons ⟨_, rfl⟩ (.nil)))))))))
    (case e_278 => k_is)
    (case e_279 => k_is)
    (case dec_280 => decide +kernel)
    (case e_281 => k_is)
    (case e_282 => k_is)
    (case e_283 => k_is)
    (case e_284 => k_is)
    (case e_285 => k_is)
    (case e_286 => k_is)
    (case e_287 => k_is)
    (case e_288 => k_is)
    (case e_289 => k_is)
    (case e_290 => k_is)
    (case e_291 => k_is)
    (case e_292 => k_is)
    (case e_293 => k_is)
    (case e_294 => k_is)
    (case e_295 => k_is)
    (case dec_296 => decide +kernel)
    (case e_297 => k_is)
    (case e_298 => k_is)
    (case e_299 => k_is)
    (case e_300 => k_is)
    (case e_301 => k_is)
    (case e_302 => k_is)
    (case e_303 => k_is)
    (case e_304 => k_is)
    (case e_305 => k_is)
    (case e_306 => k_is)
    (case e_307 => k_is)
    (case e_308 => k_is)
    (case e_309 => k_is)
    (case e_310 => k_is)
    (case e_311 => k_is)
    (case dec_312 => decide +kernel)
    (case e_313 => k_is)
    (case e_314 => k_is)
    (case e_315 => k_is)
    (case e_316 => k_is)
    (case e_317 => k_is)
    (case e_318 => k_is)
    (case e_319 => k_is)
    (case e_320 => k_is)
    (case e_321 => k_is)
    (case e_322 => k_is)
    (case e_323 => k_is)
    (case e_324 => k_is)
    (case e_325 => k_is)
    (case e_326 => k_is)
    (case e_327 => k_is)
    (case e_328 => k_is)
    (case e_329 => k_is)
    (case e_330 => k_is)
    (case e_331 => k_is)
    (case e_332 => k_is)
    (case e_333 => k_is)
    (case e_334 => k_is)
    (case e_335 => k_is)
    (case e_336 => k_is)
    (case e_337 => k_is)
    (case e_338 => k_is)
    (case e_339 => k_is)
    (case e_340 => k_is)
    (case e_341 => k_is)
    (case e_342 => k_is)
    (case sub_343 => first | rfl | k_is)
    (case sub_344 => first | rfl | k_is)
    (case sub_345 => first | rfl | k_is)
    (case sub_346 => first | rfl | k_is)
    (case sub_347 => first | rfl | k_is)
    (case sub_348 => first | rfl | k_is)
    (case sub_349 => first | rfl | k_is)
    (case sub_350 => first | rfl | k_is)
    (case sub_351 => first | rfl | k_is)
    (case sub_352 => first | rfl | k_is)
    (case sub_353 => first | rfl | k_is)
    (case sub_354 => first | rfl | k_is)
    (case sub_355 => first | rfl | k_is)
    (case m_356 => k_is)
    (case m_357 => k_is)
    (case m_358 => k_is)
    (case m_359 => k_is)
    (case hd_360 => kernel_rfl)
    (case tab_361 => exact TB _ (by simp))
    (case no_362 => first | rfl | k_is)
    (case m_363 => k_is)
    (case m_364 => k_is)
    (case m_365 => k_is)
    (case m_366 => k_is)
    (case hd_367 => kernel_rfl)
    (case tab_368 => exact TB _ (by simp))
    (case no_369 => first | rfl | k_is)
    (case m_370 => k_is)
    (case m_371 => k_is)
    (case m_372 => k_is)
    (case m_373 => k_is)
    (case hd_374 => kernel_rfl)
    (case tab_375 => exact TB _ (by simp))
    (case no_376 => first | rfl | k_is)

