import PyProof.Rows.All
import Wide.All
import OpenK.AllK
import Wide.FinOn
import HandS.ForMost
import HandS.SetFor
import HandS.ForExc
import HandS.IsInst
import HandS.Evl
import HandS.Flow
import HandS.Codes
import HandS.Wide
import HandS.TupAny
import HandS.Conv
import HandS.Strs
import HandS.SortInts
import KE.DataMinMax
import KE.DataAny
import KE.SortData
import HandS.SortKw
import HandS.ExcInit
import HandS.ExcField
import HandS.Small
import HandS.TryMany
import HandS.Property
import HandS.Lambda
import KE.GoesEnum
import HandS.More
import HandS.NoneIn
import HandS.TupLe
import PyProof.TupleOfSeq
import HandS.WideBits
import KE.DataMinKey
import HandS.ExcIs
import KE.KExcIs
import PyProof.NeKinds
import HandS.Text
import HandS.OwnEq
import OpenK.KMeth
import OpenK.KOps
import KE.KOpsOwn
import HandS.ClsMeth
import KE.KDictList
import HandS.Dict
import HandS.ExcOwn
import PyProof.ReprRoads
import HandS.RaiseMore
import KE.KCallOwn
import HandS.FStr
import PyProof.Rows.StrFirst
import PyProof.Rows.StrPins2
import PyProof.StrLawsChain
import PyProof.StrOps2
import HandS.Style
import KE.KNest
import KE.KNestM
import HandS.EndTab
import PySem.Challenge.RW_millbrook_k00_house_texts
set_option Elab.async false
set_option linter.all false
set_option maxRecDepth 100000
namespace GV
open PySem PySem.Spec PyProof.Rows L2
/-- a set as it is new -/
abbrev nset (w : World) : Obj := { cls := .type "set", dict := none, data := .set #[] 0 (.fresh 0 0 (!w.params.followText "set-order")) }
section
variable {P : Program} {w : World} {A : Around} {E : Value → Shared → Prop} {s : Shared}
set_option maxHeartbeats 3200000 in
/-- set(l), l a list of ints: its members in the order of the world -/
theorem set_ofL {l : Addr} {items : Array Value} (ns : List Int) {Q : Value → Shared → Prop} (hh : A.handled = none) (hl : s.heap.IsList l items) (hit : IntsAre items.toList ns) (hb : ns.length + 1 < scanBound)
    (fin : ∀ (g : Heap) (tk c : Nat), SetR w g s.heap.objs.size (fun j => decide (j ∈ ns)) c → c ≤ ns.length → (∀ b o, s.heap.get? b = some o → g.get? b = some o) → Q (.ref s.heap.objs.size) { s with heap := g, toks := tk }) :
    wpAny (model P w) A (call (.type "set") [.ref l]) Q E s := by
  have size : items.size = ns.length := by
    have q := IntsAre.length hit
    rwa [Array.length_toList] at q
  obtain ⟨c, tl, hmro⟩ := F.called_set.mro
  have a1 := F.called_set.made
  have a2 := F.called_set.sub
  refine wpAny_call (codeAny_of_tree (show wpAny _ _ (callAny (.type "set") _) _ _ _ from wpAny_pure ⟨Code.quiet_builtin _ (by decide +kernel), codeAny_builtin F.entry_type_call ?_⟩))
  rw [Around.under_plain (weight_type_call_type "set" [.ref l] []) rfl]
  have a3 := F.called_set.notType
  have a4 := F.called_set.canCreate
  have a5 := F.typeCall_set_1 (.ref l)
  repeat (any_goals first | assumption | wp_step)
  refine codeAny_mono (code_set_led1 (.ref l) (E := E) (Q₁ := fun o s₁ => o = .ref s.heap.objs.size ∧ s₁ = { s with heap := s.heap.push (nset w) }) ⟨rfl, rfl⟩) fun r s₁ hr => ?_
  rcases r with er | fl
  · exact hr
  rcases fl with _ | _ | _ | ob
  iterate 3 exact hr.elim
  obtain ⟨rfl, rfl⟩ := hr
  have at0 : (s.heap.push (nset w)).get? s.heap.objs.size = some (nset w) := Heap.get?_push_size _ rfl
  have ty0 : Shared.TypeIs { s with heap := s.heap.push (nset w) } (.ref s.heap.objs.size) "set" := ⟨_, at0, rfl⟩
  have b1 := F.called_set.init.lookup
  have b2 := F.called_set.init.bind (.ref s.heap.objs.size)
  repeat (any_goals first | assumption | wp_step)
  refine codeAny_mono (codeAny_call_builtin (R := wants (fun r s₂ => r = .none ∧ ∃ g tk c, s₂ = { s with heap := g, toks := tk } ∧ SetR w g s.heap.objs.size (fun j => decide (j ∈ ns)) c ∧ c ≤ ns.length ∧ (∀ b o, s.heap.get? b = some o → g.get? b = some o)) E)
    F.called_set.init.plain F.entry_set_init (check_set_init_1 ty0 ?_)) fun r₂ s₂ hr₂ => ?_
  · obtain ⟨⟨oc, od, odt, osl⟩, hol, hcl, nl, hdl⟩ := hl
    simp only at hcl hdl
    subst hcl hdl
    have ol : (s.heap.push (nset w)).get? l = some { cls := .type "list", dict := od, data := .seq items nl, slots := osl } := Heap.get?_push_of_some _ hol
    have c1 := F.sub_list_set
    have c2 := F.sub_list_frozenset
    have c3 : (Value.type "list" == Value.type "dict") = false := by decide
    have isl : (s.heap.push (nset w)).IsList l items := ⟨_, ol, rfl, nl, rfl⟩
    unfold Builtin.«set.__init__» noKeywords Builtin.Frozenset.updateFrom
    generalize hPI : pyIter = PI
    wp_walk
    subst hPI
    refine wpAny_pyIter_list isl (wpAny_bind (wpAny_runValue ?_))
    have lt : l < s.heap.objs.size := Heap.lt_size hol
    have hh3 : A.in1.in1.in1.handled = none := by simp [hh]
    have neI : l ≠ (s.heap.push (nset w)).objs.size := by
      rw [Heap.size_push]
      exact Nat.ne_of_lt (Nat.lt_succ_of_lt lt)
    have nf : s.heap.objs.size ∉ [(s.heap.push (nset w)).objs.size, l] := by
      rw [Heap.size_push]
      simp only [List.mem_cons, List.not_mem_nil, or_false, not_or]
      exact And.intro (Nat.ne_of_lt (Nat.lt_succ_self _)) (Nat.ne_of_gt lt)
    have val : ∀ (i : Nat) (v : Value), items[i]? = some v → ∃ k t, ns[i]? = some k ∧ v = .int k t := fun i v hv => by
      have hi : i < ns.length := by rw [← size]; exact (Array.getElem?_eq_some_iff.mp hv).1
      obtain ⟨t, e⟩ := PyProof.Rows.IntsAre.int_at hit i v (by rwa [Array.getElem?_toList])
      refine ⟨ns[i], t, List.getElem?_eq_getElem hi, ?_⟩
      rw [e, List.getD_eq_getElem?_getD, List.getElem?_eq_getElem hi, Option.getD_some]
    refine set_update_ints ((Walks.list hh3 _ l neI items).toS) s.heap.objs.size nf ns size hb val (items.size - 0) 0 _ (by omega) (Nat.zero_le _) ⟨⟨_, Heap.get?_push_size _ rfl, rfl, rfl⟩, isl.push _⟩ ?z ?y
    case z => exact ⟨0, Nat.le_refl 0, setR_new_at (Heap.get?_push_of_some _ at0)⟩
    case y =>
      rintro ⟨g, gn, dr, tk, os⟩ c' hm hc' hS'
      obtain rfl : gn = s.gens := hm.gens
      obtain rfl : dr = s.drawn := hm.drawn
      obtain rfl : os = s.os := hm.os
      refine wpAny_pure (show wpAny _ _ (ret Value.none) _ _ _ from wpAny_pure ⟨rfl, g, tk, c', rfl, hS', size ▸ hc', fun b o e => ?_⟩)
      have b0 : b < s.heap.objs.size := Heap.lt_size e
      refine hm.heap b o ?_ (Heap.get?_push_of_some _ (Heap.get?_push_of_some _ e))
      rw [Heap.size_push]
      simp only [List.mem_cons, List.not_mem_nil, or_false, not_or]
      exact And.intro (Nat.ne_of_lt b0) (Nat.ne_of_lt (Nat.lt_succ_of_lt b0))
  · rcases r₂ with er | fl₂
    · exact hr₂
    rcases fl₂ with _ | _ | _ | r
    iterate 3 exact hr₂.elim
    obtain ⟨rfl, g, tk, c', rfl, hS', hc', hk'⟩ := hr₂
    repeat (any_goals first | assumption | wp_step)
    exact fin _ _ _ hS' hc' hk'
end
end GV

/-! Rules upon the syntax itself: the weakest reading of a piece of text, and what it gives on data. -/
namespace GV
open PySem PySem.Spec PyProof.Rows L2
abbrev St := L2.St

/-! ### the weakest readings -/
def wE (X : Cx) (e : Expr) : TE := fun σ H Q => ∃ t, PE X e t ∧ t σ H Q
def wT (X : Cx) (e : Expr) : TT := fun σ H Q => ∃ t, PT X e t ∧ t σ H Q
def wA (X : Cx) (es : List Expr) : TA := fun σ H Q => ∃ t, PA X es t ∧ t σ H Q
def wS (X : Cx) (st : Stmt) : TS := fun D σ H => ∃ t, PS X st t ∧ t D σ H
def wB (X : Cx) (st : List Stmt) : TS := fun D σ H => ∃ t, PSs X st t ∧ t D σ H
section
variable {X : Cx}
theorem wE.pe {e : Expr} : PE X e (wE X e) := ⟨fun pins s σ H Q I ⟨_, h, q⟩ => h.run pins s σ H Q I q⟩
theorem wT.pt {e : Expr} : PT X e (wT X e) := ⟨fun pins s σ H Q I ⟨_, h, q⟩ => h.run pins s σ H Q I q⟩
theorem wA.pa {es : List Expr} : PA X es (wA X es) := ⟨fun pos pins s σ H Q I ⟨_, h, q⟩ => h.run pos pins s σ H Q I q⟩
theorem wS.ps {st : Stmt} : PS X st (wS X st) := ⟨fun pins s σ H D I ⟨_, h, q⟩ => h.run pins s σ H D I q⟩
theorem wB.ps {st : List Stmt} : PSs X st (wB X st) := ⟨fun pins s σ H D I ⟨_, h, q⟩ => h.run pins s σ H D I q⟩
end

/-! ### what is known of the heap: all but the mutable things at M and the tables -/
def NT (o : HO) : Prop := ∀ ps, o ≠ .tbl ps
def ExM (M : Addr → Prop) (H H' : Hp) : Prop := ∀ a o, H a = some o → ¬ M a → NT o → H' a = some o
def Alive (M : Addr → Prop) (H : Hp) : Prop := ∀ a, M a → ∃ o, H a = some o
theorem ExM.refl {M : Addr → Prop} (H : Hp) : ExM M H H := fun _ _ h _ _ => h
theorem ExM.trans {M : Addr → Prop} {H H1 H2 : Hp} (a : ExM M H H1) (b : ExM M H1 H2) : ExM M H H2 := fun x o h m n => b x o (a x o h m n) m n
theorem ExM.of {M : Addr → Prop} {H H' : Hp} (e : Evl.Ex H H') : ExM M H H' := fun a o h _ _ => e a o h
theorem Alive.mono {M : Addr → Prop} {H H' : Hp} (a : Alive M H) (e : Evl.Ex H H') : Alive M H' := fun x m => let ⟨o, h⟩ := a x m; ⟨o, e x o h⟩
theorem Alive.fresh {M : Addr → Prop} {H : Hp} {p : Addr} (a : Alive M H) (h : H p = none) : ¬ M p := fun m => by
  obtain ⟨o, q⟩ := a p m
  rw [h] at q
  cases q

mutual
/-- v is the datum d, none of whose parts lies in M -/
inductive Rp (K : PySem.W.Frag) (M : Addr → Prop) (H : Hp) : V → PyData → Prop
  | non : Rp K M H .non .none
  | bl (b : Bool) : Rp K M H (.bl b) (.bool b)
  | int (i : Int) : Rp K M H (.int i) (.int i)
  | str (x : Str) : Rp K M H (.str x) (.str x)
  | lst {a : Addr} {xs : List V} {ds : List PyData} : ¬ M a → Rd H a (.lst xs) → RpAll K M H xs ds → Rp K M H (.ref a) (.list ds)
  | tup {a : Addr} {xs : List V} {ds : List PyData} : ¬ M a → Rd H a (.tup xs) → RpAll K M H xs ds → Rp K M H (.ref a) (.tuple ds)
inductive RpAll (K : PySem.W.Frag) (M : Addr → Prop) (H : Hp) : List V → List PyData → Prop
  | nil : RpAll K M H [] []
  | cons {v : V} {vs : List V} {d : PyData} {ds : List PyData} : Rp K M H v d → RpAll K M H vs ds → RpAll K M H (v :: vs) (d :: ds)
end

section
variable {K : PySem.W.Frag} {M M' : Addr → Prop} {H H' : Hp}
theorem Rd.exM {a : Addr} {xs : List V} (h : Rd H a (.lst xs)) (m : ¬ M a) (e : ExM M H H') : Rd H' a (.lst xs) := by
  rcases h with h | ⟨o, h⟩
  · exact .inl (e _ _ h m (fun _ z => by cases z))
  · exact .inr ⟨o, e _ _ h m (fun _ z => by cases z)⟩
theorem Rd.exT {a : Addr} {xs : List V} (h : Rd H a (.tup xs)) (m : ¬ M a) (e : ExM M H H') : Rd H' a (.tup xs) := by
  rcases h with h | ⟨o, h⟩
  · exact .inl (e _ _ h m (fun _ z => by cases z))
  · exact .inr ⟨o, e _ _ h m (fun _ z => by cases z)⟩
theorem Rd.there {a : Addr} {u : HO} (h : Rd H a u) : H a ≠ none := by
  rcases h with h | ⟨o, h⟩ <;> rw [h] <;> exact fun z => by cases z
mutual
theorem Rp.mono {v : V} {d : PyData} : (r : Rp K M H v d) → (hm : ∀ a, M' a → M a) → ExM M H H' → Rp K M' H' v d
  | .non, _, _ => .non
  | .bl b, _, _ => .bl b
  | .int i, _, _ => .int i
  | .str x, _, _ => .str x
  | .lst m h r, hm, e => .lst (fun z => m (hm _ z)) (Rd.exM h m e) (RpAll.mono r hm e)
  | .tup m h r, hm, e => .tup (fun z => m (hm _ z)) (Rd.exT h m e) (RpAll.mono r hm e)
theorem RpAll.mono {vs : List V} {ds : List PyData} : (r : RpAll K M H vs ds) → (hm : ∀ a, M' a → M a) → ExM M H H' → RpAll K M' H' vs ds
  | .nil, _, _ => .nil
  | .cons r rs, hm, e => .cons (Rp.mono r hm e) (RpAll.mono rs hm e)
end
mutual
/-- further mutable things, none of which was there -/
theorem Rp.wide {v : V} {d : PyData} : (r : Rp K M H v d) → (∀ a, M' a → M a ∨ H a = none) → Rp K M' H v d
  | .non, _ => .non
  | .bl b, _ => .bl b
  | .int i, _ => .int i
  | .str x, _ => .str x
  | .lst m h r, hm => .lst (fun z => (hm _ z).elim m (Rd.there h)) h (RpAll.wide r hm)
  | .tup m h r, hm => .tup (fun z => (hm _ z).elim m (Rd.there h)) h (RpAll.wide r hm)
theorem RpAll.wide {vs : List V} {ds : List PyData} : (r : RpAll K M H vs ds) → (∀ a, M' a → M a ∨ H a = none) → RpAll K M' H vs ds
  | .nil, _ => .nil
  | .cons r rs, hm => .cons (Rp.wide r hm) (RpAll.wide rs hm)
end
mutual
theorem Rp.dp {v : V} {d : PyData} : (r : Rp K M H v d) → Dp K H v d
  | .non => .non
  | .bl b => .bl b
  | .int i => .int i
  | .str x => .str x
  | .lst _ h r => .lst (.inl h) (RpAll.dp r)
  | .tup _ h r => .tup (.inl h) (RpAll.dp r)
theorem RpAll.dp {vs : List V} {ds : List PyData} : (r : RpAll K M H vs ds) → DpAll K H vs ds
  | .nil => .nil
  | .cons r rs => .cons (Rp.dp r) (RpAll.dp rs)
end
theorem RpAll.length : ∀ {vs : List V} {ds : List PyData}, RpAll K M H vs ds → vs.length = ds.length
  | _, _, .nil => rfl
  | _, _, .cons _ rs => congrArg (· + 1) rs.length
theorem RpAll.get : ∀ {vs : List V} {ds : List PyData} {i : Nat} {d : PyData}, RpAll K M H vs ds → ds[i]? = some d → ∃ v, vs[i]? = some v ∧ Rp K M H v d
  | _, _, 0, _, .cons r _, e => by
    simp at e
    subst e
    exact ⟨_, rfl, r⟩
  | _, _, i + 1, d, .cons _ rs, e => by
    obtain ⟨v, h1, h2⟩ := RpAll.get (i := i) (d := d) rs (by simpa using e)
    exact ⟨v, by simpa using h1, h2⟩
  | _, _, _, _, .nil, e => by simp at e
theorem RpAll.append : ∀ {vs ws : List V} {ds es : List PyData}, RpAll K M H vs ds → RpAll K M H ws es → RpAll K M H (vs ++ ws) (ds ++ es)
  | _, _, _, _, .nil, s => s
  | _, _, _, _, .cons r rs, s => .cons r (RpAll.append rs s)
theorem RpAll.ints : ∀ ns : List Int, RpAll K M H (ns.map V.int) (ns.map PyData.int)
  | [] => .nil
  | n :: r => .cons (.int n) (RpAll.ints r)
theorem RpAll.strs : ∀ ns : List Str, RpAll K M H (ns.map V.str) (ns.map PyData.str)
  | [] => .nil
  | n :: r => .cons (.str n) (RpAll.strs r)
theorem RpAll.of_ints : ∀ {vs : List V} {ns : List Int}, RpAll K M H vs (ns.map PyData.int) → vs = ns.map V.int
  | [], [], .nil => rfl
  | _ :: _, n :: r, .cons h hs => by
    cases h
    rw [RpAll.of_ints hs]
    rfl
end

/-! ### what a piece of text gives -/
structure PD (X : Cx) (M : Addr → Prop) (e : Expr) (σ : St) (H : Hp) (d : PyData) : Prop where
  run : ∀ H1, ExM M H H1 → Alive M H1 → ∀ Q : VK, (∀ v H2, Evl.Ex H1 H2 → Rp X.K M H2 v d → Q v H2) → wE X e σ H1 Q
structure TD (X : Cx) (M : Addr → Prop) (e : Expr) (σ : St) (H : Hp) (b : Bool) : Prop where
  run : ∀ H1, ExM M H H1 → Alive M H1 → ∀ Q : Bool → Hp → Prop, (∀ H2, Evl.Ex H1 H2 → Q b H2) → wT X e σ H1 Q
structure AD (X : Cx) (M : Addr → Prop) (es : List Expr) (σ : St) (H : Hp) (ds : List PyData) : Prop where
  run : ∀ H1, ExM M H H1 → Alive M H1 → ∀ Q : List V → Hp → Prop, (∀ vs H2, Evl.Ex H1 H2 → RpAll X.K M H2 vs ds → Q vs H2) → wA X es σ H1 Q

section
variable {X : Cx} {M : Addr → Prop} {σ : St} {H H' : Hp} {a b c e : Expr} {da db d : PyData} {pos : Pos}
theorem PD.mono (h : PD X M e σ H d) (x : ExM M H H') : PD X M e σ H' d := ⟨fun H1 e1 al Q q => h.run H1 (x.trans e1) al Q q⟩
theorem TD.mono {k : Bool} (h : TD X M e σ H k) (x : ExM M H H') : TD X M e σ H' k := ⟨fun H1 e1 al Q q => h.run H1 (x.trans e1) al Q q⟩
theorem AD.mono {es : List Expr} {ds : List PyData} (h : AD X M es σ H ds) (x : ExM M H H') : AD X M es σ H' ds := ⟨fun H1 e1 al Q q => h.run H1 (x.trans e1) al Q q⟩
theorem PD.is {d' : PyData} (h : PD X M e σ H d) (q : d = d') : PD X M e σ H d' := q ▸ h
theorem TD.is {k k' : Bool} (h : TD X M e σ H k) (q : k = k') : TD X M e σ H k' := q ▸ h
/-- names and constants -/
theorem pd_name {i : Nat} {x : Str} {v : V} (hN : X.N[i]? = some x) (hv : Vis X.env.scope x) (hs : σ[i]? = some (some v)) (r : Rp X.K M H v d)
    (hd : (x == ("__debug__" : Str)) = false := by decide) (hcd : (x == ("__classdict__" : Str)) = false := by decide) : PD X M (.Name x pos) σ H d :=
  ⟨fun H1 e1 _ Q q => ⟨_, pe_var hN hv hd hcd, v, hs, q v H1 (Evl.Ex.refl H1) (r.mono (fun _ z => z) e1)⟩⟩
theorem pd_int {i : Int} {j} : PD X M (.Constant (.int i) j pos) σ H (.int i) := ⟨fun H1 _ _ Q q => ⟨_, pe_int, q _ H1 (Evl.Ex.refl H1) (.int i)⟩⟩
theorem pd_bl {k : Bool} {j} : PD X M (.Constant (.bool k) j pos) σ H (.bool k) := ⟨fun H1 _ _ Q q => ⟨_, pe_bl, q _ H1 (Evl.Ex.refl H1) (.bl k)⟩⟩
theorem pd_non {j} : PD X M (.Constant .none j pos) σ H .none := ⟨fun H1 _ _ Q q => ⟨_, pe_non, q _ H1 (Evl.Ex.refl H1) .non⟩⟩
theorem pd_str {x : Str} {j} : PD X M (.Constant (.str x) j pos) σ H (.str x) := ⟨fun H1 _ _ Q q => ⟨_, pe_str, q _ H1 (Evl.Ex.refl H1) (.str x)⟩⟩
theorem pd_globI {x : Str} {i : Int} {t : Tok} (hg : Gl X x) (hm : X.mg x = some (.int i t)) (hd : (x == ("__debug__" : Str)) = false := by decide) : PD X M (.Name x pos) σ H (.int i) :=
  ⟨fun H1 _ _ Q q => ⟨_, pe_glob hg hm (v := .int i) ⟨t, rfl⟩ hd, q _ H1 (Evl.Ex.refl H1) (.int i)⟩⟩

/-! ### two operands -/
/-- an operator by values -/
def RD2 (X : Cx) (M : Addr → Prop) (r : R2) (da db d : PyData) : Prop :=
  ∀ x y H1, Rp X.K M H1 x da → Rp X.K M H1 y db → Alive M H1 → ∀ Q : VK, (∀ v H2, Evl.Ex H1 H2 → Rp X.K M H2 v d → Q v H2) → r x y H1 Q
theorem pd_binR {op : Operator} {r : R2} (ho : OpR X (binaryOp op) r) (hr : RD2 X M r da db d) (ha : PD X M a σ H da) (hb : PD X M b σ H db) : PD X M (.BinOp a op b pos) σ H d := ⟨fun H1 e1 al Q q =>
  ⟨_, pe_op ho wE.pe wE.pe, ha.run H1 e1 al _ fun x H2 x2 rx => hb.run H2 (e1.trans (.of x2)) (al.mono x2) _ fun y H3 x3 ry =>
    hr x y H3 (rx.mono (fun _ z => z) (.of x3)) ry ((al.mono x2).mono x3) Q fun v H4 x4 rv => q v H4 ((x2.trans x3).trans x4) rv⟩⟩
theorem pd_cmpR {op : CmpOp} {r : R2} (ho : OpR X (compareOp op) r) (hm : behindInMarks op b = false) (hr : RD2 X M r da db d) (ha : PD X M a σ H da) (hb : PD X M b σ H db) : PD X M (.Compare a [op] [b] pos) σ H d := ⟨fun H1 e1 al Q q =>
  ⟨_, pe_cmpR ho wE.pe wE.pe hm, ha.run H1 e1 al _ fun x H2 x2 rx => hb.run H2 (e1.trans (.of x2)) (al.mono x2) _ fun y H3 x3 ry =>
    hr x y H3 (rx.mono (fun _ z => z) (.of x3)) ry ((al.mono x2).mono x3) Q fun v H4 x4 rv => q v H4 ((x2.trans x3).trans x4) rv⟩⟩
theorem rd_I0 {g : Int → Int → Int} {i j : Int} : RD2 X M (rI0 fun i j => .int (g i j)) (.int i) (.int j) (.int (g i j)) := fun x y H1 rx ry _ Q q => by
  cases rx
  cases ry
  exact ⟨i, j, rfl, rfl, q _ H1 (Evl.Ex.refl H1) (.int _)⟩
theorem rd_I {C : Int → Int → Prop} {g : Int → Int → Int} {i j : Int} (hc : C i j) : RD2 X M (rI C fun i j => .int (g i j)) (.int i) (.int j) (.int (g i j)) := fun x y H1 rx ry _ Q q => by
  cases rx
  cases ry
  exact ⟨i, j, rfl, rfl, hc, q _ H1 (Evl.Ex.refl H1) (.int _)⟩
theorem rd_B0 {g : Int → Int → Bool} {i j : Int} : RD2 X M (rI0 fun i j => .bl (g i j)) (.int i) (.int j) (.bool (g i j)) := fun x y H1 rx ry _ Q q => by
  cases rx
  cases ry
  exact ⟨i, j, rfl, rfl, q _ H1 (Evl.Ex.refl H1) (.bl _)⟩
theorem pd_add {i j : Int} (ha : PD X M a σ H (.int i)) (hb : PD X M b σ H (.int j)) : PD X M (.BinOp a .Add b pos) σ H (.int (i + j)) := pd_binR op_add rd_I0 ha hb
theorem pd_sub {i j : Int} (ha : PD X M a σ H (.int i)) (hb : PD X M b σ H (.int j)) : PD X M (.BinOp a .Sub b pos) σ H (.int (i - j)) := pd_binR op_sub rd_I0 ha hb
theorem pd_mul {i j : Int} (ha : PD X M a σ H (.int i)) (hb : PD X M b σ H (.int j)) (hc : CMul i j) : PD X M (.BinOp a .Mult b pos) σ H (.int (i * j)) := pd_binR op_mul (rd_I hc) ha hb
theorem pd_lt {i j : Int} (ha : PD X M a σ H (.int i)) (hb : PD X M b σ H (.int j)) : PD X M (.Compare a [.Lt] [b] pos) σ H (.bool (decide (i < j))) := pd_cmpR op_lt (nomark _) rd_B0 ha hb
theorem pd_le {i j : Int} (ha : PD X M a σ H (.int i)) (hb : PD X M b σ H (.int j)) : PD X M (.Compare a [.LtE] [b] pos) σ H (.bool (decide (i ≤ j))) := pd_cmpR op_le (nomark _) rd_B0 ha hb
theorem pd_gt {i j : Int} (ha : PD X M a σ H (.int i)) (hb : PD X M b σ H (.int j)) : PD X M (.Compare a [.Gt] [b] pos) σ H (.bool (decide (j < i))) := pd_cmpR op_gt (nomark _) rd_B0 ha hb
theorem pd_ge {i j : Int} (ha : PD X M a σ H (.int i)) (hb : PD X M b σ H (.int j)) : PD X M (.Compare a [.GtE] [b] pos) σ H (.bool (decide (j ≤ i))) := pd_cmpR op_ge (nomark _) rd_B0 ha hb
end
end GV

namespace GV
open PySem PySem.Spec PyProof.Rows L2
section
variable {X : Cx} {M : Addr → Prop} {σ : St} {H H' : Hp} {a b c e : Expr} {da db d : PyData} {pos : Pos} {es : List Expr} {ds : List PyData}

/-! ### truth, and, or, not -/
theorem pd_and {k1 k2 : Bool} {rest : List Expr} (ha : PD X M a σ H (.bool k1)) (hb : k1 = true → PD X M (.BoolOp .And (b :: rest) pos) σ H (.bool k2)) : PD X M (.BoolOp .And (a :: b :: rest) pos) σ H (.bool (k1 && k2)) := .mk fun H1 e1 al Q q =>
  ⟨_, pe_and wE.pe wE.pe, ha.run H1 e1 al _ fun x H2 x2 rx => by
    cases rx
    refine ⟨k1, rfl, ?_⟩
    cases k1 with
    | true => exact (hb rfl).run H2 (e1.trans (.of x2)) (al.mono x2) Q fun v H3 x3 rv => q v H3 (x2.trans x3) rv
    | false => exact q _ H2 x2 (.bl _)⟩
theorem pd_or {k1 k2 : Bool} {rest : List Expr} (ha : PD X M a σ H (.bool k1)) (hb : k1 = false → PD X M (.BoolOp .Or (b :: rest) pos) σ H (.bool k2)) : PD X M (.BoolOp .Or (a :: b :: rest) pos) σ H (.bool (k1 || k2)) := .mk fun H1 e1 al Q q =>
  ⟨_, pe_or wE.pe wE.pe, ha.run H1 e1 al _ fun x H2 x2 rx => by
    cases rx
    refine ⟨k1, rfl, ?_⟩
    cases k1 with
    | false => exact (hb rfl).run H2 (e1.trans (.of x2)) (al.mono x2) Q fun v H3 x3 rv => q v H3 (x2.trans x3) rv
    | true => exact q _ H2 x2 (.bl _)⟩
theorem pd_one {op} (h : PD X M a σ H d) : PD X M (.BoolOp op [a] pos) σ H d := .mk fun H1 e1 al Q q => ⟨_, pe_one wE.pe, h.run H1 e1 al Q q⟩
theorem pd_not {k : Bool} (h : PD X M a σ H (.bool k)) : PD X M (.UnaryOp .Not a pos) σ H (.bool (!k)) := .mk fun H1 e1 al Q q =>
  ⟨_, pe_not wE.pe, h.run H1 e1 al _ fun x H2 x2 rx => by
    cases rx
    exact ⟨k, rfl, q _ H2 x2 (.bl _)⟩⟩
theorem td_val {k : Bool} (h : PD X M e σ H (.bool k)) (he : ∀ whole, isTrue e X.env whole = (do let v ← whole; standAt e.pos; holding [v] (truthy v)) := by intro _; rfl) : TD X M e σ H k := .mk fun H1 e1 al Q q =>
  ⟨_, pt_val wE.pe he, h.run H1 e1 al _ fun x H2 x2 rx => by
    cases rx
    exact ⟨k, rfl, q H2 x2⟩⟩
theorem td_not {k : Bool} (h : TD X M a σ H k) : TD X M (.UnaryOp .Not a pos) σ H (!k) := .mk fun H1 e1 al Q q => ⟨_, pt_not wT.pt, h.run H1 e1 al _ fun H2 x2 => q H2 x2⟩
/-- a chain of tests -/
structure WD (X : Cx) (M : Addr → Prop) (e : Expr) (σ : St) (H : Hp) (k : Bool) : Prop where
  ex : ∃ t, PW X e t ∧ ∀ H1, ExM M H H1 → Alive M H1 → ∀ Q : Bool → Hp → Prop, (∀ H2, Evl.Ex H1 H2 → Q k H2) → t σ H1 Q
theorem WD.td {k : Bool} (h : WD X M e σ H k) : TD X M e σ H k := .mk fun H1 e1 al Q q => let ⟨t, p, r⟩ := h.ex; ⟨t, p.pt, r H1 e1 al Q q⟩
theorem wd_and1 {k : Bool} (h : TD X M a σ H k) : WD X M (.BoolOp .And [a] pos) σ H k := .mk ⟨_, pw_and1 wT.pt, h.run⟩
theorem wd_or1 {k : Bool} (h : TD X M a σ H k) : WD X M (.BoolOp .Or [a] pos) σ H k := .mk ⟨_, pw_or1 wT.pt, h.run⟩
/-- the reading of a chain, of any of its ends -/
def wW (X : Cx) (e : Expr) : TT := fun σ H Q => ∃ t, PW X e t ∧ t σ H Q
theorem wW.pw {e : Expr} : PW X e (wW X e) := ⟨fun pins s σ H whole Q I ⟨_, h, q⟩ => h.run pins s σ H whole Q I q⟩
theorem wd_and {k1 k2 : Bool} {rest : List Expr} (ha : TD X M a σ H k1) (hb : k1 = true → WD X M (.BoolOp .And (b :: rest) pos) σ H k2) : WD X M (.BoolOp .And (a :: b :: rest) pos) σ H (k1 && k2) :=
  .mk ⟨_, pw_and wT.pt wW.pw, fun H1 e1 al Q q => ha.run H1 e1 al _ fun H2 x2 => by
    cases k1 with
    | true =>
      obtain ⟨t, p, r⟩ := (hb rfl).ex
      exact ⟨t, p, r H2 (e1.trans (.of x2)) (al.mono x2) Q fun H3 x3 => q H3 (x2.trans x3)⟩
    | false => exact q H2 x2⟩
theorem wd_or {k1 k2 : Bool} {rest : List Expr} (ha : TD X M a σ H k1) (hb : k1 = false → WD X M (.BoolOp .Or (b :: rest) pos) σ H k2) : WD X M (.BoolOp .Or (a :: b :: rest) pos) σ H (k1 || k2) :=
  .mk ⟨_, pw_or wT.pt wW.pw, fun H1 e1 al Q q => ha.run H1 e1 al _ fun H2 x2 => by
    cases k1 with
    | false =>
      obtain ⟨t, p, r⟩ := (hb rfl).ex
      exact ⟨t, p, r H2 (e1.trans (.of x2)) (al.mono x2) Q fun H3 x3 => q H3 (x2.trans x3)⟩
    | true => exact q H2 x2⟩
theorem pd_if {k : Bool} (ht : TD X M c σ H k) (ha : k = true → PD X M a σ H d) (hb : k = false → PD X M b σ H d) : PD X M (.IfExp c a b pos) σ H d := .mk fun H1 e1 al Q q =>
  ⟨_, pe_ifExp wT.pt wE.pe wE.pe, ht.run H1 e1 al _ fun H2 x2 => by
    cases k with
    | true => exact (ha rfl).run H2 (e1.trans (.of x2)) (al.mono x2) Q fun v H3 x3 rv => q v H3 (x2.trans x3) rv
    | false => exact (hb rfl).run H2 (e1.trans (.of x2)) (al.mono x2) Q fun v H3 x3 rv => q v H3 (x2.trans x3) rv⟩

/-! ### lists of parts, displays -/
theorem ad_nil : AD X M [] σ H [] := .mk fun H1 _ _ Q q => ⟨_, pa_nil, q [] H1 (Evl.Ex.refl H1) .nil⟩
theorem ad_cons (h : PD X M e σ H d) (hr : AD X M es σ H ds) (hs : starEach (e :: es) X.env = (false, eval e X.env) :: starEach es X.env := by rfl) : AD X M (e :: es) σ H (d :: ds) := .mk fun H1 e1 al Q q =>
  ⟨_, pa_cons wE.pe wA.pa hs, h.run H1 e1 al _ fun v H2 x2 rv => hr.run H2 (e1.trans (.of x2)) (al.mono x2) _ fun vs H3 x3 rvs =>
    q (v :: vs) H3 (x2.trans x3) (.cons (rv.mono (fun _ z => z) (.of x3)) rvs)⟩
theorem Rp.newT {p : Addr} {xs : List V} (al : Alive M H) (hp : H p = none) (r : RpAll X.K M H xs ds) : Rp X.K M (upd H p (.tup xs)) (.ref p) (.tuple ds) :=
  .tup (al.fresh hp) (.inl upd_same) (r.mono (fun _ z => z) (.of (Evl.Ex.new hp)))
theorem Rp.newL {p : Addr} {xs : List V} (al : Alive M H) (hp : H p = none) (r : RpAll X.K M H xs ds) : Rp X.K M (upd H p (.lst xs)) (.ref p) (.list ds) :=
  .lst (al.fresh hp) (.inl upd_same) (r.mono (fun _ z => z) (.of (Evl.Ex.new hp)))
theorem pd_tup {x1} (h : AD X M es σ H ds) (hl : ds.length ≤ 100000) : PD X M (.Tuple es x1 pos) σ H (.tuple ds) := .mk fun H1 e1 al Q q =>
  ⟨_, pe_tup wA.pa, h.run H1 e1 al _ fun vs H2 x2 r => ⟨by rw [r.length]; exact Evl.sz_of hl, fun p hp => q _ _ (x2.trans (Evl.Ex.new hp)) (.newT (al.mono x2) hp r)⟩⟩
/-- .. a new one -/
structure FD (X : Cx) (M : Addr → Prop) (e : Expr) (σ : St) (H : Hp) (ds : List PyData) : Prop where
  run : ∀ H1, ExM M H H1 → Alive M H1 → ∀ Q : VK, (∀ p vs H2, H1 p = none → Evl.Ex H1 H2 → H2 p = some (.lst vs) → RpAll X.K M H2 vs ds → Q (.ref p) H2) → wE X e σ H1 Q
theorem FD.mono (h : FD X M e σ H ds) (x : ExM M H H') : FD X M e σ H' ds := .mk fun H1 e1 al Q q => h.run H1 (x.trans e1) al Q q
theorem FD.pd (h : FD X M e σ H ds) : PD X M e σ H (.list ds) := .mk fun H1 e1 al Q q => h.run H1 e1 al Q fun p vs H2 hp x2 h2 r => q _ H2 x2 (.lst (al.fresh hp) (.inl h2) r)
theorem fd_lst (h : AD X M es σ H ds) (hl : ds.length ≤ 100000) : FD X M (.List es pos) σ H ds := .mk fun H1 e1 al Q q =>
  ⟨_, pe_lst wA.pa, h.run H1 e1 al _ fun vs H2 x2 r => ⟨by rw [r.length]; exact Evl.sz_of hl, fun p hp => q p vs _ (Evl.fresh_back x2 hp) (x2.trans (Evl.Ex.new hp)) upd_same (r.mono (fun _ z => z) (.of (Evl.Ex.new hp)))⟩⟩

/-! ### == and is -/
theorem pd_eq (hu : X.A.units + 64 < cLine) (ha : PD X M a σ H da) (hb : PD X M b σ H db) (sa : SeqAt.shaped da = true) (sb : SeqAt.shaped db = true) : PD X M (.Compare a [.Eq] [b] pos) σ H (.bool (PyData.eqv da db)) :=
  pd_cmpR (op_eqD hu) (nomark _) (fun x y H1 rx ry _ Q q => ⟨da, db, rx.dp, ry.dp, sa, sb, q _ H1 (Evl.Ex.refl H1) (.bl _)⟩) ha hb
theorem pd_ne (hu : X.A.units + 64 < cLine) (ha : PD X M a σ H da) (hb : PD X M b σ H db) (sa : SeqAt.shaped da = true) (sb : SeqAt.shaped db = true) : PD X M (.Compare a [.NotEq] [b] pos) σ H (.bool (!PyData.eqv da db)) :=
  pd_cmpR (op_neD hu) (nomark _) (fun x y H1 rx ry _ Q q => ⟨da, db, rx.dp, ry.dp, sa, sb, q _ H1 (Evl.Ex.refl H1) (.bl _)⟩) ha hb
def isNone : PyData → Bool
  | .none => true
  | _ => false
theorem Rp.isN {K : PySem.W.Frag} {x : V} (r : Rp K M H x d) : decide (x = .non) = isNone d := by
  cases r <;> rfl
theorem pd_isN {j p2} (ha : PD X M a σ H da) : PD X M (.Compare a [.Is] [.Constant .none j p2] pos) σ H (.bool (isNone da)) :=
  pd_cmpR op_isN (nomark _) (fun x y H1 rx ry _ Q q => by
    cases ry
    exact ⟨rfl, q _ H1 (Evl.Ex.refl H1) (by rw [rx.isN]; exact .bl _)⟩) ha pd_non
theorem pd_notN {j p2} (ha : PD X M a σ H da) : PD X M (.Compare a [.IsNot] [.Constant .none j p2] pos) σ H (.bool (!isNone da)) :=
  pd_cmpR op_notN (nomark _) (fun x y H1 rx ry _ Q q => by
    cases ry
    exact ⟨rfl, q _ H1 (Evl.Ex.refl H1) (by rw [rx.isN]; exact .bl _)⟩) ha pd_non

/-! ### items -/
def ixD : PyData → PyData → Option PyData
  | .list ds, .int i => atI ds i
  | .tuple ds, .int i => atI ds i
  | .str z, .int i => if z.length ≤ sizeLine then (atI z.cps.toList i).map fun c => .str ⟨#[c]⟩ else none
  | _, _ => none
theorem atI_rp {K : PySem.W.Frag} {xs : List V} {i : Int} (r : RpAll K M H xs ds) (h : atI ds i = some d) : ∃ v, atI xs i = some v ∧ Rp K M H v d := by
  unfold atI at h ⊢
  rw [r.length]
  cases e : ixN ds.length i with
  | none =>
    rw [e] at h
    cases h
  | some j =>
    rw [e] at h
    obtain ⟨v, h1, h2⟩ := r.get h
    exact ⟨v, h1, h2⟩
theorem pd_ix (ha : PD X M a σ H da) (hb : PD X M b σ H db) (h : ixD da db = some d) (hs : PlainIx b := by exact fun _ _ => rfl) : PD X M (.Subscript a b pos) σ H d := .mk fun H1 e1 al Q q =>
  ⟨_, pe_ix ix_seq wE.pe wE.pe hs, ha.run H1 e1 al _ fun x H2 x2 rx => hb.run H2 (e1.trans (.of x2)) (al.mono x2) _ fun y H3 x3 ry => by
    have rx' := rx.mono (fun _ z => z) (.of x3)
    have fin : ∀ v, Rp X.K M H3 v d → Q v H3 := fun v rv => q v H3 (x2.trans x3) rv
    cases ry with
    | int i =>
      cases rx' with
      | lst m hs rs =>
        obtain ⟨v, hv, rv⟩ := atI_rp rs h
        exact .inl ⟨_, _, i, v, rfl, rfl, .inl hs, hv, fin v rv⟩
      | tup m hs rs =>
        obtain ⟨v, hv, rv⟩ := atI_rp rs h
        exact .inr (.inl ⟨_, _, i, v, rfl, rfl, .inl hs, hv, fin v rv⟩)
      | str z =>
        simp only [ixD] at h
        split at h
        · rename_i hz
          cases e : atI z.cps.toList i with
          | none =>
            rw [e] at h
            cases h
          | some c =>
            rw [e] at h
            cases h
            exact .inr (.inr ⟨z, i, c, rfl, rfl, hz, e, fin _ (.str _)⟩)
        · cases h
      | _ => cases h
    | _ => cases da <;> cases h⟩

/-! ### own defs that leave all as it is -/
def PureR (K : PySem.W.Frag) (R : List PyData → PyData → Prop) : Sp := fun vs H Q _ => ∃ M ds d, Alive M H ∧ RpAll K M H vs ds ∧ R ds d ∧ ∀ v H', Evl.Ex H H' → Rp K M H' v d → Q v H'
theorem pd_call {R : List PyData → PyData → Prop} {CX : CXT} {E : XK} {k : Nat} {f : Addr} {fd : FuncData} {ps : List Str} {x : Str} {p : Pos} (F : FnOk X.prog X.w X.K X.mg X.base CX k f fd ps (PureR X.K R)) (hr : Room k X.A) (hg : Gl X x) (hm : X.mg x = some (.ref f)) (hk : PySem.W.keepIn X.K (.ref f) = true)
    (hb : Binds X.K fd ps []) (hx : Passes CX X E) (h : AD X M (e :: es) σ H ds) (hR : R ds d)
    (hdb : (x == ("__debug__" : Str)) = false := by decide) (he : starEach (e :: es) X.env = (false, eval e X.env) :: starEach es X.env := by rfl) (hpl : (backTo pos (starEach es X.env)).any (·.1) = false := by rfl) : PD X M (.Call (.Name x p) (e :: es) [] pos) σ H d := .mk fun H1 e1 al Q q =>
  ⟨_, pe_call F hr hg hm hk hb .nil hx wA.pa hdb he hpl, h.run H1 e1 al _ fun vs H2 x2 r => by
    rw [List.append_nil]
    exact ⟨M, ds, d, al.mono x2, r, hR, fun v H3 x3 rv => q v H3 (x2.trans x3) rv⟩⟩
end

/-! ### statements -/
section
variable {X : Cx} {M : Addr → Prop} {σ : St} {H : Hp} {c e : Expr} {d : PyData} {pos : Pos} {st : Stmt} {sts A B : List Stmt} {D : Ends}
theorem b_nil (h : D.nx σ H) : wB X [] D σ H := ⟨_, pss_nil, h⟩
theorem b_cons (h : wS X st { D with nx := wB X sts D } σ H) : wB X (st :: sts) D σ H := ⟨_, pss_cons wS.ps wB.ps, h⟩
theorem s_ret (al : Alive M H) (h : PD X M e σ H d) (q : ∀ v H2, Evl.Ex H H2 → Rp X.K M H2 v d → D.rt v H2) : wS X (.Return (some e) pos) D σ H := ⟨_, ps_ret wE.pe, h.run H (ExM.refl H) al _ q⟩
theorem s_retN (q : D.rt .non H) : wS X (.Return none pos) D σ H := ⟨_, ps_retN, q⟩
theorem s_if {k : Bool} (al : Alive M H) (h : TD X M c σ H k) (h1 : k = true → ∀ H2, Evl.Ex H H2 → wB X A D σ H2) (h2 : k = false → ∀ H2, Evl.Ex H H2 → wB X B D σ H2) : wS X (.If c A B pos) D σ H :=
  ⟨_, ps_if wT.pt wB.ps wB.ps, h.run H (ExM.refl H) al _ fun H2 x2 => by
    cases k with
    | true => exact h1 rfl H2 x2
    | false => exact h2 rfl H2 x2⟩
theorem s_set {i : Nat} {x : Str} {p : Pos} (al : Alive M H) (hN : X.N.Nodup) (hi : X.N[i]? = some x) (hx : Loc X.env.scope x) (h : PD X M e σ H d) (q : ∀ v H2, Evl.Ex H H2 → Rp X.K M H2 v d → D.nx (σ.set i (some v)) H2)
    (hs : swapsWith e (some (.Name x p)) pos.line X.env = pure false := by rfl) (hf : X.fn x = true ∨ X.env.scope.names.lookup x = some .local := by first | exact .inl rfl | exact .inr rfl | assumption) : wS X (.Assign [.Name x p] e pos) D σ H :=
  ⟨_, ps_set hN hi hx wE.pe hs hf, h.run H (ExM.refl H) al _ fun v H2 x2 r => q v H2 x2 r⟩
end
end GV

namespace GV
open PySem PySem.Spec PyProof.Rows L2
section
variable {X : Cx} {M : Addr → Prop} {σ : St} {H H' : Hp} {a b c e : Expr} {da db d : PyData} {pos : Pos} {es : List Expr} {ds : List PyData}

/-! ### more of ints -/
theorem pd_neg {i : Int} (ha : PD X M a σ H (.int i)) : PD X M (.UnaryOp .USub a pos) σ H (.int (-i)) := .mk fun H1 e1 al Q q =>
  ⟨_, pe_un un_neg wE.pe, ha.run H1 e1 al _ fun x H2 x2 rx => by
    cases rx
    exact ⟨i, rfl, q _ H2 x2 (.int _)⟩⟩
theorem pd_mulW {i j : Int} (ha : PD X M a σ H (.int i)) (hb : PD X M b σ H (.int j)) (hc : CMulW i j) : PD X M (.BinOp a .Mult b pos) σ H (.int (i * j)) := pd_binR op_mulW (rd_I hc) ha hb
theorem pd_div {i j : Int} (ha : PD X M a σ H (.int i)) (hb : PD X M b σ H (.int j)) (hc : CDivW i j) : PD X M (.BinOp a .FloorDiv b pos) σ H (.int (i / j)) := pd_binR op_fdivW (rd_I hc) ha hb
theorem pd_mod {i j : Int} (ha : PD X M a σ H (.int i)) (hb : PD X M b σ H (.int j)) (hc : 0 < j) : PD X M (.BinOp a .Mod b pos) σ H (.int (i % j)) := pd_binR op_mod (rd_I (C := fun _ j => 0 < j) hc) ha hb
theorem pd_pow {i j : Int} (ha : PD X M a σ H (.int i)) (hb : PD X M b σ H (.int j)) (hc : CPow i j) : PD X M (.BinOp a .Pow b pos) σ H (.int (i ^ j.toNat)) := pd_binR op_pow (rd_I hc) ha hb

/-! ### built-ins, by values -/
def RDn (X : Cx) (M : Addr → Prop) (r : List V → Hp → VK → Prop) (ds : List PyData) (d : PyData) : Prop :=
  ∀ vs H1, RpAll X.K M H1 vs ds → Alive M H1 → ∀ Q : VK, (∀ v H2, Evl.Ex H1 H2 → Rp X.K M H2 v d → Q v H2) → r vs H1 Q
def RFn (X : Cx) (M : Addr → Prop) (r : List V → Hp → VK → Prop) (ds es : List PyData) : Prop :=
  ∀ vs H1, RpAll X.K M H1 vs ds → Alive M H1 → ∀ Q : VK, (∀ p ws H2, H1 p = none → Evl.Ex H1 H2 → H2 p = some (.lst ws) → RpAll X.K M H2 ws es → Q (.ref p) H2) → r vs H1 Q
theorem pd_callB {id : String} {x : Str} {p : Pos} {r : List V → Hp → VK → Prop} (hc : CallR X (.builtin id) r) (hg : Gl X x) (hm : X.mg x = none) (hv : bootBuiltins x = some (.builtin id)) (h : AD X M (e :: es) σ H ds) (hr : RDn X M r ds d)
    (hn : x ≠ "__name__" := by decide) (hdb : (x == ("__debug__" : Str)) = false := by decide) (he : starEach (e :: es) X.env = (false, eval e X.env) :: starEach es X.env := by rfl) (hpl : (backTo pos (starEach es X.env)).any (·.1) = false := by rfl) :
    PD X M (.Call (.Name x p) (e :: es) [] pos) σ H d := .mk fun H1 e1 al Q q =>
  ⟨_, pe_callB hc hg hm hv wA.pa hn hdb he hpl, h.run H1 e1 al _ fun vs H2 x2 rs => hr vs H2 rs (al.mono x2) Q fun v H3 x3 rv => q v H3 (x2.trans x3) rv⟩
theorem pd_callTy {T : String} {x : Str} {p : Pos} {r : List V → Hp → VK → Prop} (hc : CallR X (.type T) r) (hg : Gl X x) (hm : X.mg x = none) (hv : bootBuiltins x = some (.type T)) (h : AD X M (e :: es) σ H ds) (hr : RDn X M r ds d)
    (hn : x ≠ "__name__" := by decide) (hdb : (x == ("__debug__" : Str)) = false := by decide) (he : starEach (e :: es) X.env = (false, eval e X.env) :: starEach es X.env := by rfl) (hpl : (backTo pos (starEach es X.env)).any (·.1) = false := by rfl) :
    PD X M (.Call (.Name x p) (e :: es) [] pos) σ H d := .mk fun H1 e1 al Q q =>
  ⟨_, pe_callTy hc hg hm hv wA.pa hn hdb he hpl, h.run H1 e1 al _ fun vs H2 x2 rs => hr vs H2 rs (al.mono x2) Q fun v H3 x3 rv => q v H3 (x2.trans x3) rv⟩
theorem fd_callTy {T : String} {x : Str} {p : Pos} {r : List V → Hp → VK → Prop} {fs : List PyData} (hc : CallR X (.type T) r) (hg : Gl X x) (hm : X.mg x = none) (hv : bootBuiltins x = some (.type T)) (h : AD X M (e :: es) σ H ds) (hr : RFn X M r ds fs)
    (hn : x ≠ "__name__" := by decide) (hdb : (x == ("__debug__" : Str)) = false := by decide) (he : starEach (e :: es) X.env = (false, eval e X.env) :: starEach es X.env := by rfl) (hpl : (backTo pos (starEach es X.env)).any (·.1) = false := by rfl) :
    FD X M (.Call (.Name x p) (e :: es) [] pos) σ H fs := .mk fun H1 e1 al Q q =>
  ⟨_, pe_callTy hc hg hm hv wA.pa hn hdb he hpl, h.run H1 e1 al _ fun vs H2 x2 rs => hr vs H2 rs (al.mono x2) Q fun p ws H3 hp x3 h3 rv => q p ws H3 (Evl.fresh_back x2 hp) (x2.trans x3) h3 rv⟩
theorem fd_callB {id : String} {x : Str} {p : Pos} {r : List V → Hp → VK → Prop} {fs : List PyData} (hc : CallR X (.builtin id) r) (hg : Gl X x) (hm : X.mg x = none) (hv : bootBuiltins x = some (.builtin id)) (h : AD X M (e :: es) σ H ds) (hr : RFn X M r ds fs)
    (hn : x ≠ "__name__" := by decide) (hdb : (x == ("__debug__" : Str)) = false := by decide) (he : starEach (e :: es) X.env = (false, eval e X.env) :: starEach es X.env := by rfl) (hpl : (backTo pos (starEach es X.env)).any (·.1) = false := by rfl) :
    FD X M (.Call (.Name x p) (e :: es) [] pos) σ H fs := .mk fun H1 e1 al Q q =>
  ⟨_, pe_callB hc hg hm hv wA.pa hn hdb he hpl, h.run H1 e1 al _ fun vs H2 x2 rs => hr vs H2 rs (al.mono x2) Q fun p ws H3 hp x3 h3 rv => q p ws H3 (Evl.fresh_back x2 hp) (x2.trans x3) h3 rv⟩
theorem rpa1 {vs : List V} {K : PySem.W.Frag} (r : RpAll K M H vs [d]) : ∃ v, vs = [v] ∧ Rp K M H v d := by
  obtain ⟨⟩ | ⟨r1, r⟩ := r
  obtain ⟨⟩ := r
  exact ⟨_, rfl, r1⟩
theorem rpa2 {vs : List V} {K : PySem.W.Frag} (r : RpAll K M H vs [da, db]) : ∃ v w, vs = [v, w] ∧ Rp K M H v da ∧ Rp K M H w db := by
  obtain ⟨⟩ | ⟨r1, r⟩ := r
  obtain ⟨v, rfl, r2⟩ := rpa1 r
  exact ⟨_, _, rfl, r1, r2⟩
/-- int(n), int(True) -/
theorem rn_int {i : Int} : RDn X M (fun xs H Q => (∃ i, xs = [.int i] ∧ Q (.int i) H) ∨ ∃ k, xs = [.bl k] ∧ Q (.int (if k then 1 else 0)) H) [.int i] (.int i) := fun vs H1 r _ Q q => by
  obtain ⟨v, rfl, r1⟩ := rpa1 r
  cases r1
  exact .inl ⟨i, rfl, q _ H1 (Evl.Ex.refl H1) (.int _)⟩
theorem rn_intB {k : Bool} : RDn X M (fun xs H Q => (∃ i, xs = [.int i] ∧ Q (.int i) H) ∨ ∃ k, xs = [.bl k] ∧ Q (.int (if k then 1 else 0)) H) [.bool k] (.int (if k then 1 else 0)) := fun vs H1 r _ Q q => by
  obtain ⟨v, rfl, r1⟩ := rpa1 r
  cases r1
  exact .inr ⟨k, rfl, q _ H1 (Evl.Ex.refl H1) (.int _)⟩
theorem rn_abs {i : Int} : RDn X M (fun xs H Q => ∃ i, xs = [.int i] ∧ Q (.int (if i < 0 then -i else i)) H) [.int i] (.int (if i < 0 then -i else i)) := fun vs H1 r _ Q q => by
  obtain ⟨v, rfl, r1⟩ := rpa1 r
  cases r1
  exact ⟨i, rfl, q _ H1 (Evl.Ex.refl H1) (.int _)⟩
theorem rn_max2 {i j : Int} : RDn X M (fun xs H Q => ∃ i j, xs = [.int i, .int j] ∧ Q (.int (if j > i then j else i)) H) [.int i, .int j] (.int (if j > i then j else i)) := fun vs H1 r _ Q q => by
  obtain ⟨v, w, rfl, r1, r2⟩ := rpa2 r
  cases r1
  cases r2
  exact ⟨i, j, rfl, q _ H1 (Evl.Ex.refl H1) (.int _)⟩
theorem rn_min2 {i j : Int} : RDn X M (fun xs H Q => ∃ i j, xs = [.int i, .int j] ∧ Q (.int (if j < i then j else i)) H) [.int i, .int j] (.int (if j < i then j else i)) := fun vs H1 r _ Q q => by
  obtain ⟨v, w, rfl, r1, r2⟩ := rpa2 r
  cases r1
  cases r2
  exact ⟨i, j, rfl, q _ H1 (Evl.Ex.refl H1) (.int _)⟩
/-- len -/
def lenD : PyData → Option Nat
  | .list ds => some ds.length
  | .tuple ds => some ds.length
  | .str z => if z.length ≤ sizeLine then some z.length else none
  | _ => none
theorem rn_len {n : Nat} (h : lenD d = some n) : RDn X M (fun xs H Q => ∃ x n, xs = [x] ∧ LenV X.K x H n ∧ Q (.int n) H) [d] (.int n) := fun vs H1 r _ Q q => by
  obtain ⟨v, rfl, r1⟩ := rpa1 r
  have fin := q (.int n) H1 (Evl.Ex.refl H1) (.int _)
  cases r1 with
  | lst m hs rs =>
    cases h
    exact ⟨_, _, rfl, .inl ⟨_, .inl hs, rs.length.symm⟩, fin⟩
  | tup m hs rs =>
    cases h
    exact ⟨_, _, rfl, .inr ⟨_, .inl hs, rs.length.symm⟩, fin⟩
  | str z =>
    simp only [lenD] at h
    split at h
    · rename_i hz
      cases h
      exact ⟨_, _, rfl, ⟨hz, rfl⟩, fin⟩
    · cases h
  | _ => cases h
/-- list(xs), tuple(xs) -/
def itemsD : PyData → Option (List PyData)
  | .list ds => some ds
  | .tuple ds => some ds
  | _ => none
theorem rf_list (h : itemsD d = some ds) : RFn X M (fun xs H Q => ∃ p ys, xs = [.ref p] ∧ (SqL X.K H p ys ∨ SqT X.K H p ys) ∧ ∀ l, H l = none → Q (.ref l) (upd H l (.lst ys))) [d] ds := fun vs H1 r al Q q => by
  obtain ⟨v, rfl, r1⟩ := rpa1 r
  cases r1 with
  | lst m hs rs =>
    cases h
    exact ⟨_, _, rfl, .inl (.inl hs), fun l hl => q l _ _ hl (Evl.Ex.new hl) upd_same (rs.mono (fun _ z => z) (.of (Evl.Ex.new hl)))⟩
  | tup m hs rs =>
    cases h
    exact ⟨_, _, rfl, .inr (.inl hs), fun l hl => q l _ _ hl (Evl.Ex.new hl) upd_same (rs.mono (fun _ z => z) (.of (Evl.Ex.new hl)))⟩
  | _ => cases h
theorem rn_tuple (h : itemsD d = some ds) : RDn X M (fun xs H Q => ∃ p ys, xs = [.ref p] ∧ ((SqL X.K H p ys ∧ ∀ l, H l = none → Q (.ref l) (upd H l (.tup ys))) ∨ (SqT X.K H p ys ∧ Q (.ref p) H))) [d] (.tuple ds) := fun vs H1 r al Q q => by
  obtain ⟨v, rfl, r1⟩ := rpa1 r
  cases r1 with
  | lst m hs rs =>
    cases h
    exact ⟨_, _, rfl, .inl ⟨.inl hs, fun l hl => q _ _ (Evl.Ex.new hl) (.newT (X := X) al hl rs)⟩⟩
  | tup m hs rs =>
    cases h
    exact ⟨_, _, rfl, .inr ⟨.inl hs, q _ H1 (Evl.Ex.refl H1) (.tup m hs rs)⟩⟩
  | _ => cases h

/-! ### slices of a list -/
theorem cutV_map (xs : List V) (lo hi : Option Int) : True := True.intro
def cutD (xs : List PyData) (lo hi : Option Int) : List PyData := (xs.drop (HT.sIx xs.length 0 lo)).take (HT.sIx xs.length xs.length hi - HT.sIx xs.length 0 lo)
theorem RpAll.take {K : PySem.W.Frag} : ∀ {vs : List V} {ds : List PyData} (n : Nat), RpAll K M H vs ds → RpAll K M H (vs.take n) (ds.take n)
  | _, _, 0, _ => .nil
  | _, _, n + 1, .nil => .nil
  | _, _, n + 1, .cons r rs => .cons r (RpAll.take n rs)
theorem RpAll.drop {K : PySem.W.Frag} : ∀ {vs : List V} {ds : List PyData} (n : Nat), RpAll K M H vs ds → RpAll K M H (vs.drop n) (ds.drop n)
  | _, _, 0, r => r
  | _, _, n + 1, .nil => .nil
  | _, _, n + 1, .cons r rs => RpAll.drop n rs
theorem RpAll.cut {K : PySem.W.Frag} {vs : List V} {ds : List PyData} (lo hi : Option Int) (r : RpAll K M H vs ds) : RpAll K M H (cutV vs lo hi) (cutD ds lo hi) := by
  unfold cutV cutD
  rw [r.length]
  exact (r.drop _).take _
/-- an optional part of a slice -/
structure OD (X : Cx) (M : Addr → Prop) (e : Option Expr) (σ : St) (H : Hp) (o : Option Int) : Prop where
  ex : ∃ t, PO X e t ∧ ∀ H1, ExM M H H1 → Alive M H1 → ∀ Q : Option Int → Hp → Prop, (∀ H2, Evl.Ex H1 H2 → Q o H2) → t σ H1 Q
theorem od_none : OD X M none σ H none := ⟨_, po_none, fun H1 _ _ Q q => q H1 (Evl.Ex.refl H1)⟩
theorem od_some {i : Int} (h : PD X M e σ H (.int i)) : OD X M (some e) σ H (some i) := ⟨_, po_some wE.pe, fun H1 e1 al Q q => h.run H1 e1 al _ fun x H2 x2 r => by
  cases r
  exact ⟨i, rfl, q H2 x2⟩⟩
theorem fd_slice {lo hi : Option Expr} {l u : Option Int} {p2 : Pos} (h : PD X M e σ H (.list ds)) (hl : OD X M lo σ H l) (hu : OD X M hi σ H u) : FD X M (.Subscript e (.Slice lo hi none p2) pos) σ H (cutD ds l u) := by
  obtain ⟨tl, pl, rl⟩ := hl.ex
  obtain ⟨tu, pu, ru⟩ := hu.ex
  refine .mk fun H1 e1 al Q q => ⟨_, pe_slice sl_list wE.pe pl pu, h.run H1 e1 al _ fun x H2 x2 r => ?_⟩
  refine rl H2 (e1.trans (.of x2)) (al.mono x2) _ fun H3 x3 => ru H3 ((e1.trans (.of x2)).trans (.of x3)) ((al.mono x2).mono x3) _ fun H4 x4 => ?_
  have r4 := r.mono (fun _ z => z) (.of (x3.trans x4))
  cases r4 with
  | lst m hs rs =>
    exact ⟨_, _, rfl, .inl hs, fun p hp => q p _ _ (Evl.fresh_back (x2.trans (x3.trans x4)) hp) ((x2.trans (x3.trans x4)).trans (Evl.Ex.new hp)) upd_same ((rs.cut l u).mono (fun _ z => z) (.of (Evl.Ex.new hp)))⟩

/-! ### list + list -/
def rCatR : R2 := fun x y H Q => ∃ l b xs zs, x = .ref l ∧ y = .ref b ∧ Rd H l (.lst xs) ∧ Rd H b (.lst zs) ∧ xs.length + zs.length ≤ sizeLine ∧ ∀ p, H p = none → Q (.ref p) (upd H p (.lst (xs ++ zs)))
theorem op_catR : OpR X (binaryOp .Add) rCatR := by
  intro pins s σ H x y v u Q I rx ry h
  obtain ⟨l, b, xs, zs, rfl, rfl, hH, hB, hz, q⟩ := h
  cases rx
  cases ry
  obtain ⟨z, its, n, r, e⟩ := hH.ok I.hok
  obtain ⟨z2, its2, n2, r2, e2⟩ := hB.ok I.hok
  have hl := r.length
  have hl2 := r2.length
  refine PySem.P.add_list e e2 ?_ (by rw [List.size_toArray, List.size_toArray]; omega)
  have ea : its.toArray ++ its2.toArray = (its ++ its2).toArray := by simp
  rw [ea]
  exact ⟨.ref _, _, I.lnew (t' := s.toks) (r.append r2) (by rw [List.length_append]; omega), rfl, q _ I.fresh⟩
theorem fd_cat {es fs : List PyData} (ha : PD X M a σ H (.list es)) (hb : PD X M b σ H (.list fs)) (hl : es.length + fs.length ≤ 100000) : FD X M (.BinOp a .Add b pos) σ H (es ++ fs) := .mk fun H1 e1 al Q q =>
  ⟨_, pe_op op_catR wE.pe wE.pe, ha.run H1 e1 al _ fun x H2 x2 rx => hb.run H2 (e1.trans (.of x2)) (al.mono x2) _ fun y H3 x3 ry => by
    have rx' := rx.mono (fun _ z => z) (.of x3)
    cases rx' with
    | lst m1 h1 r1 =>
      cases ry with
      | lst m2 h2 r2 =>
        exact ⟨_, _, _, _, rfl, rfl, h1, h2, by rw [r1.length, r2.length]; exact Evl.sz_of hl, fun p hp => q p _ _ (Evl.fresh_back (x2.trans x3) hp) ((x2.trans x3).trans (Evl.Ex.new hp)) upd_same
          ((r1.append r2).mono (fun _ z => z) (.of (Evl.Ex.new hp)))⟩⟩
end
end GV

namespace GV
open PySem PySem.Spec PyProof.Rows L2

/-! ### what is walked -/
/-- from H0 on the iterator gives these data, one after another -/
structure Wk (K : PySem.W.Frag) (M : Addr → Prop) (J : It) (H0 : Hp) (ds : List PyData) : Prop where
  go : ∀ M' i H, (∀ a, M' a → M a ∨ H0 a = none) → ExM M' H0 H → i < ds.length → J.go i H
  stop : ∀ M' H, (∀ a, M' a → M a ∨ H0 a = none) → ExM M' H0 H → J.stop ds.length H
  yld : ∀ M' i H x H', (∀ a, M' a → M a ∨ H0 a = none) → ExM M' H0 H → Alive M' H → J.yld i H x H' → Evl.Ex H H' ∧ ∀ d, ds[i]? = some d → Rp K M' H' x d
structure Src (X : Cx) (M : Addr → Prop) (tg iter : Expr) (σ : St) (H : Hp) (ds : List PyData) : Prop where
  ex : ∃ wi, PI X tg iter wi ∧ ∀ H1, ExM M H H1 → Alive M H1 → ∀ R, (∀ J H2, Evl.Ex H1 H2 → Wk X.K M J H2 ds → R J H2) → wi σ H1 R
section
variable {X : Cx} {K : PySem.W.Frag} {M : Addr → Prop} {σ : St} {H H' : Hp} {a b c e tg iter : Expr} {da db d : PyData} {pos : Pos} {es : List Expr} {ds : List PyData}
theorem rd_inj {a : Addr} {u w : HO} (h : Rd H a u) (h' : H a = some w ∨ ∃ o, H a = some (.frz o w)) (hf : ∀ o z, u ≠ .frz o z) (hf' : ∀ o z, w ≠ .frz o z) : u = w := by
  rcases h with h | ⟨o, h⟩ <;> rcases h' with h' | ⟨o', h'⟩ <;> rw [h] at h' <;> cases h'
  · rfl
  · exact absurd rfl (hf _ _)
  · exact absurd rfl (hf' _ _)
  · rfl
theorem wk_list {a : Addr} {xs : List V} (m : ¬ M a) (h : Rd H a (.lst xs)) (r : RpAll K M H xs ds) : Wk K M (Itl K a) H ds := by
  have nm : ∀ M' : Addr → Prop, (∀ a, M' a → M a ∨ H a = none) → ¬ M' a := fun M' hm z => (hm a z).elim m (Rd.there h)
  have at_ : ∀ (M' : Addr → Prop) (H' : Hp), (∀ a, M' a → M a ∨ H a = none) → ExM M' H H' → Rd H' a (.lst xs) := fun M' H' hm e => Rd.exM (M := M') h (nm M' hm) e
  refine ⟨fun M' i H' hm e hi => ?_, fun M' H' hm e => ?_, fun M' i H' x H'' hm e al y => ?_⟩
  · have hx : i < xs.length := by rw [r.length]; exact hi
    exact ⟨xs, xs[i], .inl (at_ M' H' hm e), List.getElem?_eq_getElem hx⟩
  · exact ⟨xs, .inl (at_ M' H' hm e), by rw [r.length]; exact Nat.le_refl _⟩
  · obtain ⟨rfl, y⟩ := y
    refine ⟨Evl.Ex.refl _, fun d hd => ?_⟩
    obtain ⟨v, hv, rv⟩ := r.get hd
    have q := y xs (.inl (at_ M' _ hm e))
    rw [hv] at q
    cases q
    exact (rv.wide hm).mono (fun _ z => z) e
theorem wk_tup {a : Addr} {xs : List V} (m : ¬ M a) (h : Rd H a (.tup xs)) (r : RpAll K M H xs ds) : Wk K M (Itt K a) H ds := by
  have nm : ∀ M' : Addr → Prop, (∀ a, M' a → M a ∨ H a = none) → ¬ M' a := fun M' hm z => (hm a z).elim m (Rd.there h)
  have at_ : ∀ (M' : Addr → Prop) (H' : Hp), (∀ a, M' a → M a ∨ H a = none) → ExM M' H H' → Rd H' a (.tup xs) := fun M' H' hm e => Rd.exT (M := M') h (nm M' hm) e
  refine ⟨fun M' i H' hm e hi => ?_, fun M' H' hm e => ?_, fun M' i H' x H'' hm e al y => ?_⟩
  · have hx : i < xs.length := by rw [r.length]; exact hi
    exact ⟨xs, xs[i], .inl (at_ M' H' hm e), List.getElem?_eq_getElem hx⟩
  · exact ⟨xs, .inl (at_ M' H' hm e), by rw [r.length]; exact Nat.le_refl _⟩
  · obtain ⟨rfl, y⟩ := y
    refine ⟨Evl.Ex.refl _, fun d hd => ?_⟩
    obtain ⟨v, hv, rv⟩ := r.get hd
    have q := y xs (.inl (at_ M' _ hm e))
    rw [hv] at q
    cases q
    exact (rv.wide hm).mono (fun _ z => z) e
theorem wk_range (lo : Int) (n : Nat) : Wk K M (Itr lo n) H ((List.range n).map fun i => PyData.int (lo + (i : Nat))) := by
  refine ⟨fun M' i H' hm e hi => ?_, fun M' H' hm e => ?_, fun M' i H' x H'' hm e al y => ?_⟩
  · rw [List.length_map, List.length_range] at hi
    exact hi
  · rw [List.length_map, List.length_range]
    exact Nat.le_refl _
  · obtain ⟨rfl, rfl⟩ := y
    refine ⟨Evl.Ex.refl _, fun d hd => ?_⟩
    rw [List.getElem?_map] at hd
    obtain ⟨j, hj, rfl⟩ := Option.map_eq_some_iff.mp hd
    obtain ⟨h1, h2⟩ := List.getElem?_eq_some_iff.mp hj
    rw [List.getElem_range] at h2
    subst h2
    exact .int _
def enumD (ds : List PyData) : List PyData := ds.zipIdx.map fun p => .tuple [.int (p.2 : Nat), p.1]
theorem enumD_get {i : Nat} {d : PyData} (h : (enumD ds)[i]? = some d) : ∃ e, ds[i]? = some e ∧ d = .tuple [.int (i : Nat), e] := by
  unfold enumD at h
  rw [List.getElem?_map] at h
  obtain ⟨p, hp, rfl⟩ := Option.map_eq_some_iff.mp h
  rw [List.getElem?_zipIdx] at hp
  obtain ⟨e, he, rfl⟩ := Option.map_eq_some_iff.mp hp
  exact ⟨e, he, by simp⟩
theorem enumD_length : (enumD ds).length = ds.length := by
  unfold enumD
  rw [List.length_map, List.length_zipIdx]
theorem wk_enum {a : Addr} {xs : List V} (m : ¬ M a) (h : Rd H a (.lst xs)) (r : RpAll K M H xs ds) : Wk K M (Ite K a) H (enumD ds) := by
  have nm : ∀ M' : Addr → Prop, (∀ a, M' a → M a ∨ H a = none) → ¬ M' a := fun M' hm z => (hm a z).elim m (Rd.there h)
  have at_ : ∀ (M' : Addr → Prop) (H' : Hp), (∀ a, M' a → M a ∨ H a = none) → ExM M' H H' → Rd H' a (.lst xs) := fun M' H' hm e => Rd.exM (M := M') h (nm M' hm) e
  refine ⟨fun M' i H' hm e hi => ?_, fun M' H' hm e => ?_, fun M' i H' x H'' hm e al y => ?_⟩
  · have hx : i < xs.length := by rw [r.length, ← enumD_length]; exact hi
    exact ⟨xs, xs[i], .inl (at_ M' H' hm e), List.getElem?_eq_getElem hx⟩
  · exact ⟨xs, .inl (at_ M' H' hm e), by rw [r.length, enumD_length]; exact Nat.le_refl _⟩
  · obtain ⟨T, z, rfl, hT, rfl, y⟩ := y
    refine ⟨Evl.Ex.new hT, fun d hd => ?_⟩
    obtain ⟨e', he, rfl⟩ := enumD_get hd
    obtain ⟨v, hv, rv⟩ := r.get he
    have q := y xs (.inl (at_ M' _ hm e))
    rw [hv] at q
    cases q
    exact .tup (al.fresh hT) (.inl upd_same) (.cons (.int _) (.cons (((rv.wide hm).mono (fun _ z => z) e).mono (fun _ z => z) (.of (Evl.Ex.new hT))) .nil))
theorem src_list (h : PD X M iter σ H (.list ds)) : Src X M tg iter σ H ds := ⟨_, pi_list wE.pe, fun H1 e1 al R q => h.run H1 e1 al _ fun v H2 x2 r => by
  cases r with
  | lst m hr rs => exact ⟨_, rfl, ⟨_, .inl hr⟩, q _ H2 x2 (wk_list m hr rs)⟩⟩
theorem src_tup (h : PD X M iter σ H (.tuple ds)) : Src X M tg iter σ H ds := ⟨_, pi_tup wE.pe, fun H1 e1 al R q => h.run H1 e1 al _ fun v H2 x2 r => by
  cases r with
  | tup m hr rs => exact ⟨_, rfl, ⟨_, .inl hr⟩, q _ H2 x2 (wk_tup m hr rs)⟩⟩
theorem src_enum {p tpos : Pos} {elts : List Expr} {kk : Nat} (hg : Gl X "enumerate") (hm : X.mg "enumerate" = none) (h : PD X M e σ H (.list ds)) (hs : starEach [e] X.env = [(false, eval e X.env)] := by rfl)
    (hs' : starEach (e :: []) X.env = (false, eval e X.env) :: starEach [] X.env := by rfl) : Src X M (.Tuple elts kk tpos) (.Call (.Name "enumerate" p) [e] [] pos) σ H (enumD ds) :=
  ⟨_, pi_enum hg hm wA.pa hs, fun H1 e1 al R q => (ad_cons h ad_nil hs').run H1 e1 al _ fun vs H2 x2 rs => by
    obtain ⟨v, rfl, r⟩ := rpa1 rs
    cases r with
    | lst m hr rr => exact ⟨_, _, rfl, .inl hr, q _ H2 x2 (wk_enum m hr rr)⟩⟩
theorem src_range1 {p : Pos} {j : Int} (hg : Gl X "range") (hm : X.mg "range" = none) (h : PD X M e σ H (.int j)) (h1 : -(2 ^ 62) ≤ j) (h2 : j < 2 ^ 62) (hs : starEach [e] X.env = [(false, eval e X.env)] := by rfl)
    (hs' : starEach (e :: []) X.env = (false, eval e X.env) :: starEach [] X.env := by rfl) : Src X M tg (.Call (.Name "range" p) [e] [] pos) σ H ((List.range j.toNat).map fun i => PyData.int (0 + (i : Nat))) :=
  ⟨_, pi_range1 hg hm wA.pa hs, fun H1 e1 al R q => (ad_cons h ad_nil hs').run H1 e1 al _ fun vs H2 x2 rs => by
    obtain ⟨v, rfl, r⟩ := rpa1 rs
    cases r
    exact ⟨j, rfl, h1, h2, q _ H2 x2 (wk_range 0 j.toNat)⟩⟩
theorem src_range2 {p : Pos} {a b : Expr} {i j : Int} (hg : Gl X "range") (hm : X.mg "range" = none) (ha : PD X M a σ H (.int i)) (hb : PD X M b σ H (.int j)) (h1 : -(2 ^ 62) ≤ i ∧ i < 2 ^ 62) (h2 : -(2 ^ 62) ≤ j ∧ j < 2 ^ 62)
    (hs : starEach [a, b] X.env = [(false, eval a X.env), (false, eval b X.env)] := by rfl) (hs2 : starEach [b] X.env = [(false, eval b X.env)] := by rfl)
    (hsa : starEach (a :: [b]) X.env = (false, eval a X.env) :: starEach [b] X.env := by rfl) (hsb : starEach (b :: []) X.env = (false, eval b X.env) :: starEach [] X.env := by rfl) :
    Src X M tg (.Call (.Name "range" p) [a, b] [] pos) σ H ((List.range (j - i).toNat).map fun k => PyData.int (i + (k : Nat))) :=
  ⟨_, pi_range2 hg hm wA.pa hs hs2, fun H1 e1 al R q => (ad_cons ha (ad_cons hb ad_nil hsb) hsa).run H1 e1 al _ fun vs H2 x2 rs => by
    obtain ⟨v, w, rfl, r1, r2⟩ := rpa2 rs
    cases r1
    cases r2
    exact ⟨i, j, rfl, ⟨h1.1, h1.2, h2.1, h2.2⟩, q _ H2 x2 (wk_range i (j - i).toNat)⟩⟩

/-! ### targets: a name, two names -/
inductive Tg where
  | one (i : Nat)
  | two (i j : Nat)
def Tg.g (K : PySem.W.Frag) : Tg → TG
  | .one i => gName i
  | .two i j => gTup K 2 (gCons (gName i) (gCons (gName j) gNil))
def Tg.Ok (K : PySem.W.Frag) (M : Addr → Prop) (H : Hp) (d : PyData) (σ : St) : Tg → St → Prop
  | .one i, σ' => ∃ v, Rp K M H v d ∧ σ' = σ.set i (some v)
  | .two i j, σ' => ∃ da db v w, d = .tuple [da, db] ∧ Rp K M H v da ∧ Rp K M H w db ∧ σ' = (σ.set i (some v)).set j (some w)
def Tg.Fits : Tg → PyData → Prop
  | .one _, _ => True
  | .two _ _, d => ∃ da db, d = .tuple [da, db]
theorem Tg.run {t : Tg} {v : V} {Q : St → Hp → Prop} (f : t.Fits d) (r : Rp K M H v d) (q : ∀ σ', t.Ok K M H d σ σ' → Q σ' H) : t.g K v σ H Q := by
  cases t with
  | one i => exact q _ ⟨v, r, rfl⟩
  | two i j =>
    obtain ⟨da, db, rfl⟩ := f
    cases r with
    | tup m h rs =>
      obtain ⟨v1, w1, rfl, r1, r2⟩ := rpa2 rs
      exact ⟨_, _, rfl, .inl h, rfl, v1, [w1], rfl, w1, [], rfl, rfl, q _ ⟨da, db, v1, w1, rfl, r1, r2, rfl⟩⟩

/-! ### for -/
theorem s_for {t : Tg} {body : List Stmt} {D : Ends} (hp : PassesOwn (model X.prog X.w) X.A X.env X.xe) (hc : X.calm = true) (hi : Src X M tg iter σ H ds) (hg : PG X tg (t.g X.K)) (al : Alive M H) (J : Hp → Nat → St → Hp → Prop)
    (h0 : ∀ H1, Evl.Ex H H1 → J H1 0 σ H1) (hk : ∀ H1 i σ' H', Evl.Ex H H1 → J H1 i σ' H' → ExM M H1 H' ∧ Alive M H') (hf : ∀ d ∈ ds, t.Fits d)
    (ht : ∀ H1 i d σ' H' H2 σ2, Evl.Ex H H1 → ds[i]? = some d → J H1 i σ' H' → Evl.Ex H' H2 → t.Ok X.K M H2 d σ' σ2 → wB X body { D with nx := J H1 (i + 1), ct := J H1 (i + 1), bk := D.nx } σ2 H2)
    (hd : ∀ H1 σ' H', Evl.Ex H H1 → J H1 ds.length σ' H' → D.nx σ' H') (hs : ∀ x, foldedSetIterable iter X.env x = pure x := by intro _; rfl) : wS X (.For tg iter body [] pos) D σ H := by
  obtain ⟨wi, pi, run⟩ := hi.ex
  refine ⟨_, ps_for hp hc pi hg wB.ps hs, run H (ExM.refl H) al _ fun It H1 x1 wk => ?_⟩
  refine ⟨fun i m σ' H' => m = ds.length - i ∧ i ≤ ds.length ∧ J H1 i σ' H', ⟨ds.length, rfl, Nat.zero_le _, h0 H1 x1⟩, ?_⟩
  rintro i m σ' H' ⟨rfl, hi', j⟩
  obtain ⟨e, al'⟩ := hk H1 i σ' H' x1 j
  by_cases hlt : i < ds.length
  · refine .inr ⟨wk.go M i H' (fun _ z => .inl z) e hlt, J H1 (i + 1), fun σ2 H2 j2 => ⟨ds.length - (i + 1), by omega, rfl, hlt, j2⟩, fun x H2 y => ?_⟩
    obtain ⟨x2, r⟩ := wk.yld M i H' x H2 (fun _ z => .inl z) e al' y
    have hd' : ds[i]? = some ds[i] := List.getElem?_eq_getElem hlt
    exact Tg.run (hf _ (List.getElem_mem hlt)) (r _ hd') fun σ2 ok => ht H1 i _ σ' H' H2 σ2 x1 hd' j x2 ok
  · have e2 : i = ds.length := by omega
    subst e2
    exact .inl ⟨wk.stop M H' (fun _ z => .inl z) e, hd H1 σ' H' x1 j⟩

/-! ### [elt for target in iter if ..] -/
def wTs (X : Cx) (ifs : List Expr) : TT := fun σ H Q => ∃ t, PTs X ifs t ∧ t σ H Q
theorem wTs.pts {ifs : List Expr} : PTs X ifs (wTs X ifs) := ⟨fun pins s σ H Q I ⟨_, h, q⟩ => h.run pins s σ H Q I q⟩
/-- the tests' answer -/
structure TsD (X : Cx) (M : Addr → Prop) (ifs : List Expr) (σ : St) (H : Hp) (k : Bool) : Prop where
  run : ∀ H1, ExM M H H1 → Alive M H1 → ∀ Q : Bool → Hp → Prop, (∀ H2, Evl.Ex H1 H2 → Q k H2) → wTs X ifs σ H1 Q
theorem tsd_nil : TsD X M [] σ H true := ⟨fun H1 _ _ Q q => ⟨_, pts_nil, q H1 (Evl.Ex.refl H1)⟩⟩
theorem tsd_one {k : Bool} (h : TD X M c σ H k) : TsD X M [c] σ H k := ⟨fun H1 e1 al Q q => ⟨_, pts_one wT.pt, h.run H1 e1 al Q q⟩⟩
abbrev Cx.lc (X : Cx) (s : Shared) (H : Hp) (scope : Scope) (C : Addr) (cl : List (Str × Addr)) (fp : List Addr) : Cx := X.blk s H scope (compEnvC scope cl C X.env) fp
theorem lc_core {t : Tg} {elt : Expr} {ifs : List Expr} {scope : Scope} {own : List (Str × Nat)} (hc : X.calm = true) (hN : X.N.Nodup) (hi : Src X M tg iter σ H ds) (ok : BlkOk X.N X.env.scope scope own)
    (hg : ∀ s H C cl fp, PG (Cx.lc X s H scope C cl fp) tg (t.g X.K)) (hf : ∀ d ∈ ds, t.Fits d) (hw : ∀ M H d σ', t.Ok X.K M H d (wipe σ (own.map (·.2))) σ' → wipe σ' (own.map (·.2)) = wipe σ (own.map (·.2)))
    (p : PyData → Bool) (f : PyData → PyData) (hl : ds.length ≤ 100000)
    (body : ∀ s0 H0 C cl fp M' H' d σ', (∀ a, M a → M' a) → (∀ v e, Rp X.K M H v e → Rp X.K M' H' v e) → d ∈ ds → t.Ok X.K M' H' d (wipe σ (own.map (·.2))) σ' →
      TsD (Cx.lc X s0 H0 scope C cl fp) M' ifs σ' H' (p d) ∧ (p d = true → PD (Cx.lc X s0 H0 scope C cl fp) M' elt σ' H' (f d))) :
    ∃ wi, PI X tg iter wi ∧ ∀ H1, ExM M H H1 → Alive M H1 → ∀ Q : VK, (∀ l ws H2, H1 l = none → Evl.Ex H1 H2 → H2 l = some (.lst ws) → RpAll X.K M H2 ws ((ds.filter p).map f) → Q (.ref l) H2) →
      tLc wi (t.g X.K) (fun σ H Q => ∀ s0 H0 C cl fp, wTs (Cx.lc X s0 H0 scope C cl fp) ifs σ H Q) (fun σ H Q => ∀ s0 H0 C cl fp, wE (Cx.lc X s0 H0 scope C cl fp) elt σ H Q) (own.map (·.2)) σ H1 Q := by
  obtain ⟨wi, pi, run⟩ := hi.ex
  refine ⟨wi, pi, fun H1 e1 al Q q => ?_⟩
  refine run H1 e1 al _ fun It Hs xs wk D hD => ?_
  have alS := al.mono xs
  -- D is mutable meanwhile
  let M' : Addr → Prop := fun a => M a ∨ a = D
  have hm : ∀ a, M' a → M a ∨ Hs a = none := fun a z => z.elim .inl fun e => .inr (by rw [e]; exact hD)
  have al2 : ∀ H', Evl.Ex Hs H' → (∃ acc, H' D = some (.lst acc)) → Alive M' H' := fun H' e ⟨acc, h⟩ a z => by
    rcases z with z | z
    · exact (alS.mono e) a z
    · subst z
      exact ⟨_, h⟩
  refine ⟨fun i m H' => m = ds.length - i ∧ i ≤ ds.length ∧ Evl.Ex Hs H' ∧ ∃ acc, H' D = some (.lst acc) ∧ acc.length ≤ i ∧ RpAll X.K M' H' acc (((ds.take i).filter p).map f), ⟨ds.length, rfl, Nat.zero_le _, Evl.Ex.new hD, [], upd_same, Nat.le_refl _, by simpa using RpAll.nil⟩, ?_⟩
  rintro i m H' ⟨rfl, hi', x, acc, hacc, hlen, racc⟩
  have eM : ExM M' Hs H' := .of x
  have al' := al2 H' x ⟨acc, hacc⟩
  by_cases hlt : i < ds.length
  · refine .inr ⟨wk.go M' i H' hm eM hlt, fun H2 => Evl.Ex Hs H2 ∧ ∃ acc, H2 D = some (.lst acc) ∧ acc.length ≤ i + 1 ∧ RpAll X.K M' H2 acc (((ds.take (i + 1)).filter p).map f), fun H2 ⟨a1, a2⟩ => ⟨ds.length - (i + 1), by omega, rfl, hlt, a1, a2⟩, fun v H2 y => ?_⟩
    obtain ⟨x2, r⟩ := wk.yld M' i H' v H2 hm eM al' y
    have hd' : ds[i]? = some ds[i] := List.getElem?_eq_getElem hlt
    have hmem := List.getElem_mem hlt
    have hacc2 : H2 D = some (.lst acc) := x2 _ _ hacc
    have lift : ∀ v e, Rp X.K M H v e → Rp X.K M' H2 v e := fun v e rv => ((rv.mono (fun _ z => z) (e1.trans (.of xs))).wide hm).mono (fun _ z => z) (.of (x.trans x2))
    have al3 := al2 H2 (x.trans x2) ⟨acc, hacc2⟩
    refine Tg.run (hf _ hmem) (r _ hd') fun σ2 okk => ⟨hw _ _ _ _ okk, ?_⟩
    have all := fun s0 H0 C cl fp => body s0 H0 C cl fp M' H2 ds[i] σ2 (fun _ z => .inl z) lift hmem okk
    -- the test
    have tk : (ds.take (i + 1)).filter p = (ds.take i).filter p ++ (if p ds[i] = true then [ds[i]] else []) := by
      rw [List.take_add_one, hd', List.filter_append]
      simp only [Option.toList_some, List.filter_cons, List.filter_nil]
    have fin : ∀ b, b = p ds[i] → ∀ H3, Evl.Ex H2 H3 → (if b = true then (∀ s0 H0 C cl fp, wE (Cx.lc X s0 H0 scope C cl fp) elt σ2 H3 fun y H4 => ∃ acc, H4 D = some (.lst acc) ∧ acc.length < sizeLine ∧
        (Evl.Ex Hs (upd H4 D (.lst (acc ++ [y]))) ∧ ∃ acc', (upd H4 D (.lst (acc ++ [y]))) D = some (.lst acc') ∧ acc'.length ≤ i + 1 ∧ RpAll X.K M' (upd H4 D (.lst (acc ++ [y]))) acc' (((ds.take (i + 1)).filter p).map f)))
        else (Evl.Ex Hs H3 ∧ ∃ acc, H3 D = some (.lst acc) ∧ acc.length ≤ i + 1 ∧ RpAll X.K M' H3 acc (((ds.take (i + 1)).filter p).map f))) := by
      intro b hb H3 x3
      have hacc3 := x3 _ _ hacc2
      cases b with
      | true =>
        rw [if_pos rfl]
        intro s0 H0 C cl fp
        refine ((all s0 H0 C cl fp).2 hb.symm).run H3 (.of x3) (al3.mono x3) _ fun y H4 x4 ry => ?_
        have x5 : Evl.Ex Hs H4 := ((x.trans x2).trans x3).trans x4
        refine ⟨acc, x4 _ _ hacc3, ?_, Evl.Ex.mut x5 hD, _, upd_same, ?_, ?_⟩
        · exact Nat.lt_of_lt_of_le (Nat.lt_of_le_of_lt hlen hlt) (Evl.sz_of hl)
        · rw [List.length_append, List.length_singleton]
          omega
        · rw [tk, if_pos hb.symm, List.map_append]
          have eD : ExM M' H4 (upd H4 D (.lst (acc ++ [y]))) := fun a o h nm _ => by
            rw [upd_ne (fun e => nm (.inr e))]
            exact h
          exact (racc.mono (fun _ z => z) (.of ((x2.trans x3).trans x4))).append (.cons ry .nil) |>.mono (fun _ z => z) eD
      | false =>
        rw [if_neg Bool.false_ne_true]
        refine ⟨(x.trans x2).trans x3, acc, hacc3, by omega, ?_⟩
        rw [tk, if_neg (by rw [← hb]; exact Bool.false_ne_true), List.append_nil]
        exact racc.mono (fun _ z => z) (.of (x2.trans x3))
    intro s0 H0 C cl fp
    exact (all s0 H0 C cl fp).1.run H2 (ExM.refl H2) al3 _ fun H3 x3 => fin _ rfl H3 x3
  · have e2 : i = ds.length := by omega
    subst e2
    refine .inl ⟨wk.stop M' H' hm eM, q D acc H' (Evl.fresh_back xs hD) (xs.trans x) hacc ?_⟩
    rw [List.take_length] at racc
    exact racc.mono (fun _ z => .inl z) (ExM.refl _)
theorem fd_lc {t : Tg} {elt : Expr} {ifs : List Expr} {scope : Scope} {own : List (Str × Nat)} (hc : X.calm = true) (hN : X.N.Nodup) (hi : Src X M tg iter σ H ds) (ok : BlkOk X.N X.env.scope scope own)
    (hg : ∀ s H C cl fp, PG (Cx.lc X s H scope C cl fp) tg (t.g X.K)) (hf : ∀ d ∈ ds, t.Fits d) (hw : ∀ M H d σ', t.Ok X.K M H d (wipe σ (own.map (·.2))) σ' → wipe σ' (own.map (·.2)) = wipe σ (own.map (·.2)))
    (p : PyData → Bool) (f : PyData → PyData) (hl : ds.length ≤ 100000)
    (body : ∀ s0 H0 C cl fp M' H' d σ', (∀ a, M a → M' a) → (∀ v e, Rp X.K M H v e → Rp X.K M' H' v e) → d ∈ ds → t.Ok X.K M' H' d (wipe σ (own.map (·.2))) σ' →
      TsD (Cx.lc X s0 H0 scope C cl fp) M' ifs σ' H' (p d) ∧ (p d = true → PD (Cx.lc X s0 H0 scope C cl fp) M' elt σ' H' (f d)))
    (hs : ∀ x, foldedSetIterable iter X.env x = pure x := by intro _; rfl) : FD X M (.ListComp elt [⟨tg, iter, ifs, 0⟩] scope pos) σ H ((ds.filter p).map f) := by
  obtain ⟨wi, pi, run⟩ := lc_core hc hN hi ok hg hf hw p f hl body
  exact .mk fun H1 e1 al Q q => ⟨_, pe_lc hc hN pi ok hg (fun s0 H0 C cl fp => ⟨fun pins s σ H Q I h => wTs.pts.run pins s σ H Q I (h s0 H0 C cl fp)⟩) (fun s0 H0 C cl fp => ⟨fun pins s σ H Q I h => wE.pe.run pins s σ H Q I (h s0 H0 C cl fp)⟩) hs, run H1 e1 al Q q⟩
/-- y = [elt for target in iter if ..], where y stands in the block alone -/
theorem s_setLc {t : Tg} {elt : Expr} {ifs : List Expr} {scope : Scope} {own : List (Str × Nat)} (hc : X.calm = true) (hN : X.N.Nodup) (hi : Src X M tg iter σ H ds) (ok : BlkOk X.N X.env.scope scope own)
    (hg : ∀ s H C cl fp, PG (Cx.lc X s H scope C cl fp) tg (t.g X.K)) (hf : ∀ d ∈ ds, t.Fits d) (hw : ∀ M H d σ', t.Ok X.K M H d (wipe σ (own.map (·.2))) σ' → wipe σ' (own.map (·.2)) = wipe σ (own.map (·.2)))
    (p : PyData → Bool) (f : PyData → PyData) (hl : ds.length ≤ 100000)
    (body : ∀ s0 H0 C cl fp M' H' d σ', (∀ a, M a → M' a) → (∀ v e, Rp X.K M H v e → Rp X.K M' H' v e) → d ∈ ds → t.Ok X.K M' H' d (wipe σ (own.map (·.2))) σ' →
      TsD (Cx.lc X s0 H0 scope C cl fp) M' ifs σ' H' (p d) ∧ (p d = true → PD (Cx.lc X s0 H0 scope C cl fp) M' elt σ' H' (f d)))
    {i : Nat} {y : Str} {py spos : Pos} {D : Ends} (al : Alive M H) (hy : X.N[i]? = some y) (hyl : X.env.scope.names.lookup y = some .local) (hsw : swapsWith (.ListComp elt [⟨tg, iter, ifs, 0⟩] scope pos) (some (.Name y py)) spos.line X.env = pure true) (q : ∀ l ws H2, H l = none → Evl.Ex H H2 → H2 l = some (.lst ws) → RpAll X.K M H2 ws ((ds.filter p).map f) → D.nx (σ.set i (some (.ref l))) H2)
    (hs : ∀ x, foldedSetIterable iter X.env x = pure x := by intro _; rfl) : wS X (.Assign [.Name y py] (.ListComp elt [⟨tg, iter, ifs, 0⟩] scope pos) spos) D σ H := by
  obtain ⟨wi, pi, run⟩ := lc_core hc hN hi ok hg hf hw p f hl body
  exact ⟨_, ps_setLc hc hN hy hyl hsw pi ok hg (fun s0 H0 C cl fp => ⟨fun pins s σ H Q I h => wTs.pts.run pins s σ H Q I (h s0 H0 C cl fp)⟩) (fun s0 H0 C cl fp => ⟨fun pins s σ H Q I h => wE.pe.run pins s σ H Q I (h s0 H0 C cl fp)⟩) hs, run H (ExM.refl H) al _ q⟩
end
end GV

namespace GV
open PySem PySem.Spec PyProof.Rows L2
/-- the names of the built-ins that the text asks for are the built-ins' own -/
structure NoB (mg : Str → Option Value) : Prop where
  isinstance : mg "isinstance" = none
  int : mg "int" = none
  bool : mg "bool" = none
  str : mg "str" = none
  list : mg "list" = none
  tuple : mg "tuple" = none
  set : mg "set" = none
  len : mg "len" = none
  range : mg "range" = none
  enumerate : mg "enumerate" = none
  abs : mg "abs" = none
  min : mg "min" = none
  max : mg "max" = none
  sum : mg "sum" = none
  any : mg "any" = none
  all : mg "all" = none
  sorted : mg "sorted" = none
section
variable {X : Cx} {M : Addr → Prop} {σ : St} {H H' : Hp} {a b c e : Expr} {da db d : PyData} {pos : Pos} {es : List Expr} {ds : List PyData}

/-! ### isinstance of data, by one built-in class -/
def tyD : PyData → String
  | .none => "NoneType"
  | .bool _ => "bool"
  | .int _ => "int"
  | .str _ => "str"
  | .list _ => "list"
  | .tuple _ => "tuple"
  | .dict _ => "dict"
theorem Rp.tyX {K : PySem.W.Frag} {v : V} (r : Rp K M H v d) : TyX K H v (.type (tyD d)) := by
  cases r with
  | non => exact .base .non
  | bl b => exact .base (.bl b)
  | int i => exact .base (.int i)
  | str x => exact .base (.str x)
  | lst m h rs =>
    rcases h with h | ⟨o, h⟩
    · exact .base (.lst h)
    · exact .base (.frz h)
  | tup m h rs =>
    rcases h with h | ⟨o, h⟩
    · exact .base (.tup h)
    · exact .fTuple h
theorem pd_isi {T : String} {x : Str} {p p2 : Pos} {k : Bool} (hg : Gl X "isinstance") (hm : X.mg "isinstance" = none) (hgT : Gl X x) (hmT : X.mg x = none) (hv : bootBuiltins x = some (.type T)) (ha : PD X M a σ H d) (hk : kitB (tyD d) T = some k)
    (hn : x ≠ "__name__" := by decide) (hd : (x == ("__debug__" : Str)) = false := by decide)
    (h1 : starEach (a :: [.Name x p2]) X.env = (false, eval a X.env) :: starEach [.Name x p2] X.env := by rfl) (h2 : starEach (.Name x p2 :: []) X.env = (false, eval (.Name x p2) X.env) :: starEach [] X.env := by rfl)
    (hpl : (backTo pos (starEach [.Name x p2] X.env)).any (·.1) = false := by rfl) :
    PD X M (.Call (.Name "isinstance" p) [a, .Name x p2] [] pos) σ H (.bool k) := .mk fun H1 e1 al Q q =>
  ⟨_, pe_callB call_isi hg hm PyProof.Rows.boot_isinstance (pa_cons wE.pe (pa_cons (pe_bltn (v := .ty T) hgT hmT hv rfl hn hd) pa_nil h2) h1) (by decide) (by decide) h1 hpl, ha.run H1 e1 al _ fun v H2 x2 r =>
    ⟨v, .ty T, .type (tyD d), .type T, k, rfl, .ty T, r.tyX, kit_ty hk, q _ H2 x2 (.bl k)⟩⟩

/-! ### a chain of two comparisons of ints -/
theorem pd_leLe {i j k : Int} (ha : PD X M a σ H (.int i)) (hb : PD X M b σ H (.int j)) (hc : PD X M c σ H (.int k)) (h1 : lastMarks [.LtE, .LtE] [b, c] = false := by with_unfolding_all rfl) : PD X M (.Compare a [.LtE, .LtE] [b, c] pos) σ H (.bool (decide (i ≤ j) && decide (j ≤ k))) := .mk fun H1 e1 al Q q =>
  ⟨_, pe_chain op_le op_le wE.pe wE.pe wE.pe h1, ha.run H1 e1 al _ fun x H2 x2 rx => hb.run H2 (e1.trans (.of x2)) (al.mono x2) _ fun y H3 x3 ry => by
    cases rx
    cases ry
    refine ⟨i, j, rfl, rfl, _, rfl, ?_⟩
    by_cases h : i ≤ j
    · rw [if_pos (decide_eq_true h)]
      refine hc.run H3 ((e1.trans (.of x2)).trans (.of x3)) ((al.mono x2).mono x3) _ fun z H4 x4 rz => ?_
      cases rz
      refine ⟨j, k, rfl, rfl, q _ H4 ((x2.trans x3).trans x4) ?_⟩
      rw [decide_eq_true h]
      exact .bl _
    · rw [if_neg (by rw [decide_eq_false h]; exact Bool.false_ne_true)]
      refine q _ H3 (x2.trans x3) ?_
      rw [decide_eq_false h]
      exact .bl _⟩

/-! ### any, all, sum, min, max, in -/
theorem RpAll.of_bools {K : PySem.W.Frag} : ∀ {vs : List V} {bs : List Bool}, RpAll K M H vs (bs.map PyData.bool) → vs = bs.map V.bl
  | [], [], .nil => rfl
  | _ :: _, n :: r, .cons h hs => by
    cases h
    rw [RpAll.of_bools hs]
    rfl
theorem rn_any {bs : List Bool} : RDn X M (rAny X.K) [.list (bs.map PyData.bool)] (.bool (bs.any id)) := fun vs H1 r _ Q q => by
  obtain ⟨v, rfl, r1⟩ := rpa1 r
  cases r1 with
  | lst m hs rs => exact ⟨_, bs, rfl, .inl (by rw [← rs.of_bools]; exact hs), q _ H1 (Evl.Ex.refl H1) (.bl _)⟩
theorem rn_all {bs : List Bool} : RDn X M (rAll X.K) [.list (bs.map PyData.bool)] (.bool (bs.all id)) := fun vs H1 r _ Q q => by
  obtain ⟨v, rfl, r1⟩ := rpa1 r
  cases r1 with
  | lst m hs rs => exact ⟨_, bs, rfl, .inl (by rw [← rs.of_bools]; exact hs), q _ H1 (Evl.Ex.refl H1) (.bl _)⟩
theorem rn_sum {ns : List Int} : RDn X M (rSum X.K) [.list (ns.map PyData.int)] (.int ns.sum) := fun vs H1 r _ Q q => by
  obtain ⟨v, rfl, r1⟩ := rpa1 r
  cases r1 with
  | lst m hs rs => exact ⟨_, ns, rfl, .inl (by rw [← rs.of_ints]; exact hs), q _ H1 (Evl.Ex.refl H1) (.int _)⟩
theorem rn_max {ns : List Int} {m : Int} (hm : m ∈ ns) (hx : ∀ y ∈ ns, y ≤ m) : RDn X M (rMax X.K) [.list (ns.map PyData.int)] (.int m) := fun vs H1 r _ Q q => by
  obtain ⟨v, rfl, r1⟩ := rpa1 r
  cases r1 with
  | lst m' hs rs =>
    refine ⟨_, ns, rfl, .inl (by rw [← rs.of_ints]; exact hs), List.length_pos_of_mem hm, fun k hk hkx => q _ H1 (Evl.Ex.refl H1) ?_⟩
    rw [Int.le_antisymm (hx k hk) (hkx m hm)]
    exact .int _
theorem rn_min {ns : List Int} {m : Int} (hm : m ∈ ns) (hx : ∀ y ∈ ns, m ≤ y) : RDn X M (rMin X.K) [.list (ns.map PyData.int)] (.int m) := fun vs H1 r _ Q q => by
  obtain ⟨v, rfl, r1⟩ := rpa1 r
  cases r1 with
  | lst m' hs rs =>
    refine ⟨_, ns, rfl, .inl (by rw [← rs.of_ints]; exact hs), List.length_pos_of_mem hm, fun k hk hkx => q _ H1 (Evl.Ex.refl H1) ?_⟩
    rw [Int.le_antisymm (hkx m hm) (hx k hk)]
    exact .int _

/-! ### min(e, default=f) of a list of ints -/
def minOr (d : PyData) : List Int → PyData
  | [] => d
  | n :: r => .int (r.foldl min n)
theorem ints_alike (ns : List Int) : PySem.W.AlikeAll (ns.map PyData.int) := by
  refine ⟨fun x hx y hy => ?_, fun x hx => ?_⟩
  · obtain ⟨i, _, rfl⟩ := List.mem_map.mp hx
    obtain ⟨j, _, rfl⟩ := List.mem_map.mp hy
    rfl
  · obtain ⟨i, _, rfl⟩ := List.mem_map.mp hx
    exact fun z => by cases z
theorem ints_depth (ns : List Int) : PyData.depthAll (ns.map PyData.int) = 0 := by
  induction ns with
  | nil => rfl
  | cons n r ih =>
    show max (PyData.depth (.int n)) (PyData.depthAll (r.map PyData.int)) = 0
    rw [ih]
    rfl
theorem dpAll_ints {K : PySem.W.Frag} (ns : List Int) : DpAll K H (ns.map V.int) (ns.map PyData.int) := (RpAll.ints (M := fun _ => False) ns).dp
def rMinDf (K : PySem.W.Frag) : List V → List V → Hp → VK → Prop := fun xs zs H Q => ∃ (a : Addr) (ns : List Int) (z : V), xs = [.ref a] ∧ zs = [z] ∧ SqL K H a (ns.map V.int) ∧ (ns = [] → Q z H) ∧ (∀ n r, ns = n :: r → Q (.int (r.foldl min n)) H)
theorem cr_minDf (hc : X.calm = true) (hu : X.A.units + 2 < cLine) : CallRK X (.builtin "min") ["default"] (rMinDf X.K) := by
  intro pins s σ H xs zs us ws Q I rx rz h
  obtain ⟨a, ns, z, rfl, rfl, hs, q0, q1⟩ := h
  obtain ⟨w, rfl, rw'⟩ := vals1 rz
  rw [Vals.ref1 rx]
  obtain ⟨its, rv, pl, _⟩ := I.list hs
  obtain ⟨as, hr⟩ := Dp.readsAll I _ _ its (dpAll_ints ns) rv
  refine PySem.W.min_list_default (I.ok.hd hc) pl.isList hr (ints_alike ns) (by rw [ints_depth]; omega) (fun e h' tk k => ?_) (fun y ys i v h' tk bs e hv hrd k => ?_)
  · refine ⟨z, H, I.kept k, rw', q0 ?_⟩
    cases ns with
    | nil => rfl
    | cons n r => cases e
  · cases ns with
    | nil => cases e
    | cons n r =>
      cases e
      rw [PySem.W.minD_ints] at hrd
      cases hrd with
      | int i t => exact ⟨.int _, H, I.kept k, ⟨t, rfl⟩, q1 n r rfl⟩
theorem pd_minDf {p kp : Pos} {ns : List Int} (hc : X.calm = true) (hu : X.A.units + 2 < cLine) (hg : Gl X "min") (hm : X.mg "min" = none) (ha : PD X M a σ H (.list (ns.map PyData.int))) (hb : PD X M b σ H d)
    (h1 : starEach (a :: []) X.env = (false, eval a X.env) :: starEach [] X.env := by rfl)
    (he : backTo pos (starEach (a :: []) X.env) = (false, eval a X.env) :: backTo pos (starEach [] X.env) := by rfl) (hpl : (backTo pos (starEach (a :: []) X.env)).any (·.1) = false := by rfl)
    (hall : (backToKw pos (keywordEach [⟨some "default", b, kp⟩] X.env)).all (·.1.isSome) = true := by rfl) (hnone : (backToKw pos (keywordEach [⟨some "default", b, kp⟩] X.env)).any (·.1.isNone) = false := by rfl)
    (hks : (backToKw pos (keywordEach [⟨some "default", b, kp⟩] X.env)).filterMap (·.1) = (["default"] : List Str) := by rfl) :
    PD X M (.Call (.Name "min" p) [a] [⟨some "default", b, kp⟩] pos) σ H (minOr d ns) := .mk fun H1 e1 al Q q =>
  ⟨_, pe_callBK (cr_minDf hc hu) hg hm PyProof.Rows.boot_min (pa_cons wE.pe pa_nil h1) (pk_cons wE.pe pk_nil) (by decide) (by decide) he hpl hall hnone hks, ha.run H1 e1 al _ fun v H2 x2 r => hb.run H2 (e1.trans (.of x2)) (al.mono x2) _ fun w H3 x3 rw' => by
    have r3 := r.mono (fun _ z => z) (.of x3)
    cases r3 with
    | lst m hs rs =>
      refine ⟨_, ns, w, rfl, rfl, .inl (by rw [← rs.of_ints]; exact hs), fun e => q _ H3 (x2.trans x3) ?_, fun n r e => q _ H3 (x2.trans x3) ?_⟩
      · rw [e]
        exact rw'
      · rw [e]
        exact .int _⟩
end
end GV

namespace GV
open PySem PySem.Spec PyProof.Rows L2
section
variable {X : Cx} {M : Addr → Prop} {σ : St} {H H' : Hp} {a b c e : Expr} {pos : Pos}
theorem up_ext : ∀ {l m : List Int}, l.Pairwise (· < ·) → m.Pairwise (· < ·) → (∀ k, k ∈ l ↔ k ∈ m) → l = m
  | [], [], _, _, _ => rfl
  | [], y :: m, _, _, h => absurd ((h y).mpr (List.mem_cons_self ..)) (by simp)
  | x :: l, [], _, _, h => absurd ((h x).mp (List.mem_cons_self ..)) (by simp)
  | x :: l, y :: m, p, q, h => by
    obtain ⟨p1, p2⟩ := List.pairwise_cons.mp p
    obtain ⟨q1, q2⟩ := List.pairwise_cons.mp q
    have hx := (h x).mp (List.mem_cons_self ..)
    have hy := (h y).mpr (List.mem_cons_self ..)
    have e : x = y := by
      rcases List.mem_cons.mp hx with e | hx
      · exact e
      · rcases List.mem_cons.mp hy with e | hy
        · exact e.symm
        · have := q1 x hx
          have := p1 y hy
          omega
    subst e
    rw [up_ext p2 q2 fun k => ?_]
    constructor
    · intro hk
      rcases List.mem_cons.mp ((h k).mp (List.mem_cons_of_mem _ hk)) with e | e
      · subst e
        exact absurd (p1 _ hk) (Int.lt_irrefl _)
      · exact e
    · intro hk
      rcases List.mem_cons.mp ((h k).mpr (List.mem_cons_of_mem _ hk)) with e | e
      · subst e
        exact absurd (q1 _ hk) (Int.lt_irrefl _)
      · exact e
/-- sorted(set(e)), e a list of ints, fewer than 64 -/
theorem fd_sortedSet {p p2 q2 : Pos} {ns out : List Int} (hc : X.calm = true) (hg : Gl X "sorted") (hm : X.mg "sorted" = none) (hg2 : Gl X "set") (hm2 : X.mg "set" = none) (ha : PD X M a σ H (.list (ns.map PyData.int)))
    (hl : ns.length < 64) (ho : out.Pairwise (· < ·)) (hmem : ∀ k, k ∈ out ↔ k ∈ ns)
    (na : starEach [a] X.env = (false, eval a X.env) :: starEach [] X.env := by rfl) : FD X M (.Call (.Name "sorted" p) [.Call (.Name "set" p2) [a] [] q2] [] pos) σ H (out.map PyData.int) := .mk fun H1 e1 al Q q => by
  refine ⟨fun σ H Q => wE X a σ H fun x H1 => ∃ l, x = V.ref l ∧ SqL X.K H1 l (ns.map V.int) ∧ ∀ p, H1 p = none → Q (.ref p) (upd H1 p (.lst (out.map V.int))), ⟨fun pins s σ H Q I h => ?_⟩, ?_⟩
  · refine Call_ (ld_blt I hg hm PyProof.Rows.boot_sorted ?_)
    refine PyProof.Rows.callWith_builtin1 (PyProof.Rows.args_cons ?_ rfl) rfl rfl
    refine Call_ (ld_blt I hg2 hm2 PyProof.Rows.boot_set (PyProof.Rows.callWith_type1 (PyProof.Rows.args_cons (thn (wE.pe.run pins s σ H _ I h) fun v s1 ⟨x, H1, I1, r1, l, e2, hq, q1⟩ => PyProof.Rows.args_nil ?_) na) na rfl))
    subst e2
    cases r1
    obtain ⟨its, r, pl, hz⟩ := I1.list hq
    refine set_ofL ns (I1.ok.hd hc) pl.isList (by simpa using r.ints) (by unfold scanBound; omega) fun g tk c R hcl k => PyProof.Rows.args_nil ?_
    have I2 : Inv X pins σ H1 { s1 with heap := g, toks := tk } := I1.kept k
    refine sorted_set R (I1.ok.hd hc) (by omega) fun s' p o c' ns' k2 g2 o2 hp hgp hi hs hm' hlen => ?_
    have en : ns' = out := up_ext hs ho fun z => by
      rw [hm' z, hmem z]
      exact decide_eq_true_iff
    subst en
    have hn : H1 p = none := I2.hok.fresh hp
    have ln : (ns'.map V.int).length ≤ sizeLine := by
      rw [List.length_map]
      refine Evl.sz_of (Nat.le_trans ?_ (show 64 ≤ 100000 by decide))
      omega
    have J : Inv X pins σ (upd H1 p (.lst (ns'.map V.int))) { ({ s1 with heap := g, toks := tk } : Shared) with heap := s'.heap, gens := s'.gens, drawn := s'.drawn, toks := s'.toks } := I2.call (ch := []) (Un.laid k2 hp hn) (I2.hok.laid k2 hp ⟨ln, o.toList, c', vals_of_ints hi, hgp⟩) (by rw [g2]; exact I2.bare) (fun _ z => nomatch z)
    obtain ⟨hp', g', d', t', os'⟩ := s'
    obtain rfl : os' = s1.os := o2
    exact ⟨.ref p, _, J, rfl, q1 p hn⟩
  · refine ha.run H1 e1 al _ fun v H2 x2 r => ?_
    cases r with
    | lst m hr rs => exact ⟨_, rfl, .inl (by rw [← rs.of_ints]; exact hr), fun p hp => q p _ _ (Evl.fresh_back x2 hp) (x2.trans (Evl.Ex.new hp)) upd_same (RpAll.ints out)⟩
end
end GV

namespace GV
open PySem PySem.Spec PyProof.Rows L2
/-! ### a def of the text that keeps a promise, by its name -/
structure Cl (P : Program) (w : World) (K : PySem.W.Frag) (mg : Str → Option Value) (base : Heap) (CX : CXT) (k : Nat) (x : Str) (sp : Sp) : Prop where
  ex : ∃ (f : Addr) (fd : FuncData) (ps : List Str), FnOk P w K mg base CX k f fd ps sp ∧ mg x = some (.ref f) ∧ PySem.W.keepIn K (.ref f) = true ∧ Binds K fd ps []
section
variable {P : Program} {w : World} {K : PySem.W.Frag} {mg : Str → Option Value} {base : Heap}
/-- where a def stands -/
structure At (K : PySem.W.Frag) (mg : Str → Option Value) (x : Str) (st : Stmt) (f : Addr) (fd : FuncData) : Prop where
  fn : Fun K x x st f fd
  gl : mg x = some (.ref f)
theorem pureR_len {R : List PyData → PyData → Prop} {n : Nat} (hR : ∀ ds d, R ds d → ds.length = n) : ∀ vs H Q E, PureR K R vs H Q E → vs.length = n := fun vs H Q E h => by
  obtain ⟨M, ds, d, al, r, hr, _⟩ := h
  rw [r.length]
  exact hR ds d hr
/-- a pure def -/
theorem cl_pure {x : Str} {st : Stmt} {f : Addr} {fd : FuncData} {N ps : List Str} {k : Nat} {R : List PyData → PyData → Prop} (F : At K mg x st f fd) (S : FnScope N ps (defScope st)) (hb : Binds K fd ps []) (hR : ∀ ds d, R ds d → ds.length = ps.length)
    (body : ∀ (X : Cx) (cdv : Value) (A : Around) (outer : List Env) (s : Shared) (H : Hp) (Q : VK) (E : XK) (M : Addr → Prop) (vs : List V) (ds : List PyData) (d : PyData), X = (cxOf CX0 P w K mg base N x (defScope st) f cdv A outer s H E).nox → Room k X.A → Alive M H → RpAll K M H vs ds → R ds d →
      (∀ v H', Evl.Ex H H' → Rp K M H' v d → Q v H') → wB X (defBody st) { nx := fun _ H' => Q .non H', rt := Q } (L2.start N vs) H) :
    Cl P w K mg base CX0 (k + 1) x (PureR K R) := by
  refine ⟨f, fd, ps, F.fn.ok S (pureR_len hR) (fun cdv A outer s H vs Q E hr h => ⟨_, wB.ps, ?_⟩), F.gl, F.fn.kp, hb⟩
  obtain ⟨M, ds, d, al, r, hr', q⟩ := h
  exact body _ cdv A outer s H Q E M vs ds d rfl hr al r hr' q
end
section
variable {X : Cx} {M : Addr → Prop} {σ : St} {H H' : Hp} {a b c e : Expr} {da db d : PyData} {pos : Pos} {es : List Expr} {ds : List PyData}
theorem pd_callC {R : List PyData → PyData → Prop} {j k : Nat} {x : Str} {p : Pos} (cl : Cl X.prog X.w X.K X.mg X.base CX0 k x (PureR X.K R)) (hr : Room j X.A) (hkj : k ≤ j) (hg : Gl X x) (h : AD X M (e :: es) σ H ds) (hR : R ds d)
    (hdb : (x == ("__debug__" : Str)) = false := by decide) (he : starEach (e :: es) X.env = (false, eval e X.env) :: starEach es X.env := by rfl) (hpl : (backTo pos (starEach es X.env)).any (·.1) = false := by rfl) : PD X M (.Call (.Name x p) (e :: es) [] pos) σ H d := by
  obtain ⟨f, fd, ps, F, hm, hk, hb⟩ := cl.ex
  exact pd_call F (hr.mono hkj) hg hm hk hb pass0 h hR hdb he hpl
/-- .. a def that makes a list -/
def FreshR (K : PySem.W.Frag) (R : List PyData → List PyData → Prop) : Sp := fun vs H Q _ => ∃ M ds es, Alive M H ∧ RpAll K M H vs ds ∧ R ds es ∧ ∀ p ws H', H p = none → Evl.Ex H H' → H' p = some (.lst ws) → RpAll K M H' ws es → Q (.ref p) H'
theorem fd_callC {R : List PyData → List PyData → Prop} {fs : List PyData} {j k : Nat} {x : Str} {p : Pos} (cl : Cl X.prog X.w X.K X.mg X.base CX0 k x (FreshR X.K R)) (hr : Room j X.A) (hkj : k ≤ j) (hg : Gl X x) (h : AD X M (e :: es) σ H ds) (hR : R ds fs)
    (hdb : (x == ("__debug__" : Str)) = false := by decide) (he : starEach (e :: es) X.env = (false, eval e X.env) :: starEach es X.env := by rfl) (hpl : (backTo pos (starEach es X.env)).any (·.1) = false := by rfl) : FD X M (.Call (.Name x p) (e :: es) [] pos) σ H fs := by
  obtain ⟨f, fd, ps, F, hm, hk, hb⟩ := cl.ex
  exact .mk fun H1 e1 al Q q => ⟨_, pe_call F (hr.mono hkj) hg hm hk hb .nil pass0 wA.pa hdb he hpl, h.run H1 e1 al _ fun vs H2 x2 r => by
    rw [List.append_nil]
    exact ⟨M, ds, fs, al.mono x2, r, hR, fun p ws H3 hp x3 h3 rv => q p ws H3 (Evl.fresh_back x2 hp) (x2.trans x3) h3 rv⟩⟩

/-! ### where things change: step by step -/
abbrev M0 : Addr → Prop := fun _ => False
theorem alive0 : Alive M0 H := fun _ z => z.elim
theorem Rp.m0 {K : PySem.W.Frag} {v : V} (r : Rp K M H v d) : Rp K M0 H v d := r.mono (fun _ z => z.elim) (ExM.refl H)
theorem RpAll.m0 {K : PySem.W.Frag} {vs : List V} (r : RpAll K M H vs ds) : RpAll K M0 H vs ds := r.mono (fun _ z => z.elim) (ExM.refl H)
theorem ce_pd {Q : VK} (al : Alive M H) (h : PD X M e σ H d) (q : ∀ v H2, Evl.Ex H H2 → Rp X.K M H2 v d → Q v H2) : wE X e σ H Q := h.run H (ExM.refl H) al Q q
theorem ce_fd {Q : VK} (al : Alive M H) (h : FD X M e σ H ds) (q : ∀ p ws H2, H p = none → Evl.Ex H H2 → H2 p = some (.lst ws) → RpAll X.K M H2 ws ds → Q (.ref p) H2) : wE X e σ H Q := h.run H (ExM.refl H) al Q q
/-! ### comparisons as tests -/
theorem td_cmpR {op : CmpOp} {r : R2} {k : Bool} (ho : OpR X (compareOp op) r) (hm : behindInMarks op b = false) (hr : RD2 X M r da db (.bool k)) (ha : PD X M a σ H da) (hb : PD X M b σ H db) : TD X M (.Compare a [op] [b] pos) σ H k := .mk fun H1 e1 al Q q =>
  ⟨_, pt_cmpR ho wE.pe wE.pe hm, ha.run H1 e1 al _ fun x H2 x2 rx => hb.run H2 (e1.trans (.of x2)) (al.mono x2) _ fun y H3 x3 ry =>
    hr x y H3 (rx.mono (fun _ z => z) (.of x3)) ry ((al.mono x2).mono x3) _ fun v H4 x4 rv => by
      cases rv
      exact ⟨k, rfl, q H4 ((x2.trans x3).trans x4)⟩⟩
theorem td_lt {i j : Int} (ha : PD X M a σ H (.int i)) (hb : PD X M b σ H (.int j)) : TD X M (.Compare a [.Lt] [b] pos) σ H (decide (i < j)) := td_cmpR op_lt (nomark _) rd_B0 ha hb
theorem td_le {i j : Int} (ha : PD X M a σ H (.int i)) (hb : PD X M b σ H (.int j)) : TD X M (.Compare a [.LtE] [b] pos) σ H (decide (i ≤ j)) := td_cmpR op_le (nomark _) rd_B0 ha hb
theorem td_gt {i j : Int} (ha : PD X M a σ H (.int i)) (hb : PD X M b σ H (.int j)) : TD X M (.Compare a [.Gt] [b] pos) σ H (decide (j < i)) := td_cmpR op_gt (nomark _) rd_B0 ha hb
theorem td_ge {i j : Int} (ha : PD X M a σ H (.int i)) (hb : PD X M b σ H (.int j)) : TD X M (.Compare a [.GtE] [b] pos) σ H (decide (j ≤ i)) := td_cmpR op_ge (nomark _) rd_B0 ha hb
theorem rd_eqD (hu : X.A.units + 64 < cLine) (sa : SeqAt.shaped da = true) (sb : SeqAt.shaped db = true) : RD2 X M (rEqD X.K) da db (.bool (PyData.eqv da db)) := fun x y H1 rx ry _ Q q => ⟨da, db, rx.dp, ry.dp, sa, sb, q _ H1 (Evl.Ex.refl H1) (.bl _)⟩
theorem rd_neD (hu : X.A.units + 64 < cLine) (sa : SeqAt.shaped da = true) (sb : SeqAt.shaped db = true) : RD2 X M (rNeD X.K) da db (.bool (!PyData.eqv da db)) := fun x y H1 rx ry _ Q q => ⟨da, db, rx.dp, ry.dp, sa, sb, q _ H1 (Evl.Ex.refl H1) (.bl _)⟩
theorem td_eq (hu : X.A.units + 64 < cLine) (ha : PD X M a σ H da) (hb : PD X M b σ H db) (sa : SeqAt.shaped da = true) (sb : SeqAt.shaped db = true) : TD X M (.Compare a [.Eq] [b] pos) σ H (PyData.eqv da db) := td_cmpR (op_eqD hu) (nomark _) (rd_eqD hu sa sb) ha hb
theorem td_ne (hu : X.A.units + 64 < cLine) (ha : PD X M a σ H da) (hb : PD X M b σ H db) (sa : SeqAt.shaped da = true) (sb : SeqAt.shaped db = true) : TD X M (.Compare a [.NotEq] [b] pos) σ H (!PyData.eqv da db) := td_cmpR (op_neD hu) (nomark _) (rd_neD hu sa sb) ha hb
theorem td_isN {j p2} (ha : PD X M a σ H da) : TD X M (.Compare a [.Is] [.Constant .none j p2] pos) σ H (isNone da) :=
  td_cmpR op_isN (nomark _) (fun x y H1 rx ry _ Q q => by
    cases ry
    exact ⟨rfl, q _ H1 (Evl.Ex.refl H1) (by rw [rx.isN]; exact .bl _)⟩) ha pd_non
theorem td_notN {j p2} (ha : PD X M a σ H da) : TD X M (.Compare a [.IsNot] [.Constant .none j p2] pos) σ H (!isNone da) :=
  td_cmpR op_notN (nomark _) (fun x y H1 rx ry _ Q q => by
    cases ry
    exact ⟨rfl, q _ H1 (Evl.Ex.refl H1) (by rw [rx.isN]; exact .bl _)⟩) ha pd_non
theorem snoc_ind {α : Type} {P : List α → Prop} (h0 : P []) (h1 : ∀ l x, P l → P (l ++ [x])) (l : List α) : P l := by
  have key : ∀ n (l : List α), l.length = n → P l := by
    intro n
    induction n with
    | zero =>
      intro l hl
      rw [List.eq_nil_of_length_eq_zero hl]
      exact h0
    | succ n ih =>
      intro l hl
      have hne : l ≠ [] := fun e => by
        rw [e] at hl
        cases hl
      rw [← List.dropLast_concat_getLast hne]
      refine h1 _ _ (ih _ ?_)
      rw [List.length_dropLast, hl]
      rfl
  exact key _ l rfl
theorem filt_all {α : Type} (l : List α) : (l.filter fun _ => true) = l := List.filter_eq_self.mpr fun _ _ => rfl
/-- [elt for target in iter] -/
theorem fd_map {tg iter : Expr} {t : Tg} {elt : Expr} {scope : Scope} {own : List (Str × Nat)} (f : PyData → PyData) (hc : X.calm = true) (hN : X.N.Nodup) (hi : Src X M tg iter σ H ds) (ok : BlkOk X.N X.env.scope scope own)
    (hg : ∀ s H C cl fp, PG (Cx.lc X s H scope C cl fp) tg (t.g X.K)) (hf : ∀ d ∈ ds, t.Fits d) (hw : ∀ M H d σ', t.Ok X.K M H d (wipe σ (own.map (·.2))) σ' → wipe σ' (own.map (·.2)) = wipe σ (own.map (·.2))) (hl : ds.length ≤ 100000)
    (body : ∀ s0 H0 C cl fp M' H' d σ', (∀ a, M a → M' a) → (∀ v e, Rp X.K M H v e → Rp X.K M' H' v e) → d ∈ ds → t.Ok X.K M' H' d (wipe σ (own.map (·.2))) σ' → PD (Cx.lc X s0 H0 scope C cl fp) M' elt σ' H' (f d))
    (hs : ∀ x, foldedSetIterable iter X.env x = pure x := by intro _; rfl) : FD X M (.ListComp elt [⟨tg, iter, [], 0⟩] scope pos) σ H (ds.map f) := by
  have h := fd_lc (pos := pos) hc hN hi ok hg hf hw (fun _ => true) f hl (fun s0 H0 C cl fp M' H' d σ' hM lift hd hok => ⟨tsd_nil, fun _ => body s0 H0 C cl fp M' H' d σ' hM lift hd hok⟩) hs
  rwa [filt_all] at h
/-- [elt for target in iter if test] -/
theorem fd_filter {tg iter tst : Expr} {t : Tg} {elt : Expr} {scope : Scope} {own : List (Str × Nat)} (p : PyData → Bool) (f : PyData → PyData) (hc : X.calm = true) (hN : X.N.Nodup) (hi : Src X M tg iter σ H ds) (ok : BlkOk X.N X.env.scope scope own)
    (hg : ∀ s H C cl fp, PG (Cx.lc X s H scope C cl fp) tg (t.g X.K)) (hf : ∀ d ∈ ds, t.Fits d) (hw : ∀ M H d σ', t.Ok X.K M H d (wipe σ (own.map (·.2))) σ' → wipe σ' (own.map (·.2)) = wipe σ (own.map (·.2))) (hl : ds.length ≤ 100000)
    (body : ∀ s0 H0 C cl fp M' H' d σ', (∀ a, M a → M' a) → (∀ v e, Rp X.K M H v e → Rp X.K M' H' v e) → d ∈ ds → t.Ok X.K M' H' d (wipe σ (own.map (·.2))) σ' → TD (Cx.lc X s0 H0 scope C cl fp) M' tst σ' H' (p d) ∧ PD (Cx.lc X s0 H0 scope C cl fp) M' elt σ' H' (f d))
    (hs : ∀ x, foldedSetIterable iter X.env x = pure x := by intro _; rfl) : FD X M (.ListComp elt [⟨tg, iter, [tst], 0⟩] scope pos) σ H ((ds.filter p).map f) :=
  fd_lc hc hN hi ok hg hf hw p f hl (fun s0 H0 C cl fp M' H' d σ' hM lift hd hok => let ⟨h1, h2⟩ := body s0 H0 C cl fp M' H' d σ' hM lift hd hok; ⟨tsd_one h1, fun _ => h2⟩) hs
/-- the name in slot i, by what is known of its value -/
theorem nm (i : Nat) {x : Str} {v : V} (r : Rp X.K M H v d) (hN : X.N[i]? = some x := by rfl) (hv : Vis X.env.scope x := by first | exact .inl rfl | exact .inr (.inl rfl) | exact .inr (.inr rfl)) (hs : σ[i]? = some (some v) := by rfl)
    (hd : (x == ("__debug__" : Str)) = false := by decide) (hcd : (x == ("__classdict__" : Str)) = false := by decide) : PD X M (.Name x pos) σ H d := pd_name hN hv hs r hd hcd
theorem ce_name {i : Nat} {x : Str} {v : V} {Q : VK} (hN : X.N[i]? = some x) (hv : Vis X.env.scope x) (hs : σ[i]? = some (some v)) (q : Q v H)
    (hd : (x == ("__debug__" : Str)) = false := by decide) (hcd : (x == ("__classdict__" : Str)) = false := by decide) : wE X (.Name x pos) σ H Q := ⟨_, pe_var hN hv hd hcd, v, hs, q⟩
theorem ca_nil {Q : List V → Hp → Prop} (q : Q [] H) : wA X [] σ H Q := ⟨_, pa_nil, q⟩
theorem ca_cons {Q : List V → Hp → Prop} (h : wE X e σ H fun v H2 => wA X es σ H2 fun vs H3 => Q (v :: vs) H3) (hs : starEach (e :: es) X.env = (false, eval e X.env) :: starEach es X.env := by rfl) : wA X (e :: es) σ H Q := ⟨_, pa_cons wE.pe wA.pa hs, h⟩
theorem ce_bin {op : Operator} {r : R2} {Q : VK} (ho : OpR X (binaryOp op) r) (h : wE X a σ H fun x H2 => wE X b σ H2 fun y H3 => r x y H3 Q) : wE X (.BinOp a op b pos) σ H Q := ⟨_, pe_op ho wE.pe wE.pe, h⟩
theorem ce_add {Q : VK} (h : wE X a σ H fun x H2 => wE X b σ H2 fun y H3 => ∃ i j, x = .int i ∧ y = .int j ∧ Q (.int (i + j)) H3) : wE X (.BinOp a .Add b pos) σ H Q := ce_bin op_add h
theorem ce_sub {Q : VK} (h : wE X a σ H fun x H2 => wE X b σ H2 fun y H3 => ∃ i j, x = .int i ∧ y = .int j ∧ Q (.int (i - j)) H3) : wE X (.BinOp a .Sub b pos) σ H Q := ce_bin op_sub h
theorem ce_call {sp : Sp} {Q : VK} {j k : Nat} {x : Str} {p : Pos} (cl : Cl X.prog X.w X.K X.mg X.base CX0 k x sp) (hr : Room j X.A) (hkj : k ≤ j) (hg : Gl X x) (h : wA X (e :: es) σ H fun vs H2 => sp vs H2 Q E0)
    (hdb : (x == ("__debug__" : Str)) = false := by decide) (he : starEach (e :: es) X.env = (false, eval e X.env) :: starEach es X.env := by rfl) (hpl : (backTo pos (starEach es X.env)).any (·.1) = false := by rfl) : wE X (.Call (.Name x p) (e :: es) [] pos) σ H Q := by
  obtain ⟨f, fd, ps, F, hm, hk, hb⟩ := cl.ex
  refine ⟨_, pe_call F (hr.mono hkj) hg hm hk hb .nil pass0 wA.pa hdb he hpl, ?_⟩
  obtain ⟨t, h1, h2⟩ := h
  refine ⟨t, h1, ?_⟩
  have e1 : (fun vs H1 => sp (vs ++ []) H1 Q E0) = fun vs H1 => sp vs H1 Q E0 := by
    funext vs H1
    rw [List.append_nil]
  rw [e1]
  exact h2
theorem ce_ix {Q : VK} (h : wE X a σ H fun x H2 => wE X b σ H2 fun y H3 => rIx X.K x y H3 Q) (hs : PlainIx b := by exact fun _ _ => rfl) : wE X (.Subscript a b pos) σ H Q := ⟨_, pe_ix ix_seq wE.pe wE.pe hs, h⟩
/-- an item of a datum, by values -/
theorem rIx_of {K : PySem.W.Frag} {x : V} {i : Int} {Q : VK} (r : Rp K M H x da) (h : ixD da (.int i) = some d) (q : ∀ v, Rp K M H v d → Q v H) : rIx K x (.int i) H Q := by
  cases r with
  | lst m hs rs =>
    obtain ⟨v, hv, rv⟩ := atI_rp rs h
    exact .inl ⟨_, _, i, v, rfl, rfl, .inl hs, hv, q v rv⟩
  | tup m hs rs =>
    obtain ⟨v, hv, rv⟩ := atI_rp rs h
    exact .inr (.inl ⟨_, _, i, v, rfl, rfl, .inl hs, hv, q v rv⟩)
  | str z =>
    simp only [ixD] at h
    split at h
    · rename_i hz
      cases e : atI z.cps.toList i with
      | none =>
        rw [e] at h
        cases h
      | some c =>
        rw [e] at h
        cases h
        exact .inr (.inr ⟨z, i, c, rfl, rfl, hz, e, q _ (.str _)⟩)
    · cases h
  | _ => cases h
end
section
variable {X : Cx} {M : Addr → Prop} {σ : St} {H H' : Hp} {c e o ix : Expr} {d : PyData} {pos : Pos} {st : Stmt} {sts A B : List Stmt} {D : Ends}
theorem cs_set {i : Nat} {x : Str} {p : Pos} (hN : X.N.Nodup) (hi : X.N[i]? = some x) (hx : Loc X.env.scope x) (h : wE X e σ H fun v H2 => D.nx (σ.set i (some v)) H2)
    (hs : swapsWith e (some (.Name x p)) pos.line X.env = pure false := by rfl) (hf : X.fn x = true ∨ X.env.scope.names.lookup x = some .local := by first | exact .inl rfl | exact .inr rfl | assumption) : wS X (.Assign [.Name x p] e pos) D σ H := ⟨_, ps_set hN hi hx wE.pe hs hf, h⟩
theorem cs_ret (h : wE X e σ H D.rt) : wS X (.Return (some e) pos) D σ H := ⟨_, ps_ret wE.pe, h⟩
theorem cs_expr (h : wE X e σ H fun _ H2 => D.nx σ H2) (hs : swapsWith e none pos.line X.env = pure false := by rfl) : wS X (.Expr e pos) D σ H := ⟨_, ps_expr wE.pe hs, h⟩
/-- o[ix] = e -/
theorem cs_sub {p : Pos} (h : wE X e σ H fun v H1 => wE X o σ H1 fun x H2 => wE X ix σ H2 fun y H3 => rSetL x y v H3 fun H4 => D.nx σ H4)
    (ha : ∀ v, assign (.Subscript o ix p) X.env v = (do
      let ov ← holding [v] (eval o X.env)
      let iv ← holding [v, ov] (eval ix X.env)
      standAt p
      holding [v, ov, iv] (setItem ov iv v)
      release [v, ov, iv] []) := by intro _; rfl)
    (hs : swapsWithSole [.Subscript o ix p] e pos.line X.env = pure false := by rfl) (hw : swappedStores [.Subscript o ix p] e X.env = pure none := by rfl)
    (h1 : (assignEach [.Subscript o ix p] X.env).map (·.2) = [assign (.Subscript o ix p) X.env] := by rfl) : wS X (.Assign [.Subscript o ix p] e pos) D σ H :=
  ⟨_, ps_asg wE.pe (pg_sub wE.pe wE.pe set_list ha) hs hw h1, h⟩
end
end GV

namespace GV
open PySem PySem.Spec PyProof.Rows L2
/-! ### own errors -/
/-- what the __init__ of an error keeps: its arguments, by these names -/
def spInit (C : Addr) (fl : List Str) : Sp := fun vs H Q _ => ∃ (a : Addr) (xs : List V), vs = .ref a :: xs ∧ xs.length = fl.length ∧ H a = some (exo a C none) ∧
  ∀ H' d, (∀ b o, H b = some o → b ≠ a → H' b = some o) → H d = none → d ≠ a → H' a = some (exo a C (some d)) → H' d = some (exd d (fl.zip xs).reverse) → Q .non H'
structure ErrC (P : Program) (w : World) (K : PySem.W.Frag) (mg : Str → Option Value) (base : Heap) (x : Str) (C : Addr) (fl : List Str) : Prop where
  gC : mg x = some (.ref C)
  oex : OexC K C
  xf : XfC K C
  no : ∀ f ∈ fl, PySem.W.findIn K (.ref C) f = some none
  init : ∃ (fI : Addr) (fd : FuncData) (ps : List Str), PySem.W.findIn K (.ref C) "__init__" = some (some (.ref fI)) ∧ PySem.W.typeIn K (.ref fI) = some (.type "function") ∧ FnOk P w K mg base CX0 1 fI fd ps (spInit C fl) ∧ Binds K fd ps []
/-- what a raised one leaves: a new dict that holds the arguments -/
def Raised (C : Addr) (fs : List (Str × V)) (H : Hp) (E : XK) : Prop := ∀ d H', H d = none → Evl.Ex H H' → H' d = some (.xd fs) → E (.ref C) (some d) H'
section
variable {X : Cx} {σ : St} {H : Hp} {D : Ends} {e : Expr} {es : List Expr}
theorem s_raise {W : WX} {x : Str} {C : Addr} {fl : List Str} {p pos pos2 : Pos} (hc : X.calm = true) (er : ErrC X.prog X.w X.K X.mg X.base x C fl) (hr : Room 2 X.A) (tk : Takes X W) (hg : Gl X x)
    (h : wA X (e :: es) σ H fun vs H1 => vs.length = fl.length ∧ vs.length ≤ 1000 ∧ Raised C (fl.zip vs).reverse H1 fun cls d H' => W cls d σ H')
    (hdb : (x == ("__debug__" : Str)) = false := by decide) (he : starEach (e :: es) X.env = (false, eval e X.env) :: starEach es X.env := by rfl) (hpl : (backTo pos (starEach es X.env)).any (·.1) = false := by rfl) :
    wS X (.Raise (some (.Call (.Name x p) (e :: es) [] pos)) none pos2) D σ H := by
  obtain ⟨fI, fd, ps, iC, tI, F1, hb⟩ := er.init
  obtain ⟨t, pa, q⟩ := h
  -- the arguments' own reading, with what is wanted behind it
  refine ⟨_, ps_raise hc tk (pmk_oex (k := 1) (dvs := []) (ds := []) er.oex iC tI F1 hr hb .nil pass0 hg er.gC (ta := fun σ H Q => ∃ Q0, t σ H Q0 ∧ ∀ vs H1, Q0 vs H1 → Q vs H1) ⟨fun pos pins s σ H Q I ⟨Q0, h0, imp⟩ => wpAny_mono (pa.run pos pins s σ H Q0 I h0) (fun us s1 ⟨vs, H1, I1, r1, q1⟩ => ⟨vs, H1, I1, r1, imp vs H1 q1⟩) fun _ _ z => z⟩ hdb he hpl), _, q, fun vs H1 ⟨hl, h1000, hR⟩ => ?_⟩
  refine ⟨h1000, fun a na => ⟨a, vs, by rw [List.append_nil], hl, upd_same, fun H' d k nd da ea ed => ⟨rfl, d, _, ea, ed, ?_, ?_⟩⟩⟩
  · rwa [upd_ne da] at nd
  · rw [upd_ne da] at nd
    refine hR d _ nd (fun b o hb' => ?_) upd_same
    rw [upd_ne (ne_of_none hb' nd), del_ne (ne_of_none hb' na)]
    exact k b o (by rw [upd_ne (ne_of_none hb' na)]; exact hb') (ne_of_none hb' na)
end
end GV

namespace GV
open PySem PySem.Spec PyProof.Rows L2
/-! ### try with clauses that may keep the exception by a name -/
abbrev HdT := Addr → Value → Option Addr → TS
/-- where a clause with a name goes on: the name is gone -/
def Ends.less (D : Ends) (i : Nat) : Ends := { nx := fun σ' H' => D.nx (σ'.set i none) H', rt := D.rt, bk := fun σ' H' => D.bk (σ'.set i none) H', ct := fun σ' H' => D.ct (σ'.set i none) H' }
/-- which clause takes an exception, and what it must do then -/
def wHs (K : PySem.W.Frag) (Wout : WX) (D : Ends) : List (Value × Option Nat × HdT) → WX
  | [] => Wout
  | (c, o, ts) :: r => fun cls d σ H => ∃ b, PySem.W.exmOne K cls c = some b ∧
      (b = true → ∀ a, H a = none → match o with
        | none => ts a cls d D σ H
        | some i => i < σ.length → ts a cls d (Ends.less D i) (σ.set i (some (.ref a))) H) ∧
      (b = false → wHs K Wout D r cls d σ H)
inductive Hds (X : Cx) : List ExceptHandler → List (Value × Option Nat × HdT) → Prop
  | nil : Hds X [] []
  | one {x : Str} {c : Value} {ts : HdT} {b₀ : Stmt} {suite : List Stmt} {np p : Pos} {hs l} : Names X x c →
      (∀ a oe cls d pn, Zc cls d oe → (∃ vs, oe.data = .fields vs) → PSs (X.suite a ((a, oe) :: pn)) (b₀ :: suite) (ts a cls d)) → Hds X hs l →
      Hds X (.ExceptHandler (some (.Name x np)) none (b₀ :: suite) p :: hs) ((c, none, ts) :: l)
  | as_ {x n : Str} {i : Nat} {c : Value} {ts : HdT} {b₀ : Stmt} {suite : List Stmt} {np p : Pos} {hs l} : Names X x c → X.N[i]? = some n → X.env.kindOf n = some .local →
      (∀ a oe cls d pn, Zc cls d oe → (∃ vs, oe.data = .fields vs) → PSs (X.suite a ((a, oe) :: pn)) (b₀ :: suite) (ts a cls d)) → Hds X hs l →
      Hds X (.ExceptHandler (some (.Name x np)) (some n) (b₀ :: suite) p :: hs) ((c, some i, ts) :: l)
theorem ps_tryAs {X : Cx} {body : List Stmt} {h₀ : ExceptHandler} {hds : List ExceptHandler} {l : List (Value × Option Nat × HdT)} {pos : Pos} {tb : WX → TS} {Wout : WX} (hs : X.stack = X.env :: X.outer) (hf : X.env.frame = some X.env.locals) (hN : X.N.Nodup) (tk : Takes X Wout)
    (hb : ∀ (W : WX) (pn : List (Addr × Obj)) (xe : Value → Shared → Prop), Takes (X.tr pn xe) W → PassesOwn (model X.prog X.w) X.A X.env xe → PSs (X.tr pn xe) body (tb W)) (hh : Hds X (h₀ :: hds) l) :
    PS X (.Try body (h₀ :: hds) [] [] pos) fun D σ H => tb (wHs X.K Wout D l) D σ H := by
  constructor
  intro pins s σ H D I h
  have ok := I.ok
  have hfr : X.A.frames = some (X.env :: X.outer) := by
    rw [ok.frames, hs]
  refine wpAny_Try_except (wpAny_mono ((hb (wHs X.K Wout D l) (X.pn ++ pins) _ ?_ PassesOwn.looking).run [] s σ H D (I.toTry _) h) ?_ fun e s1 he => he)
  · rintro u s' ⟨a, B, sI, pins', σ', H', cls, d, rfl, J', nb, up, sky, na, os, ag, w⟩
    have J := J'.ofTry ok
    have sky' : Sky B (X.env :: X.outer) a (Zc cls d) X.env.locals s'.heap := by
      rw [← hs]
      exact sky
    refine Sky.land Zc.steady hfr hf sky' fun h3 fl3 up3 => ?_
    have J3 := J.landed (s' := { heap := h3, gens := s'.gens, drawn := s'.drawn, toks := s'.toks, os := s'.os }) nb fl3.1 (up.trans up3) os ag
    obtain ⟨oe3, vs3, he3, hz3, hd3⟩ := fl3.there
    have nfr : ¬ a ∈ List.filterMap (fun x => x.frame) (X.env :: X.outer) := fun hm => by
      obtain ⟨_, o', e', hnf⟩ := fl3.2.2.1.mem hm
      have e2 : some oe3 = some o' := he3.symm.trans e'
      cases e2
      exact hnf _ hd3
    have nL : a ≠ X.env.locals := fun z => nfr (List.mem_filterMap.mpr ⟨X.env, List.mem_cons_self, by rw [hf, z]⟩)
    have nF : ¬ a ∈ X.fs := fun hm => by
      obtain ⟨e, he, q⟩ := List.mem_filterMap.mp hm
      exact nfr (List.mem_filterMap.mpr ⟨e, List.mem_cons_of_mem _ he, q⟩)
    have S3 := J3.suite he3 hd3 na nL nF
    have go : ∀ {hs' l'}, Hds X hs' l' → wHs X.K Wout D l' cls d σ' H' → wpAny (model X.prog X.w) X.A (handleBy (.ref a) X.env hs') (SP X pins D) X.xe { heap := h3, gens := s'.gens, drawn := s'.drawn, toks := s'.toks, os := s'.os } := by
      intro hs' l' hk
      have LT : ∀ (c : Value) (b : Bool), PySem.W.exmOne X.K cls c = some b → PySem.W.Looks (model X.prog X.w) h3 (excMatches (.ref a) c) b := fun c b hb1 => PySem.W.exm_one J3.kIn (fun A Q E s k q => wpAny_typeOf_ref (k a oe3 he3) (by rw [hz3.1]; exact q)) hb1
      have test : ∀ {x : Str} {c : Value} {np : Pos} {Q : Value → Shared → Prop} {E : Value → Shared → Prop}, Names X x c → Q c { heap := h3, gens := s'.gens, drawn := s'.drawn, toks := s'.toks, os := s'.os } → wpAny (model X.prog X.w) (X.A.mark (some (.ref a))) (eval (.Name x np) X.env) Q E { heap := h3, gens := s'.gens, drawn := s'.drawn, toks := s'.toks, os := s'.os } := by
        intro x c np Q E hc q
        obtain ⟨hg, hdbg, hm | ⟨hm, hv, hnn⟩⟩ := hc
        · exact ld_glob S3 hg hm q hdbg
        · exact ld_blt S3 hg hm hv q hnn hdbg
      induction hk with
      | nil =>
        intro w
        refine wpAny_handleBy_nil ?_
        obtain ⟨k1, k2, k3, oe, vs, T, oT, ts', he, hz, hd, h1, hr⟩ := id fl3
        refine wpAny_bind (wpAny_field he hd h1 ?_)
        rw [if_neg (by simp)]
        refine wpAny_bind ?_
        rw [hf]
        exact HandSPX.setFlight_upZ fl3 fun h4 hh4 up4 => wpAny_throw (tk (.ref a) _ ⟨a, B, sI, pins, σ', H', cls, d, rfl, J, nb, (up.trans up3).trans up4, .inr (.inr (by rw [hs]; exact hh4)), na, os, ag, w⟩)
      | one hc hsu r ih =>
        rintro ⟨b, hb1, hyes, hno⟩
        refine wpAny_handleBy_cons (codeAny_handlers_test (test hc (PySem.W.Looks.here (LT _ _ hb1) ?_))) (fun q => by cases q)
        cases b with
        | false => exact ih (hno rfl)
        | true =>
          refine codeAny_handlers_suite (HandSPX.lands_againZ fl3 fun h4 fl4 up4 => ?_)
          have J4 := J.landed (s' := { heap := h4, gens := s'.gens, drawn := s'.drawn, toks := s'.toks, os := s'.os }) nb fl4.1 ((up.trans up3).trans up4) os ag
          obtain ⟨oe4, vs4, he4, hz4, hd4⟩ := fl4.there
          have S4 := J4.suite he4 hd4 na nL nF
          refine wpAny_mono ((hsu a oe4 cls d (X.pn ++ pins) hz4 ⟨vs4, hd4⟩).run [] _ σ' H' D S4 (hyes rfl a na)) (fun f s6 hsp => ?_) fun _ _ z => z.elim
          show SP X pins D f s6
          cases f with
          | ret u =>
            obtain ⟨v6, σ6, H6, S6, r6, q6⟩ := hsp
            exact ⟨v6, σ6, H6, S6.unsuite ok, r6, q6⟩
          | _ =>
            obtain ⟨σ6, H6, S6, q6⟩ := hsp
            exact ⟨σ6, H6, S6.unsuite ok, q6⟩
      | as_ hc hi hln hsu r ih =>
        rintro ⟨b, hb1, hyes, hno⟩
        refine wpAny_handleBy_cons (codeAny_handlers_test (test hc (PySem.W.Looks.here (LT _ _ hb1) ?_))) (fun q => by cases q)
        cases b with
        | false => exact ih (hno rfl)
        | true =>
          refine codeAny_handlers_suite_as (HandSPX.lands_againZ fl3 fun h4 fl4 up4 => ?_)
          have J4 := J.landed (s' := { heap := h4, gens := s'.gens, drawn := s'.drawn, toks := s'.toks, os := s'.os }) nb fl4.1 ((up.trans up3).trans up4) os ag
          obtain ⟨oe4, vs4, he4, hz4, hd4⟩ := fl4.there
          have S4 := J4.suite he4 hd4 na nL nF
          refine store_ok (X := X.suite a ((a, oe4) :: (X.pn ++ pins))) (v := .ref a) S4 hN hi (.inl hln) rfl (fun s5 S5 => ?_) (.inr hln)
          refine wpAny_mono ((hsu a oe4 cls d (X.pn ++ pins) hz4 ⟨vs4, hd4⟩).run [] s5 _ H' _ S5 (hyes rfl a na (by rw [J.len]; exact (List.getElem?_eq_some_iff.mp hi).1))) (fun f s6 hsp => ?_) fun _ _ z => z.elim
          cases f with
          | ret u =>
            obtain ⟨v6, σ6, H6, S6, r6, q6⟩ := hsp
            exact gone_ok (S6.unsuite ok) hN hi hln fun s7 J7 => ⟨v6, _, H6, J7, r6, q6⟩
          | _ =>
            obtain ⟨σ6, H6, S6, q6⟩ := hsp
            exact gone_ok (S6.unsuite ok) hN hi hln fun s7 J7 => ⟨_, H6, J7, q6⟩
    exact go hh w
  · intro f s1 hsp
    cases f with
    | ret u =>
      obtain ⟨v, σ', H', J', r, q⟩ := hsp
      exact ⟨v, σ', H', J'.ofTry ok, r, q⟩
    | next =>
      obtain ⟨σ', H', J', q⟩ := hsp
      exact wpAny_execs_nil ⟨σ', H', J'.ofTry ok, q⟩
    | _ =>
      obtain ⟨σ', H', J', q⟩ := hsp
      exact ⟨σ', H', J'.ofTry ok, q⟩
end GV

namespace GV
open PySem PySem.Spec PyProof.Rows L2
/-! ### an own error without a word -/
theorem pmk_own0 {X : Cx} {pos : Pos} {C : Addr} {bmB : List Value} {B newId initId : String} {x : Str} {p : Pos} (F : ExcBaseFacts B newId initId bmB) (q : PySem.W.excIn X.K C bmB newId = true) (gC : X.mg x = some (.ref C)) (kC : PySem.W.keepIn X.K (.ref C) = true) (r : Raises X (.ref C)) (hg : Gl X x)
    (hdb : (x == ("__debug__" : Str)) = false := by decide) : PMk X (.Call (.Name x p) [] [] pos) fun σ H Q => Q (.ref C) none H := by
  intro pins s σ H Q I h
  refine wpAny_Call_Name_kw ?_
  refine ld_glob I hg gC ?_ hdb
  refine PySem.W.callWith_K0 (env := X.env) (first := []) I.kIn kC ?_
  obtain ⟨bm, N, nm, qn, bs, hdct, sn, sub, ab, col, dd, k0, k1, k2, k3, k5, mN, hC, hN, hni, T⟩ := exc_obj I.kIn q
  exact wpAny_call_exc_subT F T hC hN hni (fun h' e hm => mk_of I hm r h (HOk.gone I.hok hm.new)) (Nat.zero_le _)
/-- an error class whose objects are made without words -/
structure Err0 (K : PySem.W.Frag) (mg : Str → Option Value) (x : Str) (C : Addr) : Prop where
  gC : mg x = some (.ref C)
  ex : PySem.W.excIn K C [.type "ValueError", .type "Exception", .type "BaseException", .type "object"] "ValueError.__new__" = true
  kC : PySem.W.keepIn K (.ref C) = true
  exC : PySem.W.subIn K (.ref C) (.type "BaseException") = some true
  tyC : PySem.W.typeIn K (.ref C) = some (.type "type")
theorem s_raise0 {X : Cx} {σ : St} {H : Hp} {D : Ends} {W : WX} {x : Str} {C : Addr} {p pos pos2 : Pos} (hc : X.calm = true) (er : Err0 X.K X.mg x C) (tk : Takes X W) (hg : Gl X x) (h : W (.ref C) none σ H) (hdb : (x == ("__debug__" : Str)) = false := by decide) :
    wS X (.Raise (some (.Call (.Name x p) [] [] pos)) none pos2) D σ H := ⟨_, ps_raise hc tk (pmk_own0 F.excBase_ValueError er.ex er.gC er.kC (raises_own er.exC er.tyC) hg hdb), h⟩
end GV

namespace GV
open PySem PySem.Spec PyProof.Rows L2
/-! ### objects: fields, methods, properties -/
/-- e names what stands at a -/
def AtN (X : Cx) (σ : St) (e : Expr) (a : Addr) : Prop := ∀ H1 (Q : VK), Q (.ref a) H1 → wE X e σ H1 Q
section
variable {X : Cx} {M : Addr → Prop} {σ : St} {H H' : Hp} {a b c e o : Expr} {da db d : PyData} {pos : Pos} {es : List Expr} {ds : List PyData} {D : Ends}
theorem AtN.name {i : Nat} {x : Str} {p : Addr} (hN : X.N[i]? = some x) (hv : Vis X.env.scope x) (hs : σ[i]? = some (some (.ref p)))
    (hd : (x == ("__debug__" : Str)) = false := by decide) (hcd : (x == ("__classdict__" : Str)) = false := by decide) : AtN X σ (.Name x pos) p := fun H1 Q q => ce_name hN hv hs q hd hcd
theorem pd_fld {f : Str} {p C dx : Addr} {fs : List (Str × V)} {v : V} (hn : AtN X σ e p) (m : ¬ M p) (hp : H p = some (.ins C dx fs)) (c : Cls X.K C) (n : NoAttr X.K C f) (hf : fs.lookup f = some v) (r : Rp X.K M H v d)
    (hb : attributeBase e f X.env (eval e X.env) = eval e X.env := by rfl) : PD X M (.Attribute e f pos) σ H d := .mk fun H1 e1 al Q q =>
  ⟨_, pe_fld wE.pe hb, hn _ _ ⟨p, C, dx, fs, v, rfl, e1 _ _ hp m (fun _ z => by cases z), c, n, hf, q v H1 (Evl.Ex.refl H1) (r.mono (fun _ z => z) e1)⟩⟩
theorem AtN.fld {f : Str} {p s C dx : Addr} {fs : List (Str × V)} (hn : AtN X σ e p) (c : Cls X.K C) (n : NoAttr X.K C f) (hf : fs.lookup f = some (.ref s)) {Q : VK} (hp : H p = some (.ins C dx fs)) (q : Q (.ref s) H)
    (hb : attributeBase e f X.env (eval e X.env) = eval e X.env := by rfl) : wE X (.Attribute e f pos) σ H Q := ⟨_, pe_fld wE.pe hb, hn _ _ ⟨p, C, dx, fs, _, rfl, hp, c, n, hf, q⟩⟩
/-- o.append(e) -/
theorem ce_append {apos cpos : Pos} {Q : VK} (h : wE X o σ H fun x H1 => ∃ l xs, x = .ref l ∧ H1 l = some (.lst xs) ∧ wE X e σ H1 fun y H2 => ∃ ys, H2 l = some (.lst ys) ∧ ys.length < 100000 ∧ Q .non (upd H2 l (.lst (ys ++ [y]))))
    (h1 : attributeBase o ("append" : Str) X.env (eval o X.env) = eval o X.env := by rfl)
    (h2 : ((((backTo cpos (starEach (e :: []) X.env)).all fun x => !x.1) && (backToKw cpos (keywordEach [] X.env)).all fun x => x.1.isSome) && decide (((e :: []).length + ([] : List Keyword).length + if ([] : List Keyword).isEmpty = true then 0 else 1) < 30)) = true := by rfl)
    (h3 : (apos.endLine == cpos.line) = true := by rfl) (h4 : starEach (e :: []) X.env = (false, eval e X.env) :: starEach [] X.env := by rfl) (h5 : (backTo cpos (starEach [] X.env)).any (·.1) = false := by rfl) :
    wE X (.Call (.Attribute o "append" apos) [e] [] cpos) σ H Q := by
  refine ⟨_, pe_bm PySem.F.plainAttrs_list PySem.F.slot_list_append PySem.F.type_list_append mt_append wE.pe wA.pa h1 h2 h3 h4 h5, ?_⟩
  obtain ⟨t, p, q⟩ := h
  refine ⟨fun σ H Q => ∃ Q0, t σ H Q0 ∧ ∀ x H1, Q0 x H1 → Q x H1, ⟨fun pins s σ H Q I ⟨Q0, h0, imp⟩ => wpAny_mono (p.run pins s σ H Q0 I h0) (fun us s1 ⟨v, H1, I1, r1, q1⟩ => ⟨v, H1, I1, r1, imp v H1 q1⟩) fun _ _ z => z⟩, _, q, ?_⟩
  rintro x H1 ⟨l, xs, rfl, hl, h2⟩
  refine ⟨.inl ⟨rfl, _, SqL.of hl⟩, ?_⟩
  obtain ⟨t2, p2, q2⟩ := h2
  refine ⟨_, pa_cons (te := fun σ H Q => ∃ Q0, t2 σ H Q0 ∧ ∀ x H1, Q0 x H1 → Q x H1) ⟨fun pins s σ H Q I ⟨Q0, h0, imp⟩ => wpAny_mono (p2.run pins s σ H Q0 I h0) (fun us s1 ⟨v, H1, I1, r1, q1⟩ => ⟨v, H1, I1, r1, imp v H1 q1⟩) fun _ _ z => z⟩ pa_nil h4, _, q2, ?_⟩
  rintro y H2 ⟨ys, hy, hlen, hq⟩
  exact ⟨l, ys, y, rfl, rfl, hy, Nat.lt_of_lt_of_le hlen (by rw [sizeLine_eq]; decide), hq⟩
/-- o.pop() -/
theorem ce_pop {apos cpos : Pos} {Q : VK} {l : Addr} {xs : List V} {y : V} (h : wE X o σ H fun x H1 => x = .ref l ∧ H1 l = some (.lst (xs ++ [y])) ∧ Q y (upd H1 l (.lst xs)))
    (h1 : attributeBase o ("pop" : Str) X.env (eval o X.env) = eval o X.env := by rfl) (h3 : (apos.endLine == cpos.line) = true := by rfl) : wE X (.Call (.Attribute o "pop" apos) [] [] cpos) σ H Q := by
  refine ⟨_, pe_bm0 PySem.F.plainAttrs_list PySem.F.slot_list_pop PySem.F.type_list_pop mt_pop wE.pe h1 h3, ?_⟩
  obtain ⟨t, p, q⟩ := h
  refine ⟨fun σ H Q => ∃ Q0, t σ H Q0 ∧ ∀ x H1, Q0 x H1 → Q x H1, ⟨fun pins s σ H Q I ⟨Q0, h0, imp⟩ => wpAny_mono (p.run pins s σ H Q0 I h0) (fun us s1 ⟨v, H1, I1, r1, q1⟩ => ⟨v, H1, I1, r1, imp v H1 q1⟩) fun _ _ z => z⟩, _, q, ?_⟩
  rintro x H1 ⟨rfl, hl, hq⟩
  refine ⟨.inl ⟨rfl, _, SqL.of hl⟩, l, _, y, rfl, rfl, hl, ?_, ?_⟩
  · simp
  · rw [List.dropLast_concat]
    exact hq
/-- o.reverse() -/
theorem ce_reverse {apos cpos : Pos} {Q : VK} {l : Addr} {xs : List V} (h : wE X o σ H fun x H1 => x = .ref l ∧ H1 l = some (.lst xs) ∧ Q .non (upd H1 l (.lst xs.reverse)))
    (h1 : attributeBase o ("reverse" : Str) X.env (eval o X.env) = eval o X.env := by rfl) (h3 : (apos.endLine == cpos.line) = true := by rfl) : wE X (.Call (.Attribute o "reverse" apos) [] [] cpos) σ H Q := by
  refine ⟨_, pe_bm0 PySem.F.plainAttrs_list PySem.F.slot_list_reverse PySem.F.type_list_reverse mt_reverse wE.pe h1 h3, ?_⟩
  obtain ⟨t, p, q⟩ := h
  refine ⟨fun σ H Q => ∃ Q0, t σ H Q0 ∧ ∀ x H1, Q0 x H1 → Q x H1, ⟨fun pins s σ H Q I ⟨Q0, h0, imp⟩ => wpAny_mono (p.run pins s σ H Q0 I h0) (fun us s1 ⟨v, H1, I1, r1, q1⟩ => ⟨v, H1, I1, r1, imp v H1 q1⟩) fun _ _ z => z⟩, _, q, ?_⟩
  rintro x H1 ⟨rfl, hl, hq⟩
  exact ⟨.inl ⟨rfl, _, SqL.of hl⟩, l, _, rfl, rfl, hl, hq⟩
end
/-! ### which data hold no list, so that no change reaches them -/
mutual
def flat : PyData → Bool
  | .list _ => false
  | .dict _ => false
  | .tuple ds => flats ds
  | _ => true
def flats : List PyData → Bool
  | [] => true
  | d :: ds => flat d && flats ds
end
section
variable {K : PySem.W.Frag} {M M' : Addr → Prop} {H H' : Hp}
def Lists (M : Addr → Prop) (H : Hp) : Prop := ∀ a, M a → ∃ xs, H a = some (.lst xs)
mutual
theorem Rp.off {v : V} {d : PyData} : (r : Rp K M' H v d) → flat d = true → Lists M H → Rp K M H v d
  | .non, _, _ => .non
  | .bl b, _, _ => .bl b
  | .int i, _, _ => .int i
  | .str x, _, _ => .str x
  | .lst m h r, hf, hm => absurd hf (by simp [flat])
  | .tup m h r, hf, hm => .tup (fun z => by
      obtain ⟨xs, hx⟩ := hm _ z
      rcases h with h | ⟨o, h⟩ <;> rw [h] at hx <;> cases hx) h (RpAll.off r (by simpa [flat] using hf) hm)
theorem RpAll.off {vs : List V} {ds : List PyData} : (r : RpAll K M' H vs ds) → flats ds = true → Lists M H → RpAll K M H vs ds
  | .nil, _, _ => .nil
  | .cons r rs, hf, hm => .cons (Rp.off r (by simp [flats] at hf; exact hf.1) hm) (RpAll.off rs (by simp [flats] at hf; exact hf.2) hm)
end
/-- .. so what is flat stays whatever becomes of lists -/
def Keep (H H' : Hp) : Prop := ∀ a o, H a = some o → (∀ xs, o ≠ .lst xs) → NT o → H' a = some o
end
end GV

namespace GV
open PySem PySem.Spec PyProof.Rows L2
/-! ### weaker questions -/
theorem PE.weak {X : Cx} {e : Expr} {t : TE} (p : PE X e t) : PE X e fun σ H Q => ∃ Q0 : VK, t σ H Q0 ∧ ∀ v H1, Q0 v H1 → Q v H1 :=
  ⟨fun pins s σ H Q I ⟨Q0, h0, imp⟩ => wpAny_mono (p.run pins s σ H Q0 I h0) (fun us s1 ⟨v, H1, I1, r1, q1⟩ => ⟨v, H1, I1, r1, imp v H1 q1⟩) fun _ _ z => z⟩
theorem wE.weak {X : Cx} {e : Expr} {σ : St} {H : Hp} {Q0 Q : VK} (h : wE X e σ H Q0) (imp : ∀ v H1, Q0 v H1 → Q v H1) : wE X e σ H Q := let ⟨t, p, q⟩ := h; ⟨_, PE.weak p, Q0, q, imp⟩
/-! ### what changes only at S -/
def ExS (S : Addr → Prop) (H H' : Hp) : Prop := ∀ a o, ¬ S a → H a = some o → H' a = some o
theorem ExS.of {S : Addr → Prop} {H H' : Hp} (e : Evl.Ex H H') : ExS S H H' := fun a o _ h => e a o h
theorem ExS.trans {S : Addr → Prop} {H H1 H2 : Hp} (e : ExS S H H1) (f : ExS S H1 H2) : ExS S H H2 := fun a o n h => f a o n (e a o n h)
theorem ExS.upd {S : Addr → Prop} {H : Hp} {b : Addr} {o : HO} (s : S b) : ExS S H (upd H b o) := fun a u n h => by
  rw [upd_ne fun e => n (by rw [e]; exact s)]
  exact h
theorem ExS.mono {S S' : Addr → Prop} {H H' : Hp} (e : ExS S H H') (h : ∀ a, S a → S' a) : ExS S' H H' := fun a o n k => e a o (fun z => n (h a z)) k
theorem ExS.exM {S : Addr → Prop} {H H' : Hp} (e : ExS S H H') : ExM S H H' := fun a o h n _ => e a o n h
theorem ExM.mono {S S' : Addr → Prop} {H H' : Hp} (e : ExM S H H') (h : ∀ a, S a → S' a) : ExM S' H H' := fun a o k n t => e a o k (fun z => n (h a z)) t
theorem ExM.lst {S : Addr → Prop} {H H' : Hp} {a : Addr} {xs : List V} (e : ExM S H H') (n : ¬ S a) (h : H a = some (.lst xs)) : H' a = some (.lst xs) := e a _ h n fun _ z => by cases z
/-- the tables stay -/
theorem Tabs.exS {S : Addr → Prop} {H H' : Hp} {T : List (Addr × Str)} (t : LamX.Tabs T H) (e : ExS S H H') (l : ∀ a, S a → ∃ xs, H a = some (.lst xs)) : LamX.Tabs T H' := fun p hp => by
  obtain ⟨ps, h1, h2, h3⟩ := t p hp
  refine ⟨ps, e _ _ (fun s => ?_) h1, h2, fun pos cv h => ?_⟩
  · obtain ⟨xs, hx⟩ := l _ s
    rw [hx] at h1
    cases h1
  · obtain ⟨c, rfl, hc⟩ := h3 pos cv h
    refine ⟨c, rfl, e _ _ (fun s => ?_) hc⟩
    obtain ⟨xs, hx⟩ := l _ s
    rw [hx] at hc
    cases hc
section
variable {X : Cx} {M : Addr → Prop} {σ : St} {H H' : Hp} {a b c e o : Expr} {da db d : PyData} {pos : Pos} {es : List Expr} {ds : List PyData} {D : Ends}
theorem ce_str {x : Str} {j} {Q : VK} (q : Q (.str x) H) : wE X (.Constant (.str x) j pos) σ H Q := ⟨_, pe_str, q⟩
theorem ce_tup {x1} {Q : VK} (h : wA X es σ H fun vs H1 => vs.length ≤ 1000 ∧ ∀ p, H1 p = none → Q (.ref p) (upd H1 p (.tup vs))) : wE X (.Tuple es x1 pos) σ H Q := by
  obtain ⟨t, p, q⟩ := h
  refine ⟨_, pe_tup (t := fun σ H Q => ∃ Q0, t σ H Q0 ∧ ∀ vs H1, Q0 vs H1 → Q vs H1) ⟨fun pos pins s σ H Q I ⟨Q0, h0, imp⟩ => wpAny_mono (p.run pos pins s σ H Q0 I h0) (fun us s1 ⟨vs, H1, I1, r1, q1⟩ => ⟨vs, H1, I1, r1, imp vs H1 q1⟩) fun _ _ z => z⟩, _, q, ?_⟩
  rintro vs H1 ⟨hl, hq⟩
  exact ⟨Evl.sz_of (by omega), hq⟩
/-- a method's call -/
theorem ce_meth {CX : CXT} {E : XK} {C f p dx : Addr} {fd : FuncData} {ps : List Str} {sp : Sp} {m : Str} {apos : Pos} {pl : Sem Bool} {j k : Nat} {fs : List (Str × V)} {Q : VK} (hn : AtN X σ o p) (c : Cls X.K C) (hm : Meth X.K C m f) (F : FnOk X.prog X.w X.K X.mg X.base CX k f fd ps sp) (hr : Room j X.A) (hkj : k ≤ j) (hb : Binds X.K fd ps []) (hx : Passes CX X E)
    (hp : H p = some (.ins C dx fs)) (hf : fs.lookup m = none) (h : wA X (e :: es) σ H fun vs H2 => sp (.ref p :: vs) H2 Q E)
    (he : starEach (e :: es) X.env = (false, eval e X.env) :: starEach es X.env := by rfl) (hpl : (backTo pos (starEach es X.env)).any (·.1) = false := by rfl)
    (hev : eval (.Call (.Attribute o m apos) (e :: es) [] pos) X.env = (do
      let ov ← eval o X.env
      standAt apos.atName
      let (f, first) ← holding [ov] (getMethod ov m pl)
      callWith pos f first (backTo pos (starEach (e :: es) X.env)) (backToKw pos (keywordEach [] X.env))) := by rfl) : wE X (.Call (.Attribute o m apos) (e :: es) [] pos) σ H Q := by
  refine ⟨_, pe_meth wE.pe c hm F (hr.mono hkj) hb .nil hx wA.pa he hpl hev, hn _ _ ⟨p, dx, fs, rfl, hp, hf, ?_⟩⟩
  obtain ⟨t, h1, h2⟩ := h
  refine ⟨t, h1, ?_⟩
  have e1 : (fun vs H2 => sp (V.ref p :: (vs ++ [])) H2 Q E) = fun vs H2 => sp (V.ref p :: vs) H2 Q E := by
    funext vs H1
    rw [List.append_nil]
  rw [e1]
  exact h2
theorem ce_meth0 {CX : CXT} {E : XK} {C f p dx : Addr} {fd : FuncData} {ps : List Str} {sp : Sp} {m : Str} {apos : Pos} {pl : Sem Bool} {j k : Nat} {fs : List (Str × V)} {Q : VK} (hn : AtN X σ o p) (c : Cls X.K C) (hm : Meth X.K C m f) (F : FnOk X.prog X.w X.K X.mg X.base CX k f fd ps sp) (hr : Room j X.A) (hkj : k ≤ j) (hb : Binds X.K fd ps []) (hx : Passes CX X E)
    (hp : H p = some (.ins C dx fs)) (hf : fs.lookup m = none) (h : sp [.ref p] H Q E)
    (hev : eval (.Call (.Attribute o m apos) [] [] pos) X.env = (do
      let ov ← eval o X.env
      standAt apos.atName
      let (f, first) ← holding [ov] (getMethod ov m pl)
      callWith pos f first (backTo pos (starEach [] X.env)) (backToKw pos (keywordEach [] X.env))) := by rfl) : wE X (.Call (.Attribute o m apos) [] [] pos) σ H Q :=
  ⟨_, pe_meth0 wE.pe c hm F (hr.mono hkj) hb .nil hx hev, hn _ _ ⟨p, dx, fs, rfl, hp, hf, h⟩⟩
/-- a property's value -/
theorem ce_prop {CX : CXT} {E : XK} {C p g b dx : Addr} {f : Str} {fd : FuncData} {ps : List Str} {sp : Sp} {j k : Nat} {fs : List (Str × V)} {Q : VK} (hn : AtN X σ o b) (c : Cls X.K C) (hp : PropOf X.K C f p g) (F : FnOk X.prog X.w X.K X.mg X.base CX k g fd ps sp) (hr : Room j X.A) (hkj : k + 1 ≤ j) (hb : Binds X.K fd ps []) (hx : Passes CX X.nox E)
    (hi : H b = some (.ins C dx fs)) (h : sp [.ref b] H Q E) (hab : attributeBase o f X.env (eval o X.env) = eval o X.env := by rfl) : wE X (.Attribute o f pos) σ H Q :=
  ⟨_, pe_prop wE.pe c hp F (hr.mono hkj) hb .nil hx hab, hn _ _ ⟨b, dx, fs, rfl, hi, h⟩⟩
/-! ### try -/
abbrev tsW (X : Cx) (suite : List Stmt) : HdT := fun a cls d D σ H => ∀ oe pn, Zc cls d oe → (∃ vs, oe.data = .fields vs) → wB (X.suite a ((a, oe) :: pn)) suite D σ H
theorem psW {X : Cx} {suite : List Stmt} {a : Addr} {oe : Obj} {cls : Value} {d : Option Addr} {pn : List (Addr × Obj)} (hz : Zc cls d oe) (hd : ∃ vs, oe.data = .fields vs) : PSs (X.suite a ((a, oe) :: pn)) suite (tsW X suite a cls d) := ⟨fun pins s σ H D I h => wB.ps.run pins s σ H D I (h oe pn hz hd)⟩
theorem s_try {body : List Stmt} {h₀ : ExceptHandler} {hds : List ExceptHandler} {l : List (Value × Option Nat × HdT)} {Wout : WX} (hs : X.stack = X.env :: X.outer) (hf : X.env.frame = some X.env.locals) (hN : X.N.Nodup) (tk : Takes X Wout) (hh : Hds X (h₀ :: hds) l)
    (h : ∀ pn xe, Takes (X.tr pn xe) (wHs X.K Wout D l) → wB (X.tr pn xe) body D σ H) : wS X (.Try body (h₀ :: hds) [] [] pos) D σ H :=
  ⟨_, ps_tryAs (tb := fun W D σ H => ∀ pn xe, Takes (X.tr pn xe) W → wB (X.tr pn xe) body D σ H) hs hf hN tk (fun W pn xe tkW _ => ⟨fun pins s σ H D I h => wB.ps.run pins s σ H D I (h pn xe tkW)⟩) hh, h⟩
/-- e.f, e the exception that the clause holds -/
theorem ce_xf {X : Cx} {a C : Addr} {oe : Obj} {cls : Value} {d : Option Addr} {pn : List (Addr × Obj)} {f : Str} {Q : VK} (xf : XfC X.K C) (n : PySem.W.findIn X.K (.ref C) f = some none) (hz : Zc cls d oe) (hd : ∃ vs, oe.data = .fields vs)
    (h : wE (X.suite a ((a, oe) :: pn)) e σ H fun x H1 => x = .ref a ∧ cls = .ref C ∧ ∃ dd fs v, d = some dd ∧ H1 dd = some (.xd fs) ∧ fs.lookup f = some v ∧ Q v H1)
    (hab : attributeBase e f X.env (eval e X.env) = eval e X.env := by rfl) : wE (X.suite a ((a, oe) :: pn)) (.Attribute e f pos) σ H Q := ⟨_, pe_xf xf n hz hd wE.pe hab, h⟩
end
end GV

namespace GV
open PySem PySem.Spec PyProof.Rows L2
/-! ### the script: a list of whole numbers that nothing changes, wherever it stands -/
def ScAt (K : PySem.W.Frag) (M : Addr → Prop) (H : Hp) (a : Addr) (ns : List Int) : Prop := (¬ M a ∧ Rd H a (.lst (ns.map V.int))) ∨ ∀ H', SqL K H' a (ns.map V.int)
section
variable {K : PySem.W.Frag} {M M' : Addr → Prop} {H H' : Hp} {a : Addr} {ns : List Int}
theorem ScAt.of (h : SqL K H a (ns.map V.int)) (n : ¬ M a) : ScAt K M H a ns := h.elim (fun h => .inl ⟨n, h⟩) fun h => .inr fun _ => .inr h
theorem ScAt.sq (h : ScAt K M H a ns) : SqL K H a (ns.map V.int) := h.elim (fun h => .inl h.2) fun h => h H
theorem ScAt.mono (h : ScAt K M H a ns) (hm : ∀ a, M' a → M a) (e : ExM M H H') : ScAt K M' H' a ns := h.elim (fun ⟨n, h⟩ => .inl ⟨fun z => n (hm _ z), Rd.exM h n e⟩) .inr
end
section
variable {X : Cx} {M : Addr → Prop} {σ : St} {H : Hp} {a : Addr} {e b : Expr} {ns : List Int} {pos : Pos}
theorem pd_scIx {i : Nat} {j : Nat} {x : Str} {p : Pos} {z : Int} (h : ScAt X.K M H a ns) (hb : PD X M b σ H (.int (i : Nat))) (hz : ns[i]? = some z) (hN : X.N[j]? = some x := by rfl) (hv : Vis X.env.scope x := by first | exact .inl rfl | exact .inr (.inl rfl)) (hs : σ[j]? = some (some (.ref a)) := by rfl)
    (hd : (x == ("__debug__" : Str)) = false := by decide) (hcd : (x == ("__classdict__" : Str)) = false := by decide) (hpl : PlainIx b := by exact fun _ _ => rfl) : PD X M (.Subscript (.Name x p) b pos) σ H (.int z) := .mk fun H1 e1 al Q q =>
  ⟨_, pe_ix ix_seq wE.pe wE.pe hpl, ce_name hN hv hs (hb.run H1 e1 al _ fun y H2 x2 ry => by
    cases ry
    have hq := ((h.mono (fun _ z => z) e1).mono (fun _ z => z) (.of x2)).sq
    exact .inl ⟨_, _, (i : Nat), .int z, rfl, rfl, hq, atI_nat (by rw [List.getElem?_map, hz]; rfl), q _ H2 x2 (.int z)⟩) hd hcd⟩
theorem pd_scLen {j : Nat} {x : Str} {p p2 : Pos} (h : ScAt X.K M H a ns) (hg : Gl X "len") (hm : X.mg "len" = none) (hN : X.N[j]? = some x := by rfl) (hv : Vis X.env.scope x := by first | exact .inl rfl | exact .inr (.inl rfl)) (hs : σ[j]? = some (some (.ref a)) := by rfl)
    (hd : (x == ("__debug__" : Str)) = false := by decide) (hcd : (x == ("__classdict__" : Str)) = false := by decide) (hst : starEach (.Name x p :: []) X.env = (false, eval (.Name x p) X.env) :: starEach [] X.env := by rfl) (hpl : (backTo pos (starEach [] X.env)).any (·.1) = false := by rfl) :
    PD X M (.Call (.Name "len" p2) [.Name x p] [] pos) σ H (.int ns.length) := .mk fun H1 e1 al Q q =>
  ⟨_, pe_callB call_len_seq hg hm PySem.boot_len wA.pa (by decide) (by decide) hst hpl, ca_cons (ce_name hN hv hs (ca_nil ⟨a, ns.map V.int, rfl, .inl ((h.mono (fun _ z => z) e1).sq), by
    rw [List.length_map]
    exact q _ H1 (Evl.Ex.refl H1) (.int _)⟩) hd hcd) hst⟩
theorem fd_scSlice {lo hi : Option Expr} {l u : Option Int} {j : Nat} {x : Str} {p p2 : Pos} (h : ScAt X.K M H a ns) (hl : OD X M lo σ H l) (hu : OD X M hi σ H u) (hN : X.N[j]? = some x := by rfl) (hv : Vis X.env.scope x := by first | exact .inl rfl | exact .inr (.inl rfl)) (hs : σ[j]? = some (some (.ref a)) := by rfl)
    (hd : (x == ("__debug__" : Str)) = false := by decide) (hcd : (x == ("__classdict__" : Str)) = false := by decide) : FD X M (.Subscript (.Name x p) (.Slice lo hi none p2) pos) σ H (cutD (ns.map PyData.int) l u) := by
  obtain ⟨tl, pl, rl⟩ := hl.ex
  obtain ⟨tu, pu, ru⟩ := hu.ex
  refine .mk fun H1 e1 al Q q => ⟨_, pe_slice sl_list wE.pe pl pu, ce_name hN hv hs ?_ hd hcd⟩
  refine rl H1 e1 al _ fun H3 x3 => ru H3 (e1.trans (.of x3)) (al.mono x3) _ fun H4 x4 => ?_
  have hq := ((h.mono (fun _ z => z) e1).mono (fun _ z => z) (.of (x3.trans x4))).sq
  exact ⟨_, _, rfl, hq, fun p hp => q p _ _ (Evl.fresh_back (x3.trans x4) hp) ((x3.trans x4).trans (Evl.Ex.new hp)) upd_same (((RpAll.ints ns).cut l u))⟩
end
end GV

-- out of B3
namespace GV
open PySem PySem.Spec PyProof.Rows L2
theorem _root_.L2.Room.u2 {k : Nat} {A : Around} (r : Room k A) : A.units + 2 < cLine := Nat.lt_of_le_of_lt (Nat.add_le_add_left (by decide : 2 ≤ 64) _) r.units
theorem cutD_take (xs : List PyData) (i : Nat) : cutD xs none (some (i : Int)) = xs.take i := by
  unfold cutD
  rw [HT.sIx_none, HT.sIx_nat, List.drop_zero, Nat.sub_zero]
  by_cases h : i ≤ xs.length
  · rw [Nat.min_eq_left h]
  · rw [Nat.min_eq_right (by omega), List.take_of_length_le (Nat.le_refl _), List.take_of_length_le (by omega)]
theorem cutD_drop (xs : List PyData) (i : Nat) : cutD xs (some (i : Int)) none = xs.drop i := by
  unfold cutD
  rw [HT.sIx_none, HT.sIx_nat]
  by_cases h : i ≤ xs.length
  · rw [Nat.min_eq_left h, List.take_of_length_le]
    rw [List.length_drop]
    exact Nat.le_refl _
  · rw [Nat.min_eq_right (by omega), Nat.sub_self, List.take_zero, List.drop_of_length_le (by omega)]
theorem take_snoc {α : Type} {l : List α} {i : Nat} {x : α} (h : l[i]? = some x) : l.take (i + 1) = l.take i ++ [x] := by
  rw [List.take_add_one, h]
  rfl
end GV
-- out of B4
namespace GV
open PySem PySem.Spec PyProof.Rows L2
theorem ixD_list {ds : List PyData} {i : Nat} {d : PyData} (h : ds[i]? = some d) : ixD (.list ds) (.int (i : Nat)) = some d := atI_nat h
theorem ixD_ints {ns : List Int} {i : Nat} {z : Int} (h : ns[i]? = some z) : ixD (.list (ns.map PyData.int)) (.int (i : Nat)) = some (.int z) := ixD_list (by rw [List.getElem?_map, h]; rfl)
section
variable {X : Cx} {M : Addr → Prop} {σ : St} {H H' : Hp} {a e : Expr} {d : PyData} {pos : Pos}
/-- int(e), e an int -/
theorem pd_intI {p : Pos} {i : Int} (nb : NoB X.mg) (hg : Gl X "int") (h : PD X M e σ H (.int i)) (hs : starEach (e :: []) X.env = (false, eval e X.env) :: starEach [] X.env := by rfl) (hpl : (backTo pos (starEach [] X.env)).any (·.1) = false := by rfl) :
    PD X M (.Call (.Name "int" p) [e] [] pos) σ H (.int i) := pd_callTy call_int1 hg nb.int PyProof.Rows.boot_int (ad_cons h ad_nil hs) rn_int (by decide) (by decide) hs hpl
theorem pd_intB {p : Pos} {k : Bool} (nb : NoB X.mg) (hg : Gl X "int") (h : PD X M e σ H (.bool k)) (hs : starEach (e :: []) X.env = (false, eval e X.env) :: starEach [] X.env := by rfl) (hpl : (backTo pos (starEach [] X.env)).any (·.1) = false := by rfl) :
    PD X M (.Call (.Name "int" p) [e] [] pos) σ H (.int (if k then 1 else 0)) := pd_callTy call_int1 hg nb.int PyProof.Rows.boot_int (ad_cons h ad_nil hs) rn_intB (by decide) (by decide) hs hpl
theorem pd_len {p : Pos} {n : Nat} (nb : NoB X.mg) (hg : Gl X "len") (h : PD X M e σ H d) (hn : lenD d = some n) (hs : starEach (e :: []) X.env = (false, eval e X.env) :: starEach [] X.env := by rfl) (hpl : (backTo pos (starEach [] X.env)).any (·.1) = false := by rfl) :
    PD X M (.Call (.Name "len" p) [e] [] pos) σ H (.int n) := pd_callB call_len hg nb.len PySem.boot_len (ad_cons h ad_nil hs) (rn_len hn) (by decide) (by decide) hs hpl
theorem pd_abs {p : Pos} {i : Int} (nb : NoB X.mg) (hg : Gl X "abs") (h : PD X M e σ H (.int i)) (hs : starEach (e :: []) X.env = (false, eval e X.env) :: starEach [] X.env := by rfl) (hpl : (backTo pos (starEach [] X.env)).any (·.1) = false := by rfl) :
    PD X M (.Call (.Name "abs" p) [e] [] pos) σ H (.int (if i < 0 then -i else i)) := pd_callB call_abs hg nb.abs PyProof.Rows.boot_abs (ad_cons h ad_nil hs) rn_abs (by decide) (by decide) hs hpl
theorem pd_sum {p : Pos} {ns : List Int} (hc : X.calm = true) (nb : NoB X.mg) (hg : Gl X "sum") (h : PD X M e σ H (.list (ns.map PyData.int))) (hs : starEach (e :: []) X.env = (false, eval e X.env) :: starEach [] X.env := by rfl) (hpl : (backTo pos (starEach [] X.env)).any (·.1) = false := by rfl) :
    PD X M (.Call (.Name "sum" p) [e] [] pos) σ H (.int ns.sum) := pd_callB (cr_sum hc) hg nb.sum PyProof.Rows.boot_sum (ad_cons h ad_nil hs) rn_sum (by decide) (by decide) hs hpl
end
end GV
-- out of B5
namespace GV
open PySem PySem.Spec PyProof.Rows L2
section
variable {X : Cx} {M : Addr → Prop} {σ : St} {H H' : Hp} {a b c e o : Expr} {da db d : PyData} {pos : Pos} {es : List Expr} {ds : List PyData} {D : Ends}
/-- o.f = e, o an exception being made -/
theorem cs_ost {f : Str} {p' : Pos} (h : wE X e σ H fun y H1 => wE X o σ H1 fun x H2 => ∃ a C, x = .ref a ∧ OexC X.K C ∧ PySem.W.findIn X.K (.ref C) f = some none ∧
      ((H2 a = some (exo a C none) ∧ ∀ dx, H2 dx = none → dx ≠ a → D.nx σ (upd (upd H2 dx (exd dx [(f, y)])) a (exo a C (some dx)))) ∨
        ∃ dx fs, H2 a = some (exo a C (some dx)) ∧ H2 dx = some (exd dx fs) ∧ fs.length ≤ 900 ∧ D.nx σ (upd H2 dx (exd dx ((f, y) :: fs)))))
    (hs : swapsWith e (some (.Attribute o f p')) pos.line X.env = pure false := by rfl) : wS X (.Assign [.Attribute o f p'] e pos) D σ H := ⟨_, ps_ost wE.pe wE.pe hs, h⟩
/-- o.f, a plain attribute of an object -/
theorem ce_fld {f : Str} {Q : VK} (h : wE X e σ H fun x H1 => ∃ a C dx fs v, x = .ref a ∧ H1 a = some (.ins C dx fs) ∧ Cls X.K C ∧ NoAttr X.K C f ∧ fs.lookup f = some v ∧ Q v H1) (hb : attributeBase e f X.env (eval e X.env) = eval e X.env := by rfl) : wE X (.Attribute e f pos) σ H Q := ⟨_, pe_fld wE.pe hb, h⟩
/-- o.f = e -/
theorem cs_fld {f : Str} {p' : Pos} (h : wE X e σ H fun y H1 => wE X o σ H1 fun x H2 => ∃ a C dx fs, x = .ref a ∧ H2 a = some (.ins C dx fs) ∧ Cls X.K C ∧ NoAttr X.K C f ∧ fs.length < 1000 ∧ D.nx σ (upd H2 a (.ins C dx (putF f y fs))))
    (hs : swapsWith e (some (.Attribute o f p')) pos.line X.env = pure false := by rfl) : wS X (.Assign [.Attribute o f p'] e pos) D σ H := ⟨_, ps_fld wE.pe wE.pe hs, h⟩
/-- a call that may raise -/
theorem ce_callX {sp : Sp} {W : WX} {Q : VK} {j k : Nat} {x : Str} {p : Pos} (cl : Cl X.prog X.w X.K X.mg X.base (L2.CX X.prog X.w) k x sp) (hr : Room j X.A) (hkj : k ≤ j) (hg : Gl X x) (tk : Takes X W) (h : wA X (e :: es) σ H fun vs H2 => sp vs H2 Q (fun cls d H' => W cls d σ H'))
    (hdb : (x == ("__debug__" : Str)) = false := by decide) (he : starEach (e :: es) X.env = (false, eval e X.env) :: starEach es X.env := by rfl) (hpl : (backTo pos (starEach es X.env)).any (·.1) = false := by rfl) : wE X (.Call (.Name x p) (e :: es) [] pos) σ H Q := by
  obtain ⟨f, fd, ps, F, hm, hk, hb⟩ := cl.ex
  exact ⟨_, pe_callS F (hr.mono hkj) hg hm hk hb (fun σ => passAt tk σ) wA.pa hdb he hpl, h⟩
theorem cs_if {A B : List Stmt} (h : wT X c σ H fun k H2 => if k = true then wB X A D σ H2 else wB X B D σ H2) : wS X (.If c A B pos) D σ H := ⟨_, ps_if wT.pt wB.ps wB.ps, h⟩
theorem ct_td {k : Bool} {Q : Bool → Hp → Prop} (al : Alive M H) (h : TD X M e σ H k) (q : ∀ H2, Evl.Ex H H2 → Q k H2) : wT X e σ H Q := h.run H (ExM.refl H) al Q q
end
end GV
-- out of B7
namespace GV
open PySem PySem.Spec PyProof.Rows L2
section
variable {X : Cx} {M : Addr → Prop} {σ : St} {H : Hp} {e : Expr} {pos : Pos}
/-- for x in range(n) -/
theorem s_forR {n slot : Nat} {x : Str} {p p1 p2 : Pos} {body : List Stmt} {D : Ends} (hp : PassesOwn (model X.prog X.w) X.A X.env X.xe) (hc : X.calm = true) (hN : X.N.Nodup) (hx : X.N[slot]? = some x) (hl : Loc X.env.scope x) (hg : Gl X "range") (hm : X.mg "range" = none) (h : PD X M e σ H (.int (n : Nat))) (hn : n ≤ 1000000) (al : Alive M H) (J : Hp → Nat → St → Hp → Prop)
    (h0 : ∀ H1, Evl.Ex H H1 → J H1 0 σ H1) (hk : ∀ H1 i σ' H', Evl.Ex H H1 → J H1 i σ' H' → ExM M H1 H' ∧ Alive M H')
    (ht : ∀ H1 i σ' H' H2, Evl.Ex H H1 → i < n → J H1 i σ' H' → Evl.Ex H' H2 → wB X body { D with nx := J H1 (i + 1), ct := J H1 (i + 1), bk := D.nx } (σ'.set slot (some (.int (i : Nat)))) H2)
    (hd : ∀ H1 σ' H', Evl.Ex H H1 → J H1 n σ' H' → D.nx σ' H') (hs : starEach [e] X.env = [(false, eval e X.env)] := by rfl) (hs' : starEach (e :: []) X.env = (false, eval e X.env) :: starEach [] X.env := by rfl)
    (hf : ∀ x, foldedSetIterable (.Call (.Name "range" p) [e] [] p1) X.env x = pure x := by intro _; rfl) (hfn : X.fn x = true ∨ X.env.scope.names.lookup x = some .local := by first | exact .inl rfl | exact .inr rfl | assumption) : wS X (.For (.Name x p2) (.Call (.Name "range" p) [e] [] p1) body [] pos) D σ H := by
  refine s_for (t := .one slot) hp hc (src_range1 hg hm h (by omega) (by omega) hs hs') (pg_name hN hx hl hfn) al J h0 hk (fun _ _ => trivial) ?_ ?_ hf
  · rintro H1 i d σ' H' H2 σ2 x1 hd j x2 ⟨v, rv, rfl⟩
    obtain ⟨k, hk', rfl⟩ := List.mem_iff_getElem?.mp (List.mem_of_getElem? hd) |> fun _ => (by
      rw [List.getElem?_map] at hd
      obtain ⟨k, h1, h2⟩ := Option.map_eq_some_iff.mp hd
      exact ⟨k, h1, h2.symm⟩ : ∃ k, (List.range (Int.toNat (n : Nat)))[i]? = some k ∧ d = PyData.int (0 + (k : Nat)))
    rw [List.getElem?_range (by
      have := (List.getElem?_eq_some_iff.mp hk').1
      simpa using this)] at hk'
    have hin : i < n := by
      have := (List.getElem?_eq_some_iff.mp hd).1
      simpa using this
    cases hk'
    cases rv
    rw [Int.zero_add]
    exact ht H1 i σ' H' H2 x1 hin j x2
  · intro H1 σ' H' x1 j
    refine hd H1 σ' H' x1 ?_
    have e1 : ((List.range (Int.toNat (n : Nat))).map fun i => PyData.int (0 + (i : Nat))).length = n := by simp
    rw [← e1]
    exact j
end
end GV
-- out of B8
namespace GV
open PySem PySem.Spec PyProof.Rows L2
/-! ### which data == may look at -/
theorem shaped_of {d : PyData} (h1 : d.canLay0 = true) (h2 : d.depth ≤ 64) : SeqAt.shaped d = true := by
  simp [SeqAt.shaped, h1, h2]
/-- flat parts, at most one deep -/
def one1 : PyData → Prop
  | .int _ => True
  | .tuple [.int _, .int _] => True
  | _ => False
theorem lay1 {d : PyData} (h : one1 d) : d.canLay0 = true ∧ d.depth ≤ 1 := by
  unfold one1 at h
  split at h
  · exact ⟨rfl, by show 0 ≤ 1; omega⟩
  · exact ⟨rfl, Nat.le_refl 1⟩
  · cases h
theorem lays1 {ds : List PyData} (h : ∀ d ∈ ds, one1 d) : (PyData.list ds).canLay0 = true ∧ (PyData.list ds).depth ≤ 2 := by
  have key : ∀ ds : List PyData, (∀ d ∈ ds, one1 d) → PyData.canLayAll0 ds = true ∧ PyData.depthAll ds ≤ 1 := by
    intro ds
    induction ds with
    | nil => exact fun _ => ⟨rfl, Nat.zero_le _⟩
    | cons d r ih =>
      intro h
      obtain ⟨a, b⟩ := lay1 (h d (List.mem_cons_self))
      obtain ⟨a2, b2⟩ := ih fun x hx => h x (List.mem_cons_of_mem _ hx)
      refine ⟨?_, ?_⟩
      · show (d.canLay0 && PyData.canLayAll0 r) = true
        rw [a, a2]
        rfl
      · show max d.depth (PyData.depthAll r) ≤ 1
        omega
  obtain ⟨a, b⟩ := key ds h
  refine ⟨a, ?_⟩
  show PyData.depthAll ds + 1 ≤ 2
  omega
theorem shaped1 {ds : List PyData} (h : ∀ d ∈ ds, one1 d) : SeqAt.shaped (.list ds) = true := by
  obtain ⟨a, b⟩ := lays1 h
  exact shaped_of a (by omega)
theorem shapedI (ns : List Int) : SeqAt.shaped (.list (ns.map PyData.int)) = true := shaped1 fun d hd => by
  obtain ⟨k, _, rfl⟩ := List.mem_map.mp hd
  trivial
theorem atI_last {α : Type} (l : List α) (x : α) : atI (l ++ [x]) (-1) = some x := by
  unfold atI ixN
  rw [if_neg (by omega), List.length_append, List.length_singleton, if_pos (by omega)]
  show (l ++ [x])[((-1 : Int) + ((l.length + 1 : Nat) : Int)).toNat]? = some x
  rw [show ((-1 : Int) + ((l.length + 1 : Nat) : Int)).toNat = l.length by omega]
  simp
section
variable {X : Cx} {M : Addr → Prop} {σ : St} {H : Hp} {o e : Expr} {pos : Pos}
/-- o.index(e), a whole number that is there -/
theorem pd_index {apos cpos : Pos} {ns : List Int} {k : Int} {j : Nat} (ho : PD X M o σ H (.list (ns.map PyData.int))) (he : PD X M e σ H (.int k)) (hj : ns[j]? = some k) (hf : ∀ m z, m < j → ns[m]? = some z → z ≠ k)
    (h1 : attributeBase o ("index" : Str) X.env (eval o X.env) = eval o X.env := by rfl)
    (h2 : ((((backTo cpos (starEach (e :: []) X.env)).all fun x => !x.1) && (backToKw cpos (keywordEach [] X.env)).all fun x => x.1.isSome) && decide (((e :: []).length + ([] : List Keyword).length + if ([] : List Keyword).isEmpty = true then 0 else 1) < 30)) = true := by rfl)
    (h3 : (apos.endLine == cpos.line) = true := by rfl) (h4 : starEach (e :: []) X.env = (false, eval e X.env) :: starEach [] X.env := by rfl) (h5 : (backTo cpos (starEach [] X.env)).any (·.1) = false := by rfl) :
    PD X M (.Call (.Attribute o "index" apos) [e] [] cpos) σ H (.int (j : Nat)) := .mk fun H1 e1 al Q q => by
  refine ⟨_, pe_bm PySem.F.plainAttrs_list PySem.F.slot_list_index PySem.F.type_list_index mt_index wE.pe (pa_cons wE.pe pa_nil h4) h1 h2 h3 h4 h5, ?_⟩
  refine ho.run H1 e1 al _ fun x H2 x2 r => ?_
  cases r with
  | lst m hs rs =>
    refine ⟨.inl ⟨rfl, _, .inl hs⟩, he.run H2 (e1.trans (.of x2)) (al.mono x2) _ fun y H3 x3 ry => ?_⟩
    cases ry
    have hs3 := GV.Rd.exM hs m (.of x3)
    have ev := rs.of_ints
    subst ev
    refine ⟨_, _, _, j, .int k, rfl, rfl, .inl hs3, rfl, ?_, ?_, ?_, ?_, q _ H3 (x2.trans x3) (.int _)⟩
    · rw [List.all_eq_true]
      intro v hv
      obtain ⟨z, _, rfl⟩ := List.mem_map.mp hv
      rfl
    · rw [List.getElem?_map, hj]
      rfl
    · simp [eqV]
    · intro m z hm hz
      rw [List.getElem?_map] at hz
      obtain ⟨u, hu, rfl⟩ := Option.map_eq_some_iff.mp hz
      simpa [eqV] using hf m u hm hu
end
end GV
-- out of B13
namespace GV
open PySem PySem.Spec PyProof.Rows L2
section
variable {X : Cx} {M : Addr → Prop} {σ : St} {H H' : Hp} {a b c e o : Expr} {da db d : PyData} {pos : Pos} {es : List Expr} {ds : List PyData} {D : Ends}
theorem ce_and {rest : List Expr} {Q : VK} (h : wE X a σ H fun x H2 => ∃ k, x = .bl k ∧ (k = true → wE X (.BoolOp .And (b :: rest) pos) σ H2 Q) ∧ (k = false → Q (.bl false) H2)) : wE X (.BoolOp .And (a :: b :: rest) pos) σ H Q := by
  refine ⟨_, pe_and wE.pe wE.pe, wE.weak h ?_⟩
  rintro x H2 ⟨k, rfl, h1, h2⟩
  refine ⟨k, rfl, ?_⟩
  cases k with
  | true => exact h1 rfl
  | false => exact h2 rfl
theorem ce_one {op} {Q : VK} (h : wE X a σ H Q) : wE X (.BoolOp op [a] pos) σ H Q := ⟨_, pe_one wE.pe, h⟩
theorem ce_eq {Q : VK} (hu : X.A.units + 64 < cLine) (h : wE X a σ H fun x H2 => wE X b σ H2 fun y H3 => ∃ da db, Dp X.K H3 x da ∧ Dp X.K H3 y db ∧ SeqAt.shaped da = true ∧ SeqAt.shaped db = true ∧ Q (.bl (PyData.eqv da db)) H3) : wE X (.Compare a [.Eq] [b] pos) σ H Q :=
  ⟨_, pe_cmpR (op_eqD hu) wE.pe wE.pe (nomark _), h⟩
end
end GV
-- out of B15
namespace GV
open PySem PySem.Spec PyProof.Rows L2
section
variable {X : Cx} {M : Addr → Prop} {σ : St} {H H' : Hp} {a b c e o : Expr} {da db d : PyData} {pos : Pos} {es : List Expr} {ds : List PyData} {D : Ends}
theorem ce_lst {Q : VK} (h : wA X es σ H fun vs H1 => vs.length ≤ 1000 ∧ ∀ p, H1 p = none → Q (.ref p) (upd H1 p (.lst vs))) : wE X (.List es pos) σ H Q := by
  obtain ⟨t, p, q⟩ := h
  refine ⟨_, pe_lst (t := fun σ H Q => ∃ Q0, t σ H Q0 ∧ ∀ vs H1, Q0 vs H1 → Q vs H1) ⟨fun pos pins s σ H Q I ⟨Q0, h0, imp⟩ => wpAny_mono (p.run pos pins s σ H Q0 I h0) (fun us s1 ⟨vs, H1, I1, r1, q1⟩ => ⟨vs, H1, I1, r1, imp vs H1 q1⟩) fun _ _ z => z⟩, _, q, ?_⟩
  rintro vs H1 ⟨hl, hq⟩
  exact ⟨Evl.sz_of (by omega), hq⟩
theorem ct_val {Q : Bool → Hp → Prop} (h : wE X e σ H fun x H2 => ∃ k, x = .bl k ∧ Q k H2) (he : ∀ whole, isTrue e X.env whole = (do let v ← whole; standAt e.pos; holding [v] (truthy v)) := by intro _; rfl) : wT X e σ H Q := ⟨_, pt_val wE.pe he, h⟩
theorem ct_eq {Q : Bool → Hp → Prop} (hu : X.A.units + 64 < cLine) (h : wE X a σ H fun x H2 => wE X b σ H2 fun y H3 => ∃ da db, Dp X.K H3 x da ∧ Dp X.K H3 y db ∧ SeqAt.shaped da = true ∧ SeqAt.shaped db = true ∧ Q (PyData.eqv da db) H3) : wT X (.Compare a [.Eq] [b] pos) σ H Q :=
  ⟨_, pt_cmpR (op_eqD hu) wE.pe wE.pe (nomark _), wE.weak h fun x H2 h2 => wE.weak h2 fun y H3 ⟨da, db, h1, h2, h3, h4, q⟩ => ⟨da, db, h1, h2, h3, h4, _, rfl, q⟩⟩
theorem ct_not {Q : Bool → Hp → Prop} (h : wT X a σ H fun k H2 => Q (!k) H2) : wT X (.UnaryOp .Not a pos) σ H Q := ⟨_, pt_not wT.pt, h⟩
theorem ce_isN {j p2} {Q : VK} (h : wE X a σ H fun x H2 => Q (.bl (decide (x = .non))) H2) : wE X (.Compare a [.Is] [.Constant .none j p2] pos) σ H Q :=
  ⟨_, pe_cmpR op_isN wE.pe pe_non (nomark _), wE.weak h fun x H2 q => ⟨rfl, q⟩⟩
end
end GV
-- out of B18
namespace GV
open PySem PySem.Spec PyProof.Rows L2
section
variable {X : Cx} {σ : St} {H : Hp} {a b : Expr} {pos : Pos}
theorem ct_lt {Q : Bool → Hp → Prop} (h : wE X a σ H fun x H2 => wE X b σ H2 fun y H3 => ∃ i j, x = .int i ∧ y = .int j ∧ Q (decide (i < j)) H3) : wT X (.Compare a [.Lt] [b] pos) σ H Q :=
  ⟨_, pt_cmpR op_lt wE.pe wE.pe (nomark _), wE.weak h fun x H2 h2 => wE.weak h2 fun y H3 ⟨i, j, h1, h2, q⟩ => ⟨i, j, h1, h2, _, rfl, q⟩⟩
end
end GV
-- out of B19
namespace GV
open PySem PySem.Spec PyProof.Rows L2
section
variable {X : Cx} {σ : St} {H : Hp} {a b e o : Expr} {pos : Pos}
theorem PT.weak {X : Cx} {e : Expr} {t : TT} (p : PT X e t) : PT X e fun σ H Q => ∃ Q0 : Bool → Hp → Prop, t σ H Q0 ∧ ∀ v H1, Q0 v H1 → Q v H1 :=
  ⟨fun pins s σ H Q I ⟨Q0, h0, imp⟩ => wpAny_mono (p.run pins s σ H Q0 I h0) (fun us s1 ⟨H1, I1, q1⟩ => ⟨H1, I1, imp _ H1 q1⟩) fun _ _ z => z⟩
theorem wT.weak {Q0 Q : Bool → Hp → Prop} (h : wT X e σ H Q0) (imp : ∀ v H1, Q0 v H1 → Q v H1) : wT X e σ H Q := let ⟨t, p, q⟩ := h; ⟨_, PT.weak p, Q0, q, imp⟩
theorem cw_and1 {Q : Bool → Hp → Prop} (h : wT X a σ H Q) : wW X (.BoolOp .And [a] pos) σ H Q := ⟨_, pw_and1 wT.pt, h⟩
theorem cw_and {rest : List Expr} {Q : Bool → Hp → Prop} (h : wT X a σ H fun k H2 => (k = true → wW X (.BoolOp .And (b :: rest) pos) σ H2 Q) ∧ (k = false → Q false H2)) : wW X (.BoolOp .And (a :: b :: rest) pos) σ H Q :=
  ⟨_, pw_and wT.pt wW.pw, wT.weak h fun k H2 ⟨h1, h2⟩ => by
    cases k with
    | true => exact h1 rfl
    | false => exact h2 rfl⟩
theorem ct_w {Q : Bool → Hp → Prop} (h : wW X e σ H Q) : wT X e σ H Q := let ⟨t, p, q⟩ := h; ⟨t, p.pt, q⟩
theorem ct_gt {Q : Bool → Hp → Prop} (h : wE X a σ H fun x H2 => wE X b σ H2 fun y H3 => ∃ i j, x = .int i ∧ y = .int j ∧ Q (decide (j < i)) H3) : wT X (.Compare a [.Gt] [b] pos) σ H Q :=
  ⟨_, pt_cmpR op_gt wE.pe wE.pe (nomark _), wE.weak h fun x H2 h2 => wE.weak h2 fun y H3 ⟨i, j, h1, h2, q⟩ => ⟨i, j, h1, h2, _, rfl, q⟩⟩
theorem ce_propE {CX : CXT} {E : XK} {C p g : Addr} {f : Str} {fd : FuncData} {ps : List Str} {sp : Sp} {j k : Nat} {Q : VK} (c : Cls X.K C) (hp : PropOf X.K C f p g) (F : FnOk X.prog X.w X.K X.mg X.base CX k g fd ps sp) (hr : Room j X.A) (hkj : k + 1 ≤ j) (hb : Binds X.K fd ps []) (hx : Passes CX X.nox E)
    (h : wE X o σ H fun x H1 => ∃ a dx fs, x = .ref a ∧ H1 a = some (.ins C dx fs) ∧ sp [.ref a] H1 Q E) (hab : attributeBase o f X.env (eval o X.env) = eval o X.env := by rfl) : wE X (.Attribute o f pos) σ H Q :=
  ⟨_, pe_prop wE.pe c hp F (hr.mono hkj) hb .nil hx hab, wE.weak h fun x H1 ⟨a, dx, fs, h1, h2, h3⟩ => ⟨a, dx, fs, h1, h2, h3⟩⟩
/-- C(), an object made -/
theorem ce_make0 {CX : CXT} {E : XK} {f C : Addr} {fd : FuncData} {ps : List Str} {sp : Sp} {j k : Nat} {x : Str} {p : Pos} {Q : VK} (m : Mk X.K C f) (F : FnOk X.prog X.w X.K X.mg X.base CX k f fd ps sp) (hr : Room j X.A) (hkj : k + 1 ≤ j) (hg : Gl X x) (gC : X.mg x = some (.ref C)) (hb : Binds X.K fd ps []) (hx : Passes CX X E)
    (h : ∀ a dx, H a = none → H dx = none → dx ≠ a → sp [.ref a] (upd (upd H dx (.own a)) a (.ins C dx [])) (fun v H2 => v = .non ∧ Q (.ref a) H2) E) (hdb : (x == ("__debug__" : Str)) = false := by decide) : wE X (.Call (.Name x p) [] [] pos) σ H Q :=
  ⟨_, pe_make0 m F (hr.mono hkj) hg gC hb .nil hx hdb, fun a dx h1 h2 h3 => h a dx h1 h2 h3⟩
end
end GV

namespace GV
open PySem PySem.Spec PyProof.Rows L2
section
variable {X : Cx} {σ : St} {H : Hp} {e : Expr} {pos : Pos}
/-- for x in range(n), n a value on the way; nothing need be known of what stays -/
theorem s_forRW {slot : Nat} {x : Str} {p p1 p2 : Pos} {body : List Stmt} {D : Ends} (hp : PassesOwn (model X.prog X.w) X.A X.env X.xe) (hc : X.calm = true) (hN : X.N.Nodup) (hx : X.N[slot]? = some x) (hl : Loc X.env.scope x) (hg : Gl X "range") (hm : X.mg "range" = none)
    (h : wE X e σ H fun v H1 => ∃ (n : Nat) (J : Nat → St → Hp → Prop), v = .int (n : Nat) ∧ n ≤ 1000000 ∧ J 0 σ H1 ∧
      (∀ i σ' H', i < n → J i σ' H' → wB X body { D with nx := J (i + 1), ct := J (i + 1), bk := D.nx } (σ'.set slot (some (.int (i : Nat)))) H') ∧ ∀ σ' H', J n σ' H' → D.nx σ' H')
    (hs : starEach [e] X.env = [(false, eval e X.env)] := by rfl) (hs' : starEach (e :: []) X.env = (false, eval e X.env) :: starEach [] X.env := by rfl)
    (hf : ∀ x, foldedSetIterable (.Call (.Name "range" p) [e] [] p1) X.env x = pure x := by intro _; rfl) (hfn : X.fn x = true ∨ X.env.scope.names.lookup x = some .local := by first | exact .inl rfl | exact .inr rfl | assumption) : wS X (.For (.Name x p2) (.Call (.Name "range" p) [e] [] p1) body [] pos) D σ H := by
  refine ⟨_, ps_for hp hc (pi_range1 hg hm wA.pa hs) (pg_name hN hx hl hfn) wB.ps hf, ca_cons (wE.weak h ?_) hs'⟩
  rintro v H1 ⟨n, J, rfl, hn, h0, ht, hd⟩
  refine ca_nil ⟨(n : Nat), rfl, by omega, by omega, ?_⟩
  have en : ((n : Nat) : Int).toNat = n := by omega
  rw [en]
  refine ⟨fun i m σ' H' => m = n - i ∧ i ≤ n ∧ J i σ' H', ⟨n, rfl, Nat.zero_le _, h0⟩, ?_⟩
  rintro i m σ' H' ⟨rfl, hi', j⟩
  have wk := wk_range (K := X.K) (M := M0) (H := H') 0 n
  have ln : ((List.range n).map fun i => PyData.int (0 + (i : Nat))).length = n := by simp
  by_cases hlt : i < n
  · refine .inr ⟨wk.go M0 i H' (fun _ z => z.elim) (ExM.refl _) (by rw [ln]; exact hlt), J (i + 1), fun σ2 H2 j2 => ⟨n - (i + 1), by omega, rfl, hlt, j2⟩, fun x H2 y => ?_⟩
    obtain ⟨rfl, rfl⟩ := y
    rw [Int.zero_add]
    exact ht i σ' _ hlt j
  · have e2 : i = n := by omega
    subst e2
    have := wk.stop M0 H' (fun _ z => z.elim) (ExM.refl _)
    rw [ln] at this
    exact .inl ⟨this, hd σ' H' j⟩
/-- an item of a list of whatever -/
theorem rIx_lst {K : PySem.W.Frag} {l : Addr} {xs : List V} {i : Int} {v : V} {Q : VK} (h : H l = some (.lst xs)) (hv : atI xs i = some v) (q : Q v H) : rIx K (.ref l) (.int i) H Q := .inl ⟨_, _, i, v, rfl, rfl, .inl (.inl h), hv, q⟩
end
end GV

namespace GV
open PySem PySem.Spec PyProof.Rows L2
section
variable {X : Cx} {σ : St} {H : Hp} {e elt : Expr} {pos : Pos}
/-- [elt for x in range(e)], where elt may change things -/
theorem ce_lcR {slot : Nat} {x : Str} {p p1 p2 : Pos} {scope : Scope} {own : List (Str × Nat)} {Q : VK} (hc : X.calm = true) (hN : X.N.Nodup) (hg : Gl X "range") (hm : X.mg "range" = none) (ok : BlkOk X.N X.env.scope scope own)
    (hx : ∀ s H C cl fp, PG (Cx.lc X s H scope C cl fp) (.Name x p2) (gName slot)) (hw : ∀ v, wipe ((wipe σ (own.map (·.2))).set slot (some v)) (own.map (·.2)) = wipe σ (own.map (·.2)))
    (h : wE X e σ H fun v H1 => ∃ n : Nat, v = .int (n : Nat) ∧ n ≤ 1000000 ∧ ∀ D, H1 D = none → ∃ J : Nat → Hp → Prop, J 0 (upd H1 D (.lst [])) ∧
      (∀ i H', i < n → J i H' → ∀ s0 H0 C cl fp, wE (Cx.lc X s0 H0 scope C cl fp) elt ((wipe σ (own.map (·.2))).set slot (some (.int (i : Nat)))) H' fun y H4 => ∃ acc, H4 D = some (.lst acc) ∧ acc.length < 100000 ∧ J (i + 1) (upd H4 D (.lst (acc ++ [y])))) ∧ ∀ H', J n H' → Q (.ref D) H')
    (hs : starEach [e] X.env = [(false, eval e X.env)] := by rfl) (hs' : starEach (e :: []) X.env = (false, eval e X.env) :: starEach [] X.env := by rfl)
    (hf : ∀ x, foldedSetIterable (.Call (.Name "range" p) [e] [] p1) X.env x = pure x := by intro _; rfl) : wE X (.ListComp elt [⟨.Name x p2, .Call (.Name "range" p) [e] [] p1, [], 0⟩] scope pos) σ H Q := by
  refine ⟨_, pe_lc (tt := fun σ H Q => Q true H) (te := fun σ H Q => ∀ s0 H0 C cl fp, wE (Cx.lc X s0 H0 scope C cl fp) elt σ H Q) hc hN (pi_range1 hg hm wA.pa hs) ok hx (fun _ _ _ _ _ => ⟨fun pins s σ H Q I h => pts_nil.run pins s σ H Q I h⟩)
    (fun s0 H0 C cl fp => ⟨fun pins s σ H Q I h => wE.pe.run pins s σ H Q I (h s0 H0 C cl fp)⟩) hf, ca_cons (wE.weak h ?_) hs'⟩
  rintro v H1 ⟨n, rfl, hn, run⟩
  refine ca_nil ⟨(n : Nat), rfl, by omega, by omega, ?_⟩
  rw [show ((n : Nat) : Int).toNat = n by omega]
  intro D hD
  obtain ⟨J, h0, ht, hd⟩ := run D hD
  refine ⟨fun i m H' => m = n - i ∧ i ≤ n ∧ J i H', ⟨n, rfl, Nat.zero_le _, h0⟩, ?_⟩
  rintro i m H' ⟨rfl, hi', j⟩
  have wk := wk_range (K := X.K) (M := M0) (H := H') 0 n
  have ln : ((List.range n).map fun i => PyData.int (0 + (i : Nat))).length = n := by simp
  by_cases hlt : i < n
  · refine .inr ⟨wk.go M0 i H' (fun _ z => z.elim) (ExM.refl _) (by rw [ln]; exact hlt), J (i + 1), fun H2 j2 => ⟨n - (i + 1), by omega, rfl, hlt, j2⟩, fun x H2 y => ?_⟩
    obtain ⟨rfl, rfl⟩ := y
    rw [Int.zero_add]
    refine ⟨hw _, ?_⟩
    show if true = true then _ else _
    rw [if_pos rfl]
    intro s0 H0 C cl fp
    refine wE.weak (ht i _ hlt j s0 H0 C cl fp) ?_
    rintro y H4 ⟨acc, h1, h2, h3⟩
    exact ⟨acc, h1, Nat.lt_of_lt_of_le h2 (by rw [sizeLine_eq]; decide), h3⟩
  · have e2 : i = n := by omega
    subst e2
    have := wk.stop M0 H' (fun _ z => z.elim) (ExM.refl _)
    rw [ln] at this
    exact .inl ⟨this, hd H' j⟩
end
end GV
namespace GV
open PySem PySem.Spec PyProof.Rows L2
section
variable {X : Cx} {M : Addr → Prop} {σ : St} {H : Hp} {a : Expr} {d : PyData} {pos : Pos}
theorem kitAny2 {K : PySem.W.Frag} {t S T : String} {j k : Bool} (h1 : kitB t S = some j) (h2 : kitB t T = some k) : PySem.W.kitAny K (.type t) [.type S, .type T] = some (j || k) := by
  have e1 := kit_ty (K := K) h1
  have e2 := kit_ty (K := K) h2
  show (match PySem.W.kitOne K (.type t) (.type S) with
    | some true => some true
    | some false => PySem.W.kitAny K (.type t) [.type T]
    | none => none) = _
  rw [e1]
  cases j with
  | true => rfl
  | false =>
    show (match PySem.W.kitOne K (.type t) (.type T) with
      | some true => some true
      | some false => PySem.W.kitAny K (.type t) []
      | none => none) = _
    rw [e2]
    cases k <;> rfl
/-- isinstance(a, (S, T)) -/
theorem pd_isi2 {S T : String} {x y : Str} {p p1 p2 p3 : Pos} {n : Nat} {j k : Bool} (hg : Gl X "isinstance") (hm : X.mg "isinstance" = none) (hgS : Gl X x) (hmS : X.mg x = none) (hvS : bootBuiltins x = some (.type S)) (hgT : Gl X y) (hmT : X.mg y = none) (hvT : bootBuiltins y = some (.type T)) (ha : PD X M a σ H d) (hj : kitB (tyD d) S = some j) (hk : kitB (tyD d) T = some k)
    (nx : x ≠ "__name__" := by decide) (dx : (x == ("__debug__" : Str)) = false := by decide) (ny : y ≠ "__name__" := by decide) (dy : (y == ("__debug__" : Str)) = false := by decide)
    (h1 : starEach (a :: [.Tuple [.Name x p1, .Name y p2] n p3]) X.env = (false, eval a X.env) :: starEach [.Tuple [.Name x p1, .Name y p2] n p3] X.env := by rfl) (h2 : starEach (.Tuple [.Name x p1, .Name y p2] n p3 :: []) X.env = (false, eval (.Tuple [.Name x p1, .Name y p2] n p3) X.env) :: starEach [] X.env := by rfl)
    (h3 : starEach (.Name x p1 :: [.Name y p2]) X.env = (false, eval (.Name x p1) X.env) :: starEach [.Name y p2] X.env := by rfl) (h4 : starEach (.Name y p2 :: []) X.env = (false, eval (.Name y p2) X.env) :: starEach [] X.env := by rfl)
    (hpl : (backTo pos (starEach [.Tuple [.Name x p1, .Name y p2] n p3] X.env)).any (·.1) = false := by rfl) :
    PD X M (.Call (.Name "isinstance" p) [a, .Tuple [.Name x p1, .Name y p2] n p3] [] pos) σ H (.bool (j || k)) := .mk fun H1 e1 al Q q =>
  ⟨_, pe_callB call_isiT hg hm PyProof.Rows.boot_isinstance (pa_cons wE.pe (pa_cons (pe_tup (pa_cons (pe_bltn (v := .ty S) hgS hmS hvS rfl nx dx) (pa_cons (pe_bltn (v := .ty T) hgT hmT hvT rfl ny dy) pa_nil h4) h3)) pa_nil h2) h1) (by decide) (by decide) h1 hpl, ha.run H1 e1 al _ fun v H2 x2 r =>
    ⟨Evl.sz_of (by show 2 ≤ 100000; decide), fun t ht => ⟨v, t, [.ty S, .ty T], .type (tyD d), [.type S, .type T], j || k, rfl, upd_same, .cons (.ty S) (.cons (.ty T) .nil), (r.mono (fun _ z => z) (.of (Evl.Ex.new ht))).tyX, kitAny2 hj hk, q _ _ (x2.trans (Evl.Ex.new ht)) (.bl _)⟩⟩⟩
end
end GV

namespace GV
open PySem PySem.Spec PyProof.Rows L2
section
variable {X : Cx} {M : Addr → Prop} {σ : St} {H : Hp} {a b e : Expr} {d : PyData} {ds : List PyData} {pos : Pos}
theorem cut_all {xs : List PyData} {lo hi : Option Int} (h : HT.sIx xs.length 0 lo = 0 ∧ HT.sIx xs.length xs.length hi = xs.length) : cutD xs lo hi = xs := by
  unfold cutD
  rw [h.1, h.2, List.drop_zero, Nat.sub_zero, List.take_length]
/-- a slice of a tuple -/
theorem pd_sliceT {lo hi : Option Expr} {l u : Option Int} {p2 : Pos} (h : PD X M e σ H (.tuple ds)) (hl : OD X M lo σ H l) (hu : OD X M hi σ H u) : PD X M (.Subscript e (.Slice lo hi none p2) pos) σ H (.tuple (cutD ds l u)) := by
  obtain ⟨tl, pl, rl⟩ := hl.ex
  obtain ⟨tu, pu, ru⟩ := hu.ex
  refine .mk fun H1 e1 al Q q => ⟨_, pe_slice sl_tupA wE.pe pl pu, h.run H1 e1 al _ fun x H2 x2 r => ?_⟩
  refine rl H2 (e1.trans (.of x2)) (al.mono x2) _ fun H3 x3 => ru H3 ((e1.trans (.of x2)).trans (.of x3)) ((al.mono x2).mono x3) _ fun H4 x4 => ?_
  have r4 := r.mono (fun _ z => z) (.of (x3.trans x4))
  have x24 := x2.trans (x3.trans x4)
  cases r4 with
  | tup m hs rs =>
    refine ⟨_, _, rfl, .inl hs, fun hall => ?_, fun _ p hp => ?_⟩
    · rw [rs.length] at hall
      refine q _ H4 x24 ?_
      rw [cut_all hall]
      exact .tup m hs rs
    · exact q _ _ (x24.trans (Evl.Ex.new hp)) (.newT (X := X) (al.mono x24) hp (rs.cut l u))
/-- min(e, default=f) of a tuple of whole numbers -/
def rMinDfT (K : PySem.W.Frag) : List V → List V → Hp → VK → Prop := fun xs zs H Q => ∃ (a : Addr) (ns : List Int) (z : V), xs = [.ref a] ∧ zs = [z] ∧ SqT K H a (ns.map V.int) ∧ (ns = [] → Q z H) ∧ (∀ n r, ns = n :: r → Q (.int (r.foldl min n)) H)
theorem cr_minDfT (hc : X.calm = true) (hu : X.A.units + 2 < cLine) : CallRK X (.builtin "min") ["default"] (rMinDfT X.K) := by
  intro pins s σ H xs zs us ws Q I rx rz h
  obtain ⟨a, ns, z, rfl, rfl, hs, q0, q1⟩ := h
  obtain ⟨w, rfl, rw'⟩ := vals1 rz
  rw [Vals.ref1 rx]
  obtain ⟨its, rv, pl, _⟩ := I.tuple hs
  obtain ⟨as, hr⟩ := Dp.readsAll I _ _ its (dpAll_ints ns) rv
  refine PySem.W.min_tuple_default (I.ok.hd hc) pl hr (ints_alike ns) (by rw [ints_depth]; omega) (fun e h' tk k => ?_) (fun y ys i v h' tk bs e hv hrd k => ?_)
  · refine ⟨z, H, I.kept k, rw', q0 ?_⟩
    cases ns with
    | nil => rfl
    | cons n r => cases e
  · cases ns with
    | nil => cases e
    | cons n r =>
      cases e
      rw [PySem.W.minD_ints] at hrd
      cases hrd with
      | int i t => exact ⟨.int _, H, I.kept k, ⟨t, rfl⟩, q1 n r rfl⟩
theorem pd_minDfT {p kp : Pos} {ns : List Int} (hc : X.calm = true) (hu : X.A.units + 2 < cLine) (hg : Gl X "min") (hm : X.mg "min" = none) (ha : PD X M a σ H (.tuple (ns.map PyData.int))) (hb : PD X M b σ H d)
    (h1 : starEach (a :: []) X.env = (false, eval a X.env) :: starEach [] X.env := by rfl)
    (he : backTo pos (starEach (a :: []) X.env) = (false, eval a X.env) :: backTo pos (starEach [] X.env) := by rfl) (hpl : (backTo pos (starEach (a :: []) X.env)).any (·.1) = false := by rfl)
    (hall : (backToKw pos (keywordEach [⟨some "default", b, kp⟩] X.env)).all (·.1.isSome) = true := by rfl) (hnone : (backToKw pos (keywordEach [⟨some "default", b, kp⟩] X.env)).any (·.1.isNone) = false := by rfl)
    (hks : (backToKw pos (keywordEach [⟨some "default", b, kp⟩] X.env)).filterMap (·.1) = (["default"] : List Str) := by rfl) :
    PD X M (.Call (.Name "min" p) [a] [⟨some "default", b, kp⟩] pos) σ H (minOr d ns) := .mk fun H1 e1 al Q q =>
  ⟨_, pe_callBK (cr_minDfT hc hu) hg hm PyProof.Rows.boot_min (pa_cons wE.pe pa_nil h1) (pk_cons wE.pe pk_nil) (by decide) (by decide) he hpl hall hnone hks, ha.run H1 e1 al _ fun v H2 x2 r => hb.run H2 (e1.trans (.of x2)) (al.mono x2) _ fun w H3 x3 rw' => by
    have r3 := r.mono (fun _ z => z) (.of x3)
    cases r3 with
    | tup m hs rs =>
      refine ⟨_, ns, w, rfl, rfl, .inl (by rw [← rs.of_ints]; exact hs), fun e => q _ H3 (x2.trans x3) ?_, fun n r e => q _ H3 (x2.trans x3) ?_⟩
      · rw [e]
        exact rw'
      · rw [e]
        exact .int _⟩
end
end GV

namespace AK
open PySem PySem.Spec PyProof.Rows L2 GV
abbrev St := L2.St
def topS (i : Nat) : Stmt := PySem.Challenge.pw_millbrook_k00_house_texts.main.body.getD i (.Pass ⟨0, 0, 0, 0⟩)
abbrev s_wall : Stmt := topS 0
abbrev n_wall : List Str := ["k"]
abbrev p_wall : List Str := ["k"]
theorem sc_wall : FnScope n_wall p_wall (defScope s_wall) := ⟨rfl, rfl, rfl, by decide +kernel, rfl, by decide +kernel, by decide +kernel⟩
abbrev s_InvalidHouse_init : Stmt := inClass (topS 3) 0
abbrev n_InvalidHouse_init : List Str := ["self", "house"]
abbrev p_InvalidHouse_init : List Str := ["self", "house"]
theorem sc_InvalidHouse_init : FnScope n_InvalidHouse_init p_InvalidHouse_init (defScope s_InvalidHouse_init) := ⟨rfl, rfl, rfl, by decide +kernel, rfl, by decide +kernel, by decide +kernel⟩
abbrev s_InvalidNumber_init : Stmt := inClass (topS 4) 0
abbrev n_InvalidNumber_init : List Str := ["self", "number"]
abbrev p_InvalidNumber_init : List Str := ["self", "number"]
theorem sc_InvalidNumber_init : FnScope n_InvalidNumber_init p_InvalidNumber_init (defScope s_InvalidNumber_init) := ⟨rfl, rfl, rfl, by decide +kernel, rfl, by decide +kernel, by decide +kernel⟩
abbrev s_InvalidText_init : Stmt := inClass (topS 5) 0
abbrev n_InvalidText_init : List Str := ["self", "text"]
abbrev p_InvalidText_init : List Str := ["self", "text"]
theorem sc_InvalidText_init : FnScope n_InvalidText_init p_InvalidText_init (defScope s_InvalidText_init) := ⟨rfl, rfl, rfl, by decide +kernel, rfl, by decide +kernel, by decide +kernel⟩
abbrev s_is_integer : Stmt := topS 7
abbrev n_is_integer : List Str := ["value"]
abbrev p_is_integer : List Str := ["value"]
theorem sc_is_integer : FnScope n_is_integer p_is_integer (defScope s_is_integer) := ⟨rfl, rfl, rfl, by decide +kernel, rfl, by decide +kernel, by decide +kernel⟩
abbrev s_is_number : Stmt := topS 8
abbrev n_is_number : List Str := ["value", "low", "high"]
abbrev p_is_number : List Str := ["value", "low", "high"]
theorem sc_is_number : FnScope n_is_number p_is_number (defScope s_is_number) := ⟨rfl, rfl, rfl, by decide +kernel, rfl, by decide +kernel, by decide +kernel⟩
abbrev s_check_number : Stmt := topS 9
abbrev n_check_number : List Str := ["number", "low", "high"]
abbrev p_check_number : List Str := ["number", "low", "high"]
theorem sc_check_number : FnScope n_check_number p_check_number (defScope s_check_number) := ⟨rfl, rfl, rfl, by decide +kernel, rfl, by decide +kernel, by decide +kernel⟩
abbrev s_text_of_number : Stmt := topS 13
abbrev n_text_of_number : List Str := ["number", "sides"]
abbrev p_text_of_number : List Str := ["number"]
theorem sc_text_of_number : FnScope n_text_of_number p_text_of_number (defScope s_text_of_number) := ⟨rfl, rfl, rfl, by decide +kernel, rfl, by decide +kernel, by decide +kernel⟩
abbrev s_number_of_text : Stmt := topS 14
abbrev n_number_of_text : List Str := ["text", "before", "dash", "behind"]
abbrev p_number_of_text : List Str := ["text"]
theorem sc_number_of_text : FnScope n_number_of_text p_number_of_text (defScope s_number_of_text) := ⟨rfl, rfl, rfl, by decide +kernel, rfl, by decide +kernel, by decide +kernel⟩
abbrev s_check_house : Stmt := topS 15
abbrev n_check_house : List Str := ["house"]
abbrev p_check_house : List Str := ["house"]
theorem sc_check_house : FnScope n_check_house p_check_house (defScope s_check_house) := ⟨rfl, rfl, rfl, by decide +kernel, rfl, by decide +kernel, by decide +kernel⟩
abbrev s_House_init : Stmt := inClass (topS 16) 1
abbrev n_House_init : List Str := ["self", "text", "number"]
abbrev p_House_init : List Str := ["self", "text"]
theorem sc_House_init : FnScope n_House_init p_House_init (defScope s_House_init) := ⟨rfl, rfl, rfl, by decide +kernel, rfl, by decide +kernel, by decide +kernel⟩
abbrev s_House_by_number : Stmt := inClass (topS 16) 2
abbrev n_House_by_number : List Str := ["cls", "number"]
abbrev p_House_by_number : List Str := ["cls", "number"]
theorem sc_House_by_number : FnScope n_House_by_number p_House_by_number (defScope s_House_by_number) := ⟨rfl, rfl, rfl, by decide +kernel, rfl, by decide +kernel, by decide +kernel⟩
abbrev s_House_every : Stmt := inClass (topS 16) 3
abbrev n_House_every : List Str := ["number"]
abbrev p_House_every : List Str := []
theorem sc_House_every : FnScope n_House_every p_House_every (defScope s_House_every) := ⟨rfl, rfl, rfl, by decide +kernel, rfl, by decide +kernel, by decide +kernel⟩
abbrev s_House_named : Stmt := inClass (topS 16) 4
abbrev n_House_named : List Str := ["self", "index", "kind"]
abbrev p_House_named : List Str := ["self"]
theorem sc_House_named : FnScope n_House_named p_House_named (defScope s_House_named) := ⟨rfl, rfl, rfl, by decide +kernel, rfl, by decide +kernel, by decide +kernel⟩
abbrev s_House_names_index : Stmt := inClass (topS 16) 5
abbrev n_House_names_index : List Str := ["self", "index"]
abbrev p_House_names_index : List Str := ["self", "index"]
theorem sc_House_names_index : FnScope n_House_names_index p_House_names_index (defScope s_House_names_index) := ⟨rfl, rfl, rfl, by decide +kernel, rfl, by decide +kernel, by decide +kernel⟩
abbrev s_House_mirrored : Stmt := inClass (topS 16) 6
abbrev n_House_mirrored : List Str := ["self"]
abbrev p_House_mirrored : List Str := ["self"]
theorem sc_House_mirrored : FnScope n_House_mirrored p_House_mirrored (defScope s_House_mirrored) := ⟨rfl, rfl, rfl, by decide +kernel, rfl, by decide +kernel, by decide +kernel⟩
abbrev s_House_flipped : Stmt := inClass (topS 16) 7
abbrev n_House_flipped : List Str := ["self"]
abbrev p_House_flipped : List Str := ["self"]
theorem sc_House_flipped : FnScope n_House_flipped p_House_flipped (defScope s_House_flipped) := ⟨rfl, rfl, rfl, by decide +kernel, rfl, by decide +kernel, by decide +kernel⟩
abbrev s_House_is_finer : Stmt := inClass (topS 16) 8
abbrev n_House_is_finer : List Str := ["self", "other"]
abbrev p_House_is_finer : List Str := ["self", "other"]
theorem sc_House_is_finer : FnScope n_House_is_finer p_House_is_finer (defScope s_House_is_finer) := ⟨rfl, rfl, rfl, by decide +kernel, rfl, by decide +kernel, by decide +kernel⟩
abbrev s_House_contains : Stmt := inClass (topS 16) 9
abbrev n_House_contains : List Str := ["self", "kind"]
abbrev p_House_contains : List Str := ["self", "kind"]
theorem sc_House_contains : FnScope n_House_contains p_House_contains (defScope s_House_contains) := ⟨rfl, rfl, rfl, by decide +kernel, rfl, by decide +kernel, by decide +kernel⟩
abbrev s_House_len : Stmt := inClass (topS 16) 10
abbrev n_House_len : List Str := ["self"]
abbrev p_House_len : List Str := ["self"]
theorem sc_House_len : FnScope n_House_len p_House_len (defScope s_House_len) := ⟨rfl, rfl, rfl, by decide +kernel, rfl, by decide +kernel, by decide +kernel⟩
abbrev s_House_eq : Stmt := inClass (topS 16) 11
abbrev n_House_eq : List Str := ["self", "other"]
abbrev p_House_eq : List Str := ["self", "other"]
theorem sc_House_eq : FnScope n_House_eq p_House_eq (defScope s_House_eq) := ⟨rfl, rfl, rfl, by decide +kernel, rfl, by decide +kernel, by decide +kernel⟩
abbrev s_House_str : Stmt := inClass (topS 16) 12
abbrev n_House_str : List Str := ["self"]
abbrev p_House_str : List Str := ["self"]
theorem sc_House_str : FnScope n_House_str p_House_str (defScope s_House_str) := ⟨rfl, rfl, rfl, by decide +kernel, rfl, by decide +kernel, by decide +kernel⟩
abbrev s_House_repr : Stmt := inClass (topS 16) 13
abbrev n_House_repr : List Str := ["self"]
abbrev p_House_repr : List Str := ["self"]
theorem sc_House_repr : FnScope n_House_repr p_House_repr (defScope s_House_repr) := ⟨rfl, rfl, rfl, by decide +kernel, rfl, by decide +kernel, by decide +kernel⟩
abbrev s_House_or : Stmt := inClass (topS 16) 14
abbrev n_House_or : List Str := ["self", "other"]
abbrev p_House_or : List Str := ["self", "other"]
theorem sc_House_or : FnScope n_House_or p_House_or (defScope s_House_or) := ⟨rfl, rfl, rfl, by decide +kernel, rfl, by decide +kernel, by decide +kernel⟩
abbrev s_House_and : Stmt := inClass (topS 16) 15
abbrev n_House_and : List Str := ["self", "other"]
abbrev p_House_and : List Str := ["self", "other"]
theorem sc_House_and : FnScope n_House_and p_House_and (defScope s_House_and) := ⟨rfl, rfl, rfl, by decide +kernel, rfl, by decide +kernel, by decide +kernel⟩
abbrev s_law_box : Stmt := topS 18
abbrev n_law_box : List Str := ["script", "k", "cell", "rest"]
abbrev p_law_box : List Str := ["script", "k"]
theorem sc_law_box : FnScope n_law_box p_law_box (defScope s_law_box) := ⟨rfl, rfl, rfl, by decide +kernel, rfl, by decide +kernel, by decide +kernel⟩
abbrev s_law_take : Stmt := topS 19
abbrev n_law_take : List Str := ["box", "many", "digit", "first", "second"]
abbrev p_law_take : List Str := ["box", "many"]
theorem sc_law_take : FnScope n_law_take p_law_take (defScope s_law_take) := ⟨rfl, rfl, rfl, by decide +kernel, rfl, by decide +kernel, by decide +kernel⟩
abbrev s_law_is_int : Stmt := topS 20
abbrev n_law_is_int : List Str := ["value", "due"]
abbrev p_law_is_int : List Str := ["value", "due"]
theorem sc_law_is_int : FnScope n_law_is_int p_law_is_int (defScope s_law_is_int) := ⟨rfl, rfl, rfl, by decide +kernel, rfl, by decide +kernel, by decide +kernel⟩
abbrev s_law_is_truth : Stmt := topS 21
abbrev n_law_is_truth : List Str := ["value", "due"]
abbrev p_law_is_truth : List Str := ["value", "due"]
theorem sc_law_is_truth : FnScope n_law_is_truth p_law_is_truth (defScope s_law_is_truth) := ⟨rfl, rfl, rfl, by decide +kernel, rfl, by decide +kernel, by decide +kernel⟩
abbrev s_law_kinds : Stmt := topS 22
abbrev n_law_kinds : List Str := ["number", "order", "at"]
abbrev p_law_kinds : List Str := ["number"]
theorem sc_law_kinds : FnScope n_law_kinds p_law_kinds (defScope s_law_kinds) := ⟨rfl, rfl, rfl, by decide +kernel, rfl, by decide +kernel, by decide +kernel⟩
abbrev s_law_text : Stmt := topS 23
abbrev n_law_text : List Str := ["kinds", "front", "behind", "kind"]
abbrev p_law_text : List Str := ["kinds"]
theorem sc_law_text : FnScope n_law_text p_law_text (defScope s_law_text) := ⟨rfl, rfl, rfl, by decide +kernel, rfl, by decide +kernel, by decide +kernel⟩
abbrev s_law_is_named : Stmt := topS 24
abbrev n_law_is_named : List Str := ["house", "kinds", "turn", "told"]
abbrev p_law_is_named : List Str := ["house", "kinds"]
theorem sc_law_is_named : FnScope n_law_is_named p_law_is_named (defScope s_law_is_named) := ⟨rfl, rfl, rfl, by decide +kernel, rfl, by decide +kernel, by decide +kernel⟩
abbrev s_law_is_house : Stmt := topS 25
abbrev n_law_is_house : List Str := ["house", "kinds", "number", "text", "kind"]
abbrev p_law_is_house : List Str := ["house", "kinds"]
theorem sc_law_is_house : FnScope n_law_is_house p_law_is_house (defScope s_law_is_house) := ⟨rfl, rfl, rfl, by decide +kernel, rfl, by decide +kernel, by decide +kernel⟩
abbrev s_law_is_in : Stmt := topS 26
abbrev n_law_is_in : List Str := ["house", "kinds", "kind", "odd", "value"]
abbrev p_law_is_in : List Str := ["house", "kinds"]
theorem sc_law_is_in : FnScope n_law_is_in p_law_is_in (defScope s_law_is_in) := ⟨rfl, rfl, rfl, by decide +kernel, rfl, by decide +kernel, by decide +kernel⟩
abbrev s_law_is_equal : Stmt := topS 27
abbrev n_law_is_equal : List Str := ["house", "kinds", "other", "theirs", "same", "value"]
abbrev p_law_is_equal : List Str := ["house", "kinds", "other", "theirs"]
theorem sc_law_is_equal : FnScope n_law_is_equal p_law_is_equal (defScope s_law_is_equal) := ⟨rfl, rfl, rfl, by decide +kernel, rfl, by decide +kernel, by decide +kernel⟩
abbrev s_law_made : Stmt := topS 28
abbrev n_law_made : List Str := ["text", "house", "e", "plain"]
abbrev p_law_made : List Str := ["text"]
theorem sc_law_made : FnScope n_law_made p_law_made (defScope s_law_made) := ⟨rfl, rfl, rfl, by decide +kernel, rfl, by decide +kernel, by decide +kernel⟩
abbrev s_law_by_base : Stmt := topS 29
abbrev n_law_by_base : List Str := ["text", "house", "e"]
abbrev p_law_by_base : List Str := ["text"]
theorem sc_law_by_base : FnScope n_law_by_base p_law_by_base (defScope s_law_by_base) := ⟨rfl, rfl, rfl, by decide +kernel, rfl, by decide +kernel, by decide +kernel⟩
abbrev s_law_is_made : Stmt := topS 30
abbrev n_law_is_made : List Str := ["text", "texts", "got"]
abbrev p_law_is_made : List Str := ["text", "texts"]
theorem sc_law_is_made : FnScope n_law_is_made p_law_is_made (defScope s_law_is_made) := ⟨rfl, rfl, rfl, by decide +kernel, rfl, by decide +kernel, by decide +kernel⟩
abbrev s_law_numbered : Stmt := topS 31
abbrev n_law_numbered : List Str := ["number", "house", "e", "plain"]
abbrev p_law_numbered : List Str := ["number"]
theorem sc_law_numbered : FnScope n_law_numbered p_law_numbered (defScope s_law_numbered) := ⟨rfl, rfl, rfl, by decide +kernel, rfl, by decide +kernel, by decide +kernel⟩
abbrev s_law_is_numbered : Stmt := topS 32
abbrev n_law_is_numbered : List Str := ["number", "got"]
abbrev p_law_is_numbered : List Str := ["number"]
theorem sc_law_is_numbered : FnScope n_law_is_numbered p_law_is_numbered (defScope s_law_is_numbered) := ⟨rfl, rfl, rfl, by decide +kernel, rfl, by decide +kernel, by decide +kernel⟩
abbrev s_law_is_every : Stmt := topS 33
abbrev n_law_is_every : List Str := ["texts", "turn", "told", "at", "house", "order"]
abbrev p_law_is_every : List Str := ["texts"]
theorem sc_law_is_every : FnScope n_law_is_every p_law_is_every (defScope s_law_is_every) := ⟨rfl, rfl, rfl, by decide +kernel, rfl, by decide +kernel, by decide +kernel⟩
abbrev s_law_sign : Stmt := topS 34
abbrev n_law_sign : List Str := ["box"]
abbrev p_law_sign : List Str := ["box"]
theorem sc_law_sign : FnScope n_law_sign p_law_sign (defScope s_law_sign) := ⟨rfl, rfl, rfl, by decide +kernel, rfl, by decide +kernel, by decide +kernel⟩
abbrev s_law_bent : Stmt := topS 35
abbrev n_law_bent : List Str := ["box", "text", "way", "at", "sign", "word", "k"]
abbrev p_law_bent : List Str := ["box", "text"]
theorem sc_law_bent : FnScope n_law_bent p_law_bent (defScope s_law_bent) := ⟨rfl, rfl, rfl, by decide +kernel, rfl, by decide +kernel, by decide +kernel⟩
abbrev s_law_odd_text : Stmt := topS 36
abbrev n_law_odd_text : List Str := ["at", "odd"]
abbrev p_law_odd_text : List Str := ["at"]
theorem sc_law_odd_text : FnScope n_law_odd_text p_law_odd_text (defScope s_law_odd_text) := ⟨rfl, rfl, rfl, by decide +kernel, rfl, by decide +kernel, by decide +kernel⟩
abbrev s_law_odd_number : Stmt := topS 37
abbrev n_law_odd_number : List Str := ["at"]
abbrev p_law_odd_number : List Str := ["at"]
theorem sc_law_odd_number : FnScope n_law_odd_number p_law_odd_number (defScope s_law_odd_number) := ⟨rfl, rfl, rfl, by decide +kernel, rfl, by decide +kernel, by decide +kernel⟩
abbrev s_law_is_world : Stmt := topS 38
abbrev n_law_is_world : List Str := ["box", "texts", "number", "second", "house", "other"]
abbrev p_law_is_world : List Str := ["box", "texts"]
theorem sc_law_is_world : FnScope n_law_is_world p_law_is_world (defScope s_law_is_world) := ⟨rfl, rfl, rfl, by decide +kernel, rfl, by decide +kernel, by decide +kernel⟩
abbrev s_law : Stmt := topS 39
abbrev n_law : List Str := ["script", "texts", "k", "number"]
abbrev p_law : List Str := ["script"]
theorem sc_law : FnScope n_law p_law (defScope s_law) := ⟨rfl, rfl, rfl, by decide +kernel, rfl, by decide +kernel, by decide +kernel⟩
end AK

namespace AK
open PySem PySem.Spec PyProof.Rows L2 GV
section
variable {P : Program} {w : World} {K : PySem.W.Frag} {mg : Str → Option Value} {base : Heap}

/-! ### whole numbers -/
def isIntD : PyData → Bool
  | .int _ => true
  | _ => false
def isBoolD : PyData → Bool
  | .bool _ => true
  | _ => false
theorem kit_int (d : PyData) : kitB (tyD d) "int" = some (isIntD d || isBoolD d) := by
  cases d with
  | none => exact (by decide +kernel : kitB "NoneType" "int" = some false)
  | bool _ => exact (by decide +kernel : kitB "bool" "int" = some true)
  | int _ => exact (by decide +kernel : kitB "int" "int" = some true)
  | str _ => exact (by decide +kernel : kitB "str" "int" = some false)
  | list _ => exact (by decide +kernel : kitB "list" "int" = some false)
  | tuple _ => exact (by decide +kernel : kitB "tuple" "int" = some false)
  | dict _ => exact (by decide +kernel : kitB "dict" "int" = some false)
theorem kit_bool (d : PyData) : kitB (tyD d) "bool" = some (isBoolD d) := by
  cases d with
  | none => exact (by decide +kernel : kitB "NoneType" "bool" = some false)
  | bool _ => exact (by decide +kernel : kitB "bool" "bool" = some true)
  | int _ => exact (by decide +kernel : kitB "int" "bool" = some false)
  | str _ => exact (by decide +kernel : kitB "str" "bool" = some false)
  | list _ => exact (by decide +kernel : kitB "list" "bool" = some false)
  | tuple _ => exact (by decide +kernel : kitB "tuple" "bool" = some false)
  | dict _ => exact (by decide +kernel : kitB "dict" "bool" = some false)
theorem rpa3 {K : PySem.W.Frag} {M : Addr → Prop} {H : Hp} {vs : List V} {a b c : PyData} (r : RpAll K M H vs [a, b, c]) : ∃ u v w, vs = [u, v, w] ∧ Rp K M H u a ∧ Rp K M H v b ∧ Rp K M H w c := by
  obtain ⟨⟩ | ⟨r1, r⟩ := r
  obtain ⟨v, w, rfl, r2, r3⟩ := rpa2 r
  exact ⟨_, _, _, rfl, r1, r2, r3⟩
/-! ### couples -/
end
end AK

namespace GV
open PySem PySem.Spec PyProof.Rows L2
open Sem (wp)
open AutoSeq1 (wpAny_loadPart')
/-! ### enumerate(a tuple) -/
theorem meets_enumT (l : Addr) (items : Array Value) : Meets (Builtin.«enumerate.__new__» ⟨[.type "enumerate", .ref l], []⟩) (fun _ R s => s.heap.IsTuple l items ∧
      R (.ok (.ret (.ref (s.heap.push { cls := .type "tuple_iterator", data := .fields #[.ref l, .int 0 0] }).objs.size)))
        { s with heap := (s.heap.push { cls := .type "tuple_iterator", data := .fields #[.ref l, .int 0 0] }).push { cls := .type "enumerate", data := .fields #[.none, .bool false, .ref s.heap.objs.size, rawInt 0, .none, .none] } }) :=
  .of_wp fun prog w A R s h => by
    obtain ⟨hp, g, d, tk, os⟩ := s; obtain ⟨hl, h⟩ := h
    have hsub := sub_enumerate
    have q1 : ∀ {A' : Around} {E : Value → Shared → Prop} {Q : Value → Shared → Prop}, Q (.ref hp.objs.size) ⟨hp.push { cls := .type "tuple_iterator", data := .fields #[.ref l, .int 0 0] }, g, d, tk, os⟩ → wpAny (model prog w) A' (pyIter (.ref l)) Q E ⟨hp, g, d, tk, os⟩ :=
      fun q => wpAny_pyIter_tuple hl q
    wp_walk using q1
    refine wpAny_stack_any fun st => wpAny_pure ?_
    split
    · rename_i c _ _ _ _ _
      cases (c == Value.type "enumerate")
      · wp_walk using q1
        exact ⟨_, rfl, h⟩
      · wp_walk using q1
        exact ⟨_, rfl, h⟩
    · wp_walk using q1
      exact ⟨_, rfl, h⟩
theorem call_enumT {prog : Program} {w : World} {A : Around} {E : Value → Shared → Prop} {s : Shared} {l : Addr} {items : Array Value} {Q : Value → Shared → Prop} (hL : s.heap.IsTuple l items)
    (h : ∀ h', IsEnum h' (s.heap.objs.size + 1) s.heap.objs.size 0 .none → h'.IsTupleIter s.heap.objs.size l 0 → h'.objs.size = s.heap.objs.size + 2 →
      (∀ b o, s.heap.get? b = some o → h'.get? b = some o) → Q (.ref (s.heap.objs.size + 1)) { s with heap := h' }) :
    wpAny (model prog w) A (call (.type "enumerate") [.ref l]) Q E s := by
  refine callType_new F.called_enumerate (by decide) (F.typeCall_enumerate_1 _) (F.newCall_enumerate_1 _) (fun obj => F.args_object_init_2 obj _) F.entry_enumerate_new (meets_enumT l items) ⟨hL, ?_⟩
  have hz : (s.heap.push { cls := .type "tuple_iterator", data := .fields #[.ref l, .int 0 0] }).objs.size = s.heap.objs.size + 1 := Heap.size_push ..
  show _ ∧ _
  rw [hz]
  have he : IsEnum ((s.heap.push { cls := .type "tuple_iterator", data := .fields #[.ref l, .int 0 0] }).push { cls := .type "enumerate", data := .fields #[.none, .bool false, .ref s.heap.objs.size, rawInt 0, .none, .none] }) (s.heap.objs.size + 1) s.heap.objs.size 0 .none := by
    have := Heap.get?_push_size (s.heap.push { cls := .type "tuple_iterator", data := .fields #[.ref l, .int 0 0] }) (o := { cls := .type "enumerate", data := .fields #[.none, .bool false, .ref s.heap.objs.size, rawInt 0, .none, .none] }) rfl
    rw [hz] at this; exact this
  exact ⟨⟨_, he, rfl⟩, h _ he ⟨_, Heap.get?_push_of_some _ (Heap.get?_push_size _ rfl), rfl, rfl⟩ (by rw [Heap.size_push, hz]) fun b o x => Heap.get?_push_of_some _ (Heap.get?_push_of_some _ x)⟩
def IteT (K : PySem.W.Frag) (a : Addr) : It :=
  ⟨fun i H => ∃ (xs : List V) (x : V), SqT K H a xs ∧ xs[i]? = some x, fun i H v H' => ∃ T x, v = .ref T ∧ H T = none ∧ H' = upd H T (.tup [.int (i : Nat), x]) ∧ ∀ xs, SqT K H a xs → xs[i]? = some x, fun i H => ∃ xs : List V, SqT K H a xs ∧ xs.length ≤ i⟩
theorem turn_enumT {P : Program} {w : World} {K : PySem.W.Frag} {elts : List Expr} {kk : Nat} {tpos : Pos} (a e it : Addr) :
    Turn P w K (.Tuple elts kk tpos) (IteT K a) [e, it] e (fun i h => (∃ old, IsEnum h e it ((i : Nat) : Int) old) ∧ h.IsTupleIter it a i ∧ e ≠ it ∧ a ≠ e ∧ a ≠ it) where
  mem := by simp
  obj := fun i h st b hb => by
    obtain ⟨⟨old, he⟩, ⟨o, ho, hc, hd⟩, _⟩ := st
    have e' : b = e ∨ b = it := by simpa using hb
    rcases e' with z | z
    · rw [z]; exact ⟨_, he, fun v q => nomatch q⟩
    · rw [z]; exact ⟨o, ho, fun v q => by rw [hd] at q; cases q⟩
  keep := fun i h h' st k => let ⟨⟨old, he⟩, hi, hne⟩ := st; ⟨⟨old, k e (by simp) _ he⟩, hi.at fun o q => k it (by simp) o q, hne⟩
  item := by
    intro X hP hw hK hc i pins s σ H E I hf st hg
    subst hP hw hK
    obtain ⟨⟨old, he⟩, hit, hne, hae, hai⟩ := st
    obtain ⟨xs, x, hq, hx⟩ := hg
    obtain ⟨its, rv, p, hz⟩ := I.tuple hq
    obtain ⟨u, hu, ru⟩ := rv.get hx
    have hel : e < s.heap.objs.size := Heap.lt_size he
    have hil : it < s.heap.objs.size := by obtain ⟨_, q, _⟩ := hit; exact Heap.lt_size q
    have hlt : i < its.toArray.size := by
      rw [List.size_toArray]
      exact (List.getElem?_eq_some_iff.mp hu).1
    refine wpAny_pyNext_enum_itemC (Draws.tuple (A := X.A.in1) (show X.A.in1.handled = none from I.ok.hd hc) it a hai its.toArray) he ⟨hit, p⟩ hlt hne (by simp [hne, Ne.symm hae]) fun x' h' tk hP ho hit' hT hsz hk => ?_
    obtain rfl : u = x' := by
      have e1 : its[i]? = some x' := by simpa using hP
      rw [hu] at e1
      exact Option.some.inj e1
    obtain ⟨hit', _⟩ := hit'
    refine ⟨_, rfl, wpAny_letOwnedTupleGo_enum (s := { s with heap := h', toks := tk + 1 }) ho fun h'' he' sb => ?_⟩
    have hT2 : h''.get? s.heap.objs.size = some { cls := .type "tuple", data := .seq #[.int i tk, u] } := (sb.2 _ (Nat.ne_of_gt hel)).trans hT
    have new : ObjOk X.prog X.w (upd H s.heap.objs.size (.tup [.int (i : Nat), x])) h'' s.heap.objs.size (.tup [.int (i : Nat), x]) :=
      ⟨by show 2 ≤ sizeLine; decide, [.int i tk, u], .cons ⟨_, rfl⟩ (.cons ru .nil), ⟨_, hT2, rfl, _, rfl⟩⟩
    have I1 : Inv X pins σ (upd H s.heap.objs.size (.tup [.int (i : Nat), x])) { s with heap := h'', toks := tk + 1 } :=
      I.turnedNew (ch := [e, it]) (fun b ob hb q => (sb.2 b (fun z => hb (by simp [z]))).trans (hk b ob (fun z => hb (by simp [z])) (fun z => hb (by simp [z])) q)) hf (Nat.le_refl _) new
    refine ⟨.ref s.heap.objs.size, _, I1, rfl, ⟨_, x, rfl, I.hok.fresh (Nat.le_refl _), rfl, fun ys hy => by rw [I.tuple_inj hy hq]; exact hx⟩, ⟨⟨u, ?_⟩, hit'.at fun o q => (sb.2 it (Ne.symm hne)).trans q, hne, hae, hai⟩, fun b hb => ?_⟩
    · have e1 : ((i + 1 : Nat) : Int) = (i : Int) + 1 := by omega
      rw [e1]; exact he'
    · have hb' : b < s.heap.objs.size := by
        have e' : b = e ∨ b = it := by simpa using hb
        rcases e' with z | z
        · rw [z]; exact hel
        · rw [z]; exact hil
      rw [upd_ne (Nat.ne_of_lt hb')]
      exact (hf b hb).1
  done := by
    intro X hP hw hK hc i pins s σ H E I hf st hg
    subst hP hw hK
    obtain ⟨⟨old, he⟩, hit, hne, hae, hai⟩ := st
    obtain ⟨xs, hq, hx⟩ := hg
    obtain ⟨its, rv, p, hz⟩ := I.tuple hq
    obtain ⟨f0, f1, f2, f3, f4, f5⟩ := hf it (by simp)
    have hl := rv.length
    obtain ⟨hp, g, d, tk, os⟩ := s
    have hT : (⟨hp, g, d, tk, os⟩ : Shared).TypeIs (.ref e) "enumerate" := ⟨_, he, rfl⟩
    unfold pyNext
    refine wpAny_bind (wpAny_attempt (wpAny_callSpecial?_slot (name := Str.ofString "__next__") hT F.slot_enumerate_next
      (wpAny_call_entry F.slot_enumerate_next hT F.entry_enumerate_next ?_ (F.args_enumerate_next_1 _))))
    show wpAny _ _ (field (.ref e) 2 >>= _) _ _ _
    refine wpAny_bind (wpAny_field he rfl (x := .ref it) rfl ?_)
    refine wpAny_bind (wpAny_nextOf_tuple_end (I.ok.hd hc) hit p (by simp; omega) fun h' x he' hx' => ?_)
    obtain ⟨o, ho, hc'⟩ := hx'
    refine wpAny_bind (wpAny_isInstance (T := "StopIteration") (b := true) ⟨o, ho, hc'⟩ isSubtype_stop ?_)
    exact wpAny_pure ⟨rfl, I.turned (t' := tk) (fun b o hb q => he' b o hb q) f0 f1 f3 f4 f5⟩
  self := fun A i s Q E st h => let ⟨⟨_, he⟩, _⟩ := st; wpAny_pyIter_enum he h
def iEnumT (K : PySem.W.Frag) (ta : TA) : TI := fun σ H R => ta σ H fun vs H1 => ∃ a xs, vs = [.ref a] ∧ SqT K H1 a xs ∧ R (IteT K a) H1
theorem pi_enumT {X : Cx} {e : Expr} {ta : TA} {p pos tpos : Pos} {elts : List Expr} {kk : Nat} (hg : Gl X "enumerate") (hm : X.mg "enumerate" = none) (ha : PA X [e] ta) (hs : starEach [e] X.env = [(false, eval e X.env)] := by rfl) :
    PI X (.Tuple elts kk tpos) (.Call (.Name "enumerate" p) [e] [] pos) (iEnumT X.K ta) := by
  refine ⟨fun pins s σ H R I h => ?_⟩
  refine Call_ (ld_blt I hg hm boot_enumerate (PyProof.Rows.callWith_type1 (thn (ha.run pos pins s σ H _ I h) fun us s1 ⟨vs, H1, I1, r1, q1⟩ => ?_) hs rfl))
  obtain ⟨a, xs, ex, hq, q⟩ := q1
  subst ex
  cases r1 with
  | cons r rr =>
    cases rr
    cases r
    obtain ⟨its, rv, p', hz⟩ := I1.tuple hq
    refine call_enumT p' fun h' he hit hsz hk => wpAny_pyIter_enum he ?_
    have I2 : Inv X pins σ H1 { s1 with heap := h' } := I1.kept (t' := s1.toks) hk
    have hal : a < s1.heap.objs.size := by obtain ⟨_, q, _⟩ := p'; exact Heap.lt_size q
    refine ⟨s1.heap.objs.size + 1, [s1.heap.objs.size + 1, s1.heap.objs.size], _, _, H1, rfl, I2, turn_enumT a (s1.heap.objs.size + 1) s1.heap.objs.size, ⟨⟨.none, he⟩, hit, Nat.succ_ne_self _, Nat.ne_of_lt (Nat.lt_succ_of_lt hal), Nat.ne_of_lt hal⟩, fun b hb => ?_, q⟩
    have e' : b = s1.heap.objs.size + 1 ∨ b = s1.heap.objs.size := by simpa using hb
    have hle : s1.heap.objs.size ≤ b := by
      rcases e' with z | z
      · rw [z]; exact Nat.le_add_right _ _
      · rw [z]; exact Nat.le_refl _
    exact I1.fpOk hle (I1.hok.fresh hle)
section
variable {X : Cx} {K : PySem.W.Frag} {M : Addr → Prop} {σ : St} {H : Hp} {e : Expr} {ds : List PyData} {pos : Pos}
theorem wk_enumT {a : Addr} {xs : List V} (m : ¬ M a) (h : Rd H a (.tup xs)) (r : RpAll K M H xs ds) : Wk K M (IteT K a) H (enumD ds) := by
  have nm : ∀ M' : Addr → Prop, (∀ a, M' a → M a ∨ H a = none) → ¬ M' a := fun M' hm z => (hm a z).elim m (Rd.there h)
  have at_ : ∀ (M' : Addr → Prop) (H' : Hp), (∀ a, M' a → M a ∨ H a = none) → ExM M' H H' → Rd H' a (.tup xs) := fun M' H' hm e => Rd.exT (M := M') h (nm M' hm) e
  refine ⟨fun M' i H' hm e hi => ?_, fun M' H' hm e => ?_, fun M' i H' x H'' hm e al y => ?_⟩
  · have hx : i < xs.length := by rw [r.length, ← enumD_length]; exact hi
    exact ⟨xs, xs[i], .inl (at_ M' H' hm e), List.getElem?_eq_getElem hx⟩
  · exact ⟨xs, .inl (at_ M' H' hm e), by rw [r.length, enumD_length]; exact Nat.le_refl _⟩
  · obtain ⟨T, z, rfl, hT, rfl, y⟩ := y
    refine ⟨Evl.Ex.new hT, fun d hd => ?_⟩
    obtain ⟨e', he, rfl⟩ := enumD_get hd
    obtain ⟨v, hv, rv⟩ := r.get he
    have q := y xs (.inl (at_ M' _ hm e))
    rw [hv] at q
    cases q
    exact .tup (al.fresh hT) (.inl upd_same) (.cons (.int _) (.cons (((rv.wide hm).mono (fun _ z => z) e).mono (fun _ z => z) (.of (Evl.Ex.new hT))) .nil))
theorem src_enumT {p tpos : Pos} {elts : List Expr} {kk : Nat} (hg : Gl X "enumerate") (hm : X.mg "enumerate" = none) (h : PD X M e σ H (.tuple ds)) (hs : starEach [e] X.env = [(false, eval e X.env)] := by rfl)
    (hs' : starEach (e :: []) X.env = (false, eval e X.env) :: starEach [] X.env := by rfl) : Src X M (.Tuple elts kk tpos) (.Call (.Name "enumerate" p) [e] [] pos) σ H (enumD ds) :=
  ⟨_, pi_enumT hg hm wA.pa hs, fun H1 e1 al R q => (ad_cons h ad_nil hs').run H1 e1 al _ fun vs H2 x2 rs => by
    obtain ⟨v, rfl, r⟩ := rpa1 rs
    cases r with
    | tup m hr rr => exact ⟨_, _, rfl, .inl hr, q _ H2 x2 (wk_enumT m hr rr)⟩⟩
end
end GV

namespace GV
open PySem PySem.Spec PyProof.Rows L2
section
variable {X : Cx} {M : Addr → Prop} {σ : St} {H H' : Hp} {a b c e o i : Expr} {da db d : PyData} {pos : Pos} {es : List Expr} {ds : List PyData} {D : Ends}
/-- o.insert(i, e) -/
theorem ce_insert {apos cpos : Pos} {Q : VK} (h : wE X o σ H fun x H1 => ∃ l, x = .ref l ∧ (∃ ys, H1 l = some (.lst ys)) ∧ wE X i σ H1 fun n H2 => wE X e σ H2 fun y H3 => ∃ ys k, H3 l = some (.lst ys) ∧ n = .int (k : Nat) ∧ k ≤ 100000 ∧ ys.length < 100000 ∧ Q .non (upd H3 l (.lst (ys.take k ++ [y] ++ ys.drop k))))
    (h1 : attributeBase o ("insert" : Str) X.env (eval o X.env) = eval o X.env := by rfl)
    (h2 : ((((backTo cpos (starEach [i, e] X.env)).all fun x => !x.1) && (backToKw cpos (keywordEach [] X.env)).all fun x => x.1.isSome) && decide (([i, e].length + ([] : List Keyword).length + if ([] : List Keyword).isEmpty = true then 0 else 1) < 30)) = true := by rfl)
    (h3 : (apos.endLine == cpos.line) = true := by rfl) (h4 : starEach (i :: [e]) X.env = (false, eval i X.env) :: starEach [e] X.env := by rfl) (h6 : starEach (e :: []) X.env = (false, eval e X.env) :: starEach [] X.env := by rfl) (h5 : (backTo cpos (starEach [e] X.env)).any (·.1) = false := by rfl) :
    wE X (.Call (.Attribute o "insert" apos) [i, e] [] cpos) σ H Q := by
  refine ⟨_, pe_bm PySem.F.plainAttrs_list PySem.F.slot_list_insert PySem.F.type_list_insert mt_insert (wE.pe) (pa_cons wE.pe (pa_cons wE.pe pa_nil h6) h4) h1 h2 h3 h4 h5, ?_⟩
  refine wE.weak h ?_
  rintro x H1 ⟨l, rfl, ⟨ys0, hl⟩, hh⟩
  refine ⟨.inl ⟨rfl, _, SqL.of hl⟩, ?_⟩
  refine wE.weak hh ?_
  intro n H2 hh2
  refine wE.weak hh2 ?_
  rintro y H3 ⟨ys, k, hy, rfl, hk, hlen, q⟩
  refine ⟨l, ys, (k : Nat), y, rfl, rfl, hy, Nat.lt_of_lt_of_le hlen (by rw [sizeLine_eq]; decide), by omega, by omega, ?_⟩
  rw [show ((k : Nat) : Int).toNat = k by omega]
  exact q
/-- [..] * k -/
theorem ce_rep {Q : VK} (h : wE X a σ H fun x H2 => wE X b σ H2 fun y H3 => ∃ l xs k, x = .ref l ∧ y = .int (k : Nat) ∧ H3 l = some (.lst xs) ∧ xs.length * k ≤ 100000 ∧ k ≤ 100000 ∧ ∀ p, H3 p = none → Q (.ref p) (upd H3 p (.lst (List.replicate k xs).flatten))) : wE X (.BinOp a .Mult b pos) σ H Q := by
  refine ce_bin op_rep (wE.weak h fun x H2 h2 => wE.weak h2 ?_)
  rintro y H3 ⟨l, xs, k, rfl, rfl, hl, h1, h2, q⟩
  refine ⟨l, (k : Nat), xs, rfl, rfl, hl, by omega, by omega, ?_, ?_⟩
  · rw [show ((k : Nat) : Int).toNat = k by omega]
    exact Evl.sz_of h1
  · rw [show ((k : Nat) : Int).toNat = k by omega]
    exact q
theorem replicate_flat {α : Type} (k : Nat) (x : α) : (List.replicate k [x]).flatten = List.replicate k x := by
  induction k with
  | zero => rfl
  | succ k ih => rw [List.replicate_succ, List.flatten_cons, ih]; rfl
/-- list(range(n)) -/
theorem fd_listRange {p p2 p3 : Pos} {n : Int} (hc : X.calm = true) (hg : Gl X "list") (hm : X.mg "list" = none) (hg2 : Gl X "range") (hm2 : X.mg "range" = none) (h : PD X M e σ H (.int n)) (h0 : 0 ≤ n) (h1 : n ≤ 100000)
    (na : starEach [e] X.env = (false, eval e X.env) :: starEach [] X.env := by rfl) (nb : starEach [.Call (.Name "range" p2) [e] [] p3] X.env = (false, eval (.Call (.Name "range" p2) [e] [] p3) X.env) :: starEach [] X.env := by rfl) :
    FD X M (.Call (.Name "list" p) [.Call (.Name "range" p2) [e] [] p3] [] pos) σ H (((List.range n.toNat).map Int.ofNat).map PyData.int) := .mk fun H1 e1 al Q q =>
  ⟨_, pe_listRg hc hg hm (prg_1 hg2 hm2 wE.pe na) nb, h.run H1 e1 al _ fun v H2 x2 r => by
    cases r
    refine ⟨n, rfl, RgOk.of_le (by omega) (by omega) (by omega) h0, fun l hl => q l _ _ (Evl.fresh_back x2 hl) (x2.trans (Evl.Ex.new hl)) upd_same ?_⟩
    have e2 : rgV 0 n = ((List.range n.toNat).map Int.ofNat).map V.int := by
      unfold rgV
      rw [List.map_map, Int.sub_zero]
      exact List.map_congr_left fun i _ => by
        show V.int (0 + (i : Nat)) = V.int (i : Nat)
        rw [Int.zero_add]
    rw [e2]
    exact RpAll.ints _⟩
/-! ### dicts, as far as they are looked at -/
theorem ce_dict0 {Q : VK} (h : ∀ p, H p = none → Q (.ref p) (upd H p (.dK []))) : wE X (.Dict [] [] pos) σ H Q := ⟨_, pe_dnewK, h⟩
/-- {1: 2} -/
theorem ce_dict1 {i j : Int} {t t2} {p1 p2 : Pos} {Q : VK} (h : ∀ p, H p = none → Q (.ref p) (upd H p (.dK [(.inl i, .int j)]))) : wE X (.Dict [some (.Constant (.int i) t p1)] [.Constant (.int j) t2 p2] pos) σ H Q := by
  refine ⟨_, pe_disp (pps_cons pe_int pe_int pps_nil) rfl rfl (by simp) (by show 1 ≤ 15; decide), fun p hp => ?_⟩
  refine ⟨upd_same, [(.inl i, .int j)], rfl, by show 1 ≤ 15; decide, ?_⟩
  have e : upd (upd H p (.dK [])) p (.dK (mergeK [] [(Sum.inl i, V.int j)])) = upd H p (.dK [(.inl i, .int j)]) := by
    funext x
    by_cases hx : x = p
    · subst hx
      rw [upd_same, upd_same]
      rfl
    · rw [upd_ne hx, upd_ne hx, upd_ne hx]
  rw [e]
  exact h p hp
/-- isinstance(a, (S, T)) of a dict -/
theorem pd_isi2D {S T : String} {x y : Str} {p p1 p2 p3 : Pos} {n : Nat} {j k : Bool} {A : Addr} {kvs : List (Key × V)} (hg : Gl X "isinstance") (hm : X.mg "isinstance" = none) (hgS : Gl X x) (hmS : X.mg x = none) (hvS : bootBuiltins x = some (.type S)) (hgT : Gl X y) (hmT : X.mg y = none) (hvT : bootBuiltins y = some (.type T)) (ha : ∀ H1 (Q : VK), Q (.ref A) H1 → wE X a σ H1 Q) (hA : H A = some (.dK kvs)) (nM : ¬ M A) (hj : kitB "dict" S = some j) (hk : kitB "dict" T = some k)
    (nx : x ≠ "__name__" := by decide) (dx : (x == ("__debug__" : Str)) = false := by decide) (ny : y ≠ "__name__" := by decide) (dy : (y == ("__debug__" : Str)) = false := by decide)
    (h1 : starEach (a :: [.Tuple [.Name x p1, .Name y p2] n p3]) X.env = (false, eval a X.env) :: starEach [.Tuple [.Name x p1, .Name y p2] n p3] X.env := by rfl) (h2 : starEach (.Tuple [.Name x p1, .Name y p2] n p3 :: []) X.env = (false, eval (.Tuple [.Name x p1, .Name y p2] n p3) X.env) :: starEach [] X.env := by rfl)
    (h3 : starEach (.Name x p1 :: [.Name y p2]) X.env = (false, eval (.Name x p1) X.env) :: starEach [.Name y p2] X.env := by rfl) (h4 : starEach (.Name y p2 :: []) X.env = (false, eval (.Name y p2) X.env) :: starEach [] X.env := by rfl)
    (hpl : (backTo pos (starEach [.Tuple [.Name x p1, .Name y p2] n p3] X.env)).any (·.1) = false := by rfl) :
    PD X M (.Call (.Name "isinstance" p) [a, .Tuple [.Name x p1, .Name y p2] n p3] [] pos) σ H (.bool (j || k)) := .mk fun H1 e1 al Q q =>
  ⟨_, pe_callB call_isiT hg hm PyProof.Rows.boot_isinstance (pa_cons wE.pe (pa_cons (pe_tup (pa_cons (pe_bltn (v := .ty S) hgS hmS hvS rfl nx dx) (pa_cons (pe_bltn (v := .ty T) hgT hmT hvT rfl ny dy) pa_nil h4) h3)) pa_nil h2) h1) (by decide) (by decide) h1 hpl, ha _ _
    ⟨Evl.sz_of (by show 2 ≤ 100000; decide), fun t ht => ⟨.ref A, t, [.ty S, .ty T], .type "dict", [.type S, .type T], j || k, rfl, upd_same, .cons (.ty S) (.cons (.ty T) .nil), .base (.dK (Evl.Ex.new ht _ _ (e1 _ _ hA nM fun _ z => by cases z))), kitAny2 hj hk, q _ _ (Evl.Ex.new ht) (.bl _)⟩⟩⟩
/-! ### == of tuples that hold the same things -/
def sameB : V → Bool
  | .ref _ => true
  | v => flatB v
def rEqSame (K : PySem.W.Frag) : R2 := fun x y H Q => ∃ a b xs, x = .ref a ∧ y = .ref b ∧ SqT K H a xs ∧ SqT K H b xs ∧ (∀ v ∈ xs, sameB v = true) ∧ Q (.bl true) H
theorem op_eqSame (hu : X.A.units < cLine) : OpR X (compareOp .Eq) (rEqSame X.K) := by
  intro pins s σ H x y v u Q I rx ry h
  obtain ⟨a, b, xs, rfl, rfl, ha, hb, hs, q⟩ := h
  cases (show v = Value.ref a from rx)
  cases (show u = Value.ref b from ry)
  obtain ⟨us, r1, p1, _⟩ := I.tuple ha
  obtain ⟨ws, r2, p2, _⟩ := I.tuple hb
  have l1 := r1.length
  have l2 := r2.length
  refine SeqAt.RcAt.tuples (e := fun _ => true) p1 p2 hu (fun j h1 h2 => ?_) X.prog X.w X.xe _ ?_
  · have hj : j < xs.length := by
      rw [l1]
      simpa using h1
    have hx : xs[j]? = some xs[j] := List.getElem?_eq_getElem hj
    obtain ⟨v1, e1, rv1⟩ := r1.get hx
    obtain ⟨v2, e2, rv2⟩ := r2.get hx
    have f1 : us.toArray[j] = v1 := by
      have : us[j]? = some us[j] := List.getElem?_eq_getElem (by simpa using h1)
      rw [this] at e1
      simpa using e1
    have f2 : ws.toArray[j] = v2 := by
      have : ws[j]? = some ws[j] := List.getElem?_eq_getElem (by simpa using h2)
      rw [this] at e2
      simpa using e2
    rw [f1, f2]
    have hv := hs _ (List.getElem_mem hj)
    generalize xs[j] = z at rv1 rv2 hv
    cases z with
    | ref r =>
      cases (show v1 = Value.ref r from rv1)
      cases (show v2 = Value.ref r from rv2)
      exact SeqAt.EqAt.same _
    | _ => exact eqAt_same rv1 rv2 hv
  · refine ⟨.bl true, H, I, ?_, q⟩
    have e1 : us.toArray.size = ws.toArray.size := by
      rw [List.size_toArray, List.size_toArray, ← l1, ← l2]
    rw [e1, show ((List.range (min ws.toArray.size ws.toArray.size)).all fun _ => true) = true from List.all_eq_true.mpr fun _ _ => rfl]
    simp [L2.RelV]
theorem ce_eqSame {Q : VK} (hu : X.A.units + 64 < cLine) (h : wE X a σ H fun x H2 => wE X b σ H2 fun y H3 => rEqSame X.K x y H3 Q) : wE X (.Compare a [.Eq] [b] pos) σ H Q := ⟨_, pe_cmpR (op_eqSame (by omega)) wE.pe wE.pe (nomark _), h⟩
/-! ### max of a tuple -/
theorem fold_max (r : List Int) (n : Int) : (n ≤ r.foldl max n ∧ ∀ a ∈ r, a ≤ r.foldl max n) ∧ (r.foldl max n = n ∨ r.foldl max n ∈ r) := by
  induction r generalizing n with
  | nil => exact ⟨⟨Int.le_refl _, fun a h => by cases h⟩, .inl rfl⟩
  | cons y r ih =>
    obtain ⟨⟨h1, h2⟩, h3⟩ := ih (max n y)
    refine ⟨⟨Int.le_trans (Int.le_max_left _ _) h1, fun a ha => ?_⟩, ?_⟩
    · rcases List.mem_cons.mp ha with e | ha
      · subst e
        exact Int.le_trans (Int.le_max_right _ _) h1
      · exact h2 a ha
    · show (r.foldl max (max n y) = n ∨ r.foldl max (max n y) ∈ y :: r)
      rcases h3 with e | h3
      · by_cases hny : y ≤ n
        · left
          rw [e, Int.max_eq_left hny]
        · right
          rw [e, Int.max_eq_right (by omega)]
          exact List.mem_cons_self
      · exact .inr (List.mem_cons_of_mem _ h3)
def rMaxT (K : PySem.W.Frag) : List V → Hp → VK → Prop := fun vs H Q => ∃ (a : Addr) (n : Int) (r : List Int), vs = [.ref a] ∧ SqT K H a ((n :: r).map V.int) ∧ Q (.int (r.foldl max n)) H
theorem cr_maxT (hc : X.calm = true) (hu : X.A.units + 2 < cLine) : CallR X (.builtin "max") (rMaxT X.K) := by
  intro pins s σ H xs us Q I r h
  obtain ⟨a, n, ns, rfl, hs, q⟩ := h
  rw [Vals.ref1 r]
  obtain ⟨its, rv, pl, _⟩ := I.tuple hs
  obtain ⟨as, hr⟩ := Dp.readsAll I _ _ its (dpAll_ints (n :: ns)) rv
  refine PySem.W.max_tuple_data (I.ok.hd hc) pl hr (ints_alike (n :: ns)) ?_ fun i v h' tk bs hv hrd k => ?_
  · have e := ints_depth (n :: ns)
    have e2 : PyData.depthAll (PyData.int n :: ns.map PyData.int) = 0 := e
    rw [e2]
    omega
  · rw [PySem.W.maxD_ints] at hrd
    cases hrd with
    | int i t => exact ⟨.int _, H, I.kept k, ⟨t, rfl⟩, q⟩
theorem rn_maxT {ns : List Int} {m : Int} (hm : m ∈ ns) (hx : ∀ y ∈ ns, y ≤ m) : RDn X M (rMaxT X.K) [.tuple (ns.map PyData.int)] (.int m) := fun vs H1 r _ Q q => by
  obtain ⟨v, rfl, r1⟩ := rpa1 r
  cases r1 with
  | tup m' hs rs =>
    cases ns with
    | nil => cases hm
    | cons n l =>
      refine ⟨_, n, l, rfl, .inl (by rw [← rs.of_ints]; exact hs), q _ H1 (Evl.Ex.refl H1) ?_⟩
      obtain ⟨⟨h1, h2⟩, h3⟩ := fold_max l n
      have e : l.foldl max n = m := by
        apply Int.le_antisymm
        · rcases h3 with e | h3
          · rw [e]
            exact hx n List.mem_cons_self
          · exact hx _ (List.mem_cons_of_mem _ h3)
        · rcases List.mem_cons.mp hm with e | hm
          · rw [e]
            exact h1
          · exact h2 m hm
      rw [e]
      exact .int _
/-! ### sorted(set(a tuple of whole numbers)) -/
theorem fd_sortedSetT {p p2 q2 : Pos} {ns out : List Int} (hc : X.calm = true) (hg : Gl X "sorted") (hm : X.mg "sorted" = none) (hg2 : Gl X "set") (hm2 : X.mg "set" = none) (ha : PD X M a σ H (.tuple (ns.map PyData.int)))
    (hl : ns.length < 64) (ho : out.Pairwise (· < ·)) (hmem : ∀ k, k ∈ out ↔ k ∈ ns)
    (na : starEach [a] X.env = (false, eval a X.env) :: starEach [] X.env := by rfl) : FD X M (.Call (.Name "sorted" p) [.Call (.Name "set" p2) [a] [] q2] [] pos) σ H (out.map PyData.int) := .mk fun H1 e1 al Q q => by
  refine ⟨fun σ H Q => wE X a σ H fun x H1 => ∃ l, x = V.ref l ∧ SqT X.K H1 l (ns.map V.int) ∧ ∀ p, H1 p = none → Q (.ref p) (upd H1 p (.lst (out.map V.int))), ⟨fun pins s σ H Q I h => ?_⟩, ?_⟩
  · refine Call_ (ld_blt I hg hm PyProof.Rows.boot_sorted ?_)
    refine PyProof.Rows.callWith_builtin1 (PyProof.Rows.args_cons ?_ rfl) rfl rfl
    refine Call_ (ld_blt I hg2 hm2 PyProof.Rows.boot_set (PyProof.Rows.callWith_type1 (PyProof.Rows.args_cons (thn (wE.pe.run pins s σ H _ I h) fun v s1 ⟨x, H1, I1, r1, l, e2, hq, q1⟩ => PyProof.Rows.args_nil ?_) na) na rfl))
    subst e2
    cases r1
    obtain ⟨its, r, pl, hz⟩ := I1.tuple hq
    refine call_set_tupI ns (I1.ok.hd hc) pl (by simpa using r.ints) (by unfold scanBound; omega) fun g tk c R hcl k => PyProof.Rows.args_nil ?_
    have I2 : Inv X pins σ H1 { s1 with heap := g, toks := tk } := I1.kept k
    refine sorted_set R (I1.ok.hd hc) (by omega) fun s' p o c' ns' k2 g2 o2 hp hgp hi hs hm' hlen => ?_
    have en : ns' = out := up_ext hs ho fun z => by
      rw [hm' z, hmem z]
      exact decide_eq_true_iff
    subst en
    have hn : H1 p = none := I2.hok.fresh hp
    have ln : (ns'.map V.int).length ≤ sizeLine := by
      rw [List.length_map]
      refine Evl.sz_of (Nat.le_trans ?_ (show 64 ≤ 100000 by decide))
      omega
    have J : Inv X pins σ (upd H1 p (.lst (ns'.map V.int))) { ({ s1 with heap := g, toks := tk } : Shared) with heap := s'.heap, gens := s'.gens, drawn := s'.drawn, toks := s'.toks } := I2.call (ch := []) (Un.laid k2 hp hn) (I2.hok.laid k2 hp ⟨ln, o.toList, c', vals_of_ints hi, hgp⟩) (by rw [g2]; exact I2.bare) (fun _ z => nomatch z)
    obtain ⟨hp', g', d', t', os'⟩ := s'
    obtain rfl : os' = s1.os := o2
    exact ⟨.ref p, _, J, rfl, q1 p hn⟩
  · refine ha.run H1 e1 al _ fun v H2 x2 r => ?_
    cases r with
    | tup m hr rs => exact ⟨_, rfl, .inl (by rw [← rs.of_ints]; exact hr), fun p hp => q p _ _ (Evl.fresh_back x2 hp) (x2.trans (Evl.Ex.new hp)) upd_same (RpAll.ints out)⟩
end
end GV

namespace GV
open PySem PySem.Spec PyProof.Rows L2
/-! ### a list or a tuple, whichever -/
def sqD : Bool → List PyData → PyData
  | true, ds => .tuple ds
  | false, ds => .list ds
theorem items_sq (tp : Bool) (ds : List PyData) : itemsD (sqD tp ds) = some ds := by cases tp <;> rfl
theorem len_sq (tp : Bool) (ds : List PyData) : lenD (sqD tp ds) = some ds.length := by cases tp <;> rfl
theorem ix_sq {tp : Bool} {ds : List PyData} {i : Int} {d : PyData} (h : atI ds i = some d) : ixD (sqD tp ds) (.int i) = some d := by cases tp <;> exact h
theorem ix_sqI {tp : Bool} {ns : List Int} {i : Nat} {z : Int} (h : ns[i]? = some z) : ixD (sqD tp (ns.map PyData.int)) (.int (i : Nat)) = some (.int z) := ix_sq (atI_nat (by rw [List.getElem?_map, h]; rfl))
section
variable {X : Cx} {M : Addr → Prop} {σ : St} {H : Hp} {a b c e tg : Expr} {d : PyData} {pos : Pos} {ds : List PyData} {tp : Bool}
theorem src_S (h : PD X M e σ H (sqD tp ds)) : Src X M tg e σ H ds := by
  cases tp with
  | true => exact src_tup h
  | false => exact src_list h
theorem src_enumS {p tpos : Pos} {elts : List Expr} {kk : Nat} (hg : Gl X "enumerate") (hm : X.mg "enumerate" = none) (h : PD X M e σ H (sqD tp ds)) (hs : starEach [e] X.env = [(false, eval e X.env)] := by rfl)
    (hs' : starEach (e :: []) X.env = (false, eval e X.env) :: starEach [] X.env := by rfl) : Src X M (.Tuple elts kk tpos) (.Call (.Name "enumerate" p) [e] [] pos) σ H (enumD ds) := by
  cases tp with
  | true => exact src_enumT hg hm h hs hs'
  | false => exact src_enum hg hm h hs hs'
theorem pd_sliceS {lo hi : Option Expr} {l u : Option Int} {p2 : Pos} (h : PD X M e σ H (sqD tp ds)) (hl : OD X M lo σ H l) (hu : OD X M hi σ H u) : PD X M (.Subscript e (.Slice lo hi none p2) pos) σ H (sqD tp (cutD ds l u)) := by
  cases tp with
  | true => exact pd_sliceT h hl hu
  | false => exact (fd_slice h hl hu).pd
theorem pd_minDfS {p kp : Pos} {ns : List Int} (hc : X.calm = true) (hu : X.A.units + 2 < cLine) (hg : Gl X "min") (hm : X.mg "min" = none) (ha : PD X M a σ H (sqD tp (ns.map PyData.int))) (hb : PD X M b σ H d)
    (h1 : starEach (a :: []) X.env = (false, eval a X.env) :: starEach [] X.env := by rfl)
    (he : backTo pos (starEach (a :: []) X.env) = (false, eval a X.env) :: backTo pos (starEach [] X.env) := by rfl) (hpl : (backTo pos (starEach (a :: []) X.env)).any (·.1) = false := by rfl)
    (hall : (backToKw pos (keywordEach [⟨some "default", b, kp⟩] X.env)).all (·.1.isSome) = true := by rfl) (hnone : (backToKw pos (keywordEach [⟨some "default", b, kp⟩] X.env)).any (·.1.isNone) = false := by rfl)
    (hks : (backToKw pos (keywordEach [⟨some "default", b, kp⟩] X.env)).filterMap (·.1) = (["default"] : List Str) := by rfl) :
    PD X M (.Call (.Name "min" p) [a] [⟨some "default", b, kp⟩] pos) σ H (minOr d ns) := by
  cases tp with
  | true => exact pd_minDfT hc hu hg hm ha hb h1 he hpl hall hnone hks
  | false => exact pd_minDf hc hu hg hm ha hb h1 he hpl hall hnone hks
theorem pd_maxS {p : Pos} {ns : List Int} {m : Int} (hc : X.calm = true) (hu : X.A.units + 2 < cLine) (hg : Gl X "max") (hn : X.mg "max" = none) (ha : PD X M a σ H (sqD tp (ns.map PyData.int))) (hm : m ∈ ns) (hx : ∀ y ∈ ns, y ≤ m)
    (h1 : starEach (a :: []) X.env = (false, eval a X.env) :: starEach [] X.env := by rfl) (hpl : (backTo pos (starEach [] X.env)).any (·.1) = false := by rfl) : PD X M (.Call (.Name "max" p) [a] [] pos) σ H (.int m) := by
  cases tp with
  | true => exact pd_callB (cr_maxT hc hu) hg hn PyProof.Rows.boot_max (ad_cons ha ad_nil h1) (rn_maxT hm hx) (by decide) (by decide) h1 hpl
  | false => exact pd_callB (cr_max hc) hg hn PyProof.Rows.boot_max (ad_cons ha ad_nil h1) (rn_max hm hx) (by decide) (by decide) h1 hpl
theorem pd_min {p : Pos} {ns : List Int} {m : Int} (hc : X.calm = true) (hg : Gl X "min") (hn : X.mg "min" = none) (ha : PD X M a σ H (.list (ns.map PyData.int))) (hm : m ∈ ns) (hx : ∀ y ∈ ns, m ≤ y)
    (h1 : starEach (a :: []) X.env = (false, eval a X.env) :: starEach [] X.env := by rfl) (hpl : (backTo pos (starEach [] X.env)).any (·.1) = false := by rfl) : PD X M (.Call (.Name "min" p) [a] [] pos) σ H (.int m) :=
  pd_callB (cr_min hc) hg hn PyProof.Rows.boot_min (ad_cons ha ad_nil h1) (rn_min hm hx) (by decide) (by decide) h1 hpl
theorem pd_min2 {p : Pos} {i j : Int} (hg : Gl X "min") (hn : X.mg "min" = none) (ha : PD X M a σ H (.int i)) (hb : PD X M b σ H (.int j)) (hc : X.calm = true := by rfl)
    (h1 : starEach (a :: [b]) X.env = (false, eval a X.env) :: starEach [b] X.env := by rfl) (h2 : starEach (b :: []) X.env = (false, eval b X.env) :: starEach [] X.env := by rfl) (hpl : (backTo pos (starEach [b] X.env)).any (·.1) = false := by rfl) : PD X M (.Call (.Name "min" p) [a, b] [] pos) σ H (.int (min i j)) :=
  PD.is (pd_callB (call_min2 hc) hg hn PyProof.Rows.boot_min (ad_cons ha (ad_cons hb ad_nil h2) h1) rn_min2 (by decide) (by decide) h1 hpl) (by
    congr 1
    split
    · exact (Int.min_eq_right (by omega)).symm
    · exact (Int.min_eq_left (by omega)).symm)
theorem pd_max2 {p : Pos} {i j : Int} (hg : Gl X "max") (hn : X.mg "max" = none) (ha : PD X M a σ H (.int i)) (hb : PD X M b σ H (.int j)) (hc : X.calm = true := by rfl)
    (h1 : starEach (a :: [b]) X.env = (false, eval a X.env) :: starEach [b] X.env := by rfl) (h2 : starEach (b :: []) X.env = (false, eval b X.env) :: starEach [] X.env := by rfl) (hpl : (backTo pos (starEach [b] X.env)).any (·.1) = false := by rfl) : PD X M (.Call (.Name "max" p) [a, b] [] pos) σ H (.int (max i j)) :=
  PD.is (pd_callB (call_max2 hc) hg hn PyProof.Rows.boot_max (ad_cons ha (ad_cons hb ad_nil h2) h1) rn_max2 (by decide) (by decide) h1 hpl) (by
    congr 1
    split
    · exact (Int.max_eq_right (by omega)).symm
    · exact (Int.max_eq_left (by omega)).symm)
theorem fd_sortedSetS {p p2 q2 : Pos} {ns out : List Int} (hc : X.calm = true) (hg : Gl X "sorted") (hm : X.mg "sorted" = none) (hg2 : Gl X "set") (hm2 : X.mg "set" = none) (ha : PD X M a σ H (sqD tp (ns.map PyData.int)))
    (hl : ns.length < 64) (ho : out.Pairwise (· < ·)) (hmem : ∀ k, k ∈ out ↔ k ∈ ns)
    (na : starEach [a] X.env = (false, eval a X.env) :: starEach [] X.env := by rfl) : FD X M (.Call (.Name "sorted" p) [.Call (.Name "set" p2) [a] [] q2] [] pos) σ H (out.map PyData.int) := by
  cases tp with
  | true => exact fd_sortedSetT hc hg hm hg2 hm2 ha hl ho hmem na
  | false => exact fd_sortedSet hc hg hm hg2 hm2 ha hl ho hmem na
/-- list(e), tuple(e) -/
theorem fd_listOf {p : Pos} (hg : Gl X "list") (hm : X.mg "list" = none) (ha : PD X M a σ H d) (h : itemsD d = some ds)
    (h1 : starEach (a :: []) X.env = (false, eval a X.env) :: starEach [] X.env := by rfl) (hpl : (backTo pos (starEach [] X.env)).any (·.1) = false := by rfl) : FD X M (.Call (.Name "list" p) [a] [] pos) σ H ds :=
  fd_callTy call_list_of hg hm PyProof.Rows.boot_list (ad_cons ha ad_nil h1) (rf_list h) (by decide) (by decide) h1 hpl
theorem pd_tupleOf {p : Pos} (hg : Gl X "tuple") (hm : X.mg "tuple" = none) (ha : PD X M a σ H d) (h : itemsD d = some ds)
    (h1 : starEach (a :: []) X.env = (false, eval a X.env) :: starEach [] X.env := by rfl) (hpl : (backTo pos (starEach [] X.env)).any (·.1) = false := by rfl) : PD X M (.Call (.Name "tuple" p) [a] [] pos) σ H (.tuple ds) :=
  pd_callTy call_tuple_of hg hm PyProof.Rows.boot_tuple (ad_cons ha ad_nil h1) (rn_tuple h) (by decide) (by decide) h1 hpl
/-- the name in slot i, by its value -/
theorem ce_nm (i : Nat) {x : Str} {v : V} {Q : VK} (q : Q v H) (hN : X.N[i]? = some x := by rfl) (hv : Vis X.env.scope x := by first | exact .inl rfl | exact .inr (.inl rfl) | exact .inr (.inr rfl)) (hs : σ[i]? = some (some v) := by rfl)
    (hd : (x == ("__debug__" : Str)) = false := by decide) (hcd : (x == ("__classdict__" : Str)) = false := by decide) : wE X (.Name x pos) σ H Q := ce_name hN hv hs q hd hcd
end
end GV

namespace GV
open PySem PySem.Spec PyProof.Rows L2
section
variable {X : Cx} {M : Addr → Prop} {σ : St} {H H' : Hp} {a b c e tg iter : Expr} {da db d : PyData} {pos : Pos} {es : List Expr} {ds : List PyData} {tp : Bool}
/-! ### comprehensions over a heap with objects that stay -/
theorem lc_coreO {t : Tg} {elt : Expr} {ifs : List Expr} {scope : Scope} {own : List (Str × Nat)} (hc : X.calm = true) (hN : X.N.Nodup) (hi : Src X M tg iter σ H ds) (ok : BlkOk X.N X.env.scope scope own)
    (hg : ∀ s H C cl fp, PG (Cx.lc X s H scope C cl fp) tg (t.g X.K)) (hf : ∀ d ∈ ds, t.Fits d) (hw : ∀ M H d σ', t.Ok X.K M H d (wipe σ (own.map (·.2))) σ' → wipe σ' (own.map (·.2)) = wipe σ (own.map (·.2)))
    (p : PyData → Bool) (f : PyData → PyData) (hl : ds.length ≤ 100000)
    (body : ∀ s0 H0 C cl fp M' H' d σ', (∀ a, M a → M' a) → (∀ v e, Rp X.K M H v e → Rp X.K M' H' v e) → (∀ a o, ¬ M a → NT o → H a = some o → H' a = some o ∧ ¬ M' a) → d ∈ ds → t.Ok X.K M' H' d (wipe σ (own.map (·.2))) σ' →
      TsD (Cx.lc X s0 H0 scope C cl fp) M' ifs σ' H' (p d) ∧ (p d = true → PD (Cx.lc X s0 H0 scope C cl fp) M' elt σ' H' (f d))) :
    ∃ wi, PI X tg iter wi ∧ ∀ H1, ExM M H H1 → Alive M H1 → ∀ Q : VK, (∀ l ws H2, H1 l = none → Evl.Ex H1 H2 → H2 l = some (.lst ws) → RpAll X.K M H2 ws ((ds.filter p).map f) → Q (.ref l) H2) →
      tLc wi (t.g X.K) (fun σ H Q => ∀ s0 H0 C cl fp, wTs (Cx.lc X s0 H0 scope C cl fp) ifs σ H Q) (fun σ H Q => ∀ s0 H0 C cl fp, wE (Cx.lc X s0 H0 scope C cl fp) elt σ H Q) (own.map (·.2)) σ H1 Q := by
  obtain ⟨wi, pi, run⟩ := hi.ex
  refine ⟨wi, pi, fun H1 e1 al Q q => ?_⟩
  refine run H1 e1 al _ fun It Hs xs wk D hD => ?_
  have alS := al.mono xs
  -- D is mutable meanwhile
  let M' : Addr → Prop := fun a => M a ∨ a = D
  have hm : ∀ a, M' a → M a ∨ Hs a = none := fun a z => z.elim .inl fun e => .inr (by rw [e]; exact hD)
  have al2 : ∀ H', Evl.Ex Hs H' → (∃ acc, H' D = some (.lst acc)) → Alive M' H' := fun H' e ⟨acc, h⟩ a z => by
    rcases z with z | z
    · exact (alS.mono e) a z
    · subst z
      exact ⟨_, h⟩
  refine ⟨fun i m H' => m = ds.length - i ∧ i ≤ ds.length ∧ Evl.Ex Hs H' ∧ ∃ acc, H' D = some (.lst acc) ∧ acc.length ≤ i ∧ RpAll X.K M' H' acc (((ds.take i).filter p).map f), ⟨ds.length, rfl, Nat.zero_le _, Evl.Ex.new hD, [], upd_same, Nat.le_refl _, by simpa using RpAll.nil⟩, ?_⟩
  rintro i m H' ⟨rfl, hi', x, acc, hacc, hlen, racc⟩
  have eM : ExM M' Hs H' := .of x
  have al' := al2 H' x ⟨acc, hacc⟩
  by_cases hlt : i < ds.length
  · refine .inr ⟨wk.go M' i H' hm eM hlt, fun H2 => Evl.Ex Hs H2 ∧ ∃ acc, H2 D = some (.lst acc) ∧ acc.length ≤ i + 1 ∧ RpAll X.K M' H2 acc (((ds.take (i + 1)).filter p).map f), fun H2 ⟨a1, a2⟩ => ⟨ds.length - (i + 1), by omega, rfl, hlt, a1, a2⟩, fun v H2 y => ?_⟩
    obtain ⟨x2, r⟩ := wk.yld M' i H' v H2 hm eM al' y
    have hd' : ds[i]? = some ds[i] := List.getElem?_eq_getElem hlt
    have hmem := List.getElem_mem hlt
    have hacc2 : H2 D = some (.lst acc) := x2 _ _ hacc
    have lift : ∀ v e, Rp X.K M H v e → Rp X.K M' H2 v e := fun v e rv => ((rv.mono (fun _ z => z) (e1.trans (.of xs))).wide hm).mono (fun _ z => z) (.of (x.trans x2))
    have al3 := al2 H2 (x.trans x2) ⟨acc, hacc2⟩
    refine Tg.run (hf _ hmem) (r _ hd') fun σ2 okk => ⟨hw _ _ _ _ okk, ?_⟩
    have all := fun s0 H0 C cl fp => body s0 H0 C cl fp M' H2 ds[i] σ2 (fun _ z => .inl z) lift (fun a o nm nt h => ⟨x2 _ _ (x _ _ (xs _ _ (e1 _ _ h nm nt))), fun z => z.elim nm fun e => by have w := xs _ _ (e1 _ _ h nm nt); rw [e, hD] at w; cases w⟩) hmem okk
    -- the test
    have tk : (ds.take (i + 1)).filter p = (ds.take i).filter p ++ (if p ds[i] = true then [ds[i]] else []) := by
      rw [List.take_add_one, hd', List.filter_append]
      simp only [Option.toList_some, List.filter_cons, List.filter_nil]
    have fin : ∀ b, b = p ds[i] → ∀ H3, Evl.Ex H2 H3 → (if b = true then (∀ s0 H0 C cl fp, wE (Cx.lc X s0 H0 scope C cl fp) elt σ2 H3 fun y H4 => ∃ acc, H4 D = some (.lst acc) ∧ acc.length < sizeLine ∧
        (Evl.Ex Hs (upd H4 D (.lst (acc ++ [y]))) ∧ ∃ acc', (upd H4 D (.lst (acc ++ [y]))) D = some (.lst acc') ∧ acc'.length ≤ i + 1 ∧ RpAll X.K M' (upd H4 D (.lst (acc ++ [y]))) acc' (((ds.take (i + 1)).filter p).map f)))
        else (Evl.Ex Hs H3 ∧ ∃ acc, H3 D = some (.lst acc) ∧ acc.length ≤ i + 1 ∧ RpAll X.K M' H3 acc (((ds.take (i + 1)).filter p).map f))) := by
      intro b hb H3 x3
      have hacc3 := x3 _ _ hacc2
      cases b with
      | true =>
        rw [if_pos rfl]
        intro s0 H0 C cl fp
        refine ((all s0 H0 C cl fp).2 hb.symm).run H3 (.of x3) (al3.mono x3) _ fun y H4 x4 ry => ?_
        have x5 : Evl.Ex Hs H4 := ((x.trans x2).trans x3).trans x4
        refine ⟨acc, x4 _ _ hacc3, ?_, Evl.Ex.mut x5 hD, _, upd_same, ?_, ?_⟩
        · exact Nat.lt_of_lt_of_le (Nat.lt_of_le_of_lt hlen hlt) (Evl.sz_of hl)
        · rw [List.length_append, List.length_singleton]
          omega
        · rw [tk, if_pos hb.symm, List.map_append]
          have eD : ExM M' H4 (upd H4 D (.lst (acc ++ [y]))) := fun a o h nm _ => by
            rw [upd_ne (fun e => nm (.inr e))]
            exact h
          exact (racc.mono (fun _ z => z) (.of ((x2.trans x3).trans x4))).append (.cons ry .nil) |>.mono (fun _ z => z) eD
      | false =>
        rw [if_neg Bool.false_ne_true]
        refine ⟨(x.trans x2).trans x3, acc, hacc3, by omega, ?_⟩
        rw [tk, if_neg (by rw [← hb]; exact Bool.false_ne_true), List.append_nil]
        exact racc.mono (fun _ z => z) (.of (x2.trans x3))
    intro s0 H0 C cl fp
    exact (all s0 H0 C cl fp).1.run H2 (ExM.refl H2) al3 _ fun H3 x3 => fin _ rfl H3 x3
  · have e2 : i = ds.length := by omega
    subst e2
    refine .inl ⟨wk.stop M' H' hm eM, q D acc H' (Evl.fresh_back xs hD) (xs.trans x) hacc ?_⟩
    rw [List.take_length] at racc
    exact racc.mono (fun _ z => .inl z) (ExM.refl _)
theorem fd_lcO {t : Tg} {elt : Expr} {ifs : List Expr} {scope : Scope} {own : List (Str × Nat)} (hc : X.calm = true) (hN : X.N.Nodup) (hi : Src X M tg iter σ H ds) (ok : BlkOk X.N X.env.scope scope own)
    (hg : ∀ s H C cl fp, PG (Cx.lc X s H scope C cl fp) tg (t.g X.K)) (hf : ∀ d ∈ ds, t.Fits d) (hw : ∀ M H d σ', t.Ok X.K M H d (wipe σ (own.map (·.2))) σ' → wipe σ' (own.map (·.2)) = wipe σ (own.map (·.2)))
    (p : PyData → Bool) (f : PyData → PyData) (hl : ds.length ≤ 100000)
    (body : ∀ s0 H0 C cl fp M' H' d σ', (∀ a, M a → M' a) → (∀ v e, Rp X.K M H v e → Rp X.K M' H' v e) → (∀ a o, ¬ M a → NT o → H a = some o → H' a = some o ∧ ¬ M' a) → d ∈ ds → t.Ok X.K M' H' d (wipe σ (own.map (·.2))) σ' →
      TsD (Cx.lc X s0 H0 scope C cl fp) M' ifs σ' H' (p d) ∧ (p d = true → PD (Cx.lc X s0 H0 scope C cl fp) M' elt σ' H' (f d)))
    (hs : ∀ x, foldedSetIterable iter X.env x = pure x := by intro _; rfl) : FD X M (.ListComp elt [⟨tg, iter, ifs, 0⟩] scope pos) σ H ((ds.filter p).map f) := by
  obtain ⟨wi, pi, run⟩ := lc_coreO hc hN hi ok hg hf hw p f hl body
  exact .mk fun H1 e1 al Q q => ⟨_, pe_lc hc hN pi ok hg (fun s0 H0 C cl fp => ⟨fun pins s σ H Q I h => wTs.pts.run pins s σ H Q I (h s0 H0 C cl fp)⟩) (fun s0 H0 C cl fp => ⟨fun pins s σ H Q I h => wE.pe.run pins s σ H Q I (h s0 H0 C cl fp)⟩) hs, run H1 e1 al Q q⟩
theorem fd_filterO {tst : Expr} {t : Tg} {elt : Expr} {scope : Scope} {own : List (Str × Nat)} (p : PyData → Bool) (f : PyData → PyData) (hc : X.calm = true) (hN : X.N.Nodup) (hi : Src X M tg iter σ H ds) (ok : BlkOk X.N X.env.scope scope own)
    (hg : ∀ s H C cl fp, PG (Cx.lc X s H scope C cl fp) tg (t.g X.K)) (hf : ∀ d ∈ ds, t.Fits d) (hw : ∀ M H d σ', t.Ok X.K M H d (wipe σ (own.map (·.2))) σ' → wipe σ' (own.map (·.2)) = wipe σ (own.map (·.2))) (hl : ds.length ≤ 100000)
    (body : ∀ s0 H0 C cl fp M' H' d σ', (∀ a, M a → M' a) → (∀ v e, Rp X.K M H v e → Rp X.K M' H' v e) → (∀ a o, ¬ M a → NT o → H a = some o → H' a = some o ∧ ¬ M' a) → d ∈ ds → t.Ok X.K M' H' d (wipe σ (own.map (·.2))) σ' → TD (Cx.lc X s0 H0 scope C cl fp) M' tst σ' H' (p d) ∧ PD (Cx.lc X s0 H0 scope C cl fp) M' elt σ' H' (f d))
    (hs : ∀ x, foldedSetIterable iter X.env x = pure x := by intro _; rfl) : FD X M (.ListComp elt [⟨tg, iter, [tst], 0⟩] scope pos) σ H ((ds.filter p).map f) :=
  fd_lcO hc hN hi ok hg hf hw p f hl (fun s0 H0 C cl fp M' H' d σ' hM lift kp hd hok => let ⟨h1, h2⟩ := body s0 H0 C cl fp M' H' d σ' hM lift kp hd hok; ⟨tsd_one h1, fun _ => h2⟩) hs
/-- the heap behind the collecting of xs: a new list that holds them -/
abbrev heapC (h : Heap) (xs : Array Value) : Heap := (h.push (seqObj "list" #[] 0)).update h.objs.size (Obj.mapSeq (· ++ xs))
/-- collect of a list or a tuple, with the heap that it leaves (wpAny_collect_seq says only that all stays) -/
theorem collect_seqX {P : Program} {w : World} {A : Around} {E : Value → Shared → Prop} {s : Shared} {Q : List Value → Shared → Prop} (it : Addr) {T : String} {o : Obj} {xs : Array Value} {n : Nat} (hT : T = "list" ∨ T = "tuple")
    (ho : s.heap.get? it = some o) (hc : o.cls = .type T) (hd : o.data = .seq xs n) (hsz : xs.size ≤ sizeLine) (q : Q xs.toList { s with heap := heapC s.heap xs }) : wpAny (model P w) A (collect (.ref it)) Q E s := by
  have empty : (s.heap.push (seqObj "list" #[] 0)).get? s.heap.objs.size = some (seqObj "list" #[] 0) := Heap.get?_push_size _ rfl
  have full : ∃ e, (heapC s.heap xs).get? s.heap.objs.size = some (seqObj "list" xs e) := by
    have e := get?_update_seq empty (· ++ xs)
    rw [show (#[] : Array Value) ++ xs = xs by simp] at e
    exact ⟨_, e⟩
  obtain ⟨e, full⟩ := full
  -- what is done with the full list
  have read : ∀ {k : Obj → Sem (List Value)}, (∀ m, k (seqObj "list" xs m) = pure xs.toList) → wpAny (model P w) A (load s.heap.objs.size >>= k) Q E { s with heap := heapC s.heap xs } := fun hk => wpAny_bind (wpAny_load full (by rw [hk]; exact wpAny_pure q))
  have fill := wpAny_extend_seq (prog := P) (w := w) (A := A) (s := { s with heap := s.heap.push (seqObj "list" #[] 0) }) (R := fun r z => r = .ok (.ret (.ref s.heap.objs.size)) ∧ z = { s with heap := heapC s.heap xs }) s.heap.objs.size it (.ref s.heap.objs.size) 0 hT empty (Heap.get?_push_of_some _ ho) hc hd ⟨rfl, rfl⟩ hsz
  unfold collect
  refine wpAny_bind (wpAny_runValue (codeAny_builtin PyProof.Rows.entry_proto_collect' ?_))
  refine wpAny_bind (wpAny_newList (wpAny_pure ⟨Code.quiet_builtin _ (by decide +kernel), codeAny_builtin PyProof.Rows.entry_list_iadd' (wpAny_mono fill (fun r z hz => ?_) fun e z hz => ?_)⟩) (by simp))
  · cases r with
    | done f =>
      obtain ⟨e1, rfl⟩ := hz
      cases e1
      exact read fun m => rfl
    | again c' =>
      refine ⟨hz.1, codeAny_mono hz.2 fun r u hr => ?_⟩
      obtain ⟨rfl, rfl⟩ := hr
      exact read fun m => rfl
  · exact absurd hz.1 (by simp)
/-! ### sorted(a list or a tuple of whole numbers, fewer than 64) -/
def rSortQ (K : PySem.W.Frag) : List V → Hp → VK → Prop := fun vs H Q => ∃ (a : Addr) (ns : List Int), vs = [.ref a] ∧ (SqL K H a (ns.map V.int) ∨ SqT K H a (ns.map V.int)) ∧ ns.length < 64 ∧
  ∀ (ns' : List Int) (p : Addr), ns'.Perm ns → ns'.Pairwise (· ≤ ·) → H p = none → Q (.ref p) (upd H p (.lst (ns'.map V.int)))
theorem cr_sortQ : CallR X (.builtin "sorted") (rSortQ X.K) := by
  intro pins s σ H vs us Q J r h
  obtain ⟨a, ns, rfl, hs, h64, q⟩ := h
  rw [Vals.ref1 r]
  have core : ∀ (T : String) (its : List Value) (o : Obj) (n : Nat), (T = "list" ∨ T = "tuple") → Vals (ns.map V.int) its → s.heap.get? a = some o → o.cls = .type T → o.data = .seq its.toArray n →
      wpAny (model X.prog X.w) X.A (call (.builtin "sorted") [.ref a]) (EP X pins σ Q) X.xe s := by
    intro T its o n hT rv ho hcl hd
    have hI : IntsAre its ns := rv.ints
    have hln : its.length = ns.length := by rw [← rv.length, List.length_map]
    refine Calls.call_function_entry PyProof.Rows.kind_sorted PyProof.Rows.plain_sorted PyProof.Rows.entry_sorted (PyProof.Rows.args_sorted1 (.ref a)) ?_
    unfold Builtin.«sorted»
    have hzz : its.toArray.size ≤ sizeLine := by rw [List.size_toArray, hln, sizeLine_eq]; omega
    refine wpAny_bind (m := checkCount "sorted" 1 1 _) (wpAny_pure (wpAny_bind (collect_seqX a hT ho hcl hd hzz ?_)))
    rw [List.toList_toArray]
    refine wpAny_bind (wpAny_newList ?_ (by rw [← List.size_toArray]; exact hzz))
    generalize hh' : heapC s.heap its.toArray = h'
    have hsz : h'.objs.size = s.heap.objs.size + 1 := by rw [← hh', Heap.size_update, Heap.size_push]
    have kp : ∀ b o, s.heap.get? b = some o → h'.get? b = some o := fun b o e => by
      rw [← hh', Heap.get?_update_ne _ _ _ _ (Nat.ne_of_lt (Heap.lt_size e))]
      exact Heap.get?_push_of_some _ e
    have hoL : (h'.push (seqObj "list" its.toArray 0)).get? h'.objs.size = some (seqObj "list" its.toArray 0) := Heap.get?_push_size _ rfl
    refine wpAny_bind (wpAny_holding (wpAny_call_entry PyProof.Rows.slot_list_sort ⟨_, hoL, rfl⟩ PyProof.Rows.entry_list_sort (list_sort_tree hoL hI (by rw [hln]; exact h64) fun out ns' k1 k2 k3 => ⟨_, rfl, ?_⟩) (PyProof.Rows.args_list_sort _)))
    obtain ⟨c, hc⟩ := sortedHeap_at (vs := its) (out := out) hoL
    have le : s.heap.objs.size ≤ h'.objs.size := by rw [hsz]; exact Nat.le_succ _
    refine wpAny_pure ⟨_, rfl, .ref _, upd H h'.objs.size (.lst (ns'.map V.int)), ?_, rfl, q ns' _ k2 k3 (J.hok.fresh le)⟩
    refine J.laid (t' := s.toks) (fun b u e => ?_) le ⟨?_, out.toList, c, vals_of_ints k1, hc⟩
    · have e := kp b u e
      have hlt := Heap.lt_size e
      show (sortedHeap (h'.push (seqObj "list" its.toArray 0)) h'.objs.size its out).get? b = some u
      rw [sortedHeap_old (Nat.ne_of_lt hlt) (by rw [Heap.size_push]; exact Nat.lt_succ_of_lt hlt)]
      exact Heap.get?_push_of_some _ e
    · rw [List.length_map, k2.length_eq, sizeLine_eq]
      omega
  rcases hs with hs | hs
  · obtain ⟨its, rv, hl, hz⟩ := J.list hs
    obtain ⟨o, ho, hcl, n, hd⟩ := hl.isList
    exact core "list" its o n (.inl rfl) rv ho hcl hd
  · obtain ⟨its, rv, hl, hz⟩ := J.tuple hs
    obtain ⟨o, ho, hcl, n, hd⟩ := hl
    exact core "tuple" its o n (.inr rfl) rv ho hcl hd
end
end GV

namespace GV
open PySem PySem.Spec PyProof.Rows L2
section
variable {X : Cx} {M : Addr → Prop} {σ : St} {H H' : Hp} {a b c e tg iter : Expr} {da db d : PyData} {pos : Pos} {es : List Expr} {ds : List PyData} {tp : Bool} {D : Ends}
theorem two_sorted {x y : Int} {l : List Int} (h : l.Perm [x, y]) (s : l.Pairwise (· ≤ ·)) : l = [min x y, max x y] := by
  have hl := h.length_eq
  match l, hl with
  | [u, v], _ =>
    have hs : u ≤ v := by
      have := List.pairwise_cons.mp s
      exact this.1 v (by simp)
    have h1 : u ∈ [x, y] := h.mem_iff.mp (by simp)
    have h2 : v ∈ [x, y] := h.mem_iff.mp (by simp)
    have h3 : x ∈ [u, v] := h.mem_iff.mpr (by simp)
    have h4 : y ∈ [u, v] := h.mem_iff.mpr (by simp)
    simp only [List.mem_cons, List.not_mem_nil, or_false] at h1 h2 h3 h4
    have e1 : u = min x y := by omega
    have e2 : v = max x y := by omega
    rw [e1, e2]
theorem fd_sort2 {p : Pos} {x y : Int} (hg : Gl X "sorted") (hm : X.mg "sorted" = none) (ha : PD X M a σ H (sqD tp [.int x, .int y])) (hs : starEach (a :: []) X.env = (false, eval a X.env) :: starEach [] X.env := by rfl) (hpl : (backTo pos (starEach [] X.env)).any (·.1) = false := by rfl) :
    FD X M (.Call (.Name "sorted" p) [a] [] pos) σ H [.int (min x y), .int (max x y)] := by
  refine fd_callB cr_sortQ hg hm PyProof.Rows.boot_sorted (ad_cons ha ad_nil hs) (fun vs H1 r al Q q => ?_) (by decide) (by decide) hs hpl
  obtain ⟨v, rfl, r1⟩ := rpa1 r
  have fin : ∀ (ns' : List Int) (p : Addr), ns'.Perm [x, y] → ns'.Pairwise (· ≤ ·) → H1 p = none → Q (.ref p) (upd H1 p (.lst (ns'.map V.int))) := fun ns' p hp hs hn => by
    rw [two_sorted hp hs]
    exact q p _ _ hn (Evl.Ex.new hn) upd_same (.cons (.int _) (.cons (.int _) .nil))
  cases tp with
  | true =>
    cases r1 with
    | tup m hs rs =>
      obtain ⟨v1, v2, rfl, q1, q2⟩ := rpa2 rs
      cases q1
      cases q2
      exact ⟨_, [x, y], rfl, .inr (.inl hs), (by show 2 < 64; decide), fin⟩
  | false =>
    cases r1 with
    | lst m hs rs =>
      obtain ⟨v1, v2, rfl, q1, q2⟩ := rpa2 rs
      cases q1
      cases q2
      exact ⟨_, [x, y], rfl, .inl (.inl hs), (by show 2 < 64; decide), fin⟩
/-- x, y = a list of two -/
theorem s_unp2 {i j kt : Nat} {x y : Str} {px py pt : Pos} (al : Alive M H) (hc : X.calm = true) (h : FD X M e σ H [da, db]) (hx : PG X (.Name x px) (gName i)) (hy : PG X (.Name y py) (gName j))
    (q : ∀ v w H2, Evl.Ex H H2 → Rp X.K M H2 v da → Rp X.K M H2 w db → D.nx ((σ.set i (some v)).set j (some w)) H2)
    (hn : (assignEach [.Name x px, .Name y py] X.env).length = 2 := by rfl) (hst : (assignEach [.Name x px, .Name y py] X.env).findIdx? (·.1) = none := by rfl) (hs : swapsWithSole [.Tuple [.Name x px, .Name y py] kt pt] e pos.line X.env = pure false := by rfl) (hw : swappedStores [.Tuple [.Name x px, .Name y py] kt pt] e X.env = pure none := by rfl)
    (h1 : (assignEach [.Tuple [.Name x px, .Name y py] kt pt] X.env).map (·.2) = [assign (.Tuple [.Name x px, .Name y py] kt pt) X.env] := by rfl) : wS X (.Assign [.Tuple [.Name x px, .Name y py] kt pt] e pos) D σ H :=
  ⟨_, ps_asg wE.pe (pg_unl hc (pgs_cons hx (pgs_cons hy pgs_nil)) hn hst) hs hw h1, h.run H (ExM.refl H) al _ fun p ws H2 hp x2 h2 rs => by
    obtain ⟨v, w, rfl, r1, r2⟩ := rpa2 rs
    exact ⟨p, _, rfl, .inl (.inl h2), rfl, v, _, rfl, w, _, rfl, rfl, q v w H2 x2 r1 r2⟩⟩
theorem pd_catT {es fs : List PyData} (ha : PD X M a σ H (.tuple es)) (hb : PD X M b σ H (.tuple fs)) (hl : es.length + fs.length ≤ 100000) : PD X M (.BinOp a .Add b pos) σ H (.tuple (es ++ fs)) := .mk fun H1 e1 al Q q =>
  ⟨_, pe_op op_catA wE.pe wE.pe, ha.run H1 e1 al _ fun x H2 x2 rx => hb.run H2 (e1.trans (.of x2)) (al.mono x2) _ fun y H3 x3 ry => by
    have rx' := rx.mono (fun _ z => z) (.of x3)
    have al3 := (al.mono x2).mono x3
    cases rx' with
    | tup m1 h1 r1 =>
      cases ry with
      | tup m2 h2 r2 =>
        refine ⟨_, _, _, _, rfl, rfl, .inl h1, .inl h2, by rw [r1.length, r2.length]; exact Evl.sz_of hl, fun e => ?_, fun _ e => ?_, fun _ _ p hp => ?_⟩
        · subst e
          cases r1
          exact q _ _ (x2.trans x3) (.tup m2 h2 r2)
        · subst e
          cases r2
          exact q _ _ (x2.trans x3) (.tup m1 h1 (by rw [List.append_nil]; exact r1))
        · exact q _ _ ((x2.trans x3).trans (Evl.Ex.new hp)) (.tup (al3.fresh hp) (.inl upd_same) ((r1.append r2).mono (fun _ z => z) (.of (Evl.Ex.new hp))))⟩
/-! ### x in a list of whole numbers -/
theorem inV_ints (x : Int) (ns : List Int) : inV (.int x) (ns.map V.int) = decide (x ∈ ns) := by
  unfold inV
  rw [List.any_map, Bool.eq_iff_iff, decide_eq_true_eq, List.any_eq_true]
  constructor
  · rintro ⟨y, hy, e⟩
    have e : (y == x) = true := e
    rw [← beq_iff_eq.mp e]
    exact hy
  · intro h
    exact ⟨x, h, (by show (x == x) = true; simp)⟩
theorem flat_ints (ns : List Int) : (ns.map V.int).all flatV = true := by
  rw [List.all_map, List.all_eq_true]
  exact fun _ _ => rfl
theorem td_in {x : Int} {ns : List Int} (ha : PD X M a σ H (.int x)) (hb : PD X M b σ H (.list (ns.map PyData.int))) (hk : behindInMarks .In b = false := by rfl) : TD X M (.Compare a [.In] [b] pos) σ H (decide (x ∈ ns)) :=
  td_cmpR op_in_seq hk (fun u v H1 ru rv _ Q q => by
    cases ru
    cases rv with
    | lst m hs rs =>
      refine ⟨_, _, rfl, .inl (.inl hs), rfl, by rw [rs.of_ints]; exact flat_ints ns, ?_⟩
      rw [rs.of_ints]
      show Q (.bl (inV (.int x) (ns.map V.int))) H1
      rw [inV_ints]
      exact q _ H1 (Evl.Ex.refl H1) (.bl _)) ha hb
theorem td_nin {x : Int} {ns : List Int} (ha : PD X M a σ H (.int x)) (hb : PD X M b σ H (.list (ns.map PyData.int))) (hk : behindInMarks .NotIn b = false := by rfl) : TD X M (.Compare a [.NotIn] [b] pos) σ H (!decide (x ∈ ns)) :=
  td_cmpR op_notIn_seq hk (fun u v H1 ru rv _ Q q => by
    cases ru
    cases rv with
    | lst m hs rs =>
      refine ⟨_, _, rfl, .inl (.inl hs), rfl, by rw [rs.of_ints]; exact flat_ints ns, ?_⟩
      rw [rs.of_ints]
      show Q (.bl (!inV (.int x) (ns.map V.int))) H1
      rw [inV_ints]
      exact q _ H1 (Evl.Ex.refl H1) (.bl _)) ha hb
/-! ### is True, is False -/
theorem ce_isnB {Q : VK} {k j : Bool} {jj p2} (h : wE X a σ H fun x H2 => x = .bl k ∧ Q (.bl (!decide (k = j))) H2) : wE X (.Compare a [.IsNot] [.Constant (.bool j) jj p2] pos) σ H Q :=
  ⟨_, pe_cmpR op_isnot_bl wE.pe pe_bl (nomark _), wE.weak h fun x H2 ⟨e, q⟩ => (by exact ⟨k, j, e, rfl, q⟩)⟩
theorem ct_isnB {Q : Bool → Hp → Prop} {k j : Bool} {jj p2} (h : wE X a σ H fun x H2 => x = .bl k ∧ Q (!decide (k = j)) H2) : wT X (.Compare a [.IsNot] [.Constant (.bool j) jj p2] pos) σ H Q :=
  ⟨_, pt_cmpR op_isnot_bl wE.pe pe_bl (nomark _), wE.weak h fun x H2 ⟨e, q⟩ => (by exact ⟨k, j, e, rfl, _, rfl, q⟩)⟩
/-! ### len(set(..)) -/
def dd : List Int → List Int
  | [] => []
  | x :: t => if x ∈ t then dd t else x :: dd t
theorem mem_dd {l : List Int} {k : Int} : k ∈ dd l ↔ k ∈ l := by
  induction l with
  | nil => exact Iff.rfl
  | cons x t ih =>
    unfold dd
    split
    · rename_i h
      rw [ih, List.mem_cons]
      exact ⟨.inr, fun z => z.elim (fun e => e ▸ h) id⟩
    · rw [List.mem_cons, List.mem_cons, ih]
theorem nd_dd (l : List Int) : (dd l).Nodup := by
  induction l with
  | nil => exact List.nodup_nil
  | cons x t ih =>
    unfold dd
    split
    · exact ih
    · rename_i h
      exact List.nodup_cons.mpr ⟨fun z => h (mem_dd.mp z), ih⟩
theorem dd_le (l : List Int) : (dd l).length ≤ l.length := by
  induction l with
  | nil => exact Nat.le_refl _
  | cons x t ih =>
    unfold dd
    split
    · exact Nat.le_succ_of_le ih
    · exact Nat.succ_le_succ ih
theorem dd_eq {l : List Int} : (dd l).length = l.length ↔ l.Nodup := by
  induction l with
  | nil => exact ⟨fun _ => List.nodup_nil, fun _ => rfl⟩
  | cons x t ih =>
    unfold dd
    rw [List.nodup_cons]
    split
    · rename_i h
      constructor
      · intro e
        have := dd_le t
        rw [List.length_cons] at e
        omega
      · exact fun z => absurd h z.1
    · rename_i h
      rw [List.length_cons, List.length_cons]
      exact ⟨fun e => ⟨h, ih.mp (by omega)⟩, fun z => by rw [ih.mpr z.2]⟩
theorem pd_lenSet {p p2 q2 : Pos} {ns : List Int} (hc : X.calm = true) (hg : Gl X "len") (hm : X.mg "len" = none) (hg2 : Gl X "set") (hm2 : X.mg "set" = none) (ha : PD X M a σ H (sqD tp (ns.map PyData.int))) (hl : ns.length < 64)
    (na : starEach [a] X.env = (false, eval a X.env) :: starEach [] X.env := by rfl) : PD X M (.Call (.Name "len" p) [.Call (.Name "set" p2) [a] [] q2] [] pos) σ H (.int ((dd ns).length : Nat)) := .mk fun H1 e1 al Q q => by
  refine ⟨fun σ H Q => wE X a σ H fun x H1 => ∃ l, x = V.ref l ∧ (SqL X.K H1 l (ns.map V.int) ∨ SqT X.K H1 l (ns.map V.int)) ∧ Q (.int ((dd ns).length : Nat)) H1, ⟨fun pins s σ H Q J h => ?_⟩, ?_⟩
  · refine Call_ (ld_blt J hg hm PySem.boot_len (PyProof.Rows.callWith_builtin1 (PyProof.Rows.args_cons ?_ rfl) rfl rfl))
    refine Call_ (ld_blt J hg2 hm2 PyProof.Rows.boot_set (PyProof.Rows.callWith_type1 (PyProof.Rows.args_cons (thn (wE.pe.run pins s σ H _ J h) fun v s1 ⟨x, H1, J1, r1, l, e2, hq, q1⟩ => PyProof.Rows.args_nil ?_) na) na rfl))
    subst e2
    cases r1
    have fin : ∀ (g : Heap) (tk c : Nat), SetR X.w g s1.heap.objs.size (fun j => decide (j ∈ ns)) c → c ≤ ns.length → (∀ b o, s1.heap.get? b = some o → g.get? b = some o) →
        wpAny (model X.prog X.w) X.A (spliced (backTo pos (starEach [] X.env))) (fun vs s₂ => wpAny (model X.prog X.w) X.A (call (.builtin "len") (Value.ref s1.heap.objs.size :: vs)) (EP X pins σ Q) X.xe s₂) X.xe { s1 with heap := g, toks := tk } := by
      intro g tk c R hcl k
      refine PyProof.Rows.args_nil ?_
      obtain ⟨o, es, ep, t, ho, hex, hd, _, hnd, hmem, hsz, hf, hn, _⟩ := R
      have J2 : Inv X pins σ H1 { s1 with heap := g, toks := tk } := J1.kept k
      have hc' : c = (dd ns).length := by
        have pm : (es.toList.map keyOf).Perm (dd ns) := (List.perm_ext_iff_of_nodup hnd (nd_dd ns)).mpr fun k => by
          rw [← hmem k, mem_dd]
          exact decide_eq_true_iff
        have := pm.length_eq
        rw [List.length_map, Array.length_toList, hn] at this
        exact this
      refine call_len_set ho hex hd hf (by rw [hn] <;> omega) ⟨.int ((dd ns).length : Nat), H1, J2.tok _, ⟨_, by rw [hn, hc']⟩, q1⟩
    rcases hq with hq | hq
    · obtain ⟨its, r, pl, hz⟩ := J1.list hq
      exact set_ofL ns (J1.ok.hd hc) pl.isList (by simpa using r.ints) (by unfold scanBound; omega) fun g tk c R hcl k => fin g tk c R hcl k
    · obtain ⟨its, r, pl, hz⟩ := J1.tuple hq
      exact call_set_tupI ns (J1.ok.hd hc) pl (by simpa using r.ints) (by unfold scanBound; omega) fun g tk c R hcl k => fin g tk c R hcl k
  · refine ha.run H1 e1 al _ fun v H2 x2 r => ?_
    cases tp with
    | true =>
      cases r with
      | tup m hr rs => exact ⟨_, rfl, .inr (.inl (by rw [← rs.of_ints]; exact hr)), q _ H2 x2 (.int _)⟩
    | false =>
      cases r with
      | lst m hr rs => exact ⟨_, rfl, .inl (.inl (by rw [← rs.of_ints]; exact hr)), q _ H2 x2 (.int _)⟩
end
end GV

namespace AK
open PySem PySem.Spec PyProof.Rows L2 GV
section
variable {P : Program} {w : World} {K : PySem.W.Frag} {mg : Str → Option Value} {base : Heap}
abbrev intsD (ns : List Int) : PyData := .list (ns.map PyData.int)
abbrev tintsD (ns : List Int) : PyData := .tuple (ns.map PyData.int)
theorem kit_list (d : PyData) : kitB (tyD d) "list" = some (match d with | .list _ => true | _ => false) := by
  cases d with
  | none => exact (by decide +kernel : kitB "NoneType" "list" = some false)
  | bool _ => exact (by decide +kernel : kitB "bool" "list" = some false)
  | int _ => exact (by decide +kernel : kitB "int" "list" = some false)
  | str _ => exact (by decide +kernel : kitB "str" "list" = some false)
  | list _ => exact (by decide +kernel : kitB "list" "list" = some true)
  | tuple _ => exact (by decide +kernel : kitB "tuple" "list" = some false)
  | dict _ => exact (by decide +kernel : kitB "dict" "list" = some false)
theorem kit_tup (ds : List PyData) : kitB (tyD (.tuple ds)) "tuple" = some true := (by decide +kernel : kitB "tuple" "tuple" = some true)
theorem get_i {ns : List Int} {i : Nat} (h : i < ns.length) : ∃ z, ns[i]? = some z := ⟨_, List.getElem?_eq_getElem h⟩
def isSeqD : PyData → Bool
  | .list _ => true
  | .tuple _ => true
  | _ => false
def partsD : PyData → List PyData
  | .list ds => ds
  | .tuple ds => ds
  | _ => []
def isListD : PyData → Bool
  | .list _ => true
  | _ => false
def isTupD : PyData → Bool
  | .tuple _ => true
  | _ => false
theorem kit_l (d : PyData) : kitB (tyD d) "list" = some (isListD d) := by
  cases d with
  | none => exact (by decide +kernel : kitB "NoneType" "list" = some false)
  | bool _ => exact (by decide +kernel : kitB "bool" "list" = some false)
  | int _ => exact (by decide +kernel : kitB "int" "list" = some false)
  | str _ => exact (by decide +kernel : kitB "str" "list" = some false)
  | list _ => exact (by decide +kernel : kitB "list" "list" = some true)
  | tuple _ => exact (by decide +kernel : kitB "tuple" "list" = some false)
  | dict _ => exact (by decide +kernel : kitB "dict" "list" = some false)
theorem kit_t (d : PyData) : kitB (tyD d) "tuple" = some (isTupD d) := by
  cases d with
  | none => exact (by decide +kernel : kitB "NoneType" "tuple" = some false)
  | bool _ => exact (by decide +kernel : kitB "bool" "tuple" = some false)
  | int _ => exact (by decide +kernel : kitB "int" "tuple" = some false)
  | str _ => exact (by decide +kernel : kitB "str" "tuple" = some false)
  | list _ => exact (by decide +kernel : kitB "list" "tuple" = some false)
  | tuple _ => exact (by decide +kernel : kitB "tuple" "tuple" = some true)
  | dict _ => exact (by decide +kernel : kitB "dict" "tuple" = some false)
end
end AK

namespace AK
open PySem PySem.Spec PyProof.Rows L2 GV
section
variable {P : Program} {w : World} {K : PySem.W.Frag} {mg : Str → Option Value} {base : Heap}
abbrev potL (r c k : Int) : HO := .lst [.int r, .int c, .int k]
def spBox (K : PySem.W.Frag) : Sp := fun vs H Q _ => ∃ (M : Addr → Prop) (a : Addr) (ns : List Int) (i : Nat), vs = [.ref a, .int i] ∧ Alive M H ∧ ScAt K M H a ns ∧ ∀ p r c k H', H p = none → Evl.Ex H H' → H' p = some (potL r c k) → Q (.ref p) H'
theorem cl_law_box {f : Addr} {fd : FuncData} (F : At K mg "_law_box" s_law_box f fd) (nb : NoB mg) : Cl P w K mg base CX0 1 "_law_box" (spBox K) := by
  refine ⟨f, fd, _, F.fn.ok sc_law_box (fun vs H Q E h => ?_) (fun cdv A outer s H vs Q E hr h => ⟨_, wB.ps, ?_⟩), F.gl, F.fn.kp, F.fn.binds fun _ _ _ _ _ _ us hl => match us, hl with | [_, _], _ => rfl⟩
  · obtain ⟨M, a, ns, i, rfl, _⟩ := h
    rfl
  · obtain ⟨M, a, ns, i, rfl, al, r1, q⟩ := h
    have last : ∀ (c z : Int) H2, Evl.Ex H H2 → wB (cxOf CX0 P w K mg base n_law_box "_law_box" (defScope s_law_box) f cdv A outer s H E).nox ((defBody s_law_box).drop 4) { nx := fun _ H' => Q .non H', rt := Q } [some (.ref a), some (.int i), some (.int c), some (.int z)] H2 := by
      intro c z H2 x2
      refine b_cons (cs_ret (ce_fd (al.mono x2) (fd_lst (ad_cons (nm 3 (.int z)) (ad_cons (pd_mod (pd_intI nb rfl (nm 2 (.int c))) pd_int (by decide)) (ad_cons (pd_mul pd_int (nm 1 (.int (i : Int))) (.inl (by decide))) ad_nil))) (by simp)) fun p ws H3 hp x3 h3 rw3 => ?_))
      obtain ⟨u, v, x, rfl, a1, a2, a3⟩ := rpa3 rw3
      cases a1
      cases a2
      cases a3
      exact q p _ _ _ H3 (Evl.fresh_back x2 hp) (x2.trans x3) h3
    have mid : ∀ (c : Int) H2, Evl.Ex H H2 → wB (cxOf CX0 P w K mg base n_law_box "_law_box" (defScope s_law_box) f cdv A outer s H E).nox ((defBody s_law_box).drop 2) { nx := fun _ H' => Q .non H', rt := Q } [some (.ref a), some (.int i), some (.int c), none] H2 := by
      intro c H2 x2
      refine b_cons (s_set (i := 3) (al.mono x2) sc_law_box.nd rfl (.inl rfl) pd_int fun v H3 x3 r3 => ?_)
      cases r3
      refine b_cons (s_if ((al.mono x2).mono x3) (td_ge (nm 2 (.int c)) (pd_pow pd_int pd_int ⟨by decide, by decide, by decide⟩)) (fun _ H4 x4 => ?_) (fun _ H4 x4 => b_nil (last c 0 H4 ((x2.trans x3).trans x4))))
      exact b_cons (s_set (i := 3) (((al.mono x2).mono x3).mono x4) sc_law_box.nd rfl (.inl rfl) (nm 2 (.int c)) fun v H5 x5 r5 => by
        cases r5
        exact b_nil (last c c H5 (((x2.trans x3).trans x4).trans x5)))
    refine b_cons (s_set (i := 2) al sc_law_box.nd rfl (.inl rfl) pd_int fun v H1 x1 rv => ?_)
    cases rv
    have r1' := r1.mono (fun _ z => z) (ExM.of x1)
    refine b_cons (s_if (al.mono x1) (td_lt (nm 1 (.int (i : Int))) (pd_scLen (j := 0) r1' rfl nb.len)) (fun hk H2 x2 => ?_) (fun _ H2 x2 => b_nil (mid _ H2 (x1.trans x2))))
    have hi : i < ns.length := by
      have := of_decide_eq_true hk
      omega
    refine b_cons (s_set (i := 2) ((al.mono x1).mono x2) sc_law_box.nd rfl (.inl rfl) (pd_scIx (j := 0) (r1'.mono (fun _ z => z) (ExM.of x2)) (nm 1 (.int (i : Int))) (List.getElem?_eq_getElem hi)) fun v H3 x3 r3 => ?_)
    cases r3
    exact b_nil (mid _ H3 ((x1.trans x2).trans x3))
def ExB (b : Addr) (H H' : Hp) : Prop := ∀ a o, a ≠ b → H a = some o → H' a = some o
theorem ExB.of {b : Addr} {H H' : Hp} (e : Evl.Ex H H') : ExB b H H' := fun a o _ h => e a o h
theorem ExB.trans {b : Addr} {H H1 H2 : Hp} (e : ExB b H H1) (f : ExB b H1 H2) : ExB b H H2 := fun a o n h => f a o n (e a o n h)
theorem ExB.upd {b : Addr} {H : Hp} {o : HO} : ExB b H (upd H b o) := fun a u n h => by
  rw [upd_ne n]
  exact h
def spTake : Sp := fun vs H Q _ => ∃ (b : Addr) (n r c k : Int), vs = [.ref b, .int n] ∧ H b = some (potL r c k) ∧ 0 < n ∧ n.natAbs < 2 ^ 8000 ∧ ∀ z r' k' H', 0 ≤ z → z < n → ExB b H H' → H' b = some (potL r' c k') → Q (.int z) H'
theorem emod_lt' (a : Int) {m : Int} (h : 0 < m) : 0 ≤ a % m ∧ a % m < m := ⟨Int.emod_nonneg _ (by omega), Int.emod_lt_of_pos _ h⟩
theorem small_mul {i : Int} (h0 : 0 ≤ i) (h1 : i < 2147483648) : CMul i i := .inl ⟨by omega, by omega⟩
theorem cl_law_take {f : Addr} {fd : FuncData} (F : At K mg "_law_take" s_law_take f fd) (nb : NoB mg) : Cl P w K mg base CX0 1 "_law_take" spTake := by
  refine ⟨f, fd, _, F.fn.ok sc_law_take (fun vs H Q E h => ?_) (fun cdv A outer s H vs Q E hr h => ⟨_, wB.ps, ?_⟩), F.gl, F.fn.kp, F.fn.binds fun _ _ _ _ _ _ us hl => match us, hl with | [_, _], _ => rfl⟩
  · obtain ⟨b, n, r, c, k, rfl, _⟩ := h
    rfl
  · obtain ⟨b, n, r, c, k, rfl, hb, h0, hn, q⟩ := h
    have pot : ∀ {H' : Hp} {r c k : Int}, H' b = some (potL r c k) → Rp K M0 H' (.ref b) (.list [.int r, .int c, .int k]) := fun e => .lst (fun z => z) (.inl e) (.cons (.int _) (.cons (.int _) (.cons (.int _) .nil)))
    refine b_cons (s_if alive0 (td_gt (pd_ix (nm 0 (pot hb)) pd_int rfl) pd_int) (fun _ H4 x4 => ?_) (fun _ H4 x4 => ?_))
    · have hb4 := x4 _ _ hb
      refine b_cons (s_set (i := 2) alive0 sc_law_take.nd rfl (.inl rfl) (pd_mod (pd_intI nb rfl (pd_ix (nm 0 (pot hb4)) pd_int rfl)) (nm 1 (.int n)) h0) fun v H5 x5 r5 => ?_)
      cases r5
      have hb5 := x5 _ _ hb4
      refine b_cons (cs_sub (ce_pd alive0 (pd_div (pd_ix (nm 0 (pot hb5)) pd_int rfl) (nm 1 (.int n)) (wide_div h0 hn (by decide) (by decide))) fun v H6 x6 r6 => ce_name (i := 0) rfl (.inl rfl) rfl (ce_pd alive0 pd_int fun y H7 x7 r7 => ?_)))
      cases r6
      cases r7
      refine ⟨b, _, 0, 0, rfl, rfl, x7 _ _ (x6 _ _ hb5), rfl, ?_⟩
      refine b_cons (cs_ret (ce_name (i := 2) rfl (.inl rfl) rfl ?_))
      obtain ⟨z0, z1⟩ := emod_lt' r h0
      exact q _ _ k _ z0 z1 ((((ExB.of x4).trans (.of x5)).trans (.of (x6.trans x7))).trans .upd) upd_same
    · have hb4 := x4 _ _ hb
      refine b_nil (b_cons (cs_sub (ce_pd alive0 (pd_add (pd_ix (nm 0 (pot hb4)) pd_int rfl) pd_int) fun v H5 x5 r5 => ce_name (i := 0) rfl (.inl rfl) rfl (ce_pd alive0 pd_int fun y H6 x6 r6 => ?_))))
      cases r5
      cases r6
      refine ⟨b, _, 2, 2, rfl, rfl, x6 _ _ (x5 _ _ hb4), rfl, ?_⟩
      generalize hH7 : upd H6 b (.lst (List.set [V.int r, V.int c, V.int k] 2 (V.int (k + 1)))) = H7
      have hb7 : H7 b = some (potL r c (k + 1)) := by
        rw [← hH7, upd_same]
        rfl
      have e7 : ExB b H H7 := by
        rw [← hH7]
        exact (((ExB.of x4).trans (.of x5)).trans (.of x6)).trans .upd
      refine b_cons (s_set (i := 3) alive0 sc_law_take.nd rfl (.inl rfl) (pd_mod (pd_intI nb rfl (pd_add (pd_add (pd_mul (pd_ix (nm 0 (pot hb7)) pd_int rfl) pd_int (.inr (by decide))) (pd_mul (pd_ix (nm 0 (pot hb7)) pd_int rfl) pd_int (.inr (by decide)))) pd_int)) pd_int (by decide)) fun v H8 x8 r8 => ?_)
      cases r8
      have hb8 := x8 _ _ hb7
      generalize hlow : (c * 48271 + (k + 1) * 69621 + 7) % 2147483647 = low
      obtain ⟨l0, l1⟩ : 0 ≤ low ∧ low < 2147483647 := hlow ▸ emod_lt' _ (by decide)
      refine b_cons (s_set (i := 4) alive0 sc_law_take.nd rfl (.inl rfl) (pd_mod (pd_intI nb rfl (pd_add (pd_add (pd_mul (nm 3 (.int low)) (nm 3 (.int low)) (small_mul l0 (by omega))) (pd_mul (pd_ix (nm 0 (pot hb8)) pd_int rfl) pd_int (.inr (by decide)))) pd_int)) pd_int (by decide)) fun v H9 x9 r9 => ?_)
      cases r9
      generalize hmid : (low * low + (k + 1) * 40692 + 11) % 2147483399 = mid
      obtain ⟨m0, m1⟩ : 0 ≤ mid ∧ mid < 2147483399 := hmid ▸ emod_lt' _ (by decide)
      refine b_cons (s_ret alive0 (pd_mod (pd_intI nb rfl (pd_mod (pd_intI nb rfl (pd_add (pd_div (pd_mul (nm 4 (.int mid)) (nm 4 (.int mid)) (small_mul m0 (by omega))) pd_int (wide_div (b := 40) (by decide) (by decide) (by decide) (by decide))) (nm 3 (.int low)))) pd_int (by decide))) (nm 1 (.int n)) h0) fun v HA xA rA => ?_)
      cases rA
      obtain ⟨z0, z1⟩ := emod_lt' ((mid * mid / 64 + low) % 2147483587) h0
      exact q _ _ _ HA z0 z1 (e7.trans (.of ((x8.trans x9).trans xA))) (xA _ _ (x9 _ _ hb8))
end
end AK

/-! A list of lambdas, given to a name: their closures are pinned for the rest of the block. -/
namespace GV
open PySem PySem.Spec PyProof.Rows L2
structure Lm where
  ps : Arguments
  bd : Expr
  sc : Scope
  po : Pos
def Lm.e (l : Lm) : Expr := .Lambda l.ps l.bd l.sc l.po
def lmsOf : List Expr → List Lm
  | .Lambda a b c d :: es => ⟨a, b, c, d⟩ :: lmsOf es
  | _ => []
abbrev cloO (X : Cx) (l : Lm) (pm : Value) (c' : Addr) (ctv : Value) : Obj := PySem.W.kla_obj "<lambda>" (X.env.qual ++ "<lambda>") l.ps l.bd l.sc (cloFrom X.env.cells l.sc.names []) pm c' ctv
abbrev qlam (X : Cx) : Str := X.env.qual ++ "<lambda>"
/-- the closure of l stands at f -/
def CloAt (X : Cx) (pn : List (Addr × Obj)) (H : Hp) (l : Lm) (f : Addr) : Prop := ∃ pm c' ctv, (f, cloO X l pm c' ctv) ∈ pn ∧ H c' = some (LamX.CodeO c' (qlam X))
structure LmOk (X : Cx) (l : Lm) : Prop where
  sc : LamX.LamS X.env.scope l.sc
  df : defaultsOf l.ps X.env = ([], [])
  bi : ∀ (q : Str) (cl : List (Str × Addr)) (pm cv ctv : Value), bindArgs (PySem.W.kla_fn "<lambda>" q l.ps l.bd l.sc cl pm cv ctv) ⟨[], []⟩ = pure []
section
variable {X : Cx} {pins : List (Addr × Obj)} {σ : St} {H : Hp} {s : Shared}
theorem inv_pinF {f : Addr} {l : Lm} {pm ctv : Value} {c' : Addr} (I : Inv X pins σ H s) (hf : s.heap.get? f = some (cloO X l pm c' ctv)) (hn : H f = none) (hfr : f ∉ frs X.stack) : Inv X ((f, cloO X l pm c' ctv) :: pins) σ H s := by
  refine ⟨I.ok, I.os, I.bare, I.base, I.loc, I.cell, I.free, I.freeC, fun p hp => ?_, I.hok, I.len⟩
  rcases List.mem_append.mp hp with h | h
  · exact I.pin p (List.mem_append_left _ h)
  rcases List.mem_cons.mp h with e | h
  · subst e
    refine ⟨hf, hn, fun e => ?_, fun z => hfr ?_, fun v z => ?_⟩
    · obtain ⟨m, hns, _⟩ := I.loc
      obtain ⟨ob, es, ep, ho, r⟩ := hns
      have e : f = X.env.locals := e
      rw [← e, hf] at ho
      cases ho
      simp at r
    · rcases I.ok.stk with e | ⟨e, _⟩
      · rw [e]
        exact z
      · rw [e]
        show f ∈ List.filterMap (fun x : Env => x.frame) (X.env :: X.outer)
        rw [List.filterMap_cons]
        split
        · exact z
        · exact List.mem_cons_of_mem _ z
    · have z : (cloO X l pm c' ctv).data = .cell v := z
      cases z
  · exact I.pin p (List.mem_append_right _ h)
theorem inv_fewer {pn : List (Addr × Obj)} (I : Inv X (pn ++ pins) σ H s) : Inv X pins σ H s :=
  ⟨I.ok, I.os, I.bare, I.base, I.loc, I.cell, I.free, I.freeC, fun p hp => I.pin p ((List.mem_append.mp hp).elim (List.mem_append_left _) fun h => List.mem_append_right _ (List.mem_append_right _ h)), I.hok, I.len⟩
/-- all of them, one after another -/
theorem lams_eval {T : List (Addr × Str)} {c P : Addr} {pos : Pos} (TB : LamX.TabB X.base X.mg c P) (hcode : X.env.code = .ref c) (hm : (P, qlam X) ∈ T) (hu : ∀ p ∈ T, p.1 = P → p.2 = qlam X) :
    ∀ (ls : List Lm) {pins : List (Addr × Obj)} {H : Hp} {s : Shared} {Q : List Value → Shared → Prop}, (∀ l ∈ ls, LmOk X l) → Inv X pins σ H s → LamX.Tabs T H →
      (∀ (fs : List Addr) (pn : List (Addr × Obj)) (H1 : Hp) (s1 : Shared), Inv X (pn ++ pins) σ H1 s1 → LamX.ExtN H H1 → LamX.Tabs T H1 → fs.length = ls.length → (∀ (j : Nat) (l : Lm) (f : Addr), ls[j]? = some l → fs[j]? = some f → CloAt X (pn ++ pins) H1 l f) → Q (fs.map Value.ref) s1) →
      wpAny (model X.prog X.w) X.A (spliced (backTo pos (starEach (ls.map Lm.e) X.env))) Q X.xe s
  | [], pins, H, s, Q, _, I, hT, h => Calls.spliced_nil (h [] [] H s I (LamX.ExtN.refl H) hT rfl fun j l f h => by cases h)
  | l :: ls, pins, H, s, Q, ok, I, hT, h => by
    have okl := ok l (List.mem_cons_self ..)
    show wpAny _ _ (spliced ((false, eval (.Lambda l.ps l.bd l.sc l.po) X.env) :: backTo pos (starEach (ls.map Lm.e) X.env))) _ _ s
    refine Calls.spliced_cons (LamX.lam_make2 I TB hcode hm hu hT okl.df (LamX.LamS.has okl.sc I.ok) fun f c' pm ctv H1 s1 I1 eN T1 hf hfn hfr hco => ?_)
    refine lams_eval TB hcode hm hu ls (fun k hk => ok k (List.mem_cons_of_mem _ hk)) (inv_pinF I1 hf hfn hfr) T1 fun fs pn H2 s2 I2 e2 T2 hl hc => ?_
    have ea : pn ++ (f, cloO X l pm c' ctv) :: pins = (pn ++ [(f, cloO X l pm c' ctv)]) ++ pins := by simp
    rw [ea] at I2 hc
    refine h (f :: fs) (pn ++ [(f, cloO X l pm c' ctv)]) H2 s2 I2 (eN.trans e2) T2 (by simp [hl]) fun j k g hj hg => ?_
    cases j with
    | zero =>
      cases hj
      cases hg
      exact ⟨pm, c', ctv, by simp, e2 _ _ hco LamX.codeO_ne⟩
    | succ j => exact hc j k g hj hg
theorem b_lams {T : List (Addr × Str)} {c P : Addr} {i : Nat} {x : Str} {es : List Expr} {p1 p2 p3 : Pos} {rest : List Stmt} {D : Ends} (TB : LamX.TabB X.base X.mg c P) (hcode : X.env.code = .ref c) (hm : (P, qlam X) ∈ T) (hu : ∀ p ∈ T, p.1 = P → p.2 = qlam X)
    (hN : X.N.Nodup) (hi : X.N[i]? = some x) (hx : Loc X.env.scope x) (ok : ∀ l ∈ lmsOf es, LmOk X l) (hT : LamX.Tabs T H) (hl : (lmsOf es).length ≤ 100)
    (h : ∀ (pn : List (Addr × Obj)) (fs : List Addr) (H1 : Hp) (p : Addr), LamX.ExtN H H1 → LamX.Tabs T H1 → H1 p = none → fs.length = (lmsOf es).length → (∀ (j : Nat) (l : Lm) (f : Addr), (lmsOf es)[j]? = some l → fs[j]? = some f → CloAt X pn H1 l f) →
      wB (X.tr pn X.xe) rest D (σ.set i (some (.ref p))) (upd H1 p (.lst (fs.map V.ref))))
    (he : es = (lmsOf es).map Lm.e := by rfl) (hs : swapsWith (.List es p2) (some (.Name x p1)) p3.line X.env = pure false := by rfl) (hf : X.fn x = true ∨ X.env.scope.names.lookup x = some .local := by first | exact .inl rfl | exact .inr rfl | assumption) :
    wB X (.Assign [.Name x p1] (.List es p2) p3 :: rest) D σ H := by
  refine ⟨fun D σ H => LamX.Tabs T H ∧ ∀ (pn : List (Addr × Obj)) (fs : List Addr) (H1 : Hp) (p : Addr), LamX.ExtN H H1 → LamX.Tabs T H1 → H1 p = none → fs.length = (lmsOf es).length → (∀ (j : Nat) (l : Lm) (f : Addr), (lmsOf es)[j]? = some l → fs[j]? = some f → CloAt X pn H1 l f) →
      wB (X.tr pn X.xe) rest D (σ.set i (some (.ref p))) (upd H1 p (.lst (fs.map V.ref))), ⟨fun pins s σ H D I hq => ?_⟩, hT, h⟩
  obtain ⟨hT, hq⟩ := hq
  refine wpAny_execs_cons (wpAny_Assign_Name (wpAny_List_spliced ?_) hs)
  rw [he]
  refine lams_eval TB hcode hm hu (lmsOf es) ok I hT fun fs pn H1 s1 I1 e1 T1 hlen hc => ⟨?_, ?_⟩
  · rw [List.length_map, hlen]
    exact Nat.le_trans hl (by decide)
  have hp : H1 s1.heap.objs.size = none := I1.hok.fresh (Nat.le_refl _)
  have rv : Vals (fs.map V.ref) (fs.map Value.ref) := by
    clear hlen hc
    induction fs with
    | nil => exact .nil
    | cons f t ih => exact .cons rfl ih
  have I2 : Inv X (pn ++ pins) σ (upd H1 s1.heap.objs.size (.lst (fs.map V.ref))) { s1 with heap := s1.heap.push { cls := .type "list", data := .seq (fs.map Value.ref).toArray } } :=
    I1.laid (t' := s1.toks) (fun b u e => Heap.get?_push_of_some _ e) (Nat.le_refl _) ⟨by rw [List.length_map, hlen]; exact Nat.le_trans hl (by decide), _, 0, rv, Heap.get?_push_size _ rfl⟩
  refine store_ok I2 hN hi hx (v := .ref s1.heap.objs.size) rfl (fun s2 I3 => ?_) hf
  have hr := hq (X.pn ++ (pn ++ pins)) fs H1 s1.heap.objs.size e1 T1 hp hlen fun j l f hj hf => by
    obtain ⟨pm, c', ctv, h1, h2⟩ := hc j l f hj hf
    exact ⟨pm, c', ctv, List.mem_append_right _ h1, h2⟩
  refine thn ((wB.ps (X := X.tr (X.pn ++ (pn ++ pins)) X.xe)).run [] s2 _ _ D (I3.toTry X.xe) hr) fun f s3 q => ?_
  cases f with
  | next =>
    obtain ⟨σ', H', I', q⟩ := q
    exact ⟨σ', H', inv_fewer (I'.ofTry I.ok), q⟩
  | ret v =>
    obtain ⟨v, σ', H', I', q⟩ := q
    exact ⟨v, σ', H', inv_fewer (I'.ofTry I.ok), q⟩
  | brk =>
    obtain ⟨σ', H', I', q⟩ := q
    exact ⟨σ', H', inv_fewer (I'.ofTry I.ok), q⟩
  | cont =>
    obtain ⟨σ', H', I', q⟩ := q
    exact ⟨σ', H', inv_fewer (I'.ofTry I.ok), q⟩
/-- a walk over a list of whatever -/
theorem s_forL {e : Expr} {pos p2 : Pos} {slot : Nat} {x : Str} {body : List Stmt} {D : Ends} (hp : PassesOwn (model X.prog X.w) X.A X.env X.xe) (hc : X.calm = true) (hN : X.N.Nodup) (hx : X.N[slot]? = some x) (hl : Loc X.env.scope x)
    (h : wE X e σ H fun v H1 => ∃ (l : Addr) (xs : List V) (J : Nat → St → Hp → Prop), v = .ref l ∧ J 0 σ H1 ∧ (∀ i σ' H', J i σ' H' → H' l = some (.lst xs)) ∧
      (∀ i σ' H' y, xs[i]? = some y → J i σ' H' → wB X body { D with nx := J (i + 1), ct := J (i + 1), bk := D.nx } (σ'.set slot (some y)) H') ∧ ∀ σ' H', J xs.length σ' H' → D.nx σ' H')
    (hf : ∀ x, foldedSetIterable e X.env x = pure x := by intro _; rfl) (hfn : X.fn x = true ∨ X.env.scope.names.lookup x = some .local := by first | exact .inl rfl | exact .inr rfl | assumption) : wS X (.For (.Name x p2) e body [] pos) D σ H := by
  refine ⟨_, ps_for hp hc (pi_list wE.pe) (pg_name hN hx hl hfn) wB.ps hf, wE.weak h ?_⟩
  rintro v H1 ⟨l, xs, J, rfl, h0, hk, ht, hd⟩
  refine ⟨l, rfl, ⟨xs, .inl (.inl (hk _ _ _ h0))⟩, fun i m σ' H' => m = xs.length - i ∧ i ≤ xs.length ∧ J i σ' H', ⟨xs.length, rfl, Nat.zero_le _, h0⟩, ?_⟩
  rintro i m σ' H' ⟨rfl, hi', j⟩
  have hl := hk _ _ _ j
  by_cases hlt : i < xs.length
  · refine .inr ⟨⟨xs, xs[i], .inl (.inl hl), List.getElem?_eq_getElem hlt⟩, J (i + 1), fun σ2 H2 j2 => ⟨xs.length - (i + 1), by omega, rfl, hlt, j2⟩, fun y H2 q => ?_⟩
    obtain ⟨rfl, q⟩ := q
    exact ht i σ' _ y (q xs (.inl (.inl hl))) j
  · have e2 : i = xs.length := by omega
    subst e2
    exact .inl ⟨⟨xs, .inl (.inl hl), Nat.le_refl _⟩, hd σ' H' j⟩
end
end GV

/-! min(e, key=lambda a: ..), e a list of whole numbers: the first of those with the least key -/
namespace GV
open PySem PySem.Spec PyProof.Rows L2
/-- a list's iterator at turn i, whatever the tokens of its whole numbers -/
def ItS (I l : Addr) (ns : List Int) (i : Nat) (s : Shared) : Prop := s.heap.IsListIter I l i ∧ ∃ xs : Array Value, s.heap.IsList l xs ∧ IntsAre xs.toList ns
def IntP (ns : List Int) (i : Nat) (v : Value) : Prop := ∃ t, v = .int (ns.getD i 0) t
theorem walk_ints {prog : Program} {w : World} {A : Around} (hh : A.handled = none) (I l : Addr) (ne : l ≠ I) (ns : List Int) : WalksS prog w A I [I, l] [I] (fun a b => b = a) ns.length (IntP ns) (ItS I l ns) where
  sub := fun b hb => by
    rw [List.mem_singleton.mp hb]
    exact List.mem_cons_self ..
  grefl := fun _ => rfl
  gtrans := fun _ _ _ p q => q.trans p
  frame := fun i s h' tk ⟨si, xs, sl, sn⟩ _ hk => by
    obtain ⟨o1, a1, r1⟩ := si
    obtain ⟨o2, a2, r2⟩ := sl
    exact ⟨⟨o1, hk I (by simp) o1 a1, r1⟩, xs, ⟨o2, hk l (by simp) o2 a2, r2⟩, sn⟩
  item := fun i s Q E hi ⟨si, xs, sl, sn⟩ hQ => by
    have hx : i < xs.size := by
      rw [← Array.length_toList, IntsAre.length sn]
      exact hi
    obtain ⟨t, e⟩ := IntsAre.int_at sn i xs[i] (by simp [hx])
    refine wpAny_pyNext_list_item si sl (x := xs[i]) (by simp [hx]) fun g si' sb => ?_
    refine hQ _ { s with heap := g } ⟨t, ?_⟩ ⟨si', xs, sl.extBut sb.extBut ne, sn⟩ ⟨fun b o nb q => sb.extBut b o (fun z => nb (by simp [z])) q, rfl, rfl, rfl, Nat.le_refl _⟩
    rw [e]
  done := fun s Q E ⟨si, xs, sl, sn⟩ hQ => by
    have hx : xs[ns.length]? = none := by
      rw [← IntsAre.length sn, Array.length_toList]
      simp
    exact wpAny_pyNext_list_end hh si sl hx fun g xb => hQ { s with heap := g } ⟨fun b o nb q => xb b o (fun z => nb (by simp [z])) q, rfl, rfl, rfl, Nat.le_refl _⟩
  self := fun i s Q E st q => wpAny_pyIter_listiter st.1 q
/-- a lambda of one parameter: captured names, globals, and the parameter -/
structure Lam1S (sc scope : Scope) (a : Str) : Prop where
  kind : scope.kind = .function
  co : scope.isCoroutine = false
  gen : scope.isGenerator = false
  cell : ∀ y ∈ scope.names, y.2 ≠ .cell
  loc : ∀ y ∈ scope.names, y.2 = .local → y.1 = a
  par : scope.names.lookup a = some .local
  free : ∀ y ∈ scope.names, y.2 = .free → sc.names.lookup y.1 = some .cell ∨ sc.names.lookup y.1 = some .free
def lam1B (sc scope : Scope) (a : Str) : Bool :=
  decide (scope.kind = .function) && !scope.isCoroutine && !scope.isGenerator && decide (scope.names.lookup a = some .local) && scope.names.all fun y => !decide (y.2 = .cell) && (!decide (y.2 = .local) || decide (y.1 = a)) && (!decide (y.2 = .free) || (decide (sc.names.lookup y.1 = some .cell) || decide (sc.names.lookup y.1 = some .free)))
theorem lam1_by {sc scope : Scope} {a : Str} (h : lam1B sc scope a = true) : Lam1S sc scope a := by
  unfold lam1B at h
  simp only [Bool.and_eq_true, Bool.or_eq_true, Bool.not_eq_true', decide_eq_true_eq, decide_eq_false_iff_not, List.all_eq_true] at h
  obtain ⟨⟨⟨⟨k1, k2⟩, k3⟩, k4⟩, k5⟩ := h
  exact ⟨k1, k2, k3, fun y m => (k5 y m).1.1, fun y m e => (k5 y m).1.2.resolve_left (fun z => z e), k4, fun y m e => (k5 y m).2.resolve_left (fun z => z e)⟩
section
variable {X : Cx} {pins : List (Addr × Obj)} {σ : L2.St} {H HZ : Hp} {s s1 : Shared}
theorem Lam1S.has {a : Str} {scope : Scope} (L : Lam1S X.env.scope scope a) (ok : X.Ok) : ∀ y ∈ scope.names, y.2 = .free → ∃ c, X.env.cells.lookup y.1 = some c := fun y m e => (L.free y m e).elim (fun z => ok.has _ (.inl z)) fun z => ok.has _ (.inr z)
/-- the lambda's body is entered: its parameter stands in slot i -/
theorem lam1_start {A : Around} {outer : List Env} {E : XK} {scope : Scope} {f c' : Addr} {g : Heap} {tk i : Nat} {a : Str} {v : V} {u : Value} (I : Inv X pins σ H s) (L : Lam1S X.env.scope scope a) (hN : X.N.Nodup) (hi : X.N[i]? = some a) (rv : RelV v u) (e0 : Env0 X.prog X.w X.K X.mg X.base A outer s1 HZ) (hd : A.handled = none)
    (un : Un (frs X.stack) [] H HZ s.heap s1.heap) (hns : g.Ns s1.heap.objs.size fun y => ([(a, u)] : List (Str × Value)).reverse.lookup y) (kp : ∀ b o, s1.heap.get? b = some o → g.get? b = some o) :
    Inv (LamX.lamCx X A outer s1 HZ E scope f c') [] (σ.set i (some v)) HZ { s1 with heap := g, toks := tk } := by
  have has := L.has I.ok
  have up : ∀ {y c}, (cloFrom X.env.cells scope.names []).lookup y = some c → X.env.cells.lookup y = some c := fun {y c} e => by
    rcases cloFrom_mem (PySem.mem_of_lookup e) with z | ⟨z1, z2⟩
    · cases z
    · obtain ⟨d, hd⟩ := has _ z1 rfl
      have hd : X.env.cells.lookup y = some d := hd
      rw [z2, hd] <;> rfl
  have low : ∀ {y}, scope.names.lookup y = some .free → ∃ c, (cloFrom X.env.cells scope.names []).lookup y = some c := fun {y} e => mem_lookup (cloFrom_has (cells := X.env.cells) (acc := []) (show (y, NameKind.free) ∈ scope.names from PySem.mem_of_lookup e))
  have ck : ∀ {c : Addr} {z : Option Value}, H c = none → s.heap.IsCell c z → g.IsCell c z := fun {c z} n ⟨o, ho, hz⟩ => by
    obtain ⟨sl, q⟩ := un.any ho n (by simp)
    exact ⟨_, kp _ _ q, hz⟩
  have nx : ∀ b : Addr, ¬ b ∈ (LamX.lamCx X A outer s1 HZ E scope f c').ex := fun b z => by
    have z : b ∈ ([] : List Addr) := z
    cases z
  refine ⟨⟨e0.mod, L.kind, rfl, rfl, Nat.le_refl _, fun y z c p q => I.ok.inj y z c (up p) (up q), fun y hy => ?_, fun y c z _ => ?_, fun _ => hd, Around.frames_deeper e0.frames, .inr ⟨rfl, rfl⟩, fun b z => (nx b z).elim, e0.bs, e0.bsz, fun b _ _ => nx b, fun b z => (nx b z).elim, e0.funs, e0.frf⟩, rfl, e0.bare, Un.kept kp, ⟨_, hns, fun j y w p q k => ?_⟩, fun y c e => ?_, e0.hok.fresh (Nat.le_refl _), fun y c e => ?_, fun q hq => ?_, e0.hok.kept kp, by rw [List.length_set]; exact I.len⟩
  · have hy : scope.names.lookup y = some .cell ∨ scope.names.lookup y = some .free := hy
    rcases hy with hy | hy
    · exact (L.cell _ (PySem.mem_of_lookup hy) rfl).elim
    · exact low hy
  · have z : false = true := z
    cases z
  · have k : Vis scope y := k
    rcases k with k | k | k
    · have e : y = a := L.loc _ (PySem.mem_of_lookup k) rfl
      subst e
      have hj := (List.getElem?_eq_some_iff.mp p).1
      have ji : j = i := (List.getElem?_inj hj hN).mp (p.trans hi.symm)
      subst ji
      rw [List.getElem?_set_self (by rw [I.len]; exact hj)] at q
      cases q
      exact ⟨u, rv, .inl ⟨k, by simp⟩⟩
    · exact (L.cell _ (PySem.mem_of_lookup k) rfl).elim
    · have ji : i ≠ j := fun e => by
        subst e
        have p : X.N[i]? = some y := p
        rw [hi] at p
        cases p
        rw [L.par] at k
        cases k
      rw [List.getElem?_set_ne ji] at q
      obtain ⟨m, hn, look⟩ := I.loc
      have fr := L.free _ (PySem.mem_of_lookup k) rfl
      have vis : Vis X.env.scope y := fr.elim (fun z => .inr (.inl z)) fun z => .inr (.inr z)
      obtain ⟨x, r, z⟩ := look j y w p q vis
      obtain ⟨d, hd⟩ := low k
      refine ⟨x, r, .inr ⟨.inr k, d, hd, ?_⟩⟩
      rcases z with ⟨z, _⟩ | ⟨_, d', e', z⟩
      · have z : X.env.scope.names.lookup y = some .local := z
        rcases fr with e | e <;> (have e : X.env.scope.names.lookup y = _ := e; rw [z] at e; cases e)
      · rw [up hd] at e'
        cases e'
        exact ck (I.freeC y _ (up hd)) z
  · obtain ⟨x, z⟩ := I.cell y c (up e)
    exact ⟨x, ck (I.freeC y c (up e)) z⟩
  · obtain ⟨x, o, ho, hz⟩ := I.cell y c (up e)
    exact un.free c o ho (I.freeC y c (up e)) (by simp)
  · have hq : q ∈ ([] : List (Addr × Obj)) ++ [] := hq
    cases hq
end
end GV

namespace GV
open PySem PySem.Spec PyProof.Rows L2
/-- item i of ns has the lesser key -/
def keyB (key : Int → Int) (ns : List Int) (i j : Nat) : Bool := decide (key (ns.getD i 0) < key (ns.getD j 0))
def firstK (key : Int → Int) (ns : List Int) : Int := ns.getD (argBest (keyB key ns) (ns.length - 1)) 0
section
variable {X : Cx} {σ : L2.St} {H : Hp} {e : Expr}
def rMinKey (X : Cx) (T : List (Addr × Str)) (k i : Nat) (body : Expr) (scope : Scope) (σ : L2.St) (key : Int → Int) (v : V) (H1 : Hp) (Q : VK) : Prop :=
  ∃ l ns, v = .ref l ∧ SqL X.K H1 l (ns.map V.int) ∧ ns ≠ [] ∧ LamX.Tabs T H1 ∧ ∀ H2, LamX.ExtN H1 H2 → LamX.Tabs T H2 →
    (∀ z ∈ ns, ∀ A outer s H0 f c' H3, Room k (A.deeper (LamX.lamEnv X scope s.heap.objs.size f c')) → Evl.Ex H2 H3 → wE (LamX.lamCx X A outer s H0 C8.E0 scope f c') body (σ.set i (some (.int z))) H3 fun u H4 => u = .int (key z) ∧ Evl.Ex H3 H4) ∧
    ∀ H4, Evl.Ex H2 H4 → Q (.int (firstK key ns)) H4
theorem ce_minKey {T : List (Addr × Str)} {c P : Addr} {k i : Nat} {a : Str} {params : Arguments} {body : Expr} {scope : Scope} {p lpos kp pos : Pos} {Q : VK} (key : Int → Int)
    (hc : X.calm = true) (hN : X.N.Nodup) (hi : X.N[i]? = some a) (hg : Gl X "min") (hm : X.mg "min" = none) (hr : Room (k + 2) X.A)
    (TB : LamX.TabB X.base X.mg c P) (hcode : X.env.code = .ref c) (hmT : (P, X.env.qual ++ "<lambda>") ∈ T) (hu : ∀ p ∈ T, p.1 = P → p.2 = X.env.qual ++ "<lambda>")
    (L : Lam1S X.env.scope scope a) (hdef : defaultsOf params X.env = ([], [])) (hbind : ∀ (q : Str) (cl : List (Str × Addr)) (pm cv ctv v : Value), bindArgs (PySem.W.kla_fn "<lambda>" q params body scope cl pm cv ctv) ⟨[v], []⟩ = pure [(a, v)])
    (h : wE X e σ H fun v H1 => rMinKey X T k i body scope σ key v H1 Q)
    (h1 : starEach (e :: []) X.env = (false, eval e X.env) :: starEach [] X.env := by rfl) (he : backTo pos (starEach (e :: []) X.env) = (false, eval e X.env) :: backTo pos (starEach [] X.env) := by rfl) (hpl : (backTo pos (starEach (e :: []) X.env)).any (·.1) = false := by rfl)
    (hall : (backToKw pos (keywordEach [⟨some "key", .Lambda params body scope lpos, kp⟩] X.env)).all (·.1.isSome) = true := by rfl) (hnone : (backToKw pos (keywordEach [⟨some "key", .Lambda params body scope lpos, kp⟩] X.env)).any (·.1.isNone) = false := by rfl)
    (hks : (backToKw pos (keywordEach [⟨some "key", .Lambda params body scope lpos, kp⟩] X.env)).filterMap (·.1) = (["key"] : List Str) := by rfl) :
    wE X (.Call (.Name "min" p) [e] [⟨some "key", .Lambda params body scope lpos, kp⟩] pos) σ H Q := by
  refine ⟨fun σ' H' Q' => σ' = σ ∧ wE X e σ H' fun v H1 => rMinKey X T k i body scope σ key v H1 Q', ⟨fun pins s σ' H' Q' I hq => ?_⟩, rfl, h⟩
  obtain ⟨e1, hq⟩ := hq
  subst e1
  refine wpAny_Call_Name_kw (ld_blt I hg hm PyProof.Rows.boot_min ?_ (by decide) (by decide))
  refine PyProof.Rows.callWith_kw (thn ((pa_cons wE.pe pa_nil h1).run pos pins s σ' H' (fun vs H1 => ∃ v, vs = [v] ∧ rMinKey X T k i body scope σ' key v H1 Q') I (wE.weak hq fun v H1 z => ⟨v, rfl, z⟩)) fun us s1 ⟨vs, H1, I1, r1, v, ev, q1⟩ => ?_) he hpl hall hnone
  subst ev
  obtain ⟨l, ns, ev, hs, hne, hT, q1⟩ := q1
  subst ev
  rw [Vals.ref1 r1, hks]
  show wpAny _ _ (evalAll ((do let v ← eval (.Lambda params body scope lpos) X.env; standAt pos; pure v) :: (backToKw pos (keywordEach [] X.env)).map (·.2))) _ _ s1
  refine wpAny_evalAll_cons (wpAny_bind (LamX.lam_make2 I1 TB hcode hmT hu hT hdef (L.has I1.ok) fun f c' pm ctv H2 s2 I2 eN T2 hf hfn hfr hco => wpAny_bind (wpAny_standAt (wpAny_pure (wpAny_evalAll_nil ?_)))))
  show wpAny _ _ (call (.builtin "min") [.ref l] [(Str.ofString "key", .ref f)]) _ _ s2
  obtain ⟨hb, hQ⟩ := q1 H2 eN T2
  have hs2 : SqL X.K H2 l (ns.map V.int) := hs.imp (fun z => z.imp (fun z => eN _ _ z fun _ z => by cases z) fun ⟨o, z⟩ => ⟨o, eN _ _ z fun _ z => by cases z⟩) id
  obtain ⟨its, rvs, pl, _⟩ := I2.list hs2
  have hd := I2.ok.hd hc
  have lt : l < s2.heap.objs.size := let ⟨_, q, _⟩ := pl.isList; Heap.lt_size q
  have ltf := Heap.lt_size hf
  refine call_min_walkK (wpAny_pyIter_list pl.isList ?_)
  have szI : ∀ ob : Obj, (s2.heap.push ob).objs.size = s2.heap.objs.size + 1 := fun ob => Heap.size_push ..
  refine ⟨s2.heap.objs.size, [s2.heap.objs.size, l], [s2.heap.objs.size], fun a b => b = a, ns.length, IntP ns, ItS s2.heap.objs.size l ns,
    fun s => ∃ H', Evl.Ex H2 H' ∧ Inv X pins σ' H' s ∧ H' s2.heap.objs.size = none ∧ H' (s2.heap.objs.size + 1) = none ∧ s.heap.get? f = some (PySem.W.kla_obj "<lambda>" (X.env.qual ++ "<lambda>") params body scope (cloFrom X.env.cells scope.names []) pm c' ctv) ∧ H' f = none,
    fun j u _ => ∃ t, u = .int (key (ns.getD j 0)) t, keyB key ns, rfl, walk_ints (by exact hd) _ l (Nat.ne_of_lt lt) ns, ⟨⟨_, Heap.get?_push_size _ rfl, rfl, rfl⟩, its.toArray, pl.isList.push _, by simpa using rvs.ints⟩, ?_, List.length_pos_iff.mpr hne, ?_, ?_, ?_⟩
  · intro b hb
    rw [szI]
    rcases List.mem_cons.mp hb with e | hb
    · rw [e]
      exact Nat.lt_succ_self _
    · rw [List.mem_singleton.mp hb]
      exact Nat.lt_succ_of_lt lt
  · rw [szI]
    refine ⟨fun s s' ⟨H', x, J, n1, n2, hf', n3⟩ mv => ?_, fun _ _ _ _ z _ => z, fun j v s o Q E hj hP hJ hst hS kk => ?_, fun i j ki kj s Q E _ ⟨t, e1⟩ ⟨u, e2⟩ q => ?_⟩
    · obtain ⟨g, gn, dr, tk, os⟩ := s'
      obtain rfl : gn = s.gens := mv.gens
      obtain rfl : dr = s.drawn := mv.drawn
      obtain rfl : os = s.os := mv.os
      refine ⟨H', x, J.turnedL (ch := [s2.heap.objs.size + 1, s2.heap.objs.size]) (fun b o nb e => mv.heap b o nb e) (fun b hb => ?_), n1, n2, mv.heap _ _ ?_ hf', n3⟩
      · rcases List.mem_cons.mp hb with e | hb
        · rw [e]
          exact I2.fpOk (Nat.le_succ _) n2
        · rw [List.mem_singleton.mp hb]
          exact I2.fpOk (Nat.le_refl _) n1
      · simp only [List.mem_cons, List.not_mem_nil, or_false, not_or]
        exact ⟨Nat.ne_of_lt (Nat.lt_succ_of_lt ltf), Nat.ne_of_lt ltf⟩
    · obtain ⟨H', x, J, n1, n2, hf', hfn'⟩ := hJ
      obtain ⟨t, ev⟩ := hP
      obtain ⟨si, _⟩ := hst
      subst ev
      generalize hz : ns.getD j 0 = z at *
      have zm : z ∈ ns := by
        rw [← hz, List.getD_eq_getElem?_getD, List.getElem?_eq_getElem hj, Option.getD_some]
        exact List.getElem_mem _
      obtain ⟨⟨oc, vs, tt, hoc, hdc, hvc⟩, _, _⟩ := J.hok c' _ (x _ _ hco)
      have r1 : Room (k + 1) X.A.in1 := hr.in1
      have rc : codeAny (model X.prog X.w) X.A.in1 (.call (.ref f) ⟨[.int z t], []⟩) (L2.CR (L2.CX X.prog X.w) X.stack X.prog X.w H' s (fun u H4 => u = .int (key z) ∧ Evl.Ex H' H4) C8.E0) s := by
        refine PySem.W.kla_callFunE r1.depth hf' rfl L.co L.gen rfl ⟨c', oc, vs, tt, rfl, hoc, hdc, hvc⟩ ?_
        rw [hbind]
        refine wpAny_pure (wpAny_newFunctionEnv L.cell (fun y hy => by rw [List.mem_singleton.mp hy]; exact L.par) (fun g hns hsb => ⟨J.nolimit.fresh _ hsb, ?_⟩) L.kind)
        show codeAny _ _ (.expr body (LamX.lamEnv X scope s.heap.objs.size f c')) _ _
        have Jn : Inv (LamX.lamCx X X.A.in1 X.stack s H' C8.E0 scope f c') [] (σ'.set i (some (.int z))) H' { s with heap := g, toks := s.toks + ([(a, Value.int z t)] : List (Str × Value)).length } :=
          lam1_start J L hN hi ⟨t, rfl⟩ J.env0.in1 r1.hd Un.refl hns fun b o e => hsb.extBut b o (Nat.ne_of_lt (Heap.lt_size e)) (Heap.get?_push_of_some _ e)
        refine PySem.W.kla_codeExpr (wpAny_mono (wE.pe.run [] _ _ H' _ Jn (hb z zm _ _ _ _ f c' H' (r1.deeper _) x)) (fun v s' hq => ?_) fun e s' hq => hq)
        obtain ⟨w', H'', J', rv, q⟩ := hq
        exact ⟨w', H'', J'.os, J'.bare, J'.base, J'.hok, rv, q⟩
      refine wpAny_call (codeAny_mono rc fun r s' hr' => ?_)
      rcases r with er | fl
      · obtain ⟨_, _, _, _, _, _, _, _, _, _, _, _, z⟩ := hr'
        exact z.elim
      rcases fl with _ | _ | _ | u
      iterate 3 exact hr'.elim
      obtain ⟨v, H4, os, bare, un, hok, rv, ev, x4⟩ := hr'
      subst ev
      obtain ⟨t', eu⟩ := rv
      subst eu
      have J4 : Inv X pins σ' H4 s' := J.call' (ch := []) os un hok bare fun _ z => by cases z
      have hS' : s.heap.get? (s2.heap.objs.size + 1) = some o := hS
      obtain ⟨oi, ai, ri⟩ := si
      have nf : ∀ b, s2.heap.objs.size ≤ b → b ∉ frs X.stack := fun b hb z => by
        rcases List.mem_cons.mp (I2.stkSub _ z) with e | e
        · exact absurd (Nat.lt_of_le_of_lt hb (by rw [e]; exact I2.lt)) (Nat.lt_irrefl _)
        · exact I2.nofs hb e
      have ki := un.keep _ _ ai n1 (nf _ (Nat.le_refl _)) (by simp)
      have kS := un.keep _ _ hS' n2 (nf _ (Nat.le_succ _)) (by simp)
      have kf := un.keep _ _ hf' hfn' hfr (by simp)
      obtain ⟨its4, rv4, pl4, _⟩ := J4.list (show SqL X.K H4 l (ns.map V.int) from hs2.imp (fun z => z.imp (fun z => x4 _ _ (x _ _ z)) fun ⟨o, z⟩ => ⟨o, x4 _ _ (x _ _ z)⟩) id)
      refine kk _ _ ⟨H4, x.trans x4, J4, un.free _ _ ai n1 (by simp), un.free _ _ hS' n2 (by simp), kf, un.free _ _ hf' hfn' (by simp)⟩ ⟨⟨oi, ki, ri⟩, its4.toArray, pl4.isList, by simpa using rv4.ints⟩ kS ⟨t', rfl⟩ fun _ _ z => z
    · subst e1
      subst e2
      exact wpAny_lt_int q
  · exact ⟨H2, Evl.Ex.refl H2, I2.kept fun b o e => Heap.get?_push_of_some _ e, I2.hok.fresh (Nat.le_refl _), I2.hok.fresh (Nat.le_succ _), Heap.get?_push_of_some _ hf, hfn⟩
  · rintro v s' ⟨t, ev⟩ ⟨H', x, J, _, _, _, _⟩
    exact ⟨.int (firstK key ns), H', J, ⟨t, ev⟩, hQ H' x⟩
end
end GV

/-! isinstance of an exception that has attributes: the library's kitx_exc, carried to the suite of an except clause -/
namespace GV
open PySem PySem.Spec PyProof.Rows L2
theorem call_isEd {X : Cx} {a D dd : Addr} {oe : Obj} {fs : List (Str × V)} {pn : List (Addr × Obj)} (C : ExcC X.K D) (hz : Zc (.ref D) (some dd) oe) (hf : ∃ vs, oe.data = .fields vs) :
    CallR (X.suite a ((a, oe) :: pn)) (.builtin "isinstance") (fun xs H Q => H dd = some (.xd fs) ∧ rIsE X.K D a xs H Q) := by
  intro pins s σ H xs us Q J r h
  obtain ⟨hdd, c, cv, b, rfl, hcv, e, q⟩ := h
  obtain ⟨u1, u2, rfl, rx, rt⟩ : ∃ u1 u2, us = [u1, u2] ∧ L2.RelV (.ref a) u1 ∧ L2.RelV c u2 := by
    rcases r with _ | ⟨rx, _ | ⟨rt, _ | _⟩⟩
    exact ⟨_, _, rfl, rx, rt⟩
  cases rx
  have ec := hcv _ rt
  subst ec
  have ha := (J.pin (a, oe) (List.mem_append.mpr (.inl (List.mem_cons_self ..)))).1
  obtain ⟨mA, hns, _⟩ := (show ObjOk X.prog X.w H s.heap dd (.xd fs) from J.hok dd _ hdd)
  obtain ⟨od, ho, _⟩ := lookIn_ns hns
  obtain ⟨vs, hv⟩ := hf
  have no : PySem.W.notCls oe = true := by
    unfold PySem.W.notCls
    rw [hv] <;> rfl
  have at_ : PySem.W.InstAt s.heap a oe D (some od) := ⟨ha, hz.1, no, by rw [hz.2]; exact ho⟩
  have hcl : (PySem.W.clsIn X.K D).isSome = true := by
    obtain ⟨cd, hc, _⟩ := PySem.W.any_some C.hd
    rw [hc]
    rfl
  exact PySem.W.kia_one (PySem.W.kitx_exc hcl C.hg C.hk C.hs C.ha C.hn C.ht C.hm) J.kIn at_ e (fun z => nomatch z) fun tk => ⟨.bl b, H, J.kept (t' := tk) fun _ _ z => z, rfl, q⟩
end GV

namespace GV
open PySem PySem.Spec PyProof.Rows L2
section
variable {X : Cx} {M : Addr → Prop} {σ : St} {H H' : Hp} {a b c e : Expr} {da db d : PyData} {pos : Pos} {es : List Expr} {ds : List PyData}
/-! ### != of tuples that hold the same things -/
def rNeSame (K : PySem.W.Frag) : R2 := fun x y H Q => ∃ a b xs, x = .ref a ∧ y = .ref b ∧ SqT K H a xs ∧ SqT K H b xs ∧ (∀ v ∈ xs, sameB v = true) ∧ Q (.bl false) H
theorem op_neSame (hu : X.A.units < cLine) : OpR X (compareOp .NotEq) (rNeSame X.K) := by
  intro pins s σ H x y v u Q I rx ry h
  obtain ⟨a, b, xs, rfl, rfl, ha, hb, hs, q⟩ := h
  cases (show v = Value.ref a from rx)
  cases (show u = Value.ref b from ry)
  obtain ⟨us, r1, p1, _⟩ := I.tuple ha
  obtain ⟨ws, r2, p2, _⟩ := I.tuple hb
  have l1 := r1.length
  have l2 := r2.length
  refine SeqAt.RcNeAt.tuples (e := fun _ => true) p1 p2 hu (fun j h1 h2 => ?_) X.prog X.w X.xe _ ?_
  · have hj : j < xs.length := by
      rw [l1]
      simpa using h1
    have hx : xs[j]? = some xs[j] := List.getElem?_eq_getElem hj
    obtain ⟨v1, e1, rv1⟩ := r1.get hx
    obtain ⟨v2, e2, rv2⟩ := r2.get hx
    have f1 : us.toArray[j] = v1 := by
      have : us[j]? = some us[j] := List.getElem?_eq_getElem (by simpa using h1)
      rw [this] at e1
      simpa using e1
    have f2 : ws.toArray[j] = v2 := by
      have : ws[j]? = some ws[j] := List.getElem?_eq_getElem (by simpa using h2)
      rw [this] at e2
      simpa using e2
    rw [f1, f2]
    have hv := hs _ (List.getElem_mem hj)
    generalize xs[j] = z at rv1 rv2 hv
    cases z with
    | ref r =>
      cases (show v1 = Value.ref r from rv1)
      cases (show v2 = Value.ref r from rv2)
      exact SeqAt.EqAt.same _
    | _ => exact eqAt_same rv1 rv2 hv
  · refine ⟨.bl false, H, I, ?_, q⟩
    have e1 : us.toArray.size = ws.toArray.size := by
      rw [List.size_toArray, List.size_toArray, ← l1, ← l2]
    rw [e1, show ((List.range (min ws.toArray.size ws.toArray.size)).all fun _ => true) = true from List.all_eq_true.mpr fun _ _ => rfl]
    simp [L2.RelV]
theorem ct_neSame {Q : Bool → Hp → Prop} (hu : X.A.units + 64 < cLine) (h : wE X a σ H fun x H2 => wE X b σ H2 fun y H3 => rNeSame X.K x y H3 fun v H4 => v = .bl false ∧ Q false H4) : wT X (.Compare a [.NotEq] [b] pos) σ H Q :=
  ⟨_, pt_cmpR (op_neSame (by omega)) wE.pe wE.pe (nomark _), wE.weak h fun x H2 h2 => wE.weak h2 fun y H3 ⟨a, b, xs, e1, e2, s1, s2, hs, _, q⟩ => ⟨a, b, xs, e1, e2, s1, s2, hs, _, rfl, q⟩⟩
theorem ct_ne {Q : Bool → Hp → Prop} (hu : X.A.units + 64 < cLine) (h : wE X a σ H fun x H2 => wE X b σ H2 fun y H3 => ∃ da db, Dp X.K H3 x da ∧ Dp X.K H3 y db ∧ SeqAt.shaped da = true ∧ SeqAt.shaped db = true ∧ Q (!PyData.eqv da db) H3) : wT X (.Compare a [.NotEq] [b] pos) σ H Q :=
  ⟨_, pt_cmpR (op_neD hu) wE.pe wE.pe (nomark _), wE.weak h fun x H2 h2 => wE.weak h2 fun y H3 ⟨da, db, h1, h2, h3, h4, q⟩ => ⟨da, db, h1, h2, h3, h4, _, rfl, q⟩⟩
/-- e == ("..", name), where e gives just that -/
theorem ce_same2 {s : Str} {i n m : Nat} {cn : Str} {vb : V} {p1 p2 p3 : Pos} {Q : VK} (hu : X.A.units + 64 < cLine) (hs : sameB vb = true) (hi : X.N[i]? = some cn) (hv : Vis X.env.scope cn) (hσ : σ[i]? = some (some vb))
    (h : wE X a σ H fun x H2 => ∃ p, x = .ref p ∧ H2 p = some (.tup [.str s, vb]) ∧ ∀ H3, Evl.Ex H2 H3 → Q (.bl true) H3)
    (hd : (cn == ("__debug__" : Str)) = false := by decide) (hcd : (cn == ("__classdict__" : Str)) = false := by decide) (h1 : starEach (.Constant (.str s) n p1 :: [.Name cn p2]) X.env = (false, eval (.Constant (.str s) n p1) X.env) :: starEach [.Name cn p2] X.env := by rfl) (h2 : starEach (.Name cn p2 :: []) X.env = (false, eval (.Name cn p2) X.env) :: starEach [] X.env := by rfl) :
    wE X (.Compare a [.Eq] [.Tuple [.Constant (.str s) n p1, .Name cn p2] m p3] pos) σ H Q := by
  refine ce_eqSame hu (wE.weak h ?_)
  rintro x H2 ⟨p, rfl, hp, q⟩
  refine ce_tup (ca_cons (ce_str (ca_cons (ce_name hi hv hσ (ca_nil ⟨(by show 2 ≤ 1000; decide), fun t ht => ?_⟩) hd hcd) h2)) h1)
  refine ⟨p, t, _, rfl, rfl, .inl (.inl (Evl.Ex.new ht _ _ hp)), .inl (.inl upd_same), fun v hv => ?_, q _ (Evl.Ex.new ht)⟩
  simp only [List.mem_cons, List.not_mem_nil, or_false] at hv
  rcases hv with rfl | rfl
  · rfl
  · exact hs
theorem ct_same2 {s : Str} {i n m : Nat} {cn : Str} {vb : V} {p1 p2 p3 : Pos} {Q : Bool → Hp → Prop} (hu : X.A.units + 64 < cLine) (hs : sameB vb = true) (hi : X.N[i]? = some cn) (hv : Vis X.env.scope cn) (hσ : σ[i]? = some (some vb))
    (h : wE X a σ H fun x H2 => ∃ p, x = .ref p ∧ H2 p = some (.tup [.str s, vb]) ∧ ∀ H3, Evl.Ex H2 H3 → Q false H3)
    (hd : (cn == ("__debug__" : Str)) = false := by decide) (hcd : (cn == ("__classdict__" : Str)) = false := by decide) (h1 : starEach (.Constant (.str s) n p1 :: [.Name cn p2]) X.env = (false, eval (.Constant (.str s) n p1) X.env) :: starEach [.Name cn p2] X.env := by rfl) (h2 : starEach (.Name cn p2 :: []) X.env = (false, eval (.Name cn p2) X.env) :: starEach [] X.env := by rfl) :
    wT X (.Compare a [.NotEq] [.Tuple [.Constant (.str s) n p1, .Name cn p2] m p3] pos) σ H Q := by
  refine ct_neSame hu (wE.weak h ?_)
  rintro x H2 ⟨p, rfl, hp, q⟩
  refine ce_tup (ca_cons (ce_str (ca_cons (ce_name hi hv hσ (ca_nil ⟨(by show 2 ≤ 1000; decide), fun t ht => ?_⟩) hd hcd) h2)) h1)
  refine ⟨p, t, _, rfl, rfl, .inl (.inl (Evl.Ex.new ht _ _ hp)), .inl (.inl upd_same), fun v hv => ?_, rfl, q _ (Evl.Ex.new ht)⟩
  simp only [List.mem_cons, List.not_mem_nil, or_false] at hv
  rcases hv with rfl | rfl
  · rfl
  · exact hs
end
end GV

namespace GV
open PySem PySem.Spec PyProof.Rows L2
section
variable {X : Cx} {σ : St} {H : Hp} {e elt : Expr} {pos : Pos}
theorem s_setLcR {iy : Nat} {yn : Str} {py spos : Pos} {D0 : Ends} {slot : Nat} {x : Str} {p p1 p2 : Pos} {scope : Scope} {own : List (Str × Nat)} (hc : X.calm = true) (hN : X.N.Nodup) (hg : Gl X "range") (hm : X.mg "range" = none) (ok : BlkOk X.N X.env.scope scope own)
    (hx : ∀ s H C cl fp, PG (Cx.lc X s H scope C cl fp) (.Name x p2) (gName slot)) (hw : ∀ v, wipe ((wipe σ (own.map (·.2))).set slot (some v)) (own.map (·.2)) = wipe σ (own.map (·.2)))
    (h : wE X e σ H fun v H1 => ∃ n : Nat, v = .int (n : Nat) ∧ n ≤ 1000000 ∧ ∀ D, H1 D = none → ∃ J : Nat → Hp → Prop, J 0 (upd H1 D (.lst [])) ∧
      (∀ i H', i < n → J i H' → ∀ s0 H0 C cl fp, wE (Cx.lc X s0 H0 scope C cl fp) elt ((wipe σ (own.map (·.2))).set slot (some (.int (i : Nat)))) H' fun y H4 => ∃ acc, H4 D = some (.lst acc) ∧ acc.length < 100000 ∧ J (i + 1) (upd H4 D (.lst (acc ++ [y])))) ∧ ∀ H', J n H' → D0.nx (σ.set iy (some (.ref D))) H')
    (hy : X.N[iy]? = some yn) (hyl : X.env.scope.names.lookup yn = some .local) (hsw : swapsWith (.ListComp elt [⟨.Name x p2, .Call (.Name "range" p) [e] [] p1, [], 0⟩] scope pos) (some (.Name yn py)) spos.line X.env = pure true) (hs : starEach [e] X.env = [(false, eval e X.env)] := by rfl) (hs' : starEach (e :: []) X.env = (false, eval e X.env) :: starEach [] X.env := by rfl)
    (hf : ∀ x, foldedSetIterable (.Call (.Name "range" p) [e] [] p1) X.env x = pure x := by intro _; rfl) : wS X (.Assign [.Name yn py] (.ListComp elt [⟨.Name x p2, .Call (.Name "range" p) [e] [] p1, [], 0⟩] scope pos) spos) D0 σ H := by
  refine ⟨_, ps_setLc (tt := fun σ H Q => Q true H) (te := fun σ H Q => ∀ s0 H0 C cl fp, wE (Cx.lc X s0 H0 scope C cl fp) elt σ H Q) hc hN hy hyl hsw (pi_range1 hg hm wA.pa hs) ok hx (fun _ _ _ _ _ => ⟨fun pins s σ H Q I h => pts_nil.run pins s σ H Q I h⟩)
    (fun s0 H0 C cl fp => ⟨fun pins s σ H Q I h => wE.pe.run pins s σ H Q I (h s0 H0 C cl fp)⟩) hf, ca_cons (wE.weak h ?_) hs'⟩
  rintro v H1 ⟨n, rfl, hn, run⟩
  refine ca_nil ⟨(n : Nat), rfl, by omega, by omega, ?_⟩
  rw [show ((n : Nat) : Int).toNat = n by omega]
  intro D hD
  obtain ⟨J, h0, ht, hd⟩ := run D hD
  refine ⟨fun i m H' => m = n - i ∧ i ≤ n ∧ J i H', ⟨n, rfl, Nat.zero_le _, h0⟩, ?_⟩
  rintro i m H' ⟨rfl, hi', j⟩
  have wk := wk_range (K := X.K) (M := M0) (H := H') 0 n
  have ln : ((List.range n).map fun i => PyData.int (0 + (i : Nat))).length = n := by simp
  by_cases hlt : i < n
  · refine .inr ⟨wk.go M0 i H' (fun _ z => z.elim) (ExM.refl _) (by rw [ln]; exact hlt), J (i + 1), fun H2 j2 => ⟨n - (i + 1), by omega, rfl, hlt, j2⟩, fun x H2 y => ?_⟩
    obtain ⟨rfl, rfl⟩ := y
    rw [Int.zero_add]
    refine ⟨hw _, ?_⟩
    show if true = true then _ else _
    rw [if_pos rfl]
    intro s0 H0 C cl fp
    refine wE.weak (ht i _ hlt j s0 H0 C cl fp) ?_
    rintro y H4 ⟨acc, h1, h2, h3⟩
    exact ⟨acc, h1, Nat.lt_of_lt_of_le h2 (by rw [sizeLine_eq]; decide), h3⟩
  · have e2 : i = n := by omega
    subst e2
    have := wk.stop M0 H' (fun _ z => z.elim) (ExM.refl _)
    rw [ln] at this
    exact .inl ⟨this, hd H' j⟩
end
end GV

namespace GV
open PySem PySem.Spec PyProof.Rows L2
/-! ### the first of the least keys -/
theorem argB_spec (key : Int → Int) (ns : List Int) : ∀ j, argBest (keyB key ns) j ≤ j ∧ (∀ i, i ≤ j → key (ns.getD (argBest (keyB key ns) j) 0) ≤ key (ns.getD i 0)) ∧ ∀ i, i < argBest (keyB key ns) j → key (ns.getD (argBest (keyB key ns) j) 0) < key (ns.getD i 0)
  | 0 => ⟨Nat.le_refl _, fun i h => by
      rw [Nat.le_zero.mp h]
      exact Int.le_refl _, fun i h => absurd h (Nat.not_lt_zero _)⟩
  | j + 1 => by
    obtain ⟨h1, h2, h3⟩ := argB_spec key ns j
    generalize hb : argBest (keyB key ns) j = b at h1 h2 h3
    have e : argBest (keyB key ns) (j + 1) = if keyB key ns (j + 1) b = true then j + 1 else b := by rw [← hb]; rfl
    by_cases hk : keyB key ns (j + 1) b = true
    · rw [e, if_pos hk]
      have hk := of_decide_eq_true hk
      refine ⟨Nat.le_refl _, fun i hi => ?_, fun i hi => ?_⟩
      · rcases Nat.lt_or_ge i (j + 1) with z | z
        · have := h2 i (by omega)
          omega
        · rw [show i = j + 1 by omega]
          exact Int.le_refl _
      · have := h2 i (by omega)
        omega
    · rw [e, if_neg hk]
      have hk := of_decide_eq_false (Bool.not_eq_true _ ▸ hk)
      refine ⟨by omega, fun i hi => ?_, h3⟩
      rcases Nat.lt_or_ge i (j + 1) with z | z
      · exact h2 i (by omega)
      · rw [show i = j + 1 by omega]
        omega
/-- of an ascending list: the one with the least key, and of these the least -/
theorem firstK_eq {key : Int → Int} {ns : List Int} {m : Int} (up : ns.Pairwise (· < ·)) (hm : m ∈ ns) (h : ∀ y ∈ ns, key m < key y ∨ (key m = key y ∧ m ≤ y)) : firstK key ns = m := by
  obtain ⟨i, hi⟩ := List.mem_iff_getElem?.mp hm
  have hil := (List.getElem?_eq_some_iff.mp hi).1
  obtain ⟨h1, h2, h3⟩ := argB_spec key ns (ns.length - 1)
  unfold firstK
  generalize argBest (keyB key ns) (ns.length - 1) = b at h1 h2 h3 ⊢
  have hbl : b < ns.length := by omega
  have eb : ns.getD b 0 = ns[b] := by rw [List.getD_eq_getElem?_getD, List.getElem?_eq_getElem hbl]; rfl
  have ei : ns.getD i 0 = m := by rw [List.getD_eq_getElem?_getD, hi]; rfl
  have hb := h (ns.getD b 0) (by rw [eb]; exact List.getElem_mem _)
  have k2 := h2 i (by omega)
  rw [ei] at k2
  rcases hb with hb | ⟨hb, hle⟩
  · omega
  · rcases Nat.lt_trichotomy i b with z | z | z
    · have := h3 i z
      rw [ei] at this
      omega
    · rw [← z, ei]
    · have := List.pairwise_iff_getElem.mp up b i hbl hil z
      rw [(List.getElem?_eq_some_iff.mp hi).2, ← eb] at this
      omega
/-! ### texts -/
theorem RpAll.of_strs {K : PySem.W.Frag} {M : Addr → Prop} {H : Hp} : ∀ {vs : List V} {ns : List Str}, RpAll K M H vs (ns.map PyData.str) → vs = ns.map V.str
  | [], [], .nil => rfl
  | _ :: _, n :: r, .cons h hs => by
    cases h
    rw [RpAll.of_strs hs]
    rfl
theorem eqv_str (a b : Str) : PyData.eqv (.str a) (.str b) = decide (a = b) := by
  rw [Bool.eq_iff_iff, decide_eq_true_eq]
  simp [PyData.eqv]
theorem inV_strs (x : Str) (ns : List Str) : inV (.str x) (ns.map V.str) = decide (x ∈ ns) := by
  unfold inV
  rw [List.any_map, Bool.eq_iff_iff, decide_eq_true_eq, List.any_eq_true]
  constructor
  · rintro ⟨y, hy, e⟩
    have e : (y == x) = true := e
    rw [← beq_iff_eq.mp e]
    exact hy
  · intro h
    exact ⟨x, h, (by show (x == x) = true; simp)⟩
section
variable {X : Cx} {M : Addr → Prop} {σ : St} {H H' : Hp} {a b c e o : Expr} {da db d : PyData} {pos : Pos}
theorem td_inS {x : Str} {ns : List Str} (ha : PD X M a σ H (.str x)) (hb : PD X M b σ H (.list (ns.map PyData.str))) (hk : behindInMarks .In b = false := by rfl) : TD X M (.Compare a [.In] [b] pos) σ H (decide (x ∈ ns)) :=
  td_cmpR op_in_seq hk (fun u v H1 ru rv _ Q q => by
    cases ru
    cases rv with
    | lst m hs rs =>
      have all : (ns.map V.str).all flatV = true := by
        rw [List.all_map, List.all_eq_true]
        exact fun _ _ => rfl
      rw [rs.of_strs] at hs
      refine ⟨_, _, rfl, .inl (.inl hs), rfl, all, ?_⟩
      show Q (.bl (inV (.str x) (ns.map V.str))) H1
      rw [inV_strs]
      exact q _ H1 (Evl.Ex.refl H1) (.bl _)) ha hb
theorem pd_addS {x y : Str} (ha : PD X M a σ H (.str x)) (hb : PD X M b σ H (.str y)) (hl : x.length + y.length ≤ 100000) : PD X M (.BinOp a .Add b pos) σ H (.str (x ++ y)) :=
  pd_binR op_add_str (fun u v H1 ru rv _ Q q => by
    cases ru
    cases rv
    exact ⟨x, y, rfl, rfl, Evl.sz_of hl, q _ H1 (Evl.Ex.refl H1) (.str _)⟩) ha hb
theorem pd_shr {i : Int} {k : Nat} (ha : PD X M a σ H (.int i)) (hb : PD X M b σ H (.int (k : Nat))) : PD X M (.BinOp a .RShift b pos) σ H (.int (i / 2 ^ k)) :=
  PD.is (pd_binR op_shr (rd_I (C := fun _ j => (0 : Int) ≤ j) (i := i) (j := (k : Nat)) (by omega)) ha hb) (by rw [Int.toNat_natCast])
theorem pd_join {apos : Pos} {z : Str} {ys : List Str} (ho : PD X M o σ H (.str z)) (he : PD X M e σ H (.list (ys.map PyData.str))) (hl : (ys.map (·.length)).sum + ys.length * z.length ≤ 16777216)
    (hs : starEach [e] X.env = [(false, eval e X.env)] := by rfl) (hbase : attributeBase o "join" X.env (eval o X.env) = eval o X.env := by rfl) (hline : (apos.endLine == pos.line) = true := by rfl) :
    PD X M (.Call (.Attribute o "join" apos) [e] [] pos) σ H (.str (Txt.join z ys)) := .mk fun H1 e1 al Q q =>
  ⟨_, pe_join wE.pe wE.pe hs hbase hline, ho.run H1 e1 al _ fun u H2 x2 ru => by
    cases ru
    refine ⟨⟨_, rfl⟩, he.run H2 (e1.trans (.of x2)) (al.mono x2) _ fun v H3 x3 rv => ?_⟩
    cases rv with
    | lst m hr rs =>
      rw [rs.of_strs] at hr
      exact ⟨z, _, ys, rfl, rfl, .inl (.inl hr), hl, q _ H3 (x2.trans x3) (.str _)⟩⟩
end
end GV

namespace AK
open PySem PySem.Spec PyProof.Rows L2 GV
/-! ### the texts of the houses -/
def sideT : Nat → Str
  | 0 => ""
  | 1 => "l"
  | 2 => "b"
  | 3 => "lb"
  | 4 => "h"
  | 5 => "lh"
  | 6 => "bh"
  | _ => "lbh"
def txN (n : Nat) : Str := sideT (n % 8) ++ "-" ++ sideT (n / 8)
def ordK : List Str := ["l-", "b-", "h-", "-l", "-b", "-h"]
def bitN (n k : Nat) : Bool := decide ((n : Int) / 2 ^ k % 2 = 1)
def kindsL (n : Nat) : List Str := ((List.range 6).filter (bitN n)).map fun i => ordK.getD i ""
theorem all63 {p : Nat → Prop} [DecidablePred p] (h : (List.range 64).all (fun n => decide (p n)) = true) {n : Nat} (hn : n < 64) : p n := of_decide_eq_true (List.all_eq_true.mp h n (List.mem_range.mpr hn))
theorem part_tx {n : Nat} (hn : n < 64) : Txt.partition (txN n) (Str.ofString "-") = (sideT (n % 8), Str.ofString "-", sideT (n / 8)) :=
  all63 (p := fun n => Txt.partition (txN n) (Str.ofString "-") = (sideT (n % 8), Str.ofString "-", sideT (n / 8))) (by decide +kernel) hn
theorem len_tx {n : Nat} (hn : n < 64) : (txN n).length ≤ 7 := all63 (p := fun n => (txN n).length ≤ 7) (by decide +kernel) hn
theorem side_len {i : Nat} (hi : i < 64) : (sideT i).length ≤ 3 := all63 (p := fun n => (sideT n).length ≤ 3) (by decide +kernel) hi
structure Sides (K : PySem.W.Frag) (mg : Str → Option Value) (w : World) : Prop where
  ex : ∃ d es n, mg "_SIDES" = some (.ref d) ∧ KDict K w d es n ∧ ∀ i, i < 8 → ∃ t, PySem.W.nsIn K d (sideT i) = some (some (.int i t))
section
variable {X : Cx} {M : Addr → Prop} {σ : St} {H : Hp} {a : Expr}
theorem td_ninS {i : Nat} {p pos : Pos} (hi : i < 8) (S : Sides X.K X.mg X.w) (hg : Gl X "_SIDES") (ha : PD X M a σ H (.str (sideT i))) : TD X M (.Compare a [.NotIn] [.Name "_SIDES" p] pos) σ H false := by
  obtain ⟨d, es, n, hm, D, ns⟩ := S.ex
  obtain ⟨t, n1⟩ := ns i hi
  refine .mk fun H1 e1 al Q q => ⟨_, pt_cmpR (op_notIn_kd D) wE.pe (pe_glob hg hm (v := .ref d) rfl (by decide)) rfl, ha.run H1 e1 al _ fun v H2 x2 r => ?_⟩
  cases r
  exact ⟨_, _, rfl, rfl, n1, _, rfl, q H2 x2⟩
theorem pd_ixS {i : Nat} {p pos : Pos} (hi : i < 8) (S : Sides X.K X.mg X.w) (hg : Gl X "_SIDES") (ha : PD X M a σ H (.str (sideT i))) (hs : PlainIx a := by exact fun _ _ => rfl) : PD X M (.Subscript (.Name "_SIDES" p) a pos) σ H (.int (i : Nat)) := by
  obtain ⟨d, es, n, hm, D, ns⟩ := S.ex
  obtain ⟨t, n1⟩ := ns i hi
  refine .mk fun H1 e1 al Q q => ⟨_, pe_ix ix_kdict (pe_glob hg hm (v := .ref d) rfl (by decide)) wE.pe hs, ha.run H1 e1 al _ fun v H2 x2 r => ?_⟩
  cases r
  exact ⟨d, _, .int (i : Nat), rfl, rfl, ⟨es, n, _, D.at_, D.lit, n1, ⟨t, rfl⟩⟩, q _ H2 x2 (.int _)⟩
theorem cs_unp3 {e : Expr} {pos px py pz pt : Pos} {i j l kt : Nat} {x y z : Str} {D : Ends} {u v w : Str} (hx : PG X (.Name x px) (gName i)) (hy : PG X (.Name y py) (gName j)) (hz : PG X (.Name z pz) (gName l))
    (h : wE X e σ H fun r H2 => ∃ p, r = .ref p ∧ H2 p = some (.tup [.str u, .str v, .str w]) ∧ D.nx (((σ.set i (some (.str u))).set j (some (.str v))).set l (some (.str w))) H2)
    (ht : PG X (.Tuple [.Name x px, .Name y py, .Name z pz] kt pt) (gTup X.K 3 (gCons (gName i) (gCons (gName j) (gCons (gName l) gNil))))) (hs : swapsWithSole [.Tuple [.Name x px, .Name y py, .Name z pz] kt pt] e pos.line X.env = pure false := by rfl) (hw : swappedStores [.Tuple [.Name x px, .Name y py, .Name z pz] kt pt] e X.env = pure none := by rfl)
    (h1 : (assignEach [.Tuple [.Name x px, .Name y py, .Name z pz] kt pt] X.env).map (·.2) = [assign (.Tuple [.Name x px, .Name y py, .Name z pz] kt pt) X.env] := by rfl) : wS X (.Assign [.Tuple [.Name x px, .Name y py, .Name z pz] kt pt] e pos) D σ H :=
  ⟨_, ps_asg wE.pe ht hs hw h1, wE.weak h fun r H2 ⟨p, e, hp, q⟩ => ⟨p, _, e, .inl (.inl hp), rfl, _, _, rfl, _, _, rfl, _, _, rfl, rfl, q⟩⟩
end
section
variable {P : Program} {w : World} {K : PySem.W.Frag} {mg : Str → Option Value} {base : Heap}
theorem eqv_int (i j : Int) : PyData.eqv (.int i) (.int j) = decide (i = j) := by
  rw [Bool.eq_iff_iff, decide_eq_true_eq]
  simp [PyData.eqv]
def R_not (ds : List PyData) (d : PyData) : Prop := ∃ n : Nat, n < 64 ∧ ds = [.str (txN n)] ∧ d = .int (n : Nat)
theorem cl_number_of_text {f : Addr} {fd : FuncData} (F : At K mg "number_of_text" s_number_of_text f fd) (nb : NoB mg) (S : Sides K mg w) : Cl P w K mg base CX0 1 "number_of_text" (PureR K R_not) := by
  refine cl_pure F sc_number_of_text (F.fn.binds fun _ _ _ _ _ _ us hl => match us, hl with | [_], _ => rfl) (fun ds d h => ?_) (fun X cdv A outer s H Q E M vs ds d hX hr al r h q => ?_)
  · obtain ⟨n, _, rfl, _⟩ := h
    rfl
  · obtain ⟨n, hn, rfl, rfl⟩ := h
    obtain ⟨v, rfl, r1⟩ := rpa1 r
    cases r1
    subst hX
    have h1 : n % 8 < 8 := Nat.mod_lt _ (by decide)
    have h2 : n / 8 < 8 := by omega
    refine b_cons (s_if (k := false) al (td_not (k := true) (td_val (pd_isi rfl nb.isinstance rfl nb.str PyProof.Rows.boot_str (nm 0 (.str (txN n))) (by decide +kernel : kitB "str" "str" = some true)))) (fun k => by cases k) (fun _ H2 x2 => ?_))
    refine b_nil (b_cons (cs_unp3 (i := 1) (j := 2) (l := 3) (u := sideT (n % 8)) (v := "-") (w := sideT (n / 8)) (pg_name (i := 1) sc_number_of_text.nd rfl (.inl rfl)) (pg_name (i := 2) sc_number_of_text.nd rfl (.inl rfl)) (pg_name (i := 3) sc_number_of_text.nd rfl (.inl rfl)) ⟨_, pe_partition wE.pe wE.pe, ce_nm 0 ⟨⟨txN n, rfl⟩, ce_str ⟨txN n, "-", rfl, rfl, by decide +kernel, Evl.sz_of (Nat.le_trans (len_tx hn) (by decide)), fun p hp => ⟨p, rfl, (by rw [part_tx hn]; exact upd_same), ?_⟩⟩⟩⟩ (pg_tup rfl (pgs_cons (pg_name (i := 1) sc_number_of_text.nd rfl (.inl rfl)) (pgs_cons (pg_name (i := 2) sc_number_of_text.nd rfl (.inl rfl)) (pgs_cons (pg_name (i := 3) sc_number_of_text.nd rfl (.inl rfl)) pgs_nil))))))
    refine b_cons (s_if (k := false) (al.mono (x2.trans (Evl.Ex.new hp))) (WD.td (wd_or (k1 := false) (k2 := false) (TD.is (td_eq hr.units (nm 2 (.str "-")) pd_str (by decide +kernel) (by decide +kernel)) (by decide +kernel)) fun _ => wd_or (k1 := false) (k2 := false) (td_ninS h1 S rfl (nm 1 (.str _))) fun _ => wd_or1 (td_ninS h2 S rfl (nm 3 (.str _))))) (fun k => by cases k) (fun _ H4 x4 => ?_))
    exact b_nil (b_cons (s_ret ((al.mono (x2.trans (Evl.Ex.new hp))).mono x4) (PD.is (pd_add (pd_ixS h1 S rfl (nm 1 (.str _))) (pd_mul pd_int (pd_ixS h2 S rfl (nm 3 (.str _))) (.inl (by decide)))) (congrArg PyData.int (by omega))) fun v H5 x5 rv => q v H5 (((x2.trans (Evl.Ex.new hp)).trans x4).trans x5) rv))
structure HouC (K : PySem.W.Frag) (CH : Addr) : Prop where
  ins : C8.InsC K CH
  nT : NoAttr K CH "text"
  nN : NoAttr K CH "number"
def HAt (CH : Addr) (n : Nat) (H : Hp) (h : Addr) : Prop := ∃ dx, H h = some (.ins CH dx [("text", .str (txN n)), ("number", .int (n : Nat))])
theorem HAt.ex {CH h : Addr} {n : Nat} {H H' : Hp} (a : HAt CH n H h) (x : ∀ o, H h = some o → H' h = some o) : HAt CH n H' h := let ⟨dx, e⟩ := a; ⟨dx, x _ e⟩
theorem HAt.exM {CH h : Addr} {n : Nat} {M : Addr → Prop} {H H' : Hp} (a : HAt CH n H h) (x : ExM M H H') (m : ¬ M h) : HAt CH n H' h := let ⟨dx, e⟩ := a; ⟨dx, x _ _ e m fun _ z => by cases z⟩
def spHInit (CH : Addr) : Sp := fun vs H Q _ => ∃ (b dx : Addr) (n : Nat), vs = [.ref b, .str (txN n)] ∧ 1 ≤ n ∧ n < 64 ∧ H b = some (.ins CH dx []) ∧ ∀ H', (∀ a o, H a = some o → a ≠ b → H' a = some o) → HAt CH n H' b → Q .non H'
theorem ok_hinit {f CH : Addr} {fd : FuncData} (F : Fun K "__init__" "House.__init__" s_House_init f fd) (B : HouC K CH) (c1 : Cl P w K mg base CX0 1 "number_of_text" (PureR K R_not)) : FnOk P w K mg base CX0 2 f fd ["self", "text"] (spHInit CH) := by
  refine F.ok sc_House_init (fun vs H Q E h => ?_) (fun cdv A outer sh H vs Q E hr h => ⟨_, wB.ps, ?_⟩)
  · obtain ⟨b, dx, n, rfl, _⟩ := h
    rfl
  · obtain ⟨b, dx, n, rfl, hn0, hn, hb, q⟩ := h
    refine b_cons (s_set (M := M0) (i := 2) (d := .int (n : Nat)) alive0 sc_House_init.nd rfl (.inl rfl) (pd_callC c1 hr (by decide) rfl (ad_cons (nm 1 (.str (txN n))) ad_nil) ⟨n, hn, rfl, rfl⟩) fun v H2 x2 r2 => ?_)
    cases r2
    refine b_cons (s_if (M := M0) (k := false) alive0 (TD.is (td_eq hr.units (nm 2 (.int (n : Nat))) pd_int rfl rfl) (by rw [eqv_int]; exact decide_eq_false (by omega))) (fun k => by cases k) (fun _ H3 x3 => ?_))
    refine b_nil (b_cons (cs_fld (ce_nm 1 (ce_nm 0 ⟨b, CH, dx, [], rfl, x3 _ _ (x2 _ _ hb), B.ins.cl, B.nT, (by show 0 < 1000; decide), ?_⟩))))
    refine b_cons (cs_fld (ce_nm 2 (ce_nm 0 ⟨b, CH, dx, _, rfl, upd_same, B.ins.cl, B.nN, (by show 1 < 1000; decide), b_nil (q _ (fun a o ha na => ?_) ⟨dx, ?_⟩)⟩)))
    · rw [upd_ne na, upd_ne na]
      exact x3 _ _ (x2 _ _ ha)
    · rw [upd_same]
      rfl
def spBit (CH : Addr) : Sp := fun vs H Q _ => ∃ (h : Addr) (n k : Nat), vs = [.ref h, .int (k : Nat)] ∧ HAt CH n H h ∧ ∀ H', Evl.Ex H H' → Q (.bl (bitN n k)) H'
theorem ok_bit {f CH : Addr} {fd : FuncData} (F : Fun K "names_index" "House.names_index" s_House_names_index f fd) (B : HouC K CH) : FnOk P w K mg base CX0 1 f fd ["self", "index"] (spBit CH) := by
  refine F.ok sc_House_names_index (fun vs H Q E h => ?_) (fun cdv A outer sh H vs Q E hr h => ⟨_, wB.ps, ?_⟩)
  · obtain ⟨b, n, k, rfl, _⟩ := h
    rfl
  · obtain ⟨b, n, k, rfl, ⟨dx, hb⟩, q⟩ := h
    refine b_cons (s_ret (M := M0) (d := .bool (bitN n k)) alive0 (PD.is (pd_eq hr.units (pd_binR (d := .int ((n : Int) / 2 ^ k % 2 ^ 1)) op_andM (fun x y H1 rx ry _ Q q => ?_) (pd_shr (pd_fld (AtN.name (i := 0) rfl (.inl rfl) rfl) (fun z => z) hb B.ins.cl B.nN rfl (.int (n : Nat))) (nm 1 (.int (k : Nat)))) (pd_int (i := 1))) pd_int rfl rfl) ?_) fun v H2 x2 r2 => ?_)
    · cases rx
      cases ry
      exact ⟨_, 1, rfl, rfl, q _ H1 (Evl.Ex.refl H1) (.int _)⟩
    · show PyData.bool (PyData.eqv _ _) = PyData.bool (bitN n k)
      rw [eqv_int]
      rfl
    · cases r2
      exact q H2 x2
end
end AK

namespace AK
open PySem PySem.Spec PyProof.Rows L2 GV
abbrev strsD (ns : List Str) : PyData := .list (ns.map PyData.str)
def bD (n : Nat) : PyData → Bool
  | .int i => bitN n i.toNat
  | _ => false
def oD : PyData → PyData
  | .int i => .str (ordK.getD i.toNat "")
  | d => d
def headC (x : Str) (i : Nat) : Str := match x.cps[i]? with | some c => ⟨#[c]⟩ | none => ""
def dashB (i : Nat) : PyData → Bool
  | .str x => decide (headC x i = "-")
  | _ => false
def headD (i : Nat) : PyData → PyData
  | .str x => .str (headC x i)
  | d => d
theorem text_eq {n : Nat} (hn : n < 64) : Txt.join "" (((kindsL n).filter fun x => decide (headC x 1 = "-")).map fun x => headC x 0) ++ "-" ++ Txt.join "" (((kindsL n).filter fun x => decide (headC x 0 = "-")).map fun x => headC x 1) = txN n :=
  all63 (p := fun n => Txt.join "" (((kindsL n).filter fun x => decide (headC x 1 = "-")).map fun x => headC x 0) ++ "-" ++ Txt.join "" (((kindsL n).filter fun x => decide (headC x 0 = "-")).map fun x => headC x 1) = txN n) (by decide +kernel) hn
theorem kinds_ord {n : Nat} {x : Str} (h : x ∈ kindsL n) : x ∈ ordK := by
  unfold kindsL at h
  obtain ⟨i, hi, rfl⟩ := List.mem_map.mp h
  have hi := List.mem_range.mp (List.mem_filter.mp hi).1
  rw [List.getD_eq_getElem?_getD, List.getElem?_eq_getElem (show i < ordK.length from hi)]
  exact List.getElem_mem _
theorem ord_all {p : Str → Bool} (h : ordK.all p = true) {x : Str} (hx : x ∈ ordK) : p x = true := List.all_eq_true.mp h x hx
theorem kinds_two {n : Nat} {x : Str} (h : x ∈ kindsL n) : x.length = 2 := of_decide_eq_true (ord_all (p := fun x => decide (x.length = 2)) (by decide +kernel) (kinds_ord h))
theorem head_ok0 {n : Nat} {x : Str} (h : x ∈ kindsL n) : SeqAt.shaped (.str (headC x 0)) = true := ord_all (p := fun x => SeqAt.shaped (.str (headC x 0))) (by decide +kernel) (kinds_ord h)
theorem head_ok1 {n : Nat} {x : Str} (h : x ∈ kindsL n) : SeqAt.shaped (.str (headC x 1)) = true := ord_all (p := fun x => SeqAt.shaped (.str (headC x 1))) (by decide +kernel) (kinds_ord h)
theorem kinds_len (n : Nat) : (kindsL n).length ≤ 6 := by
  unfold kindsL
  rw [List.length_map]
  exact List.length_filter_le _ _
theorem ix_head {x : Str} {i : Nat} (hx : x.length = 2) (hi : i < 2) : ixD (.str x) (.int (i : Nat)) = some (.str (headC x i)) := by
  have hs : x.cps.size = 2 := hx
  have hg : x.cps[i]? = some x.cps[i] := Array.getElem?_eq_getElem (by omega)
  show (if x.length ≤ sizeLine then _ else none) = _
  have ha : atI x.cps.toList ((i : Nat) : Int) = some x.cps[i] := atI_nat (by simpa using hg)
  rw [if_pos (by rw [hx, sizeLine_eq]; decide), ha]
  unfold headC
  rw [hg]
  rfl
section
variable {P : Program} {w : World} {K : PySem.W.Frag} {mg : Str → Option Value} {base : Heap}
def R_kinds (ds es : List PyData) : Prop := ∃ n : Nat, ds = [.int (n : Nat)] ∧ es = (kindsL n).map PyData.str
theorem cl_law_kinds {f : Addr} {fd : FuncData} (F : At K mg "_law_kinds" s_law_kinds f fd) (nb : NoB mg) : Cl P w K mg base CX0 1 "_law_kinds" (FreshR K R_kinds) := by
  refine ⟨f, fd, _, F.fn.ok sc_law_kinds (fun vs H Q E h => ?_) (fun cdv A outer sh H vs Q E hr h => ⟨_, wB.ps, ?_⟩), F.gl, F.fn.kp, F.fn.binds fun _ _ _ _ _ _ us hl => match us, hl with | [_], _ => rfl⟩
  · obtain ⟨M, ds, es, al, r, ⟨_, rfl, _⟩, _⟩ := h
    rw [r.length]
    rfl
  · obtain ⟨M, ds, es, al, r, ⟨n, rfl, rfl⟩, q⟩ := h
    obtain ⟨u, rfl, r1⟩ := rpa1 r
    refine b_cons (s_set (i := 1) (d := strsD ordK) al sc_law_kinds.nd rfl (by first | exact .inl rfl | exact .inr rfl) (FD.pd (fd_lst (ad_cons pd_str (ad_cons pd_str (ad_cons pd_str (ad_cons pd_str (ad_cons pd_str (ad_cons pd_str ad_nil)))))) (by decide))) fun v2 H2 x2 r2 => ?_)
    have al2 := al.mono x2
    have r1a := r1.mono (fun _ z => z) (ExM.of x2)
    refine b_cons (cs_ret (ce_fd al2 (fd_filter (t := .one 2) (own := [("at", 2)]) (bD n) oD rfl sc_law_kinds.nd (src_range1 rfl nb.range pd_int (by decide) (by decide)) (blkOk_by (N := n_law_kinds) (sc := defScope s_law_kinds) (by decide +kernel)) (fun _ _ _ _ _ => pg_name (i := 2) sc_law_kinds.nd rfl (.inl rfl)) (fun _ _ => trivial) ?_ ?_ ?_) fun l ws H3 hl x3 h3 r3 => q l ws H3 (Evl.fresh_back x2 hl) (x2.trans x3) h3 ?_))
    · rintro M H d σ' ⟨v, _, rfl⟩
      rfl
    · rw [List.length_map, List.length_range]
      decide
    · rintro s0 H0 C cl fp M' H' d σ' hM lift hd ⟨v', rv, rfl⟩
      obtain ⟨j, hj, rfl⟩ := List.mem_map.mp hd
      have hj : j < 6 := List.mem_range.mp hj
      rw [Int.zero_add] at rv ⊢
      refine ⟨TD.is (td_eq hr.units (pd_mod (pd_intI nb rfl (pd_shr (nm 0 (lift _ _ r1a)) (nm 2 rv))) pd_int (by decide)) pd_int rfl rfl) ?_, PD.is (pd_ix (nm 1 (lift _ _ r2)) (nm 2 rv) (d := .str (ordK.getD j "")) ?_) ?_⟩
      · rw [eqv_int]
        show decide ((n : Int) / 2 ^ j % 2 = 1) = bitN n ((j : Nat) : Int).toNat
        rw [Int.toNat_natCast]
        rfl
      · match j, hj with
        | 0, _ => rfl
        | 1, _ => rfl
        | 2, _ => rfl
        | 3, _ => rfl
        | 4, _ => rfl
        | 5, _ => rfl
      · show PyData.str _ = PyData.str (ordK.getD ((j : Nat) : Int).toNat "")
        rw [Int.toNat_natCast]
    · have e : (((List.range (6 : Int).toNat).map fun i => PyData.int (0 + (i : Nat))).filter (bD n)).map oD = (kindsL n).map PyData.str := by
        unfold kindsL
        rw [List.filter_map, List.map_map, List.map_map]
        have e1 : (bD n ∘ fun i : Nat => PyData.int (0 + (i : Nat))) = bitN n := by
          funext i
          show bitN n (0 + ((i : Nat) : Int)).toNat = _
          rw [Int.zero_add, Int.toNat_natCast]
        rw [e1]
        refine List.map_congr_left fun i _ => ?_
        show PyData.str (ordK.getD (0 + ((i : Nat) : Int)).toNat "") = _
        rw [Int.zero_add, Int.toNat_natCast]
        rfl
      rw [e] at r3
      exact r3
def R_text (ds : List PyData) (d : PyData) : Prop := ∃ n : Nat, n < 64 ∧ ds = [strsD (kindsL n)] ∧ d = .str (txN n)
theorem sum_le {l : List Nat} {k : Nat} (h : ∀ x ∈ l, x ≤ k) : l.sum ≤ l.length * k := by
  induction l with
  | nil => simp
  | cons a l ih =>
    have h1 := h a (List.mem_cons_self ..)
    have h2 := ih fun x hx => h x (List.mem_cons_of_mem _ hx)
    simp only [List.sum_cons, List.length_cons, Nat.add_mul]
    omega
theorem head_len (x : Str) (i : Nat) : (headC x i).length ≤ 1 := by
  unfold headC
  cases x.cps[i]? with
  | none => decide
  | some c => exact Nat.le_refl _
theorem cl_law_text {f : Addr} {fd : FuncData} (F : At K mg "_law_text" s_law_text f fd) : Cl P w K mg base CX0 1 "_law_text" (PureR K R_text) := by
  refine cl_pure F sc_law_text (F.fn.binds fun _ _ _ _ _ _ us hl => match us, hl with | [_], _ => rfl) (fun ds d h => ?_) (fun X cdv A outer s H Q E M vs ds d hX hr al r h q => ?_)
  · obtain ⟨n, _, rfl, _⟩ := h
    rfl
  · obtain ⟨n, hn, rfl, rfl⟩ := h
    obtain ⟨v, rfl, r1⟩ := rpa1 r
    subst hX
    have lens : ∀ (i : Nat) (p : Str → Bool), ((((kindsL n).filter p).map fun x => headC x i).map (·.length)).sum + (((kindsL n).filter p).map fun x => headC x i).length * (Str.ofString "").length ≤ 16777216 := fun i p => by
      have h1 : ((((kindsL n).filter p).map fun x => headC x i).map (·.length)).sum ≤ ((((kindsL n).filter p).map fun x => headC x i).map (·.length)).length * 1 := sum_le fun y hy => by
        obtain ⟨z, hz, rfl⟩ := List.mem_map.mp hy
        obtain ⟨x, _, rfl⟩ := List.mem_map.mp hz
        exact head_len x i
      have h2 : ((kindsL n).filter p).length ≤ 6 := Nat.le_trans (List.length_filter_le _ _) (kinds_len n)
      have h3 : (Str.ofString "").length = 0 := by decide
      rw [h3]
      simp only [List.length_map] at h1 ⊢
      omega
    have comp : ∀ {σ : L2.St} {H2 : Hp} (i j : Nat), i < 2 → j < 2 → True := fun _ _ _ _ => trivial
    refine b_cons (s_set (i := 1) (d := .str (Txt.join "" (((kindsL n).filter fun x => decide (headC x 1 = "-")).map fun x => headC x 0))) al sc_law_text.nd rfl (by first | exact .inl rfl | exact .inr rfl) (pd_join pd_str (PD.is (FD.pd (fd_filter (t := .one 3) (own := [("kind", 3)]) (dashB 1) (headD 0) rfl sc_law_text.nd (src_list (nm 0 r1)) (blkOk_by (N := n_law_text) (sc := defScope s_law_text) (by decide +kernel)) (fun _ _ _ _ _ => pg_name (i := 3) sc_law_text.nd rfl (.inl rfl)) (fun _ _ => trivial) ?_ ?_ ?_)) ?_) (lens 0 _)) fun v2 H2 x2 r2 => ?_)
    · rintro M H d σ' ⟨v, _, rfl⟩
      rfl
    · have := kinds_len n
      rw [List.length_map]
      omega
    · rintro s0 H0 C cl fp M' H' d σ' hM lift hd ⟨v', rv, rfl⟩
      obtain ⟨x, hx, rfl⟩ := List.mem_map.mp hd
      exact ⟨TD.is (td_eq hr.units (pd_ix (nm 3 rv) pd_int (ix_head (i := 1) (kinds_two hx) (by decide))) pd_str (head_ok1 hx) (by decide +kernel)) (eqv_str _ _), pd_ix (nm 3 rv) pd_int (ix_head (i := 0) (kinds_two hx) (by decide))⟩
    · rw [List.filter_map, List.map_map, List.map_map]
      rfl
    cases r2
    have al2 := al.mono x2
    have r1a := r1.mono (fun _ z => z) (ExM.of x2)
    refine b_cons (s_set (i := 2) (d := .str (Txt.join "" (((kindsL n).filter fun x => decide (headC x 0 = "-")).map fun x => headC x 1))) al2 sc_law_text.nd rfl (by first | exact .inl rfl | exact .inr rfl) (pd_join pd_str (PD.is (FD.pd (fd_filter (t := .one 3) (own := [("kind", 3)]) (dashB 0) (headD 1) rfl sc_law_text.nd (src_list (nm 0 r1a)) (blkOk_by (N := n_law_text) (sc := defScope s_law_text) (by decide +kernel)) (fun _ _ _ _ _ => pg_name (i := 3) sc_law_text.nd rfl (.inl rfl)) (fun _ _ => trivial) ?_ ?_ ?_)) ?_) (lens 1 _)) fun v3 H3 x3 r3 => ?_)
    · rintro M H d σ' ⟨v, _, rfl⟩
      rfl
    · have := kinds_len n
      rw [List.length_map]
      omega
    · rintro s0 H0 C cl fp M' H' d σ' hM lift hd ⟨v', rv, rfl⟩
      obtain ⟨x, hx, rfl⟩ := List.mem_map.mp hd
      exact ⟨TD.is (td_eq hr.units (pd_ix (nm 3 rv) pd_int (ix_head (i := 0) (kinds_two hx) (by decide))) pd_str (head_ok0 hx) (by decide +kernel)) (eqv_str _ _), pd_ix (nm 3 rv) pd_int (ix_head (i := 1) (kinds_two hx) (by decide))⟩
    · rw [List.filter_map, List.map_map, List.map_map]
      rfl
    cases r3
    refine b_cons (s_ret (al2.mono x3) (PD.is (pd_addS (pd_addS (nm 1 (.str _)) pd_str ?_) (nm 2 (.str _)) ?_) (congrArg PyData.str (text_eq hn))) fun v4 H4 x4 r4 => q v4 H4 ((x2.trans x3).trans x4) r4)
    · exact all63 (p := fun n => (Txt.join "" (((kindsL n).filter fun x => decide (headC x 1 = "-")).map fun x => headC x 0)).length + (Str.ofString "-").length ≤ 100000) (by decide +kernel) hn
    · exact all63 (p := fun n => (Txt.join "" (((kindsL n).filter fun x => decide (headC x 1 = "-")).map fun x => headC x 0) ++ "-").length + (Txt.join "" (((kindsL n).filter fun x => decide (headC x 0 = "-")).map fun x => headC x 1)).length ≤ 100000) (by decide +kernel) hn
end
end AK

namespace AK
open PySem PySem.Spec PyProof.Rows L2 GV
/-! ### kinds, as the law tells them -/
theorem ord_inj {i k : Nat} (hi : i < 6) (hk : k < 6) (e : ordK.getD i "" = ordK.getD k "") : i = k := by
  have all : ((List.range 6).all fun i => (List.range 6).all fun k => !decide (ordK.getD i "" = ordK.getD k "") || decide (i = k)) = true := by decide +kernel
  have h := List.all_eq_true.mp (List.all_eq_true.mp all i (List.mem_range.mpr hi)) k (List.mem_range.mpr hk)
  rw [decide_eq_true e] at h
  exact of_decide_eq_true h
theorem kind_in {n k : Nat} (hk : k < 6) : decide (ordK.getD k "" ∈ kindsL n) = bitN n k := by
  unfold kindsL
  rw [Bool.eq_iff_iff, decide_eq_true_eq, List.mem_map]
  constructor
  · rintro ⟨i, hi, e⟩
    obtain ⟨h1, h2⟩ := List.mem_filter.mp hi
    rw [← ord_inj (List.mem_range.mp h1) hk e]
    exact h2
  · intro h
    exact ⟨k, List.mem_filter.mpr ⟨List.mem_range.mpr hk, h⟩, rfl⟩
section
variable {P : Program} {w : World} {K : PySem.W.Frag} {mg : Str → Option Value} {base : Heap}
def R_num (ds : List PyData) (d : PyData) : Prop := ∃ k, ds = [.int k, .int k] ∧ d = .bool true
theorem cl_law_is_int {f : Addr} {fd : FuncData} (F : At K mg "_law_is_int" s_law_is_int f fd) (nb : NoB mg) : Cl P w K mg base CX0 1 "_law_is_int" (PureR K R_num) := by
  refine cl_pure F sc_law_is_int (F.fn.binds fun _ _ _ _ _ _ us hl => match us, hl with | [_, _], _ => rfl) (fun ds d h => ?_) (fun X cdv A outer s H Q E M vs ds d hX hr al r h q => ?_)
  · obtain ⟨a, rfl, _⟩ := h
    rfl
  · obtain ⟨a, rfl, rfl⟩ := h
    obtain ⟨u, v, rfl, r1, r2⟩ := rpa2 r
    subst hX
    refine b_cons (s_ret al (PD.is (pd_and (pd_isi rfl nb.isinstance rfl nb.int PyProof.Rows.boot_int (nm 0 r1) (kit_int _)) fun _ => pd_and (pd_not (pd_isi rfl nb.isinstance rfl nb.bool PyProof.Rows.boot_bool (nm 0 r1) (kit_bool _))) fun _ => pd_one (pd_eq hr.units (nm 0 r1) (nm 1 r2) rfl rfl)) ?_) q)
    simp [isIntD, isBoolD, PyData.eqv]
def R_truth (ds : List PyData) (d : PyData) : Prop := ∃ k, ds = [.bool k, .bool k] ∧ d = .bool true
theorem cl_law_is_truth {f : Addr} {fd : FuncData} (F : At K mg "_law_is_truth" s_law_is_truth f fd) (nb : NoB mg) : Cl P w K mg base CX0 1 "_law_is_truth" (PureR K R_truth) := by
  refine cl_pure F sc_law_is_truth (F.fn.binds fun _ _ _ _ _ _ us hl => match us, hl with | [_, _], _ => rfl) (fun ds d h => ?_) (fun X cdv A outer s H Q E M vs ds d hX hr al r h q => ?_)
  · obtain ⟨a, rfl, _⟩ := h
    rfl
  · obtain ⟨a, rfl, rfl⟩ := h
    obtain ⟨u, v, rfl, r1, r2⟩ := rpa2 r
    subst hX
    refine b_cons (s_ret al (PD.is (pd_and (pd_isi rfl nb.isinstance rfl nb.bool PyProof.Rows.boot_bool (nm 0 r1) (kit_bool _)) fun _ => pd_one (pd_eq hr.units (nm 0 r1) (nm 1 r2) rfl rfl)) ?_) q)
    cases a <;> simp [isBoolD, PyData.eqv]
end
end AK

namespace AK
open PySem PySem.Spec PyProof.Rows L2 GV
abbrev MkH (P : Program) (w : World) (K : PySem.W.Frag) (mg : Str → Option Value) (base : Heap) (CH : Addr) : Prop := ∃ fI fdI, Mk K CH fI ∧ FnOk P w K mg base CX0 2 fI fdI ["self", "text"] (spHInit CH) ∧ Binds K fdI ["self", "text"] []
theorem ce_houseE {X : Cx} {σ : St} {H : Hp} {CH : Addr} {e : Expr} {p pos : Pos} {j n : Nat} {Q : VK} (mk : MkH X.prog X.w X.K X.mg X.base CH) (gH : X.mg "House" = some (.ref CH)) (hr : Room j X.A) (hj : 3 ≤ j) (hg : Gl X "House") (h1 : 1 ≤ n) (h2 : n < 64) (ha : PD X M0 e σ H (.str (txN n)))
    (q : ∀ h H', H h = none → Evl.Ex H H' → HAt CH n H' h → Q (.ref h) H') (he : starEach (e :: []) X.env = (false, eval e X.env) :: starEach [] X.env := by rfl) (hpl : (backTo pos (starEach [] X.env)).any (·.1) = false := by rfl) : wE X (.Call (.Name "House" p) [e] [] pos) σ H Q := by
  obtain ⟨fI, fdI, m, ok, bi⟩ := mk
  refine ⟨_, pe_make m ok (hr.mono hj) hg gH bi .nil pass0 wA.pa (by decide) he hpl, ca_cons (ce_pd alive0 ha fun v H1 x1 r1 => ca_nil fun x dx hx hdx ne => ?_) he⟩
  cases r1
  refine ⟨x, dx, n, rfl, h1, h2, upd_same, fun H' k a => ⟨rfl, q x H' (Evl.fresh_back x1 hx) (x1.trans fun b o hb => ?_) a⟩⟩
  have nx : b ≠ x := ne_of_none hb hx
  exact k b o (by rw [upd_ne nx, upd_ne (ne_of_none hb hdx)]; exact hb) nx
section
variable {P : Program} {w : World} {K : PySem.W.Frag} {mg : Str → Option Value} {base : Heap}
/-! ### the law -/
end
end AK

namespace GV
open PySem PySem.Spec PyProof.Rows L2
section
variable {X : Cx} {M : Addr → Prop} {σ : St} {H H' : Hp} {a b c e o : Expr} {da db d : PyData} {pos : Pos}
/-- min(a, b), max(a, b), step by step -/
theorem ce_min2 {p : Pos} {Q : VK} (hg : Gl X "min") (hn : X.mg "min" = none) (h : wA X [a, b] σ H fun vs H2 => ∃ i j, vs = [.int i, .int j] ∧ Q (.int (min i j)) H2) (hc : X.calm = true := by rfl)
    (h1 : starEach (a :: [b]) X.env = (false, eval a X.env) :: starEach [b] X.env := by rfl) (hpl : (backTo pos (starEach [b] X.env)).any (·.1) = false := by rfl) : wE X (.Call (.Name "min" p) [a, b] [] pos) σ H Q := by
  obtain ⟨t, ht, q⟩ := h
  refine ⟨_, pe_callB (call_min2 hc) hg hn PyProof.Rows.boot_min wA.pa (by decide) (by decide) h1 hpl, ⟨fun σ' H' Q' => σ' = σ ∧ H' = H ∧ ∀ vs H2, (∃ i j, vs = [.int i, .int j] ∧ Q (.int (min i j)) H2) → Q' vs H2, ⟨fun ps pins s σ' H' Q' I ⟨e1, e2, k⟩ => ?_⟩, rfl, rfl, fun vs H2 ⟨i, j, e, z⟩ => ⟨i, j, e, ?_⟩⟩⟩
  · subst e1
    subst e2
    exact thn (ht.run ps pins s σ' H' _ I q) fun us s' ⟨vs, H2, I2, r, z⟩ => ⟨vs, H2, I2, r, k vs H2 z⟩
  · rw [show (if j < i then j else i) = min i j by split <;> omega]
    exact z
theorem ce_max2 {p : Pos} {Q : VK} (hg : Gl X "max") (hn : X.mg "max" = none) (h : wA X [a, b] σ H fun vs H2 => ∃ i j, vs = [.int i, .int j] ∧ Q (.int (max i j)) H2) (hc : X.calm = true := by rfl)
    (h1 : starEach (a :: [b]) X.env = (false, eval a X.env) :: starEach [b] X.env := by rfl) (hpl : (backTo pos (starEach [b] X.env)).any (·.1) = false := by rfl) : wE X (.Call (.Name "max" p) [a, b] [] pos) σ H Q := by
  obtain ⟨t, ht, q⟩ := h
  refine ⟨_, pe_callB (call_max2 hc) hg hn PyProof.Rows.boot_max wA.pa (by decide) (by decide) h1 hpl, ⟨fun σ' H' Q' => σ' = σ ∧ H' = H ∧ ∀ vs H2, (∃ i j, vs = [.int i, .int j] ∧ Q (.int (max i j)) H2) → Q' vs H2, ⟨fun ps pins s σ' H' Q' I ⟨e1, e2, k⟩ => ?_⟩, rfl, rfl, fun vs H2 ⟨i, j, e, z⟩ => ⟨i, j, e, ?_⟩⟩⟩
  · subst e1
    subst e2
    exact thn (ht.run ps pins s σ' H' _ I q) fun us s' ⟨vs, H2, I2, r, z⟩ => ⟨vs, H2, I2, r, k vs H2 z⟩
  · rw [show (if j > i then j else i) = max i j by split <;> omega]
    exact z
theorem ce_mul {Q : VK} (h : wE X a σ H fun x H2 => wE X b σ H2 fun y H3 => ∃ i j, x = .int i ∧ y = .int j ∧ CMul i j ∧ Q (.int (i * j)) H3) : wE X (.BinOp a .Mult b pos) σ H Q := ce_bin op_mul h
theorem ce_shl {Q : VK} (h : wE X a σ H fun x H2 => wE X b σ H2 fun y H3 => ∃ i j, x = .int i ∧ y = .int j ∧ CPow i j ∧ Q (.int (i * 2 ^ j.toNat)) H3) : wE X (.BinOp a .LShift b pos) σ H Q := ce_bin op_shl h
end
end GV

/-! objects: methods of whatever object, own operators, own == and own len, calls without arguments -/
namespace PySem.W
open PySem PySem.Calls PyProof.Rows
section
variable {K : Frag} {x C L f : Addr} {h₀ : Heap} {m : Str → Option Value} {ox : Obj} {od : Option Obj} {A : Around} {E : Value → Shared → Prop} {s : Shared} {T : String}
/-- a op b, a of a class with its own op, b of a built-in type: the left one's method -/
theorem gv_right {prog : Program} {w : World} {op : Operator} {b : Value} {p1 p2 p3 : Option Value} {Q : Value → Shared → Prop} (F : Fr h₀ L s.heap m) (X₀ : K.In h₀) (I : InstAt s.heap x ox C od) (hb : ∀ M : Model, Looks M s.heap (typeOf b) (.type T)) (hc : selfFirst K C = true)
    (g0 : findIn K (.ref C) (PySem.dunder op.info.2) = some (some (.ref f))) (gf : isFn K (.ref f) = true) (g1 : findIn K (.ref C) (dunderR op.info.2) = some p3) (gp : p3 = none ∨ ∃ g : Addr, p3 = some (.ref g))
    (g2 : findIn K (.type T) (PySem.dunder op.info.2) = some p1) (g3 : findIn K (.type T) (dunderR op.info.2) = some p2) (g4 : subIn K (.type T) (.ref C) = some false)
    (h : wpAny (model prog w) A (call (.ref f) [.ref x, b]) (CmpBack Q) E s) : wpAny (model prog w) A (binaryOp op (.ref x) b) Q E s := by
  have KX := X₀.keeps F.keep
  obtain ⟨cdC, more, hC, eC⟩ := ksp_first hc
  have tried := ksp_try KX I g0 gf h
  generalize hi : op.info = info at g0 g1 g2 g3 tried
  obtain ⟨sign, nm⟩ := info
  obtain ⟨hp, gs, ds, tk, os⟩ := s
  have a1 : Looks (model prog w) hp (typeOf (.ref x)) (.ref C) := I.type
  have a2 : Looks (model prog w) hp (typeOf b) (.type T) := hb _
  have a3 : Looks (model prog w) hp (fillsNumberSlot (.ref C) nm) true := fills_K KX hC eC g0
  have a4 : Looks (model prog w) hp (fillsNumberSlot (.type T) nm) ((p1.isSome && !isSeqSlot p1) || (p2.isSome && !isSeqSlot p2)) := ksp_fillsT KX g2 g3
  have a5 : Looks (model prog w) hp (isSubtype (.type T) (.ref C)) false := looks_subIn KX g4
  have a6 : Looks (model prog w) hp (numberSlotInPython (.ref C) nm) true := ksp_inPy KX g0 g1 gp
  have a7 : Looks (model prog w) hp (numberSlotInPython (.type T) nm) false := Looks.of_pure rfl
  have a8 : Looks (model prog w) hp (typeLookup (.type T) (dunderR nm)) p2 := looks_findIn KX g3
  have other : (Value.ref C == Value.type T) = false := Bool.eq_false_iff.mpr (fun q => nomatch beq_iff_eq.mp q)
  generalize ((p1.isSome && !isSeqSlot p1) || (p2.isSome && !isSeqSlot p2)) = both at a4
  simp only [binaryOp, hi]
  refine wpAny_holding (wpAny_bind (show wpAny _ _ (binaryOp1 nm (.ref x) b) _ _ _ from ?_))
  unfold binaryOp1
  refine wpAny_bind (a1.at (wpAny_bind (a2.at (wpAny_bind (a3.at (?_ : wpAny _ _ _ _ _ _))))))
  simp only [other, Bool.false_eq_true, if_false]
  cases both <;> (ksp_lk; exact wpAny_mono tried (fun r s' ⟨v, er, hq⟩ => by subst er; ksp_lk; exact hq) fun _ _ e => e)
end
end PySem.W
namespace GV
open PySem PySem.Spec PyProof.Rows L2
/-- a method (or an own operator) of the class at C, with what it promises -/
def MethS (P : Program) (w : World) (K : PySem.W.Frag) (mg : Str → Option Value) (base : Heap) (CX : CXT) (C : Addr) (m : Str) (k : Nat) (ps : List Str) (sp : Sp) : Prop := ∃ f fd, Meth K C m f ∧ FnOk P w K mg base CX k f fd ps sp ∧ Binds K fd ps []
theorem vback {Q : Value → Shared → Prop} {v : V} {u : Value} {s : Shared} (r : RelV v u) (q : Q u s) : PySem.W.CmpBack Q u s := by
  cases v <;> first | (cases r; exact q) | (obtain ⟨t, z⟩ := r; subst z; exact q)
/-- what an operator of the class's own wants of the right side: its type -/
structure RightT (K : PySem.W.Frag) (C : Addr) (op : Operator) (T : String) : Prop where
  ex : ∃ p1 p2 p3, PySem.W.findIn K (.ref C) (PySem.dunderR op.info.2) = some p3 ∧ (p3 = none ∨ ∃ g : Addr, p3 = some (.ref g)) ∧ PySem.W.findIn K (.type T) (PySem.dunder op.info.2) = some p1 ∧ PySem.W.findIn K (.type T) (PySem.dunderR op.info.2) = some p2
  sub : PySem.W.subIn K (.type T) (.ref C) = some false
section
variable {X : Cx} {M : Addr → Prop} {σ : St} {H : Hp} {a b e o : Expr} {es : List Expr} {pos : Pos}
/-- f() -/
theorem ce_call0 {sp : Sp} {Q : VK} {j k : Nat} {x : Str} {p : Pos} (cl : Cl X.prog X.w X.K X.mg X.base CX0 k x sp) (hr : Room j X.A) (hkj : k ≤ j) (hg : Gl X x) (h : sp [] H Q E0) (hdb : (x == ("__debug__" : Str)) = false := by decide) : wE X (.Call (.Name x p) [] [] pos) σ H Q := by
  obtain ⟨f, fd, ps, F, hm, hk, hb⟩ := cl.ex
  exact ⟨_, pe_call0 F (hr.mono hkj) hg hm hk hb .nil pass0 hdb, h⟩
theorem fd_call0 {R : List PyData → List PyData → Prop} {fs : List PyData} {j k : Nat} {x : Str} {p : Pos} (cl : Cl X.prog X.w X.K X.mg X.base CX0 k x (FreshR X.K R)) (hr : Room j X.A) (hkj : k ≤ j) (hg : Gl X x) (hR : R [] fs) (hdb : (x == ("__debug__" : Str)) = false := by decide) : FD X M (.Call (.Name x p) [] [] pos) σ H fs :=
  .mk fun H1 e1 al Q q => ce_call0 cl hr hkj hg ⟨M, [], fs, al, .nil, hR, q⟩ hdb
/-- o.m(e, ..), whatever o is -/
theorem ce_methH {sp : Sp} {Q : VK} {j k : Nat} {C : Addr} {m : Str} {ps : List Str} {apos : Pos} {pl : Sem Bool} (c : Cls X.K C) (mt : MethS X.prog X.w X.K X.mg X.base CX0 C m k ps sp) (hr : Room j X.A) (hkj : k ≤ j)
    (h : wE X o σ H fun x H1 => ∃ a dx fs, x = .ref a ∧ H1 a = some (.ins C dx fs) ∧ fs.lookup m = none ∧ wA X (e :: es) σ H1 fun vs H2 => sp (.ref a :: vs) H2 Q E0)
    (he : starEach (e :: es) X.env = (false, eval e X.env) :: starEach es X.env := by rfl) (hpl : (backTo pos (starEach es X.env)).any (·.1) = false := by rfl)
    (hev : eval (.Call (.Attribute o m apos) (e :: es) [] pos) X.env = (do
      let ov ← eval o X.env
      standAt apos.atName
      let (f, first) ← holding [ov] (getMethod ov m pl)
      callWith pos f first (backTo pos (starEach (e :: es) X.env)) (backToKw pos (keywordEach [] X.env))) := by rfl) : wE X (.Call (.Attribute o m apos) (e :: es) [] pos) σ H Q := by
  obtain ⟨f, fd, hm, F, hb⟩ := mt
  refine ⟨_, pe_meth wE.pe c hm F (hr.mono hkj) hb .nil pass0 wA.pa he hpl hev, wE.weak h ?_⟩
  rintro x H1 ⟨p, dx, fs, rfl, hp, hf, hA⟩
  refine ⟨p, dx, fs, rfl, hp, hf, ?_⟩
  simp only [List.append_nil]
  exact hA
theorem ce_methH0 {sp : Sp} {Q : VK} {j k : Nat} {C : Addr} {m : Str} {ps : List Str} {apos : Pos} {pl : Sem Bool} (c : Cls X.K C) (mt : MethS X.prog X.w X.K X.mg X.base CX0 C m k ps sp) (hr : Room j X.A) (hkj : k ≤ j)
    (h : wE X o σ H fun x H1 => ∃ a dx fs, x = .ref a ∧ H1 a = some (.ins C dx fs) ∧ fs.lookup m = none ∧ sp [.ref a] H1 Q E0)
    (hev : eval (.Call (.Attribute o m apos) [] [] pos) X.env = (do
      let ov ← eval o X.env
      standAt apos.atName
      let (f, first) ← holding [ov] (getMethod ov m pl)
      callWith pos f first (backTo pos (starEach [] X.env)) (backToKw pos (keywordEach [] X.env))) := by rfl) : wE X (.Call (.Attribute o m apos) [] [] pos) σ H Q := by
  obtain ⟨f, fd, hm, F, hb⟩ := mt
  refine ⟨_, pe_meth0 wE.pe c hm F (hr.mono hkj) hb .nil pass0 hev, wE.weak h ?_⟩
  rintro x H1 ⟨p, dx, fs, rfl, hp, hf, hA⟩
  exact ⟨p, dx, fs, rfl, hp, hf, hA⟩
/-- .. that may raise -/
theorem ce_methX {sp : Sp} {W : WX} {Q : VK} {j k : Nat} {C : Addr} {m : Str} {ps : List Str} {apos : Pos} {pl : Sem Bool} (c : Cls X.K C) (mt : MethS X.prog X.w X.K X.mg X.base (L2.CX X.prog X.w) C m k ps sp) (hr : Room j X.A) (hkj : k ≤ j) (tk : Takes X W)
    (h : wE X o σ H fun x H1 => ∃ a dx fs, x = .ref a ∧ H1 a = some (.ins C dx fs) ∧ fs.lookup m = none ∧ wA X (e :: es) σ H1 fun vs H2 => sp (.ref a :: vs) H2 Q fun cls d H' => W cls d σ H')
    (he : starEach (e :: es) X.env = (false, eval e X.env) :: starEach es X.env := by rfl) (hpl : (backTo pos (starEach es X.env)).any (·.1) = false := by rfl)
    (hev : eval (.Call (.Attribute o m apos) (e :: es) [] pos) X.env = (do
      let ov ← eval o X.env
      standAt apos.atName
      let (f, first) ← holding [ov] (getMethod ov m pl)
      callWith pos f first (backTo pos (starEach (e :: es) X.env)) (backToKw pos (keywordEach [] X.env))) := by rfl) : wE X (.Call (.Attribute o m apos) (e :: es) [] pos) σ H Q := by
  obtain ⟨f, fd, hm, F, hb⟩ := mt
  refine ⟨fun σ H Q => wE X o σ H fun x H1 => ∃ a dx fs, x = .ref a ∧ H1 a = some (.ins C dx fs) ∧ fs.lookup m = none ∧ wA X (e :: es) σ H1 fun vs H2 => sp (.ref a :: vs) H2 Q fun cls d H' => W cls d σ H', ⟨fun pins s σ H Q I h => ?_⟩, h⟩
  refine PySem.W.methodCall_KW (pl := pl) (thn (wE.pe.run pins s σ H _ I h) fun u s1 ⟨x, H1, I1, rx, g, dx, fs, ex, eg, l, q⟩ => ?_) hev
  cases ex
  cases (show u = Value.ref g from rx)
  refine getmeth_ok I1 eg c hm l (PySem.W.callWith_K (first := [.ref g]) (h₀ := X.base) I1.ok.mod.kin hm.kp (thn (wA.pa.run pos pins s1 σ H1 _ I1 q) fun us s2 ⟨vs, H2, I2, r, q2⟩ => ⟨I2.kIn, ?_⟩) he hpl)
  exact run_fnS (us := .ref g :: us) (vs := .ref g :: vs) (E := fun σ cls d H' => W cls d σ H') F (hr.mono hkj) hb (passAt tk σ) I2 (.cons rfl r) q2
/-- a op b by the left side's own method: an object of the same class, or a value of a built-in type, on the right -/
def OwnR (X : Cx) (C : Addr) (op : Operator) (sp : Sp) (W : WX) (σ : St) (x y : V) (H : Hp) (Q : VK) : Prop := ∃ (a dx : Addr) (fs : List (Str × V)), x = .ref a ∧ H a = some (.ins C dx fs) ∧
  ((∃ (b dy : Addr) (gs : List (Str × V)), y = .ref b ∧ H b = some (.ins C dy gs)) ∨ ∃ T : String, TyX X.K H y (.type T) ∧ RightT X.K C op T) ∧ sp [x, y] H Q fun cls d H' => W cls d σ H'
theorem ce_own {op : Operator} {CX : CXT} {sp : Sp} {W : WX} {Q : VK} {j k : Nat} {C : Addr} {m : Str} {ps : List Str} (mt : MethS X.prog X.w X.K X.mg X.base CX C m k ps sp) (hm : m = PySem.dunder op.info.2) (hc : PySem.W.selfFirst X.K C = true) (hr : Room j X.A) (hkj : k ≤ j) (hx : ∀ σ, PassesAt CX X σ (WE W σ))
    (h : wE X a σ H fun x H1 => wE X b σ H1 fun y H2 => OwnR X C op sp W σ x y H2 Q) : wE X (.BinOp a op b pos) σ H Q := by
  subst hm
  obtain ⟨f, fd, hm, F, hb⟩ := mt
  refine ⟨fun σ H Q => wE X a σ H fun x H1 => wE X b σ H1 fun y H2 => OwnR X C op sp W σ x y H2 Q, ⟨fun pins s σ H Q I h => ?_⟩, h⟩
  refine wpAny_BinOp (binT (R := fun x y H2 => OwnR X C op sp W σ x y H2 Q) wE.pe wE.pe I h fun v u s2 x y H2 I2 rx ry ⟨a, dx, fs, ex, ea, right, q⟩ => ?_)
  subst ex
  cases (show v = Value.ref a from rx)
  obtain ⟨mA, J, _⟩ := ins_get I2.hok ea
  obtain ⟨od, J, _⟩ := J.look
  obtain ⟨mm, hF⟩ := I2.fr
  have run := run_fnS (us := [.ref a, u]) (vs := [.ref a, y]) (E := fun σ cls d H' => W cls d σ H') F (hr.mono hkj) hb (hx σ) I2 (.cons rfl (.cons ry .nil)) q
  have back : wpAny (model X.prog X.w) X.A (call (.ref f) [.ref a, u]) (PySem.W.CmpBack (EP X pins σ Q)) X.xe s2 := wpAny_mono run (fun r s' ⟨v, H', I', rv, q⟩ => vback rv ⟨v, H', I', rv, q⟩) fun _ _ z => z
  rcases right with ⟨b, dy, gs, ey, eb⟩ | ⟨T, ty, rt⟩
  · subst ey
    cases (show u = Value.ref b from ry)
    obtain ⟨mB, J', _⟩ := ins_get I2.hok eb
    obtain ⟨od', J', _⟩ := J'.look
    exact PySem.W.binop_K hF I2.ok.mod.kin J J'.type hc hm.at_ hm.fn back
  · obtain ⟨Pz, Z, pz, _⟩ := kit_of I2 ry ty
    obtain ⟨p1, p2, p3, r1, r2, r3, r4⟩ := rt.ex
    exact PySem.W.gv_right hF I2.ok.mod.kin J (fun M => Z.ty M _ I2.kIn pz) hc hm.at_ hm.fn r1 r2 r3 r4 rt.sub back
/-- a == b of objects, by the class's own == -/
def OwnE (C : Addr) (sp : Sp) : R2 := fun x y H Q => ∃ (a dx : Addr) (fs : List (Str × V)) (b dy : Addr) (gs : List (Str × V)), x = .ref a ∧ H a = some (.ins C dx fs) ∧ y = .ref b ∧ H b = some (.ins C dy gs) ∧ sp [x, y] H Q E0
theorem op_ownEq {sp : Sp} {j k : Nat} {C : Addr} {ps : List Str} (mt : MethS X.prog X.w X.K X.mg X.base CX0 C "__eq__" k ps sp) (hr : Room j X.A) (hkj : k ≤ j) : OpR X (compareOp .Eq) (OwnE C sp) := by
  intro pins s σ H x y v u Q I rx ry ⟨a, dx, fs, b, dy, gs, ex, ea, ey, eb, q⟩
  obtain ⟨f, fd, hm, F, hb⟩ := mt
  subst ex
  subst ey
  cases (show v = Value.ref a from rx)
  cases (show u = Value.ref b from ry)
  obtain ⟨mA, J, _⟩ := ins_get I.hok ea
  obtain ⟨mB, J', _⟩ := ins_get I.hok eb
  obtain ⟨od, J, _⟩ := J.look
  obtain ⟨od', J', _⟩ := J'.look
  obtain ⟨mm, hF⟩ := I.fr
  have run := run_fn (us := [.ref a, .ref b]) (vs := [.ref a, .ref b]) (dvs := []) (ds := []) F (hr.mono hkj) hb .nil pass0 I (.cons rfl (.cons rfl .nil)) q
  refine PySem.W.cmp_K (op := .Eq) (tb := .ref C) hr.units0 hF I.ok.mod.kin J J'.type (by simp [PySem.W.notFirst]) hm.at_ hm.fn (wpAny_mono run (fun r s' ⟨v, H', I', rv, q⟩ => vback rv ⟨v, H', I', rv, q⟩) fun _ _ z => z)
theorem ce_ownEq {sp : Sp} {Q : VK} {j k : Nat} {C : Addr} {ps : List Str} (mt : MethS X.prog X.w X.K X.mg X.base CX0 C "__eq__" k ps sp) (hr : Room j X.A) (hkj : k ≤ j) (h : wE X a σ H fun x H2 => wE X b σ H2 fun y H3 => OwnE C sp x y H3 Q) : wE X (.Compare a [.Eq] [b] pos) σ H Q :=
  ⟨_, pe_cmpR (op_ownEq mt hr hkj) wE.pe wE.pe (nomark _), h⟩
/-- len(o) of an object, by the class's own len -/
theorem call_ownLen {sp : Sp} {j k : Nat} {C : Addr} {ps : List Str} (mt : MethS X.prog X.w X.K X.mg X.base CX0 C "__len__" k ps sp) (hr : Room (j + 1) X.A) (hkj : k ≤ j) :
    CallR X (.builtin "len") (fun xs H Q => ∃ (a dx : Addr) (fs : List (Str × V)), xs = [.ref a] ∧ H a = some (.ins C dx fs) ∧ sp xs H (fun v H' => ∃ n : Nat, v = .int n ∧ n < 2 ^ 62 ∧ Q v H') E0) := by
  intro pins s σ H xs us Q I r ⟨a, dx, fs, ex, ea, q⟩
  obtain ⟨f, fd, hm, F, hb⟩ := mt
  subst ex
  cases r with
  | cons rx rt =>
    cases rt
    rename_i u
    cases (show u = Value.ref a from rx)
    obtain ⟨mA, J, _⟩ := ins_get I.hok ea
    obtain ⟨od, J, _⟩ := J.look
    obtain ⟨mm, hF⟩ := I.fr
    have hl := F.len _ _ _ _ q
    have bt := hb s [.ref a] I.kIn hl
    refine PySem.W.len_K hF I.ok.mod.kin J hm.at_ hm.fn (wpAny_call (codeAny_mono (F.run X.A.in1 X.stack s H ⟨[.ref a], []⟩ [.ref a] [.ref a] _ E0 (hr.in1.mono hkj) I.env0.in1 bt (.cons rfl .nil) q) fun r s' hq => ?_))
    cases r with
    | error e => exact hq.elim
    | ok fl =>
      cases fl with
      | ret u =>
        obtain ⟨v, H', I', rv, n, ev, hn, q'⟩ := I.after hq
        subst ev
        obtain ⟨t, et⟩ := (show ∃ t, u = Value.int n t from rv)
        subst et
        exact ⟨⟨by omega, by omega⟩, .int n, H', I'.tok _, ⟨_, rfl⟩, q'⟩
      | next => exact False.elim hq
      | brk => exact False.elim hq
      | cont => exact False.elim hq
end
end GV

/-! what the top wrote: list(a dict of texts), items of a tuple, enumerate(a tuple), a class's constant -/
namespace GV
open PySem PySem.Spec PyProof.Rows L2
/-- the keys of a written dict, in their order -/
inductive KeysT : List DictEntry → List Str → Prop
  | nil : KeysT [] []
  | cons {e : DictEntry} {x : Str} {es : List DictEntry} {xs : List Str} : (∃ t, e.key = .str x t) → KeysT es xs → KeysT (e :: es) (x :: xs)
theorem KeysT.pairs {prog : Program} {w : World} : ∀ {es : List DictEntry} {xs : List Str}, KeysT es xs → ∃ kvs : List (Str × Value), kvs.map (·.1) = xs ∧ PySem.Pairs (PySem.strKind prog w) es kvs
  | _, _, .nil => ⟨[], rfl, .nil⟩
  | _, _, .cons (e := e) (x := x) ⟨t, h⟩ r => by
    obtain ⟨kvs, h1, h2⟩ := r.pairs (prog := prog) (w := w)
    refine ⟨(x, e.val) :: kvs, by rw [List.map_cons, h1], .cons ?_ rfl h2⟩
    rw [h]
    show Value.isStrOf x (.str x t) = true
    simp [Value.isStrOf]
section
variable {X : Cx} {M : Addr → Prop} {σ : St} {H : Hp} {a b e : Expr} {pos : Pos}
theorem call_listKD {d : Addr} {es : Array DictEntry} {n : Nat} {ks : List Str} (hcalm : X.calm = true) (D : KDict X.K X.w d es n) (kt : KeysT es.toList ks) (nd : ks.Nodup) (hz : ks.length ≤ 1000) :
    CallR X (.type "list") (fun xs H Q => xs = [.ref d] ∧ ∀ p, H p = none → Q (.ref p) (upd H p (.lst (ks.map V.str)))) := by
  intro pins s σ H xs us Q I r ⟨ex, q⟩
  subst ex
  obtain ⟨u, eu, rx⟩ := vals1 r
  subst eu
  cases rx
  obtain ⟨kvs, hk1, hk2⟩ := kt.pairs (prog := X.prog) (w := X.w)
  have mo := PySem.W.mapOf_K (prog := X.prog) (w := X.w) I.kIn D.at_ D.lit
  obtain ⟨o, es', ep, ho, hx, hd, hko, _⟩ := mo
  have ho2 := I.kIn _ _ D.at_
  rw [ho] at ho2
  cases ho2
  have hat : s.heap.DictAt (PySem.strKind X.prog X.w) d kvs n := by
    cases hd
    exact ⟨_, es, ho, hx, rfl, hko, hk2, by rw [hk1]; exact nd⟩
  have hlen : kvs.length = ks.length := by rw [← hk1, List.length_map]
  refine PySem.W.kdl_call (PySem.W.kdl_dict (knd := PySem.strKind X.prog X.w) (kvs := kvs) (ep := n) D.low) (I.ok.hd hcalm) hat (by rw [hlen, sizeLine_eq]; omega) fun h' tk acc c' hk hD hacc => ?_
  have hv : Vals (ks.map V.str) acc.toList := by
    have gen : ∀ (zs : List (Str × Value)) (us : List Value), us.length = zs.length → (∀ (j : Nat) (v : Value), us[j]? = some v → ∃ k x, zs[j]? = some (k, x) ∧ (PySem.strKind X.prog X.w).is k v = true) → Vals ((zs.map (·.1)).map V.str) us := by
      intro zs
      induction zs with
      | nil =>
        intro us hl _
        cases us with
        | nil => exact .nil
        | cons _ _ => cases hl
      | cons z zs ih =>
        intro us hl h
        cases us with
        | nil => cases hl
        | cons v us =>
          obtain ⟨k, x, e1, e2⟩ := h 0 v rfl
          cases e1
          obtain ⟨t, et⟩ := Value.isStrOf_shape (show Value.isStrOf k v = true from e2)
          exact .cons ⟨t, et⟩ (ih us (Nat.succ.inj hl) fun j v hj => h (j + 1) v hj)
    rw [← hk1]
    exact gen kvs acc.toList (by rw [Array.length_toList]; exact hacc.1) fun j v e => hacc.2 j v (by rw [← Array.getElem?_toList]; exact e)
  refine ⟨.ref s.heap.objs.size, upd H s.heap.objs.size (.lst (ks.map V.str)), I.laid (t' := tk) hk (Nat.le_refl _)
    (show ObjOk X.prog X.w _ _ _ (.lst (ks.map V.str)) from ⟨by rw [List.length_map, sizeLine_eq]; omega, acc.toList, c', hv, by rw [Array.toArray_toList]; exact hD⟩), rfl, q _ (I.hok.fresh (Nat.le_refl _))⟩
/-- list(D), D a dict of texts that the top wrote -/
theorem fd_listKD {d : Addr} {es : Array DictEntry} {n : Nat} {ks : List Str} {x : Str} {p p2 : Pos} (hcalm : X.calm = true) (hg : Gl X "list") (hm : X.mg "list" = none) (hgD : Gl X x) (hmD : X.mg x = some (.ref d)) (D : KDict X.K X.w d es n) (kt : KeysT es.toList ks) (nd : ks.Nodup) (hz : ks.length ≤ 1000)
    (hdb : (x == ("__debug__" : Str)) = false := by decide) (hs : starEach (.Name x p2 :: []) X.env = (false, eval (.Name x p2) X.env) :: starEach [] X.env := by rfl) (hpl : (backTo pos (starEach [] X.env)).any (·.1) = false := by rfl) :
    FD X M (.Call (.Name "list" p) [.Name x p2] [] pos) σ H (ks.map PyData.str) := .mk fun H1 e1 al Q q =>
  ⟨_, pe_callTy (call_listKD hcalm D kt nd hz) hg hm PyProof.Rows.boot_list wA.pa (by decide) (by decide) hs hpl, ca_cons ⟨_, pe_glob hgD hmD (v := .ref d) rfl hdb, ca_nil ⟨rfl, fun p hp => q p _ _ hp (Evl.Ex.new hp) upd_same (.strs ks)⟩⟩ hs⟩
/-- a tuple that the top wrote -/
def KTup (K : PySem.W.Frag) (a : Addr) (xs : List V) : Prop := ∃ (o : Obj) (its : Array Value) (n : Nat), K.lookup a = some o ∧ o.cls = .type "tuple" ∧ o.data = .seq its n ∧ its.size ≤ sizeLine ∧ Vals xs its.toList
theorem pd_ixK {t : Addr} {ks : List Str} {x z : Str} {i : Nat} {p : Pos} (h : KTup X.K t (ks.map V.str)) (hg : Gl X x) (hm : X.mg x = some (.ref t)) (hb : PD X M b σ H (.int (i : Nat))) (hz : ks[i]? = some z) (hdb : (x == ("__debug__" : Str)) = false := by decide) (hs : PlainIx b := by exact fun _ _ => rfl) :
    PD X M (.Subscript (.Name x p) b pos) σ H (.str z) := .mk fun H1 e1 al Q q =>
  ⟨_, pe_ix ix_seq (pe_glob hg hm (v := .ref t) rfl hdb) wE.pe hs, hb.run H1 e1 al _ fun v H2 x2 r => by
    cases r
    refine .inr (.inl ⟨t, ks.map V.str, (i : Nat), .str z, rfl, rfl, .inr h, ?_, q _ H2 x2 (.str z)⟩)
    exact atI_nat (by rw [List.getElem?_map, hz]; rfl)⟩
theorem wk_enumK {K : PySem.W.Frag} {t : Addr} {xs : List V} {ds : List PyData} (h : KTup K t xs) (r : RpAll K M H xs ds) : Wk K M (IteT K t) H (enumD ds) := by
  refine ⟨fun M' i H' hm e hi => ?_, fun M' H' hm e => ⟨xs, .inr h, by rw [r.length, enumD_length]; exact Nat.le_refl _⟩, fun M' i H' x H'' hm e al y => ?_⟩
  · have hx : i < xs.length := by rw [r.length, ← enumD_length]; exact hi
    exact ⟨xs, xs[i], .inr h, List.getElem?_eq_getElem hx⟩
  · obtain ⟨T, z, rfl, hT, rfl, y⟩ := y
    refine ⟨Evl.Ex.new hT, fun d hd => ?_⟩
    obtain ⟨e', he, rfl⟩ := enumD_get hd
    obtain ⟨v, hv, rv⟩ := r.get he
    have q := y xs (.inr h)
    rw [hv] at q
    cases q
    exact .tup (al.fresh hT) (.inl upd_same) (.cons (.int _) (.cons (((rv.wide hm).mono (fun _ z => z) e).mono (fun _ z => z) (.of (Evl.Ex.new hT))) .nil))
theorem src_enumK {p tpos : Pos} {elts : List Expr} {kk : Nat} {t : Addr} {xs : List V} {ds : List PyData} (hg : Gl X "enumerate") (hm : X.mg "enumerate" = none) (h : KTup X.K t xs) (r : ∀ H, RpAll X.K M H xs ds) (he : ∀ H1 (Q : VK), Q (.ref t) H1 → wE X e σ H1 Q) (hs : starEach [e] X.env = [(false, eval e X.env)] := by rfl)
    (hs' : starEach (e :: []) X.env = (false, eval e X.env) :: starEach [] X.env := by rfl) : Src X M (.Tuple elts kk tpos) (.Call (.Name "enumerate" p) [e] [] pos) σ H (enumD ds) :=
  ⟨_, pi_enumT hg hm wA.pa hs, fun H1 e1 al R q => ca_cons (he _ _ (ca_nil ⟨t, xs, rfl, .inr h, q _ H1 (Evl.Ex.refl H1) (wk_enumK h (r H1))⟩)) hs'⟩
/-- C.f, a constant of the class at C -/
theorem ce_cval {C : Addr} {mc u : Value} {x f : Str} {v : V} {p : Pos} {Q : VK} (hg : Gl X x) (hm : X.mg x = some (.ref C)) (r : ClX.CRead X.K C mc) (k : ClX.CVal X.K C mc f v u) (q : Q v H) (hdb : (x == ("__debug__" : Str)) = false := by decide) (hb : attributeBase (.Name x p) f X.env (eval (.Name x p) X.env) = eval (.Name x p) X.env := by rfl) :
    wE X (.Attribute (.Name x p) f pos) σ H Q := ⟨_, ClX.pe_cval (pe_glob hg hm (v := .ref C) rfl hdb) hb, C, mc, v, u, rfl, r, k, q⟩
end
end GV

namespace AK
open PySem PySem.Spec PyProof.Rows L2 GV
/-! ### houses as values -/
def flS (i : Nat) : Nat := 4 * (i % 2) + 2 * (i / 2 % 2) + i / 4
def mirN (n : Nat) : Nat := n / 8 + 8 * (n % 8)
def flN (n : Nat) : Nat := flS (n % 8) + 8 * flS (n / 8)
theorem mir_lt {n : Nat} (hn : n < 64) : mirN n < 64 := by unfold mirN; omega
theorem fl_lt {n : Nat} (hn : n < 64) : flN n < 64 := all63 (p := fun n => flN n < 64) (by decide +kernel) hn
theorem mir_pos {n : Nat} (hn : n < 64) (h : 1 ≤ n) : 1 ≤ mirN n := by unfold mirN; omega
theorem fl_pos {n : Nat} (hn : n < 64) (h : 1 ≤ n) : 1 ≤ flN n := by
  have := all63 (p := fun n => 1 ≤ n → 1 ≤ flN n) (by decide +kernel) hn
  exact this h
def sidesL : List Str := ["", "l", "b", "lb", "h", "lh", "bh", "lbh"]
def flipL : List Str := ["", "h", "b", "bh", "l", "lh", "lb", "lbh"]
theorem sides_get {i : Nat} (h : i < 8) : sidesL[i]? = some (sideT i) := by
  match i, h with
  | 0, _ => rfl
  | 1, _ => rfl
  | 2, _ => rfl
  | 3, _ => rfl
  | 4, _ => rfl
  | 5, _ => rfl
  | 6, _ => rfl
  | 7, _ => rfl
theorem flip_get {i : Nat} (h : i < 8) : flipL[i]? = some (sideT (flS i)) := by
  match i, h with
  | 0, _ => rfl
  | 1, _ => rfl
  | 2, _ => rfl
  | 3, _ => rfl
  | 4, _ => rfl
  | 5, _ => rfl
  | 6, _ => rfl
  | 7, _ => rfl
theorem fl_tx {n : Nat} (hn : n < 64) : sideT (flS (n % 8)) ++ "-" ++ sideT (flS (n / 8)) = txN (flN n) := all63 (p := fun n => sideT (flS (n % 8)) ++ "-" ++ sideT (flS (n / 8)) = txN (flN n)) (by decide +kernel) hn
theorem fls_lt {i : Nat} (h : i < 8) : flS i < 8 := by unfold flS; omega
structure SidesK (K : PySem.W.Frag) (mg : Str → Option Value) (w : World) : Prop where
  ex : ∃ d es n, mg "_SIDES" = some (.ref d) ∧ KDict K w d es n ∧ KeysT es.toList sidesL
structure FlipK (K : PySem.W.Frag) (mg : Str → Option Value) : Prop where
  ex : ∃ t, mg "_FLIPPED_SIDES" = some (.ref t) ∧ KTup K t (flipL.map V.str)
structure KindsK (K : PySem.W.Frag) (CH : Addr) : Prop where
  ex : ∃ (t : Addr) (mc : Value), ClX.CRead K CH mc ∧ ClX.CVal K CH mc "KINDS" (.ref t) (.ref t) ∧ KTup K t (ordK.map V.str)
structure HD (X : Cx) (CH : Addr) (e : Expr) (σ : St) (H : Hp) (n : Nat) : Prop where
  run : ∀ H1, ExM M0 H H1 → ∀ Q : VK, (∀ h H2, Evl.Ex H1 H2 → HAt CH n H2 h → Q (.ref h) H2) → wE X e σ H1 Q
section
variable {X : Cx} {CH : Addr} {σ : St} {H H' : Hp} {a b e : Expr} {n m : Nat} {pos : Pos}
theorem HD.mono (h : HD X CH e σ H n) (x : ExM M0 H H') : HD X CH e σ H' n := ⟨fun H1 e1 Q q => h.run H1 (x.trans e1) Q q⟩
theorem HD.is (h : HD X CH e σ H n) (q : n = m) : HD X CH e σ H m := q ▸ h
theorem HAt.ex' {h : Addr} (a : HAt CH n H h) (x : Evl.Ex H H') : HAt CH n H' h := a.ex fun o => x _ _
theorem HAt.m0 {h : Addr} (a : HAt CH n H h) (x : ExM M0 H H') : HAt CH n H' h := a.exM x fun z => z
theorem ce_hd {Q : VK} (h : HD X CH e σ H n) (q : ∀ h H2, Evl.Ex H H2 → HAt CH n H2 h → Q (.ref h) H2) : wE X e σ H Q := h.run H (ExM.refl H) Q q
theorem hnm (i : Nat) {x : Str} {h : Addr} (r : HAt CH n H h) (hN : X.N[i]? = some x := by rfl) (hv : Vis X.env.scope x := by first | exact .inl rfl | exact .inr (.inl rfl) | exact .inr (.inr rfl)) (hs : σ[i]? = some (some (.ref h)) := by rfl) (hd : (x == ("__debug__" : Str)) = false := by decide)
    (hcd : (x == ("__classdict__" : Str)) = false := by decide) : HD X CH (.Name x pos) σ H n := ⟨fun H1 e1 Q q => ce_nm i (q h H1 (Evl.Ex.refl H1) (r.m0 e1)) hN hv hs hd hcd⟩
theorem pd_numH (B : HouC X.K CH) (h : HD X CH e σ H n) (hb : attributeBase e "number" X.env (eval e X.env) = eval e X.env := by rfl) : PD X M0 (.Attribute e "number" pos) σ H (.int (n : Nat)) := .mk fun H1 e1 al Q q => by
  refine ce_fld (h.run H1 e1 _ fun hh H2 x2 ho => ?_) hb
  obtain ⟨dx, e2⟩ := ho
  exact ⟨hh, CH, dx, _, _, rfl, e2, B.ins.cl, B.nN, rfl, q _ H2 x2 (.int _)⟩
theorem pd_txtH (B : HouC X.K CH) (h : HD X CH e σ H n) (hb : attributeBase e "text" X.env (eval e X.env) = eval e X.env := by rfl) : PD X M0 (.Attribute e "text" pos) σ H (.str (txN n)) := .mk fun H1 e1 al Q q => by
  refine ce_fld (h.run H1 e1 _ fun hh H2 x2 ho => ?_) hb
  obtain ⟨dx, e2⟩ := ho
  exact ⟨hh, CH, dx, _, _, rfl, e2, B.ins.cl, B.nT, rfl, q _ H2 x2 (.str _)⟩
end
section
variable {P : Program} {w : World} {K : PySem.W.Frag} {mg : Str → Option Value} {base : Heap}
/-! ### text_of_number -/
def R_ton (ds : List PyData) (d : PyData) : Prop := ∃ n : Nat, n < 64 ∧ ds = [.int (n : Nat)] ∧ d = .str (txN n)
theorem cl_text_of_number {f : Addr} {fd : FuncData} (F : At K mg "text_of_number" s_text_of_number f fd) (nb : NoB mg) (S : SidesK K mg w) : Cl P w K mg base CX0 1 "text_of_number" (PureR K R_ton) := by
  refine cl_pure F sc_text_of_number (F.fn.binds fun _ _ _ _ _ _ us hl => match us, hl with | [_], _ => rfl) (fun ds d h => ?_) (fun X cdv A outer s H Q E M vs ds d hX hr al r h q => ?_)
  · obtain ⟨n, _, rfl, _⟩ := h
    rfl
  · obtain ⟨n, hn, rfl, rfl⟩ := h
    obtain ⟨v, rfl, r1⟩ := rpa1 r
    cases r1
    subst hX
    obtain ⟨d, es, k, hm, D, kt⟩ := S.ex
    have h1 : n % 8 < 8 := Nat.mod_lt _ (by decide)
    have h2 : n / 8 < 8 := by omega
    refine b_cons (cs_set (i := 1) sc_text_of_number.nd rfl (.inl rfl) (ce_fd al (fd_listKD rfl rfl nb.list rfl hm D kt (by decide) (by decide)) fun l ws H2 hl x2 hl2 rl => ?_))
    have rl2 : Rp K M H2 (.ref l) (.list (sidesL.map PyData.str)) := .lst (al.fresh hl) (.inl hl2) rl
    have ixs : ∀ i, i < 8 → ixD (.list (sidesL.map PyData.str)) (.int (i : Nat)) = some (.str (sideT i)) := fun i hi => ixD_list (by rw [List.getElem?_map, sides_get hi]; rfl)
    have hl8 : ∀ i, i < 8 → (sideT i).length ≤ 3 := fun i hi => side_len (by omega)
    refine b_cons (s_ret (al.mono x2) (pd_addS (pd_addS (pd_ix (nm 1 rl2) (PD.is (pd_mod (nm 0 (.int (n : Nat))) (pd_int (i := 8)) (by decide)) (congrArg PyData.int (show (n : Int) % 8 = ((n % 8 : Nat) : Int) by omega))) (ixs _ h1)) pd_str ?_) (pd_ix (nm 1 rl2) (PD.is (pd_div (nm 0 (.int (n : Nat))) (pd_int (i := 8)) ⟨by decide, by decide⟩) (congrArg PyData.int (show (n : Int) / 8 = ((n / 8 : Nat) : Int) by omega))) (ixs _ h2)) ?_) fun v H3 x3 r3 => q v H3 (x2.trans x3) r3)
    · have := hl8 _ h1
      have e : ("-" : Str).length = 1 := by decide +kernel
      omega
    · have a1 := hl8 _ h1
      have a2 := hl8 _ h2
      have e : (sideT (n % 8) ++ "-").length ≤ 4 := all63 (p := fun n => (sideT (n % 8) ++ "-").length ≤ 4) (by decide +kernel) hn
      omega
end
end AK

namespace AK
open PySem PySem.Spec PyProof.Rows L2 GV
/-! ### the methods of a house -/
section
variable {X : Cx} {CH : Addr} {σ : St} {H H' : Hp} {a b e : Expr} {n m : Nat} {pos : Pos}
theorem ce_isiH {p1 p2 : Pos} {Q : VK} (B : HouC X.K CH) (hg : Gl X "isinstance") (hm : X.mg "isinstance" = none) (hgH : Gl X "House") (gH : X.mg "House" = some (.ref CH)) (h : HD X CH e σ H n) (q : ∀ H2, Evl.Ex H H2 → Q (.bl true) H2)
    (hs : starEach (e :: [.Name "House" p2]) X.env = (false, eval e X.env) :: starEach [.Name "House" p2] X.env := by rfl) (hs2 : starEach (.Name "House" p2 :: []) X.env = (false, eval (.Name "House" p2) X.env) :: starEach [] X.env := by rfl) (hpl : (backTo pos (starEach [.Name "House" p2] X.env)).any (·.1) = false := by rfl) :
    wE X (.Call (.Name "isinstance" p1) [e, .Name "House" p2] [] pos) σ H Q :=
  ⟨_, pe_callB (C8.call_isC B.ins) hg hm PyProof.Rows.boot_isinstance (pa_cons wE.pe (pa_cons (pe_glob hgH gH (v := .ref CH) rfl (by decide)) pa_nil hs2) hs) (by decide) (by decide) hs hpl, ce_hd h fun hh H2 x2 ho => by
    obtain ⟨dx, e2⟩ := ho
    exact ⟨hh, dx, _, rfl, e2, q H2 x2⟩⟩
theorem pd_isiH {p1 p2 : Pos} (B : HouC X.K CH) (hg : Gl X "isinstance") (hm : X.mg "isinstance" = none) (hgH : Gl X "House") (gH : X.mg "House" = some (.ref CH)) (h : HD X CH e σ H n)
    (hs : starEach (e :: [.Name "House" p2]) X.env = (false, eval e X.env) :: starEach [.Name "House" p2] X.env := by rfl) (hs2 : starEach (.Name "House" p2 :: []) X.env = (false, eval (.Name "House" p2) X.env) :: starEach [] X.env := by rfl) (hpl : (backTo pos (starEach [.Name "House" p2] X.env)).any (·.1) = false := by rfl) :
    PD X M0 (.Call (.Name "isinstance" p1) [e, .Name "House" p2] [] pos) σ H (.bool true) := .mk fun H1 e1 al Q q => ce_isiH B hg hm hgH gH (h.mono e1) (fun H2 x2 => q _ H2 x2 (.bl true)) hs hs2 hpl
end
def spH (CH : Addr) (then_ : Addr → Nat → Hp → VK → Prop) : Sp := fun vs H Q _ => ∃ h n, vs = [.ref h] ∧ HAt CH n H h ∧ 1 ≤ n ∧ n < 64 ∧ then_ h n H Q
def spHH (CH : Addr) (then_ : Nat → Nat → Hp → VK → Prop) : Sp := fun vs H Q _ => ∃ h n g m, vs = [.ref h, .ref g] ∧ HAt CH n H h ∧ HAt CH m H g ∧ 1 ≤ n ∧ n < 64 ∧ 1 ≤ m ∧ m < 64 ∧ then_ n m H Q
abbrev toFr (K : PySem.W.Frag) (ds : List PyData) (H : Hp) (Q : VK) : Prop := ∀ p ws H', H p = none → Evl.Ex H H' → H' p = some (.lst ws) → RpAll K M0 H' ws ds → Q (.ref p) H'
abbrev toHo (CH : Addr) (n : Nat) (H : Hp) (Q : VK) : Prop := ∀ h H', Evl.Ex H H' → HAt CH n H' h → Q (.ref h) H'
def nbD (n : Nat) : PyData → Bool
  | .tuple [.int i, _] => bitN n i.toNat
  | _ => false
def sndD : PyData → PyData
  | .tuple [_, d] => d
  | d => d
theorem named_eq {n : Nat} (hn : n < 64) : ((enumD (ordK.map PyData.str)).filter (nbD n)).map sndD = (kindsL n).map PyData.str := by
  have e : (enumD (ordK.map PyData.str)) = (List.range 6).map fun i => PyData.tuple [.int (i : Nat), .str (ordK.getD i "")] := rfl
  rw [e, List.filter_map, List.map_map]
  unfold kindsL
  rw [List.map_map]
  have e2 : (List.range 6).filter (nbD n ∘ fun i => PyData.tuple [.int (i : Nat), .str (ordK.getD i "")]) = (List.range 6).filter (bitN n) := List.filter_congr fun i _ => by
    show bitN n ((i : Nat) : Int).toNat = bitN n i
    rw [Int.toNat_natCast]
  rw [e2]
  rfl
section
variable {P : Program} {w : World} {K : PySem.W.Frag} {mg : Str → Option Value} {base : Heap}
abbrev MH (P : Program) (w : World) (K : PySem.W.Frag) (mg : Str → Option Value) (base : Heap) (CX : CXT) (C : Addr) (m : Str) (k : Nat) (ps : List Str) (sp : Sp) : Prop := MethS P w K mg base CX C m k ps sp
theorem ok_named {f CH : Addr} {fd : FuncData} (F : Fun K "named" "House.named" s_House_named f fd) (nb : NoB mg) (B : HouC K CH) (gH : mg "House" = some (.ref CH)) (kk : KindsK K CH) (bm : MethS P w K mg base CX0 CH "names_index" 1 ["self", "index"] (spBit CH)) :
    FnOk P w K mg base CX0 2 f fd ["self"] (spH CH fun _ n H Q => toFr K ((kindsL n).map PyData.str) H Q) := by
  refine F.ok sc_House_named (fun vs H Q E h => ?_) (fun cdv A outer sh H vs Q E hr h => ⟨_, wB.ps, ?_⟩)
  · obtain ⟨b, n, rfl, _⟩ := h
    rfl
  · obtain ⟨h, n, rfl, ⟨dx, hh⟩, n1, n2, q⟩ := h
    obtain ⟨t, mc, r, cv, kt⟩ := kk.ex
    obtain ⟨fb, fdb, bm1, bm2, bm3⟩ := bm
    refine b_cons (cs_ret (ce_fd (M := M0) alive0 (fd_filterO (t := .two 1 2) (own := [("index", 1), ("kind", 2)]) (nbD n) sndD rfl sc_House_named.nd (src_enumK rfl nb.enumerate kt (fun H => RpAll.strs ordK) (fun H1 Q q => ce_cval rfl gH r cv q)) (blkOk_by (N := n_House_named) (sc := defScope s_House_named) (by decide +kernel)) (fun _ _ _ _ _ => pg_tup rfl (pgs_cons (pg_name (i := 1) sc_House_named.nd rfl (.inl rfl)) (pgs_cons (pg_name (i := 2) sc_House_named.nd rfl (.inl rfl)) pgs_nil))) ?_ ?_ ?_ ?_) fun l ws H' h1 h2 h3 h4 => q l ws H' h1 h2 h3 (by rw [← named_eq n2]; exact h4)))
    · intro d hd
      obtain ⟨i, hi⟩ := List.mem_iff_getElem?.mp hd
      obtain ⟨e', he, rfl⟩ := enumD_get hi
      exact ⟨_, _, rfl⟩
    · rintro M H d σ' ⟨_, _, _, _, _, _, _, rfl⟩
      rfl
    · decide
    · rintro s0 H0 C cl fp M' H' d σ' hM lift kp hd ⟨da, db, v1, v2, e, q1, q2, rfl⟩
      obtain ⟨i, hi⟩ := List.mem_iff_getElem?.mp hd
      obtain ⟨e', he, rfl⟩ := enumD_get hi
      cases e
      cases q1
      obtain ⟨hh', nh'⟩ := kp _ _ (fun z => z) (fun _ z => by cases z) hh
      refine ⟨td_val (.mk fun H1 e1 al1 Q q => ?_), nm 2 q2⟩
      have hh1 := e1 _ _ hh' nh' (fun _ z => by cases z)
      refine ce_meth (AtN.name (i := 0) rfl (by first | exact .inl rfl | exact .inr (.inl rfl) | exact .inr (.inr rfl)) rfl) B.ins.cl bm1 bm2 hr (by decide) bm3 pass0 hh1 rfl (ca_cons (ce_nm 1 (ca_nil ⟨h, n, i, rfl, ⟨dx, hh1⟩, fun H3 x3 => ?_⟩)))
      have e2 : bitN n i = nbD n (.tuple [.int (i : Nat), db]) := by
        show _ = bitN n ((i : Nat) : Int).toNat
        rw [Int.toNat_natCast]
      rw [e2]
      exact q _ H3 x3 (.bl _)
theorem ok_len {f CH : Addr} {fd : FuncData} (F : Fun K "__len__" "House.__len__" s_House_len f fd) (nb : NoB mg) (B : HouC K CH) (nm_ : MethS P w K mg base CX0 CH "named" 2 ["self"] (spH CH fun _ n H Q => toFr K ((kindsL n).map PyData.str) H Q)) :
    FnOk P w K mg base CX0 3 f fd ["self"] (spH CH fun _ n H Q => ∀ H', Evl.Ex H H' → Q (.int ((kindsL n).length : Nat)) H') := by
  refine F.ok sc_House_len (fun vs H Q E h => ?_) (fun cdv A outer sh H vs Q E hr h => ⟨_, wB.ps, ?_⟩)
  · obtain ⟨b, n, rfl, _⟩ := h
    rfl
  · obtain ⟨h, n, rfl, ⟨dx, hh⟩, n1, n2, q⟩ := h
    refine b_cons (s_ret (M := M0) alive0 (pd_len nb rfl (FD.pd (ds := (kindsL n).map PyData.str) (.mk fun H1 e1 al1 Q q => ?_)) (n := (kindsL n).length) (by simp [lenD])) fun v H2 x2 r2 => ?_)
    · have hh1 := e1 _ _ hh (fun z => z) (fun _ z => by cases z)
      exact ce_methH0 B.ins.cl nm_ hr (by decide) (ce_nm 0 ⟨h, dx, _, rfl, hh1, rfl, h, n, rfl, ⟨dx, hh1⟩, n1, n2, q⟩)
    · cases r2
      exact q H2 x2
theorem ok_eq {f CH : Addr} {fd : FuncData} (F : Fun K "__eq__" "House.__eq__" s_House_eq f fd) (nb : NoB mg) (B : HouC K CH) (gH : mg "House" = some (.ref CH)) :
    FnOk P w K mg base CX0 1 f fd ["self", "other"] (spHH CH fun n m H Q => ∀ H', Evl.Ex H H' → Q (.bl (decide (n = m))) H') := by
  refine F.ok sc_House_eq (fun vs H Q E h => ?_) (fun cdv A outer sh H vs Q E hr h => ⟨_, wB.ps, ?_⟩)
  · obtain ⟨b, n, g, m, rfl, _⟩ := h
    rfl
  · obtain ⟨h, n, g, m, rfl, h1, h2, _, _, _, _, q⟩ := h
    refine b_cons (s_ret (M := M0) (d := .bool (decide (n = m))) alive0 (PD.is (pd_and (pd_isiH B rfl nb.isinstance rfl gH (hnm 1 h2)) fun _ => pd_one (pd_eq hr.units (pd_numH B (hnm 0 h1)) (pd_numH B (hnm 1 h2)) rfl rfl)) ?_) fun v H2 x2 r2 => ?_)
    · rw [eqv_int, Bool.true_and]
      congr 1
      exact decide_eq_decide.mpr (by omega)
    · cases r2
      exact q H2 x2
end
end AK

/-! lists of texts walked by comprehensions, a dict of four texts, the index of a text -/
namespace GV
open PySem PySem.Spec PyProof.Rows L2
def strP (p : Str → Bool) : PyData → Bool
  | .str x => p x
  | _ => false
def strF (g : Str → PyData) : PyData → PyData
  | .str x => g x
  | d => d
theorem strs_filter (p : Str → Bool) (g : Str → PyData) (l : List Str) : ((l.map PyData.str).filter (strP p)).map (strF g) = (l.filter p).map g := by
  rw [List.filter_map, List.map_map]
  rfl
section
variable {X : Cx} {M : Addr → Prop} {σ : St} {H : Hp} {a b e o tg iter tst : Expr} {pos : Pos}
/-- [elt for x in a list of texts if test] -/
theorem fd_filterS {i : Nat} {elt : Expr} {scope : Scope} {own : List (Str × Nat)} {l : List Str} (p : Str → Bool) (g : Str → PyData) (hc : X.calm = true) (hN : X.N.Nodup) (hi : PD X M iter σ H (.list (l.map PyData.str))) (ok : BlkOk X.N X.env.scope scope own)
    (hg : ∀ s H C cl fp, PG (Cx.lc X s H scope C cl fp) tg (gName i)) (hl : l.length ≤ 100000)
    (body : ∀ s0 H0 C cl fp M' H' y, (∀ a, M a → M' a) → (∀ v e, Rp X.K M H v e → Rp X.K M' H' v e) → (∀ a o, ¬ M a → NT o → H a = some o → H' a = some o ∧ ¬ M' a) → y ∈ l →
      TD (Cx.lc X s0 H0 scope C cl fp) M' tst ((wipe σ (own.map (·.2))).set i (some (.str y))) H' (p y) ∧ PD (Cx.lc X s0 H0 scope C cl fp) M' elt ((wipe σ (own.map (·.2))).set i (some (.str y))) H' (g y))
    (hw : ∀ v, wipe ((wipe σ (own.map (·.2))).set i v) (own.map (·.2)) = wipe σ (own.map (·.2)) := by intro _; rfl) (hs : ∀ x, foldedSetIterable iter X.env x = pure x := by intro _; rfl) : FD X M (.ListComp elt [⟨tg, iter, [tst], 0⟩] scope pos) σ H ((l.filter p).map g) := by
  rw [← strs_filter p g l]
  refine fd_filterO (t := .one i) (strP p) (strF g) hc hN (src_list hi) ok hg (fun _ _ => trivial) ?_ (by rw [List.length_map]; exact hl) ?_ hs
  · rintro M H d σ' ⟨v, _, rfl⟩
    exact hw _
  · rintro s0 H0 C cl fp M' H' d σ' hM lift kp hd ⟨v, rv, rfl⟩
    obtain ⟨y, hy, rfl⟩ := List.mem_map.mp hd
    cases rv
    exact body s0 H0 C cl fp M' H' y hM lift kp hy
/-- [elt for x in a list of texts] -/
theorem fd_mapS {i : Nat} {elt : Expr} {scope : Scope} {own : List (Str × Nat)} {l : List Str} (g : Str → PyData) (hc : X.calm = true) (hN : X.N.Nodup) (hi : PD X M iter σ H (.list (l.map PyData.str))) (ok : BlkOk X.N X.env.scope scope own)
    (hg : ∀ s H C cl fp, PG (Cx.lc X s H scope C cl fp) tg (gName i)) (hl : l.length ≤ 100000)
    (body : ∀ s0 H0 C cl fp M' H' y, (∀ a, M a → M' a) → (∀ v e, Rp X.K M H v e → Rp X.K M' H' v e) → (∀ a o, ¬ M a → NT o → H a = some o → H' a = some o ∧ ¬ M' a) → y ∈ l →
      PD (Cx.lc X s0 H0 scope C cl fp) M' elt ((wipe σ (own.map (·.2))).set i (some (.str y))) H' (g y))
    (hw : ∀ v, wipe ((wipe σ (own.map (·.2))).set i v) (own.map (·.2)) = wipe σ (own.map (·.2)) := by intro _; rfl) (hs : ∀ x, foldedSetIterable iter X.env x = pure x := by intro _; rfl) : FD X M (.ListComp elt [⟨tg, iter, [], 0⟩] scope pos) σ H (l.map g) := by
  have e : l.map g = ((l.map PyData.str).filter fun _ => true).map (strF g) := by
    rw [filt_all, List.map_map]
    rfl
  rw [e]
  refine fd_lcO (t := .one i) hc hN (src_list hi) ok hg (fun _ _ => trivial) ?_ (fun _ => true) (strF g) (by rw [List.length_map]; exact hl) ?_ hs
  · rintro M H d σ' ⟨v, _, rfl⟩
    exact hw _
  · rintro s0 H0 C cl fp M' H' d σ' hM lift kp hd ⟨v, rv, rfl⟩
    obtain ⟨y, hy, rfl⟩ := List.mem_map.mp hd
    cases rv
    exact ⟨tsd_nil, fun _ => body s0 H0 C cl fp M' H' y hM lift kp hy⟩
theorem td_ninS {x : Str} {ns : List Str} (ha : PD X M a σ H (.str x)) (hb : PD X M b σ H (.list (ns.map PyData.str))) (hk : behindInMarks .NotIn b = false := by rfl) : TD X M (.Compare a [.NotIn] [b] pos) σ H (!decide (x ∈ ns)) :=
  td_cmpR op_notIn_seq hk (fun u v H1 ru rv _ Q q => by
    cases ru
    cases rv with
    | lst m hs rs =>
      have all : (ns.map V.str).all flatV = true := by
        rw [List.all_map, List.all_eq_true]
        exact fun _ _ => rfl
      rw [rs.of_strs] at hs
      refine ⟨_, _, rfl, .inl (.inl hs), rfl, all, ?_⟩
      show Q (.bl (!inV (.str x) (ns.map V.str))) H1
      rw [inV_strs]
      exact q _ H1 (Evl.Ex.refl H1) (.bl _)) ha hb
/-- o.index(e), a text that is there -/
theorem pd_indexS {apos cpos : Pos} {ns : List Str} {k : Str} {j : Nat} (ho : PD X M o σ H (.list (ns.map PyData.str))) (he : PD X M e σ H (.str k)) (hj : ns[j]? = some k) (hf : ∀ m z, m < j → ns[m]? = some z → z ≠ k)
    (h1 : attributeBase o ("index" : Str) X.env (eval o X.env) = eval o X.env := by rfl)
    (h2 : ((((backTo cpos (starEach (e :: []) X.env)).all fun x => !x.1) && (backToKw cpos (keywordEach [] X.env)).all fun x => x.1.isSome) && decide (((e :: []).length + ([] : List Keyword).length + if ([] : List Keyword).isEmpty = true then 0 else 1) < 30)) = true := by rfl)
    (h3 : (apos.endLine == cpos.line) = true := by rfl) (h4 : starEach (e :: []) X.env = (false, eval e X.env) :: starEach [] X.env := by rfl) (h5 : (backTo cpos (starEach [] X.env)).any (·.1) = false := by rfl) :
    PD X M (.Call (.Attribute o "index" apos) [e] [] cpos) σ H (.int (j : Nat)) := .mk fun H1 e1 al Q q => by
  refine ⟨_, pe_bm PySem.F.plainAttrs_list PySem.F.slot_list_index PySem.F.type_list_index mt_index wE.pe (pa_cons wE.pe pa_nil h4) h1 h2 h3 h4 h5, ?_⟩
  refine ho.run H1 e1 al _ fun x H2 x2 r => ?_
  cases r with
  | lst m hs rs =>
    refine ⟨.inl ⟨rfl, _, .inl hs⟩, he.run H2 (e1.trans (.of x2)) (al.mono x2) _ fun y H3 x3 ry => ?_⟩
    cases ry
    have hs3 := GV.Rd.exM hs m (.of x3)
    have ev := rs.of_strs
    subst ev
    refine ⟨_, _, _, j, .str k, rfl, rfl, .inl hs3, rfl, ?_, ?_, ?_, ?_, q _ H3 (x2.trans x3) (.int _)⟩
    · rw [List.all_eq_true]
      intro v hv
      obtain ⟨z, _, rfl⟩ := List.mem_map.mp hv
      rfl
    · rw [List.getElem?_map, hj]
      rfl
    · simp [eqV]
    · intro m z hm hz
      rw [List.getElem?_map] at hz
      obtain ⟨u, hu, rfl⟩ := Option.map_eq_some_iff.mp hz
      simpa [eqV] using hf m u hm hu
/-- {k: v, ..} of four texts -/
theorem ce_dict4 {k1 k2 k3 k4 v1 v2 v3 v4 : Str} {t1 t2 t3 t4 u1 u2 u3 u4} {p1 p2 p3 p4 q1 q2 q3 q4 : Pos} {kvs : List (Key × V)} {Q : VK} (hk : kvs = mergeK [] [(.inr k1, .str v1), (.inr k2, .str v2), (.inr k3, .str v3), (.inr k4, .str v4)]) (h : ∀ p, H p = none → Q (.ref p) (upd H p (.dK kvs))) :
    wE X (.Dict [some (.Constant (.str k1) t1 p1), some (.Constant (.str k2) t2 p2), some (.Constant (.str k3) t3 p3), some (.Constant (.str k4) t4 p4)] [.Constant (.str v1) u1 q1, .Constant (.str v2) u2 q2, .Constant (.str v3) u3 q3, .Constant (.str v4) u4 q4] pos) σ H Q := by
  refine ⟨_, pe_disp (pps_cons pe_str pe_str (pps_cons pe_str pe_str (pps_cons pe_str pe_str (pps_cons pe_str pe_str pps_nil)))) rfl rfl (by simp) (by show 4 ≤ 15; decide), fun p hp => ?_⟩
  refine ⟨upd_same, [(.inr k1, .str v1), (.inr k2, .str v2), (.inr k3, .str v3), (.inr k4, .str v4)], rfl, by show 4 ≤ 15; decide, ?_⟩
  rw [← hk]
  have e : upd (upd H p (.dK [])) p (.dK kvs) = upd H p (.dK kvs) := by
    funext x
    by_cases hx : x = p
    · subst hx
      rw [upd_same, upd_same]
    · rw [upd_ne hx, upd_ne hx, upd_ne hx]
  rw [e]
  exact h p hp
/-- d[e], d a dict of texts in slot i -/
theorem pd_ixD {i : Nat} {x k z : Str} {d : Addr} {kvs : List (Key × V)} {p : Pos} (hu : X.A.units + 1 < cLine) (hd : H d = some (.dK kvs)) (m : ¬ M d) (hb : PD X M b σ H (.str k)) (hv : valV kvs (Sum.inr k) = some (.str z)) (hN : X.N[i]? = some x := by rfl)
    (hvis : Vis X.env.scope x := by first | exact .inl rfl | exact .inr (.inl rfl) | exact .inr (.inr rfl)) (hs : σ[i]? = some (some (.ref d)) := by rfl) (hdb : (x == ("__debug__" : Str)) = false := by decide) (hcd : (x == ("__classdict__" : Str)) = false := by decide) (hsl : NoSl b := by exact fun _ _ => rfl) :
    PD X M (.Subscript (.Name x p) b pos) σ H (.str z) := .mk fun H1 e1 al Q q =>
  ⟨_, pe_dget hu wE.pe wE.pe hsl, ce_nm i (hb.run H1 e1 al _ fun v H2 x2 r => by
    cases r
    have h2 : H2 d = some (.dK kvs) := x2 _ _ (e1 _ _ hd m fun _ z => by cases z)
    exact ⟨d, .str z, rfl, .inl ⟨kvs, .inr k, .inl h2, rfl, hv.symm⟩, q _ H2 x2 (.str z)⟩) hN hvis hs hdb hcd⟩
end
end GV

/-! isinstance of an error with attributes, of one of two classes -/
namespace GV
open PySem PySem.Spec PyProof.Rows L2
theorem call_isEdT {X : Cx} {a D dd : Addr} {oe : Obj} {fs : List (Str × V)} {pn : List (Addr × Obj)} (C : ExcC X.K D) (hz : Zc (.ref D) (some dd) oe) (hf : ∃ vs, oe.data = .fields vs) :
    CallR (X.suite a ((a, oe) :: pn)) (.builtin "isinstance") (fun xs H Q => ∃ (tp c1 c2 : Addr) (b : Bool), xs = [.ref a, .ref tp] ∧ H dd = some (.xd fs) ∧ H tp = some (.tup [.ref c1, .ref c2]) ∧ PySem.W.kitAny X.K (.ref D) [.ref c1, .ref c2] = some b ∧ Q (.bl b) H) := by
  intro pins s σ H xs us Q J r h
  obtain ⟨tp, c1, c2, b, rfl, hdd, htp, e, q⟩ := h
  obtain ⟨u1, u2, rfl, rx, rt⟩ := vals2 r
  cases rx
  cases rt
  have ha := (J.pin (a, oe) (List.mem_append.mpr (.inl (List.mem_cons_self ..)))).1
  obtain ⟨mA, hns, _⟩ := (show ObjOk X.prog X.w H s.heap dd (.xd fs) from J.hok dd _ hdd)
  obtain ⟨od, ho, _⟩ := lookIn_ns hns
  obtain ⟨vs, hv⟩ := hf
  have no : PySem.W.notCls oe = true := by
    unfold PySem.W.notCls
    rw [hv] <;> rfl
  have at_ : PySem.W.InstAt s.heap a oe D (some od) := ⟨ha, hz.1, no, by rw [hz.2]; exact ho⟩
  have hcl : (PySem.W.clsIn X.K D).isSome = true := by
    obtain ⟨cd, hc, _⟩ := PySem.W.any_some C.hd
    rw [hc]
    rfl
  obtain ⟨_, its, rv, o, h1, h2, n, h3⟩ := (show ObjOk X.prog X.w H s.heap tp (.tup [.ref c1, .ref c2]) from J.hok tp _ htp)
  have e3 := ClsV.all (.cons (.own c1) (.cons (.own c2) .nil)) rv
  subst e3
  obtain ⟨oc, od', dt, sl⟩ := o
  simp only at h2 h3
  subst h2 h3
  exact PySem.W.kia_tup (PySem.W.kitx_exc hcl C.hg C.hk C.hs C.ha C.hn C.ht C.hm) J.kIn at_ h1 e (fun z => nomatch z) fun tk => ⟨.bl b, H, J.kept (t' := tk) fun _ _ z => z, rfl, q⟩
end GV

/-! a name of its own for a comprehension over texts -/
namespace GV
open PySem PySem.Spec PyProof.Rows L2
section
variable {X : Cx} {M : Addr → Prop} {σ : St} {H : Hp} {a b e o tg iter tst : Expr} {pos : Pos}
/-- y = [elt for x in a list of texts if test] -/
theorem s_filterS {i j : Nat} {y : Str} {py spos : Pos} {D : Ends} {elt : Expr} {scope : Scope} {own : List (Str × Nat)} {l : List Str} (p : Str → Bool) (g : Str → PyData) (al : Alive M H) (hc : X.calm = true) (hN : X.N.Nodup) (hy : X.N[j]? = some y) (hyl : X.env.scope.names.lookup y = some .local) (hi : PD X M iter σ H (.list (l.map PyData.str))) (ok : BlkOk X.N X.env.scope scope own)
    (hg : ∀ s H C cl fp, PG (Cx.lc X s H scope C cl fp) tg (gName i)) (hl : l.length ≤ 100000)
    (body : ∀ s0 H0 C cl fp M' H' y, (∀ a, M a → M' a) → (∀ v e, Rp X.K M H v e → Rp X.K M' H' v e) → y ∈ l →
      TD (Cx.lc X s0 H0 scope C cl fp) M' tst ((wipe σ (own.map (·.2))).set i (some (.str y))) H' (p y) ∧ PD (Cx.lc X s0 H0 scope C cl fp) M' elt ((wipe σ (own.map (·.2))).set i (some (.str y))) H' (g y))
    (q : ∀ l' ws H2, H l' = none → Evl.Ex H H2 → H2 l' = some (.lst ws) → RpAll X.K M H2 ws ((l.filter p).map g) → D.nx (σ.set j (some (.ref l'))) H2)
    (hsw : swapsWith (.ListComp elt [⟨tg, iter, [tst], 0⟩] scope pos) (some (.Name y py)) spos.line X.env = pure true := by rfl) (hw : ∀ v, wipe ((wipe σ (own.map (·.2))).set i v) (own.map (·.2)) = wipe σ (own.map (·.2)) := by intro _; rfl) (hs : ∀ x, foldedSetIterable iter X.env x = pure x := by intro _; rfl) :
    wS X (.Assign [.Name y py] (.ListComp elt [⟨tg, iter, [tst], 0⟩] scope pos) spos) D σ H := by
  refine s_setLc (t := .one i) hc hN (src_list hi) ok hg (fun _ _ => trivial) ?_ (strP p) (strF g) (by rw [List.length_map]; exact hl) ?_ al hy hyl hsw (fun l' ws H2 h1 h2 h3 h4 => q l' ws H2 h1 h2 h3 (by rw [← strs_filter p g l]; exact h4)) hs
  · rintro M H d σ' ⟨v, _, rfl⟩
    exact hw _
  · rintro s0 H0 C cl fp M' H' d σ' hM lift hd ⟨v, rv, rfl⟩
    obtain ⟨y, hy, rfl⟩ := List.mem_map.mp hd
    cases rv
    obtain ⟨h1, h2⟩ := body s0 H0 C cl fp M' H' y hM lift hy
    exact ⟨tsd_one h1, fun _ => h2⟩
end
end GV

/-! defs that are told what reprs are under way: the guards of the frame, whatever they are -/
namespace GV
open PySem PySem.Spec PyProof.Rows L2
/-- what holds whatever is under way -/
theorem codeAny_G {M : Model} {A : Around} {c : Code} {R : Result → Shared → Prop} {s : Shared} (h : ∀ G, codeAny M { A with guards := some G } c R s) : codeAny M A c R s :=
  fun Γ p hc hb => h (guardsOf Γ.below) Γ p hc ⟨hb.1, hb.2.1, hb.2.2.1, fun g e => Option.some.inj e, hb.2.2.2.2⟩
/-- a def that is told what is under way -/
structure FnG (G : List Code) (P : Program) (w : World) (K : PySem.W.Frag) (mg : Str → Option Value) (base : Heap) (CX : CXT) (k : Nat) (f : Addr) (fd : FuncData) (ps : List Str) (sp : Sp) : Prop where
  len : ∀ vs H Q E, sp vs H Q E → vs.length = ps.length
  run : ∀ (A : Around) (outer : List Env) (s : Shared) (H : Hp) (args : Args) (us : List Value) (vs : List V) (Q : VK) (E : XK), A.guards = some G → Room k A → Env0 P w K mg base A outer s H → BindsTo s fd args (ps.zip us) → Vals vs us → sp vs H Q E →
    codeAny (model P w) A (.call (.ref f) args) (CR CX outer P w H s Q E) s
section
variable {P : Program} {w : World} {K : PySem.W.Frag} {mg : Str → Option Value} {base : Heap}
theorem fnOk_ofG {CX : CXT} {k : Nat} {f : Addr} {fd : FuncData} {ps : List Str} {sp : Sp} (h : ∀ G, FnG G P w K mg base CX k f fd ps sp) : FnOk P w K mg base CX k f fd ps sp :=
  ⟨(h []).len, fun A outer s H args us vs Q E hr e0 hb hv hs => codeAny_G fun G => (h G).run { A with guards := some G } outer s H args us vs Q E rfl ⟨hr.hd, hr.dp, hr.un⟩ ⟨e0.frames, e0.mod, e0.bs, e0.bsz, e0.funs, e0.frf, e0.hok, e0.bare⟩ hb hv hs⟩
theorem fn_ofG {G : List Code} {CX : CXT} {k : Nat} {f : Addr} {name qual : Str} {params : Arguments} {rows : List Stmt} {scope : Scope} {dV kV doc pm cdv ct oc : Value} {an od : Option Addr} {osl : Array (Option Value)} {N ps : List Str} {sp : Sp}
    (lk : K.lookup f = some ⟨oc, od, .func (PySem.W.fnOf name qual params rows scope dV kV doc pm an cdv ct), osl⟩) (hcd : PySem.W.codeIn K cdv qual = true) (S : FnScope N ps scope) (len : ∀ vs H Q E, sp vs H Q E → vs.length = ps.length)
    (body : ∀ (A : Around) (outer : List Env) (s : Shared) (H : Hp) (vs : List V) (Q : VK) (E : XK), A.guards = some G → Room k (A.deeper (envOfC qual scope s.heap.objs.size f cdv)) → sp vs H Q E →
      ∃ t, PSs (cxOf CX P w K mg base N qual scope f cdv A outer s H E) rows t ∧ t { nx := fun _ H' => Q .non H', rt := Q } (L2.start N vs) H) : FnG G P w K mg base CX (k + 1) f (PySem.W.fnOf name qual params rows scope dV kV doc pm an cdv ct) ps sp := by
  refine ⟨len, fun A outer s H args us vs Q E hG room env bind vals promise => ?_⟩
  have kept : ∀ b o, base.get? b = some o → s.heap.get? b = some o := fun b o z => (env.bs b o z).1
  have inK : K.In s.heap := env.mod.kin.keeps kept
  have sorts : ∀ y ∈ ps.zip us, scope.names.lookup y.1 = some .local ∨ (scope.names.lookup y.1 = some .cell ∧ ((cellsFrom (s.heap.objs.size + 1) scope.names []).lookup y.1).isSome = true) := by
    rintro ⟨n, v⟩ hy
    cases S.par n (List.of_mem_zip hy).1 with
    | inl z => exact .inl z
    | inr z => exact .inr ⟨z, PySem.W.cellsFrom_some _ _ _ (.inl z)⟩
  refine codeAny_call_function room.depth (inK _ _ lk) rfl S.co S.gen rfl (PySem.W.codeRec_of inK hcd) (bind _ _ _ _ ?_)
  refine wpAny_newFunctionEnv_cells S.kind sorts fun en e1 s1 made => ?_
  subst e1
  refine ⟨(env.mod.nolimit.keeps kept).keeps made.toInCall.keep, codeAny_func ?_⟩
  obtain ⟨t, reads, holds⟩ := body A outer s H vs Q E hG (room.deeper _) promise
  refine wpAny_mono (reads.run [] s1 (L2.start N vs) H _ (inv_start S room.hd env (len _ _ _ _ promise) vals made) holds) (fun fl s2 got => ?_) fun _ _ z => z
  cases fl with
  | ret u =>
    obtain ⟨v, τ, H2, J, rv, q⟩ := got
    exact ⟨v, H2, J.os, J.bare, J.base, J.hok, rv, q⟩
  | next =>
    obtain ⟨τ, H2, J, q⟩ := got
    exact ⟨V.non, H2, J.os, J.bare, J.base, J.hok, rfl, q⟩
  | brk =>
    obtain ⟨_, _, _, no⟩ := got
    exact no.elim
  | cont =>
    obtain ⟨_, _, _, no⟩ := got
    exact no.elim
theorem okG {G : List Code} {x qual : Str} {st : Stmt} {f : Addr} {fd : FuncData} {N ps : List Str} {k : Nat} {sp : Sp} (F : Fun K x qual st f fd) (S : FnScope N ps (defScope st)) (len : ∀ vs H Q E, sp vs H Q E → vs.length = ps.length)
    (body : ∀ (cdv : Value) (A : Around) (outer : List Env) (s : Shared) (H : Hp) (vs : List V) (Q : VK) (E : XK), A.guards = some G → Room k (A.deeper (envOfC qual (defScope st) s.heap.objs.size f cdv)) → sp vs H Q E →
      wB (cxOf CX0 P w K mg base N qual (defScope st) f cdv A outer s H E).nox (defBody st) { nx := fun _ H' => Q .non H', rt := Q } (L2.start N vs) H) : FnG G P w K mg base CX0 (k + 1) f fd ps sp := by
  obtain ⟨oc, od, kV, doc, pm, an, cdv, ct, osl, rfl, lk, hcd⟩ := F.ex
  exact fn_ofG lk hcd S len fun A outer s H vs Q E hG hr hs => ⟨_, PSs.nox wB.ps, body cdv A outer s H vs Q E hG hr hs⟩
structure ClG (G : List Code) (P : Program) (w : World) (K : PySem.W.Frag) (mg : Str → Option Value) (base : Heap) (k : Nat) (x : Str) (sp : Sp) : Prop where
  ex : ∃ (f : Addr) (fd : FuncData) (ps : List Str), FnG G P w K mg base CX0 k f fd ps sp ∧ mg x = some (.ref f) ∧ PySem.W.keepIn K (.ref f) = true ∧ Binds K fd ps []
end
section
variable {X : Cx} {σ : St} {H : Hp} {e : Expr} {es : List Expr} {pos : Pos}
theorem ce_callG {G : List Code} {sp : Sp} {Q : VK} {j k : Nat} {x : Str} {p : Pos} (cl : ClG G X.prog X.w X.K X.mg X.base k x sp) (hG : X.A.guards = some G) (hr : Room j X.A) (hkj : k ≤ j) (hg : Gl X x) (h : wA X (e :: es) σ H fun vs H2 => sp vs H2 Q E0)
    (hdb : (x == ("__debug__" : Str)) = false := by decide) (he : starEach (e :: es) X.env = (false, eval e X.env) :: starEach es X.env := by rfl) (hpl : (backTo pos (starEach es X.env)).any (·.1) = false := by rfl) : wE X (.Call (.Name x p) (e :: es) [] pos) σ H Q := by
  obtain ⟨f, fd, ps, F, hm, hk, hb⟩ := cl.ex
  refine ⟨fun σ H Q => wA X (e :: es) σ H fun vs H2 => sp vs H2 Q E0, ⟨fun pins s σ H Q I h => ?_⟩, h⟩
  refine wpAny_Call_Name_kw (ld_glob I hg hm ?_ hdb)
  refine PySem.W.callWith_K (h₀ := X.base) I.ok.mod.kin hk (thn (wA.pa.run pos pins s σ H _ I h) fun us s2 ⟨vs, H2, I2, rv, q2⟩ => ⟨I2.kIn, ?_⟩) he hpl
  have same : us.length = ps.length := rv.length.symm.trans (F.len _ _ _ _ q2)
  have bt := hb s2 us I2.kIn (by rw [List.append_nil]; exact same)
  rw [List.append_nil] at bt
  refine wpAny_call (codeAny_mono (F.run X.A X.stack s2 H2 ⟨us, []⟩ us vs Q E0 hG (hr.mono hkj) I2.env0 bt rv q2) fun r s' got => ?_)
  cases r with
  | error _ => exact got.elim
  | ok fl =>
    cases fl with
    | ret u => exact I2.after got
    | next => exact False.elim got
    | brk => exact False.elim got
    | cont => exact False.elim got
end
end GV

/-! repr of lists, tuples, dicts, whatever is under way -/
namespace PySem
open Sem
/-- list.__repr__'s question -/
def gvLstWay (self : Value) : Code × Pos → Bool := fun
  | (.builtin "list.__repr__.loop" ⟨v :: _, _⟩, _) => Builtin.List.listSameRef v self
  | _ => false
theorem gvLstWay_pos (self : Value) (c : Code) (p : Pos) : gvLstWay self (c, p) = gvLstWay self (c, default) := by
  unfold gvLstWay
  split
  · next v rest kw q heq =>
    cases heq
    rfl
  · next hne =>
    split
    · next v rest kw q heq =>
      cases heq
      exact (hne _ _ _ _ rfl).elim
    · rfl
theorem gvLstWay_off (self : Value) (c : Code) (p : Pos) (hc : c.isGuard = false) : gvLstWay self (c, p) = false := by
  unfold gvLstWay
  split
  · next v rest kw _ heq =>
    cases heq
    simp [Code.isGuard, guardIds] at hc
  · rfl
section
variable {prog : Program} {w : World} {A : Around} {E : Value → Shared → Prop} {s : Shared} {a : Addr} {o : Obj} {n : Nat} {g : List Code}
theorem gv_lst_own {M : Model} {c : Code} {x : Value} {l : List Value} {Q : Fin → Shared → Prop} (hg : A.guards = some g) (ha : s.heap.get? a = some o) (hd : o.data = .seq (x :: l).toArray n) (hw : (g.any fun c => gvLstWay (.ref a) (c, default)) = true)
    (h : Q (.done (.ret (.str "[...]" s.toks))) { s with toks := s.toks + 1 }) : wpOwn M A c (Builtin.listReprAt 0 ⟨[.ref a], []⟩) Q E s := by
  intro Γ p hc hΓ
  have hb : Γ.below.any (gvLstWay (.ref a)) = true := by
    rw [any_eq_guards (gvLstWay_off _) (gvLstWay_pos _), hΓ.2.2.2.1 g hg]
    exact hw
  unfold Builtin.listReprAt
  simp [slotArgs, Builtin.List.listItems, seqItems?, wp_load_of (h := ha), hd, stack]
  show wp M Γ (if Γ.below.any (gvLstWay (.ref a)) = true then _ else _) _ _ p s
  rw [if_pos hb]
  simp [rule, retStr, ret]
  exact h
/-- repr of a list of one text -/
theorem gv_repr_lst {x : Str} {t : Tok} {Q : Value → Shared → Prop} (hu : A.units + 1 < cLine) (hg : A.guards = some g) (ha : s.heap.get? a = some o) (hc : o.cls = .type "list") (hd : o.data = .seq [Value.str x t].toArray n) (hz : (listText [reprText x]).length ≤ sizeLine) (hz1 : (reprText x).length ≤ sizeLine)
    (h : ∀ h' u tk, (∀ b o, s.heap.get? b = some o → h'.get? b = some o) → Q (.str (if (g.any fun c => gvLstWay (.ref a) (c, default)) = true then "[...]" else listText [reprText x]) u) { s with heap := h', toks := tk }) : wpAny (model prog w) A (call (.builtin "repr") [.ref a]) Q E s := by
  have hTy : s.TypeIs (.ref a) "list" := ⟨o, ha, hc⟩
  refine call_repr_slot hu hTy F.slot_list_repr.toG ?_
  by_cases hw : (g.any fun c => gvLstWay (.ref a) (c, default)) = true
  · refine wpAny_call (codeAny_call_builtin_own (Code.quiet_builtin _ (by decide +kernel)) F.entry_list_repr (F.slot_list_repr.check _ _ _ _ _ _ _ _ hTy (F.args_list_repr_1 _) (gv_lst_own (A := A.in1) hg ha hd hw ⟨_, _, rfl, ?_⟩)))
    have := h s.heap s.toks (s.toks + 1) fun b o z => z
    rw [if_pos hw] at this
    exact this
  · refine call_list_repr (ts := [reprText x]) hTy hg (fun v rest kw hm => ?_) ha hd rfl (fun i y hy => ?_) (fun h' u tk hk => ⟨_, _, rfl, ?_⟩) hz
    · cases hv : Builtin.List.listSameRef v (.ref a) with
      | false => rfl
      | true => exact absurd (List.any_eq_true.mpr ⟨_, hm, hv⟩) hw
    · match i, hy with
      | 0, hy =>
        cases hy
        exact ⟨_, rfl, ReprIs.str x t hz1⟩
    · have := h h' u tk hk
      rw [if_neg hw] at this
      exact this
/-- repr of a tuple of one text -/
theorem gv_repr_tup {x : Str} {t : Tok} {Q : Value → Shared → Prop} (hu : A.units + 1 < cLine) (hg : A.guards = some g) (ha : s.heap.get? a = some o) (hc : o.cls = .type "tuple") (hd : o.data = .seq [Value.str x t].toArray n) (hz : (tupleText [reprText x]).length ≤ sizeLine) (hz1 : (reprText x).length ≤ sizeLine)
    (h : ∀ u tk, Q (.str (if (g.any fun c => tupGuardF (.ref a) (c, default)) = true then "(...)" else tupleText [reprText x]) u) { s with toks := tk }) : wpAny (model prog w) A (call (.builtin "repr") [.ref a]) Q E s := by
  have hTy : s.TypeIs (.ref a) "tuple" := ⟨o, ha, hc⟩
  refine call_repr_slot hu hTy F.slot_tuple_repr ?_
  by_cases hw : (g.any fun c => tupGuardF (.ref a) (c, default)) = true
  · refine wpAny_call (codeAny_call_builtin_own (Code.quiet_builtin _ (by decide +kernel)) F.entry_tuple_repr (F.slot_tuple_repr.check _ _ _ _ _ _ _ _ hTy (F.args_tuple_repr_1 _) ?_))
    show wpOwn _ _ _ (Builtin.tupleReprAt 0 ⟨[.ref a], []⟩) _ _ s
    rw [tuple_repr_tree, tupleReprUnderWay_eq]
    refine wpOwn_bind (wpOwn_stackTailAny (A := A.in1) hg (tupGuardF_off _) (tupGuardF_pos _) ?_)
    rw [hw]
    refine wpOwn_of_wpAny (PySem.W.KFB.if_so rfl ?_)
    refine wpAny_bind (wpAny_rule (wpAny_bind (wpAny_mkStr (wpAny_pure ⟨_, _, rfl, ?_⟩) (by decide +kernel))))
    have := h s.toks (s.toks + 1)
    rw [if_pos hw] at this
    exact this
  · refine call_tuple_repr (ts := [reprText x]) hTy hg (fun c hm => ?_) ha hd (.cons (ReprIs.str x t hz1) .nil) (fun u tk => ⟨_, _, rfl, ?_⟩) hz
    · cases hv : tupGuardF (.ref a) (c, default) with
      | false => rfl
      | true => exact absurd (List.any_eq_true.mpr ⟨c, hm, hv⟩) hw
    · have := h u tk
      rw [if_neg hw] at this
      exact this
/-- repr of an empty dict -/
theorem gv_repr_dict0 {Q : Value → Shared → Prop} (hu : A.units + 2 < cLine) (hg : A.guards = some g) (ha : s.heap.get? a = some o) (hc : o.cls = .type "dict") (hd : o.data = .dict #[] n) (hs : (a == sysModules) = false)
    (h : ∀ u tk, Q (.str (if (g.any fun c => dictGuardF (.ref a) (c, default)) = true then "{...}" else "{}") u) { s with toks := tk }) : wpAny (model prog w) A (call (.builtin "repr") [.ref a]) Q E s := by
  have hTy : s.TypeIs (.ref a) "dict" := ⟨o, ha, hc⟩
  refine call_repr_slot (by omega) hTy F.slot_dict_repr ?_
  refine wpAny_call (codeAny_call_builtin_own (Code.quiet_builtin _ (by decide +kernel)) F.entry_dict_repr (F.slot_dict_repr.check _ _ _ _ _ _ _ _ hTy (F.args_dict_repr_1 _) ?_))
  show wpOwn _ _ _ (Builtin.dictReprAt 0 ⟨[.ref a], []⟩) _ _ s
  unfold Builtin.dictReprAt
  refine wpOwn_bind (wpOwn_of_wpAny ?_)
  unfold Builtin.Dict.dictSlotNone
  refine wpAny_bind (wpAny_notOrdered_dict hTy ?_)
  show wpAny _ _ (Pure.pure (Value.ref a)) _ _ s
  refine wpAny_pure ?_
  rw [dictReprRunning_eq]
  refine wpOwn_bind (wpOwn_stackTailAny (A := A.in1) hg (dictGuardF_off _) (dictGuardF_pos _) ?_)
  by_cases hw : (g.any fun c => dictGuardF (.ref a) (c, default)) = true
  · rw [hw]
    refine wpOwn_of_wpAny (PySem.W.KFB.if_so rfl ?_)
    refine wpAny_bind (wpAny_rule (wpAny_bind (wpAny_mkStr (wpAny_pure ⟨_, _, rfl, ?_⟩) (by decide +kernel))))
    have := h s.toks (s.toks + 1)
    rw [if_pos hw] at this
    exact this
  · rw [Bool.eq_false_iff.mpr hw]
    refine wpOwn_of_wpAny (PySem.W.KFB.if_not rfl ?_)
    refine wpAny_bind (m := Builtin.Dict.addrOf (.ref a)) (wpAny_pure ?_)
    refine wpAny_bind (m := Builtin.Dict.showsAll a) ?_
    unfold Builtin.Dict.showsAll
    rw [if_neg (by rw [hs]; exact Bool.false_ne_true)]
    refine wpAny_pure (wpAny_bind (wpAny_dictEpoch ha hd (wpAny_bind (wpAny_dictEntries ha hd (wpAny_bind ?_)))))
    rw [Std.Legacy.Range.forIn_eq_forIn_range']
    refine wpAny_pure (wpAny_bind (wpAny_mkStr (wpAny_pure ⟨_, _, rfl, ?_⟩) (by decide +kernel)))
    have := h s.toks (s.toks + 1)
    rw [if_neg hw] at this
    exact this
end
end PySem

namespace GV
open PySem PySem.Spec PyProof.Rows L2
/-- what repr of a plain value gives where G is under way -/
inductive RepG (G : List Code) (H : Hp) : V → Str → Prop
  | non : RepG G H .non "None"
  | bl (b : Bool) : RepG G H (.bl b) (if b then ("True" : Str) else ("False" : Str))
  | int {i : Int} (h : i.natAbs.log2 < 1920) : RepG G H (.int i) (toString i)
  | str {x : Str} (h : (reprText x).length ≤ sizeLine) : RepG G H (.str x) (reprText x)
  | lst {a : Addr} {x : Str} (e : H a = some (.lst [.str x])) (h : (reprText x).length ≤ sizeLine) (h2 : (listText [reprText x]).length ≤ sizeLine) : RepG G H (.ref a) (if (G.any fun c => gvLstWay (.ref a) (c, default)) = true then "[...]" else listText [reprText x])
  | tup {a : Addr} {x : Str} (e : H a = some (.tup [.str x])) (h : (reprText x).length ≤ sizeLine) (h2 : (tupleText [reprText x]).length ≤ sizeLine) : RepG G H (.ref a) (if (G.any fun c => tupGuardF (.ref a) (c, default)) = true then "(...)" else tupleText [reprText x])
  | dict {a : Addr} (e : H a = some (.dK [])) : RepG G H (.ref a) (if (G.any fun c => dictGuardF (.ref a) (c, default)) = true then "{...}" else "{}")
theorem RepG.ext {G : List Code} {H H' : Hp} {v : V} {T : Str} (r : RepG G H v T) (x : Evl.Ex H H') : RepG G H' v T := by
  cases r with
  | non => exact .non
  | bl b => exact .bl b
  | int h => exact .int h
  | str h => exact .str h
  | lst e h h2 => exact .lst (x _ _ e) h h2
  | tup e h h2 => exact .tup (x _ _ e) h h2
  | dict e => exact .dict (x _ _ e)
section
variable {X : Cx} {σ : St} {H : Hp} {e : Expr} {pos : Pos}
theorem call_reprG {G : List Code} (hG : X.A.guards = some G) (hu : X.A.units + 2 < cLine) : CallR X (.builtin "repr") (fun xs H Q => ∃ v T, xs = [v] ∧ RepG G H v T ∧ Q (.str T) H) := by
  intro pins s σ H xs us Q I r h
  obtain ⟨v, T, rfl, rp, q⟩ := h
  cases r with
  | cons rv rt =>
    cases rt
    cases rp with
    | non =>
      cases rv
      exact P.repr_of_none ⟨.str _, H, I.tok _, ⟨_, rfl⟩, q⟩
    | bl b =>
      cases rv
      exact P.repr_of_bool ⟨.str _, H, I.tok _, ⟨_, rfl⟩, q⟩
    | int hi =>
      obtain ⟨t, rfl⟩ := rv
      exact P.repr_of_int hi ⟨.str _, H, I.tok _, ⟨_, rfl⟩, q⟩
    | str hx =>
      obtain ⟨t, rfl⟩ := rv
      exact P.repr_of_str ⟨.str _, H, I.tok _, ⟨_, rfl⟩, q⟩ hx
    | lst e h1 h2 =>
      rename_i u a x
      cases (show u = Value.ref a from rv)
      obtain ⟨_, its, n, rw1, e2⟩ := I.hok a _ e
      cases rw1 with
      | cons rx rn =>
        cases rn
        obtain ⟨t, rfl⟩ := rx
        exact gv_repr_lst (by omega) hG e2 rfl rfl h2 h1 fun h' u tk hk => ⟨.str _, H, I.kept hk, ⟨_, rfl⟩, q⟩
    | tup e h1 h2 =>
      rename_i u a x
      cases (show u = Value.ref a from rv)
      obtain ⟨_, its, rw1, o, e2, hc, n, hd⟩ := I.hok a _ e
      cases rw1 with
      | cons rx rn =>
        cases rn
        obtain ⟨t, rfl⟩ := rx
        exact gv_repr_tup (by omega) hG e2 hc hd h2 h1 fun u tk => ⟨.str _, H, I.tok _, ⟨_, rfl⟩, q⟩
    | dict e =>
      rename_i u a
      cases (show u = Value.ref a from rv)
      obtain ⟨_, hs, vs, kv, o, es, ep, e2, hx, hd, _, hp, _⟩ := I.hok a _ e
      cases kv
      obtain ⟨l⟩ := es
      cases hp
      exact gv_repr_dict0 hu hG e2 hx.1 hd hs fun u tk => ⟨.str _, H, I.tok _, ⟨_, rfl⟩, q⟩
/-- repr(e) -/
theorem ce_repr {G : List Code} {p : Pos} {Q : VK} (hG : X.A.guards = some G) (hu : X.A.units + 2 < cLine) (hg : Gl X "repr") (hm : X.mg "repr" = none) (h : wE X e σ H fun v H1 => ∃ T, RepG G H1 v T ∧ Q (.str T) H1)
    (hs : starEach (e :: []) X.env = (false, eval e X.env) :: starEach [] X.env := by rfl) (hpl : (backTo pos (starEach [] X.env)).any (·.1) = false := by rfl) : wE X (.Call (.Name "repr" p) [e] [] pos) σ H Q :=
  ⟨_, pe_callB (call_reprG hG hu) hg hm (by decide +kernel) wA.pa (by decide) (by decide) hs hpl, ca_cons (wE.weak h fun v H1 ⟨T, r, q⟩ => ca_nil ⟨v, T, rfl, r, q⟩) hs⟩
end
end GV

namespace GV
open PySem PySem.Spec PyProof.Rows L2
section
variable {X : Cx} {σ : St} {H : Hp} {a b : Expr} {pos : Pos}
theorem cw_or1 {Q : Bool → Hp → Prop} (h : wT X a σ H Q) : wW X (.BoolOp .Or [a] pos) σ H Q := ⟨_, pw_or1 wT.pt, h⟩
theorem cw_or {rest : List Expr} {Q : Bool → Hp → Prop} (h : wT X a σ H fun k H2 => (k = false → wW X (.BoolOp .Or (b :: rest) pos) σ H2 Q) ∧ (k = true → Q true H2)) : wW X (.BoolOp .Or (a :: b :: rest) pos) σ H Q :=
  ⟨_, pw_or wT.pt wW.pw, wT.weak h fun k H2 ⟨h1, h2⟩ => by
    cases k with
    | false => exact h1 rfl
    | true => exact h2 rfl⟩
theorem ce_intC {i : Int} {j} {Q : VK} (q : Q (.int i) H) : wE X (.Constant (.int i) j pos) σ H Q := ⟨_, pe_int, q⟩
theorem ce_blC {k : Bool} {j} {Q : VK} (q : Q (.bl k) H) : wE X (.Constant (.bool k) j pos) σ H Q := ⟨_, pe_bl, q⟩
theorem ce_nonC {j} {Q : VK} (q : Q .non H) : wE X (.Constant .none j pos) σ H Q := ⟨_, pe_non, q⟩
end
end GV

/-! objects: a static method, a class method, a class held by a name; own repr, str, in; own == against a built-in type -/
namespace GV
open PySem PySem.Spec PyProof.Rows L2
section
variable {X : Cx} {M : Addr → Prop} {σ : St} {H : Hp} {a b e o : Expr} {es : List Expr} {pos : Pos}
/-- a static method of the class at C -/
structure StatS (P : Program) (w : World) (K : PySem.W.Frag) (mg : Str → Option Value) (base : Heap) (C : Addr) (m : Str) (k : Nat) (sp : Sp) : Prop where
  ex : ∃ (f : Addr) (fd : FuncData) (ps : List Str) (p : Addr) (mc : Value) (rest : List Value), ClX.CRead K C mc ∧ PySem.W.findCls K (.ref C) mc m = some (.get (.builtin "staticmethod.__get__") (.ref p) .none (.ref C)) ∧ PySem.W.recIn K p "staticmethod" = some (.ref f :: rest) ∧ PySem.W.keepIn K (.ref f) = true ∧
    FnOk P w K mg base CX0 k f fd ps sp ∧ Binds K fd ps []
/-- C.m() -/
theorem ce_stat0 {C : Addr} {m x : Str} {k j : Nat} {sp : Sp} {Q : VK} {p apos : Pos} {pl : Sem Bool} (t : StatS X.prog X.w X.K X.mg X.base C m k sp) (hr : Room j X.A) (hkj : k ≤ j) (hg : Gl X x) (hm : X.mg x = some (.ref C)) (h : sp [] H Q E0) (hdb : (x == ("__debug__" : Str)) = false := by decide)
    (hev : eval (.Call (.Attribute (.Name x p) m apos) [] [] pos) X.env = (do
      let ov ← eval (.Name x p) X.env
      standAt apos.atName
      let (f, first) ← holding [ov] (getMethod ov m pl)
      callWith pos f first (backTo pos (starEach [] X.env)) (backToKw pos (keywordEach [] X.env))) := by rfl) : wE X (.Call (.Attribute (.Name x p) m apos) [] [] pos) σ H Q := by
  obtain ⟨f, fd, ps, q, mc, rest, r, fc, hp, hk, F, hb⟩ := t.ex
  refine ⟨fun σ H Q => sp [] H Q E0, ⟨fun pins s σ H Q I h => ?_⟩, h⟩
  refine PySem.W.methodCall_KW (pl := pl) (ld_glob I hg hm ?_ hdb) hev
  refine PySem.W.method_cls I.kIn r.ga (PySem.W.cls_bind I.kIn r.rd fc (wpAny_call (PySem.W.sm_get (s := { s with toks := s.toks + 1 }) (I.tok _).kIn hp (PySem.W.handed_on rfl ?_))))
  exact PySem.W.callWith_K0 (first := []) (I.tok _).kIn hk (run_fn (us := []) F (hr.mono hkj) hb .nil pass0 (I.tok _) .nil h)
/-- a class method of the class at C -/
structure ClsS (P : Program) (w : World) (K : PySem.W.Frag) (mg : Str → Option Value) (base : Heap) (CX : CXT) (C : Addr) (m : Str) (k : Nat) (sp : Sp) : Prop where
  ex : ∃ (f : Addr) (fd : FuncData) (ps : List Str) (p : Addr) (mc : Value), ClX.CRead K C mc ∧ ClX.CMet K C mc m p f ∧ FnOk P w K mg base CX k f fd ps sp ∧ Binds K fd ps []
/-- C.m(e, ..), that may raise -/
theorem ce_clsX {C : Addr} {m x : Str} {k j : Nat} {CX : CXT} {sp : Sp} {W : WX} {Q : VK} {p apos : Pos} {pl : Sem Bool} (t : ClsS X.prog X.w X.K X.mg X.base CX C m k sp) (hr : Room j X.A) (hkj : k ≤ j) (hx : ∀ σ, PassesAt CX X σ (WE W σ)) (hg : Gl X x) (hm : X.mg x = some (.ref C))
    (h : wA X (e :: es) σ H fun vs H2 => sp (.ref C :: vs) H2 Q fun cls d H' => W cls d σ H') (hdb : (x == ("__debug__" : Str)) = false := by decide)
    (he : starEach (e :: es) X.env = (false, eval e X.env) :: starEach es X.env := by rfl) (hpl : (backTo pos (starEach es X.env)).any (·.1) = false := by rfl)
    (hev : eval (.Call (.Attribute (.Name x p) m apos) (e :: es) [] pos) X.env = (do
      let ov ← eval (.Name x p) X.env
      standAt apos.atName
      let (f, first) ← holding [ov] (getMethod ov m pl)
      callWith pos f first (backTo pos (starEach (e :: es) X.env)) (backToKw pos (keywordEach [] X.env))) := by rfl) : wE X (.Call (.Attribute (.Name x p) m apos) (e :: es) [] pos) σ H Q := by
  obtain ⟨f, fd, ps, q, mc, r, c, F, hb⟩ := t.ex
  refine ⟨fun σ H Q => wA X (e :: es) σ H fun vs H2 => sp (.ref C :: vs) H2 Q fun cls d H' => W cls d σ H', ⟨fun pins s σ H Q I h => ?_⟩, h⟩
  refine PySem.W.methodCall_KW (pl := pl) (ld_glob I hg hm ?_ hdb) hev
  refine ClX.getmethcm_ok I r c fun s2 I2 => ?_
  refine ClX.callwith_cm I2 (ClX.base_none I (Nat.le_refl _)) c.fi (thn (wA.pa.run pos _ s2 σ H _ I2 h) fun us s3 ⟨vs, H3, I3, rv, q3⟩ => ⟨⟨ClX.pin_at I3, I3.kIn⟩, ?_⟩) he hpl
  have rv2 : Vals (V.ref C :: vs) (Value.ref C :: us) := .cons rfl rv
  have hl : (Value.ref C :: us).length = ps.length := rv2.length.symm.trans (F.len _ _ _ _ q3)
  have bt := hb s3 (Value.ref C :: us) I3.kIn (by rw [List.append_nil]; exact hl)
  rw [List.append_nil] at bt
  have ran : wpAny (model X.prog X.w) X.A (call (.ref s.heap.objs.size) us) (EP X ((s.heap.objs.size, PySem.W.methodObj (.ref f) (.ref C)) :: pins) σ Q) X.xe s3 := by
    refine wpAny_call (PySem.W.method_call (ClX.pin_at I3) (codeAny_mono (F.run X.A X.stack s3 H3 ⟨Value.ref C :: us, []⟩ (Value.ref C :: us) (V.ref C :: vs) Q _ (hr.mono hkj) I3.env0 bt rv2 q3) fun r s' got => ?_))
    cases r with
    | error z => exact hx σ _ H3 s3 z s' I3 got
    | ok fl =>
      cases fl with
      | ret u => exact I3.after got
      | next => exact False.elim got
      | brk => exact False.elim got
      | cont => exact False.elim got
  exact thn ran fun _ _ y => ClX.unpinE y
/-- x(e, ..), x a name that holds the class at C -/
theorem ce_makeN {C f : Addr} {fd : FuncData} {ps : List Str} {x : Str} {k j : Nat} {CX : CXT} {sp : Sp} {E : XK} {Q : VK} {p : Pos} (Mk_ : Mk X.K C f) (F : FnOk X.prog X.w X.K X.mg X.base CX k f fd ps sp) (hr : Room j X.A) (hkj : k + 1 ≤ j) (hb : Binds X.K fd ps []) (hx : Passes CX X E)
    (h : wE X (.Name x p) σ H fun v H1 => v = .ref C ∧ wA X (e :: es) σ H1 fun vs H2 => ∀ x dx, H2 x = none → H2 dx = none → dx ≠ x → sp (.ref x :: vs) (upd (upd H2 dx (.own x)) x (.ins C dx [])) (fun v H3 => v = .non ∧ Q (.ref x) H3) E)
    (he : starEach (e :: es) X.env = (false, eval e X.env) :: starEach es X.env := by rfl) (hpl : (backTo pos (starEach es X.env)).any (·.1) = false := by rfl) : wE X (.Call (.Name x p) (e :: es) [] pos) σ H Q := by
  refine ⟨fun σ H Q => wE X (.Name x p) σ H fun v H1 => v = .ref C ∧ wA X (e :: es) σ H1 fun vs H2 => ∀ x dx, H2 x = none → H2 dx = none → dx ≠ x → sp (.ref x :: vs) (upd (upd H2 dx (.own x)) x (.ins C dx [])) (fun v H3 => v = .non ∧ Q (.ref x) H3) E, ⟨fun pins s σ H Q I h => ?_⟩, h⟩
  refine wpAny_Call_Name_kw (thn (wE.pe.run pins s σ H _ I h) fun u s1 ⟨v, H1, I1, rx, ev, q⟩ => ?_)
  subst ev
  cases (show u = Value.ref C from rx)
  refine PySem.W.callWith_K (h₀ := X.base) I1.ok.mod.kin Mk_.kp (thn (wA.pa.run pos pins s1 σ H1 _ I1 q) fun us s2 ⟨vs, H2, I2, rv, q2⟩ => ⟨I2.kIn, ?_⟩) he hpl
  exact run_make Mk_ F (hr.mono hkj) hb .nil hx I2 rv (by simp only [List.append_nil]; exact q2)
theorem strBack {Q : Value → Shared → Prop} {m : Str} {u : Value} {s : Shared} (r : RelV (.str m) u) (q : Q u s) : PySem.W.StrBack Q u s := by
  obtain ⟨t, rfl⟩ := r
  exact q
/-- repr(o) of an object, by the class's own -/
theorem call_ownRepr {sp : Sp} {j k : Nat} {C : Addr} {ps : List Str} (mt : MethS X.prog X.w X.K X.mg X.base CX0 C "__repr__" k ps sp) (hr : Room (j + 1) X.A) (hkj : k ≤ j) :
    CallR X (.builtin "repr") (fun xs H Q => ∃ (a dx : Addr) (fs : List (Str × V)), xs = [.ref a] ∧ H a = some (.ins C dx fs) ∧ sp xs H (fun v H' => ∃ m : Str, v = .str m ∧ Q v H') E0) := by
  intro pins s σ H xs us Q I r ⟨a, dx, fs, ex, ea, q⟩
  obtain ⟨f, fd, hm, F, hb⟩ := mt
  subst ex
  obtain ⟨u, eu, rx⟩ := vals1 r
  subst eu
  cases (show u = Value.ref a from rx)
  obtain ⟨mA, J, _⟩ := ins_get I.hok ea
  obtain ⟨od, J, _⟩ := J.look
  obtain ⟨mm, hF⟩ := I.fr
  have bt := hb s [.ref a] I.kIn (F.len _ _ _ _ q)
  refine PySem.W.repr_K (Nat.lt_of_le_of_lt (Nat.add_le_add_left (by decide : 1 ≤ 64) _) hr.units) hF I.ok.mod.kin J hm.at_ hm.fn (wpAny_call (codeAny_mono (F.run X.A.in1 X.stack s H ⟨[.ref a], []⟩ [.ref a] [.ref a] _ E0 (hr.in1.mono hkj) I.env0.in1 bt (.cons rfl .nil) q) fun r s' hq => ?_))
  cases r with
  | error _ => exact hq.elim
  | ok fl =>
    cases fl with
    | ret u =>
      obtain ⟨v, H', I', rv, m, ev, q'⟩ := I.after hq
      subst ev
      exact strBack rv ⟨_, H', I', rv, q'⟩
    | next => exact False.elim hq
    | brk => exact False.elim hq
    | cont => exact False.elim hq
/-- str(o) -/
theorem call_ownStr {sp : Sp} {j k : Nat} {C : Addr} {ps : List Str} (mt : MethS X.prog X.w X.K X.mg X.base CX0 C "__str__" k ps sp) (hr : Room (j + 2) X.A) (hkj : k ≤ j) :
    CallR X (.type "str") (fun xs H Q => ∃ (a dx : Addr) (fs : List (Str × V)), xs = [.ref a] ∧ H a = some (.ins C dx fs) ∧ sp xs H (fun v H' => ∃ m : Str, v = .str m ∧ Q v H') E0) := by
  intro pins s σ H xs us Q I r ⟨a, dx, fs, ex, ea, q⟩
  obtain ⟨f, fd, hm, F, hb⟩ := mt
  subst ex
  obtain ⟨u, eu, rx⟩ := vals1 r
  subst eu
  cases (show u = Value.ref a from rx)
  obtain ⟨mA, J, _⟩ := ins_get I.hok ea
  obtain ⟨od, J, _⟩ := J.look
  have bt := hb s [.ref a] I.kIn (F.len _ _ _ _ q)
  refine PySem.W.kso_call (Nat.lt_of_le_of_lt (Nat.add_le_add_left (by decide : 2 ≤ 64) _) hr.units) I.kIn J hm.at_ hm.fn (wpAny_call (codeAny_mono (F.run X.A.in1.in1 X.stack s H ⟨[.ref a], []⟩ [.ref a] [.ref a] _ E0 (hr.in1.in1.mono hkj) I.env0.in1.in1 bt (.cons rfl .nil) q) fun r s' hq => ?_))
  cases r with
  | error _ => exact hq.elim
  | ok fl =>
    cases fl with
    | ret u =>
      obtain ⟨v, H', I', rv, m, ev, q'⟩ := I.after hq
      subst ev
      exact strBack rv ⟨_, H', I', rv, q'⟩
    | next => exact False.elim hq
    | brk => exact False.elim hq
    | cont => exact False.elim hq
/-- x in o -/
theorem op_ownIn {sp : Sp} {j k : Nat} {C : Addr} {ps : List Str} (mt : MethS X.prog X.w X.K X.mg X.base CX0 C "__contains__" k ps sp) (hr : Room j X.A) (hkj : k ≤ j) :
    OpR X (compareOp .In) (fun x y H Q => ∃ (a dx : Addr) (fs : List (Str × V)), y = .ref a ∧ H a = some (.ins C dx fs) ∧ sp [y, x] H (fun v H' => ∃ k : Bool, v = .bl k ∧ Q v H') E0) := by
  intro pins s σ H x y v u Q I rx ry ⟨a, dx, fs, ey, ea, q⟩
  obtain ⟨f, fd, hm, F, hb⟩ := mt
  subst ey
  cases (show u = Value.ref a from ry)
  obtain ⟨mA, J, _⟩ := ins_get I.hok ea
  obtain ⟨od, J, _⟩ := J.look
  obtain ⟨mm, hF⟩ := I.fr
  have run := run_fn (us := [.ref a, v]) (vs := [.ref a, x]) (dvs := []) (ds := []) F (hr.mono hkj) hb .nil pass0 I (.cons rfl (.cons rx .nil)) q
  refine PySem.W.in_K hF I.ok.mod.kin J hm.at_ hm.fn (thn run fun r s' ⟨z, H', I', rz, kk, ez, q'⟩ => ?_)
  subst ez
  cases (show r = Value.bool kk from rz)
  exact wpAny_pure ⟨.bl kk, H', I', rfl, q'⟩
theorem ce_ownIn {sp : Sp} {Q : VK} {j k : Nat} {C : Addr} {ps : List Str} (mt : MethS X.prog X.w X.K X.mg X.base CX0 C "__contains__" k ps sp) (hr : Room j X.A) (hkj : k ≤ j) (h : wE X a σ H fun x H2 => wE X b σ H2 fun y H3 => ∃ (a dx : Addr) (fs : List (Str × V)), y = .ref a ∧ H3 a = some (.ins C dx fs) ∧ sp [y, x] H3 (fun v H' => ∃ k : Bool, v = .bl k ∧ Q v H') E0)
    (hm : behindInMarks .In b = false := by with_unfolding_all rfl) : wE X (.Compare a [.In] [b] pos) σ H Q := ⟨_, pe_cmpR (op_ownIn mt hr hkj) wE.pe wE.pe hm, h⟩
/-- o == x, x of a built-in type -/
theorem op_ownEqT {sp : Sp} {j k : Nat} {C : Addr} {ps : List Str} (mt : MethS X.prog X.w X.K X.mg X.base CX0 C "__eq__" k ps sp) (hr : Room j X.A) (hkj : k ≤ j) :
    OpR X (compareOp .Eq) (fun x y H Q => ∃ (a dx : Addr) (fs : List (Str × V)) (T : String), x = .ref a ∧ H a = some (.ins C dx fs) ∧ TyX X.K H y (.type T) ∧ PySem.W.subIn X.K (.type T) (.ref C) = some false ∧ sp [x, y] H Q E0) := by
  intro pins s σ H x y v u Q I rx ry ⟨a, dx, fs, T, ex, ea, ty, su, q⟩
  obtain ⟨f, fd, hm, F, hb⟩ := mt
  subst ex
  cases (show v = Value.ref a from rx)
  obtain ⟨mA, J, _⟩ := ins_get I.hok ea
  obtain ⟨od, J, _⟩ := J.look
  obtain ⟨mm, hF⟩ := I.fr
  obtain ⟨Pz, Z, pz, _⟩ := kit_of I ry ty
  have run := run_fn (us := [.ref a, u]) (vs := [.ref a, y]) (dvs := []) (ds := []) F (hr.mono hkj) hb .nil pass0 I (.cons rfl (.cons ry .nil)) q
  refine PySem.W.cmp_K (op := .Eq) (tb := .type T) hr.units0 hF I.ok.mod.kin J (Z.ty _ _ I.kIn pz) (by simp [PySem.W.notFirst, su]) hm.at_ hm.fn (wpAny_mono run (fun r s' ⟨v, H', I', rv, q⟩ => vback rv ⟨v, H', I', rv, q⟩) fun _ _ z => z)
theorem ce_ownEqT {sp : Sp} {Q : VK} {j k : Nat} {C : Addr} {ps : List Str} (mt : MethS X.prog X.w X.K X.mg X.base CX0 C "__eq__" k ps sp) (hr : Room j X.A) (hkj : k ≤ j)
    (h : wE X a σ H fun x H2 => wE X b σ H2 fun y H3 => ∃ (a dx : Addr) (fs : List (Str × V)) (T : String), x = .ref a ∧ H3 a = some (.ins C dx fs) ∧ TyX X.K H3 y (.type T) ∧ PySem.W.subIn X.K (.type T) (.ref C) = some false ∧ sp [x, y] H3 Q E0) : wE X (.Compare a [.Eq] [b] pos) σ H Q :=
  ⟨_, pe_cmpR (op_ownEqT mt hr hkj) wE.pe wE.pe (nomark _), h⟩
end
end GV

namespace AK
open PySem PySem.Spec PyProof.Rows L2 GV
/-! ### texts that are no houses -/
theorem part_join (x : Str) : (Txt.partition x "-").2.1 = "" ∨ ((Txt.partition x "-").2.1 = "-" ∧ (Txt.partition x "-").1 ++ "-" ++ (Txt.partition x "-").2.2 = x) := by
  unfold Txt.partition
  rcases StrLaws.occ_head x "-" 1 (Nat.le_refl 1) with ⟨h0, _⟩ | ⟨i, r, h0, hi, _⟩
  · rw [h0]
    exact .inl rfl
  · rw [h0]
    refine .inr ⟨rfl, ?_⟩
    have e := StrLaws.sub_cat x "-" (Nat.zero_le i) hi
    rw [StrLaws.sub_whole] at e
    exact e
def texL : List Str := (List.range 63).map fun i => txN (i + 1)
theorem side_of {x : Str} (h : x ∈ sidesL) : ∃ i, i < 8 ∧ x = sideT i := by
  obtain ⟨i, hi, e⟩ := List.mem_iff_getElem.mp h
  have h8 : i < 8 := hi
  refine ⟨i, h8, ?_⟩
  have := sides_get h8
  rw [List.getElem?_eq_getElem hi, e] at this
  exact Option.some.inj this
theorem no_sides {s : Str} (ns : ∀ n, n < 64 → s ≠ txN n) {b a : Str} (hb : b ∈ sidesL) (ha : a ∈ sidesL) : b ++ "-" ++ a ≠ s := by
  obtain ⟨i, hi, rfl⟩ := side_of hb
  obtain ⟨j, hj, rfl⟩ := side_of ha
  intro e
  refine ns (i + 8 * j) (by omega) ?_
  unfold txN
  rw [show (i + 8 * j) % 8 = i by omega, show (i + 8 * j) / 8 = j by omega]
  exact e.symm
section
variable {X : Cx} {M : Addr → Prop} {σ : St} {H : Hp} {a b e : Expr} {pos : Pos}
/-- == of texts, whatever their signs -/
theorem pd_eqS {x y : Str} (ha : PD X M a σ H (.str x)) (hb : PD X M b σ H (.str y)) : PD X M (.Compare a [.Eq] [b] pos) σ H (.bool (decide (x = y))) :=
  pd_cmpR op_eq (nomark _) (fun u v H1 ru rv _ Q q => by
    cases ru
    cases rv
    refine ⟨rfl, ?_⟩
    have e : decide (V.str x = V.str y) = decide (x = y) := decide_eq_decide.mpr ⟨fun z => V.str.inj z, fun z => by rw [z]⟩
    rw [e]
    exact q _ H1 (Evl.Ex.refl H1) (.bl _)) ha hb
theorem td_eqS {x y : Str} (ha : PD X M a σ H (.str x)) (hb : PD X M b σ H (.str y)) : TD X M (.Compare a [.Eq] [b] pos) σ H (decide (x = y)) :=
  td_cmpR op_eq (nomark _) (fun u v H1 ru rv _ Q q => by
    cases ru
    cases rv
    refine ⟨rfl, ?_⟩
    have e : decide (V.str x = V.str y) = decide (x = y) := decide_eq_decide.mpr ⟨fun z => V.str.inj z, fun z => by rw [z]⟩
    rw [e]
    exact q _ H1 (Evl.Ex.refl H1) (.bl _)) ha hb
/-- isinstance(e, a built-in type), by the type of what e gives -/
theorem ce_isiT {T : String} {x : Str} {p p2 : Pos} {Q : VK} (hg : Gl X "isinstance") (hm : X.mg "isinstance" = none) (hgT : Gl X x) (hmT : X.mg x = none) (hv : bootBuiltins x = some (.type T))
    (h : wE X a σ H fun v H2 => ∃ S k, TyX X.K H2 v S ∧ PySem.W.kitOne X.K S (.type T) = some k ∧ Q (.bl k) H2)
    (hn : x ≠ "__name__" := by decide) (hd : (x == ("__debug__" : Str)) = false := by decide)
    (h1 : starEach (a :: [.Name x p2]) X.env = (false, eval a X.env) :: starEach [.Name x p2] X.env := by rfl) (h2 : starEach (.Name x p2 :: []) X.env = (false, eval (.Name x p2) X.env) :: starEach [] X.env := by rfl)
    (hpl : (backTo pos (starEach [.Name x p2] X.env)).any (·.1) = false := by rfl) : wE X (.Call (.Name "isinstance" p) [a, .Name x p2] [] pos) σ H Q :=
  ⟨_, pe_callB call_isi hg hm PyProof.Rows.boot_isinstance (pa_cons wE.pe (pa_cons (pe_bltn (v := .ty T) hgT hmT hv rfl hn hd) pa_nil h2) h1) (by decide) (by decide) h1 hpl, wE.weak h fun v H2 ⟨S, k, ty, hk, q⟩ => ⟨v, .ty T, S, .type T, k, rfl, .ty T, ty, hk, q⟩⟩
/-- a text that is no key is not in the dict of the top -/
theorem ns_none {K : PySem.W.Frag} {w : World} {d : Addr} {es : Array DictEntry} {n : Nat} {xs : List Str} {s : Str} (D : KDict K w d es n) (kt : KeysT es.toList xs) (h : s ∉ xs) : PySem.W.nsIn K d s = some none := by
  have key : ∀ {l : List DictEntry} {xs : List Str}, KeysT l xs → s ∉ xs → l.find? (fun e => e.key.isStr s) = none ∧ l.any (fun e => e.refKey) = false := by
    intro l xs k
    induction k with
    | nil => exact fun _ => ⟨rfl, rfl⟩
    | cons h0 k ih =>
      intro hs
      obtain ⟨t, ht⟩ := h0
      obtain ⟨i1, i2⟩ := ih fun z => hs (List.mem_cons_of_mem _ z)
      rename_i e x es' xs'
      have ne : x ≠ s := fun z => hs (z ▸ List.mem_cons_self ..)
      refine ⟨?_, ?_⟩
      · rw [List.find?_cons, i1]
        have : e.key.isStr s = false := by
          rw [ht]
          exact beq_false_of_ne ne
        rw [this]
      · rw [List.any_cons, i2, Bool.or_false]
        unfold DictEntry.refKey
        rw [ht]
  obtain ⟨k1, k2⟩ := key kt h
  unfold PySem.W.nsIn
  rw [D.at_]
  show (match es.toList.find? (fun e => e.key.isStr s) with | some e => some (some e.val) | none => if es.toList.any (fun e => e.refKey) = true then none else some none) = some none
  rw [k1, k2]
  rfl
theorem td_ninX {s : Str} {p pos : Pos} (S : SidesK X.K X.mg X.w) (hs : s ∉ sidesL) (hg : Gl X "_SIDES") (ha : PD X M a σ H (.str s)) : TD X M (.Compare a [.NotIn] [.Name "_SIDES" p] pos) σ H true := by
  obtain ⟨d, es, n, hm, D, kt⟩ := S.ex
  refine .mk fun H1 e1 al Q q => ⟨_, pt_cmpR (op_notIn_kd D) wE.pe (pe_glob hg hm (v := .ref d) rfl (by decide)) rfl, ha.run H1 e1 al _ fun v H2 x2 r => ?_⟩
  cases r
  exact ⟨_, _, rfl, rfl, ns_none D kt hs, _, rfl, q H2 x2⟩
end
/-! ### values that are no houses -/
inductive OddV (K : PySem.W.Frag) (H : Hp) : V → String → Prop
  | data {v : V} {d : PyData} (r : Rp K M0 H v d) : OddV K H v (tyD d)
  | dict {a : Addr} {kvs : List (Key × V)} (h : H a = some (.dK kvs)) : OddV K H (.ref a) "dict"
theorem OddV.mono {K : PySem.W.Frag} {H H' : Hp} {v : V} {T : String} (o : OddV K H v T) (x : ExM M0 H H') : OddV K H' v T := by
  cases o with
  | data r => exact .data (r.mono (fun _ z => z) x)
  | dict h => exact .dict (x _ _ h (fun z => z) fun _ z => by cases z)
theorem OddV.tyX {K : PySem.W.Frag} {H : Hp} {v : V} {T : String} (o : OddV K H v T) : TyX K H v (.type T) := by
  cases o with
  | data r => exact r.tyX
  | dict h => exact .base (.dK h)
/-- what House(..) refuses -/
def NoHT (K : PySem.W.Frag) (H : Hp) (v : V) : Prop := (∃ T, OddV K H v T ∧ kitB T "str" = some false) ∨ ∃ s, v = .str s ∧ (∀ n, n < 64 → s ≠ txN n) ∧ s.length ≤ sizeLine
def BadT (K : PySem.W.Frag) (H : Hp) (v : V) : Prop := NoHT K H v ∨ v = .str (txN 0)
theorem NoHT.mono {K : PySem.W.Frag} {H H' : Hp} {v : V} (o : NoHT K H v) (x : ExM M0 H H') : NoHT K H' v := by
  rcases o with ⟨T, ov, k⟩ | h
  · exact .inl ⟨T, ov.mono x, k⟩
  · exact .inr h
theorem BadT.mono {K : PySem.W.Frag} {H H' : Hp} {v : V} (o : BadT K H v) (x : ExM M0 H H') : BadT K H' v := o.imp (·.mono x) id
theorem raised_ex {C : Addr} {fs : List (Str × V)} {H H1 : Hp} {E : XK} (r : Raised C fs H E) (x : Evl.Ex H H1) : Raised C fs H1 E := fun d H' hd x2 h => r d H' (Evl.fresh_back x hd) (x.trans x2) h
def spNT (K : PySem.W.Frag) : Sp := fun vs H Q _ => ∃ v, vs = [v] ∧ NoHT K H v ∧ ∀ H', Evl.Ex H H' → Q (.int 0) H'
section
variable {P : Program} {w : World} {K : PySem.W.Frag} {mg : Str → Option Value} {base : Heap}
theorem cl_not_odd {f : Addr} {fd : FuncData} (F : At K mg "number_of_text" s_number_of_text f fd) (nb : NoB mg) (S0 : Sides K mg w) (S : SidesK K mg w) : Cl P w K mg base CX0 1 "number_of_text" (spNT K) := by
  refine ⟨f, fd, _, F.fn.ok sc_number_of_text (fun vs H Q E h => ?_) (fun cdv A outer s H vs Q E hr h => ⟨_, wB.ps, ?_⟩), F.gl, F.fn.kp, F.fn.binds fun _ _ _ _ _ _ us hl => match us, hl with | [_], _ => rfl⟩
  · obtain ⟨v, rfl, _⟩ := h
    rfl
  obtain ⟨v, rfl, h, q⟩ := h
  rcases h with ⟨T, ov, hk⟩ | ⟨s, rfl, ns, hz⟩
  · refine b_cons (cs_if (ct_not (ct_val (ce_isiT rfl nb.isinstance rfl nb.str PyProof.Rows.boot_str (ce_nm 0 ⟨.type T, false, ov.tyX, kit_ty hk, false, rfl, ?_⟩)))))
    rw [if_pos (by decide)]
    exact b_cons (cs_ret (ce_intC (q H (Evl.Ex.refl H))))
  · refine b_cons (s_if (M := M0) (k := false) alive0 (td_not (k := true) (td_val (pd_isi rfl nb.isinstance rfl nb.str PyProof.Rows.boot_str (nm 0 (.str s)) (by decide +kernel : kitB "str" "str" = some true)))) (fun k => by cases k) (fun _ H2 x2 => ?_))
    refine b_nil (b_cons (cs_unp3 (i := 1) (j := 2) (l := 3) (u := (Txt.partition s "-").1) (v := (Txt.partition s "-").2.1) (w := (Txt.partition s "-").2.2) (pg_name (i := 1) sc_number_of_text.nd rfl (.inl rfl)) (pg_name (i := 2) sc_number_of_text.nd rfl (.inl rfl)) (pg_name (i := 3) sc_number_of_text.nd rfl (.inl rfl)) ⟨_, pe_partition wE.pe wE.pe, ce_nm 0 ⟨⟨s, rfl⟩, ce_str ⟨s, "-", rfl, rfl, by decide +kernel, hz, fun p hp => ⟨p, rfl, upd_same, ?_⟩⟩⟩⟩ (pg_tup rfl (pgs_cons (pg_name (i := 1) sc_number_of_text.nd rfl (.inl rfl)) (pgs_cons (pg_name (i := 2) sc_number_of_text.nd rfl (.inl rfl)) (pgs_cons (pg_name (i := 3) sc_number_of_text.nd rfl (.inl rfl)) pgs_nil))))))
    have x3 := x2.trans (Evl.Ex.new hp (o := .tup [.str (Txt.partition s "-").1, .str (Txt.partition s "-").2.1, .str (Txt.partition s "-").2.2]))
    have pj := part_join s
    generalize hb : (Txt.partition s "-").1 = b at *
    generalize hd : (Txt.partition s "-").2.1 = d at *
    generalize ha : (Txt.partition s "-").2.2 = a at *
    refine b_cons (s_if (M := M0) (k := true) alive0 (WD.td (?_ : WD _ _ _ _ _ true)) (fun _ H4 x4 => b_cons (cs_ret (ce_intC (q H4 (x3.trans x4))))) (fun k => by cases k))
    rcases pj with e | ⟨e, ej⟩
    · subst e
      exact wd_or (k1 := true) (k2 := true) (TD.is (td_eqS (nm 2 (.str "")) pd_str) (by decide +kernel)) fun k => by cases k
    subst e
    refine wd_or (k1 := false) (k2 := true) (TD.is (td_eqS (nm 2 (.str "-")) pd_str) (by decide +kernel)) fun _ => ?_
    by_cases h1 : b ∈ sidesL
    · obtain ⟨i, hi, rfl⟩ := side_of h1
      refine wd_or (k1 := false) (k2 := true) (td_ninS hi S0 rfl (nm 1 (.str _))) fun _ => wd_or1 (td_ninX S (fun h2 => ?_) rfl (nm 3 (.str _)))
      exact no_sides ns h1 h2 ej
    · exact wd_or (k1 := true) (k2 := true) (td_ninX S h1 rfl (nm 1 (.str _))) fun k => by cases k
/-- House(v), refused -/
def spHB (K : PySem.W.Frag) (CE : Addr) : Sp := fun vs H Q E => ∃ (b : Addr) (v : V), vs = [.ref b, v] ∧ BadT K H v ∧ Raised CE [("house", v)] H E
theorem ok_hinitB {f CE : Addr} {fd : FuncData} (F : Fun K "__init__" "House.__init__" s_House_init f fd) (c1 : Cl P w K mg base CX0 1 "number_of_text" (PureR K R_not)) (c2 : Cl P w K mg base CX0 1 "number_of_text" (spNT K)) (er : ErrC P w K mg base "InvalidHouse" CE ["house"]) :
    FnOk P w K mg base (L2.CX P w) 3 f fd ["self", "text"] (spHB K CE) := by
  refine F.okX sc_House_init (fun vs H Q E h => ?_) (fun cdv A outer sh H vs Q E hr h => ⟨_, wB.ps, ?_⟩)
  · obtain ⟨b, v, rfl, _⟩ := h
    rfl
  · obtain ⟨b, v, rfl, bad, q⟩ := h
    have tk : Takes _ (fun cls d (_ : St) H' => E cls d H') := takes_of (X := cxOf (L2.CX P w) P w K mg base n_House_init "House.__init__" (defScope s_House_init) f cdv A outer sh H E) rfl rfl rfl rfl
    have rest : ∀ H2, Evl.Ex H H2 → wB (cxOf (L2.CX P w) P w K mg base n_House_init "House.__init__" (defScope s_House_init) f cdv A outer sh H E) ((defBody s_House_init).drop 1) { nx := fun _ H' => Q .non H', rt := Q } [some (.ref b), some v, some (.int 0)] H2 := by
      intro H2 x2
      refine b_cons (s_if (M := M0) (k := true) alive0 (TD.is (td_eq hr.units (nm 2 (.int 0)) pd_int rfl rfl) rfl) (fun _ H3 x3 => ?_) (fun k => by cases k))
      exact b_cons (s_raise rfl er (hr.mono (by decide)) tk rfl (ca_cons (ce_nm 1 (ca_nil ⟨rfl, (by show 1 ≤ 1000; decide), raised_ex q (x2.trans x3)⟩))))
    rcases bad with nh | rfl
    · exact b_cons (cs_set (i := 2) sc_House_init.nd rfl (.inl rfl) (ce_call c2 hr (by decide) rfl (ca_cons (ce_nm 1 (ca_nil ⟨v, rfl, nh, fun H2 x2 => rest H2 x2⟩)))))
    · refine b_cons (s_set (M := M0) (i := 2) (d := .int 0) alive0 sc_House_init.nd rfl (.inl rfl) (pd_callC c1 hr (by decide) rfl (ad_cons (nm 1 (.str (txN 0))) ad_nil) ⟨0, by decide, rfl, rfl⟩) fun u H2 x2 r2 => ?_)
      cases r2
      exact rest H2 x2
abbrev MkHB (P : Program) (w : World) (K : PySem.W.Frag) (mg : Str → Option Value) (base : Heap) (CH CE : Addr) : Prop := ∃ fI fdI, Mk K CH fI ∧ FnOk P w K mg base (L2.CX P w) 3 fI fdI ["self", "text"] (spHB K CE) ∧ Binds K fdI ["self", "text"] []
end
section
variable {X : Cx} {CX : CXT} {k : Nat} {f C : Addr} {fd : FuncData} {ps : List Str} {sp : Sp} {σ : St}
/-- C(..), where what is raised speaks of the state -/
theorem run_makeAt {E : XK} {pins : List (Addr × Obj)} {H : Hp} {s : Shared} {Q : VK} {us : List Value} {vs : List V} (M : Mk X.K C f) (F : FnOk X.prog X.w X.K X.mg X.base CX k f fd ps sp) (hr : Room (k + 1) X.A) (hb : Binds X.K fd ps []) (hx : PassesAt CX X σ E) (I : Inv X pins σ H s) (r : Vals vs us)
    (h : ∀ x dx, H x = none → H dx = none → dx ≠ x → sp (.ref x :: vs) (upd (upd H dx (.own x)) x (.ins C dx [])) (fun v H2 => v = .non ∧ Q (.ref x) H2) E) : wpAny (model X.prog X.w) X.A (call (.ref C) us) (EP X pins σ Q) X.xe s := by
  generalize hn : s.heap.objs.size = n
  have hq := h (n + 1) n (I.hok.fresh (hn ▸ Nat.le_succ _)) (I.hok.fresh (hn ▸ Nat.le_refl _)) (Nat.ne_of_lt (Nat.lt_succ_self n))
  have I2 := Inv.made (C := C) I
  rw [hn] at I2
  have r2 : Vals (.ref (n + 1) :: vs) (.ref (n + 1) :: us) := .cons rfl r
  have bt := hb _ (.ref (n + 1) :: us) I2.kIn (by rw [List.append_nil, ← r2.length]; exact F.len _ _ _ _ hq)
  rw [List.append_nil] at bt
  have ran := F.run _ X.stack _ _ ⟨.ref (n + 1) :: us, []⟩ _ _ _ E (hr.make C us []) (I2.env0.make C us []) bt r2 hq
  subst hn
  refine wpAny_call (make_map (f := f) I.kIn M.makes M.init (beq_iff_eq.mp M.fn) (codeAny_mono ran fun res s' got => ?_))
  match res, got with
  | .error ex, got => exact hx pins _ _ ex s' I2 got
  | .ok (.ret u), got =>
    obtain ⟨v, H', I3, rv, ev, q3⟩ := I2.after got
    cases ev
    exact ⟨rv, .ref _, H', I3, rfl, q3⟩
  | .ok .next, got => exact (show False from got).elim
  | .ok .brk, got => exact (show False from got).elim
  | .ok .cont, got => exact (show False from got).elim
theorem ce_makeAt {W : WX} {H : Hp} {x : Str} {e : Expr} {es : List Expr} {p pos : Pos} {j : Nat} {Q : VK} (M : Mk X.K C f) (F : FnOk X.prog X.w X.K X.mg X.base CX k f fd ps sp) (hr : Room j X.A) (hkj : k + 1 ≤ j) (hb : Binds X.K fd ps []) (hx : ∀ σ, PassesAt CX X σ (WE W σ)) (hg : Gl X x) (hm : X.mg x = some (.ref C))
    (h : wA X (e :: es) σ H fun vs H1 => ∀ x dx, H1 x = none → H1 dx = none → dx ≠ x → sp (.ref x :: vs) (upd (upd H1 dx (.own x)) x (.ins C dx [])) (fun v H2 => v = .non ∧ Q (.ref x) H2) fun cls d H' => W cls d σ H') (hdb : (x == ("__debug__" : Str)) = false := by decide)
    (he : starEach (e :: es) X.env = (false, eval e X.env) :: starEach es X.env := by rfl) (hpl : (backTo pos (starEach es X.env)).any (·.1) = false := by rfl) : wE X (.Call (.Name x p) (e :: es) [] pos) σ H Q := by
  refine ⟨fun σ H Q => wA X (e :: es) σ H fun vs H1 => ∀ x dx, H1 x = none → H1 dx = none → dx ≠ x → sp (.ref x :: vs) (upd (upd H1 dx (.own x)) x (.ins C dx [])) (fun v H2 => v = .non ∧ Q (.ref x) H2) fun cls d H' => W cls d σ H', ⟨fun pins s σ H Q I h => ?_⟩, h⟩
  refine wpAny_Call_Name_kw (ld_glob I hg hm ?_ hdb)
  refine PySem.W.callWith_K (h₀ := X.base) I.ok.mod.kin M.kp (thn (wA.pa.run pos pins s σ H _ I h) fun us s1 ⟨vs, H1, I1, r, q⟩ => ⟨I1.kIn, ?_⟩) he hpl
  exact run_makeAt M F (hr.mono hkj) hb (hx σ) I1 r q
end
section
variable {X : Cx} {CH CE : Addr} {σ : St} {H H' : Hp} {a b e : Expr} {n m : Nat} {pos : Pos}
theorem ce_houseB {p : Pos} {j : Nat} {W : WX} {Q : VK} (mk : MkHB X.prog X.w X.K X.mg X.base CH CE) (gH : X.mg "House" = some (.ref CH)) (hr : Room j X.A) (hj : 4 ≤ j) (hg : Gl X "House") (tk : Takes X W) (h : wE X e σ H fun v H1 => BadT X.K H1 v ∧ Raised CE [("house", v)] H1 fun cls d H' => W cls d σ H')
    (he : starEach (e :: []) X.env = (false, eval e X.env) :: starEach [] X.env := by rfl) (hpl : (backTo pos (starEach [] X.env)).any (·.1) = false := by rfl) : wE X (.Call (.Name "House" p) [e] [] pos) σ H Q := by
  obtain ⟨fI, fdI, m, ok, bi⟩ := mk
  refine ce_makeAt (W := W) m ok hr hj bi (fun σ => passAt tk σ) hg gH (ca_cons (wE.weak h fun v H1 ⟨bad, q⟩ => ca_nil fun x dx hx hdx ne => ?_) he) (by decide) he hpl
  have xx : Evl.Ex H1 (upd (upd H1 dx (.own x)) x (.ins CH dx [])) := fun b o hb => by
    rw [upd_ne (ne_of_none hb hx), upd_ne (ne_of_none hb hdx)]
    exact hb
  exact ⟨x, v, rfl, bad.mono (.of xx), raised_ex q xx⟩
/-- House(e) as a house -/
theorem hd_house {p : Pos} {j : Nat} (mk : MkH X.prog X.w X.K X.mg X.base CH) (gH : X.mg "House" = some (.ref CH)) (hr : Room j X.A) (hj : 3 ≤ j) (hg : Gl X "House") (h1 : 1 ≤ n) (h2 : n < 64) (ha : PD X M0 e σ H (.str (txN n)))
    (he : starEach (e :: []) X.env = (false, eval e X.env) :: starEach [] X.env := by rfl) (hpl : (backTo pos (starEach [] X.env)).any (·.1) = false := by rfl) : HD X CH (.Call (.Name "House" p) [e] [] pos) σ H n :=
  ⟨fun H1 e1 Q q => ce_houseE mk gH hr hj hg h1 h2 (ha.mono e1) (fun h H' _ x a => q h H' x a) he hpl⟩
end
end AK

namespace AK
open PySem PySem.Spec PyProof.Rows L2 GV
section
variable {X : Cx} {M : Addr → Prop} {σ : St} {H : Hp} {a b e : Expr} {pos : Pos}
theorem pd_inS {x : Str} {ns : List Str} (ha : PD X M a σ H (.str x)) (hb : PD X M b σ H (.list (ns.map PyData.str))) (hk : behindInMarks .In b = false := by with_unfolding_all rfl) : PD X M (.Compare a [.In] [b] pos) σ H (.bool (decide (x ∈ ns))) :=
  pd_cmpR op_in_seq hk (fun u v H1 ru rv _ Q q => by
    cases ru
    cases rv with
    | lst m hs rs =>
      have flat : (ns.map V.str).all flatV = true := List.all_eq_true.mpr fun y hy => by
        obtain ⟨z, _, rfl⟩ := List.mem_map.mp hy
        rfl
      rw [rs.of_strs] at hs
      refine ⟨_, _, rfl, .inl (.inl hs), rfl, flat, ?_⟩
      show Q (.bl (inV (.str x) (ns.map V.str))) H1
      rw [inV_strs]
      exact q (.bl _) H1 (Evl.Ex.refl H1) (.bl _)) ha hb
end
theorem shaped_tx {n : Nat} (hn : n < 64) : SeqAt.shaped (.str (txN n)) = true := all63 (p := fun n => SeqAt.shaped (.str (txN n)) = true) (by decide +kernel) hn
theorem repr_tx {n : Nat} (hn : n < 64) : reprText (txN n) = "'" ++ txN n ++ "'" := all63 (p := fun n => reprText (txN n) = "'" ++ txN n ++ "'") (by decide +kernel) hn
def reprH (n : Nat) : Str := "House(" ++ ("'" ++ txN n ++ "'") ++ ")"
theorem len_rh {n : Nat} (hn : n < 64) : ("House(" ++ ("'" ++ txN n ++ "'")).length ≤ 100 ∧ (reprH n).length ≤ 100 ∧ (reprText (txN n)).length ≤ 100 := all63 (p := fun n => ("House(" ++ ("'" ++ txN n ++ "'")).length ≤ 100 ∧ (reprH n).length ≤ 100 ∧ (reprText (txN n)).length ≤ 100) (by decide +kernel) hn
/-- x in a house, for what may stand on the left -/
def spCon (K : PySem.W.Frag) (CH : Addr) : Sp := fun vs H Q _ => ∃ h n y, vs = [.ref h, y] ∧ HAt CH n H h ∧ 1 ≤ n ∧ n < 64 ∧ ((∃ x, y = .str x ∧ ∀ H', Evl.Ex H H' → Q (.bl (decide (x ∈ kindsL n))) H') ∨ (∃ S, TyX K H y S ∧ PySem.W.kitOne K S (.type "str") = some false ∧ Q (.bl false) H))
/-- a house == what is no house -/
def spEqT (K : PySem.W.Frag) (CH : Addr) : Sp := fun vs H Q _ => ∃ h n y T, vs = [.ref h, y] ∧ HAt CH n H h ∧ TyX K H y (.type T) ∧ PySem.W.kitOne K (.type T) (.ref CH) = some false ∧ Q (.bl false) H
section
variable {P : Program} {w : World} {K : PySem.W.Frag} {mg : Str → Option Value} {base : Heap} {CH CE : Addr}
theorem ok_contains {f : Addr} {fd : FuncData} (F : Fun K "__contains__" "House.__contains__" s_House_contains f fd) (nb : NoB mg) (B : HouC K CH) (nm_ : MethS P w K mg base CX0 CH "named" 2 ["self"] (spH CH fun _ n H Q => toFr K ((kindsL n).map PyData.str) H Q)) :
    FnOk P w K mg base CX0 3 f fd ["self", "kind"] (spCon K CH) := by
  refine F.ok sc_House_contains (fun vs H Q E h => ?_) (fun cdv A outer sh H vs Q E hr h => ⟨_, wB.ps, ?_⟩)
  · obtain ⟨h, n, y, rfl, _⟩ := h
    rfl
  · obtain ⟨h, n, y, rfl, ⟨dx, hh⟩, n1, n2, ⟨x, rfl, q⟩ | ⟨S, ty, hk, q⟩⟩ := h
    · refine b_cons (s_ret (M := M0) (d := .bool (decide (x ∈ kindsL n))) alive0 (PD.is (pd_and (pd_isi rfl nb.isinstance rfl nb.str PyProof.Rows.boot_str (nm 1 (.str x)) (by decide +kernel : kitB "str" "str" = some true)) fun _ => pd_one (pd_inS (nm 1 (.str x)) (FD.pd (.mk fun H1 e1 al1 Q q => ?_)))) (by rw [Bool.true_and])) fun v H2 x2 r2 => ?_)
      · have hh1 := e1 _ _ hh (fun z => z) (fun _ z => by cases z)
        exact ce_methH0 B.ins.cl nm_ hr (by decide) (ce_nm 0 ⟨h, dx, _, rfl, hh1, rfl, h, n, rfl, ⟨dx, hh1⟩, n1, n2, q⟩)
      · cases r2
        exact q H2 x2
    · exact b_cons (cs_ret (ce_and (ce_isiT rfl nb.isinstance rfl nb.str PyProof.Rows.boot_str (ce_nm 1 ⟨S, false, ty, hk, false, rfl, (fun z => by cases z), fun _ => q⟩))))
theorem ok_str {f : Addr} {fd : FuncData} (F : Fun K "__str__" "House.__str__" s_House_str f fd) (nb : NoB mg) (B : HouC K CH) : FnOk P w K mg base CX0 1 f fd ["self"] (spH CH fun _ n H Q => ∀ H', Evl.Ex H H' → Q (.str (txN n)) H') := by
  refine F.ok sc_House_str (fun vs H Q E h => ?_) (fun cdv A outer sh H vs Q E hr h => ⟨_, wB.ps, ?_⟩)
  · obtain ⟨b, n, rfl, _⟩ := h
    rfl
  · obtain ⟨h, n, rfl, hh, n1, n2, q⟩ := h
    exact b_cons (cs_ret ⟨_, pe_callTy SkE.call_str_str rfl nb.str PyProof.Rows.boot_str wA.pa (by decide) (by decide), ca_cons (ce_pd (M := M0) alive0 (pd_txtH B (hnm 0 hh)) fun v H2 x2 r2 => by
      cases r2
      exact ca_nil ⟨_, rfl, q H2 x2⟩)⟩)
theorem ok_repr {f : Addr} {fd : FuncData} (F : Fun K "__repr__" "House.__repr__" s_House_repr f fd) (B : HouC K CH) : FnOk P w K mg base CX0 1 f fd ["self"] (spH CH fun _ n H Q => ∀ H', Evl.Ex H H' → Q (.str (reprH n)) H') := by
  refine F.ok sc_House_repr (fun vs H Q E h => ?_) (fun cdv A outer sh H vs Q E hr h => ⟨_, wB.ps, ?_⟩)
  · obtain ⟨b, n, rfl, _⟩ := h
    rfl
  · obtain ⟨h, n, rfl, hh, n1, n2, q⟩ := h
    obtain ⟨l1, l2, l3⟩ := len_rh n2
    have e1 : Str.empty ++ ("House(" : Str) = "House(" := by decide +kernel
    refine b_cons (cs_ret ⟨_, pe_joined (.cons pe_str (.cons (pe_fmtR wE.pe) (.cons pe_str .nil))), ⟨_, rfl, by decide +kernel, ce_pd (M := M0) alive0 (pd_txtH B (hnm 0 hh)) fun v H2 x2 r2 => ?_⟩⟩)
    cases r2
    refine .inl ⟨_, rfl, Evl.sz_of (by omega), _, rfl, ?_, _, rfl, ?_, ?_⟩
    · rw [e1, repr_tx n2]
      exact Evl.sz_of (by omega)
    · rw [e1, repr_tx n2]
      exact Evl.sz_of (Nat.le_trans l2 (by decide))
    · rw [e1, repr_tx n2]
      exact q H2 x2
theorem ok_eqT {f : Addr} {fd : FuncData} (F : Fun K "__eq__" "House.__eq__" s_House_eq f fd) (nb : NoB mg) (gH : mg "House" = some (.ref CH)) : FnOk P w K mg base CX0 1 f fd ["self", "other"] (spEqT K CH) := by
  refine F.ok sc_House_eq (fun vs H Q E h => ?_) (fun cdv A outer sh H vs Q E hr h => ⟨_, wB.ps, ?_⟩)
  · obtain ⟨b, n, y, T, rfl, _⟩ := h
    rfl
  · obtain ⟨h, n, y, T, rfl, hh, ty, hk, q⟩ := h
    exact b_cons (cs_ret (ce_and ⟨_, pe_callB call_isi rfl nb.isinstance PyProof.Rows.boot_isinstance (pa_cons wE.pe (pa_cons (pe_glob rfl gH (v := .ref CH) rfl (by decide)) pa_nil)) (by decide) (by decide), ce_nm 1 ⟨y, .ref CH, .type T, .ref CH, false, rfl, .own CH, ty, hk, false, rfl, (fun z => by cases z), fun _ => q⟩⟩))
end
end AK

namespace GV
open PySem PySem.Spec PyProof.Rows L2
section
variable {X : Cx} {σ : St} {H : Hp} {a b e elt : Expr} {pos : Pos}
/-- [elt for x in range(1, e)], where elt may change things -/
theorem ce_lcR1 {slot : Nat} {x : Str} {p p1 p2 : Pos} {scope : Scope} {own : List (Str × Nat)} {Q : VK} (hc : X.calm = true) (hN : X.N.Nodup) (hg : Gl X "range") (hm : X.mg "range" = none) (ok : BlkOk X.N X.env.scope scope own)
    (hx : ∀ s H C cl fp, PG (Cx.lc X s H scope C cl fp) (.Name x p2) (gName slot)) (hw : ∀ v, wipe ((wipe σ (own.map (·.2))).set slot (some v)) (own.map (·.2)) = wipe σ (own.map (·.2)))
    (h : wE X a σ H fun v H0 => wE X b σ H0 fun u H1 => v = .int 1 ∧ ∃ n : Nat, u = .int ((n + 1 : Nat) : Int) ∧ n ≤ 1000000 ∧ ∀ D, H1 D = none → ∃ J : Nat → Hp → Prop, J 0 (upd H1 D (.lst [])) ∧
      (∀ i H', i < n → J i H' → ∀ s0 H0 C cl fp, wE (Cx.lc X s0 H0 scope C cl fp) elt ((wipe σ (own.map (·.2))).set slot (some (.int ((i + 1 : Nat) : Int)))) H' fun y H4 => ∃ acc, H4 D = some (.lst acc) ∧ acc.length < 100000 ∧ J (i + 1) (upd H4 D (.lst (acc ++ [y])))) ∧ ∀ H', J n H' → Q (.ref D) H')
    (hs : starEach [a, b] X.env = [(false, eval a X.env), (false, eval b X.env)] := by rfl) (hs2 : starEach [b] X.env = [(false, eval b X.env)] := by rfl)
    (hsa : starEach (a :: [b]) X.env = (false, eval a X.env) :: starEach [b] X.env := by rfl) (hsb : starEach (b :: []) X.env = (false, eval b X.env) :: starEach [] X.env := by rfl)
    (hf : ∀ x, foldedSetIterable (.Call (.Name "range" p) [a, b] [] p1) X.env x = pure x := by intro _; rfl) : wE X (.ListComp elt [⟨.Name x p2, .Call (.Name "range" p) [a, b] [] p1, [], 0⟩] scope pos) σ H Q := by
  refine ⟨_, pe_lc (tt := fun σ H Q => Q true H) (te := fun σ H Q => ∀ s0 H0 C cl fp, wE (Cx.lc X s0 H0 scope C cl fp) elt σ H Q) hc hN (pi_range2 hg hm wA.pa hs hs2) ok hx (fun _ _ _ _ _ => ⟨fun pins s σ H Q I h => pts_nil.run pins s σ H Q I h⟩)
    (fun s0 H0 C cl fp => ⟨fun pins s σ H Q I h => wE.pe.run pins s σ H Q I (h s0 H0 C cl fp)⟩) hf, ca_cons (wE.weak h fun v H0 h => ca_cons (wE.weak h ?_) hsb) hsa⟩
  rintro u H1 ⟨rfl, n, rfl, hn, run⟩
  refine ca_nil ⟨1, ((n + 1 : Nat) : Int), rfl, ⟨by omega, by omega, by omega, by omega⟩, ?_⟩
  rw [show (((n + 1 : Nat) : Int) - 1).toNat = n by omega]
  intro D hD
  obtain ⟨J, h0, ht, hd⟩ := run D hD
  refine ⟨fun i m H' => m = n - i ∧ i ≤ n ∧ J i H', ⟨n, rfl, Nat.zero_le _, h0⟩, ?_⟩
  rintro i m H' ⟨rfl, hi', j⟩
  have wk := wk_range (K := X.K) (M := M0) (H := H') 1 n
  have ln : ((List.range n).map fun i => PyData.int (1 + (i : Nat))).length = n := by simp
  by_cases hlt : i < n
  · refine .inr ⟨wk.go M0 i H' (fun _ z => z.elim) (ExM.refl _) (by rw [ln]; exact hlt), J (i + 1), fun H2 j2 => ⟨n - (i + 1), by omega, rfl, hlt, j2⟩, fun x H2 y => ?_⟩
    obtain ⟨rfl, rfl⟩ := y
    rw [show (1 : Int) + (i : Nat) = ((i + 1 : Nat) : Int) by omega]
    refine ⟨hw _, ?_⟩
    show if true = true then _ else _
    rw [if_pos rfl]
    intro s0 H0 C cl fp
    refine wE.weak (ht i _ hlt j s0 H0 C cl fp) ?_
    rintro y H4 ⟨acc, h1, h2, h3⟩
    exact ⟨acc, h1, Nat.lt_of_lt_of_le h2 (by rw [sizeLine_eq]; decide), h3⟩
  · have e2 : i = n := by omega
    subst e2
    have := wk.stop M0 H' (fun _ z => z.elim) (ExM.refl _)
    rw [ln] at this
    exact .inl ⟨this, hd H' j⟩
end
end GV

namespace AK
open PySem PySem.Spec PyProof.Rows L2 GV
/-! ### numbers -/
theorem ce_notE {X : Cx} {σ : St} {H : Hp} {a : Expr} {pos : Pos} {Q : VK} (h : wE X a σ H fun v H2 => ∃ k, v = .bl k ∧ Q (.bl (!k)) H2) : wE X (.UnaryOp .Not a pos) σ H Q := ⟨_, pe_not wE.pe, h⟩
/-- what is no whole number from lo to hi -/
def BadN (K : PySem.W.Frag) (H : Hp) (lo hi : Int) (v : V) : Prop := (∃ i, v = .int i ∧ (decide (lo ≤ i) && decide (i ≤ hi)) = false) ∨ ∃ T k1 k2, OddV K H v T ∧ kitB T "int" = some k1 ∧ kitB T "bool" = some k2 ∧ (k1 && !k2) = false
theorem BadN.mono {K : PySem.W.Frag} {H H' : Hp} {lo hi : Int} {v : V} (b : BadN K H lo hi v) (x : ExM M0 H H') : BadN K H' lo hi v := by
  rcases b with h | ⟨T, k1, k2, ov, h⟩
  · exact .inl h
  · exact .inr ⟨T, k1, k2, ov.mono x, h⟩
def spII (K : PySem.W.Frag) : Sp := fun vs H Q _ => ∃ v T k1 k2, vs = [v] ∧ TyX K H v (.type T) ∧ kitB T "int" = some k1 ∧ kitB T "bool" = some k2 ∧ Q (.bl (k1 && !k2)) H
def spIN (K : PySem.W.Frag) : Sp := fun vs H Q _ => ∃ v lo hi, vs = [v, .int lo, .int hi] ∧ ((∃ i, v = .int i ∧ ∀ H', Evl.Ex H H' → Q (.bl (decide (lo ≤ i) && decide (i ≤ hi))) H') ∨ (∃ T k1 k2, OddV K H v T ∧ kitB T "int" = some k1 ∧ kitB T "bool" = some k2 ∧ (k1 && !k2) = false ∧ Q (.bl false) H))
def spCN (K : PySem.W.Frag) (CN : Addr) : Sp := fun vs H Q E => ∃ v lo hi, vs = [v, .int lo, .int hi] ∧ ((∃ i, v = .int i ∧ (decide (lo ≤ i) && decide (i ≤ hi)) = true ∧ ∀ H', Evl.Ex H H' → Q .non H') ∨ (BadN K H lo hi v ∧ Raised CN [("number", v)] H E))
def spBy (K : PySem.W.Frag) (CH CN : Addr) : Sp := fun vs H Q E => ∃ v, vs = [.ref CH, v] ∧ ((∃ n : Nat, v = .int (n : Nat) ∧ 1 ≤ n ∧ n < 64 ∧ toHo CH n H Q) ∨ (BadN K H 1 63 v ∧ Raised CN [("number", v)] H E))
section
variable {P : Program} {w : World} {K : PySem.W.Frag} {mg : Str → Option Value} {base : Heap} {CH CE CN : Addr}
theorem cl_is_integer {f : Addr} {fd : FuncData} (F : At K mg "is_integer" s_is_integer f fd) (nb : NoB mg) : Cl P w K mg base CX0 1 "is_integer" (spII K) := by
  refine ⟨f, fd, _, F.fn.ok sc_is_integer (fun vs H Q E h => ?_) (fun cdv A outer s H vs Q E hr h => ⟨_, wB.ps, ?_⟩), F.gl, F.fn.kp, F.fn.binds fun _ _ _ _ _ _ us hl => match us, hl with | [_], _ => rfl⟩
  · obtain ⟨v, T, k1, k2, rfl, _⟩ := h
    rfl
  obtain ⟨v, T, k1, k2, rfl, ty, h1, h2, q⟩ := h
  refine b_cons (cs_ret (ce_and (ce_isiT rfl nb.isinstance rfl nb.int PyProof.Rows.boot_int (ce_nm 0 ⟨.type T, k1, ty, kit_ty h1, k1, rfl, (fun z => ?_), fun z => ?_⟩))))
  · subst z
    rw [Bool.true_and] at q
    exact ce_one (ce_notE (ce_isiT rfl nb.isinstance rfl nb.bool PyProof.Rows.boot_bool (ce_nm 0 ⟨.type T, k2, ty, kit_ty h2, k2, rfl, q⟩)))
  · subst z
    exact q
theorem cl_is_number {f : Addr} {fd : FuncData} (F : At K mg "is_number" s_is_number f fd) (c1 : Cl P w K mg base CX0 1 "is_integer" (spII K)) : Cl P w K mg base CX0 2 "is_number" (spIN K) := by
  refine ⟨f, fd, _, F.fn.ok sc_is_number (fun vs H Q E h => ?_) (fun cdv A outer s H vs Q E hr h => ⟨_, wB.ps, ?_⟩), F.gl, F.fn.kp, F.fn.binds fun _ _ _ _ _ _ us hl => match us, hl with | [_, _, _], _ => rfl⟩
  · obtain ⟨v, lo, hi, rfl, _⟩ := h
    rfl
  obtain ⟨v, lo, hi, rfl, ⟨i, rfl, q⟩ | ⟨T, k1, k2, ov, h1, h2, hk, q⟩⟩ := h
  · refine b_cons (cs_ret (ce_and (ce_call c1 hr (by decide) rfl (ca_cons (ce_nm 0 (ca_nil ⟨_, "int", true, false, rfl, (Rp.int (K := K) (M := M0) (H := H) i).tyX, by decide +kernel, by decide +kernel, true, rfl, (fun _ => ?_), fun z => by cases z⟩))))))
    exact ce_one (ce_pd (M := M0) alive0 (pd_leLe (nm 1 (.int lo)) (nm 0 (.int i)) (nm 2 (.int hi))) fun v2 H2 x2 r2 => by
      cases r2
      exact q H2 x2)
  · exact b_cons (cs_ret (ce_and (ce_call c1 hr (by decide) rfl (ca_cons (ce_nm 0 (ca_nil ⟨v, T, k1, k2, rfl, ov.tyX, h1, h2, k1 && !k2, rfl, (fun z => by rw [hk] at z; cases z), fun _ => q⟩))))))
theorem cl_check_number {f : Addr} {fd : FuncData} (F : At K mg "check_number" s_check_number f fd) (c1 : Cl P w K mg base CX0 2 "is_number" (spIN K)) (er : ErrC P w K mg base "InvalidNumber" CN ["number"]) : Cl P w K mg base (L2.CX P w) 3 "check_number" (spCN K CN) := by
  refine ⟨f, fd, _, F.fn.okX sc_check_number (fun vs H Q E h => ?_) (fun cdv A outer s H vs Q E hr h => ⟨_, wB.ps, ?_⟩), F.gl, F.fn.kp, F.fn.binds fun _ _ _ _ _ _ us hl => match us, hl with | [_, _, _], _ => rfl⟩
  · obtain ⟨v, lo, hi, rfl, _⟩ := h
    rfl
  obtain ⟨v, lo, hi, rfl, h⟩ := h
  have tk : Takes _ (fun cls d (_ : St) H' => E cls d H') := takes_of (X := cxOf (L2.CX P w) P w K mg base n_check_number "check_number" (defScope s_check_number) f cdv A outer s H E) rfl rfl rfl rfl
  rcases h with ⟨i, rfl, hi', q⟩ | ⟨bad, q⟩
  · refine b_cons (cs_if (ct_not (ct_val (ce_call c1 hr (by decide) rfl (ca_cons (ce_nm 0 (ca_cons (ce_nm 1 (ca_cons (ce_nm 2 (ca_nil ⟨_, lo, hi, rfl, .inl ⟨i, rfl, fun H2 x2 => ⟨_, rfl, ?_⟩⟩⟩)))))))))))
    rw [hi', if_neg (by decide)]
    exact b_nil (b_nil (q H2 x2))
  · have rest : ∀ H2, Evl.Ex H H2 → wB (cxOf (L2.CX P w) P w K mg base n_check_number "check_number" (defScope s_check_number) f cdv A outer s H E) (match ((defBody s_check_number)[0]? : Option Stmt) with | some (Stmt.If _ b _ _) => b | _ => []) { nx := fun σ' H' => wB (cxOf (L2.CX P w) P w K mg base n_check_number "check_number" (defScope s_check_number) f cdv A outer s H E) [] { nx := fun _ H' => Q .non H', rt := Q } σ' H', rt := Q } (L2.start n_check_number [v, .int lo, .int hi]) H2 :=
      fun H2 x2 => b_cons (s_raise rfl er (hr.mono (by decide)) tk rfl (ca_cons (ce_nm 0 (ca_nil ⟨rfl, (by show 1 ≤ 1000; decide), raised_ex q x2⟩))))
    rcases bad with ⟨i, rfl, hi'⟩ | ⟨T, k1, k2, ov, h1, h2, hk⟩
    · refine b_cons (cs_if (ct_not (ct_val (ce_call c1 hr (by decide) rfl (ca_cons (ce_nm 0 (ca_cons (ce_nm 1 (ca_cons (ce_nm 2 (ca_nil ⟨_, lo, hi, rfl, .inl ⟨i, rfl, fun H2 x2 => ⟨_, rfl, ?_⟩⟩⟩)))))))))))
      rw [hi', if_pos (by decide)]
      exact rest H2 x2
    · refine b_cons (cs_if (ct_not (ct_val (ce_call c1 hr (by decide) rfl (ca_cons (ce_nm 0 (ca_cons (ce_nm 1 (ca_cons (ce_nm 2 (ca_nil ⟨_, lo, hi, rfl, .inr ⟨T, k1, k2, ov, h1, h2, hk, _, rfl, ?_⟩⟩)))))))))))
      rw [if_pos (by decide)]
      exact rest H (Evl.Ex.refl H)
/-- the number of the last house -/
def MostK (mg : Str → Option Value) : Prop := ∃ t, mg "_MOST_HOUSES" = some (.int 63 t)
theorem ok_by_number {f : Addr} {fd : FuncData} (F : Fun K "by_number" "House.by_number" s_House_by_number f fd) (cc : Cl P w K mg base (L2.CX P w) 3 "check_number" (spCN K CN)) (ct : Cl P w K mg base CX0 1 "text_of_number" (PureR K R_ton)) (mk : MkH P w K mg base CH) (gM : MostK mg) :
    FnOk P w K mg base (L2.CX P w) 4 f fd ["cls", "number"] (spBy K CH CN) := by
  refine F.okX sc_House_by_number (fun vs H Q E h => ?_) (fun cdv A outer sh H vs Q E hr h => ⟨_, wB.ps, ?_⟩)
  · obtain ⟨v, rfl, _⟩ := h
    rfl
  obtain ⟨v, rfl, h⟩ := h
  obtain ⟨tm, gM⟩ := gM
  have tk : Takes _ (fun cls d (_ : St) H' => E cls d H') := takes_of (X := cxOf (L2.CX P w) P w K mg base n_House_by_number "House.by_number" (defScope s_House_by_number) f cdv A outer sh H E) rfl rfl rfl rfl
  rcases h with ⟨n, rfl, n1, n2, q⟩ | ⟨bad, q⟩
  · have hb : (decide ((1 : Int) ≤ (n : Nat)) && decide (((n : Nat) : Int) ≤ 63)) = true := by
      rw [Bool.and_eq_true, decide_eq_true_eq, decide_eq_true_eq]
      omega
    refine b_cons (cs_expr (ce_callX cc hr (by decide) rfl tk (ca_cons (ce_nm 1 (ca_cons (ce_intC (ca_cons ⟨_, pe_glob rfl gM (v := .int 63) ⟨tm, rfl⟩ (by decide), ca_nil ⟨_, 1, 63, rfl, .inl ⟨_, rfl, hb, fun H2 x2 => ?_⟩⟩⟩)))))))
    obtain ⟨fI, fdI, m, ok, bi⟩ := mk
    refine b_cons (cs_ret (ce_makeN m ok hr (by decide) bi pass0 (ce_nm 0 ⟨rfl, ca_cons (ce_pd (M := M0) alive0 (pd_callC ct hr (by decide) rfl (ad_cons (nm 1 (.int (n : Nat))) ad_nil) ⟨n, n2, rfl, rfl⟩) fun v3 H3 x3 r3 => ca_nil fun x dx hx hdx ne => ?_)⟩)))
    cases r3
    refine ⟨x, dx, n, rfl, n1, n2, upd_same, fun H' k a => ⟨rfl, q x H' ((x2.trans x3).trans fun b o hb => ?_) a⟩⟩
    have nx : b ≠ x := ne_of_none hb hx
    exact k b o (by rw [upd_ne nx, upd_ne (ne_of_none hb hdx)]; exact hb) nx
  · exact b_cons (cs_expr (ce_callX cc hr (by decide) rfl tk (ca_cons (ce_nm 1 (ca_cons (ce_intC (ca_cons ⟨_, pe_glob rfl gM (v := .int 63) ⟨tm, rfl⟩ (by decide), ca_nil ⟨_, 1, 63, rfl, .inr ⟨bad, q⟩⟩⟩)))))))
/-- n houses in order, in a list -/
def HsL (CH : Addr) (n : Nat) (H : Hp) (xs : List V) : Prop := xs.length = n ∧ ∀ i, i < n → ∃ h, xs[i]? = some (.ref h) ∧ HAt CH (i + 1) H h
theorem HsL.ext {n : Nat} {H H' : Hp} {xs : List V} (h : HsL CH n H xs) (x : Evl.Ex H H') : HsL CH n H' xs := ⟨h.1, fun i hi => let ⟨g, e, a⟩ := h.2 i hi; ⟨g, e, a.ex' x⟩⟩
def spEv (CH : Addr) : Sp := fun vs H Q _ => vs = [] ∧ ∀ p xs H', H p = none → Evl.Ex H H' → H' p = some (.lst xs) → HsL CH 63 H' xs → Q (.ref p) H'
theorem ok_every {f : Addr} {fd : FuncData} (F : Fun K "every" "House.every" s_House_every f fd) (nb : NoB mg) (ct : Cl P w K mg base CX0 1 "text_of_number" (PureR K R_ton)) (mk : MkH P w K mg base CH) (gH : mg "House" = some (.ref CH)) (gM : MostK mg) : FnOk P w K mg base CX0 4 f fd [] (spEv CH) := by
  refine F.ok sc_House_every (fun vs H Q E h => ?_) (fun cdv A outer sh H vs Q E hr h => ⟨_, wB.ps, ?_⟩)
  · obtain ⟨rfl, _⟩ := h
    rfl
  obtain ⟨rfl, q⟩ := h
  obtain ⟨tm, gM⟩ := gM
  refine b_cons (cs_ret (ce_lcR1 (slot := 0) (own := [("number", 0)]) rfl sc_House_every.nd rfl nb.range (blkOk_by (N := n_House_every) (sc := defScope s_House_every) (by decide +kernel)) (fun _ _ _ _ _ => pg_name (i := 0) sc_House_every.nd rfl (.inl rfl)) (fun _ => rfl) (ce_intC (ce_add ⟨_, pe_glob rfl gM (v := .int 63) ⟨tm, rfl⟩ (by decide), ce_intC ⟨63, 1, rfl, rfl, rfl, 63, rfl, by decide, fun D hD => ?_⟩⟩))))
  refine ⟨fun i H' => ExB D H H' ∧ ∃ xs, H' D = some (.lst xs) ∧ HsL CH i H' xs, ⟨ExB.upd, [], upd_same, rfl, fun i hi => by omega⟩, ?_, ?_⟩
  · rintro i H' hi ⟨ex, xs, hx, hl, hs⟩ s0 H0 C cl fp
    refine ce_hd (hd_house (n := i + 1) mk gH hr (by decide) rfl (by omega) (by omega) (pd_callC ct hr (by decide) rfl (ad_cons (nm 0 (.int ((i + 1 : Nat) : Int))) ad_nil) ⟨i + 1, by omega, rfl, rfl⟩)) fun h H2 x2 ho => ?_
    refine ⟨xs, x2 _ _ hx, by omega, (ex.trans (.of x2)).trans .upd, xs ++ [.ref h], upd_same, ?_, fun j hj => ?_⟩
    · rw [List.length_append, hl]
      rfl
    · have up : ∀ {m g}, HAt CH m H2 g → HAt CH m (upd H2 D (.lst (xs ++ [.ref h]))) g := fun {m g} ⟨dx, e⟩ => ⟨dx, by
        rw [upd_ne (fun z => ?_)]
        · exact e
        · rw [z, x2 _ _ hx] at e
          cases e⟩
      by_cases e : j < i
      · obtain ⟨g, e1, a⟩ := hs j e
        exact ⟨g, by rw [List.getElem?_append_left (by omega)]; exact e1, up (a.ex' x2)⟩
      · have : j = i := by omega
        subst this
        refine ⟨h, ?_, up ho⟩
        rw [List.getElem?_append_right (by omega), hl, Nat.sub_self]
        rfl
  · rintro H' ⟨ex, xs, hx, hs⟩
    exact q D xs H' hD (fun a o ha => ex a o (ne_of_none ha hD) ha) hx hs
end
end AK

namespace AK
open PySem PySem.Spec PyProof.Rows L2 GV
/-- the class House, its methods and operators -/
structure Hou (P : Program) (w : World) (K : PySem.W.Frag) (mg : Str → Option Value) (base : Heap) (CH CE CN : Addr) : Prop where
  nb : NoB mg
  B : HouC K CH
  gH : mg "House" = some (.ref CH)
  mkH : MkH P w K mg base CH
  mkB : MkHB P w K mg base CH CE
  mr : mg "repr" = none
  named : MethS P w K mg base CX0 CH "named" 2 ["self"] (spH CH fun _ n H Q => toFr K ((kindsL n).map PyData.str) H Q)
  len : MethS P w K mg base CX0 CH "__len__" 3 ["self"] (spH CH fun _ n H Q => ∀ H', Evl.Ex H H' → Q (.int ((kindsL n).length : Nat)) H')
  eq : MethS P w K mg base CX0 CH "__eq__" 1 ["self", "other"] (spHH CH fun n m H Q => ∀ H', Evl.Ex H H' → Q (.bl (decide (n = m))) H')
  eqT : MethS P w K mg base CX0 CH "__eq__" 1 ["self", "other"] (spEqT K CH)
  con : MethS P w K mg base CX0 CH "__contains__" 3 ["self", "kind"] (spCon K CH)
  str_ : MethS P w K mg base CX0 CH "__str__" 1 ["self"] (spH CH fun _ n H Q => ∀ H', Evl.Ex H H' → Q (.str (txN n)) H')
  repr_ : MethS P w K mg base CX0 CH "__repr__" 1 ["self"] (spH CH fun _ n H Q => ∀ H', Evl.Ex H H' → Q (.str (reprH n)) H')
  by_ : ClsS P w K mg base (L2.CX P w) CH "by_number" 4 (spBy K CH CN)
  ev : StatS P w K mg base CH "every" 4 (spEv CH)
section
variable {X : Cx} {CH CE CN : Addr} {σ : St} {H H' : Hp} {a b e o : Expr} {n m : Nat} {pos : Pos}
theorem fd_namedH {j : Nat} {apos : Pos} {pl : Sem Bool} (L : Hou X.prog X.w X.K X.mg X.base CH CE CN) (hr : Room j X.A) (hj : 2 ≤ j) (h : HD X CH o σ H n) (n1 : 1 ≤ n) (n2 : n < 64)
    (hev : eval (.Call (.Attribute o "named" apos) [] [] pos) X.env = (do
      let ov ← eval o X.env
      standAt apos.atName
      let (f, first) ← holding [ov] (getMethod ov "named" pl)
      callWith pos f first (backTo pos (starEach [] X.env)) (backToKw pos (keywordEach [] X.env))) := by rfl) : FD X M0 (.Call (.Attribute o "named" apos) [] [] pos) σ H ((kindsL n).map PyData.str) :=
  .mk fun H1 e1 al Q q => ce_methH0 L.B.ins.cl L.named hr hj (h.run H1 e1 _ fun g H2 x2 ⟨dx, ho⟩ => ⟨g, dx, _, rfl, ho, rfl, g, n, rfl, ⟨dx, ho⟩, n1, n2, fun p ws H3 hp x3 h3 r => q p ws H3 (Evl.fresh_back x2 hp) (x2.trans x3) h3 r⟩) hev
theorem pd_eqH {j : Nat} (L : Hou X.prog X.w X.K X.mg X.base CH CE CN) (hr : Room j X.A) (hj : 1 ≤ j) (ha : HD X CH a σ H n) (hb : HD X CH b σ H m) (n1 : 1 ≤ n) (n2 : n < 64) (m1 : 1 ≤ m) (m2 : m < 64) : PD X M0 (.Compare a [.Eq] [b] pos) σ H (.bool (decide (n = m))) :=
  .mk fun H1 e1 al Q q => ce_ownEq L.eq hr hj (ha.run H1 e1 _ fun g H2 x2 ⟨dx, hg⟩ => hb.run H2 (e1.trans (.of x2)) _ fun k H3 x3 ⟨dy, hk⟩ => ⟨g, dx, _, k, dy, _, rfl, x3 _ _ hg, rfl, hk, g, n, k, m, rfl, ⟨dx, x3 _ _ hg⟩, ⟨dy, hk⟩, n1, n2, m1, m2, fun H4 x4 => q _ H4 ((x2.trans x3).trans x4) (.bl _)⟩)
theorem pd_lenH {p : Pos} {j : Nat} (L : Hou X.prog X.w X.K X.mg X.base CH CE CN) (hr : Room (j + 1) X.A) (hj : 3 ≤ j) (hg : Gl X "len") (h : HD X CH e σ H n) (n1 : 1 ≤ n) (n2 : n < 64)
    (hs : starEach (e :: []) X.env = (false, eval e X.env) :: starEach [] X.env := by rfl) (hpl : (backTo pos (starEach [] X.env)).any (·.1) = false := by rfl) : PD X M0 (.Call (.Name "len" p) [e] [] pos) σ H (.int ((kindsL n).length : Nat)) :=
  .mk fun H1 e1 al Q q => ⟨_, pe_callB (call_ownLen L.len hr hj) hg L.nb.len PySem.boot_len wA.pa (by decide) (by decide) hs hpl, ca_cons (h.run H1 e1 _ fun g H2 x2 ⟨dx, ho⟩ => ca_nil ⟨g, dx, _, rfl, ho, g, n, rfl, ⟨dx, ho⟩, n1, n2, fun H3 x3 => ⟨_, rfl, Nat.lt_of_le_of_lt (kinds_len n) (by decide), q _ H3 (x2.trans x3) (.int _)⟩⟩) hs⟩
theorem pd_strH {p : Pos} {j : Nat} (L : Hou X.prog X.w X.K X.mg X.base CH CE CN) (hr : Room (j + 2) X.A) (hj : 1 ≤ j) (hg : Gl X "str") (h : HD X CH e σ H n) (n1 : 1 ≤ n) (n2 : n < 64)
    (hs : starEach (e :: []) X.env = (false, eval e X.env) :: starEach [] X.env := by rfl) (hpl : (backTo pos (starEach [] X.env)).any (·.1) = false := by rfl) : PD X M0 (.Call (.Name "str" p) [e] [] pos) σ H (.str (txN n)) :=
  .mk fun H1 e1 al Q q => ⟨_, pe_callTy (call_ownStr L.str_ hr hj) hg L.nb.str PyProof.Rows.boot_str wA.pa (by decide) (by decide) hs hpl, ca_cons (h.run H1 e1 _ fun g H2 x2 ⟨dx, ho⟩ => ca_nil ⟨g, dx, _, rfl, ho, g, n, rfl, ⟨dx, ho⟩, n1, n2, fun H3 x3 => ⟨_, rfl, q _ H3 (x2.trans x3) (.str _)⟩⟩) hs⟩
theorem pd_reprH {p : Pos} {j : Nat} (L : Hou X.prog X.w X.K X.mg X.base CH CE CN) (hr : Room (j + 1) X.A) (hj : 1 ≤ j) (hg : Gl X "repr") (h : HD X CH e σ H n) (n1 : 1 ≤ n) (n2 : n < 64)
    (hs : starEach (e :: []) X.env = (false, eval e X.env) :: starEach [] X.env := by rfl) (hpl : (backTo pos (starEach [] X.env)).any (·.1) = false := by rfl) : PD X M0 (.Call (.Name "repr" p) [e] [] pos) σ H (.str (reprH n)) :=
  .mk fun H1 e1 al Q q => ⟨_, pe_callB (call_ownRepr L.repr_ hr hj) hg L.mr (by decide +kernel) wA.pa (by decide) (by decide) hs hpl, ca_cons (h.run H1 e1 _ fun g H2 x2 ⟨dx, ho⟩ => ca_nil ⟨g, dx, _, rfl, ho, g, n, rfl, ⟨dx, ho⟩, n1, n2, fun H3 x3 => ⟨_, rfl, q _ H3 (x2.trans x3) (.str _)⟩⟩) hs⟩
end
def ixI (x : Str) : Nat := ordK.idxOf x
def kvI (x : Str) : Int := 2 ^ ixI x
theorem sum_kv {n : Nat} (hn : n < 64) : ((kindsL n).map kvI).sum = (n : Nat) := all63 (p := fun n => ((kindsL n).map kvI).sum = (n : Nat)) (by decide +kernel) hn
theorem ix_get {n : Nat} {x : Str} (hx : x ∈ kindsL n) : ordK[ixI x]? = some x ∧ (∀ m z, m < ixI x → ordK[m]? = some z → z ≠ x) ∧ ixI x < 6 := by
  have all : ordK.all (fun x => decide (ordK[ixI x]? = some x) && ((List.range 6).all fun m => !decide (m < ixI x) || !decide (ordK[m]? = some x)) && decide (ixI x < 6)) = true := by decide +kernel
  have h := List.all_eq_true.mp all x (kinds_ord hx)
  rw [Bool.and_eq_true, Bool.and_eq_true, decide_eq_true_eq, decide_eq_true_eq] at h
  obtain ⟨⟨h1, h2⟩, h3⟩ := h
  refine ⟨h1, fun m z hm hz e => ?_, h3⟩
  have q := List.all_eq_true.mp h2 m (List.mem_range.mpr (by omega))
  rw [e] at hz
  rw [decide_eq_true hm, decide_eq_true hz] at q
  cases q
theorem shaped_ks {n : Nat} (hn : n < 64) : SeqAt.shaped (strsD (kindsL n)) = true := all63 (p := fun n => SeqAt.shaped (strsD (kindsL n)) = true) (by decide +kernel) hn
theorem eqv_ks {n : Nat} (hn : n < 64) : PyData.eqv (strsD (kindsL n)) (strsD (kindsL n)) = true := SeqAt.eqv_refl _ (SeqAt.canLay_of_shaped (shaped_ks hn))
theorem ex_updN {H H1 : Hp} {l : Addr} {o : HO} (x : Evl.Ex H H1) (h : H l = none) : Evl.Ex H (upd H1 l o) := fun a u ha => by
  rw [upd_ne (ne_of_none ha h)]
  exact x a u ha
section
variable {X : Cx} {M : Addr → Prop} {σ : St} {H H' : Hp} {a b e o : Expr} {n m : Nat} {pos : Pos}
theorem pd_shlI {i j : Int} (ha : PD X M a σ H (.int i)) (hb : PD X M b σ H (.int j)) (hc : CPow i j) : PD X M (.BinOp a .LShift b pos) σ H (.int (i * 2 ^ j.toNat)) := .mk fun H1 e1 al Q q =>
  ce_shl (ha.run H1 e1 al _ fun x H2 x2 r2 => hb.run H2 (e1.trans (.of x2)) (al.mono x2) _ fun y H3 x3 r3 => by
    cases r2
    cases r3
    exact ⟨i, j, rfl, rfl, hc, q _ H3 (x2.trans x3) (.int _)⟩)
end
theorem reprH_eq {n : Nat} (hn : n < 64) : "House('" ++ txN n ++ "')" = reprH n := all63 (p := fun n => "House('" ++ txN n ++ "')" = reprH n) (by decide +kernel) hn
theorem shaped_rh {n : Nat} (hn : n < 64) : SeqAt.shaped (.str (reprH n)) = true := all63 (p := fun n => SeqAt.shaped (.str (reprH n)) = true) (by decide +kernel) hn
theorem len_q {n : Nat} (hn : n < 64) : ("House('" : Str).length + (txN n).length ≤ 100 ∧ ("House('" ++ txN n).length + ("')" : Str).length ≤ 100 := all63 (p := fun n => ("House('" : Str).length + (txN n).length ≤ 100 ∧ ("House('" ++ txN n).length + ("')" : Str).length ≤ 100) (by decide +kernel) hn
def spIH (K : PySem.W.Frag) (CH : Addr) : Sp := fun vs H Q _ => ∃ (h : Addr) (kv : V) (n : Nat), vs = [.ref h, kv] ∧ HAt CH n H h ∧ 1 ≤ n ∧ n < 64 ∧ Rp K M0 H kv (strsD (kindsL n)) ∧ ∀ H', Evl.Ex H H' → Q (.bl true) H'
section
variable {P : Program} {w : World} {K : PySem.W.Frag} {mg : Str → Option Value} {base : Heap} {CH CE CN : Addr}
theorem cl_law_is_named {f : Addr} {fd : FuncData} (F : At K mg "_law_is_named" s_law_is_named f fd) (L : Hou P w K mg base CH CE CN) : Cl P w K mg base CX0 4 "_law_is_named" (spIH K CH) := by
  refine ⟨f, fd, _, F.fn.ok sc_law_is_named (fun vs H Q E h => ?_) (fun cdv A outer s H vs Q E hr h => ⟨_, wB.ps, ?_⟩), F.gl, F.fn.kp, F.fn.binds fun _ _ _ _ _ _ us hl => match us, hl with | [_, _], _ => rfl⟩
  · obtain ⟨h, kv, n, rfl, _⟩ := h
    rfl
  obtain ⟨h, kv, n, rfl, ho, n1, n2, r, q⟩ := h
  have nb := L.nb
  have kl : (kindsL n).length ≤ 6 := kinds_len n
  refine b_cons (s_forRW (slot := 2) PassesOwn.never rfl sc_law_is_named.nd rfl (.inl rfl) rfl nb.range (ce_intC ⟨2, fun i σ' H' => (∃ x2 x3, σ' = [some (.ref h), some kv, x2, x3]) ∧ Evl.Ex H H', rfl, by decide, ⟨⟨_, _, rfl⟩, Evl.Ex.refl H⟩, ?_, ?_⟩))
  · rintro i σ' H1 hi ⟨⟨x2, x3, rfl⟩, x1⟩
    refine b_cons (cs_set (i := 3) sc_law_is_named.nd rfl (.inl rfl) (ce_fd (M := M0) alive0 (fd_namedH L hr (by decide) (hnm 0 (ho.ex' x1)) n1 n2) fun l ws H5 hl x5 h5 r5 => ?_))
    have rd := r.mono (fun _ z => z) (ExM.of (x1.trans x5))
    have rl : Rp K M0 H5 (.ref l) (strsD (kindsL n)) := .lst (fun z => z) (.inl h5) r5
    refine b_cons (s_if (M := M0) (k := false) alive0 (TD.is (WD.td (wd_or (td_not (td_val (pd_isi rfl nb.isinstance rfl nb.list PyProof.Rows.boot_list (nm 3 rl) (kit_list _)))) fun _ => wd_or1 (td_ne hr.units (nm 3 rl) (nm 1 rd) (shaped_ks n2) (shaped_ks n2)))) ?_) (fun k => by cases k) (fun _ H6 x6 => b_nil ?_))
    · rw [eqv_ks n2]
      rfl
    have h6 := x6 _ _ h5
    rw [RpAll.of_strs r5] at h6
    refine b_cons (cs_expr (ce_insert (ce_nm 3 ⟨l, rfl, ⟨_, h6⟩, ce_intC (ce_str ⟨_, 0, h6, rfl, by decide, by rw [List.length_map]; omega, ?_⟩)⟩)))
    refine b_cons (cs_expr (ce_append (ce_nm 3 ⟨l, _, rfl, upd_same, ce_str ⟨_, upd_same, ?_, ?_⟩⟩)))
    · simp only [List.length_append, List.length_take, List.length_drop, List.length_map, List.length_cons, List.length_nil]
      omega
    · exact b_nil ⟨⟨_, _, rfl⟩, ex_updN (ex_updN (x1.trans (x5.trans x6)) (Evl.fresh_back x1 hl)) (Evl.fresh_back x1 hl)⟩
  · rintro σ' H1 ⟨⟨x2, x3, rfl⟩, x1⟩
    exact b_cons (s_ret (M := M0) alive0 pd_bl fun v H2 x2 r2 => by
      cases r2
      exact q H2 (x1.trans x2))
theorem pd_isNamed {X : Cx} {σ : St} {H : Hp} {a b : Expr} {n : Nat} {p pos : Pos} {j k : Nat} {f : Str} (cl : Cl X.prog X.w X.K X.mg X.base CX0 k f (spIH X.K CH)) (hr : Room j X.A) (hj : k ≤ j) (hg : Gl X f) (ha : HD X CH a σ H n) (n1 : 1 ≤ n) (n2 : n < 64) (hb : PD X M0 b σ H (strsD (kindsL n)))
    (he : starEach (a :: [b]) X.env = (false, eval a X.env) :: starEach [b] X.env := by rfl) (he2 : starEach (b :: []) X.env = (false, eval b X.env) :: starEach [] X.env := by rfl) (hpl : (backTo pos (starEach [b] X.env)).any (·.1) = false := by rfl) (hdb : (f == ("__debug__" : Str)) = false := by decide) : PD X M0 (.Call (.Name f p) [a, b] [] pos) σ H (.bool true) :=
  .mk fun H1 e1 al Q q => ce_call cl hr hj hg (ca_cons (ha.run H1 e1 _ fun h H2 x2 ho => ca_cons (hb.run H2 (e1.trans (.of x2)) alive0 _ fun v H3 x3 r => ca_nil ⟨h, v, n, rfl, ho.ex' x3, n1, n2, r, fun H4 x4 => q _ H4 ((x2.trans x3).trans x4) (.bl true)⟩) he2) he) hdb he hpl
theorem cl_law_is_house {f : Addr} {fd : FuncData} (F : At K mg "_law_is_house" s_law_is_house f fd) (L : Hou P w K mg base CH CE CN) (ct : Cl P w K mg base CX0 1 "_law_text" (PureR K R_text)) (ci : Cl P w K mg base CX0 1 "_law_is_int" (PureR K R_num)) (cn : Cl P w K mg base CX0 4 "_law_is_named" (spIH K CH)) :
    Cl P w K mg base CX0 5 "_law_is_house" (spIH K CH) := by
  refine ⟨f, fd, _, F.fn.ok sc_law_is_house (fun vs H Q E h => ?_) (fun cdv A outer s H vs Q E hr h => ⟨_, wB.ps, ?_⟩), F.gl, F.fn.kp, F.fn.binds fun _ _ _ _ _ _ us hl => match us, hl with | [_, _], _ => rfl⟩
  · obtain ⟨h, kv, n, rfl, _⟩ := h
    rfl
  obtain ⟨h, kv, n, rfl, ho, n1, n2, r, q⟩ := h
  have nb := L.nb
  have B := L.B
  have kl : (kindsL n).length ≤ 6 := kinds_len n
  refine b_cons (s_set (M := M0) (i := 2) (d := .int (n : Nat)) alive0 sc_law_is_house.nd rfl (by first | exact .inl rfl | exact .inr rfl) (PD.is (pd_sum (ns := (kindsL n).map kvI) rfl nb rfl (PD.is (FD.pd (fd_mapS (i := 4) (own := [("kind", 4)]) (fun x => .int (kvI x)) rfl sc_law_is_house.nd (nm 1 r) (blkOk_by (N := n_law_is_house) (sc := defScope s_law_is_house) (by decide +kernel)) (fun _ _ _ _ _ => pg_name (i := 4) sc_law_is_house.nd rfl (.inl rfl)) (by omega) ?_)) ?_)) (congrArg PyData.int (sum_kv n2))) fun v2 H2 x2 r2 => ?_)
  · intro s0 H0 C cl fp M' H' y hM lift kp hy
    obtain ⟨i1, i2, i3⟩ := ix_get hy
    refine PD.is (pd_shlI pd_int (pd_indexS (ns := ordK) (FD.pd (fd_lst (ad_cons pd_str (ad_cons pd_str (ad_cons pd_str (ad_cons pd_str (ad_cons pd_str (ad_cons pd_str ad_nil)))))) (by decide))) (nm 4 (.str y)) i1 i2) ?_) ?_
    · exact ⟨by omega, by omega, by decide⟩
    · show PyData.int (1 * 2 ^ ((ixI y : Nat) : Int).toNat) = .int (kvI y)
      rw [Int.toNat_natCast, Int.one_mul]
      rfl
  · rw [List.map_map]
    rfl
  cases r2
  have ho2 := ho.ex' x2
  have ra := r.mono (fun _ z => z) (ExM.of x2)
  refine b_cons (s_set (M := M0) (i := 3) (d := .str (txN n)) alive0 sc_law_is_house.nd rfl (.inl rfl) (pd_callC ct hr (by decide) rfl (ad_cons (nm 1 ra) ad_nil) ⟨n, n2, rfl, rfl⟩) fun v2 H2' x2' r2' => ?_)
  cases r2'
  replace ho2 := ho2.ex' x2'
  replace ra := ra.mono (fun _ z => z) (ExM.of x2')
  refine b_cons (s_if (M := M0) (k := false) alive0 (TD.is (WD.td (wd_or (td_not (td_val (pd_isiH B rfl nb.isinstance rfl L.gH (hnm 0 ho2)))) fun _ => wd_or1 (td_not (td_val (pd_callC ci hr (by decide) rfl (ad_cons (pd_numH B (hnm 0 ho2)) (ad_cons (nm 2 (.int (n : Nat))) ad_nil)) ⟨_, rfl, rfl⟩))))) rfl) (fun k => by cases k) (fun _ H3 x3 => b_nil ?_))
  have ho3 := ho2.ex' x3
  have rb := ra.mono (fun _ z => z) (ExM.of x3)
  refine b_cons (s_if (M := M0) (k := false) alive0 (TD.is (WD.td (wd_or (td_not (td_val (pd_isi rfl nb.isinstance rfl nb.str PyProof.Rows.boot_str (pd_txtH B (hnm 0 ho3)) (by decide +kernel : kitB "str" "str" = some true)))) fun _ => wd_or (td_ne hr.units (pd_txtH B (hnm 0 ho3)) (nm 3 (.str (txN n))) (shaped_tx n2) (shaped_tx n2)) fun _ => wd_or1 (td_ne hr.units (pd_strH L hr (by decide) rfl (hnm 0 ho3) n1 n2) (nm 3 (.str (txN n))) (shaped_tx n2) (shaped_tx n2)))) ?_) (fun k => by cases k) (fun _ H4 x4 => b_nil ?_))
  · simp [PyData.eqv]
  have ho4 := ho3.ex' x4
  have rc := rb.mono (fun _ z => z) (ExM.of x4)
  obtain ⟨z1, z2⟩ := len_q n2
  refine b_cons (s_if (M := M0) (k := false) alive0 (TD.is (WD.td (wd_or (td_ne hr.units (pd_reprH L hr (by decide) rfl (hnm 0 ho4) n1 n2) (PD.is (pd_addS (pd_addS pd_str (nm 3 (.str (txN n))) (by omega)) pd_str (by omega)) (congrArg PyData.str (reprH_eq n2))) (shaped_rh n2) (shaped_rh n2)) fun _ => wd_or1 (td_ne hr.units (pd_lenH L hr (by decide) rfl (hnm 0 ho4) n1 n2) (pd_len nb rfl (nm 1 rc) (n := (kindsL n).length) (by simp [lenD])) rfl rfl))) ?_) (fun k => by cases k) (fun _ H5 x5 => b_nil ?_))
  · simp [PyData.eqv]
  have ho5 := ho4.ex' x5
  have rd := rc.mono (fun _ z => z) (ExM.of x5)
  refine b_cons (s_ret (M := M0) (d := .bool true) alive0 (pd_isNamed cn hr (by decide) rfl (hnm 0 ho5) n1 n2 (nm 1 rd)) fun v8 H8 x8 r8 => ?_)
  cases r8
  exact q H8 (((((x2.trans x2').trans x3).trans x4).trans x5).trans x8)
end
end AK

namespace AK
open PySem PySem.Spec PyProof.Rows L2 GV
/-- a built-in type is no house -/
structure OddT (K : PySem.W.Frag) (CH : Addr) (T : String) : Prop where
  no : PySem.W.kitOne K (.type T) (.ref CH) = some false
  sub : PySem.W.subIn K (.type T) (.ref CH) = some false
structure OddTs (K : PySem.W.Frag) (CH : Addr) : Prop where
  t0 : OddT K CH "NoneType"
  t1 : OddT K CH "int"
  t2 : OddT K CH "bool"
  t3 : OddT K CH "str"
  t4 : OddT K CH "list"
  t5 : OddT K CH "tuple"
  t6 : OddT K CH "dict"
  kS : PySem.W.kitOne K (.ref CH) (.type "str") = some false
theorem OddTs.all {K : PySem.W.Frag} {CH : Addr} (O : OddTs K CH) (d : PyData) : OddT K CH (tyD d) := by
  cases d with
  | none => exact O.t0
  | bool _ => exact O.t2
  | int _ => exact O.t1
  | str _ => exact O.t3
  | list _ => exact O.t4
  | tuple _ => exact O.t5
  | dict _ => exact O.t6
theorem OddTs.of {K : PySem.W.Frag} {CH : Addr} (O : OddTs K CH) {H : Hp} {v : V} {T : String} (o : OddV K H v T) : OddT K CH T := by
  cases o with
  | data r => exact O.all _
  | dict h => exact O.t6
/-- what is no kind of the house -/
def NoKind (K : PySem.W.Frag) (CH : Addr) (n : Nat) (H : Hp) (y : V) : Prop := (∃ x, y = .str x ∧ decide (x ∈ kindsL n) = false) ∨ (∃ T, OddV K H y T ∧ kitB T "str" = some false) ∨ ∃ h m, y = .ref h ∧ HAt CH m H h
theorem NoKind.ext {K : PySem.W.Frag} {CH : Addr} {n : Nat} {H H' : Hp} {y : V} (k : NoKind K CH n H y) (x : Evl.Ex H H') : NoKind K CH n H' y := by
  rcases k with h | ⟨T, o, t⟩ | ⟨h, m, e, a⟩
  · exact .inl h
  · exact .inr (.inl ⟨T, o.mono (.of x), t⟩)
  · exact .inr (.inr ⟨h, m, e, a.ex' x⟩)
theorem noK_str {n : Nat} {x : Str} (h : ordK.all (fun y => !decide (y = x)) = true) : decide (x ∈ kindsL n) = false := decide_eq_false fun m => by
  have := List.all_eq_true.mp h x (kinds_ord m)
  rw [decide_eq_true rfl] at this
  cases this
section
variable {X : Cx} {CH CE CN : Addr} {σ : St} {H H' : Hp} {a b e o : Expr} {n m : Nat} {pos : Pos}
theorem pd_conH {j : Nat} {x : Str} (L : Hou X.prog X.w X.K X.mg X.base CH CE CN) (hr : Room j X.A) (hj : 3 ≤ j) (ha : PD X M0 a σ H (.str x)) (hb : HD X CH b σ H n) (n1 : 1 ≤ n) (n2 : n < 64) (hm : behindInMarks .In b = false := by with_unfolding_all rfl) :
    PD X M0 (.Compare a [.In] [b] pos) σ H (.bool (decide (x ∈ kindsL n))) :=
  .mk fun H1 e1 al Q q => ce_ownIn L.con hr hj (ha.run H1 e1 alive0 _ fun v H2 x2 r => hb.run H2 (e1.trans (.of x2)) _ fun h H3 x3 ⟨dx, ho⟩ => by
    cases r
    exact ⟨h, dx, _, rfl, ho, h, n, _, rfl, ⟨dx, ho⟩, n1, n2, .inl ⟨x, rfl, fun H4 x4 => ⟨_, rfl, q _ H4 ((x2.trans x3).trans x4) (.bl _)⟩⟩⟩) hm
theorem ct_noKind {j : Nat} {Q : Bool → Hp → Prop} (L : Hou X.prog X.w X.K X.mg X.base CH CE CN) (O : OddTs X.K CH) (hr : Room j X.A) (hj : 3 ≤ j) (n1 : 1 ≤ n) (n2 : n < 64) (h : wE X a σ H fun y H2 => wE X b σ H2 fun g H3 => ∃ h, g = .ref h ∧ HAt CH n H3 h ∧ NoKind X.K CH n H3 y ∧ ∀ H4, Evl.Ex H3 H4 → Q false H4) (hm : behindInMarks .In b = false := by with_unfolding_all rfl) : wT X (.Compare a [.In] [b] pos) σ H Q :=
  ⟨_, pt_cmpR (op_ownIn L.con hr hj) wE.pe wE.pe hm, wE.weak h fun y H2 h2 => wE.weak h2 fun g H3 ⟨h, eg, ⟨dx, ho⟩, nk, q⟩ => by
    subst eg
    refine ⟨h, dx, _, rfl, ho, h, n, y, rfl, ⟨dx, ho⟩, n1, n2, ?_⟩
    rcases nk with ⟨x, rfl, hx⟩ | ⟨T, ov, hk⟩ | ⟨g, m, rfl, dy, hg⟩
    · exact .inl ⟨x, rfl, fun H4 x4 => ⟨_, rfl, _, rfl, by rw [hx]; exact q H4 x4⟩⟩
    · exact .inr ⟨_, ov.tyX, kit_ty hk, _, rfl, _, rfl, q H3 (Evl.Ex.refl H3)⟩
    · exact .inr ⟨_, .base (.ins hg L.B.ins.cl L.B.ins.ha L.B.ins.hn L.B.ins.htk L.B.ins.hm), O.kS, _, rfl, _, rfl, q H3 (Evl.Ex.refl H3)⟩⟩
/-- a house == what is no house -/
theorem pd_eqOdd {j : Nat} (L : Hou X.prog X.w X.K X.mg X.base CH CE CN) (O : OddTs X.K CH) (hr : Room j X.A) (hj : 1 ≤ j) (ha : HD X CH a σ H n) (hb : ∀ H1, ExM M0 H H1 → ∀ Q : VK, (∀ y T H2, Evl.Ex H1 H2 → OddV X.K H2 y T → Q y H2) → wE X b σ H1 Q) : PD X M0 (.Compare a [.Eq] [b] pos) σ H (.bool false) :=
  .mk fun H1 e1 al Q q => ce_ownEqT L.eqT hr hj (ha.run H1 e1 _ fun h H2 x2 ho => hb H2 (e1.trans (.of x2)) _ fun y T H3 x3 ov => by
    obtain ⟨dx, e3⟩ := ho.ex' x3
    exact ⟨h, dx, _, T, rfl, e3, ov.tyX, (O.of ov).sub, h, n, y, T, rfl, ⟨dx, e3⟩, ov.tyX, (O.of ov).no, q _ H3 (x2.trans x3) (.bl false)⟩)
theorem ce_cat {Q : VK} (h : wE X a σ H fun x H2 => wE X b σ H2 fun y H3 => ∃ l k xs zs, x = .ref l ∧ y = .ref k ∧ H3 l = some (.lst xs) ∧ H3 k = some (.lst zs) ∧ xs.length + zs.length ≤ 100000 ∧ ∀ p, H3 p = none → Q (.ref p) (upd H3 p (.lst (xs ++ zs)))) : wE X (.BinOp a .Add b pos) σ H Q :=
  ⟨_, pe_op op_catR wE.pe wE.pe, wE.weak h fun x H2 h2 => wE.weak h2 fun y H3 ⟨l, k, xs, zs, e1, e2, h1, h2, hz, q⟩ => ⟨l, k, xs, zs, e1, e2, .inl h1, .inl h2, Evl.sz_of hz, q⟩⟩
end
theorem fm_cons {α : Type} {P : α → Prop} {a : α} {l : List α} (h : P a) (t : ∀ y ∈ l, P y) : ∀ y ∈ a :: l, P y := List.forall_mem_cons.mpr ⟨h, t⟩
theorem fm_nil {α : Type} {P : α → Prop} : ∀ y ∈ ([] : List α), P y := fun _ h => by cases h
section
variable {P : Program} {w : World} {K : PySem.W.Frag} {mg : Str → Option Value} {base : Heap} {CH CE CN : Addr}
theorem kinds_mem {i : Nat} {y : V} (h : (ordK.map V.str)[i]? = some y) : ∃ x, y = .str x := by
  rw [List.getElem?_map] at h
  obtain ⟨x, _, rfl⟩ := Option.map_eq_some_iff.mp h
  exact ⟨x, rfl⟩
theorem cl_law_is_in {f : Addr} {fd : FuncData} (F : At K mg "_law_is_in" s_law_is_in f fd) (L : Hou P w K mg base CH CE CN) (O : OddTs K CH) (ct : Cl P w K mg base CX0 1 "_law_is_truth" (PureR K R_truth)) : Cl P w K mg base CX0 4 "_law_is_in" (spIH K CH) := by
  refine ⟨f, fd, _, F.fn.ok sc_law_is_in (fun vs H Q E h => ?_) (fun cdv A outer s H vs Q E hr h => ⟨_, wB.ps, ?_⟩), F.gl, F.fn.kp, F.fn.binds fun _ _ _ _ _ _ us hl => match us, hl with | [_, _], _ => rfl⟩
  · obtain ⟨h, kv, n, rfl, _⟩ := h
    rfl
  obtain ⟨h, kv, n, rfl, ho, n1, n2, r, q⟩ := h
  have nb := L.nb
  refine b_cons (s_forL (slot := 2) PassesOwn.never rfl sc_law_is_in.nd rfl (.inl rfl) (ce_lst (ca_cons (ce_str (ca_cons (ce_str (ca_cons (ce_str (ca_cons (ce_str (ca_cons (ce_str (ca_cons (ce_str (ca_nil ⟨(by show 6 ≤ 1000; decide), fun p hp => ?_⟩)))))))))))))))
  refine ⟨p, ordK.map V.str, fun i σ' H' => (∃ x2, σ' = [some (.ref h), some kv, x2, none, none]) ∧ Evl.Ex H H' ∧ H' p = some (.lst (ordK.map V.str)), rfl, ⟨⟨_, rfl⟩, Evl.Ex.new hp, upd_same⟩, fun i σ' H' j => j.2.2, ?_, ?_⟩
  · rintro i σ' H1 y hy ⟨⟨x2, rfl⟩, x1, hp1⟩
    obtain ⟨x, rfl⟩ := kinds_mem hy
    refine b_cons (s_if (M := M0) (k := false) alive0 (td_not (k := true) (td_val (pd_callC ct hr (by decide) rfl (ad_cons (pd_conH L hr (by decide) (nm 2 (.str x)) (hnm 0 (ho.ex' x1)) n1 n2) (ad_cons (pd_inS (nm 2 (.str x)) (nm 1 (r.mono (fun _ z => z) (ExM.of x1)))) ad_nil)) ⟨_, rfl, rfl⟩))) (fun k => by cases k) (fun _ H2 x2 => b_nil (b_nil ⟨⟨_, rfl⟩, x1.trans x2, x2 _ _ hp1⟩)))
  rintro σ' H1 ⟨⟨x2, rfl⟩, x1, hp1⟩
  refine b_cons (cs_set (i := 3) sc_law_is_in.nd rfl (.inl rfl) (ce_lst (ca_cons (ce_nonC (ca_cons (ce_intC (ca_cons (ce_intC (ca_cons (ce_intC (ca_cons (ce_blC (ca_cons (ce_str (ca_cons (ce_str (ca_cons (ce_str (ca_cons (ce_str (ca_cons (ce_str (ca_cons (ce_str (ca_cons (ce_str (ca_cons (ce_str (ca_cons (ce_str (ca_cons (ce_str (ca_cons (ce_str (ca_nil ⟨(by show 16 ≤ 1000; decide), fun po hpo => ?_⟩)))))))))))))))))))))))))))))))))))
  generalize hxs : [V.non, V.int 0, V.int 1, V.int 33, V.bl true, V.str "", V.str "-", V.str "l", V.str "h", V.str "--", V.str "l--", V.str "L-", V.str "l-h", V.str " l-", V.str "-h ", V.str "lb-"] = xs
  generalize hH2 : upd H1 po (.lst xs) = H2
  have xo : Evl.Ex H1 H2 := hH2 ▸ Evl.Ex.new hpo
  have ho2 := ho.ex' (x1.trans xo)
  have hpo2 : H2 po = some (.lst xs) := hH2 ▸ upd_same
  refine b_cons (s_forL (slot := 4) PassesOwn.never rfl sc_law_is_in.nd rfl (.inl rfl) (ce_cat (ce_nm 3 (ce_lst (ca_cons (ce_tup (ca_cons (ce_str (ca_nil ⟨(by show 1 ≤ 1000; decide), fun pt hpt => ca_cons (ce_lst (ca_cons (ce_str (ca_nil ⟨(by show 1 ≤ 1000; decide), fun pl hpl => ca_cons (ce_dict0 fun pd hpd => ca_cons (ce_hd (hd_house (n := 1) L.mkH L.gH hr (by decide) rfl (by decide) (by decide) pd_str) fun g1 H3 x3 hg1 => ca_cons (ce_hd (hd_house (n := 32) L.mkH L.gH hr (by decide) rfl (by decide) (by decide) pd_str) fun g2 H4 x4 hg2 => ca_cons (ce_nm 0 (ca_nil ⟨(by show 6 ≤ 1000; decide), fun pm hpm => ⟨po, pm, xs, _, rfl, rfl, ?_, upd_same, ?_, fun pc hpc => ?_⟩⟩)))))⟩))))⟩)))))))))
  · exact (x4.trans (Evl.Ex.new hpm)) _ _ (x3 _ _ (Evl.Ex.new hpd _ _ (Evl.Ex.new hpl _ _ (Evl.Ex.new hpt _ _ hpo2))))
  · rw [← hxs]
    show 16 + 6 ≤ 100000
    decide
  · have m1 := Evl.Ex.new hpm (o := .lst [.ref pt, .ref pl, .ref pd, .ref g1, .ref g2, .ref h])
    have m2 := m1.trans (Evl.Ex.new hpc (o := .lst (xs ++ [.ref pt, .ref pl, .ref pd, .ref g1, .ref g2, .ref h])))
    have m4 := x4.trans m2
    have m3 := x3.trans m4
    have md := (Evl.Ex.new hpd (o := .dK [])).trans m3
    have ml := (Evl.Ex.new hpl (o := .lst [.str "-h"])).trans md
    have mt := (Evl.Ex.new hpt (o := .tup [.str "l-"])).trans ml
    generalize hH9 : upd (upd H4 pm (.lst [.ref pt, .ref pl, .ref pd, .ref g1, .ref g2, .ref h])) pc (.lst (xs ++ [.ref pt, .ref pl, .ref pd, .ref g1, .ref g2, .ref h])) = H9 at *
    have ho9 := ho2.ex' mt
    have hpc9 : H9 pc = some (.lst (xs ++ [.ref pt, .ref pl, .ref pd, .ref g1, .ref g2, .ref h])) := hH9 ▸ upd_same
    have all1 : ∀ y ∈ xs, NoKind K CH n H9 y := by
      rw [← hxs]
      exact fm_cons (.inr (.inl ⟨_, .data .non, by decide +kernel⟩)) (fm_cons (.inr (.inl ⟨_, .data (.int 0), by decide +kernel⟩)) (fm_cons (.inr (.inl ⟨_, .data (.int 1), by decide +kernel⟩)) (fm_cons (.inr (.inl ⟨_, .data (.int 33), by decide +kernel⟩)) (fm_cons (.inr (.inl ⟨_, .data (.bl true), by decide +kernel⟩))
        (fm_cons (.inl ⟨_, rfl, noK_str (by decide +kernel)⟩) (fm_cons (.inl ⟨_, rfl, noK_str (by decide +kernel)⟩) (fm_cons (.inl ⟨_, rfl, noK_str (by decide +kernel)⟩) (fm_cons (.inl ⟨_, rfl, noK_str (by decide +kernel)⟩) (fm_cons (.inl ⟨_, rfl, noK_str (by decide +kernel)⟩) (fm_cons (.inl ⟨_, rfl, noK_str (by decide +kernel)⟩)
        (fm_cons (.inl ⟨_, rfl, noK_str (by decide +kernel)⟩) (fm_cons (.inl ⟨_, rfl, noK_str (by decide +kernel)⟩) (fm_cons (.inl ⟨_, rfl, noK_str (by decide +kernel)⟩) (fm_cons (.inl ⟨_, rfl, noK_str (by decide +kernel)⟩) (fm_cons (.inl ⟨_, rfl, noK_str (by decide +kernel)⟩) fm_nil)))))))))))))))
    have all2 : ∀ y ∈ ([.ref pt, .ref pl, .ref pd, .ref g1, .ref g2, .ref h] : List V), NoKind K CH n H9 y :=
      fm_cons (.inr (.inl ⟨_, .data (.tup (ds := [.str "l-"]) (fun z => z) (.inl (ml _ _ upd_same)) (.cons (.str _) .nil)), by decide +kernel⟩)) (fm_cons (.inr (.inl ⟨_, .data (.lst (ds := [.str "-h"]) (fun z => z) (.inl (md _ _ upd_same)) (.cons (.str _) .nil)), by decide +kernel⟩)) (fm_cons (.inr (.inl ⟨_, .dict (m3 _ _ upd_same), by decide +kernel⟩))
        (fm_cons (.inr (.inr ⟨_, _, rfl, hg1.ex' m4⟩)) (fm_cons (.inr (.inr ⟨_, _, rfl, hg2.ex' m2⟩)) (fm_cons (.inr (.inr ⟨_, _, rfl, ho9⟩)) fm_nil)))))
    refine ⟨pc, _, fun i σ' H' => (∃ x4, σ' = [some (.ref h), some kv, x2, some (.ref po), x4]) ∧ Evl.Ex H9 H' ∧ H' pc = some (.lst (xs ++ [.ref pt, .ref pl, .ref pd, .ref g1, .ref g2, .ref h])), rfl, ⟨⟨_, rfl⟩, Evl.Ex.refl _, hpc9⟩, fun i σ' H' j => j.2.2, ?_, ?_⟩
    · rintro i σ' H' y hy ⟨⟨x4, rfl⟩, ex, hc⟩
      have nk : NoKind K CH n H9 y := by
        rcases List.mem_append.mp (List.mem_of_getElem? hy) with hm | hm
        · exact all1 y hm
        · exact all2 y hm
      refine b_cons (cs_if (ct_noKind L O hr (by decide) n1 n2 (ce_nm 4 (ce_nm 0 ⟨h, rfl, ho9.ex' ex, nk.ext ex, fun H5 x5 => ?_⟩))))
      rw [if_neg (by decide)]
      exact b_nil (b_nil ⟨⟨_, rfl⟩, ex.trans x5, x5 _ _ hc⟩)
    · rintro σ' H' ⟨⟨x4, rfl⟩, ex, hc⟩
      exact b_cons (s_ret (M := M0) alive0 pd_bl fun v H5 x5 r5 => by
        cases r5
        exact q H5 ((((x1.trans xo).trans mt).trans ex).trans x5))
theorem sum_kk {a b : Nat} (ha : a < 64) (hb : b < 64) (e : kindsL a = kindsL b) : a = b := by
  have h := sum_kv ha
  rw [e, sum_kv hb] at h
  omega
theorem eqvAll_strs : ∀ xs ys : List Str, PyData.eqvAll (xs.map PyData.str) (ys.map PyData.str) = decide (xs = ys)
  | [], [] => by simp [PyData.eqvAll]
  | [], _ :: _ => by simp [PyData.eqvAll]
  | _ :: _, [] => by simp [PyData.eqvAll]
  | x :: xs, y :: ys => by
    show (PyData.eqv (.str x) (.str y) && PyData.eqvAll (xs.map PyData.str) (ys.map PyData.str)) = _
    rw [eqv_str, eqvAll_strs xs ys, Bool.eq_iff_iff, Bool.and_eq_true, decide_eq_true_eq, decide_eq_true_eq, decide_eq_true_eq, List.cons.injEq]
theorem eqv_kk {a b : Nat} (ha : a < 64) (hb : b < 64) : PyData.eqv (strsD (kindsL a)) (strsD (kindsL b)) = decide (a = b) := by
  show PyData.eqvAll _ _ = _
  rw [eqvAll_strs]
  exact decide_eq_decide.mpr ⟨fun e => sum_kk ha hb e, fun e => by rw [e]⟩
def spEq (K : PySem.W.Frag) (CH : Addr) : Sp := fun vs H Q _ => ∃ (h g : Addr) (kv tv : V) (n m : Nat), vs = [.ref h, kv, .ref g, tv] ∧ HAt CH n H h ∧ HAt CH m H g ∧ Rp K M0 H kv (strsD (kindsL n)) ∧ Rp K M0 H tv (strsD (kindsL m)) ∧ 1 ≤ n ∧ n < 64 ∧ 1 ≤ m ∧ m < 64 ∧ ∀ H', Evl.Ex H H' → Q (.bl true) H'
theorem cl_law_is_equal {f : Addr} {fd : FuncData} (F : At K mg "_law_is_equal" s_law_is_equal f fd) (L : Hou P w K mg base CH CE CN) (O : OddTs K CH) (ct : Cl P w K mg base CX0 1 "_law_is_truth" (PureR K R_truth)) : Cl P w K mg base CX0 4 "_law_is_equal" (spEq K CH) := by
  refine ⟨f, fd, _, F.fn.ok sc_law_is_equal (fun vs H Q E h => ?_) (fun cdv A outer s H vs Q E hr h => ⟨_, wB.ps, ?_⟩), F.gl, F.fn.kp, F.fn.binds fun _ _ _ _ _ _ us hl => match us, hl with | [_, _, _, _], _ => rfl⟩
  · obtain ⟨h, g, kv, tv, n, m, rfl, _⟩ := h
    rfl
  obtain ⟨h, g, kv, tv, n, m, rfl, ho, hg, r, t, n1, n2, m1, m2, q⟩ := h
  have nb := L.nb
  refine b_cons (s_set (M := M0) (i := 4) (d := .bool (decide (n = m))) alive0 sc_law_is_equal.nd rfl (.inl rfl) (PD.is (pd_eq hr.units (nm 1 r) (nm 3 t) (shaped_ks n2) (shaped_ks m2)) (by rw [eqv_kk n2 m2])) fun v1 H1 x1 r1 => ?_)
  cases r1
  have ho1 := ho.ex' x1
  have hg1 := hg.ex' x1
  have ra := r.mono (fun _ z => z) (ExM.of x1)
  refine b_cons (s_if (M := M0) (k := false) alive0 (TD.is (WD.td (wd_or (td_not (td_val (pd_callC ct hr (by decide) rfl (ad_cons (pd_eqH L hr (by decide) (hnm 0 ho1) (hnm 2 hg1) n1 n2 m1 m2) (ad_cons (nm 4 (.bl _)) ad_nil)) ⟨_, rfl, rfl⟩))) fun _ => wd_or1 (td_not (td_val (pd_callC ct hr (by decide) rfl (ad_cons (PD.is (pd_eqH L hr (by decide) (hnm 2 hg1) (hnm 0 ho1) m1 m2 n1 n2) (congrArg PyData.bool (decide_eq_decide.mpr ⟨Eq.symm, Eq.symm⟩))) (ad_cons (nm 4 (.bl (decide (n = m)))) ad_nil)) ⟨_, rfl, rfl⟩))))) rfl) (fun k => by cases k) (fun _ H2 x2 => b_nil ?_))
  have ho2 := ho1.ex' x2
  have rb := ra.mono (fun _ z => z) (ExM.of x2)
  refine b_cons (s_forL (slot := 5) PassesOwn.never rfl sc_law_is_equal.nd rfl (.inl rfl) (ce_lst (ca_cons (ce_nonC (ca_cons (ce_pd (M := M0) alive0 (pd_numH L.B (hnm 0 ho2)) fun w1 G1 y1 s1 => ca_cons (ce_pd (M := M0) alive0 (pd_txtH L.B (hnm 0 (ho2.ex' y1))) fun w2 G2 y2 s2 => ca_cons (ce_nm 1 (ca_cons (ce_pd (M := M0) alive0 (pd_callTy call_tuple_of rfl nb.tuple PyProof.Rows.boot_tuple (ad_cons (nm 1 (rb.mono (fun _ z => z) (ExM.of (y1.trans y2)))) ad_nil) (rn_tuple rfl)) fun w3 G3 y3 s3 => ca_cons (ce_blC (ca_cons (ce_pd (M := M0) alive0 (pd_reprH L hr (by decide) rfl (hnm 0 (ho2.ex' ((y1.trans y2).trans y3))) n1 n2) fun w4 G4 y4 s4 => ca_cons (ce_dict0 fun pd hpd => ca_nil ⟨(by show 8 ≤ 1000; decide), fun p hp => ?_⟩))))))))))))))
  have z1 := Evl.Ex.new hp (o := .lst [.non, w1, w2, kv, w3, .bl true, w4, .ref pd])
  have zd := (Evl.Ex.new hpd (o := .dK [])).trans z1
  have z4 := y4.trans zd
  have z3 := y3.trans z4
  have z2 := y2.trans z3
  have z0 := y1.trans z2
  generalize hH9 : upd (upd G4 pd (.dK [])) p (.lst [.non, w1, w2, kv, w3, .bl true, w4, .ref pd]) = H9 at *
  have hp9 : H9 p = some (.lst [.non, w1, w2, kv, w3, .bl true, w4, .ref pd]) := hH9 ▸ upd_same
  have all1 : ∀ y ∈ ([.non, w1, w2, kv, w3, .bl true, w4, .ref pd] : List V), ∃ T, OddV K H9 y T :=
    fm_cons ⟨_, .data .non⟩ (fm_cons ⟨_, .data (s1.mono (fun _ z => z) (ExM.of z2))⟩ (fm_cons ⟨_, .data (s2.mono (fun _ z => z) (ExM.of z3))⟩ (fm_cons ⟨_, .data (rb.mono (fun _ z => z) (ExM.of z0))⟩ (fm_cons ⟨_, .data (s3.mono (fun _ z => z) (ExM.of z4))⟩ (fm_cons ⟨_, .data (.bl true)⟩ (fm_cons ⟨_, .data (s4.mono (fun _ z => z) (ExM.of zd))⟩ (fm_cons ⟨_, .dict (z1 _ _ upd_same)⟩ fm_nil)))))))
  refine ⟨p, _, fun i σ' H' => (∃ x5, σ' = [some (.ref h), some kv, some (.ref g), some tv, some (.bl (decide (n = m))), x5]) ∧ Evl.Ex H9 H' ∧ H' p = some (.lst [.non, w1, w2, kv, w3, .bl true, w4, .ref pd]), rfl, ⟨⟨_, rfl⟩, Evl.Ex.refl _, hp9⟩, fun i σ' H' j => j.2.2, ?_, ?_⟩
  · rintro i σ' H' y hy ⟨⟨x5, rfl⟩, ex, hc⟩
    obtain ⟨T, ov⟩ := all1 y (List.mem_of_getElem? hy)
    have ov' := ov.mono (.of ex)
    refine b_cons (s_if (M := M0) (k := false) alive0 (td_not (k := true) (td_val (pd_callC ct hr (by decide) rfl (ad_cons (pd_eqOdd L O hr (by decide) (hnm 0 (ho2.ex' (z0.trans ex))) fun H1 e1 Q q => ce_nm 5 (q _ _ _ (Evl.Ex.refl _) (ov'.mono e1))) (ad_cons pd_bl ad_nil)) ⟨_, rfl, rfl⟩))) (fun k => by cases k) (fun _ H5 x5 => b_nil (b_nil ⟨⟨_, rfl⟩, ex.trans x5, x5 _ _ hc⟩)))
  · rintro σ' H' ⟨⟨x5, rfl⟩, ex, hc⟩
    exact b_cons (s_ret (M := M0) alive0 pd_bl fun v H5 x5 r5 => by
      cases r5
      exact q H5 ((((x1.trans x2).trans z0).trans ex).trans x5))
end
end AK

/-! repr of lists and tuples of flat values, whatever is under way -/
namespace PySem
open Sem
section
variable {prog : Program} {w : World} {A : Around} {E : Value → Shared → Prop} {s : Shared} {a : Addr} {o : Obj} {n : Nat} {g : List Code}
theorem gvAll_at : ∀ {us : List Value} {ts : List Str}, ReprAll prog w us ts → us.length = ts.length ∧ ∀ (i : Nat) (y : Value), us[i]? = some y → ∃ t, ts[i]? = some t ∧ ReprIs prog w y t
  | _, _, .nil => ⟨rfl, fun i y h => by cases h⟩
  | _, _, .cons h r => by
    obtain ⟨l, k⟩ := gvAll_at r
    refine ⟨by rw [List.length_cons, List.length_cons, l], fun i y hy => ?_⟩
    match i, hy with
    | 0, hy =>
      cases hy
      exact ⟨_, rfl, h⟩
    | i + 1, hy => exact k i y hy
theorem gv_repr_lstA {x : Value} {l : List Value} {ts : List Str} {Q : Value → Shared → Prop} (hu : A.units + 1 < cLine) (hg : A.guards = some g) (ha : s.heap.get? a = some o) (hc : o.cls = .type "list") (hd : o.data = .seq (x :: l).toArray n) (hT : ReprAll prog w (x :: l) ts) (hz : (listText ts).length ≤ sizeLine)
    (h : ∀ h' u tk, (∀ b o, s.heap.get? b = some o → h'.get? b = some o) → Q (.str (if (g.any fun c => gvLstWay (.ref a) (c, default)) = true then "[...]" else listText ts) u) { s with heap := h', toks := tk }) : wpAny (model prog w) A (call (.builtin "repr") [.ref a]) Q E s := by
  have hTy : s.TypeIs (.ref a) "list" := ⟨o, ha, hc⟩
  obtain ⟨hl, hk⟩ := gvAll_at hT
  refine call_repr_slot hu hTy F.slot_list_repr.toG ?_
  by_cases hw : (g.any fun c => gvLstWay (.ref a) (c, default)) = true
  · refine wpAny_call (codeAny_call_builtin_own (Code.quiet_builtin _ (by decide +kernel)) F.entry_list_repr (F.slot_list_repr.check _ _ _ _ _ _ _ _ hTy (F.args_list_repr_1 _) (gv_lst_own (A := A.in1) hg ha hd hw ⟨_, _, rfl, ?_⟩)))
    have k := h s.heap s.toks (s.toks + 1) fun b o z => z
    rwa [if_pos hw] at k
  · refine call_list_repr (ts := ts) hTy hg (fun v rest kw hm => ?_) ha hd (by rw [List.size_toArray]; omega) (fun i y hy => hk i y (by rwa [List.getElem?_toArray] at hy)) (fun h' u tk hk2 => ⟨_, _, rfl, ?_⟩) hz
    · cases hv : Builtin.List.listSameRef v (.ref a) with
      | false => rfl
      | true => exact absurd (List.any_eq_true.mpr ⟨_, hm, hv⟩) hw
    · have k := h h' u tk hk2
      rwa [if_neg hw] at k
theorem gv_repr_tupA {us : List Value} {ts : List Str} {Q : Value → Shared → Prop} (hu : A.units + 1 < cLine) (hg : A.guards = some g) (ha : s.heap.get? a = some o) (hc : o.cls = .type "tuple") (hd : o.data = .seq us.toArray n) (hT : ReprAll prog w us ts) (hz : (tupleText ts).length ≤ sizeLine)
    (h : ∀ u tk, Q (.str (if (g.any fun c => tupGuardF (.ref a) (c, default)) = true then "(...)" else tupleText ts) u) { s with toks := tk }) : wpAny (model prog w) A (call (.builtin "repr") [.ref a]) Q E s := by
  have hTy : s.TypeIs (.ref a) "tuple" := ⟨o, ha, hc⟩
  refine call_repr_slot hu hTy F.slot_tuple_repr ?_
  by_cases hw : (g.any fun c => tupGuardF (.ref a) (c, default)) = true
  · refine wpAny_call (codeAny_call_builtin_own (Code.quiet_builtin _ (by decide +kernel)) F.entry_tuple_repr (F.slot_tuple_repr.check _ _ _ _ _ _ _ _ hTy (F.args_tuple_repr_1 _) ?_))
    show wpOwn _ _ _ (Builtin.tupleReprAt 0 ⟨[.ref a], []⟩) _ _ s
    rw [tuple_repr_tree, tupleReprUnderWay_eq]
    refine wpOwn_bind (wpOwn_stackTailAny (A := A.in1) hg (tupGuardF_off _) (tupGuardF_pos _) ?_)
    rw [hw]
    refine wpOwn_of_wpAny (PySem.W.KFB.if_so rfl ?_)
    refine wpAny_bind (wpAny_rule (wpAny_bind (wpAny_mkStr (wpAny_pure ⟨_, _, rfl, ?_⟩) (by decide +kernel))))
    have k := h s.toks (s.toks + 1)
    rwa [if_pos hw] at k
  · refine call_tuple_repr (ts := ts) hTy hg (fun c hm => ?_) ha hd hT (fun u tk => ⟨_, _, rfl, ?_⟩) hz
    · cases hv : tupGuardF (.ref a) (c, default) with
      | false => rfl
      | true => exact absurd (List.any_eq_true.mpr ⟨c, hm, hv⟩) hw
    · have k := h u tk
      rwa [if_neg hw] at k
end
end PySem
namespace GV
open PySem PySem.Spec PyProof.Rows L2
/-- a row of texts and ints, and their reprs -/
inductive FlatRow : List V → List Str → Prop
  | nil : FlatRow [] []
  | str {x : Str} {vs : List V} {ts : List Str} (h : (reprText x).length ≤ sizeLine) (r : FlatRow vs ts) : FlatRow (.str x :: vs) (reprText x :: ts)
  | int {i : Int} {vs : List V} {ts : List Str} (h : i.natAbs.log2 < 1920) (r : FlatRow vs ts) : FlatRow (.int i :: vs) ((toString i : String) :: ts)
theorem FlatRow.all {prog : Program} {w : World} : ∀ {vs : List V} {ts : List Str} {us : List Value}, FlatRow vs ts → Vals vs us → ReprAll prog w us ts
  | _, _, _, .nil, .nil => .nil
  | _, _, _, .str h r, .cons rx rt => by
    obtain ⟨t, rfl⟩ := rx
    exact .cons (ReprIs.str _ t h) (r.all rt)
  | _, _, _, .int h r, .cons rx rt => by
    obtain ⟨t, rfl⟩ := rx
    exact .cons (ReprIs.int t h) (r.all rt)
/-- what repr gives where G is under way -/
inductive RepH (G : List Code) (H : Hp) : V → Str → Prop
  | non : RepH G H .non "None"
  | bl (b : Bool) : RepH G H (.bl b) (if b then ("True" : Str) else ("False" : Str))
  | int {i : Int} (h : i.natAbs.log2 < 1920) : RepH G H (.int i) (toString i)
  | str {x : Str} (h : (reprText x).length ≤ sizeLine) : RepH G H (.str x) (reprText x)
  | lst {a : Addr} {x : V} {vs : List V} {ts : List Str} (e : H a = some (.lst (x :: vs))) (f : FlatRow (x :: vs) ts) (h2 : (listText ts).length ≤ sizeLine) : RepH G H (.ref a) (if (G.any fun c => gvLstWay (.ref a) (c, default)) = true then "[...]" else listText ts)
  | tup {a : Addr} {vs : List V} {ts : List Str} (e : H a = some (.tup vs)) (f : FlatRow vs ts) (h2 : (tupleText ts).length ≤ sizeLine) : RepH G H (.ref a) (if (G.any fun c => tupGuardF (.ref a) (c, default)) = true then "(...)" else tupleText ts)
  | dict {a : Addr} (e : H a = some (.dK [])) : RepH G H (.ref a) (if (G.any fun c => dictGuardF (.ref a) (c, default)) = true then "{...}" else "{}")
theorem RepH.ext {G : List Code} {H H' : Hp} {v : V} {T : Str} (r : RepH G H v T) (x : Evl.Ex H H') : RepH G H' v T := by
  cases r with
  | non => exact .non
  | bl b => exact .bl b
  | int h => exact .int h
  | str h => exact .str h
  | lst e f h2 => exact .lst (x _ _ e) f h2
  | tup e f h2 => exact .tup (x _ _ e) f h2
  | dict e => exact .dict (x _ _ e)
section
variable {X : Cx} {σ : St} {H : Hp} {e : Expr} {pos : Pos}
theorem call_reprH {G : List Code} (hG : X.A.guards = some G) (hu : X.A.units + 2 < cLine) : CallR X (.builtin "repr") (fun xs H Q => ∃ v T, xs = [v] ∧ RepH G H v T ∧ Q (.str T) H) := by
  intro pins s σ H xs us Q I r h
  obtain ⟨v, T, rfl, rp, q⟩ := h
  obtain ⟨u, rfl, rv⟩ := vals1 r
  cases rp with
  | non =>
    cases rv
    exact P.repr_of_none ⟨.str _, H, I.tok _, ⟨_, rfl⟩, q⟩
  | bl b =>
    cases rv
    exact P.repr_of_bool ⟨.str _, H, I.tok _, ⟨_, rfl⟩, q⟩
  | int hi =>
    obtain ⟨t, rfl⟩ := rv
    exact P.repr_of_int hi ⟨.str _, H, I.tok _, ⟨_, rfl⟩, q⟩
  | str hx =>
    obtain ⟨t, rfl⟩ := rv
    exact P.repr_of_str ⟨.str _, H, I.tok _, ⟨_, rfl⟩, q⟩ hx
  | lst e f h2 =>
    rename_i a x vs ts
    cases (show u = Value.ref a from rv)
    obtain ⟨_, its, n, rw1, e2⟩ := I.hok a _ e
    obtain ⟨y, its', rfl, r1, r2⟩ : ∃ y its', its = y :: its' ∧ RelV x y ∧ Vals vs its' := by
      cases rw1 with
      | cons r1 r2 => exact ⟨_, _, rfl, r1, r2⟩
    exact gv_repr_lstA (by omega) hG e2 rfl rfl (f.all (.cons r1 r2)) h2 fun h' u tk hk => ⟨.str _, H, I.kept hk, ⟨_, rfl⟩, q⟩
  | tup e f h2 =>
    rename_i a vs ts
    cases (show u = Value.ref a from rv)
    obtain ⟨_, its, rw1, o, e2, hc, n, hd⟩ := I.hok a _ e
    exact gv_repr_tupA (by omega) hG e2 hc hd (f.all rw1) h2 fun u tk => ⟨.str _, H, I.tok _, ⟨_, rfl⟩, q⟩
  | dict e =>
    rename_i a
    cases (show u = Value.ref a from rv)
    obtain ⟨_, hs, vs, kv, o, es, ep, e2, hx, hd, _, hp, _⟩ := I.hok a _ e
    cases kv
    obtain ⟨l⟩ := es
    cases hp
    exact gv_repr_dict0 hu hG e2 hx.1 hd hs fun u tk => ⟨.str _, H, I.tok _, ⟨_, rfl⟩, q⟩
theorem ce_reprH {G : List Code} {p : Pos} {Q : VK} (hG : X.A.guards = some G) (hu : X.A.units + 2 < cLine) (hg : Gl X "repr") (hm : X.mg "repr" = none) (h : wE X e σ H fun v H1 => ∃ T, RepH G H1 v T ∧ Q (.str T) H1)
    (hs : starEach (e :: []) X.env = (false, eval e X.env) :: starEach [] X.env := by rfl) (hpl : (backTo pos (starEach [] X.env)).any (·.1) = false := by rfl) : wE X (.Call (.Name "repr" p) [e] [] pos) σ H Q :=
  ⟨_, pe_callB (call_reprH hG hu) hg hm (by decide +kernel) wA.pa (by decide) (by decide) hs hpl, ca_cons (wE.weak h fun v H1 ⟨T, r, q⟩ => ca_nil ⟨v, T, rfl, r, q⟩) hs⟩
end
end GV

namespace AK
open PySem PySem.Spec PyProof.Rows L2 GV
/-- an error of the program, as except and isinstance see it -/
structure EAt (K : PySem.W.Frag) (mg : Str → Option Value) (nm at_ : Str) (C CM : Addr) : Prop where
  g : mg nm = some (.ref C)
  ec : ExcC K C
  xf : XfC K C
  nA : PySem.W.findIn K (.ref C) at_ = some none
  ee : PySem.W.exmOne K (.ref C) (.ref C) = some true
  em : PySem.W.exmOne K (.ref C) (.ref CM) = some true
  kE : PySem.W.kitOne K (.ref C) (.ref C) = some true
  kM : PySem.W.kitOne K (.ref C) (.ref CM) = some true
  kV : PySem.W.kitOne K (.ref C) (.type "ValueError") = some true
structure Ers (K : PySem.W.Frag) (mg : Str → Option Value) (CE CN CT CM : Addr) : Prop where
  H : EAt K mg "InvalidHouse" "house" CE CM
  N : EAt K mg "InvalidNumber" "number" CN CM
  gT : mg "InvalidText" = some (.ref CT)
  gM : mg "MillError" = some (.ref CM)
  gV : mg "ValueError" = none
  hN : PySem.W.kitOne K (.ref CE) (.ref CN) = some false
  hT : PySem.W.kitOne K (.ref CE) (.ref CT) = some false
  nH : PySem.W.kitOne K (.ref CN) (.ref CE) = some false
  nT : PySem.W.kitOne K (.ref CN) (.ref CT) = some false
section
variable {X : Cx} {M : Addr → Prop} {CH CE : Addr} {σ : St} {H H' : Hp} {a b e o : Expr} {n m : Nat} {pos : Pos}
theorem ce_ixV {i j : Nat} {x : Str} {q : Addr} {vs : List V} {v : V} {t} {p p2 : Pos} {Q : VK} (hq : H q = some (.tup vs)) (hv : vs[j]? = some v) (h : Q v H) (hN : X.N[i]? = some x := by rfl) (hvis : Vis X.env.scope x := by first | exact .inl rfl | exact .inr (.inl rfl) | exact .inr (.inr rfl))
    (hs : σ[i]? = some (some (.ref q)) := by rfl) (hdb : (x == ("__debug__" : Str)) = false := by decide) (hcd : (x == ("__classdict__" : Str)) = false := by decide) : wE X (.Subscript (.Name x p) (.Constant (.int (j : Nat)) t p2) pos) σ H Q :=
  ce_ix (ce_nm i ⟨_, pe_int, .inr (.inl ⟨q, vs, (j : Nat), v, rfl, rfl, SqT.of hq, atI_nat hv, h⟩)⟩ hN hvis hs hdb hcd)
theorem pd_ixV {i j : Nat} {x : Str} {q : Addr} {vs : List V} {v : V} {d : PyData} {t} {p p2 : Pos} (hq : H q = some (.tup vs)) (hv : vs[j]? = some v) (r : Rp X.K M0 H v d) (hN : X.N[i]? = some x := by rfl) (hvis : Vis X.env.scope x := by first | exact .inl rfl | exact .inr (.inl rfl) | exact .inr (.inr rfl))
    (hs : σ[i]? = some (some (.ref q)) := by rfl) (hdb : (x == ("__debug__" : Str)) = false := by decide) (hcd : (x == ("__classdict__" : Str)) = false := by decide) : PD X M0 (.Subscript (.Name x p) (.Constant (.int (j : Nat)) t p2) pos) σ H d :=
  .mk fun H1 e1 al Q q1 => ce_ixV (e1 _ _ hq (fun z => z) fun _ z => by cases z) hv (q1 v H1 (Evl.Ex.refl H1) (r.mono (fun _ z => z) e1)) hN hvis hs hdb hcd
theorem hd_ixV {i j : Nat} {x : Str} {q h : Addr} {vs : List V} {t} {p p2 : Pos} (hq : H q = some (.tup vs)) (hv : vs[j]? = some (.ref h)) (r : HAt CH n H h) (hN : X.N[i]? = some x := by rfl) (hvis : Vis X.env.scope x := by first | exact .inl rfl | exact .inr (.inl rfl) | exact .inr (.inr rfl))
    (hs : σ[i]? = some (some (.ref q)) := by rfl) (hdb : (x == ("__debug__" : Str)) = false := by decide) (hcd : (x == ("__classdict__" : Str)) = false := by decide) : HD X CH (.Subscript (.Name x p) (.Constant (.int (j : Nat)) t p2) pos) σ H n :=
  ⟨fun H1 e1 Q q1 => ce_ixV (e1 _ _ hq (fun z => z) fun _ z => by cases z) hv (q1 h H1 (Evl.Ex.refl H1) (r.m0 e1)) hN hvis hs hdb hcd⟩
theorem ce_eqSc {Q : VK} (h : wE X a σ H fun x H2 => wE X b σ H2 fun y H3 => scal x y = true ∧ Q (.bl (decide (x = y))) H3) : wE X (.Compare a [.Eq] [b] pos) σ H Q := ⟨_, pe_cmpR op_eq wE.pe wE.pe (nomark _), h⟩
end
/-- what is told of a house that was made, or of one that was refused -/
abbrev toMade (CH : Addr) (n : Nat) (H : Hp) (Q : VK) : Prop := ∀ p k H', Evl.Ex H H' → H' p = some (.tup [.bl true, .ref k, .bl true]) → HAt CH n H' k → Q (.ref p) H'
abbrev toNot (T : Str) (H : Hp) (Q : VK) : Prop := ∀ p H', Evl.Ex H H' → H' p = some (.tup [.bl false, .str T, .bl true]) → Q (.ref p) H'
def spMd (G : List Code) (K : PySem.W.Frag) (CH : Addr) : Sp := fun vs H Q _ => ∃ v, vs = [v] ∧ ((∃ n, v = .str (txN n) ∧ 1 ≤ n ∧ n < 64 ∧ toMade CH n H Q) ∨ (BadT K H v ∧ ∃ T, RepH G H v T ∧ toNot T H Q))
def spNd (G : List Code) (K : PySem.W.Frag) (CH : Addr) : Sp := fun vs H Q _ => ∃ v, vs = [v] ∧ ((∃ n : Nat, v = .int (n : Nat) ∧ 1 ≤ n ∧ n < 64 ∧ toMade CH n H Q) ∨ (BadN K H 1 63 v ∧ ∃ T, RepH G H v T ∧ toNot T H Q))
def spBB (K : PySem.W.Frag) : Sp := fun vs H Q _ => ∃ v, vs = [v] ∧ BadT K H v ∧ ∀ H', Evl.Ex H H' → Q (.bl true) H'
section
variable {P : Program} {w : World} {K : PySem.W.Frag} {mg : Str → Option Value} {base : Heap} {CH CE CN CT CM : Addr}
theorem cl_law_made {G : List Code} {f : Addr} {fd : FuncData} (F : At K mg "_law_made" s_law_made f fd) (L : Hou P w K mg base CH CE CN) (Ei : Ers K mg CE CN CT CM) : ClG G P w K mg base 6 "_law_made" (spMd G K CH) := by
  refine ⟨f, fd, _, okG F.fn sc_law_made (fun vs H Q E h => ?_) (fun cdv A outer sh H vs Q E hG hr h => ?_), F.gl, F.fn.kp, F.fn.binds fun _ _ _ _ _ _ us hl => match us, hl with | [_], _ => rfl⟩
  · obtain ⟨v, rfl, _⟩ := h
    rfl
  obtain ⟨v, rfl, h⟩ := h
  have nb := L.nb
  have hGX : (A.deeper (envOfC "_law_made" (defScope s_law_made) sh.heap.objs.size f cdv)).guards = some G := hG
  refine b_cons (s_try (Wout := fun _ _ _ _ => False) rfl rfl sc_law_made.nd takes0 (.as_ (i := 2) ⟨rfl, by decide, .inl Ei.H.g⟩ rfl rfl (fun a oe cls d pn hz hd => psW hz hd) .nil) fun pn xe tk => ?_)
  rcases h with ⟨n, rfl, n1, n2, q⟩ | ⟨bad, T, rp, q⟩
  · refine b_cons (cs_set (i := 1) sc_law_made.nd rfl (.inl rfl) (ce_houseE L.mkH L.gH hr (by decide) rfl n1 n2 (nm 0 (.str (txN n))) fun k H2 _ x2 hk => b_nil ?_))
    refine b_cons (cs_ret (ce_tup (ca_cons (ce_blC (ca_cons (ce_nm 1 (ca_cons (ce_blC (ca_nil ⟨(by show 3 ≤ 1000; decide), fun p hp => ?_⟩)))))))))
    exact q p k _ (x2.trans (Evl.Ex.new hp)) upd_same (hk.ex' (Evl.Ex.new hp))
  · refine b_cons (cs_set (i := 1) sc_law_made.nd rfl (.inl rfl) (ce_houseB (W := _) L.mkB L.gH hr (by decide) rfl tk (ce_nm 0 ⟨bad, fun dd H2 hdd x2 h2 => ?_⟩)))
    refine ⟨true, Ei.H.ee, fun _ a ha hlt => ?_, fun z => by cases z⟩
    intro oe pn2 hz2 hd
    have hs : ∀ {H3 : Hp}, ExM M0 H2 H3 → H3 dd = some (.xd [("house", v)]) := fun e => e _ _ h2 (fun z => z) fun _ z => by cases z
    refine b_cons (s_set (M := M0) (i := 3) (d := .bool true) alive0 sc_law_made.nd rfl (.inl rfl) (pd_and (k1 := true) (k2 := true) (.mk fun H3 e3 al3 Q q3 => ⟨_, pe_callB (call_isEd Ei.H.ec hz2 hd) rfl nb.isinstance PyProof.Rows.boot_isinstance (pa_cons wE.pe (pa_cons (pe_bltn (v := .ty "ValueError") rfl Ei.gV (by decide +kernel) rfl) pa_nil)) (by decide) (by decide), ce_nm 2 ⟨hs e3, .ty "ValueError", .type "ValueError", true, rfl, fun u h => h, Ei.H.kV, q3 _ H3 (Evl.Ex.refl H3) (.bl true)⟩⟩) fun _ =>
      pd_one (pd_not (k := false) (.mk fun H3 e3 al3 Q q3 => ⟨_, pe_callB (call_isEdT Ei.H.ec hz2 hd) rfl nb.isinstance PyProof.Rows.boot_isinstance (pa_cons wE.pe (pa_cons (pe_tup (pa_cons (pe_glob rfl Ei.N.g (v := .ref CN) rfl (by decide)) (pa_cons (pe_glob rfl Ei.gT (v := .ref CT) rfl (by decide)) pa_nil))) pa_nil)) (by decide) (by decide), ce_nm 2 ⟨Evl.sz_of (by show 2 ≤ 100000; decide), fun t ht => ⟨t, CN, CT, false, rfl, hs (e3.trans (.of (Evl.Ex.new ht))), upd_same, kitAny_cons Ei.hN (fun _ => kitAny_cons Ei.hT (fun _ => kitAny_nil) fun z => by cases z) (fun z => by cases z), q3 _ _ (Evl.Ex.new ht) (.bl false)⟩⟩⟩))) fun v5 H5 x5 r5 => ?_)
    cases r5
    refine b_cons (cs_ret (ce_tup (ca_cons (ce_blC (ca_cons (ce_reprH hGX (Nat.lt_of_le_of_lt (Nat.add_le_add_left (by decide : 2 ≤ 64) _) hr.units) rfl L.mr (ce_xf Ei.H.xf Ei.H.nA hz2 hd (ce_nm 2 ⟨rfl, rfl, dd, _, v, rfl, hs (.of x5), rfl, T, rp.ext (x2.trans x5), ca_cons (ce_nm 3 (ca_nil ⟨(by show 3 ≤ 1000; decide), fun p hp => ?_⟩))⟩))))))))
    exact q p _ ((x2.trans x5).trans (Evl.Ex.new hp)) upd_same
theorem cl_law_by_base {f : Addr} {fd : FuncData} (F : At K mg "_law_by_base" s_law_by_base f fd) (L : Hou P w K mg base CH CE CN) (Ei : Ers K mg CE CN CT CM) : Cl P w K mg base CX0 6 "_law_by_base" (spBB K) := by
  refine ⟨f, fd, _, F.fn.ok sc_law_by_base (fun vs H Q E h => ?_) (fun cdv A outer s H vs Q E hr h => ⟨_, wB.ps, ?_⟩), F.gl, F.fn.kp, F.fn.binds fun _ _ _ _ _ _ us hl => match us, hl with | [_], _ => rfl⟩
  · obtain ⟨v, rfl, _⟩ := h
    rfl
  obtain ⟨v, rfl, bad, q⟩ := h
  have nb := L.nb
  refine b_cons (s_try (Wout := fun _ _ _ _ => False) rfl rfl sc_law_by_base.nd takes0 (.as_ (i := 2) ⟨rfl, by decide, .inl Ei.gM⟩ rfl rfl (fun a oe cls d pn hz hd => psW hz hd) .nil) fun pn xe tk => ?_)
  refine b_cons (cs_set (i := 1) sc_law_by_base.nd rfl (.inl rfl) (ce_houseB (W := _) L.mkB L.gH hr (by decide) rfl tk (ce_nm 0 ⟨bad, fun dd H2 hdd x2 h2 => ?_⟩)))
  refine ⟨true, Ei.H.em, fun _ a ha hlt => ?_, fun z => by cases z⟩
  intro oe pn2 hz2 hd
  exact b_cons (cs_ret ⟨_, pe_callB (call_isEd Ei.H.ec hz2 hd) rfl nb.isinstance PyProof.Rows.boot_isinstance (pa_cons wE.pe (pa_cons (pe_glob rfl Ei.H.g (v := .ref CE) rfl (by decide)) pa_nil)) (by decide) (by decide), ce_nm 2 ⟨h2, .ref CE, .ref CE, true, rfl, fun u h => h, Ei.H.kE, q H2 x2⟩⟩)
theorem cl_law_numbered {G : List Code} {f : Addr} {fd : FuncData} (F : At K mg "_law_numbered" s_law_numbered f fd) (L : Hou P w K mg base CH CE CN) (Ei : Ers K mg CE CN CT CM) : ClG G P w K mg base 6 "_law_numbered" (spNd G K CH) := by
  refine ⟨f, fd, _, okG F.fn sc_law_numbered (fun vs H Q E h => ?_) (fun cdv A outer sh H vs Q E hG hr h => ?_), F.gl, F.fn.kp, F.fn.binds fun _ _ _ _ _ _ us hl => match us, hl with | [_], _ => rfl⟩
  · obtain ⟨v, rfl, _⟩ := h
    rfl
  obtain ⟨v, rfl, h⟩ := h
  have nb := L.nb
  have hGX : (A.deeper (envOfC "_law_numbered" (defScope s_law_numbered) sh.heap.objs.size f cdv)).guards = some G := hG
  refine b_cons (s_try (Wout := fun _ _ _ _ => False) rfl rfl sc_law_numbered.nd takes0 (.as_ (i := 2) ⟨rfl, by decide, .inl Ei.N.g⟩ rfl rfl (fun a oe cls d pn hz hd => psW hz hd) .nil) fun pn xe tk => ?_)
  rcases h with ⟨n, rfl, n1, n2, q⟩ | ⟨bad, T, rp, q⟩
  · refine b_cons (cs_set (i := 1) sc_law_numbered.nd rfl (.inl rfl) (ce_clsX (W := _) L.by_ hr (by decide) (fun σ => passAt tk σ) rfl L.gH (ca_cons (ce_nm 0 (ca_nil ⟨_, rfl, .inl ⟨n, rfl, n1, n2, fun k H2 x2 hk => b_nil ?_⟩⟩)))))
    refine b_cons (cs_ret (ce_tup (ca_cons (ce_blC (ca_cons (ce_nm 1 (ca_cons (ce_blC (ca_nil ⟨(by show 3 ≤ 1000; decide), fun p hp => ?_⟩)))))))))
    exact q p k _ (x2.trans (Evl.Ex.new hp)) upd_same (hk.ex' (Evl.Ex.new hp))
  · refine b_cons (cs_set (i := 1) sc_law_numbered.nd rfl (.inl rfl) (ce_clsX (W := _) L.by_ hr (by decide) (fun σ => passAt tk σ) rfl L.gH (ca_cons (ce_nm 0 (ca_nil ⟨_, rfl, .inr ⟨bad, fun dd H2 hdd x2 h2 => ?_⟩⟩)))))
    refine ⟨true, Ei.N.ee, fun _ a ha hlt => ?_, fun z => by cases z⟩
    intro oe pn2 hz2 hd
    have hs : ∀ {H3 : Hp}, ExM M0 H2 H3 → H3 dd = some (.xd [("number", v)]) := fun e => e _ _ h2 (fun z => z) fun _ z => by cases z
    refine b_cons (s_set (M := M0) (i := 3) (d := .bool true) alive0 sc_law_numbered.nd rfl (.inl rfl) (pd_and (k1 := true) (k2 := true) (.mk fun H3 e3 al3 Q q3 => ⟨_, pe_callB (call_isEd Ei.N.ec hz2 hd) rfl nb.isinstance PyProof.Rows.boot_isinstance (pa_cons wE.pe (pa_cons (pe_glob rfl Ei.gM (v := .ref CM) rfl (by decide)) pa_nil)) (by decide) (by decide), ce_nm 2 ⟨hs e3, .ref CM, .ref CM, true, rfl, fun u h => h, Ei.N.kM, q3 _ H3 (Evl.Ex.refl H3) (.bl true)⟩⟩) fun _ =>
      pd_one (.mk fun H3 e3 al3 Q q3 => ⟨_, pe_callB (call_isEd Ei.N.ec hz2 hd) rfl nb.isinstance PyProof.Rows.boot_isinstance (pa_cons wE.pe (pa_cons (pe_bltn (v := .ty "ValueError") rfl Ei.gV (by decide +kernel) rfl) pa_nil)) (by decide) (by decide), ce_nm 2 ⟨hs e3, .ty "ValueError", .type "ValueError", true, rfl, fun u h => h, Ei.N.kV, q3 _ H3 (Evl.Ex.refl H3) (.bl true)⟩⟩)) fun v4 H4 x4 r4 => ?_)
    cases r4
    have hs4 : ∀ {H3 : Hp}, ExM M0 H4 H3 → H3 dd = some (.xd [("number", v)]) := fun e => hs ((ExM.of x4).trans e)
    refine b_cons (s_set (M := M0) (i := 3) (d := .bool true) alive0 sc_law_numbered.nd rfl (.inl rfl) (pd_and (k1 := true) (k2 := true) (nm 3 (.bl true)) fun _ =>
      pd_one (pd_not (k := false) (.mk fun H3 e3 al3 Q q3 => ⟨_, pe_callB (call_isEdT Ei.N.ec hz2 hd) rfl nb.isinstance PyProof.Rows.boot_isinstance (pa_cons wE.pe (pa_cons (pe_tup (pa_cons (pe_glob rfl Ei.H.g (v := .ref CE) rfl (by decide)) (pa_cons (pe_glob rfl Ei.gT (v := .ref CT) rfl (by decide)) pa_nil))) pa_nil)) (by decide) (by decide), ce_nm 2 ⟨Evl.sz_of (by show 2 ≤ 100000; decide), fun t ht => ⟨t, CE, CT, false, rfl, hs4 (e3.trans (.of (Evl.Ex.new ht))), upd_same, kitAny_cons Ei.nH (fun _ => kitAny_cons Ei.nT (fun _ => kitAny_nil) fun z => by cases z) (fun z => by cases z), q3 _ _ (Evl.Ex.new ht) (.bl false)⟩⟩⟩))) fun v5 H5 x5 r5 => ?_)
    cases r5
    refine b_cons (cs_ret (ce_tup (ca_cons (ce_blC (ca_cons (ce_reprH hGX (Nat.lt_of_le_of_lt (Nat.add_le_add_left (by decide : 2 ≤ 64) _) hr.units) rfl L.mr (ce_xf Ei.N.xf Ei.N.nA hz2 hd (ce_nm 2 ⟨rfl, rfl, dd, _, v, rfl, hs4 (.of x5), rfl, T, rp.ext ((x2.trans x4).trans x5), ca_cons (ce_nm 3 (ca_nil ⟨(by show 3 ≤ 1000; decide), fun p hp => ?_⟩))⟩))))))))
    exact q p _ (((x2.trans x4).trans x5).trans (Evl.Ex.new hp)) upd_same
end
end AK

namespace AK
open PySem PySem.Spec PyProof.Rows L2 GV
theorem tex_get {n : Nat} (n1 : 1 ≤ n) (n2 : n < 64) : texL[n - 1]? = some (txN n) ∧ ∀ m z, m < n - 1 → texL[m]? = some z → z ≠ txN n := by
  have h := all63 (p := fun n => 1 ≤ n → texL[n - 1]? = some (txN n) ∧ ((List.range 64).all fun m => !decide (m < n - 1) || !decide (texL[m]? = some (txN n))) = true) (by decide +kernel) n2
  obtain ⟨h1, h2⟩ := h n1
  refine ⟨h1, fun m z hm hz e => ?_⟩
  have q := List.all_eq_true.mp h2 m (List.mem_range.mpr (by omega))
  rw [e] at hz
  rw [decide_eq_true hm, decide_eq_true hz] at q
  cases q
theorem tex_mem {s : Str} : s ∈ texL ↔ ∃ n, 1 ≤ n ∧ n < 64 ∧ s = txN n := by
  unfold texL
  rw [List.mem_map]
  constructor
  · rintro ⟨i, hi, rfl⟩
    have := List.mem_range.mp hi
    exact ⟨i + 1, by omega, by omega, rfl⟩
  · rintro ⟨n, n1, n2, rfl⟩
    exact ⟨n - 1, List.mem_range.mpr (by omega), by rw [show n - 1 + 1 = n by omega]⟩
theorem tx0_no : decide (txN 0 ∈ texL) = false := by decide +kernel
theorem bad_str {K : PySem.W.Frag} {H : Hp} {v : V} (b : BadT K H v) : (∃ T, OddV K H v T ∧ kitB T "str" = some false) ∨ ∃ s, v = .str s ∧ decide (s ∈ texL) = false := by
  rcases b with (h | ⟨s, rfl, ns, _⟩) | rfl
  · exact .inl h
  · refine .inr ⟨s, rfl, decide_eq_false fun m => ?_⟩
    obtain ⟨n, _, n2, e⟩ := tex_mem.mp m
    exact ns n n2 e
  · exact .inr ⟨_, rfl, tx0_no⟩
theorem td_leLe {X : Cx} {M : Addr → Prop} {σ : St} {H : Hp} {a b c : Expr} {pos : Pos} {i j k : Int} (ha : PD X M a σ H (.int i)) (hb : PD X M b σ H (.int j)) (hc : PD X M c σ H (.int k)) (h1 : lastMarks [.LtE, .LtE] [b, c] = false := by with_unfolding_all rfl) : TD X M (.Compare a [.LtE, .LtE] [b, c] pos) σ H (decide (i ≤ j) && decide (j ≤ k)) := .mk fun H1 e1 al Q q =>
  ⟨_, pt_chain op_le op_le wE.pe wE.pe wE.pe h1, ha.run H1 e1 al _ fun x H2 x2 rx => hb.run H2 (e1.trans (.of x2)) (al.mono x2) _ fun y H3 x3 ry => by
    cases rx
    cases ry
    refine ⟨i, j, rfl, rfl, _, rfl, ?_⟩
    by_cases h : i ≤ j
    · rw [if_pos (decide_eq_true h)]
      refine hc.run H3 ((e1.trans (.of x2)).trans (.of x3)) ((al.mono x2).mono x3) _ fun z H4 x4 rz => ?_
      cases rz
      refine ⟨j, k, rfl, rfl, _, rfl, ?_⟩
      have := q H4 ((x2.trans x3).trans x4)
      rwa [decide_eq_true h] at this
    · rw [if_neg (by rw [decide_eq_false h]; exact Bool.false_ne_true)]
      have := q H3 (x2.trans x3)
      rw [decide_eq_false h, Bool.false_and] at this
      exact ⟨false, rfl, this⟩⟩
def spIM (G : List Code) (K : PySem.W.Frag) : Sp := fun vs H Q _ => ∃ v tv, vs = [v, tv] ∧ Rp K M0 H tv (strsD texL) ∧ ((∃ n, v = .str (txN n) ∧ 1 ≤ n ∧ n < 64) ∨ (BadT K H v ∧ ∃ T, RepH G H v T)) ∧ ∀ H', Evl.Ex H H' → Q (.bl true) H'
def spIB (G : List Code) (K : PySem.W.Frag) : Sp := fun vs H Q _ => ∃ v, vs = [v] ∧ ((∃ n : Nat, v = .int (n : Nat) ∧ 1 ≤ n ∧ n < 64) ∨ (BadN K H 1 63 v ∧ ∃ T, RepH G H v T)) ∧ ∀ H', Evl.Ex H H' → Q (.bl true) H'
section
variable {P : Program} {w : World} {K : PySem.W.Frag} {mg : Str → Option Value} {base : Heap} {CH CE CN CT CM : Addr}
theorem cl_law_is_made {G : List Code} {f : Addr} {fd : FuncData} (F : At K mg "_law_is_made" s_law_is_made f fd) (L : Hou P w K mg base CH CE CN) (cm : ClG G P w K mg base 6 "_law_made" (spMd G K CH)) (cb : Cl P w K mg base CX0 6 "_law_by_base" (spBB K)) (ch : Cl P w K mg base CX0 5 "_law_is_house" (spIH K CH)) (ck : Cl P w K mg base CX0 1 "_law_kinds" (FreshR K R_kinds)) : ClG G P w K mg base 7 "_law_is_made" (spIM G K) := by
  refine ⟨f, fd, _, okG F.fn sc_law_is_made (fun vs H Q E h => ?_) (fun cdv A outer sh H vs Q E hG hr h => ?_), F.gl, F.fn.kp, F.fn.binds fun _ _ _ _ _ _ us hl => match us, hl with | [_, _], _ => rfl⟩
  · obtain ⟨v, tv, rfl, _⟩ := h
    rfl
  obtain ⟨v, tv, rfl, rt, h, q⟩ := h
  have nb := L.nb
  have hGX : (A.deeper (envOfC "_law_is_made" (defScope s_law_is_made) sh.heap.objs.size f cdv)).guards = some G := hG
  rcases h with ⟨n, rfl, n1, n2⟩ | ⟨bad, T, rp⟩
  · refine b_cons (cs_set (i := 2) sc_law_is_made.nd rfl (.inl rfl) (ce_callG cm hGX hr (by decide) rfl (ca_cons (ce_nm 0 (ca_nil ⟨_, rfl, .inl ⟨n, rfl, n1, n2, fun p k H2 x2 hp hk => ?_⟩⟩)))))
    have r2 := rt.mono (fun _ z => z) (ExM.of x2)
    refine b_cons (s_if (M := M0) (k := true) alive0 (WD.td (wd_and (k1 := true) (k2 := true) (td_val (pd_isi rfl nb.isinstance rfl nb.str PyProof.Rows.boot_str (nm 0 (.str (txN n))) (by decide +kernel : kitB "str" "str" = some true))) fun _ => wd_and1 (TD.is (td_inS (nm 0 (.str (txN n))) (nm 1 r2)) (decide_eq_true (tex_mem.mpr ⟨n, n1, n2, rfl⟩))))) (fun _ H3 x3 => ?_) (fun k => by cases k))
    have r3 := r2.mono (fun _ z => z) (ExM.of x3)
    obtain ⟨g1, g2⟩ := tex_get n1 n2
    refine b_cons (s_ret (M := M0) (d := .bool true) alive0 (pd_and (k1 := true) (k2 := true) (pd_ixV (i := 2) (j := 0) (x3 _ _ hp) rfl (.bl true)) fun _ => pd_one (pd_isNamed ch hr (by decide) rfl (hd_ixV (i := 2) (j := 1) (x3 _ _ hp) rfl (hk.ex' x3)) n1 n2 (FD.pd (fd_callC ck hr (by decide) rfl (ad_cons (PD.is (pd_add (pd_indexS (ns := texL) (nm 1 r3) (nm 0 (.str (txN n))) g1 g2) pd_int) (congrArg PyData.int (show ((n - 1 : Nat) : Int) + 1 = (n : Nat) by omega))) ad_nil) ⟨n, rfl, rfl⟩)))) fun v4 H4 x4 r4 => ?_)
    cases r4
    exact q H4 ((x2.trans x3).trans x4)
  · refine b_cons (cs_set (i := 2) sc_law_is_made.nd rfl (.inl rfl) (ce_callG cm hGX hr (by decide) rfl (ca_cons (ce_nm 0 (ca_nil ⟨_, rfl, .inr ⟨bad, T, rp, fun p H2 x2 hp => ?_⟩⟩)))))
    have r2 := rt.mono (fun _ z => z) (ExM.of x2)
    have bad2 := bad.mono (.of x2)
    have rp2 := rp.ext x2
    have rest : ∀ H3, Evl.Ex H2 H3 → wB (cxOf CX0 P w K mg base n_law_is_made "_law_is_made" (defScope s_law_is_made) f cdv A outer sh H E).nox ((defBody s_law_is_made).drop 2) { nx := fun _ H' => Q .non H', rt := Q } [some v, some tv, some (.ref p)] H3 := by
      intro H3 x3
      have hp3 := x3 _ _ hp
      refine b_cons (cs_ret (ce_and (ce_notE (ce_ixV (i := 2) (j := 0) hp3 rfl ⟨false, rfl, true, rfl, (fun _ => ?_), fun z => by cases z⟩))))
      refine ce_and (ce_eqSc (ce_ixV (i := 2) (j := 1) hp3 rfl (ce_reprH hGX (Nat.lt_of_le_of_lt (Nat.add_le_add_left (by decide : 2 ≤ 64) _) hr.units) rfl L.mr (ce_nm 0 ⟨T, rp2.ext x3, rfl, true, ?_, (fun _ => ?_), fun z => by cases z⟩))))
      · rw [decide_eq_true rfl]
      refine ce_and (ce_ixV (i := 2) (j := 2) hp3 rfl ⟨true, rfl, (fun _ => ?_), fun z => by cases z⟩)
      exact ce_one (ce_call cb hr (by decide) rfl (ca_cons (ce_nm 0 (ca_nil ⟨v, rfl, bad2.mono (.of x3), fun H4 x4 => q H4 ((x2.trans x3).trans x4)⟩))))
    rcases bad_str bad2 with ⟨S, ov, hk⟩ | ⟨s, rfl, hs⟩
    · refine b_cons (cs_if (ct_w (cw_and (ct_val (ce_isiT rfl nb.isinstance rfl nb.str PyProof.Rows.boot_str (ce_nm 0 ⟨.type S, false, ov.tyX, kit_ty hk, false, rfl, (fun z => by cases z), fun _ => ?_⟩))))))
      rw [if_neg (by decide)]
      exact b_nil (rest H2 (Evl.Ex.refl H2))
    · exact b_cons (s_if (M := M0) (k := false) alive0 (WD.td (wd_and (k1 := true) (k2 := false) (td_val (pd_isi rfl nb.isinstance rfl nb.str PyProof.Rows.boot_str (nm 0 (.str s)) (by decide +kernel : kitB "str" "str" = some true))) fun _ => wd_and1 (TD.is (td_inS (nm 0 (.str s)) (nm 1 r2)) hs))) (fun k => by cases k) (fun _ H3 x3 => b_nil (rest H3 x3)))
theorem cl_law_is_numbered {G : List Code} {f : Addr} {fd : FuncData} (F : At K mg "_law_is_numbered" s_law_is_numbered f fd) (L : Hou P w K mg base CH CE CN) (cm : ClG G P w K mg base 6 "_law_numbered" (spNd G K CH)) (ch : Cl P w K mg base CX0 5 "_law_is_house" (spIH K CH)) (ck : Cl P w K mg base CX0 1 "_law_kinds" (FreshR K R_kinds)) : ClG G P w K mg base 7 "_law_is_numbered" (spIB G K) := by
  refine ⟨f, fd, _, okG F.fn sc_law_is_numbered (fun vs H Q E h => ?_) (fun cdv A outer sh H vs Q E hG hr h => ?_), F.gl, F.fn.kp, F.fn.binds fun _ _ _ _ _ _ us hl => match us, hl with | [_], _ => rfl⟩
  · obtain ⟨v, rfl, _⟩ := h
    rfl
  obtain ⟨v, rfl, h, q⟩ := h
  have nb := L.nb
  have hGX : (A.deeper (envOfC "_law_is_numbered" (defScope s_law_is_numbered) sh.heap.objs.size f cdv)).guards = some G := hG
  rcases h with ⟨n, rfl, n1, n2⟩ | ⟨bad, T, rp⟩
  · refine b_cons (cs_set (i := 1) sc_law_is_numbered.nd rfl (.inl rfl) (ce_callG cm hGX hr (by decide) rfl (ca_cons (ce_nm 0 (ca_nil ⟨_, rfl, .inl ⟨n, rfl, n1, n2, fun p k H2 x2 hp hk => ?_⟩⟩)))))
    have hb : (decide ((1 : Int) ≤ (n : Nat)) && decide (((n : Nat) : Int) ≤ 63)) = true := by
      rw [Bool.and_eq_true, decide_eq_true_eq, decide_eq_true_eq]
      omega
    refine b_cons (s_if (M := M0) (k := true) alive0 (WD.td (wd_and (k1 := true) (k2 := true) (td_val (PD.is (pd_isi rfl nb.isinstance rfl nb.int PyProof.Rows.boot_int (nm 0 (.int (n : Nat))) (kit_int _)) rfl)) fun _ => wd_and (k1 := true) (k2 := true) (td_not (k := false) (td_val (PD.is (pd_isi rfl nb.isinstance rfl nb.bool PyProof.Rows.boot_bool (nm 0 (.int (n : Nat))) (kit_bool _)) rfl))) fun _ => wd_and1 (TD.is (td_leLe pd_int (nm 0 (.int (n : Nat))) pd_int) hb))) (fun _ H3 x3 => ?_) (fun k => by cases k))
    refine b_cons (s_ret (M := M0) (d := .bool true) alive0 (pd_and (k1 := true) (k2 := true) (pd_ixV (i := 1) (j := 0) (x3 _ _ hp) rfl (.bl true)) fun _ => pd_one (pd_isNamed ch hr (by decide) rfl (hd_ixV (i := 1) (j := 1) (x3 _ _ hp) rfl (hk.ex' x3)) n1 n2 (FD.pd (fd_callC ck hr (by decide) rfl (ad_cons (nm 0 (.int (n : Nat))) ad_nil) ⟨n, rfl, rfl⟩)))) fun v4 H4 x4 r4 => ?_)
    cases r4
    exact q H4 ((x2.trans x3).trans x4)
  · refine b_cons (cs_set (i := 1) sc_law_is_numbered.nd rfl (.inl rfl) (ce_callG cm hGX hr (by decide) rfl (ca_cons (ce_nm 0 (ca_nil ⟨_, rfl, .inr ⟨bad, T, rp, fun p H2 x2 hp => ?_⟩⟩)))))
    have bad2 := bad.mono (.of x2)
    have rp2 := rp.ext x2
    have rest : ∀ H3, Evl.Ex H2 H3 → wB (cxOf CX0 P w K mg base n_law_is_numbered "_law_is_numbered" (defScope s_law_is_numbered) f cdv A outer sh H E).nox ((defBody s_law_is_numbered).drop 2) { nx := fun _ H' => Q .non H', rt := Q } [some v, some (.ref p)] H3 := by
      intro H3 x3
      have hp3 := x3 _ _ hp
      refine b_cons (cs_ret (ce_and (ce_notE (ce_ixV (i := 1) (j := 0) hp3 rfl ⟨false, rfl, true, rfl, (fun _ => ?_), fun z => by cases z⟩))))
      refine ce_and (ce_eqSc (ce_ixV (i := 1) (j := 1) hp3 rfl (ce_reprH hGX (Nat.lt_of_le_of_lt (Nat.add_le_add_left (by decide : 2 ≤ 64) _) hr.units) rfl L.mr (ce_nm 0 ⟨T, rp2.ext x3, rfl, true, ?_, (fun _ => ?_), fun z => by cases z⟩))))
      · rw [decide_eq_true rfl]
      exact ce_one (ce_ixV (i := 1) (j := 2) hp3 rfl (q H3 (x2.trans x3)))
    rcases bad2 with ⟨i, rfl, hi⟩ | ⟨S, k1, k2, ov, h1, h2, hk⟩
    · exact b_cons (s_if (M := M0) (k := false) alive0 (WD.td (wd_and (k1 := true) (k2 := false) (td_val (PD.is (pd_isi rfl nb.isinstance rfl nb.int PyProof.Rows.boot_int (nm 0 (.int i)) (kit_int _)) rfl)) fun _ => wd_and (k1 := true) (k2 := false) (td_not (k := false) (td_val (PD.is (pd_isi rfl nb.isinstance rfl nb.bool PyProof.Rows.boot_bool (nm 0 (.int i)) (kit_bool _)) rfl))) fun _ => wd_and1 (TD.is (td_leLe pd_int (nm 0 (.int i)) pd_int) hi))) (fun k => by cases k) (fun _ H3 x3 => b_nil (rest H3 x3)))
    · refine b_cons (cs_if (ct_w (cw_and (ct_val (ce_isiT rfl nb.isinstance rfl nb.int PyProof.Rows.boot_int (ce_nm 0 ⟨.type S, k1, ov.tyX, kit_ty h1, k1, rfl, (fun z => ?_), fun _ => ?_⟩))))))
      · subst z
        refine cw_and (ct_not (ct_val (ce_isiT rfl nb.isinstance rfl nb.bool PyProof.Rows.boot_bool (ce_nm 0 ⟨.type S, k2, ov.tyX, kit_ty h2, k2, rfl, (fun z => ?_), fun _ => ?_⟩))))
        · rw [z] at hk
          cases hk
        · rw [if_neg (by decide)]
          exact b_nil (rest H2 (Evl.Ex.refl H2))
      · rw [if_neg (by decide)]
        exact b_nil (rest H2 (Evl.Ex.refl H2))
end
end AK

/-! texts: parts, from the back, times an int -/
namespace GV
open PySem PySem.Spec PyProof.Rows L2
section
variable {X : Cx} {M : Addr → Prop} {σ : St} {H : Hp} {a b e : Expr} {pos : Pos}
theorem pd_cutS {lo hi : Option Expr} {l u : Option Int} {p2 : Pos} {z : Str} (h : PD X M e σ H (.str z)) (hl : OD X M lo σ H l) (hu : OD X M hi σ H u) (hz : z.length ≤ 100000) : PD X M (.Subscript e (.Slice lo hi none p2) pos) σ H (.str (cutS z l u)) := by
  obtain ⟨tl, pl, rl⟩ := hl.ex
  obtain ⟨tu, pu, ru⟩ := hu.ex
  refine .mk fun H1 e1 al Q q => ⟨_, pe_slice sl_str wE.pe pl pu, h.run H1 e1 al _ fun x H2 x2 r => ?_⟩
  cases r
  exact rl H2 (e1.trans (.of x2)) (al.mono x2) _ fun H3 x3 => ru H3 ((e1.trans (.of x2)).trans (.of x3)) ((al.mono x2).mono x3) _ fun H4 x4 => ⟨z, rfl, Evl.sz_of hz, q _ H4 (x2.trans (x3.trans x4)) (.str _)⟩
/-- a text from the back -/
def revS (z : Str) : Str := ⟨((Builtin.Str.strSliceIndices none none (-1) z.length).filterMap (z.cps[·]?)).toArray⟩
theorem ce_revS {k} {p1 p2 p3 : Pos} {Q : VK} (h : wE X e σ H fun x H1 => ∃ z : Str, x = .str z ∧ (revS z).length ≤ sizeLine ∧ Q (.str (revS z)) H1) : wE X (.Subscript e (.Slice none none (some (.UnaryOp .USub (.Constant (.int 1) k p1) p2)) p3) pos) σ H Q := by
  refine ⟨fun σ H Q => wE X e σ H fun x H1 => ∃ z : Str, x = .str z ∧ (revS z).length ≤ sizeLine ∧ Q (.str (revS z)) H1, ⟨fun pins s σ H Q I h => ?_⟩, h⟩
  refine Subscript_ (thn (wE.pe.run pins s σ H _ I h) fun v s1 ⟨x, H1, I1, r1, z, ex, hz, q⟩ => ?_)
  subst ex
  obtain ⟨t, rfl⟩ := r1
  have hst : PO X (some (.UnaryOp .USub (.Constant (.int 1) k p1) p2)) (tPart (tUn (rU fun i => .int (-i)) (tC (.int 1)))) := po_some (pe_un un_neg pe_int)
  refine wpAny_Slice (thn (po_none.run pins s1 σ H1 (fun o H2 => o = none ∧ H2 = H1) I1 ⟨rfl, rfl⟩) fun vl s2 ⟨l, H2, I2, pl, el, e2⟩ => ?_)
  subst el e2
  refine thn (po_none.run pins s2 σ H2 (fun o H3 => o = none ∧ H3 = H2) I2 ⟨rfl, rfl⟩) fun vu s3 ⟨u, H3, I3, pu, eu, e3⟩ => ?_
  subst eu e3
  refine thn (hst.run pins s3 σ H3 (fun o H4 => o = some (-1) ∧ H4 = H3) I3 ⟨1, rfl, -1, rfl, rfl, rfl⟩) fun vs s4 ⟨o, H4, I4, ps, eo, e4⟩ => ?_
  subst eo e4
  generalize hS : ({ s4 with heap := s4.heap.push { cls := .type "slice", data := .fields #[vl, vu, vs] } } : Shared) = S
  have I5 : Inv X pins σ H4 S := hS ▸ I4.kept (t' := s4.toks) fun b ob q => Heap.get?_push_of_some _ q
  have sl : S.heap.IsSliceOf s4.heap.objs.size vl vu vs := hS ▸ Heap.IsSliceOf.new _ vl vu vs
  refine tail_any (ops := [.str z t, .ref s4.heap.objs.size]) (typeIs_str S z t) (PySem.F.slot_str_getitem.lookup) ?_ (by with_unfolding_all rfl)
  obtain ⟨os, hos, hcs, hds⟩ := sl
  obtain ⟨l, rfl, hl⟩ := IsPart.raw pl
  obtain ⟨u, rfl, hu⟩ := IsPart.raw pu
  obtain ⟨st, rfl, hst⟩ := IsPart.raw ps
  refine wpAny_getItem_str_slice (l := l) (u := u) (st := st) ⟨os, hos, hcs, hds⟩ (by rw [hst]; rfl) ?_
  unfold sliceMade slicePicked
  rw [hl, hu, hst]
  show Made.post (if ((-1 : Int) == 1 && (Builtin.Str.strSliceIndices none none (-1) z.length).length == z.length) = true then Made.val (.str z t)
    else Made.str ⟨((Builtin.Str.strSliceIndices none none (-1) z.length).filterMap (z.cps[·]?)).toArray⟩) (EP X pins σ Q) S
  rw [if_neg (by rw [show ((-1 : Int) == 1) = false from rfl, Bool.false_and]; exact Bool.false_ne_true)]
  exact ⟨hz, .str _, H4, I5.tok _, ⟨_, rfl⟩, q⟩
/-- a text again and again -/
def repS (z : Str) (n : Nat) : Str := ⟨(List.replicate n z.cps).foldl (· ++ ·) #[]⟩
theorem op_repS : OpR X (binaryOp .Mult) (fun x y H Q => ∃ (z : Str) (n : Nat), x = .str z ∧ y = .int (n : Nat) ∧ 2 ≤ n ∧ 1 ≤ z.length ∧ z.length * n ≤ 100000 ∧ (repS z n).length ≤ 100000 ∧ Q (.str (repS z n)) H) := by
  intro pins s σ H x y v u Q I rx ry ⟨z, n, ex, ey, n2, z1, hz, hl, q⟩
  subst ex ey
  obtain ⟨t, rfl⟩ := rx
  obtain ⟨t', rfl⟩ := ry
  have hn : n ≤ 100000 := Nat.le_trans (Nat.le_mul_of_pos_left n z1) hz
  have ez : (((n : Nat) : Int) == 1 || z.length == 0) = false := by
    rw [Bool.or_eq_false_iff, beq_eq_false_iff_ne, beq_eq_false_iff_ne]
    omega
  refine PySem.P.mul_str ?_ (fun _ _ => ?_) (fun _ _ => ?_) ?_
  · rw [Bool.or_eq_false_iff, decide_eq_false_iff_not, decide_eq_false_iff_not]
    omega
  · have h1 : ((z.length : Nat) : Int) ≤ ((2 : Int) ^ 63 - 1) / ((n : Nat) : Int) := by
      rw [Int.le_ediv_iff_mul_le (by omega)]
      have h2 : ((z.length : Nat) : Int) * ((n : Nat) : Int) = ((z.length * n : Nat) : Int) := by rw [Int.natCast_mul]
      rw [h2]
      omega
    omega
  · rw [Int.toNat_natCast]
    unfold Builtin.Str.tooLong
    have := Evl.sz_of hz
    exact decide_eq_false (by omega)
  · rw [if_neg (by omega), ez, if_neg (by decide), Int.toNat_natCast]
    exact ⟨Evl.sz_of hl, .str _, H, I.tok _, ⟨_, rfl⟩, q⟩
theorem ce_repS {Q : VK} (h : wE X a σ H fun x H2 => wE X b σ H2 fun y H3 => ∃ (z : Str) (n : Nat), x = .str z ∧ y = .int (n : Nat) ∧ 2 ≤ n ∧ 1 ≤ z.length ∧ z.length * n ≤ 100000 ∧ (repS z n).length ≤ 100000 ∧ Q (.str (repS z n)) H3) : wE X (.BinOp a .Mult b pos) σ H Q := ce_bin op_repS h
theorem ce_addSc {Q : VK} (h : wE X a σ H fun x H2 => wE X b σ H2 fun y H3 => ∃ i j : Str, x = .str i ∧ y = .str j ∧ i.length + j.length ≤ 100000 ∧ Q (.str (i ++ j)) H3) : wE X (.BinOp a .Add b pos) σ H Q :=
  ce_bin op_add_str (wE.weak h fun x H2 h2 => wE.weak h2 fun y H3 ⟨i, j, e1, e2, hz, q⟩ => ⟨i, j, e1, e2, Evl.sz_of hz, q⟩)
end
end GV

namespace AK
open PySem PySem.Spec PyProof.Rows L2 GV
abbrev Ma (a : Addr) : Addr → Prop := fun x => x = a
theorem ExB.exM {a : Addr} {H H' : Hp} (e : ExB a H H') : ExM (Ma a) H H' := fun x o h n _ => e x o n h
theorem ExB.trE {a : Addr} {H H1 H2 : Hp} (e : ExB a H H1) (x : Evl.Ex H1 H2) : ExB a H H2 := e.trans (.of x)
theorem aliveB {a : Addr} {H : Hp} {r c k : Int} (h : H a = some (potL r c k)) : Alive (Ma a) H := fun x e => ⟨_, e ▸ h⟩
theorem pot_ins {r c k : Int} {C dx : Addr} {fs : List (Str × V)} (h : potL r c k = .ins C dx fs) : False := by
  unfold potL at h
  cases h
theorem HAt.exB {CH b h : Addr} {H H' : Hp} {n : Nat} {r c k : Int} (a : HAt CH n H h) (e : ExB b H H') (hb : H b = some (potL r c k)) : HAt CH n H' h := by
  obtain ⟨dx, e2⟩ := a
  refine ⟨dx, e h _ (fun q => ?_) e2⟩
  rw [q, hb] at e2
  exact pot_ins (Option.some.inj e2)
theorem ce_takeB {X : Cx} {σ : St} {H : Hp} {a : Addr} {r c k : Int} {e1 e2 : Expr} {p pos : Pos} {Q : VK} {j : Nat} {n : Int} (cd : Cl X.prog X.w X.K X.mg X.base CX0 1 "_law_take" spTake) (hr : Room j X.A) (hj : 1 ≤ j) (hg : Gl X "_law_take")
    (he : ∀ H1 (Q : VK), Q (.ref a) H1 → wE X e1 σ H1 Q) (hn : PD X (Ma a) e2 σ H (.int n)) (ha : H a = some (potL r c k)) (h0 : 0 < n) (h1 : n.natAbs < 2 ^ 8000)
    (q : ∀ z r' k' H', 0 ≤ z → z < n → ExB a H H' → H' a = some (potL r' c k') → Q (.int z) H')
    (hs : starEach (e1 :: [e2]) X.env = (false, eval e1 X.env) :: starEach [e2] X.env := by rfl) (hs2 : starEach (e2 :: []) X.env = (false, eval e2 X.env) :: starEach [] X.env := by rfl) (hpl : (backTo pos (starEach [e2] X.env)).any (·.1) = false := by rfl) : wE X (.Call (.Name "_law_take" p) [e1, e2] [] pos) σ H Q := by
  refine ce_call cd hr hj hg (ca_cons (he _ _ (ca_cons (ce_pd (aliveB ha) hn fun v H2 x2 r2 => ?_) hs2)) hs) (by decide) hs hpl
  cases r2
  exact ca_nil ⟨a, n, r, c, k, rfl, x2 _ _ ha, h0, h1, fun z r' k' H' z0 z1 e h => q z r' k' H' z0 z1 ((ExB.of x2).trans e) h⟩
/-- 1 + _law_take(e, 63) -/
theorem ce_oneT {X : Cx} {σ : St} {H : Hp} {a : Addr} {r c k : Int} {e1 : Expr} {p pos pos2 p3 p4 : Pos} {t3 t4} {Q : VK} {j : Nat} (cd : Cl X.prog X.w X.K X.mg X.base CX0 1 "_law_take" spTake) (hr : Room j X.A) (hj : 1 ≤ j) (hg : Gl X "_law_take")
    (he : ∀ H1 (Q : VK), Q (.ref a) H1 → wE X e1 σ H1 Q) (ha : H a = some (potL r c k))
    (q : ∀ (n : Nat) r' k' H', 1 ≤ n → n < 64 → ExB a H H' → H' a = some (potL r' c k') → Q (.int (n : Nat)) H')
    (hs : starEach (e1 :: [.Constant (.int 63) t4 p4]) X.env = (false, eval e1 X.env) :: starEach [.Constant (.int 63) t4 p4] X.env := by rfl) (hs2 : starEach (.Constant (.int 63) t4 p4 :: []) X.env = (false, eval (.Constant (.int 63) t4 p4) X.env) :: starEach [] X.env := by rfl) (hpl : (backTo pos (starEach [.Constant (.int 63) t4 p4] X.env)).any (·.1) = false := by rfl) :
    wE X (.BinOp (.Constant (.int 1) t3 p3) .Add (.Call (.Name "_law_take" p) [e1, .Constant (.int 63) t4 p4] [] pos) pos2) σ H Q := by
  refine ce_add (ce_pd alive0 pd_int fun v1 H1 x1 r1 => ce_takeB cd hr hj hg he pd_int (x1 _ _ ha) (by decide) (by decide +kernel) (fun z r2 k2 H2 z0 z1 e2 hb2 => ?_) hs hs2 hpl)
  cases r1
  refine ⟨1, z, rfl, rfl, ?_⟩
  have ez : 1 + z = ((1 + z.toNat : Nat) : Int) := by omega
  rw [ez]
  exact q _ r2 k2 H2 (by omega) (by omega) ((ExB.of x1).trans e2) hb2
theorem ne_pot {b a : Addr} {H : Hp} {r c k : Int} (hb : H b = some (potL r c k)) (ha : H a = none) : a ≠ b := fun e => by
  rw [e, hb] at ha
  cases ha
/-! ### all houses -/
def spEL (K : PySem.W.Frag) : Sp := fun vs H Q _ => ∃ tv, vs = [tv] ∧ Rp K M0 H tv (strsD texL) ∧ ∀ H', Evl.Ex H H' → Q (.bl true) H'
theorem dp_strs {K : PySem.W.Frag} {H : Hp} : ∀ l : List Str, DpAll K H (l.map V.str) (l.map PyData.str)
  | [] => .nil
  | x :: l => .cons (.str x) (dp_strs l)
theorem eqv_ord : PyData.eqv (.tuple (ordK.map PyData.str)) (.tuple (ordK.map PyData.str)) = true := by decide +kernel
section
variable {P : Program} {w : World} {K : PySem.W.Frag} {mg : Str → Option Value} {base : Heap} {CH CE CN CT CM : Addr}
theorem cl_law_is_every {f : Addr} {fd : FuncData} (F : At K mg "_law_is_every" s_law_is_every f fd) (L : Hou P w K mg base CH CE CN) (kk : KindsK K CH) (ci : Cl P w K mg base CX0 1 "_law_is_int" (PureR K R_num)) : Cl P w K mg base CX0 5 "_law_is_every" (spEL K) := by
  refine ⟨f, fd, _, F.fn.ok sc_law_is_every (fun vs H Q E h => ?_) (fun cdv A outer s H vs Q E hr h => ⟨_, wB.ps, ?_⟩), F.gl, F.fn.kp, F.fn.binds fun _ _ _ _ _ _ us hl => match us, hl with | [_], _ => rfl⟩
  · obtain ⟨tv, rfl, _⟩ := h
    rfl
  obtain ⟨tv, rfl, rt, q⟩ := h
  have nb := L.nb
  have B := L.B
  refine b_cons (s_forRW (slot := 1) PassesOwn.never rfl sc_law_is_every.nd rfl (.inl rfl) rfl nb.range (ce_intC ⟨2, fun i σ' H' => (∃ x1 x2 x3 x4, σ' = [some tv, x1, x2, x3, x4, none]) ∧ Evl.Ex H H', rfl, by decide, ⟨⟨_, _, _, _, rfl⟩, Evl.Ex.refl H⟩, ?_, ?_⟩))
  · rintro i σ' H1 hi ⟨⟨x1, x2, x3, x4, rfl⟩, e1⟩
    refine b_cons (cs_set (i := 2) sc_law_is_every.nd rfl (.inl rfl) (ce_stat0 L.ev hr (by decide) rfl L.gH ⟨rfl, fun l xs H2 hl y2 h2 hs => ?_⟩))
    have rt2 := rt.mono (fun _ z => z) (ExM.of (e1.trans y2))
    refine b_cons (cs_if (ct_w (cw_or (ct_not (ct_val (ce_isiT rfl nb.isinstance rfl nb.list PyProof.Rows.boot_list (ce_nm 2 ⟨.type "list", true, .base (.lst h2), kit_ty (by decide +kernel), true, rfl, (fun _ => ?_), fun z => by cases z⟩)))))))
    refine cw_or1 ⟨_, pt_cmpR (op_neD hr.units) wE.pe wE.pe (nomark _), ⟨_, pe_callB call_len_seq rfl nb.len PySem.boot_len wA.pa (by decide) (by decide), ca_cons (ce_nm 2 (ca_nil ⟨l, xs, rfl, .inl (SqL.of h2), ce_intC ⟨.int (xs.length : Nat), .int 63, .int _, .int _, rfl, rfl, _, rfl, ?_⟩⟩))⟩⟩
    rw [hs.1, show (!PyData.eqv (.int ((63 : Nat) : Int)) (.int 63)) = false by decide +kernel]
    show (if (false : Bool) = true then _ else _)
    rw [if_neg (by decide)]
    refine b_nil (b_cons (s_forRW (slot := 3) PassesOwn.never rfl sc_law_is_every.nd rfl (.inl rfl) rfl nb.range (ce_intC ⟨63, fun i σ' H' => (∃ x3 x4, σ' = [some tv, some (.int (_ : Nat)), some (.ref l), x3, x4, none]) ∧ Evl.Ex H2 H', rfl, by decide, ⟨⟨_, _, rfl⟩, Evl.Ex.refl H2⟩, ?_, ?_⟩)))
    · rintro j σ' H3 hj ⟨⟨x3, x4, rfl⟩, e3⟩
      obtain ⟨h, hx, ho⟩ := hs.2 j hj
      have ho3 := ho.ex' e3
      have rt3 := rt2.mono (fun _ z => z) (ExM.of e3)
      refine b_cons (cs_set (i := 4) sc_law_is_every.nd rfl (.inl rfl) (ce_ix (ce_nm 2 (ce_nm 3 (.inl ⟨l, xs, (j : Nat), .ref h, rfl, rfl, SqL.of (e3 _ _ h2), atI_nat hx, ?_⟩)))))
      refine b_cons (s_if (M := M0) (k := false) alive0 (TD.is (WD.td (wd_or (td_not (td_val (pd_isiH B rfl nb.isinstance rfl L.gH (hnm 4 ho3)))) fun _ => wd_or1 (td_not (td_val (pd_callC ci hr (by decide) rfl (ad_cons (pd_numH B (hnm 4 ho3)) (ad_cons (PD.is (pd_add (nm 3 (.int (j : Nat))) pd_int) (congrArg PyData.int (show ((j : Nat) : Int) + 1 = ((j + 1 : Nat) : Int) by omega))) ad_nil)) ⟨_, rfl, rfl⟩))))) rfl) (fun k => by cases k) (fun _ H4 x4' => b_nil ?_))
      have n2 : j + 1 < 64 := by omega
      obtain ⟨g1, _⟩ := tex_get (n := j + 1) (by omega) n2
      refine b_cons (s_if (M := M0) (k := false) alive0 (TD.is (td_ne hr.units (pd_txtH B (hnm 4 (ho3.ex' x4'))) (pd_ix (nm 0 (rt3.mono (fun _ z => z) (ExM.of x4'))) (nm 3 (.int (j : Nat))) (d := .str (txN (j + 1))) (ixD_list (by rw [List.getElem?_map, show texL[j]? = some (txN (j + 1)) from g1]; rfl))) (shaped_tx n2) (shaped_tx n2)) (by simp [PyData.eqv])) (fun k => by cases k) (fun _ H5 x5 => b_nil (b_nil ⟨⟨_, _, rfl⟩, (e3.trans x4').trans x5⟩)))
    · rintro σ' H3 ⟨⟨x3, x4, rfl⟩, e3⟩
      refine b_cons (cs_expr (ce_reverse (ce_nm 2 ⟨rfl, e3 _ _ h2, ?_⟩)))
      have ne : xs.reverse ≠ [] := fun z => by
        have z2 := congrArg List.length z
        rw [List.length_reverse, hs.1] at z2
        cases z2
      refine b_cons (cs_expr (ce_pop (xs := xs.reverse.dropLast) (y := xs.reverse.getLast ne) (ce_nm 2 ⟨rfl, ?_, ?_⟩)))
      · rw [List.dropLast_concat_getLast ne, upd_same]
      · exact b_nil ⟨⟨_, _, _, _, rfl⟩, ex_updN (ex_updN (e1.trans (y2.trans e3)) (Evl.fresh_back e1 hl)) (Evl.fresh_back e1 hl)⟩
  · rintro σ' H1 ⟨⟨x1, x2, x3, x4, rfl⟩, e1⟩
    obtain ⟨t, mc, r, cv, kt⟩ := kk.ex
    obtain ⟨ko, kits, kn, k1, k2, k3, k4, k5⟩ := id kt
    refine b_cons (cs_set (i := 5) sc_law_is_every.nd rfl (.inl rfl) (ce_tup (ca_cons (ce_str (ca_cons (ce_str (ca_cons (ce_str (ca_cons (ce_str (ca_cons (ce_str (ca_cons (ce_str (ca_nil ⟨(by show 6 ≤ 1000; decide), fun p hp => ?_⟩)))))))))))))))
    refine b_cons (cs_ret (ce_and (ce_isiT rfl nb.isinstance rfl nb.tuple PyProof.Rows.boot_tuple (ce_cval rfl L.gH r cv ⟨.type "tuple", true, .kTuple k1 k2, kit_ty (by decide +kernel), true, rfl, (fun _ => ?_), fun z => by cases z⟩))))
    refine ce_one (ce_eq hr.units (ce_cval rfl L.gH r cv (ce_nm 5 ⟨.tuple (ordK.map PyData.str), .tuple (ordK.map PyData.str), .tup (.inr ⟨ko, kits, kn, k1, k2, k3, k4, k5⟩) (dp_strs ordK), .tup (SqT.of upd_same) (dp_strs ordK), by decide +kernel, by decide +kernel, ?_⟩)))
    rw [eqv_ord]
    exact q _ (e1.trans (Evl.Ex.new hp))
end
end AK

namespace AK
open PySem PySem.Spec PyProof.Rows L2 GV
/-! ### bent texts -/
def Fit (L : Nat) (s : Str) : Prop := s.length ≤ L ∧ ∀ c ∈ s.cps.toList, c < 128
theorem Fit.le {a b : Nat} {s : Str} (f : Fit a s) (h : a ≤ b) : Fit b s := ⟨Nat.le_trans f.1 h, f.2⟩
theorem Fit.app {a b : Nat} {s t : Str} (f : Fit a s) (g : Fit b t) : Fit (a + b) (s ++ t) := by
  have e : (s ++ t).cps.toList = s.cps.toList ++ t.cps.toList := by rw [Str.cps_append, Array.toList_append]
  refine ⟨?_, fun c hc => ?_⟩
  · have l : (s ++ t).length = s.length + t.length := by
      show (s ++ t).cps.size = s.cps.size + t.cps.size
      rw [Str.cps_append, Array.size_append]
    rw [l]
    exact Nat.add_le_add f.1 g.1
  · rw [e] at hc
    rcases List.mem_append.mp hc with h | h
    · exact f.2 c h
    · exact g.2 c h
theorem Fit.cut {a : Nat} {s : Str} (f : Fit a s) (l u : Option Int) : Fit a (cutS s l u) := by
  unfold cutS
  refine ⟨?_, fun c hc => f.2 c (List.mem_of_mem_drop (List.mem_of_mem_take hc))⟩
  show (List.toArray _).size ≤ a
  rw [List.size_toArray, List.length_take, List.length_drop]
  have := f.1
  have e : s.cps.toList.length = s.length := by simp [Str.length]
  omega
theorem Fit.rep {a : Nat} {s : Str} (f : Fit a s) (n : Nat) : Fit (a * n) (repS s n) := by
  have key : ∀ (n : Nat) (acc : Array Nat), ((List.replicate n s.cps).foldl (· ++ ·) acc).size = acc.size + s.cps.size * n ∧ ((∀ c ∈ acc.toList, c < 128) → ∀ c ∈ ((List.replicate n s.cps).foldl (· ++ ·) acc).toList, c < 128) := by
    intro n
    induction n with
    | zero => exact fun acc => ⟨by simp, fun h => h⟩
    | succ n ih =>
      intro acc
      obtain ⟨h1, h2⟩ := ih (acc ++ s.cps)
      rw [List.replicate_succ, List.foldl_cons]
      refine ⟨?_, fun h => h2 fun c hc => ?_⟩
      · rw [h1, Array.size_append, Nat.mul_succ]
        omega
      · rw [Array.toList_append] at hc
        rcases List.mem_append.mp hc with z | z
        · exact h c z
        · exact f.2 c z
  obtain ⟨h1, h2⟩ := key n #[]
  refine ⟨?_, h2 fun c hc => by cases hc⟩
  show ((List.replicate n s.cps).foldl (· ++ ·) #[]).size ≤ a * n
  rw [h1]
  have : s.cps.size ≤ a := f.1
  have := Nat.mul_le_mul_right n this
  simp only [List.size_toArray, List.length_nil]
  omega
instance (L : Nat) (s : Str) : Decidable (Fit L s) := by unfold Fit; exact inferInstance
theorem fit_tx {n : Nat} (hn : n < 64) : Fit 7 (txN n) := all63 (p := fun n => Fit 7 (txN n)) (by decide +kernel) hn
theorem fit_rv {n : Nat} (hn : n < 64) : Fit 7 (revS (txN n)) := all63 (p := fun n => Fit 7 (revS (txN n))) (by decide +kernel) hn
theorem tx_pos {n : Nat} (hn : n < 64) : 1 ≤ (txN n).length := all63 (p := fun n => 1 ≤ (txN n).length) (by decide +kernel) hn
theorem fit_one {z : Str} {i : Int} {c : Nat} (h : atI z.cps.toList i = some c) (hz : ∀ c ∈ z.cps.toList, c < 128) : Fit 1 ⟨#[c]⟩ := by
  refine ⟨Nat.le_refl _, fun d hd => ?_⟩
  have : d = c := by simpa using hd
  subst this
  unfold atI at h
  obtain ⟨j, _, hj⟩ := Option.bind_eq_some_iff.mp h
  exact hz d (List.mem_of_getElem? hj)
/-- what a text of bounded signs is to House and to repr -/
theorem fit_made {G : List Code} {K : PySem.W.Frag} {H : Hp} {s : Str} (f : Fit 2200 s) : ((∃ n, V.str s = .str (txN n) ∧ 1 ≤ n ∧ n < 64) ∨ (BadT K H (.str s) ∧ ∃ T, RepH G H (.str s) T)) := by
  by_cases h : ∃ n, n < 64 ∧ s = txN n
  · obtain ⟨n, n2, rfl⟩ := h
    by_cases z : n = 0
    · subst z
      exact .inr ⟨.inr rfl, _, .str (Evl.sz_of (Nat.le_trans (len_rh (n := 0) (by decide)).2.2 (by decide)))⟩
    · exact .inl ⟨n, rfl, by omega, n2⟩
  · refine .inr ⟨.inl (.inr ⟨s, rfl, fun n hn e => h ⟨n, hn, e⟩, Evl.sz_of (Nat.le_trans f.1 (by decide))⟩), _, .str (Evl.sz_of ?_)⟩
    have := StrLaws.reprText_len s fun c hc => Nat.lt_trans (f.2 c hc) (by decide)
    have := f.1
    omega
def spSn : Sp := fun vs H Q _ => ∃ (b : Addr) (r c k : Int), vs = [.ref b] ∧ H b = some (potL r c k) ∧ ∀ s r' k' H', Fit 1 s → ExB b H H' → H' b = some (potL r' c k') → Q (.str s) H'
def spBe : Sp := fun vs H Q _ => ∃ (b : Addr) (r c k : Int) (n : Nat), vs = [.ref b, .str (txN n)] ∧ n < 64 ∧ H b = some (potL r c k) ∧ ∀ s r' k' H', Fit 2200 s → ExB b H H' → H' b = some (potL r' c k') → Q (.str s) H'
section
variable {P : Program} {w : World} {K : PySem.W.Frag} {mg : Str → Option Value} {base : Heap}
theorem cl_law_sign {f : Addr} {fd : FuncData} (F : At K mg "_law_sign" s_law_sign f fd) (cd : Cl P w K mg base CX0 1 "_law_take" spTake) : Cl P w K mg base CX0 2 "_law_sign" spSn := by
  refine ⟨f, fd, _, F.fn.ok sc_law_sign (fun vs H Q E h => ?_) (fun cdv A outer sh H vs Q E hr h => ⟨_, wB.ps, ?_⟩), F.gl, F.fn.kp, F.fn.binds fun _ _ _ _ _ _ us hl => match us, hl with | [_], _ => rfl⟩
  · obtain ⟨b, r, c, k, rfl, _⟩ := h
    rfl
  obtain ⟨b, r, c, k, rfl, hb, q⟩ := h
  have ixz : ∀ (z : Str) (i : Int), 0 ≤ i → i < z.length → ∃ c, atI z.cps.toList i = some c := fun z i h0 h1 => by
    have h2 : i.toNat < z.cps.toList.length := by
      rw [Array.length_toList]
      show i.toNat < z.length
      omega
    exact ⟨_, by rw [show i = ((i.toNat : Nat) : Int) by omega]; exact atI_nat (List.getElem?_eq_getElem h2)⟩
  refine b_cons (cs_if (ct_gt (ce_takeB cd hr (by decide) rfl (fun H1 Q hq => ce_nm 0 hq) pd_int hb (by decide) (by decide +kernel) fun z1 r1 k1 H1 z10 z11 e1 hb1 => ce_intC ⟨z1, 0, rfl, rfl, ?_⟩)))
  have fin : ∀ (z : Str) (m : Int) (i : Int) H2 r2 k2, 0 ≤ i → i < z.length → z.length ≤ 100 → (∀ c ∈ z.cps.toList, c < 128) → ExB b H H2 → H2 b = some (potL r2 c k2) → rIx K (.str z) (.int i) H2 Q := fun z m i H2 r2 k2 h0 h1 h2 h3 e2 hb2 => by
    obtain ⟨cc, hc⟩ := ixz z i h0 h1
    exact .inr (.inr ⟨z, i, cc, rfl, rfl, Evl.sz_of (by omega), hc, q _ _ _ H2 (fit_one hc h3) e2 hb2⟩)
  by_cases hz : 0 < z1
  · rw [decide_eq_true hz, if_pos rfl]
    exact b_cons (cs_ret (ce_ix (ce_str (ce_takeB cd hr (by decide) rfl (fun H1 Q hq => ce_nm 0 hq) pd_int hb1 (by decide) (by decide +kernel) fun z2 r2 k2 H2 z20 z21 e2 hb2 => fin _ 0 z2 H2 _ _ z20 (Int.lt_of_lt_of_le z21 (by decide +kernel)) (by decide +kernel) (by decide +kernel) (e1.trans e2) hb2))))
  · rw [decide_eq_false hz, if_neg (by decide)]
    exact b_nil (b_cons (cs_ret (ce_ix (ce_str (ce_takeB cd hr (by decide) rfl (fun H1 Q hq => ce_nm 0 hq) pd_int hb1 (by decide) (by decide +kernel) fun z2 r2 k2 H2 z20 z21 e2 hb2 => fin _ 0 z2 H2 _ _ z20 (Int.lt_of_lt_of_le z21 (by decide +kernel)) (by decide +kernel) (by decide +kernel) (e1.trans e2) hb2)))))
theorem cl_law_bent {f : Addr} {fd : FuncData} (F : At K mg "_law_bent" s_law_bent f fd) (nb : NoB mg) (cd : Cl P w K mg base CX0 1 "_law_take" spTake) (cs : Cl P w K mg base CX0 2 "_law_sign" spSn) : Cl P w K mg base CX0 3 "_law_bent" spBe := by
  refine ⟨f, fd, _, F.fn.ok sc_law_bent (fun vs H Q E h => ?_) (fun cdv A outer sh H vs Q E hr h => ⟨_, wB.ps, ?_⟩), F.gl, F.fn.kp, F.fn.binds fun _ _ _ _ _ _ us hl => match us, hl with | [_, _], _ => rfl⟩
  · obtain ⟨b, r, c, k, n, rfl, _⟩ := h
    rfl
  obtain ⟨b, r, c, k, n, rfl, n2, hb, q⟩ := h
  have ft := fit_tx n2
  have l7 : (txN n).length ≤ 7 := ft.1
  refine b_cons (cs_set (i := 2) sc_law_bent.nd rfl (.inl rfl) (ce_takeB cd hr (by decide) rfl (fun H1 Q hq => ce_nm 0 hq) pd_int hb (by decide) (by decide +kernel) fun wy r1 k1 H1 w0 w1 e1 hb1 => ?_))
  refine b_cons (cs_set (i := 3) sc_law_bent.nd rfl (.inl rfl) (ce_takeB (n := ((txN n).length : Nat) + 1) cd hr (by decide) rfl (fun H1 Q hq => ce_nm 0 hq) (pd_add (pd_len nb rfl (nm 1 (.str (txN n))) (n := (txN n).length) (show (if (txN n).length ≤ sizeLine then some (txN n).length else none) = _ by rw [if_pos (Evl.sz_of (by omega))])) pd_int) hb1 (by omega) ?_ fun at_ r2 k2 H2 a0 a1 e2 hb2 => ?_))
  · have : ((((txN n).length : Nat) : Int) + 1).natAbs ≤ 8 := by omega
    exact Nat.lt_of_le_of_lt this (by decide +kernel)
  refine b_cons (cs_set (i := 4) sc_law_bent.nd rfl (.inl rfl) (ce_call cs hr (by decide) rfl (ca_cons (ce_nm 0 (ca_nil ⟨b, r2, c, k2, rfl, hb2, fun sg r3 k3 H3 fs e3 hb3 => ?_⟩)))))
  have e13 := (e1.trans e2).trans e3
  have lo : ∀ {H' : Hp} {i : Int}, PD (cxOf CX0 P w K mg base n_law_bent "_law_bent" (defScope s_law_bent) f cdv A outer sh H E).nox M0 (.Name "at" ⟨0, 0, 0, 0⟩) [some (.ref b), some (.str (txN n)), some (.int wy), some (.int at_), some (.str sg), none, none] H' (.int at_) := nm 3 (.int at_)
  have ends : ∀ {s : Str} {v : V} {H' : Hp}, Fit 2200 s → Evl.Ex H3 H' → Rp K M0 H' v (.str s) → Q v H' := fun fs' x r => by
    cases r
    exact q _ _ _ _ fs' (e13.trE x) (x _ _ hb3)
  have ls : sg.length ≤ 1 := fs.1
  refine b_cons (s_if (M := M0) (k := decide (wy = 0)) alive0 (TD.is (td_eq hr.units (nm 2 (.int wy)) pd_int rfl rfl) (by rw [eqv_int])) (fun _ H4 x4 => ?_) (fun _ H4 x4 => b_nil ?_))
  · refine b_cons (s_ret (M := M0) alive0 (pd_addS (pd_addS (pd_cutS (nm 1 (.str (txN n))) od_none (od_some (nm 3 (.int at_))) (by omega)) (nm 4 (.str sg)) ?_) (pd_cutS (nm 1 (.str (txN n))) (od_some (nm 3 (.int at_))) od_none (by omega)) ?_) fun v H5 x5 r5 => ends ((((ft.cut none (some at_)).app fs).app (ft.cut (some at_) none)).le (by decide)) (x4.trans x5) r5)
    · have := (ft.cut none (some at_)).1
      omega
    · have := ((ft.cut none (some at_)).app fs).1
      have := (ft.cut (some at_) none).1
      omega
  refine b_cons (s_if (M := M0) (k := decide (wy = 1)) alive0 (TD.is (td_eq hr.units (nm 2 (.int wy)) pd_int rfl rfl) (by rw [eqv_int])) (fun _ H5 x5 => ?_) (fun _ H5 x5 => b_nil ?_))
  · refine b_cons (s_ret (M := M0) alive0 (pd_addS (pd_addS (pd_cutS (nm 1 (.str (txN n))) od_none (od_some (nm 3 (.int at_))) (by omega)) (nm 4 (.str sg)) ?_) (pd_cutS (nm 1 (.str (txN n))) (od_some (pd_add (nm 3 (.int at_)) pd_int)) od_none (by omega)) ?_) fun v H6 x6 r6 => ends ((((ft.cut none (some at_)).app fs).app (ft.cut (some (at_ + 1)) none)).le (by decide)) ((x4.trans x5).trans x6) r6)
    · have := (ft.cut none (some at_)).1
      omega
    · have := ((ft.cut none (some at_)).app fs).1
      have := (ft.cut (some (at_ + 1)) none).1
      omega
  refine b_cons (s_if (M := M0) (k := decide (wy = 2)) alive0 (TD.is (td_eq hr.units (nm 2 (.int wy)) pd_int rfl rfl) (by rw [eqv_int])) (fun _ H6 x6 => ?_) (fun _ H6 x6 => b_nil ?_))
  · refine b_cons (s_ret (M := M0) alive0 (pd_addS (pd_cutS (nm 1 (.str (txN n))) od_none (od_some (nm 3 (.int at_))) (by omega)) (pd_cutS (nm 1 (.str (txN n))) (od_some (pd_add (nm 3 (.int at_)) pd_int)) od_none (by omega)) ?_) fun v H7 x7 r7 => ends (((ft.cut none (some at_)).app (ft.cut (some (at_ + 1)) none)).le (by decide)) (((x4.trans x5).trans x6).trans x7) r7)
    have := (ft.cut none (some at_)).1
    have := (ft.cut (some (at_ + 1)) none).1
    omega
  refine b_cons (s_if (M := M0) (k := decide (wy = 3)) alive0 (TD.is (td_eq hr.units (nm 2 (.int wy)) pd_int rfl rfl) (by rw [eqv_int])) (fun _ H7 x7 => ?_) (fun _ H7 x7 => b_nil ?_))
  · exact b_cons (cs_ret (ce_revS (ce_nm 1 ⟨_, rfl, Evl.sz_of (Nat.le_trans (fit_rv n2).1 (by decide)), ends ((fit_rv n2).le (by decide)) (((x4.trans x5).trans x6).trans x7) (.str _)⟩)))
  refine b_cons (s_if (M := M0) (k := decide (wy = 4)) alive0 (TD.is (td_eq hr.units (nm 2 (.int wy)) pd_int rfl rfl) (by rw [eqv_int])) (fun _ H8 x8 => ?_) (fun _ H8 x8 => b_nil ?_))
  · refine b_cons (s_ret (M := M0) alive0 (pd_addS (pd_cutS (nm 1 (.str (txN n))) (od_some (nm 3 (.int at_))) od_none (by omega)) (pd_cutS (nm 1 (.str (txN n))) od_none (od_some (nm 3 (.int at_))) (by omega)) ?_) fun v H9 x9 r9 => ends (((ft.cut (some at_) none).app (ft.cut none (some at_))).le (by decide)) (((((x4.trans x5).trans x6).trans x7).trans x8).trans x9) r9)
    have := (ft.cut none (some at_)).1
    have := (ft.cut (some at_) none).1
    omega
  refine b_cons (s_if (M := M0) (k := decide (wy = 5)) alive0 (TD.is (td_eq hr.units (nm 2 (.int wy)) pd_int rfl rfl) (by rw [eqv_int])) (fun _ H9 x9 => ?_) (fun _ H9 x9 => b_nil ?_))
  · have x39 := ((((x4.trans x5).trans x6).trans x7).trans x8).trans x9
    refine b_cons (cs_ret (ce_repS (ce_nm 1 (ce_add (ce_intC (ce_takeB cd hr (by decide) rfl (fun H1 Q hq => ce_nm 0 hq) pd_int (x39 _ _ hb3) (by decide) (by decide +kernel) fun z r4 k4 HA z0 z1 eA hbA => ⟨2, z, rfl, rfl, txN n, 2 + z.toNat, rfl, by rw [show (2 : Int) + z = ((2 + z.toNat : Nat) : Int) by omega], by omega, tx_pos n2, ?_, ?_, ?_⟩))))))
    · have := Nat.mul_le_mul l7 (show 2 + z.toNat ≤ 301 by omega)
      omega
    · have h1 := (ft.rep (2 + z.toNat)).1
      have := Nat.mul_le_mul_left 7 (show 2 + z.toNat ≤ 301 by omega)
      omega
    · refine q _ _ _ _ ((ft.rep (2 + z.toNat)).le ?_) ((e13.trE x39).trans eA) hbA
      have := Nat.mul_le_mul_left 7 (show 2 + z.toNat ≤ 301 by omega)
      omega
  have x39 := ((((x4.trans x5).trans x6).trans x7).trans x8).trans x9
  refine b_cons (cs_set (i := 5) sc_law_bent.nd rfl (.inl rfl) (ce_str ?_))
  refine b_cons (s_forRW (slot := 6) PassesOwn.never rfl sc_law_bent.nd rfl (.inl rfl) rfl nb.range (ce_takeB cd hr (by decide) rfl (fun H1 Q hq => ce_nm 0 hq) pd_int (x39 _ _ hb3) (by decide) (by decide +kernel) fun z r4 k4 HA z0 z1 eA hbA => ?_))
  refine ⟨z.toNat, fun i σ' H' => (∃ wd x6, σ' = [some (.ref b), some (.str (txN n)), some (.int wy), some (.int at_), some (.str sg), some (.str wd), x6] ∧ Fit i wd) ∧ ExB b H H' ∧ ∃ r' k', H' b = some (potL r' c k'), by rw [Int.toNat_of_nonneg z0], by omega, ⟨⟨_, _, rfl, by decide +kernel⟩, (e13.trE x39).trans eA, _, _, hbA⟩, ?_, ?_⟩
  · rintro i σ' H' hi ⟨⟨wd, x6', rfl, fw⟩, eH, r5, k5, hb5⟩
    refine b_cons (cs_set (i := 5) sc_law_bent.nd rfl (.inl rfl) (ce_addSc (ce_nm 5 (ce_call cs hr (by decide) rfl (ca_cons (ce_nm 0 (ca_nil ⟨b, r5, c, k5, rfl, hb5, fun s2 r6 k6 HB fs2 eB hbB => ⟨wd, s2, rfl, rfl, ?_, ?_⟩⟩)))))))
    · have := fw.1
      have := fs2.1
      omega
    · exact b_nil ⟨⟨_, _, rfl, fw.app fs2⟩, eH.trans eB, _, _, hbB⟩
  · rintro σ' H' ⟨⟨wd, x6', rfl, fw⟩, eH, r5, k5, hb5⟩
    exact b_cons (cs_ret (ce_nm 5 (q _ _ _ _ (fw.le (by omega)) eH hb5)))
end
end AK

namespace AK
open PySem PySem.Spec PyProof.Rows L2 GV
/-! ### odd values -/
def OkV (K : PySem.W.Frag) (H : Hp) (v : V) : Prop := ∀ G, BadT K H v ∧ ∃ T, RepH G H v T
def OkN (K : PySem.W.Frag) (H : Hp) (v : V) : Prop := ∀ G, BadN K H 1 63 v ∧ ∃ T, RepH G H v T
theorem OkV.ext {K : PySem.W.Frag} {H H' : Hp} {v : V} (o : OkV K H v) (x : Evl.Ex H H') : OkV K H' v := fun G => let ⟨h, T, r⟩ := o G; ⟨h.mono (.of x), T, r.ext x⟩
theorem OkN.ext {K : PySem.W.Frag} {H H' : Hp} {v : V} (o : OkN K H v) (x : Evl.Ex H H') : OkN K H' v := fun G => let ⟨h, T, r⟩ := o G; ⟨h.mono (.of x), T, r.ext x⟩
theorem sz100 {n : Nat} (h : n ≤ 100) : n ≤ sizeLine := Evl.sz_of (Nat.le_trans h (by decide))
theorem ok_text {K : PySem.W.Frag} {H : Hp} {s : Str} (h : ((List.range 64).all fun n => !decide (s = txN n)) = true) (h1 : s.length ≤ 100 ∧ (reprText s).length ≤ 100) : OkV K H (.str s) := fun G => by
  refine ⟨.inl (.inr ⟨s, rfl, fun n hn e => ?_, sz100 h1.1⟩), _, .str (sz100 h1.2)⟩
  have := List.all_eq_true.mp h n (List.mem_range.mpr hn)
  rw [decide_eq_true e] at this
  cases this
section
variable {K : PySem.W.Frag} {H : Hp}
theorem ok_data {v : V} {d : PyData} (r : Rp K M0 H v d) (h : kitB (tyD d) "str" = some false) (rp : ∀ G, ∃ T, RepH G H v T) : OkV K H v := fun G => ⟨.inl (.inl ⟨_, .data r, h⟩), rp G⟩
theorem okn_data {v : V} {d : PyData} {k1 k2 : Bool} (r : Rp K M0 H v d) (h1 : kitB (tyD d) "int" = some k1) (h2 : kitB (tyD d) "bool" = some k2) (hk : (k1 && !k2) = false) (rp : ∀ G, ∃ T, RepH G H v T) : OkN K H v := fun G => ⟨.inr ⟨_, k1, k2, .data r, h1, h2, hk⟩, rp G⟩
theorem okn_int {i : Int} (h : (decide (1 ≤ i) && decide (i ≤ 63)) = false) (hl : i.natAbs.log2 < 1920) : OkN K H (.int i) := fun G => ⟨.inl ⟨i, rfl, h⟩, _, .int hl⟩
end
def spOT (K : PySem.W.Frag) (n : Int) (ok : Hp → V → Prop) : Sp := fun vs H Q _ => ∃ i : Int, vs = [.int i] ∧ 0 ≤ i ∧ i < n ∧ ∀ v H', Evl.Ex H H' → ok H' v → Q v H'
section
variable {P : Program} {w : World} {K : PySem.W.Frag} {mg : Str → Option Value} {base : Heap} {CH CE CN CT CM : Addr}
theorem at_of {xs : List V} {i : Int} {n : Nat} (h : xs.length = n) (h0 : 0 ≤ i) (h1 : i < (n : Nat)) : ∃ v, atI xs i = some v ∧ v ∈ xs := by
  have hi : i.toNat < xs.length := by omega
  obtain ⟨j, rfl⟩ : ∃ j : Nat, i = (j : Nat) := ⟨i.toNat, by omega⟩
  rw [Int.toNat_natCast] at hi
  exact ⟨xs[j], atI_nat (List.getElem?_eq_getElem hi), List.getElem_mem _⟩
theorem cl_law_odd_text {f : Addr} {fd : FuncData} (F : At K mg "_law_odd_text" s_law_odd_text f fd) : Cl P w K mg base CX0 1 "_law_odd_text" (spOT K 20 (OkV K)) := by
  refine ⟨f, fd, _, F.fn.ok sc_law_odd_text (fun vs H Q E h => ?_) (fun cdv A outer sh H vs Q E hr h => ⟨_, wB.ps, ?_⟩), F.gl, F.fn.kp, F.fn.binds fun _ _ _ _ _ _ us hl => match us, hl with | [_], _ => rfl⟩
  · obtain ⟨i, rfl, _⟩ := h
    rfl
  obtain ⟨i, rfl, i0, i1, q⟩ := h
  refine b_cons (cs_set (i := 1) sc_law_odd_text.nd rfl (.inl rfl) (ce_lst (ca_cons (ce_nonC (ca_cons (ce_intC (ca_cons (ce_intC (ca_cons (ce_intC (ca_cons (ce_blC (ca_cons (ce_blC (ca_cons (ce_lst (ca_cons (ce_str (ca_nil ⟨(by show 1 ≤ 1000; decide), fun pl hpl => ca_cons (ce_tup (ca_cons (ce_str (ca_nil ⟨(by show 1 ≤ 1000; decide), fun pt hpt => ca_cons (ce_tup (ca_cons (ce_str (ca_cons (ce_str (ca_nil ⟨(by show 2 ≤ 1000; decide), fun pu hpu => ca_cons (ce_dict0 fun pd hpd => ca_cons (ce_str (ca_cons (ce_str (ca_cons (ce_str (ca_cons (ce_str (ca_cons (ce_str (ca_nil ⟨(by show 15 ≤ 1000; decide), fun po hpo => ?_⟩)))))))))))⟩))))))⟩))))⟩)))))))))))))))))))
  have x4 := Evl.Ex.new hpd (o := .dK [])
  have x3 := (Evl.Ex.new hpu (o := .tup [.str "l", .str "-h"])).trans x4
  have x2 := (Evl.Ex.new hpt (o := .tup [.str "l-"])).trans x3
  have x1 := (Evl.Ex.new hpl (o := .lst [.str "l-"])).trans x2
  generalize hxs : ([.non, .int 0, .int 1, .int 33, .bl true, .bl false, .ref pl, .ref pt, .ref pu, .ref pd, .str "", .str "-", .str "--", .str "hl-", .str "ll-"] : List V) = xs at hpo ⊢
  have len : xs.length = 15 := by rw [← hxs]; rfl
  generalize hG : upd (upd (upd (upd H pl (.lst [.str "l-"])) pt (.tup [.str "l-"])) pu (.tup [.str "l", .str "-h"])) pd (.dK []) = HG at hpo x1 x2 x3 x4 ⊢
  have dl : HG pl = some (.lst [.str "l-"]) := x2 _ _ upd_same
  have dt : HG pt = some (.tup [.str "l-"]) := x3 _ _ upd_same
  have du : HG pu = some (.tup [.str "l", .str "-h"]) := x4 _ _ upd_same
  have dd : HG pd = some (.dK []) := hG ▸ upd_same
  have all1 : ∀ y ∈ xs, OkV K HG y := by
    rw [← hxs]
    exact fm_cons (ok_data .non (by decide +kernel) fun G => ⟨_, .non⟩) (fm_cons (ok_data (.int 0) (by decide +kernel) fun G => ⟨_, .int (by decide +kernel)⟩) (fm_cons (ok_data (.int 1) (by decide +kernel) fun G => ⟨_, .int (by decide +kernel)⟩) (fm_cons (ok_data (.int 33) (by decide +kernel) fun G => ⟨_, .int (by decide +kernel)⟩) (fm_cons (ok_data (.bl true) (by decide +kernel) fun G => ⟨_, .bl true⟩) (fm_cons (ok_data (.bl false) (by decide +kernel) fun G => ⟨_, .bl false⟩)
      (fm_cons (ok_data (.lst (ds := [.str "l-"]) (fun z => z) (.inl dl) (.cons (.str _) .nil)) (by decide +kernel) fun G => ⟨_, .lst dl (.str (sz100 (by decide +kernel)) .nil) (sz100 (by decide +kernel))⟩)
      (fm_cons (ok_data (.tup (ds := [.str "l-"]) (fun z => z) (.inl dt) (.cons (.str _) .nil)) (by decide +kernel) fun G => ⟨_, .tup dt (.str (sz100 (by decide +kernel)) .nil) (sz100 (by decide +kernel))⟩)
      (fm_cons (ok_data (.tup (ds := [.str "l", .str "-h"]) (fun z => z) (.inl du) (.cons (.str _) (.cons (.str _) .nil))) (by decide +kernel) fun G => ⟨_, .tup du (.str (sz100 (by decide +kernel)) (.str (sz100 (by decide +kernel)) .nil)) (sz100 (by decide +kernel))⟩)
      (fm_cons (fun G => ⟨.inl (.inl ⟨_, .dict dd, by decide +kernel⟩), _, .dict dd⟩)
      (fm_cons (ok_text (by decide +kernel) (by decide +kernel)) (fm_cons (fun G => ⟨.inr (congrArg V.str (by decide +kernel)), _, .str (sz100 (by decide +kernel))⟩) (fm_cons (ok_text (by decide +kernel) (by decide +kernel)) (fm_cons (ok_text (by decide +kernel) (by decide +kernel)) (fm_cons (ok_text (by decide +kernel) (by decide +kernel)) fm_nil))))))))))))))
  refine b_cons (cs_set (i := 1) sc_law_odd_text.nd rfl (.inl rfl) (ce_cat (ce_nm 1 (ce_lst (ca_cons (ce_str (ca_cons (ce_str (ca_cons (ce_str (ca_cons (ce_str (ca_cons (ce_str (ca_nil ⟨(by show 5 ≤ 1000; decide), fun pm hpm => ⟨po, pm, xs, _, rfl, rfl, Evl.Ex.new hpm _ _ upd_same, upd_same, (by rw [len]; show 15 + 5 ≤ 100000; decide), fun pc hpc => ?_⟩⟩)))))))))))))))
  have y1 := Evl.Ex.new hpo (o := .lst xs)
  have y2 := y1.trans (Evl.Ex.new hpm (o := .lst [.str "l-l-", .str "-hl", .str "L-H", .str " l-h", .str "l-h\n"]))
  have y3 := y2.trans (Evl.Ex.new hpc (o := .lst (xs ++ [.str "l-l-", .str "-hl", .str "L-H", .str " l-h", .str "l-h\n"])))
  obtain ⟨v, hv, hm⟩ := at_of (xs := xs ++ [.str "l-l-", .str "-hl", .str "L-H", .str " l-h", .str "l-h\n"]) (n := 20) (i := i) (by rw [List.length_append, len]; rfl) i0 i1
  refine b_cons (cs_ret (ce_ix (ce_nm 1 (ce_nm 0 (.inl ⟨pc, _, i, v, rfl, rfl, SqL.of upd_same, hv, q v _ (x1.trans y3) ?_⟩)))))
  rcases List.mem_append.mp hm with h | h
  · exact (all1 v h).ext y3
  · have all2 : ∀ y ∈ ([.str "l-l-", .str "-hl", .str "L-H", .str " l-h", .str "l-h\n"] : List V), OkV K HG y := fm_cons (ok_text (by decide +kernel) (by decide +kernel)) (fm_cons (ok_text (by decide +kernel) (by decide +kernel)) (fm_cons (ok_text (by decide +kernel) (by decide +kernel)) (fm_cons (ok_text (by decide +kernel) (by decide +kernel)) (fm_cons (ok_text (by decide +kernel) (by decide +kernel)) fm_nil))))
    exact (all2 v h).ext y3
theorem cl_law_odd_number {f : Addr} {fd : FuncData} (F : At K mg "_law_odd_number" s_law_odd_number f fd) : Cl P w K mg base CX0 1 "_law_odd_number" (spOT K 13 (OkN K)) := by
  refine ⟨f, fd, _, F.fn.ok sc_law_odd_number (fun vs H Q E h => ?_) (fun cdv A outer sh H vs Q E hr h => ⟨_, wB.ps, ?_⟩), F.gl, F.fn.kp, F.fn.binds fun _ _ _ _ _ _ us hl => match us, hl with | [_], _ => rfl⟩
  · obtain ⟨i, rfl, _⟩ := h
    rfl
  obtain ⟨i, rfl, i0, i1, q⟩ := h
  refine b_cons (cs_ret (ce_ix (ce_lst (ca_cons (ce_intC (ca_cons (ce_intC (ca_cons (ce_pd (M := M0) alive0 (pd_neg pd_int) fun w1 H1 y1 s1 => ca_cons (ce_pd (M := M0) alive0 (pd_neg pd_int) fun w2 H2 y2 s2 => ca_cons (ce_pd (M := M0) alive0 (pd_pow pd_int pd_int ⟨by decide, by decide, by decide⟩) fun w3 H3 y3 s3 => ca_cons (ce_blC (ca_cons (ce_blC (ca_cons (ce_nonC (ca_cons (ce_str (ca_cons (ce_str (ca_cons (ce_lst (ca_cons (ce_intC (ca_nil ⟨(by show 1 ≤ 1000; decide), fun pl hpl => ca_cons (ce_tup (ca_cons (ce_intC (ca_nil ⟨(by show 1 ≤ 1000; decide), fun pt hpt => ca_cons (ce_dict0 fun pd hpd => ca_nil ⟨(by show 13 ≤ 1000; decide), fun po hpo => ?_⟩)⟩))))⟩)))))))))))))))))))))))))
  cases s1
  cases s2
  cases s3
  have x4 := Evl.Ex.new hpd (o := .dK [])
  have x3 := (Evl.Ex.new hpt (o := .tup [.int 1])).trans x4
  have x2 := (Evl.Ex.new hpl (o := .lst [.int 1])).trans x3
  have x1 := ((y1.trans y2).trans y3).trans x2
  generalize hxs : ([.int 0, .int 64, .int (-1), .int (-63), .int (10 ^ (30 : Int).toNat), .bl true, .bl false, .non, .str "1", .str "l-", .ref pl, .ref pt, .ref pd] : List V) = xs at hpo ⊢
  have len : xs.length = 13 := by rw [← hxs]; rfl
  generalize hG : upd (upd (upd H3 pl (.lst [.int 1])) pt (.tup [.int 1])) pd (.dK []) = HG at hpo x1 x2 x3 x4 ⊢
  have dl : HG pl = some (.lst [.int 1]) := x3 _ _ upd_same
  have dt : HG pt = some (.tup [.int 1]) := x4 _ _ upd_same
  have dd : HG pd = some (.dK []) := hG ▸ upd_same
  have all1 : ∀ y ∈ xs, OkN K HG y := by
    rw [← hxs]
    exact fm_cons (okn_int (by decide +kernel) (by decide +kernel)) (fm_cons (okn_int (by decide +kernel) (by decide +kernel)) (fm_cons (okn_int (by decide +kernel) (by decide +kernel)) (fm_cons (okn_int (by decide +kernel) (by decide +kernel)) (fm_cons (okn_int (by decide +kernel) (by decide +kernel))
      (fm_cons (okn_data (.bl true) (k1 := true) (k2 := true) (by decide +kernel) (by decide +kernel) rfl fun G => ⟨_, .bl true⟩) (fm_cons (okn_data (.bl false) (k1 := true) (k2 := true) (by decide +kernel) (by decide +kernel) rfl fun G => ⟨_, .bl false⟩) (fm_cons (okn_data .non (k1 := false) (k2 := false) (by decide +kernel) (by decide +kernel) rfl fun G => ⟨_, .non⟩)
      (fm_cons (okn_data (.str "1") (k1 := false) (k2 := false) (by decide +kernel) (by decide +kernel) rfl fun G => ⟨_, .str (sz100 (by decide +kernel))⟩) (fm_cons (okn_data (.str "l-") (k1 := false) (k2 := false) (by decide +kernel) (by decide +kernel) rfl fun G => ⟨_, .str (sz100 (by decide +kernel))⟩)
      (fm_cons (okn_data (.lst (ds := [.int 1]) (fun z => z) (.inl dl) (.cons (.int _) .nil)) (k1 := false) (k2 := false) (by decide +kernel) (by decide +kernel) rfl fun G => ⟨_, .lst dl (.int (by decide +kernel) .nil) (sz100 (by decide +kernel))⟩)
      (fm_cons (okn_data (.tup (ds := [.int 1]) (fun z => z) (.inl dt) (.cons (.int _) .nil)) (k1 := false) (k2 := false) (by decide +kernel) (by decide +kernel) rfl fun G => ⟨_, .tup dt (.int (by decide +kernel) .nil) (sz100 (by decide +kernel))⟩)
      (fm_cons (fun G => ⟨.inr ⟨_, false, false, .dict dd, by decide +kernel, by decide +kernel, rfl⟩, _, .dict dd⟩) fm_nil))))))))))))
  have z1 := Evl.Ex.new hpo (o := .lst xs)
  obtain ⟨v, hv, hm⟩ := at_of (xs := xs) (n := 13) (i := i) len i0 i1
  exact ce_nm 0 (.inl ⟨po, _, i, v, rfl, rfl, SqL.of upd_same, hv, q v _ (x1.trans z1) ((all1 v hm).ext z1)⟩)
end
end AK

namespace AK
open PySem PySem.Spec PyProof.Rows L2 GV
structure Wd (P : Program) (w : World) (K : PySem.W.Frag) (mg : Str → Option Value) (base : Heap) (CH CE CN : Addr) : Prop where
  H : Hou P w K mg base CH CE CN
  box : Cl P w K mg base CX0 1 "_law_box" (spBox K)
  take : Cl P w K mg base CX0 1 "_law_take" spTake
  kinds : Cl P w K mg base CX0 1 "_law_kinds" (FreshR K R_kinds)
  text : Cl P w K mg base CX0 1 "_law_text" (PureR K R_text)
  house : Cl P w K mg base CX0 5 "_law_is_house" (spIH K CH)
  in_ : Cl P w K mg base CX0 4 "_law_is_in" (spIH K CH)
  equal : Cl P w K mg base CX0 4 "_law_is_equal" (spEq K CH)
  made : ∀ G, ClG G P w K mg base 7 "_law_is_made" (spIM G K)
  numb : ∀ G, ClG G P w K mg base 7 "_law_is_numbered" (spIB G K)
  bent : Cl P w K mg base CX0 3 "_law_bent" spBe
  ot : Cl P w K mg base CX0 1 "_law_odd_text" (spOT K 20 (OkV K))
  on : Cl P w K mg base CX0 1 "_law_odd_number" (spOT K 13 (OkN K))
  every : Cl P w K mg base CX0 5 "_law_is_every" (spEL K)
theorem rp_str {K : PySem.W.Frag} {M : Addr → Prop} {H : Hp} {v : V} {x : Str} (r : Rp K M H v (.str x)) : v = .str x := by
  cases r
  rfl
theorem num_of {G : List Code} {K : PySem.W.Frag} {H : Hp} {i : Int} (h : i.natAbs ≤ 1000) : (∃ n : Nat, V.int i = .int (n : Nat) ∧ 1 ≤ n ∧ n < 64) ∨ (BadN K H 1 63 (.int i) ∧ ∃ T, RepH G H (.int i) T) := by
  by_cases z : 1 ≤ i ∧ i ≤ 63
  · refine .inl ⟨i.toNat, ?_, by omega, by omega⟩
    rw [Int.toNat_of_nonneg (by omega)]
  · refine .inr ⟨.inl ⟨i, rfl, ?_⟩, _, .int (Nat.lt_of_le_of_lt (Nat.log2_le_self _) (by omega))⟩
    rw [Bool.and_eq_false_iff, decide_eq_false_iff_not, decide_eq_false_iff_not]
    omega
section
variable {X : Cx} {CH CE CN : Addr} {σ : St} {H : Hp} {a b x y : Expr} {n m : Nat} {pos : Pos}
theorem pd_equal {p : Pos} {j : Nat} (cp : Cl X.prog X.w X.K X.mg X.base CX0 4 "_law_is_equal" (spEq X.K CH)) (hr : Room j X.A) (hj : 4 ≤ j) (hg : Gl X "_law_is_equal") (ha : HD X CH a σ H n) (hx : PD X M0 x σ H (strsD (kindsL n))) (hb : HD X CH b σ H m) (hy : PD X M0 y σ H (strsD (kindsL m))) (n1 : 1 ≤ n) (n2 : n < 64) (m1 : 1 ≤ m) (m2 : m < 64)
    (s1 : starEach (a :: [x, b, y]) X.env = (false, eval a X.env) :: starEach [x, b, y] X.env := by rfl) (s2 : starEach (x :: [b, y]) X.env = (false, eval x X.env) :: starEach [b, y] X.env := by rfl) (s3 : starEach (b :: [y]) X.env = (false, eval b X.env) :: starEach [y] X.env := by rfl) (s4 : starEach (y :: []) X.env = (false, eval y X.env) :: starEach [] X.env := by rfl)
    (hpl : (backTo pos (starEach [x, b, y] X.env)).any (·.1) = false := by rfl) : PD X M0 (.Call (.Name "_law_is_equal" p) [a, x, b, y] [] pos) σ H (.bool true) :=
  .mk fun H1 e1 al Q q => ce_call cp hr hj hg (ca_cons (ha.run H1 e1 _ fun h H2 x2 ho => ca_cons (hx.run H2 (e1.trans (.of x2)) alive0 _ fun v H3 x3 r3 => ca_cons (hb.run H3 ((e1.trans (.of x2)).trans (.of x3)) _ fun g H4 x4 hg => ca_cons (hy.run H4 (((e1.trans (.of x2)).trans (.of x3)).trans (.of x4)) alive0 _ fun u H5 x5 r5 =>
    ca_nil ⟨h, g, v, u, n, m, rfl, ho.ex' ((x3.trans x4).trans x5), hg.ex' x5, r3.mono (fun _ z => z) (ExM.of (x4.trans x5)), r5, n1, n2, m1, m2, fun H6 x6 => q _ H6 ((((x2.trans x3).trans x4).trans x5).trans x6) (.bl true)⟩) s4) s3) s2) s1) (by decide) s1 hpl
end
def spWd (K : PySem.W.Frag) : Sp := fun vs H Q _ => ∃ (b : Addr) (tv : V) (r c k : Int), vs = [.ref b, tv] ∧ H b = some (potL r c k) ∧ Rp K (Ma b) H tv (strsD texL) ∧ ∀ r' k' H', ExB b H H' → H' b = some (potL r' c k') → Q (.bl true) H'
section
variable {P : Program} {w : World} {K : PySem.W.Frag} {mg : Str → Option Value} {base : Heap} {CH CE CN CT CM : Addr}
theorem cl_law_is_world {f : Addr} {fd : FuncData} (F : At K mg "_law_is_world" s_law_is_world f fd) (W : Wd P w K mg base CH CE CN) : Cl P w K mg base CX0 8 "_law_is_world" (spWd K) := by
  refine ⟨f, fd, _, fnOk_ofG fun G => okG F.fn sc_law_is_world (fun vs H Q E h => ?_) (fun cdv A outer sh H vs Q E hG hr h => ?_), F.gl, F.fn.kp, F.fn.binds fun _ _ _ _ _ _ us hl => match us, hl with | [_, _], _ => rfl⟩
  · obtain ⟨b, tv, r, c, k, rfl, _⟩ := h
    rfl
  obtain ⟨b, tv, r0, c, k0, rfl, hb0, rt0, q⟩ := h
  have L := W.H
  have nb := L.nb
  have hGX : (A.deeper (envOfC "_law_is_world" (defScope s_law_is_world) sh.heap.objs.size f cdv)).guards = some G := hG
  have txs : ∀ {H1 : Hp}, ExB b H H1 → Rp K M0 H1 tv (strsD texL) := fun e => (rt0.mono (fun _ z => z) (ExB.exM e)).mono (fun _ z => z.elim) (ExM.refl _)
  have rest : ∀ (n m : Nat) (r k : Int) H1, 1 ≤ n → n < 64 → 1 ≤ m → m < 64 → ExB b H H1 → H1 b = some (potL r c k) →
      wB (cxOf CX0 P w K mg base n_law_is_world "_law_is_world" (defScope s_law_is_world) f cdv A outer sh H E).nox ((defBody s_law_is_world).drop 3) { nx := fun _ H' => Q .non H', rt := Q } [some (.ref b), some tv, some (.int (n : Nat)), some (.int (m : Nat)), none, none] H1 := by
    intro n m r1 k1 H1 n1 n2 m1 m2 e1 hb1
    obtain ⟨g1, _⟩ := tex_get n1 n2
    have rt1 := txs e1
    have ixt : ixD (strsD texL) (.int ((n : Nat) - 1)) = some (.str (txN n)) := by
      rw [show ((n : Nat) : Int) - 1 = ((n - 1 : Nat) : Int) by omega]
      exact ixD_list (by rw [List.getElem?_map, g1]; rfl)
    refine b_cons (cs_set (i := 4) sc_law_is_world.nd rfl (.inl rfl) (ce_hd (hd_house (n := n) L.mkH L.gH hr (by decide) rfl n1 n2 (pd_ix (nm 1 rt1) (pd_sub (nm 2 (.int (n : Nat))) pd_int) ixt)) fun h H2 x2 ho2 => ?_))
    refine b_cons (cs_set (i := 5) sc_law_is_world.nd rfl (.inl rfl) (ce_clsX (W := fun _ _ _ _ => False) L.by_ hr (by decide) (fun σ => passAt takes0 σ) rfl L.gH (ca_cons (ce_nm 3 (ca_nil ⟨_, rfl, .inl ⟨m, rfl, m1, m2, fun g H3 x3 hg3 => ?_⟩⟩)))))
    have ho3 := ho2.ex' x3
    have kn : ∀ {H' : Hp} {σ' : St} {p1 p2 p3 : Pos}, True := fun {_} {_} {_} {_} {_} => trivial
    refine b_cons (s_if (M := M0) (k := false) alive0 (TD.is (WD.td (wd_or (td_not (td_val (pd_isNamed W.house hr (by decide) rfl (hnm 4 ho3) n1 n2 (FD.pd (fd_callC W.kinds hr (by decide) rfl (ad_cons (nm 2 (.int (n : Nat))) ad_nil) ⟨n, rfl, rfl⟩))))) fun _ => wd_or1 (td_not (td_val (pd_isNamed W.house hr (by decide) rfl (hnm 5 hg3) m1 m2 (FD.pd (fd_callC W.kinds hr (by decide) rfl (ad_cons (nm 3 (.int (m : Nat))) ad_nil) ⟨m, rfl, rfl⟩))))))) rfl) (fun k => by cases k) (fun _ H4 x4 => b_nil ?_))
    have ho4 := ho3.ex' x4
    have hg4 := hg3.ex' x4
    refine b_cons (s_if (M := M0) (k := false) alive0 (TD.is (WD.td (wd_or (td_not (td_val (pd_isNamed W.in_ hr (by decide) rfl (hnm 4 ho4) n1 n2 (FD.pd (fd_callC W.kinds hr (by decide) rfl (ad_cons (nm 2 (.int (n : Nat))) ad_nil) ⟨n, rfl, rfl⟩))))) fun _ => wd_or1 (td_not (td_val (pd_isNamed W.in_ hr (by decide) rfl (hnm 5 hg4) m1 m2 (FD.pd (fd_callC W.kinds hr (by decide) rfl (ad_cons (nm 3 (.int (m : Nat))) ad_nil) ⟨m, rfl, rfl⟩))))))) rfl) (fun k => by cases k) (fun _ H5 x5 => b_nil ?_))
    have ho5 := ho4.ex' x5
    have hg5 := hg4.ex' x5
    refine b_cons (s_if (M := M0) (k := false) alive0 (td_not (k := true) (td_val (pd_equal W.equal hr (by decide) rfl (hnm 4 ho5) (FD.pd (fd_callC W.kinds hr (by decide) rfl (ad_cons (nm 2 (.int (n : Nat))) ad_nil) ⟨n, rfl, rfl⟩)) (hnm 5 hg5) (FD.pd (fd_callC W.kinds hr (by decide) rfl (ad_cons (nm 3 (.int (m : Nat))) ad_nil) ⟨m, rfl, rfl⟩)) n1 n2 m1 m2))) (fun k => by cases k) (fun _ H6 x6 => b_nil ?_))
    have x16 : Evl.Ex H1 H6 := (((x2.trans x3).trans x4).trans x5).trans x6
    have hb6 := x16 _ _ hb1
    have e6 := e1.trE x16
    have ho6 := ho5.ex' x6
    have hg6 := hg5.ex' x6
    -- a bent text
    refine b_cons (cs_if (ct_not (ct_val (ce_callG (W.made G) hGX hr (by decide) rfl (ca_cons (ce_call W.bent hr (by decide) rfl (ca_cons (ce_nm 0 (ca_cons (ce_pd (M := M0) alive0 (pd_ix (nm 1 (txs e6)) (pd_sub (nm 2 (.int (n : Nat))) pd_int) ixt) fun v7 H7 x7 r7 => ca_nil ⟨b, r1, c, k1, n, by rw [rp_str r7], n2, x7 _ _ hb6, fun s r8 k8 H8 fit e8 hb8 => ca_cons (ce_nm 1 (ca_nil ⟨_, tv, rfl, txs ((e6.trE x7).trans e8), fit_made fit, fun H9 x9 => ⟨true, rfl, ?_⟩⟩))⟩))))))))))
    rw [if_neg (by decide)]
    have e9 := ((e6.trE x7).trans e8).trE x9
    have hb9 := x9 _ _ hb8
    have e69 : ExB b H6 H9 := ((ExB.of x7).trans e8).trE x9
    have ho9 := ho6.exB e69 hb6
    have hg9 := hg6.exB e69 hb6
    refine b_nil ?_
    -- an odd value
    refine b_cons (cs_if (ct_not (ct_val (ce_callG (W.made G) hGX hr (by decide) rfl (ca_cons (ce_call W.ot hr (by decide) rfl (ca_cons (ce_takeB W.take hr (by decide) rfl (fun H1 Q hq => ce_nm 0 hq) pd_int hb9 (by decide) (by decide +kernel) fun z rA kA HA z0 z1 eA hbA => ca_nil ⟨z, rfl, z0, z1, fun v HB xB ok => ca_cons (ce_nm 1 (ca_nil ⟨_, tv, rfl, txs ((e9.trans eA).trE xB), .inr (ok G), fun HC xC => ⟨true, rfl, ?_⟩⟩))⟩))))))))
    rw [if_neg (by decide)]
    have eC := ((e9.trans eA).trE xB).trE xC
    have hbC := xC _ _ (xB _ _ hbA)
    have e9C : ExB b H9 HC := (eA.trE xB).trE xC
    have hoC := ho9.exB e9C hb9
    have hgC := hg9.exB e9C hb9
    refine b_nil ?_
    -- a number
    refine b_cons (cs_if (ct_not (ct_val (ce_callG (W.numb G) hGX hr (by decide) rfl (ca_cons (ce_sub (ce_takeB W.take hr (by decide) rfl (fun H1 Q hq => ce_nm 0 hq) pd_int hbC (by decide) (by decide +kernel) fun z rD kD HD_ z0 z1 eD hbD => ce_intC ⟨z, 60, rfl, rfl, ca_nil ⟨_, rfl, num_of (by omega), fun HE xE => ⟨true, rfl, ?_⟩⟩⟩)))))))
    rw [if_neg (by decide)]
    have hbE := xE _ _ hbD
    have eCE : ExB b HC HE := eD.trE xE
    have hoE := hoC.exB eCE hbC
    have hgE := hgC.exB eCE hbC
    refine b_nil ?_
    -- an odd number
    refine b_cons (cs_if (ct_not (ct_val (ce_callG (W.numb G) hGX hr (by decide) rfl (ca_cons (ce_call W.on hr (by decide) rfl (ca_cons (ce_takeB W.take hr (by decide) rfl (fun H1 Q hq => ce_nm 0 hq) pd_int hbE (by decide) (by decide +kernel) fun z rF kF HF z0 z1 eF hbF => ca_nil ⟨z, rfl, z0, z1, fun v HG xG ok => ca_nil ⟨_, rfl, .inr (ok G), fun HI xI => ⟨true, rfl, ?_⟩⟩⟩))))))))
    rw [if_neg (by decide)]
    have hbI := xI _ _ (xG _ _ hbF)
    have eEI : ExB b HE HI := (eF.trE xG).trE xI
    have hoI := hoE.exB eEI hbE
    have hgI := hgE.exB eEI hbE
    refine b_nil (b_cons (s_ret (M := M0) (d := .bool true) alive0 (pd_and (k1 := true) (k2 := true) (pd_isNamed W.house hr (by decide) rfl (hnm 4 hoI) n1 n2 (FD.pd (fd_callC W.kinds hr (by decide) rfl (ad_cons (nm 2 (.int (n : Nat))) ad_nil) ⟨n, rfl, rfl⟩))) fun _ => pd_one (pd_isNamed W.house hr (by decide) rfl (hnm 5 hgI) m1 m2 (FD.pd (fd_callC W.kinds hr (by decide) rfl (ad_cons (nm 3 (.int (m : Nat))) ad_nil) ⟨m, rfl, rfl⟩)))) fun vJ HJ xJ rJ => ?_))
    cases rJ
    exact q _ _ HJ (((eC.trans eCE).trans eEI).trE xJ) (xJ _ _ hbI)
  refine b_cons (cs_set (i := 2) sc_law_is_world.nd rfl (.inl rfl) (ce_oneT W.take hr (by decide) rfl (fun H1 Q hq => ce_nm 0 hq) hb0 fun n r1 k1 H1 n1 n2 e1 hb1 => ?_))
  refine b_cons (cs_set (i := 3) sc_law_is_world.nd rfl (.inl rfl) (ce_oneT W.take hr (by decide) rfl (fun H1 Q hq => ce_nm 0 hq) hb1 fun m r2 k2 H2 m1 m2 e2 hb2 => ?_))
  refine b_cons (cs_if (ct_eq hr.units (ce_takeB W.take hr (by decide) rfl (fun H1 Q hq => ce_nm 0 hq) pd_int hb2 (by decide) (by decide +kernel) fun z5 r5 k5 H5 z50 z51 e5 hb5 => ce_pd (M := M0) alive0 pd_int fun y H6 x6 r6 => ⟨.int z5, _, .int z5, r6.dp, rfl, rfl, ?_⟩)))
  have e6 := ((e1.trans e2).trans e5).trE x6
  have hb6 := x6 _ _ hb5
  split
  · exact b_cons (cs_set (i := 3) sc_law_is_world.nd rfl (.inl rfl) (ce_nm 2 (b_nil (rest n n r5 k5 H6 n1 n2 n1 n2 e6 hb6))))
  · exact b_nil (rest n m r5 k5 H6 n1 n2 m1 m2 e6 hb6)
/-! ### the law -/
def spLaw (K : PySem.W.Frag) : Sp := fun vs H Q _ => ∃ (a : Addr) (ns : List Int), vs = [.ref a] ∧ SqL K H a (ns.map V.int) ∧ ns.length ≤ 63 ∧ ∀ H', Q (.bl true) H'
theorem rp_fresh {K : PySem.W.Frag} {H H2 : Hp} {l p : Addr} {xs : List Str} (r : Rp K M0 H (.ref l) (strsD xs)) (x : Evl.Ex H H2) (hp : H p = none) : Rp K (Ma p) H2 (.ref l) (strsD xs) := by
  cases r with
  | lst m hs rs =>
    rw [rs.of_strs] at hs
    refine .lst (fun e => ?_) (GV.Rd.exM (M := M0) hs (fun z => z) (ExM.of x)) (RpAll.strs xs)
    have e' : l = p := e
    subst e'
    exact GV.Rd.there hs hp
def txD : PyData → PyData
  | .int i => .str (txN i.toNat)
  | d => d
theorem ok_law {f : Addr} {fd : FuncData} (F : At K mg "law" s_law f fd) (W : Wd P w K mg base CH CE CN) (cw : Cl P w K mg base CX0 8 "_law_is_world" (spWd K)) : FnOk P w K mg base CX0 9 f fd ["script"] (spLaw K) := by
  refine F.fn.ok sc_law (fun vs H Q E h => ?_) (fun cdv A outer sh H vs Q E hr h => ⟨_, wB.ps, ?_⟩)
  · obtain ⟨a, ns, rfl, _⟩ := h
    rfl
  obtain ⟨a0, script, rfl, hS, hlen, q⟩ := h
  have nb := W.H.nb
  have sc0 : ScAt K M0 H a0 script := ScAt.of hS fun z => z
  refine b_cons (s_setLc (M := M0) (i := 1) (t := .one 3) (own := [("number", 3)]) (ds := (List.range ((64 : Int) - 1).toNat).map fun k => PyData.int (1 + (k : Nat))) rfl sc_law.nd ?_ (blkOk_by (N := n_law) (sc := defScope s_law) (by decide +kernel)) (fun _ _ _ _ _ => pg_name (i := 3) sc_law.nd rfl (.inl rfl)) (fun _ _ => trivial) ?_ (fun _ => true) txD ?_ ?_ alive0 rfl rfl rfl fun l ws H1 hl x1 h1 r1 => ?_)
  · exact src_range2 rfl nb.range pd_int pd_int (by decide) (by decide)
  · rintro M H d σ' ⟨v, _, rfl⟩
    rfl
  · rw [List.length_map, List.length_range]
    decide
  · rintro s0 H0 C cl fp M' H' d σ' hM lift hd ⟨v', rv, rfl⟩
    obtain ⟨j, hj, rfl⟩ := List.mem_map.mp hd
    have hj : j < 63 := List.mem_range.mp hj
    have ej : (1 : Int) + (j : Nat) = ((1 + j : Nat) : Int) := by omega
    rw [ej] at rv ⊢
    refine ⟨tsd_nil, fun _ => PD.is (pd_callC W.text hr (by decide) rfl (ad_cons (FD.pd (fd_callC W.kinds hr (by decide) rfl (ad_cons (nm 3 rv) ad_nil) ⟨1 + j, rfl, rfl⟩)) ad_nil) ⟨1 + j, by omega, rfl, rfl⟩) ?_⟩
    show _ = PyData.str (txN ((1 + j : Nat) : Int).toNat)
    rw [Int.toNat_natCast]
  have et : (((List.range ((64 : Int) - 1).toNat).map fun k => PyData.int (1 + (k : Nat))).filter fun _ => true).map txD = texL.map PyData.str := by
    rw [filt_all]
    unfold texL
    rw [List.map_map, List.map_map]
    refine List.map_congr_left fun j _ => ?_
    show PyData.str (txN (1 + ((j : Nat) : Int)).toNat) = PyData.str (txN (j + 1))
    rw [show (1 + ((j : Nat) : Int)).toNat = j + 1 by omega]
  rw [et] at r1
  have rt1 : Rp K M0 H1 (.ref l) (strsD texL) := .lst (fun z => z) (.inl h1) r1
  refine b_cons (s_if (M := M0) (k := false) alive0 (td_not (k := true) (td_val (.mk fun H2 e2 al Q q => ce_call W.every hr (by decide) rfl (ca_cons (ce_nm 1 (ca_nil ⟨_, rfl, rt1.mono (fun _ z => z) e2, fun H3 x3 => q _ H3 x3 (.bl true)⟩)))))) (fun k => by cases k) (fun _ H2 x2 => b_nil ?_))
  have rt2 := rt1.mono (fun _ z => z) (ExM.of x2)
  have sc2 := sc0.mono (fun _ z => z) (ExM.of (x1.trans x2))
  refine b_cons (s_forRW (slot := 2) PassesOwn.never rfl sc_law.nd rfl (.inl rfl) rfl nb.range (ce_pd (M := M0) alive0 (pd_max2 rfl nb.max pd_int (pd_min2 rfl nb.min pd_int (pd_scLen (j := 0) sc2 rfl nb.len))) fun v H3 x3 r3 => ?_))
  generalize hm : max (1 : Int) (min 16 (script.length : Nat)) = m at r3
  have hm0 : 0 ≤ m ∧ m ≤ 16 := by omega
  cases r3
  refine ⟨m.toNat, fun i σ' H' => (∃ xk, σ' = [some (.ref a0), some (.ref l), xk, none]) ∧ ScAt K M0 H' a0 script ∧ Rp K M0 H' (.ref l) (strsD texL), by rw [Int.toNat_of_nonneg hm0.1], by omega, ⟨⟨_, rfl⟩, sc2.mono (fun _ z => z) (ExM.of x3), rt2.mono (fun _ z => z) (ExM.of x3)⟩, ?_, ?_⟩
  · rintro i σ' H' hi ⟨⟨xk, rfl⟩, sc, rt⟩
    refine b_cons (cs_if (ct_not (ct_val (ce_call cw hr (by decide) rfl (ca_cons (ce_call W.box hr (by decide) rfl (ca_cons (ce_nm 0 (ca_cons (ce_nm 2 (ca_nil ⟨M0, a0, script, i, rfl, alive0, sc, fun p r c k H2 hp x2 h2 => ca_cons (ce_nm 1 (ca_nil ⟨p, .ref l, r, c, k, rfl, h2, ?_, fun r3 k3 H3 e3 h3 => ⟨true, rfl, ?_⟩⟩))⟩)))))))))))
    · exact rp_fresh rt x2 hp
    rw [if_neg (by decide)]
    refine b_nil (b_nil ⟨⟨_, rfl⟩, ?_, ?_⟩)
    · have sc2 : ScAt K (Ma p) H2 a0 script := by
        rcases sc with ⟨_, h⟩ | h
        · refine .inl ⟨?_, ?_⟩
          · rintro rfl
            exact GV.Rd.there h hp
          · exact GV.Rd.exM (M := M0) h (fun z => z) (ExM.of x2)
        · exact .inr h
      exact sc2.mono (fun _ z => z.elim) (ExB.exM e3)
    · exact ((rp_fresh rt x2 hp).mono (fun _ z => z) (ExB.exM e3)).mono (fun _ z => z.elim) (ExM.refl _)
  · rintro σ' H' ⟨⟨xk, rfl⟩, sc, rt⟩
    exact b_cons (s_ret (M := M0) alive0 pd_bl fun v H5 x5 r5 => by
      cases r5
      exact q H5)
end
end AK

namespace AK
open PySem PySem.Spec PyProof.Rows L2 GV
theorem at_mk {K : PySem.W.Frag} {h : Heap} {mg : Str → Option Value} {x : Str} {st : Stmt} {f : Addr} {od an : Option Addr} {sl : Array (Option Value)} {oc kV dc pm cd ct : Value} (X : K.In h) (G : h.Ns mainGlobals mg) (a : PySem.W.nsIn K mainGlobals x = some (some (.ref f)))
    (l : K.lookup f = some ⟨oc, od, .func (PySem.W.fnOf x x (defArgs st) (defBody st) (defScope st) .none kV dc pm an cd ct), sl⟩) (c : PySem.W.codeIn K cd x = true) (k : PySem.W.keepIn K (.ref f) = true) : ∃ f fd, At K mg x st f fd :=
  ⟨f, _, fun_mk l c k, PySem.W.mg_of X G a⟩
theorem exm_of {K : PySem.W.Frag} {S D : Addr} {b : Bool} (h1 : PySem.W.subIn K (.ref S) (.type "BaseException") = some true) (h0 : PySem.W.subIn K (.ref D) (.type "BaseException") = some true) (h2 : PySem.W.isClsIn K D = true) (h3 : PySem.W.typeIn K (.ref D) = some (.type "type")) (h4 : PySem.W.subIn K (.ref S) (.ref D) = some b) : PySem.W.exmOne K (.ref S) (.ref D) = some b := by
  have e1 : (PySem.W.subIn K (.ref D) (.type "BaseException") == some true) = true := by rw [h0] <;> rfl
  have e2 : ((PySem.W.clsIn K D).isSome && PySem.W.typeIn K (.ref D) == some (.type "type")) = true := by
    have h2' : (PySem.W.clsIn K D).isSome = true := h2
    rw [h2', h3] <;> rfl
  show (if (PySem.W.subIn K (.ref D) (.type "BaseException") == some true) = true then (if ((PySem.W.clsIn K D).isSome && PySem.W.typeIn K (.ref D) == some (.type "type")) = true then PySem.W.subIn K (.ref S) (.ref D) else none) else none) = some b
  rw [if_pos e1, if_pos e2]
  exact h4
structure Facts (K : PySem.W.Frag) (mg : Str → Option Value) : Prop where
  nb : NoB mg
  text_of_number : ∃ f fd, At K mg "text_of_number" s_text_of_number f fd
  number_of_text : ∃ f fd, At K mg "number_of_text" s_number_of_text f fd
  is_integer : ∃ f fd, At K mg "is_integer" s_is_integer f fd
  is_number : ∃ f fd, At K mg "is_number" s_is_number f fd
  check_number : ∃ f fd, At K mg "check_number" s_check_number f fd
  law_box : ∃ f fd, At K mg "_law_box" s_law_box f fd
  law_take : ∃ f fd, At K mg "_law_take" s_law_take f fd
  law_is_int : ∃ f fd, At K mg "_law_is_int" s_law_is_int f fd
  law_is_truth : ∃ f fd, At K mg "_law_is_truth" s_law_is_truth f fd
  law_kinds : ∃ f fd, At K mg "_law_kinds" s_law_kinds f fd
  law_text : ∃ f fd, At K mg "_law_text" s_law_text f fd
  law_is_named : ∃ f fd, At K mg "_law_is_named" s_law_is_named f fd
  law_is_house : ∃ f fd, At K mg "_law_is_house" s_law_is_house f fd
  law_is_in : ∃ f fd, At K mg "_law_is_in" s_law_is_in f fd
  law_is_equal : ∃ f fd, At K mg "_law_is_equal" s_law_is_equal f fd
  law_made : ∃ f fd, At K mg "_law_made" s_law_made f fd
  law_by_base : ∃ f fd, At K mg "_law_by_base" s_law_by_base f fd
  law_is_made : ∃ f fd, At K mg "_law_is_made" s_law_is_made f fd
  law_numbered : ∃ f fd, At K mg "_law_numbered" s_law_numbered f fd
  law_is_numbered : ∃ f fd, At K mg "_law_is_numbered" s_law_is_numbered f fd
  law_is_every : ∃ f fd, At K mg "_law_is_every" s_law_is_every f fd
  law_sign : ∃ f fd, At K mg "_law_sign" s_law_sign f fd
  law_bent : ∃ f fd, At K mg "_law_bent" s_law_bent f fd
  law_odd_text : ∃ f fd, At K mg "_law_odd_text" s_law_odd_text f fd
  law_odd_number : ∃ f fd, At K mg "_law_odd_number" s_law_odd_number f fd
  law_is_world : ∃ f fd, At K mg "_law_is_world" s_law_is_world f fd
  law : ∃ f fd, At K mg "law" s_law f fd
open PySem.W (nsIn findIn typeIn subIn keepIn isClsIn hasDictIn codeIn fnOf specialIn takesIn mroIn kitOne recIn fnIn)
/-- the class House -/
structure HFacts (K : PySem.W.Frag) (mg : Str → Option Value) (CH : Addr) : Prop where
  hc : HouC K CH
  gH : mg "House" = some (.ref CH)
  init : ∃ f fd, Mk K CH f ∧ Fun K "__init__" "House.__init__" s_House_init f fd
  kS : kitOne K (.ref CH) (.type "str") = some false
theorem hf_mk {K : PySem.W.Frag} {h : Heap} {mg : Str → Option Value} {C f1 : Addr} (X : K.In h) (G : h.Ns mainGlobals mg) {od1 an1 : Option Addr} {sl1 : Array (Option Value)} {oc1 kV1 dc1 pm1 cd1 ct1 : Value}
    (aC : nsIn K mainGlobals "House" = some (some (.ref C)))
    (pg : PySem.W.plainGet K C Str.empty = true) (hd : hasDictIn K C = true) (po : PySem.W.plainOver K C = true) (sa : findIn K (.ref C) "__setattr__" = some (some (.builtin "object.__setattr__"))) (mk : PySem.W.makesIn K C = true) (kc : keepIn K (.ref C) = true) (nT : findIn K (.ref C) "text" = some none) (nN : findIn K (.ref C) "number" = some none)
    (ha : findIn K (.ref C) "__class__" = some (some (.builtin "object.__class__"))) (hn : specialIn K (.builtin "object.__class__") "__get__" = some (some (.builtin "getset_descriptor.__get__"))) (ht : takesIn K (.builtin "object.__class__") = some true) (hm : mroIn K C (.type "object") = some true) (s01 : kitOne K (.ref C) (.ref C) = some true)
    (a1 : findIn K (.ref C) "__init__" = some (some (.ref f1))) (i1 : PySem.W.isFn K (.ref f1) = true) (l1 : K.lookup f1 = some ⟨oc1, od1, .func (fnOf "__init__" "House.__init__" (defArgs s_House_init) (defBody s_House_init) (defScope s_House_init) .none kV1 dc1 pm1 an1 cd1 ct1), sl1⟩) (c1 : codeIn K cd1 "House.__init__" = true) (k1 : keepIn K (.ref f1) = true) (s02 : kitOne K (.ref C) (.type "str") = some false) : HFacts K mg C :=
  ⟨⟨⟨⟨pg, hd, po, sa⟩, ha, hn, ht, hm, s01⟩, nT, nN⟩, PySem.W.mg_of X G aC, ⟨f1, _, ⟨mk, a1, i1, kc⟩, fun_mk l1 c1 k1⟩, s02⟩
/-- a method, as the top wrote it -/
abbrev ME (K : PySem.W.Frag) (C : Addr) (m q : Str) (st : Stmt) : Prop := ∃ f fd, Meth K C m f ∧ Fun K m q st f fd
theorem me_mk {K : PySem.W.Frag} {h : Heap} {mg : Str → Option Value} {C f1 : Addr} {m q : Str} {st : Stmt} {od1 an1 : Option Addr} {sl1 : Array (Option Value)} {oc1 kV1 dc1 pm1 cd1 ct1 : Value} (X : K.In h) (G : h.Ns mainGlobals mg)
    (a1 : findIn K (.ref C) m = some (some (.ref f1))) (i1 : PySem.W.isFn K (.ref f1) = true) (l1 : K.lookup f1 = some ⟨oc1, od1, .func (fnOf m q (defArgs st) (defBody st) (defScope st) .none kV1 dc1 pm1 an1 cd1 ct1), sl1⟩) (c1 : codeIn K cd1 q = true) (k1 : keepIn K (.ref f1) = true) : ME K C m q st :=
  ⟨f1, _, ⟨a1, i1, k1⟩, fun_mk l1 c1 k1⟩
theorem kk_mk {K : PySem.W.Frag} {h : Heap} {mg : Str → Option Value} {C t : Addr} {od : Option Addr} {its : Array Value} {n : Nat} {sl : Array (Option Value)} (X : K.In h) (G : h.Ns mainGlobals mg)
    (rd : PySem.W.readsIn K C (.type "type") = true) (ga : specialIn K (.ref C) "__getattribute__" = some (some (.builtin "type.__getattribute__"))) (fc : PySem.W.findCls K (.ref C) (.type "type") "KINDS" = some (.val (.ref t)))
    (lt : K.lookup t = some ⟨.type "tuple", od, .seq its n, sl⟩) (sz : its.size ≤ 1000) (v6 : Vals (ordK.map V.str) its.toList) : KindsK K C :=
  ⟨t, .type "type", ⟨rd, ga⟩, ⟨fc, rfl⟩, _, its, n, lt, rfl, rfl, Nat.le_trans sz (by rw [sizeLine_eq]; decide), v6⟩
theorem sd_mk {K : PySem.W.Frag} {h : Heap} {mg : Str → Option Value} {w : World} {d : Addr} {es : Array DictEntry} {n : Nat} {t0 t1 t2 t3 t4 t5 t6 t7 : Tok} (X : K.In h) (G : h.Ns mainGlobals mg) (aD : nsIn K mainGlobals "_SIDES" = some (some (.ref d))) (lD : K.lookup d = some ⟨.type "dict", none, .dict es n, #[]⟩) (kl : PySem.W.KeysLit w.params es.toList) (lo : (d == sysModules) = false)
    (n0 : nsIn K d "" = some (some (.int 0 t0))) (n1 : nsIn K d "l" = some (some (.int 1 t1))) (n2 : nsIn K d "b" = some (some (.int 2 t2))) (n3 : nsIn K d "lb" = some (some (.int 3 t3))) (n4 : nsIn K d "h" = some (some (.int 4 t4))) (n5 : nsIn K d "lh" = some (some (.int 5 t5))) (n6 : nsIn K d "bh" = some (some (.int 6 t6))) (n7 : nsIn K d "lbh" = some (some (.int 7 t7))) (kt : KeysT es.toList sidesL) : Sides K mg w ∧ SidesK K mg w := ⟨⟨d, es, n, PySem.W.mg_of X G aD, ⟨lD, kl, lo⟩, fun i hi => by
  match i, hi with
  | 0, _ => exact ⟨_, n0⟩
  | 1, _ => exact ⟨_, n1⟩
  | 2, _ => exact ⟨_, n2⟩
  | 3, _ => exact ⟨_, n3⟩
  | 4, _ => exact ⟨_, n4⟩
  | 5, _ => exact ⟨_, n5⟩
  | 6, _ => exact ⟨_, n6⟩
  | 7, _ => exact ⟨_, n7⟩
⟩, ⟨d, es, n, PySem.W.mg_of X G aD, ⟨lD, kl, lo⟩, kt⟩⟩
structure ECls (K : PySem.W.Frag) (mg : Str → Option Value) (x q : Str) (st : Stmt) (C : Addr) : Prop where
  g : mg x = some (.ref C)
  o : OexC K C
  xf : XfC K C
  be : PySem.W.subIn K (.ref C) (.type "BaseException") = some true
  ty : PySem.W.typeIn K (.ref C) = some (.type "type")
  ci : PySem.W.isClsIn K C = true
  i : ∃ f fd, PySem.W.findIn K (.ref C) "__init__" = some (some (.ref f)) ∧ PySem.W.typeIn K (.ref f) = some (.type "function") ∧ Fun K "__init__" q st f fd
theorem ec_mk {K : PySem.W.Frag} {h : Heap} {mg : Str → Option Value} {x q : Str} {st : Stmt} {CW fW : Addr} (X : K.In h) (G : h.Ns mainGlobals mg)
    {nmW qW : Str} {NW : Addr} {bsW bmW : List Value} {snW : List Str} {subW : List Value} {abW : Bool} {colW : Option Bool} {ddW : Option Addr} {w0 w1 w2 w3 w5 : Option Value}
    {od1 an1 : Option Addr} {sl1 : Array (Option Value)} {oc1 kV1 dc1 pm1 cd1 ct1 : Value}
    (aW : nsIn K mainGlobals x = some (some (.ref CW)))
    (lW : K.lookup CW = some (excClassObj nmW qW CW NW bsW bmW true snW subW abW colW ddW w0 w1 w2 w3 w5 "ValueError.__new__")) (rW : HandSPX.refsVE bmW = true)
    (saW : findIn K (.ref CW) "__setattr__" = some (some (.builtin "object.__setattr__")))
    (eW : subIn K (.ref CW) (.type "BaseException") = some true)
    (tW : typeIn K (.ref CW) = some (.type "type"))
    (kW : keepIn K (.ref CW) = true)
    (gaW : findIn K (.ref CW) "__getattribute__" = some (some (.builtin "BaseException.__getattribute__")))
    (ggW : findIn K (.ref CW) "__getattr__" = some none) (hdW : hasDictIn K CW = true)
    (cW : isClsIn K CW = true)
    (iW : findIn K (.ref CW) "__init__" = some (some (.ref fW))) (yW : typeIn K (.ref fW) = some (.type "function")) (l1 : K.lookup fW = some ⟨oc1, od1, .func (fnOf "__init__" q (defArgs st) (defBody st) (defScope st) .none kV1 dc1 pm1 an1 cd1 ct1), sl1⟩) (c1 : codeIn K cd1 q = true) (k1 : keepIn K (.ref fW) = true) : ECls K mg x q st CW :=
  ⟨PySem.W.mg_of X G aW, ⟨⟨_, _, _, _, _, _, _, _, _, _, _, _, _, _, _, lW, rW⟩, saW, eW, tW, kW⟩, ⟨gaW, ggW, eW, hdW⟩, eW, tW, cW, ⟨fW, _, iW, yW, fun_mk l1 c1 k1⟩⟩
structure ERaw (K : PySem.W.Frag) (mg : Str → Option Value) (CE CN CT CM : Addr) : Prop where
  nH : findIn K (.ref CE) "house" = some none
  nN : findIn K (.ref CN) "number" = some none
  a1 : subIn K (.ref CE) (.ref CE) = some true
  a2 : subIn K (.ref CE) (.ref CM) = some true
  a3 : subIn K (.ref CN) (.ref CN) = some true
  a4 : subIn K (.ref CN) (.ref CM) = some true
  bM : subIn K (.ref CM) (.type "BaseException") = some true
  cM : isClsIn K CM = true
  tM : typeIn K (.ref CM) = some (.type "type")
  gM : mg "MillError" = some (.ref CM)
  gT : mg "InvalidText" = some (.ref CT)
  gV : mg "ValueError" = none
  mr : mg "repr" = none
  h1 : findIn K (.ref CE) "__class__" = some (some (.builtin "object.__class__"))
  h2 : findIn K (.ref CN) "__class__" = some (some (.builtin "object.__class__"))
  hn : specialIn K (.builtin "object.__class__") "__get__" = some (some (.builtin "getset_descriptor.__get__"))
  ht : takesIn K (.builtin "object.__class__") = some true
  m1 : mroIn K CE (.type "object") = some true
  m2 : mroIn K CN (.type "object") = some true
  k1 : kitOne K (.ref CE) (.ref CE) = some true
  k2 : kitOne K (.ref CE) (.ref CM) = some true
  k3 : kitOne K (.ref CE) (.type "ValueError") = some true
  k4 : kitOne K (.ref CN) (.ref CN) = some true
  k5 : kitOne K (.ref CN) (.ref CM) = some true
  k6 : kitOne K (.ref CN) (.type "ValueError") = some true
  k7 : kitOne K (.ref CE) (.ref CN) = some false
  k8 : kitOne K (.ref CE) (.ref CT) = some false
  k9 : kitOne K (.ref CN) (.ref CE) = some false
  k0 : kitOne K (.ref CN) (.ref CT) = some false
theorem er_mk {K : PySem.W.Frag} {h : Heap} {mg : Str → Option Value} {CE CN CT CM : Addr} (X : K.In h) (G : h.Ns mainGlobals mg) (gM : nsIn K mainGlobals "MillError" = some (some (.ref CM))) (gT : nsIn K mainGlobals "InvalidText" = some (some (.ref CT))) (gV : nsIn K mainGlobals "ValueError" = some none) (mr : nsIn K mainGlobals "repr" = some none)
    (nH : findIn K (.ref CE) "house" = some none) (nN : findIn K (.ref CN) "number" = some none) (a1 : subIn K (.ref CE) (.ref CE) = some true) (a2 : subIn K (.ref CE) (.ref CM) = some true) (a3 : subIn K (.ref CN) (.ref CN) = some true) (a4 : subIn K (.ref CN) (.ref CM) = some true) (bM : subIn K (.ref CM) (.type "BaseException") = some true) (cM : isClsIn K CM = true) (tM : typeIn K (.ref CM) = some (.type "type"))
    (h1 : findIn K (.ref CE) "__class__" = some (some (.builtin "object.__class__"))) (h2 : findIn K (.ref CN) "__class__" = some (some (.builtin "object.__class__"))) (hn : specialIn K (.builtin "object.__class__") "__get__" = some (some (.builtin "getset_descriptor.__get__"))) (ht : takesIn K (.builtin "object.__class__") = some true) (m1 : mroIn K CE (.type "object") = some true) (m2 : mroIn K CN (.type "object") = some true)
    (s01 : kitOne K (.ref CE) (.ref CE) = some true) (s02 : kitOne K (.ref CE) (.ref CM) = some true) (s03 : kitOne K (.ref CE) (.type "ValueError") = some true) (s04 : kitOne K (.ref CN) (.ref CN) = some true) (s05 : kitOne K (.ref CN) (.ref CM) = some true) (s06 : kitOne K (.ref CN) (.type "ValueError") = some true) (s07 : kitOne K (.ref CE) (.ref CN) = some false) (s08 : kitOne K (.ref CE) (.ref CT) = some false) (s09 : kitOne K (.ref CN) (.ref CE) = some false) (s10 : kitOne K (.ref CN) (.ref CT) = some false) : ERaw K mg CE CN CT CM :=
  ⟨nH, nN, a1, a2, a3, a4, bM, cM, tM, PySem.W.mg_of X G gM, PySem.W.mg_of X G gT, PySem.W.mg_none_of X G gV, PySem.W.mg_none_of X G mr, h1, h2, hn, ht, m1, m2, s01, s02, s03, s04, s05, s06, s07, s08, s09, s10⟩
theorem ot_mk {K : PySem.W.Frag} {h : Heap} {mg : Str → Option Value} {C : Addr} {T : String} (X : K.In h) (G : h.Ns mainGlobals mg) (s01 : kitOne K (.type T) (.ref C) = some false) (su : subIn K (.type T) (.ref C) = some false) : OddT K C T := ⟨s01, su⟩
theorem mo_mk {K : PySem.W.Frag} {h : Heap} {mg : Str → Option Value} {t : Tok} (X : K.In h) (G : h.Ns mainGlobals mg) (gm : nsIn K mainGlobals "_MOST_HOUSES" = some (some (.int 63 t))) : MostK mg := ⟨t, PySem.W.mg_of X G gm⟩
/-- every and by_number, as the top wrote them -/
structure EvK (K : PySem.W.Frag) (C : Addr) : Prop where
  ex : ∃ (f : Addr) (fd : FuncData) (p : Addr) (mc : Value) (rest : List Value), ClX.CRead K C mc ∧ PySem.W.findCls K (.ref C) mc "every" = some (.get (.builtin "staticmethod.__get__") (.ref p) .none (.ref C)) ∧ recIn K p "staticmethod" = some (.ref f :: rest) ∧ keepIn K (.ref f) = true ∧ Fun K "every" "House.every" s_House_every f fd
structure ByK (K : PySem.W.Frag) (C : Addr) : Prop where
  ex : ∃ (f : Addr) (fd : FuncData) (p : Addr) (mc : Value), ClX.CRead K C mc ∧ ClX.CMet K C mc "by_number" p f ∧ Fun K "by_number" "House.by_number" s_House_by_number f fd
theorem st_mk {K : PySem.W.Frag} {h : Heap} {mg : Str → Option Value} {C p f1 : Addr} {rest : List Value} {od1 an1 : Option Addr} {sl1 : Array (Option Value)} {oc1 kV1 dc1 pm1 cd1 ct1 : Value} (X : K.In h) (G : h.Ns mainGlobals mg)
    (rd : PySem.W.readsIn K C (.type "type") = true) (ga : specialIn K (.ref C) "__getattribute__" = some (some (.builtin "type.__getattribute__"))) (fc : PySem.W.findCls K (.ref C) (.type "type") "every" = some (.get (.builtin "staticmethod.__get__") (.ref p) .none (.ref C))) (rc : recIn K p "staticmethod" = some (.ref f1 :: rest))
    (l1 : K.lookup f1 = some ⟨oc1, od1, .func (fnOf "every" "House.every" (defArgs s_House_every) (defBody s_House_every) (defScope s_House_every) .none kV1 dc1 pm1 an1 cd1 ct1), sl1⟩) (c1 : codeIn K cd1 "House.every" = true) (k1 : keepIn K (.ref f1) = true) : EvK K C :=
  ⟨f1, _, p, .type "type", rest, ⟨rd, ga⟩, fc, rc, k1, fun_mk l1 c1 k1⟩
theorem cb_mk {K : PySem.W.Frag} {h : Heap} {mg : Str → Option Value} {C p f1 : Addr} {rest : List Value} {od1 an1 : Option Addr} {sl1 : Array (Option Value)} {oc1 kV1 dc1 pm1 cd1 ct1 : Value} (X : K.In h) (G : h.Ns mainGlobals mg)
    (rd : PySem.W.readsIn K C (.type "type") = true) (ga : specialIn K (.ref C) "__getattribute__" = some (some (.builtin "type.__getattribute__"))) (fc : PySem.W.findCls K (.ref C) (.type "type") "by_number" = some (.get (.builtin "classmethod.__get__") (.ref p) .none (.ref C))) (rc : recIn K p "classmethod" = some (.ref f1 :: rest))
    (l1 : K.lookup f1 = some ⟨oc1, od1, .func (fnOf "by_number" "House.by_number" (defArgs s_House_by_number) (defBody s_House_by_number) (defScope s_House_by_number) .none kV1 dc1 pm1 an1 cd1 ct1), sl1⟩) (c1 : codeIn K cd1 "House.by_number" = true) (k1 : keepIn K (.ref f1) = true) (fi : fnIn K f1 = true) : ByK K C :=
  ⟨f1, _, p, .type "type", ⟨rd, ga⟩, ⟨fc, ⟨rest, rc⟩, fi⟩, fun_mk l1 c1 k1⟩
theorem ok_initHouse {P : Program} {w : World} {K : PySem.W.Frag} {mg : Str → Option Value} {base : Heap} {f C : Addr} {fd : FuncData} (F : Fun K "__init__" "InvalidHouse.__init__" s_InvalidHouse_init f fd) (o : OexC K C) (n : PySem.W.findIn K (.ref C) "house" = some none) : FnOk P w K mg base CX0 1 f fd ["self", "house"] (spInit C ["house"]) := by
  refine F.ok sc_InvalidHouse_init (fun vs H Q E h => ?_) (fun cdv A outer s H vs Q E hr h => ⟨_, wB.ps, ?_⟩)
  · obtain ⟨a, xs, rfl, hl, _⟩ := h
    exact congrArg (· + 1) hl
  · obtain ⟨a, xs, rfl, hl, ha, q⟩ := h
    match xs, hl with
    | [v], _ =>
      refine b_cons (cs_ost (ce_name (i := 1) rfl (.inl rfl) rfl (ce_name (i := 0) rfl (.inl rfl) rfl ⟨a, C, rfl, o, n, .inl ⟨ha, fun dx hdx ne => b_nil (q _ dx (fun b o hb nb => ?_) hdx ne upd_same ?_)⟩⟩)))
      · rw [upd_ne nb, upd_ne (ne_of_none hb hdx)]
        exact hb
      · rw [upd_ne ne, upd_same]
        rfl
theorem ok_initNumber {P : Program} {w : World} {K : PySem.W.Frag} {mg : Str → Option Value} {base : Heap} {f C : Addr} {fd : FuncData} (F : Fun K "__init__" "InvalidNumber.__init__" s_InvalidNumber_init f fd) (o : OexC K C) (n : PySem.W.findIn K (.ref C) "number" = some none) : FnOk P w K mg base CX0 1 f fd ["self", "number"] (spInit C ["number"]) := by
  refine F.ok sc_InvalidNumber_init (fun vs H Q E h => ?_) (fun cdv A outer s H vs Q E hr h => ⟨_, wB.ps, ?_⟩)
  · obtain ⟨a, xs, rfl, hl, _⟩ := h
    exact congrArg (· + 1) hl
  · obtain ⟨a, xs, rfl, hl, ha, q⟩ := h
    match xs, hl with
    | [v], _ =>
      refine b_cons (cs_ost (ce_name (i := 1) rfl (.inl rfl) rfl (ce_name (i := 0) rfl (.inl rfl) rfl ⟨a, C, rfl, o, n, .inl ⟨ha, fun dx hdx ne => b_nil (q _ dx (fun b o hb nb => ?_) hdx ne upd_same ?_)⟩⟩)))
      · rw [upd_ne nb, upd_ne (ne_of_none hb hdx)]
        exact hb
      · rw [upd_ne ne, upd_same]
        rfl
section
variable {P : Program} {w : World} {K : PySem.W.Frag} {mg : Str → Option Value} {base : Heap}
theorem lwd {CH CE CM CN CT : Addr} (FA : Facts K mg) (HF : HFacts K mg CH) (m1 : ME K CH "named" "House.named" s_House_named) (m2 : ME K CH "names_index" "House.names_index" s_House_names_index) (m3 : ME K CH "__len__" "House.__len__" s_House_len) (m4 : ME K CH "__eq__" "House.__eq__" s_House_eq) (m5 : ME K CH "__contains__" "House.__contains__" s_House_contains) (m6 : ME K CH "__str__" "House.__str__" s_House_str) (m7 : ME K CH "__repr__" "House.__repr__" s_House_repr)
    (KK : KindsK K CH) (MO : MostK mg) (ST : EvK K CH) (CB : ByK K CH) (SS : Sides K mg w ∧ SidesK K mg w) (EC : ECls K mg "InvalidHouse" "InvalidHouse.__init__" s_InvalidHouse_init CE) (EN : ECls K mg "InvalidNumber" "InvalidNumber.__init__" s_InvalidNumber_init CN) (ER : ERaw K mg CE CN CT CM) (O : OddTs K CH) : Wd P w K mg base CH CE CN ∧ Cl P w K mg base CX0 8 "_law_is_world" (spWd K) := by
  have nb := FA.nb
  obtain ⟨_, _, a0⟩ := FA.text_of_number
  obtain ⟨_, _, a1⟩ := FA.number_of_text
  obtain ⟨_, _, a2⟩ := FA.is_integer
  obtain ⟨_, _, a3⟩ := FA.is_number
  obtain ⟨_, _, a4⟩ := FA.check_number
  obtain ⟨_, _, a5⟩ := FA.law_box
  obtain ⟨_, _, a6⟩ := FA.law_take
  obtain ⟨_, _, a7⟩ := FA.law_is_int
  obtain ⟨_, _, a8⟩ := FA.law_is_truth
  obtain ⟨_, _, a9⟩ := FA.law_kinds
  obtain ⟨_, _, a10⟩ := FA.law_text
  obtain ⟨_, _, a11⟩ := FA.law_is_named
  obtain ⟨_, _, a12⟩ := FA.law_is_house
  obtain ⟨_, _, a13⟩ := FA.law_is_in
  obtain ⟨_, _, a14⟩ := FA.law_is_equal
  obtain ⟨_, _, a15⟩ := FA.law_made
  obtain ⟨_, _, a16⟩ := FA.law_by_base
  obtain ⟨_, _, a17⟩ := FA.law_is_made
  obtain ⟨_, _, a18⟩ := FA.law_numbered
  obtain ⟨_, _, a19⟩ := FA.law_is_numbered
  obtain ⟨_, _, a20⟩ := FA.law_is_every
  obtain ⟨_, _, a21⟩ := FA.law_sign
  obtain ⟨_, _, a22⟩ := FA.law_bent
  obtain ⟨_, _, a23⟩ := FA.law_odd_text
  obtain ⟨_, _, a24⟩ := FA.law_odd_number
  obtain ⟨_, _, a25⟩ := FA.law_is_world
  obtain ⟨_, _, a26⟩ := FA.law
  have cnot : Cl P w K mg base CX0 1 "number_of_text" _ := cl_number_of_text a1 nb SS.1
  have cnoo : Cl P w K mg base CX0 1 "number_of_text" _ := cl_not_odd a1 nb SS.1 SS.2
  have cton : Cl P w K mg base CX0 1 "text_of_number" _ := cl_text_of_number a0 nb SS.2
  have cint : Cl P w K mg base CX0 1 "is_integer" _ := cl_is_integer a2 nb
  have cnum := cl_is_number a3 cint
  obtain ⟨fer, fder, ier1, ier2, ier3⟩ := EC.i
  have er : ErrC P w K mg base "InvalidHouse" CE ["house"] := ⟨EC.g, EC.o, EC.xf, fun f hf => by
    cases List.mem_singleton.mp hf
    exact ER.nH, fer, fder, _, ier1, ier2, ok_initHouse ier3 EC.o ER.nH, ier3.binds fun _ _ _ _ _ _ us hl => match us, hl with | [_, _], _ => rfl⟩
  obtain ⟨fen, fden, ien1, ien2, ien3⟩ := EN.i
  have en : ErrC P w K mg base "InvalidNumber" CN ["number"] := ⟨EN.g, EN.o, EN.xf, fun f hf => by
    cases List.mem_singleton.mp hf
    exact ER.nN, fen, fden, _, ien1, ien2, ok_initNumber ien3 EN.o ER.nN, ien3.binds fun _ _ _ _ _ _ us hl => match us, hl with | [_, _], _ => rfl⟩
  have cchk := cl_check_number a4 cnum en
  obtain ⟨fi, fdi, i1, i2⟩ := HF.init
  have bi := i2.binds (ps := ["self", "text"]) fun _ _ _ _ _ _ us hl => match us, hl with | [_, _], _ => rfl
  have mkH : MkH P w K mg base CH := ⟨fi, fdi, i1, ok_hinit i2 HF.hc cnot, bi⟩
  have mkB : MkHB P w K mg base CH CE := ⟨fi, fdi, i1, ok_hinitB i2 cnot cnoo er, bi⟩
  obtain ⟨_, _, p1, q1⟩ := m1
  obtain ⟨_, _, p2, q2⟩ := m2
  obtain ⟨_, _, p3, q3⟩ := m3
  obtain ⟨_, _, p4, q4⟩ := m4
  obtain ⟨_, _, p5, q5⟩ := m5
  obtain ⟨_, _, p6, q6⟩ := m6
  obtain ⟨_, _, p7, q7⟩ := m7
  obtain ⟨fb, fdb, pb, mcb, rb, cb, ub⟩ := CB.ex
  obtain ⟨fs, fds, ps, mcs, rests, rs, ds, vs, ks, us⟩ := ST.ex
  have M2 : MethS P w K mg base CX0 CH "names_index" 1 ["self", "index"] (spBit CH) := ⟨_, _, p2, ok_bit q2 HF.hc, q2.binds fun _ _ _ _ _ _ us hl => match us, hl with | [_, _], _ => rfl⟩
  have M1 : MethS P w K mg base CX0 CH "named" 2 ["self"] _ := ⟨_, _, p1, ok_named q1 nb HF.hc HF.gH KK M2, q1.binds fun _ _ _ _ _ _ us hl => match us, hl with | [_], _ => rfl⟩
  have LH : Hou P w K mg base CH CE CN := ⟨nb, HF.hc, HF.gH, mkH, mkB, ER.mr, M1, ⟨_, _, p3, ok_len q3 nb HF.hc M1, q3.binds fun _ _ _ _ _ _ us hl => match us, hl with | [_], _ => rfl⟩, ⟨_, _, p4, ok_eq q4 nb HF.hc HF.gH, q4.binds fun _ _ _ _ _ _ us hl => match us, hl with | [_, _], _ => rfl⟩, ⟨_, _, p4, ok_eqT q4 nb HF.gH, q4.binds fun _ _ _ _ _ _ us hl => match us, hl with | [_, _], _ => rfl⟩, ⟨_, _, p5, ok_contains q5 nb HF.hc M1, q5.binds fun _ _ _ _ _ _ us hl => match us, hl with | [_, _], _ => rfl⟩, ⟨_, _, p6, ok_str q6 nb HF.hc, q6.binds fun _ _ _ _ _ _ us hl => match us, hl with | [_], _ => rfl⟩, ⟨_, _, p7, ok_repr q7 HF.hc, q7.binds fun _ _ _ _ _ _ us hl => match us, hl with | [_], _ => rfl⟩,
    ⟨fb, fdb, ["cls", "number"], pb, mcb, rb, cb, ok_by_number ub cchk cton mkH MO, ub.binds fun _ _ _ _ _ _ us hl => match us, hl with | [_, _], _ => rfl⟩, ⟨fs, fds, [], ps, mcs, rests, rs, ds, vs, ks, ok_every us nb cton mkH HF.gH MO, us.binds fun _ _ _ _ _ _ us hl => match us, hl with | [], _ => rfl⟩⟩
  have Ei : Ers K mg CE CN CT CM := ⟨⟨EC.g, ⟨EC.xf.ga, EC.xf.gg, EC.be, EC.xf.hdC, ER.h1, ER.hn, ER.ht, ER.m1⟩, EC.xf, ER.nH, exm_of EC.be EC.be EC.ci EC.ty ER.a1, exm_of EC.be ER.bM ER.cM ER.tM ER.a2, ER.k1, ER.k2, ER.k3⟩, ⟨EN.g, ⟨EN.xf.ga, EN.xf.gg, EN.be, EN.xf.hdC, ER.h2, ER.hn, ER.ht, ER.m2⟩, EN.xf, ER.nN, exm_of EN.be EN.be EN.ci EN.ty ER.a3, exm_of EN.be ER.bM ER.cM ER.tM ER.a4, ER.k4, ER.k5, ER.k6⟩, ER.gT, ER.gM, ER.gV, ER.k7, ER.k8, ER.k9, ER.k0⟩
  have lbox : Cl P w K mg base CX0 1 "_law_box" _ := cl_law_box a5 nb
  have ltake : Cl P w K mg base CX0 1 "_law_take" _ := cl_law_take a6 nb
  have lint : Cl P w K mg base CX0 1 "_law_is_int" _ := cl_law_is_int a7 nb
  have ltr : Cl P w K mg base CX0 1 "_law_is_truth" _ := cl_law_is_truth a8 nb
  have lks : Cl P w K mg base CX0 1 "_law_kinds" _ := cl_law_kinds a9 nb
  have ltx : Cl P w K mg base CX0 1 "_law_text" _ := cl_law_text a10
  have lnd := cl_law_is_named a11 LH
  have lih := cl_law_is_house a12 LH ltx lint lnd
  have lin := cl_law_is_in a13 LH O ltr
  have leq := cl_law_is_equal a14 LH O ltr
  have lsn := cl_law_sign a21 ltake
  have lbb := cl_law_by_base a16 LH Ei
  have W : Wd P w K mg base CH CE CN := ⟨LH, lbox, ltake, lks, ltx, lih, lin, leq, fun G => cl_law_is_made a17 LH (cl_law_made a15 LH Ei) lbb lih lks, fun G => cl_law_is_numbered a19 LH (cl_law_numbered a18 LH Ei) lih lks, cl_law_bent a22 nb ltake lsn, cl_law_odd_text a23, cl_law_odd_number a24, cl_law_is_every a20 LH KK lint⟩
  exact ⟨W, cl_law_is_world a25 W⟩
end
theorem law_at {l : PySem.W.OpenLaw} {w : World} {K : PySem.W.Frag} {h : Heap} {mg : Str → Option Value} {fa CH CE CM CN CT : Addr} (hfa : mg "law" = some (.ref fa)) (A : Facts K mg) (HF : HFacts K mg CH) (m1 : ME K CH "named" "House.named" s_House_named) (m2 : ME K CH "names_index" "House.names_index" s_House_names_index) (m3 : ME K CH "__len__" "House.__len__" s_House_len) (m4 : ME K CH "__eq__" "House.__eq__" s_House_eq) (m5 : ME K CH "__contains__" "House.__contains__" s_House_contains) (m6 : ME K CH "__str__" "House.__str__" s_House_str) (m7 : ME K CH "__repr__" "House.__repr__" s_House_repr)
    (KK : KindsK K CH) (MO : MostK mg) (ST : EvK K CH) (CB : ByK K CH) (SS : Sides K mg w ∧ SidesK K mg w) (EC : ECls K mg "InvalidHouse" "InvalidHouse.__init__" s_InvalidHouse_init CE) (EN : ECls K mg "InvalidNumber" "InvalidNumber.__init__" s_InvalidNumber_init CN) (ER : ERaw K mg CE CN CT CM)
    (o0 : OddT K CH "NoneType") (o1 : OddT K CH "int") (o2 : OddT K CH "bool") (o3 : OddT K CH "str") (o4 : OddT K CH "list") (o5 : OddT K CH "tuple") (o6 : OddT K CH "dict") : LamX.LawAtS l w K CX0 9 63 "script" mg fa h := by
  obtain ⟨f, fd, AL⟩ := A.law
  have e := hfa.symm.trans AL.gl
  cases e
  obtain ⟨oc, od, kV, doc, pm, an, cdv, ct, osl, e1, _, _⟩ := AL.fn.ex
  refine ⟨fd, [], spLaw K, ?_, ?_, ?_, ?_, ?_, ?_⟩
  · intro p hp
    cases hp
  · intro p hp
    cases hp
  · intro p hp
    cases hp
  · intro s u
    rw [e1]
    exact .of_eq rfl
  · intro H a ns hl _ _ hS
    exact ⟨a, ns, rfl, hS, hl, fun _ => rfl⟩
  · intro base KB GB tb
    obtain ⟨W, cw⟩ := lwd (P := l.prog) (w := w) (base := base) A HF m1 m2 m3 m4 m5 m6 m7 KK MO ST CB SS EC EN ER ⟨o0, o1, o2, o3, o4, o5, o6, HF.kS⟩
    exact ok_law AL W cw
end AK

open PySem PySem.W PyProof.Rows in
set_option maxRecDepth 100000 in
set_option maxHeartbeats 0 in
theorem PySem.Challenge.cw_millbrook_k00_house_texts_holds : PySem.Challenge.rw_millbrook_k00_house_texts.Holds := by
  w_on; o_law; k_head; (case hw => w_witness2)
  k_fill
  refine LamX.walk_ofTs (l := PySem.Challenge.rw_millbrook_k00_house_texts) (n := 63) (k := 9) (x := "script") (CX := fun _ => L2.CX0) rfl (by rw [sizeLine_eq]; decide) rfl ⟨rfl, by decide, by decide⟩ (fun w h Y => PySem.W.kIn_of Y) ?F (fun _ _ _ _ _ z => z)
  case F =>
    intro w mg fa h Y KX G hmg
    refine' AK.law_at hmg ⟨⟨PySem.W.mg_none_of KX G ?z_0, PySem.W.mg_none_of KX G ?z_1, PySem.W.mg_none_of KX G ?z_2, PySem.W.mg_none_of KX G ?z_3, PySem.W.mg_none_of KX G ?z_4, PySem.W.mg_none_of KX G ?z_5, PySem.W.mg_none_of KX G ?z_6, PySem.W.mg_none_of KX G ?z_7, PySem.W.mg_none_of KX G ?z_8, PySem.W.mg_none_of KX G ?z_9, PySem.W.mg_none_of KX G ?z_10, PySem.W.mg_none_of KX G ?z_11, PySem.W.mg_none_of KX G ?z_12, PySem.W.mg_none_of KX G ?z_13, PySem.W.mg_none_of KX G ?z_14, PySem.W.mg_none_of KX G ?z_15, PySem.W.mg_none_of KX G ?z_16⟩, AK.at_mk KX G ?a_17 ?l_18 ?c_19 ?k_20, AK.at_mk KX G ?a_21 ?l_22 ?c_23 ?k_24, AK.at_mk KX G ?a_25 ?l_26 ?c_27 ?k_28, AK.at_mk KX G ?a_29 ?l_30 ?c_31 ?k_32, AK.at_mk KX G ?a_33 ?l_34 ?c_35 ?k_36, AK.at_mk KX G ?a_37 ?l_38 ?c_39 ?k_40, AK.at_mk KX G ?a_41 ?l_42 ?c_43 ?k_44, AK.at_mk KX G ?a_45 ?l_46 ?c_47 ?k_48, AK.at_mk KX G ?a_49 ?l_50 ?c_51 ?k_52, AK.at_mk KX G ?a_53 ?l_54 ?c_55 ?k_56, AK.at_mk KX G ?a_57 ?l_58 ?c_59 ?k_60, AK.at_mk KX G ?a_61 ?l_62 ?c_63 ?k_64, AK.at_mk KX G ?a_65 ?l_66 ?c_67 ?k_68, AK.at_mk KX G ?a_69 ?l_70 ?c_71 ?k_72, AK.at_mk KX G ?a_73 ?l_74 ?c_75 ?k_76, AK.at_mk KX G ?a_77 ?l_78 ?c_79 ?k_80, AK.at_mk KX G ?a_81 ?l_82 ?c_83 ?k_84, AK.at_mk KX G ?a_85 ?l_86 ?c_87 ?k_88, AK.at_mk KX G ?a_89 ?l_90 ?c_91 ?k_92, AK.at_mk KX G ?a_93 ?l_94 ?c_95 ?k_96, AK.at_mk KX G ?a_97 ?l_98 ?c_99 ?k_100, AK.at_mk KX G ?a_101 ?l_102 ?c_103 ?k_104, AK.at_mk KX G ?a_105 ?l_106 ?c_107 ?k_108, AK.at_mk KX G ?a_109 ?l_110 ?c_111 ?k_112, AK.at_mk KX G ?a_113 ?l_114 ?c_115 ?k_116, AK.at_mk KX G ?a_117 ?l_118 ?c_119 ?k_120, AK.at_mk KX G ?a_121 ?l_122 ?c_123 ?k_124⟩ (AK.hf_mk KX G ?e_125 ?e_126 ?e_127 ?e_128 ?e_129 ?e_130 ?e_131 ?e_132 ?e_133 ?e_134 ?e_135 ?e_136 ?e_137 ?sub_138 ?e_139 ?e_140 ?e_141 ?e_142 ?e_143 ?sub_144) (AK.me_mk KX G ?e_145 ?e_146 ?e_147 ?e_148 ?e_149) (AK.me_mk KX G ?e_150 ?e_151 ?e_152 ?e_153 ?e_154) (AK.me_mk KX G ?e_155 ?e_156 ?e_157 ?e_158 ?e_159) (AK.me_mk KX G ?e_160 ?e_161 ?e_162 ?e_163 ?e_164) (AK.me_mk KX G ?e_165 ?e_166 ?e_167 ?e_168 ?e_169) (AK.me_mk KX G ?e_170 ?e_171 ?e_172 ?e_173 ?e_174) (AK.me_mk KX G ?e_175 ?e_176 ?e_177 ?e_178 ?e_179) (AK.kk_mk KX G ?e_180 ?e_181 ?e_182 ?e_183 ?low_184 ?v6_185) (AK.mo_mk KX G ?e_186) (AK.st_mk KX G ?e_187 ?e_188 ?e_189 ?e_190 ?e_191 ?e_192 ?e_193) (AK.cb_mk KX G ?e_194 ?e_195 ?e_196 ?e_197 ?e_198 ?e_199 ?e_200 ?e_201) (AK.sd_mk KX G ?e_202 ?e_203 ?kl_204 ?low_205 ?e_206 ?e_207 ?e_208 ?e_209 ?e_210 ?e_211 ?e_212 ?e_213 ?kt_214) (AK.ec_mk KX G ?e_215 ?e_216 ?dec_217 ?e_218 ?e_219 ?e_220 ?e_221 ?e_222 ?e_223 ?e_224 ?e_225 ?e_226 ?e_227 ?e_228 ?e_229 ?e_230) (AK.ec_mk KX G ?e_231 ?e_232 ?dec_233 ?e_234 ?e_235 ?e_236 ?e_237 ?e_238 ?e_239 ?e_240 ?e_241 ?e_242 ?e_243 ?e_244 ?e_245 ?e_246) (AK.er_mk KX G ?e_247 ?e_248 ?e_249 ?e_250 ?e_251 ?e_252 ?e_253 ?e_254 ?e_255 ?e_256 ?e_257 ?e_258 ?e_259 ?e_260 ?e_261 ?e_262 ?e_263 ?e_264 ?e_265 ?sub_266 ?sub_267 ?sub_268 ?sub_269 ?sub_270 ?sub_271 ?sub_272 ?sub_273 ?sub_274 ?sub_275) (AK.ot_mk KX G ?sub_276 ?e_277) (AK.ot_mk KX G ?sub_278 ?e_279) (AK.ot_mk KX G ?sub_280 ?e_281) (AK.ot_mk KX G ?sub_282 ?e_283) (AK.ot_mk KX G ?sub_284 ?e_285) (AK.ot_mk KX G ?sub_286 ?e_287) (AK.ot_mk KX G ?sub_288 ?e_289) 
    (case z_0 => k_is)
    (case z_1 => k_is)
    (case z_2 => k_is)
    (case z_3 => k_is)
    (case z_4 => k_is)
    (case z_5 => k_is)
    (case z_6 => k_is)
    (case z_7 => k_is)
    (case z_8 => k_is)
    (case z_9 => k_is)
    (case z_10 => k_is)
    (case z_11 => k_is)
    (case z_12 => k_is)
    (case z_13 => k_is)
    (case z_14 => k_is)
    (case z_15 => k_is)
    (case z_16 => k_is)
    (case a_17 => k_is)
    (case l_18 => k_is)
    (case c_19 => k_is)
    (case k_20 => k_is)
    (case a_21 => k_is)
    (case l_22 => k_is)
    (case c_23 => k_is)
    (case k_24 => k_is)
    (case a_25 => k_is)
    (case l_26 => k_is)
    (case c_27 => k_is)
    (case k_28 => k_is)
    (case a_29 => k_is)
    (case l_30 => k_is)
    (case c_31 => k_is)
    (case k_32 => k_is)
    (case a_33 => k_is)
    (case l_34 => k_is)
    (case c_35 => k_is)
    (case k_36 => k_is)
    (case a_37 => k_is)
    (case l_38 => k_is)
    (case c_39 => k_is)
    (case k_40 => k_is)
    (case a_41 => k_is)
    (case l_42 => k_is)
    (case c_43 => k_is)
    (case k_44 => k_is)
    (case a_45 => k_is)
    (case l_46 => k_is)
    (case c_47 => k_is)
    (case k_48 => k_is)
    (case a_49 => k_is)
    (case l_50 => k_is)
    (case c_51 => k_is)
    (case k_52 => k_is)
    (case a_53 => k_is)
    (case l_54 => k_is)
    (case c_55 => k_is)
    (case k_56 => k_is)
    (case a_57 => k_is)
    (case l_58 => k_is)
    (case c_59 => k_is)
    (case k_60 => k_is)
    (case a_61 => k_is)
    (case l_62 => k_is)
    (case c_63 => k_is)
    (case k_64 => k_is)
    (case a_65 => k_is)
    (case l_66 => k_is)
    (case c_67 => k_is)
    (case k_68 => k_is)
    (case a_69 => k_is)
    (case l_70 => k_is)
    (case c_71 => k_is)
    (case k_72 => k_is)
    (case a_73 => k_is)
    (case l_74 => k_is)
    (case c_75 => k_is)
    (case k_76 => k_is)
    (case a_77 => k_is)
    (case l_78 => k_is)
    (case c_79 => k_is)
    (case k_80 => k_is)
    (case a_81 => k_is)
    (case l_82 => k_is)
    (case c_83 => k_is)
    (case k_84 => k_is)
    (case a_85 => k_is)
    (case l_86 => k_is)
    (case c_87 => k_is)
    (case k_88 => k_is)
    (case a_89 => k_is)
    (case l_90 => k_is)
    (case c_91 => k_is)
    (case k_92 => k_is)
    (case a_93 => k_is)
    (case l_94 => k_is)
    (case c_95 => k_is)
    (case k_96 => k_is)
    (case a_97 => k_is)
    (case l_98 => k_is)
    (case c_99 => k_is)
    (case k_100 => k_is)
    (case a_101 => k_is)
    (case l_102 => k_is)
    (case c_103 => k_is)
    (case k_104 => k_is)
    (case a_105 => k_is)
    (case l_106 => k_is)
    (case c_107 => k_is)
    (case k_108 => k_is)
    (case a_109 => k_is)
    (case l_110 => k_is)
    (case c_111 => k_is)
    (case k_112 => k_is)
    (case a_113 => k_is)
    (case l_114 => k_is)
    (case c_115 => k_is)
    (case k_116 => k_is)
    (case a_117 => k_is)
    (case l_118 => k_is)
    (case c_119 => k_is)
    (case k_120 => k_is)
    (case a_121 => k_is)
    (case l_122 => k_is)
    (case c_123 => k_is)
    (case k_124 => k_is)
    (case e_125 => k_is)
    (case e_126 => k_is)
    (case e_127 => k_is)
    (case e_128 => k_is)
    (case e_129 => k_is)
    (case e_130 => k_is)
    (case e_131 => k_is)
    (case e_132 => k_is)
    (case e_133 => k_is)
    (case e_134 => k_is)
    (case e_135 => k_is)
    (case e_136 => k_is)
    (case e_137 => k_is)
    (case sub_138 => first | rfl | k_is)
    (case e_139 => k_is)
    (case e_140 => k_is)
    (case e_141 => k_is)
    (case e_142 => k_is)
    (case e_143 => k_is)
    (case sub_144 => first | rfl | k_is)
    (case e_145 => k_is)
    (case e_146 => k_is)
    (case e_147 => k_is)
    (case e_148 => k_is)
    (case e_149 => k_is)
    (case e_150 => k_is)
    (case e_151 => k_is)
    (case e_152 => k_is)
    (case e_153 => k_is)
    (case e_154 => k_is)
    (case e_155 => k_is)
    (case e_156 => k_is)
    (case e_157 => k_is)
    (case e_158 => k_is)
    (case e_159 => k_is)
    (case e_160 => k_is)
    (case e_161 => k_is)
    (case e_162 => k_is)
    (case e_163 => k_is)
    (case e_164 => k_is)
    (case e_165 => k_is)
    (case e_166 => k_is)
    (case e_167 => k_is)
    (case e_168 => k_is)
    (case e_169 => k_is)
    (case e_170 => k_is)
    (case e_171 => k_is)
    (case e_172 => k_is)
    (case e_173 => k_is)
    (case e_174 => k_is)
    (case e_175 => k_is)
    (case e_176 => k_is)
    (case e_177 => k_is)
    (case e_178 => k_is)
    (case e_179 => k_is)
    (case e_180 => k_is)
    (case e_181 => k_is)
    (case e_182 => k_is)
    (case e_183 => k_is)
    (case low_184 => first | decide | decide +kernel)
    (case v6_185 => exact .cons ⟨_, rfl⟩ (.cons ⟨_, rfl⟩ (.cons ⟨_, rfl⟩ (.cons ⟨_, rfl⟩ (.cons ⟨_, rfl⟩ (.cons ⟨_, rfl⟩ (.nil)))))))
    (case e_186 => k_is)
    (case e_187 => k_is)
    (case e_188 => k_is)
    (case e_189 => k_is)
    (case e_190 => k_is)
    (case e_191 => k_is)
    (case e_192 => k_is)
    (case e_193 => k_is)
    (case e_194 => k_is)
    (case e_195 => k_is)
    (case e_196 => k_is)
    (case e_197 => k_is)
    (case e_198 => k_is)
    (case e_199 => k_is)
    (case e_200 => k_is)
    (case e_201 => k_is)
    (case e_202 => k_is)
    (case e_203 => k_is)
    (case kl_204 => exact ⟨⟨_, _, rfl, rfl⟩, ⟨_, _, rfl, rfl⟩, ⟨_, _, rfl, rfl⟩, ⟨_, _, rfl, rfl⟩, ⟨_, _, rfl, rfl⟩, ⟨_, _, rfl, rfl⟩, ⟨_, _, rfl, rfl⟩, ⟨_, _, rfl, rfl⟩, True.intro⟩)
    (case low_205 => first | decide | decide +kernel)
    (case e_206 => k_is)
    (case e_207 => k_is)
    (case e_208 => k_is)
    (case e_209 => k_is)
    (case e_210 => k_is)
    (case e_211 => k_is)
    (case e_212 => k_is)
    (case e_213 => k_is)
    (case kt_214 => exact .cons ⟨_, rfl⟩ (.cons ⟨_, rfl⟩ (.cons ⟨_, rfl⟩ (.cons ⟨_, rfl⟩ (.cons ⟨_, rfl⟩ (.cons ⟨_, rfl⟩ (.cons ⟨_, rfl⟩ (.cons ⟨_, rfl⟩ (.nil)))))))))
    (case e_215 => k_is)
    (case e_216 => k_is)
    (case dec_217 => decide +kernel)
    (case e_218 => k_is)
    (case e_219 => k_is)
    (case e_220 => k_is)
    (case e_221 => k_is)
    (case e_222 => k_is)
    (case e_223 => k_is)
    (case e_224 => k_is)
    (case e_225 => k_is)
    (case e_226 => k_is)
    (case e_227 => k_is)
    (case e_228 => k_is)
    (case e_229 => k_is)
    (case e_230 => k_is)
    (case e_231 => k_is)
    (case e_232 => k_is)
    (case dec_233 => decide +kernel)
    (case e_234 => k_is)
    (case e_235 => k_is)
    (case e_236 => k_is)
    (case e_237 => k_is)
    (case e_238 => k_is)
    (case e_239 => k_is)
    (case e_240 => k_is)
    (case e_241 => k_is)
    (case e_242 => k_is)
    (case e_243 => k_is)
    (case e_244 => k_is)
    (case e_245 => k_is)
    (case e_246 => k_is)
    (case e_247 => k_is)
    (case e_248 => k_is)
    (case e_249 => k_is)
    (case e_250 => k_is)
    (case e_251 => k_is)
    (case e_252 => k_is)
    (case e_253 => k_is)
    (case e_254 => k_is)
    (case e_255 => k_is)
    (case e_256 => k_is)
    (case e_257 => k_is)
    (case e_258 => k_is)
    (case e_259 => k_is)
    (case e_260 => k_is)
    (case e_261 => k_is)
    (case e_262 => k_is)
    (case e_263 => k_is)
    (case e_264 => k_is)
    (case e_265 => k_is)
    (case sub_266 => first | rfl | k_is)
    (case sub_267 => first | rfl | k_is)
    (case sub_268 => first | rfl | k_is)
    (case sub_269 => first | rfl | k_is)
    (case sub_270 => first | rfl | k_is)
    (case sub_271 => first | rfl | k_is)
    (case sub_272 => first | rfl | k_is)
    (case sub_273 => first | rfl | k_is)
    (case sub_274 => first | rfl | k_is)
    (case sub_275 => first | rfl | k_is)
    (case sub_276 => first | rfl | k_is)
    (case e_277 => k_is)
    (case sub_278 => first | rfl | k_is)
    (case e_279 => k_is)
    (case sub_280 => first | rfl | k_is)
    (case e_281 => k_is)
    (case sub_282 => first | rfl | k_is)
    (case e_283 => k_is)
    (case sub_284 => first | rfl | k_is)
    (case e_285 => k_is)
    (case sub_286 => first | rfl | k_is)
    (case e_287 => k_is)
    (case sub_288 => first | rfl | k_is)
    (case e_289 => k_is)

