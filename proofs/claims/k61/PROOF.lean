import PyProof.Rows.All
import Wide.All
import OpenK.AllK
import Wide.FinOn
import HandS.Head3
import HandS.HeadHook4
import HandS.HeadWalk
import HandS.ExcInit
import HandS.ExcField
import HandS.Words
import HandS.ForMost
import HandS.SetFor
import HandS.ForExc
import HandS.IsInst
import HandS.Evl
import HandS.Flow
import HandS.Codes
import HandS.Wide
import HandS.TupAny
import HandS.Conv
import HandS.Strs
import HandS.SortInts
import KE.DataMinMax
import KE.DataAny
import KE.SortData
import HandS.SortKw
import HandS.Small
import HandS.TryMany
import HandS.Property
import HandS.Lambda
import KE.GoesEnum
import HandS.More
import HandS.NoneIn
import HandS.TupLe
import PyProof.TupleOfSeq
import HandS.WideBits
import KE.DataMinKey
import HandS.ExcIs
import KE.KExcIs
import PyProof.NeKinds
import HandS.Text
import HandS.OwnEq
import OpenK.KMeth
import OpenK.KOps
import KE.KOpsOwn
import HandS.ClsMeth
import KE.KDictList
import HandS.Dict
import HandS.ExcOwn
import PyProof.ReprRoads
import HandS.RaiseMore
import KE.KCallOwn
import HandS.FStr
import HandS.SetBool
import HandS.Defaults
import HandS.Style
import HandS.MakeKwOnly
import KE.KNest
import KE.KNestM
import HandS.EndTab
import PySem.Challenge.RW_millbrook_k61_history_entries
set_option Elab.async false
set_option linter.all false
set_option maxRecDepth 100000
/-! the head in one run of the kernel: what the top wrote, as Bools of a part of the heap, the functions by paths -/
namespace GH
open PySem PySem.Spec PyProof.Rows L2 He
abbrev Fr := PySem.W.Frag
/-- a function that the top wrote: where it stands, its names, its statement, its defaults -/
structure Df where
  path : Fr → Addr
  name : Str
  qual : Str
  st : Stmt
  dfl : List Dv := []
  kwd : List (Str × Dv) := []
def seen (K : Fr) (a : Addr) : FnW := match K.lookup a with
  | some ⟨_, _, .func fd, _⟩ => some (fd.name, fd.qualname, fd.params, fd.body, fd.scope, fd.globals, fd.closure, fd.builtins)
  | _ => none
def Df.due (d : Df) : FnW := some (d.name, d.qual, defArgs d.st, .stmts (defBody d.st), defScope d.st, mainGlobals, [], builtinsNs)
def Df.good (K : Fr) (d : Df) : Bool := PySem.W.keepIn K (.ref (d.path K)) && (match K.lookup (d.path K) with
  | some ⟨_, _, .func fd, _⟩ => PySem.W.codeIn K fd.code d.qual && (dflB K fd.defaults (d.dfl.map (Dv.v K)) && kwdB K fd.kwdefaults (d.kwd.map fun q => (q.1, q.2.v K)))
  | _ => false)
/-- the code object of the function at a -/
def codeAt (K : Fr) (a : Addr) : Addr := match K.lookup a with
  | some ⟨_, _, .func fd, _⟩ => (match fd.code with
    | .ref c => c
    | _ => 0)
  | _ => 0
theorem Df.fn {K : Fr} {d : Df} (e : seen K (d.path K) = d.due) (c : d.good K = true) : ∃ (oc : Value) (od : Option Addr) (dV kV doc pm : Value) (an : Option Addr) (ct : Value) (osl : Array (Option Value)),
    K.lookup (d.path K) = some ⟨oc, od, .func (PySem.W.fnOf d.name d.qual (defArgs d.st) (defBody d.st) (defScope d.st) dV kV doc pm an (.ref (codeAt K (d.path K))) ct), osl⟩ ∧ PySem.W.codeIn K (.ref (codeAt K (d.path K))) d.qual = true ∧
    DflV K dV (d.dfl.map (Dv.v K)) ∧ KwdV K kV (d.kwd.map fun q => (q.1, q.2.v K)) ∧ PySem.W.keepIn K (.ref (d.path K)) = true := by
  obtain ⟨kp, c⟩ := ba c
  unfold seen Df.due at e
  unfold codeAt
  split at e
  · rename_i oc od fd osl q
    rw [q] at c ⊢
    obtain ⟨c1, c2⟩ := ba (show (PySem.W.codeIn K fd.code d.qual && (dflB K fd.defaults (d.dfl.map (Dv.v K)) && kwdB K fd.kwdefaults (d.kwd.map fun q => (q.1, q.2.v K)))) = true from c)
    obtain ⟨c4, c5⟩ := ba c2
    clear c c2
    obtain ⟨cd, hcd⟩ := codeIn_ref c1
    have e := Option.some.inj e
    simp only [Prod.mk.injEq] at e
    obtain ⟨e1, e2, e3, e4, e5, e6, e7, e8⟩ := e
    obtain ⟨m1, m2, m3, m4, m5, m6, m7, m8, m9, m10, m11, m12, m13, m14, m15⟩ := fd
    dsimp only at e1 e2 e3 e4 e5 e6 e7 e8 hcd c1 c4 c5 ⊢
    subst e1 e2 e3 e4 e5 e6 e7 e8 hcd
    exact ⟨oc, od, m8, m9, m10, m11, m12, m14, osl, rfl, c1, dflB_ok c4, kwdB_ok c5, kp⟩
  · cases e
/-! ### errors -/
def oexB (K : Fr) (C : Addr) : Bool := (match K.lookup C with
  | some ⟨.type t, _, .cls cd, sl⟩ => decide (t = "type") && ((match cd.mro with
    | .ref C' :: bm => decide (C' = C) && PySem.HandSPX.refsVE bm
    | _ => false) && (cd.hasDict && (!cd.hasDel && (match sl.toList with
    | [_, _, _, _, some (.builtin n), _] => decide (n = "ValueError.__new__")
    | _ => false))))
  | _ => false) && (decide (PySem.W.findIn K (.ref C) "__setattr__" = some (some (.builtin "object.__setattr__"))) && (decide (PySem.W.subIn K (.ref C) (.type "BaseException") = some true) && (decide (PySem.W.typeIn K (.ref C) = some (.type "type")) && PySem.W.keepIn K (.ref C))))
theorem oexB_ok {K : Fr} {C : Addr} (h : oexB K C = true) : OexC K C := by
  obtain ⟨h1, h⟩ := ba h
  obtain ⟨h2, h⟩ := ba h
  obtain ⟨h3, h⟩ := ba h
  obtain ⟨h4, h5⟩ := ba h
  refine ⟨?_, of_decide_eq_true h2, of_decide_eq_true h3, of_decide_eq_true h4, h5⟩
  split at h1
  · rename_i t dd cd sl q
    obtain ⟨a1, a⟩ := ba h1
    obtain ⟨a2, a⟩ := ba a
    obtain ⟨a3, a⟩ := ba a
    obtain ⟨a4, a5⟩ := ba a
    have a1 := of_decide_eq_true a1
    subst a1
    split at a2
    · rename_i C' bm hm
      obtain ⟨b1, b2⟩ := ba a2
      have b1 := of_decide_eq_true b1
      subst b1
      split at a5
      · rename_i k0 k1 k2 k3 n k5 hs
        have a5 := of_decide_eq_true a5
        subst a5
        obtain ⟨nm, bs, mro, ns, qn, hd, sn, sub, ab, col, del⟩ := cd
        dsimp only at hm a3 a4
        subst hm a3
        have a4 : del = false := by cases del <;> simp_all
        subst a4
        have hs : sl = #[k0, k1, k2, k3, some (.builtin "ValueError.__new__"), k5] := by
          rw [← Array.toList_inj]
          exact hs
        subst hs
        exact ⟨nm, qn, ns, bs, bm, sn, sub, ab, col, dd, k0, k1, k2, k3, k5, q, b2⟩
      · cases a5
    · cases a2
  · cases h1
/-! ### the Hook -/
structure Says (fc : List (Fr → Bool)) (fn : List Df) (ts : List Tab) (tf : List (Fr → Addr)) (w : World) (h : Heap) (K : Fr) : Prop where
  f : ∀ f ∈ fc, f K = true
  d : ∀ d ∈ fn, seen K (d.path K) = d.due ∧ d.good K = true
  t : ∀ t ∈ ts, dicW K (t.1 K) = some (keysIn w.params t.2)
  hd : ∀ p ∈ tf, PySem.W.codeHdIn K (codeAt K (p K)) (tabOf K (codeAt K (p K))) = true
  out : ∀ p ∈ tf, K.lookup (tabOf K (codeAt K (p K))) = none
  empty : ∀ p ∈ tf, h.get? (tabOf K (codeAt K (p K))) = some { cls := .none, data := .fields #[] }
def tabs (g : Addr → Option Obj) (tf : List (Fr → Addr)) (K : Fr) : Bool := tf.all fun p => PySem.W.codeHdIn K (codeAt K (p K)) (tabOf K (codeAt K (p K))) && (match g (tabOf K (codeAt K (p K))) with
  | some o => emptyTab o
  | none => false)
/-! ### the addresses: of some names of the top, and what they name, n steps deep -/
def frL {α : Type} : List Addr → (List Addr → α) → α
  | [], k => k []
  | a :: r, k => HandSHeadRun.frNat a fun a => frL r fun r => k (a :: r)
def rootsOf (g : Addr → Option Obj) (xs : List Str) : List Addr := match g mainGlobals with
  | some ⟨_, _, .dict es _, _⟩ => xs.flatMap fun x => (match es.toList.find? (·.key.isStr x) with
    | some e => refV e.val
    | none => [])
  | _ => []
/-- what an object names; what a code object names is not asked for -/
def refsN (o : Obj) : List Addr := match o.data with
  | .fields vs => (match Nat.blt 10 vs.size with
    | true => []
    | false => refsD o)
  | _ => refsD o
def grow (g : Addr → Option Obj) : Nat → List Addr → List Addr → List Addr
  | 0, seen, _ => seen
  | n + 1, seen, front => frL ((front.flatMap fun a => match g a with
    | some o => refsN o
    | none => []).eraseDups.filter fun a => !seen.contains a) fun new => grow g n (seen ++ new) new
def asN (xs : List Str) (n : Nat) (g : Addr → Option Obj) : List Addr := frL (rootsOf g xs).eraseDups fun r => frL (grow g n (mainGlobals :: r) r) fun l => l
abbrev Al : Type := Bool × List FnW × List (Option (List (Option (Str × Int))))
def obsK (g : Addr → Option Obj) (fc : List (Fr → Bool)) (fn : List Df) (ts : List Tab) (tf : List (Fr → Addr)) (K : Fr) : Al := ((fc.all fun f => f K) && ((fn.all fun d => d.good K) && tabs g tf K), fn.map fun d => seen K (d.path K), ts.map fun t => dicW K (t.1 K))
def obsA (A : (Addr → Option Obj) → List Addr) (fc : List (Fr → Bool)) (fn : List Df) (ts : List Tab) (tf : List (Fr → Addr)) (g : Addr → Option Obj) : Al := obsK g fc fn ts tf (frT g (A g))
def due (fn : List Df) (ts : List Tab) (w : World) : Al := (true, fn.map Df.due, ts.map fun t => some (keysIn w.params t.2))
theorem map_mem {α β : Type} {f g : α → β} : ∀ {l : List α}, l.map f = l.map g → ∀ a ∈ l, f a = g a
  | [], _, a, h => nomatch h
  | b :: l, e, a, h => by
    rw [List.map_cons, List.map_cons, List.cons.injEq] at e
    rcases List.mem_cons.mp h with rfl | h
    · exact e.1
    · exact map_mem e.2 a h
theorem says_of {A : (Addr → Option Obj) → List Addr} {fc : List (Fr → Bool)} {fn : List Df} {ts : List Tab} {tf : List (Fr → Addr)} {w : World} {h : Heap} (e : obsA A fc fn ts tf h.get? = due fn ts w) : Says fc fn ts tf w h (frT h.get? (A h.get?)) := by
  unfold obsA at e
  generalize hK : frT h.get? (A h.get?) = K at e
  have e := Prod.mk.inj e
  have e2 := Prod.mk.inj e.2
  obtain ⟨h1, e1⟩ := ba e.1
  obtain ⟨h2, h3⟩ := ba e1
  have key : ∀ p ∈ tf, PySem.W.codeHdIn K (codeAt K (p K)) (tabOf K (codeAt K (p K))) = true ∧ ∃ o, h.get? (tabOf K (codeAt K (p K))) = some o ∧ emptyTab o = true := fun p hp => by
    obtain ⟨k1, k2⟩ := ba (List.all_eq_true.mp h3 p hp)
    refine ⟨k1, ?_⟩
    split at k2
    · exact ⟨_, ‹_›, k2⟩
    · cases k2
  refine ⟨fun f hf => List.all_eq_true.mp h1 f hf, fun d hd => ⟨map_mem e2.1 d hd, List.all_eq_true.mp h2 d hd⟩, fun t ht => map_mem e2.2 t ht, fun p hp => (key p hp).1, fun p hp => ?_, fun p hp => ?_⟩
  · obtain ⟨_, o, q, z⟩ := key p hp
    subst hK
    exact frT_none q z
  · obtain ⟨_, o, q, z⟩ := key p hp
    rw [q, emptyTab_eq z]
def hook (A : (Addr → Option Obj) → List Addr) (fc : List (Fr → Bool)) (fn : List Df) (ts : List Tab) (tf : List (Fr → Addr)) : PySem.W.Hook where
  α := Al
  obs := fun s => obsA A fc fn ts tf s.heap.get?
  val := fun w => due fn ts w
  says := fun w h => ∃ K : Fr, K.In h ∧ Says fc fn ts tf w h K
  of := fun _ _ e => ⟨_, frT_in, says_of e⟩
  keeps := fun _ _ _ ⟨K, hK, c⟩ k => ⟨K, PySem.W.Frag.In.keeps hK k, ⟨c.f, c.d, c.t, c.hd, c.out, fun p hp => k _ _ (c.empty p hp)⟩⟩
/-- what the run looks at, off the tree -/
def ob (A : (Addr → Option Obj) → List Addr) (fc : List (Fr → Bool)) (fn : List Df) (ts : List Tab) (tf : List (Fr → Addr)) (s : PySem.W.SharedT) : Al := obsA A fc fn ts tf (HandSHeadRun.getT s)
theorem ob_eq {A : (Addr → Option Obj) → List Addr} {fc : List (Fr → Bool)} {fn : List Df} {ts : List Tab} {tf : List (Fr → Addr)} (s : PySem.W.SharedT) : ob A fc fn ts tf s = (hook A fc fn ts tf).obs s.abs := by
  have e : HandSHeadRun.getT s = s.abs.heap.get? := funext (HandSHeadRun.getT_eq s)
  show obsA A fc fn ts tf (HandSHeadRun.getT s) = obsA A fc fn ts tf s.abs.heap.get?
  rw [e]
/-! ### the run, in three looks -/
theorem map3 {α β γ δ : Type} {o : Option δ} {f : δ → α} {g : δ → β} {h : δ → γ} {a : α} {b : β} {c : γ} (e1 : o.map f = some a) (e2 : o.map g = some b) (e3 : o.map h = some c) : o.map (fun s => (f s, g s, h s)) = some (a, b, c) := by
  cases o with
  | none => cases e1
  | some s =>
    cases e1
    cases e2
    cases e3
    rfl
/-! ### a property, a class of plain objects -/
/-- the function of a property -/
def propAt (K : Fr) (p : Addr) : Addr := match PySem.W.recIn K p "property" with
  | some (.ref g :: _) => g
  | _ => 0
def propB (K : Fr) (C : Addr) (f : Str) : Bool := (match PySem.W.findIn K (.ref C) f with
  | some (some (.ref p)) => (match PySem.W.recIn K p "property" with
    | some (.ref _ :: _) => true
    | _ => false) && (decide (PySem.W.specialIn K (.ref p) "__get__" = some (some (.builtin "property.__get__"))) && decide (PySem.W.takesIn K (.ref p) = some true))
  | _ => false)
/-- a class of the text whose objects are plain -/
def insB (K : Fr) (C : Addr) : Bool := PySem.W.plainGet K C Str.empty && (PySem.W.hasDictIn K C && (PySem.W.plainOver K C && (eqO (PySem.W.findIn K (.ref C) "__setattr__") (some (some (.builtin "object.__setattr__"))) && (eqO (PySem.W.findIn K (.ref C) "__class__") (some (some (.builtin "object.__class__"))) && (eqO (PySem.W.specialIn K (.builtin "object.__class__") "__get__") (some (some (.builtin "getset_descriptor.__get__"))) && (decide (PySem.W.takesIn K (.builtin "object.__class__") = some true) && (decide (PySem.W.mroIn K C (.type "object") = some true) && decide (PySem.W.kitOne K (.ref C) (.ref C) = some true))))))))
def noB (K : Fr) (C : Addr) (f : Str) : Bool := eqO (PySem.W.findIn K (.ref C) f) (some none)
section
variable {fc : List (Fr → Bool)} {fn : List Df} {ts : List Tab} {tf : List (Fr → Addr)} {w : World} {h : Heap} {K : Fr} {mg : Str → Option Value}
theorem Says.fact (c : Says fc fn ts tf w h K) (i : Nat) {f : Fr → Bool} (e : fc[i]? = some f := by rfl) : f K = true := c.f f (List.mem_of_getElem? e)
theorem Says.def_ (c : Says fc fn ts tf w h K) (i : Nat) {d : Df} (e : fn[i]? = some d := by rfl) (hd : d.dfl = [] := by rfl) : ∃ fd, Fun K d.name d.qual d.st (d.path K) fd := by
  obtain ⟨h1, h2⟩ := c.d d (List.mem_of_getElem? e)
  obtain ⟨oc, od, dV, kV, doc, pm, an, ct, osl, lk, ci, dv, _, kp⟩ := Df.fn h1 h2
  have z : dV = .none := by
    rw [hd] at dv
    rcases dv with ⟨_, z⟩ | ⟨z, _⟩
    · exact z
    · exact absurd rfl z
  subst z
  exact ⟨_, fun_mk lk ci kp⟩
end
end GH

/-! what the top wrote, by one run -/
namespace TK
open PySem PySem.W PySem.Calls PyProof.Rows L2
def top0 (i : Nat) : Stmt := PySem.Challenge.pw_millbrook_k61_history_entries.main.body.getD i (.Pass ⟨0, 0, 0, 0⟩)
def fcs0 : List (GH.Fr → Bool) := [fun K => (He.Fa.free "isinstance").ok K,
  fun K => (He.Fa.free "int").ok K,
  fun K => (He.Fa.free "bool").ok K,
  fun K => (He.Fa.free "str").ok K,
  fun K => (He.Fa.free "list").ok K,
  fun K => (He.Fa.free "tuple").ok K,
  fun K => (He.Fa.free "set").ok K,
  fun K => (He.Fa.free "len").ok K,
  fun K => (He.Fa.free "range").ok K,
  fun K => (He.Fa.free "enumerate").ok K,
  fun K => (He.Fa.free "abs").ok K,
  fun K => (He.Fa.free "min").ok K,
  fun K => (He.Fa.free "max").ok K,
  fun K => (He.Fa.free "sum").ok K,
  fun K => (He.Fa.free "any").ok K,
  fun K => (He.Fa.free "all").ok K,
  fun K => (He.Fa.free "sorted").ok K,
  fun K => (He.Fa.glo "is_integer").ok K,
  fun K => (He.Fa.glo "is_number").ok K,
  fun K => (He.Fa.glo "check_number").ok K,
  fun K => (He.Fa.glo "number_of_text").ok K,
  fun K => (He.Fa.glo "check_house").ok K,
  fun K => (He.Fa.glo "is_weight").ok K,
  fun K => (He.Fa.glo "is_bag_row").ok K,
  fun K => (He.Fa.glo "is_row").ok K]
def fcs1 : List (GH.Fr → Bool) := [fun K => (He.Fa.glo "is_place").ok K,
  fun K => (He.Fa.glo "check_row").ok K,
  fun K => (He.Fa.glo "check_place").ok K,
  fun K => (He.Fa.glo "swapped").ok K,
  fun K => (He.Fa.glo "_check_all").ok K,
  fun K => (He.Fa.glo "_third_kinds").ok K,
  fun K => (He.Fa.glo "_helper_indexes").ok K,
  fun K => (He.Fa.glo "_nearness").ok K,
  fun K => (He.Fa.glo "_entry_of").ok K,
  fun K => (He.Fa.glo "_law_cell").ok K,
  fun K => (He.Fa.glo "_law_bag").ok K,
  fun K => (He.Fa.glo "_law_take").ok K,
  fun K => (He.Fa.glo "_law_stones").ok K,
  fun K => (He.Fa.glo "_law_row").ok K,
  fun K => (He.Fa.glo "_law_number").ok K,
  fun K => (He.Fa.glo "_law_text").ok K,
  fun K => (He.Fa.glo "_law_names").ok K,
  fun K => (He.Fa.glo "_law_nearest").ok K,
  fun K => (He.Fa.glo "_law_tried").ok K,
  fun K => (He.Fa.glo "_law_swap").ok K,
  fun K => (He.Fa.glo "_law_read").ok K,
  fun K => (He.Fa.glo "_law_shows").ok K,
  fun K => (He.Fa.glo "_law_pick").ok K,
  fun K => (He.Fa.glo "law").ok K,
  fun K => (He.Fa.int "MOST_WEIGHT" 1000000000000).ok K]
def fcs2 : List (GH.Fr → Bool) := [fun K => (He.Fa.int "MOST_STONES" 40).ok K,
  fun K => (He.Fa.int "_MOST_LIMIT" 1000).ok K,
  fun K => (He.Fa.glo "House").ok K,
  fun K => (He.Fa.glo "Desk").ok K,
  fun K => GH.insB K (He.ga K "House"),
  fun K => GH.noB K (He.ga K "House") "text",
  fun K => GH.noB K (He.ga K "House") "number",
  fun K => (He.Fa.mkr "House").ok K,
  fun K => (He.Fa.meth "House" "names_index").ok K,
  fun K => GH.insB K (He.ga K "Desk"),
  fun K => GH.noB K (He.ga K "Desk") "house",
  fun K => GH.noB K (He.ga K "Desk") "_limit",
  fun K => GH.noB K (He.ga K "Desk") "_state",
  fun K => GH.noB K (He.ga K "Desk") "_to_undo",
  fun K => GH.noB K (He.ga K "Desk") "_to_redo",
  fun K => GH.noB K (He.ga K "Desk") "_state_of_mark",
  fun K => (He.Fa.mkr "Desk").ok K,
  fun K => (He.Fa.meth "Desk" "history").ok K,
  fun K => (He.Fa.meth "Desk" "undo").ok K,
  fun K => (He.Fa.meth "Desk" "redo").ok K,
  fun K => (He.Fa.meth "Desk" "change").ok K,
  fun K => (He.Fa.meth "Desk" "_enter").ok K,
  fun K => GH.propB K (He.ga K "Desk") "present",
  fun K => He.valsB K (He.ga K "_SIDES") [("", .int 0), ("l", .int 1), ("b", .int 2), ("lb", .int 3), ("h", .int 4), ("lh", .int 5), ("bh", .int 6), ("lbh", .int 7)],
  fun K => (He.Fa.glo "_SIDES").ok K]
def fcs3 : List (GH.Fr → Bool) := [fun K => (He.Fa.glo "Barred").ok K,
  fun K => GH.oexB K (He.ga K "Barred"),
  fun K => L2.xfB K (He.ga K "Barred"),
  fun K => decide (PySem.W.subIn K (.ref (He.ga K "Barred")) (.type "BaseException") = some true),
  fun K => decide (PySem.W.typeIn K (.ref (He.ga K "Barred")) = some (.type "type")),
  fun K => decide (PySem.W.isClsIn K (He.ga K "Barred") = true),
  fun K => decide (PySem.W.findIn K (.ref (He.ga K "Barred")) "__init__" = some (some (.ref (He.ma K (He.ga K "Barred") "__init__")))),
  fun K => decide (PySem.W.typeIn K (.ref (He.ma K (He.ga K "Barred") "__init__")) = some (.type "function")),
  fun K => (He.Fa.glo "InvalidPlace").ok K,
  fun K => (He.Fa.glo "Full").ok K,
  fun K => (He.Fa.glo "MillError").ok K,
  fun K => (He.Fa.free "ValueError").ok K,
  fun K => decide (PySem.W.findIn K (.ref (He.ga K "Barred")) "place" = some none),
  fun K => decide (PySem.W.findIn K (.ref (He.ga K "Barred")) "step" = some none),
  fun K => decide (PySem.W.exmOne K (.ref (He.ga K "Barred")) (.ref (He.ga K "MillError")) = some true),
  fun K => decide (PySem.W.kitOne K (.ref (He.ga K "Barred")) (.ref (He.ga K "InvalidPlace")) = some false),
  fun K => decide (PySem.W.kitOne K (.ref (He.ga K "Barred")) (.ref (He.ga K "Barred")) = some true),
  fun K => decide (PySem.W.kitOne K (.ref (He.ga K "Barred")) (.ref (He.ga K "Full")) = some false),
  fun K => decide (PySem.W.kitOne K (.ref (He.ga K "Barred")) (.type "ValueError") = some true),
  fun K => decide (PySem.W.findIn K (.ref (He.ga K "Barred")) "__class__" = some (some (.builtin "object.__class__"))),
  fun K => decide (PySem.W.specialIn K (.builtin "object.__class__") "__get__" = some (some (.builtin "getset_descriptor.__get__"))),
  fun K => decide (PySem.W.takesIn K (.builtin "object.__class__") = some true),
  fun K => decide (PySem.W.mroIn K (He.ga K "Barred") (.type "object") = some true),
  fun K => (He.Fa.glo "nearest_helper").ok K]
abbrev fcs : List (GH.Fr → Bool) := fcs0 ++ fcs1 ++ fcs2 ++ fcs3
def fns0 : List GH.Df := [⟨fun K => He.ga K "is_integer", "is_integer", "is_integer", (top0 14), [], []⟩,
  ⟨fun K => He.ga K "is_number", "is_number", "is_number", (top0 15), [], []⟩,
  ⟨fun K => He.ga K "check_number", "check_number", "check_number", (top0 16), [], []⟩,
  ⟨fun K => He.ga K "number_of_text", "number_of_text", "number_of_text", (top0 22), [], []⟩,
  ⟨fun K => He.ga K "check_house", "check_house", "check_house", (top0 23), [], []⟩,
  ⟨fun K => He.ga K "is_weight", "is_weight", "is_weight", (top0 31), [], []⟩,
  ⟨fun K => He.ga K "is_bag_row", "is_bag_row", "is_bag_row", (top0 32), [], []⟩,
  ⟨fun K => He.ga K "is_row", "is_row", "is_row", (top0 33), [], []⟩,
  ⟨fun K => He.ga K "is_place", "is_place", "is_place", (top0 34), [], []⟩,
  ⟨fun K => He.ga K "check_row", "check_row", "check_row", (top0 35), [], []⟩,
  ⟨fun K => He.ga K "check_place", "check_place", "check_place", (top0 36), [], []⟩,
  ⟨fun K => He.ga K "swapped", "swapped", "swapped", (top0 38), [], []⟩,
  ⟨fun K => He.ga K "_check_all", "_check_all", "_check_all", (top0 42), [], []⟩,
  ⟨fun K => He.ga K "_third_kinds", "_third_kinds", "_third_kinds", (top0 43), [], []⟩,
  ⟨fun K => He.ga K "_helper_indexes", "_helper_indexes", "_helper_indexes", (top0 44), [], []⟩,
  ⟨fun K => He.ga K "_nearness", "_nearness", "_nearness", (top0 45), [], []⟩,
  ⟨fun K => He.ga K "_entry_of", "_entry_of", "_entry_of", (top0 122), [], []⟩,
  ⟨fun K => He.ga K "_law_cell", "_law_cell", "_law_cell", (top0 125), [], []⟩,
  ⟨fun K => He.ga K "_law_bag", "_law_bag", "_law_bag", (top0 126), [], []⟩,
  ⟨fun K => He.ga K "_law_take", "_law_take", "_law_take", (top0 127), [], []⟩,
  ⟨fun K => He.ga K "_law_stones", "_law_stones", "_law_stones", (top0 128), [], []⟩,
  ⟨fun K => He.ga K "_law_row", "_law_row", "_law_row", (top0 129), [], []⟩,
  ⟨fun K => He.ga K "_law_number", "_law_number", "_law_number", (top0 130), [], []⟩,
  ⟨fun K => He.ga K "_law_text", "_law_text", "_law_text", (top0 131), [], []⟩,
  ⟨fun K => He.ga K "_law_names", "_law_names", "_law_names", (top0 132), [], []⟩]
def fns1 : List GH.Df := [⟨fun K => He.ga K "_law_nearest", "_law_nearest", "_law_nearest", (top0 133), [], []⟩,
  ⟨fun K => He.ga K "_law_tried", "_law_tried", "_law_tried", (top0 134), [], []⟩,
  ⟨fun K => He.ga K "_law_swap", "_law_swap", "_law_swap", (top0 135), [], []⟩,
  ⟨fun K => He.ga K "_law_read", "_law_read", "_law_read", (top0 136), [], []⟩,
  ⟨fun K => He.ga K "_law_shows", "_law_shows", "_law_shows", (top0 137), [], []⟩,
  ⟨fun K => He.ga K "_law_pick", "_law_pick", "_law_pick", (top0 138), [], []⟩,
  ⟨fun K => He.ga K "law", "law", "law", (top0 139), [], []⟩,
  ⟨fun K => He.ma K (He.ga K "House") "__init__", "__init__", "House.__init__", (inClass (top0 24) 1), [], []⟩,
  ⟨fun K => (He.ma K (He.ga K "House") "names_index"), "names_index", "House.names_index", (inClass (top0 24) 5), [], []⟩,
  ⟨fun K => He.ma K (He.ga K "Desk") "__init__", "__init__", "Desk.__init__", (inClass (top0 123) 0), [.int 100], []⟩,
  ⟨fun K => (He.ma K (He.ga K "Desk") "history"), "history", "Desk.history", (inClass (top0 123) 10), [], []⟩,
  ⟨fun K => (He.ma K (He.ga K "Desk") "undo"), "undo", "Desk.undo", (inClass (top0 123) 8), [], []⟩,
  ⟨fun K => (He.ma K (He.ga K "Desk") "redo"), "redo", "Desk.redo", (inClass (top0 123) 9), [], []⟩,
  ⟨fun K => (He.ma K (He.ga K "Desk") "change"), "change", "Desk.change", (inClass (top0 123) 7), [], []⟩,
  ⟨fun K => (He.ma K (He.ga K "Desk") "_enter"), "_enter", "Desk._enter", (inClass (top0 123) 6), [], []⟩,
  ⟨fun K => GH.propAt K (He.ma K (He.ga K "Desk") "present"), "present", "Desk.present", (inClass (top0 123) 1), [], []⟩,
  ⟨fun K => (He.ma K (He.ga K "Barred") "__init__"), "__init__", "Barred.__init__", (inClass (top0 8) 0), [], []⟩,
  ⟨fun K => He.ga K "nearest_helper", "nearest_helper", "nearest_helper", (top0 47), [], []⟩]
abbrev fns : List GH.Df := fns0 ++ fns1
def tbs : List He.Tab := [(fun K => He.ga K "_SIDES", ["", "l", "b", "lb", "h", "lh", "bh", "lbh"])]
def tfs : List (GH.Fr → Addr) := [fun K => He.ga K "nearest_helper"]
abbrev R : OpenRow := OpenLaw.row PySem.Challenge.rw_millbrook_k61_history_entries
abbrev qv : Program := view R.prog [139]
def names : List PySem.Str := (["_wall", "__name__", "MillError", "InvalidRow", "InvalidPlace", "InvalidHouse", "InvalidNumber", "UnlikeStones", "Barred", "NothingToUndo", "NothingToRedo", "Full", "Apart", "is_integer", "is_number", "check_number", "_MOST_HOUSES", "_SIDES", "_FLIPPED_SIDES", "text_of_number", "number_of_text", "check_house", "House", "goal_order", "least_walk", "MOST_STONES", "MOST_WEIGHT", "is_weight", "is_bag_row", "is_row"] : List PySem.Str) ++ (["is_place", "check_row", "check_place", "check_alike", "swapped", "mirrored_row", "flipped_row", "_check_all", "_third_kinds", "_helper_indexes", "_nearness", "frees", "nearest_helper", "covers", "covered", "_couples_with", "far_of", "_answered", "_before", "_neighbours_in_weight", "blocks", "_heaviest_lighter_before", "_far_couples", "turning_points", "lows", "_before_lightest", "lightest_heavier_before", "_behind_next_heavier", "_front", "_lightest_before_lightest"] : List PySem.Str) ++ (["_heaviest_before_lightest", "_ascending_front", "_descending_lightest", "_is_spiral", "_spiral_side", "_lightest_in_front", "_lightest_before_second", "_lightest_before_heaviest", "_ascending", "_middle_in_front", "_middle_lightest_heaviest", "_nothing", "_CONTENTS", "content_of", "small_and_big_chain", "Led", "_lead_small_and_big", "_heaviest_to", "_lead_ascending_front", "_lead_not_ascending", "_lead_descending_lightest", "_is_outermost_in_front", "_move_outermost", "_lead_outermost", "_lead_no_spiral", "_lead_past_front", "_lead_lightest", "_lead_heaviest", "_LEADS", "places_to_goal"] : List PySem.Str) ++ (["changes_of", "distances_from", "_SORTS", "first_house_and_carry", "sort_and_carry", "grade", "carried", "LEAST_CARRIED", "seal_of", "are_one_class", "check_pair", "_least_free_turned", "_walk_by_free_places", "_walk_by_search", "_shortest_of_class", "_walk_by_leads", "road", "_MOST_LIMIT", "_entry_of", "Desk", "_law_cell", "_law_bag", "_law_take", "_law_stones", "_law_row", "_law_number", "_law_text", "_law_names", "_law_nearest", "_law_tried"] : List PySem.Str) ++ (["_law_swap", "_law_read", "_law_shows", "_law_pick"] : List PySem.Str)
def roots : List PySem.Str := (["is_integer", "is_number", "check_number", "number_of_text", "check_house", "is_weight", "is_bag_row", "is_row", "is_place", "check_row", "check_place", "swapped", "_check_all", "_third_kinds", "_helper_indexes", "_nearness", "_entry_of", "_law_cell", "_law_bag", "_law_take", "_law_stones", "_law_row", "_law_number", "_law_text", "_law_names", "_law_nearest", "_law_tried", "_law_swap", "_law_read", "_law_shows"] : List PySem.Str) ++ (["_law_pick", "law", "House", "Desk", "_SIDES", "Barred", "InvalidPlace", "Full", "MillError", "nearest_helper"] : List PySem.Str)
abbrev hk : Hook := GH.hook (GH.asN roots 4) fcs fns tbs tfs
def ob (s : SharedT) : GH.Al := GH.ob (GH.asN roots 4) fcs fns tbs tfs s
theorem run_looksF (w : World) (os : OsState) : (HandSHeadRun.endF (HandSHeadRun.stepQ (HandSHeadRun.denQ HandSHeadRun.tabQ) R.prog (w.withFollow "special-get-raises" false)) 20000 R.prog (w.withFollow "special-get-raises" false) os).map (fun x => HandSHeadRun.looksF R.prog (boot_heap (w.withFollow "special-get-raises" false).params) x.abs) = some (true) := by kernel_rfl
theorem run_seenF (w : World) (os : OsState) : (HandSHeadRun.endF (HandSHeadRun.stepQ (HandSHeadRun.denQ HandSHeadRun.tabQ) R.prog (w.withFollow "special-get-raises" false)) 20000 R.prog (w.withFollow "special-get-raises" false) os).map (fun x => HandSHeadRun.seenQ qv names (importedModules R.prog.main.body) (fun s => xlAt qv [] s && recOk R.toRowW.records s) x.abs) = some (openGood qv names) := by kernel_rfl
theorem run_obsF (w : World) (os : OsState) : (HandSHeadRun.endF (HandSHeadRun.stepQ (HandSHeadRun.denQ HandSHeadRun.tabQ) R.prog (w.withFollow "special-get-raises" false)) 20000 R.prog (w.withFollow "special-get-raises" false) os).map (fun x => ob x) = some (hk.val (w.withFollow "special-get-raises" false)) := by kernel_rfl
theorem runF (w : World) : HandSHeadRun.RunEq R qv hk ob 20000 names (w.withFollow "special-get-raises" false) := fun os => GH.map3 (run_looksF w os) (run_seenF w os) (run_obsF w os)
theorem run_looksT (w : World) (os : OsState) : (HandSHeadRun.endF (HandSHeadRun.stepQ (HandSHeadRun.denQ HandSHeadRun.tabQ) R.prog (w.withFollow "special-get-raises" true)) 20000 R.prog (w.withFollow "special-get-raises" true) os).map (fun x => HandSHeadRun.looksF R.prog (boot_heap (w.withFollow "special-get-raises" true).params) x.abs) = some (true) := by kernel_rfl
theorem run_seenT (w : World) (os : OsState) : (HandSHeadRun.endF (HandSHeadRun.stepQ (HandSHeadRun.denQ HandSHeadRun.tabQ) R.prog (w.withFollow "special-get-raises" true)) 20000 R.prog (w.withFollow "special-get-raises" true) os).map (fun x => HandSHeadRun.seenQ qv names (importedModules R.prog.main.body) (fun s => xlAt qv [] s && recOk R.toRowW.records s) x.abs) = some (openGood qv names) := by kernel_rfl
theorem run_obsT (w : World) (os : OsState) : (HandSHeadRun.endF (HandSHeadRun.stepQ (HandSHeadRun.denQ HandSHeadRun.tabQ) R.prog (w.withFollow "special-get-raises" true)) 20000 R.prog (w.withFollow "special-get-raises" true) os).map (fun x => ob x) = some (hk.val (w.withFollow "special-get-raises" true)) := by kernel_rfl
theorem runT (w : World) : HandSHeadRun.RunEq R qv hk ob 20000 names (w.withFollow "special-get-raises" true) := fun os => GH.map3 (run_looksT w os) (run_seenT w os) (run_obsT w os)
theorem run (w : World) : HandSHeadRun.RunEq R qv hk ob 20000 names w := byRow2 "special-get-raises" (P := fun w => HandSHeadRun.RunEq R qv hk ob 20000 names w) runF runT w
end TK
open PySem PySem.W PySem.Calls PyProof.Rows in
set_option maxHeartbeats 0 in
theorem TK.head (F : ∀ (w : World) (mg : Str → Option Value) (fa : Addr) (h : Heap) (K : GH.Fr), K.In h → h.Ns mainGlobals mg → mg "law" = some (.ref fa) → GH.Says TK.fcs TK.fns TK.tbs TK.tfs w h K → LamX.LawAtS PySem.Challenge.rw_millbrook_k61_history_entries w K L2.CX0 12 63 "script" mg fa h) : PySem.Challenge.rw_millbrook_k61_history_entries.Holds := by
  w_on; o_law
  refine HandSHeadRun.head_any (r := OpenLaw.row PySem.Challenge.rw_millbrook_k61_history_entries) (q := TK.qv) (H := TK.hk) (ob := TK.ob) (M := 20000) (loose := TK.names) (d := HandSHeadRun.topDef (OpenLaw.row PySem.Challenge.rw_millbrook_k61_history_entries).prog 139) (kwd := []) GH.ob_eq (by kernel_rfl) (fun s => by kernel_rfl) TK.run (by kernel_rfl) (by kernel_rfl) (by kernel_rfl) (by rfl) (by first | assumption | decide +kernel) (by decide +kernel) ⟨rfl, rfl, rfl, rfl, rfl, by decide +kernel⟩ ?hw ?hc
  case hw => w_witness2
  case hc =>
    refine LamX.walk_ofTsE (l := PySem.Challenge.rw_millbrook_k61_history_entries) (n := 63) (k := 12) (x := "script") (CX := fun _ => L2.CX0) rfl (by rw [sizeLine_eq]; decide) (by kernel_rfl) ⟨rfl, by decide, by decide⟩ ?F (fun _ _ _ _ _ z => z)
    case F =>
      intro w mg fa h Y G hmg0
      obtain ⟨K, KX, c⟩ := Y
      have hmg : mg ("law" : PySem.Str) = some (.ref fa) := by
        have e : (HandSHeadRun.topDef (OpenLaw.row PySem.Challenge.rw_millbrook_k61_history_entries).prog 139).name = ("law" : PySem.Str) := by kernel_rfl
        rw [← e]
        exact hmg0
      exact ⟨K, KX, F w mg fa h K KX G hmg c⟩

namespace GV
open PySem PySem.Spec PyProof.Rows L2
/-- a set as it is new -/
abbrev nset (w : World) : Obj := { cls := .type "set", dict := none, data := .set #[] 0 (.fresh 0 0 (!w.params.followText "set-order")) }
section
variable {P : Program} {w : World} {A : Around} {E : Value → Shared → Prop} {s : Shared}
set_option maxHeartbeats 3200000 in
/-- set(l), l a list of ints: its members in the order of the world -/
theorem set_ofL {l : Addr} {items : Array Value} (ns : List Int) {Q : Value → Shared → Prop} (hh : A.handled = none) (hl : s.heap.IsList l items) (hit : IntsAre items.toList ns) (hb : ns.length + 1 < scanBound)
    (fin : ∀ (g : Heap) (tk c : Nat), SetR w g s.heap.objs.size (fun j => decide (j ∈ ns)) c → c ≤ ns.length → (∀ b o, s.heap.get? b = some o → g.get? b = some o) → Q (.ref s.heap.objs.size) { s with heap := g, toks := tk }) :
    wpAny (model P w) A (call (.type "set") [.ref l]) Q E s := by
  have size : items.size = ns.length := by
    have q := IntsAre.length hit
    rwa [Array.length_toList] at q
  obtain ⟨c, tl, hmro⟩ := F.called_set.mro
  have a1 := F.called_set.made
  have a2 := F.called_set.sub
  refine wpAny_call (codeAny_of_tree (show wpAny _ _ (callAny (.type "set") _) _ _ _ from wpAny_pure ⟨Code.quiet_builtin _ (by decide +kernel), codeAny_builtin F.entry_type_call ?_⟩))
  rw [Around.under_plain (weight_type_call_type "set" [.ref l] []) rfl]
  have a3 := F.called_set.notType
  have a4 := F.called_set.canCreate
  have a5 := F.typeCall_set_1 (.ref l)
  repeat (any_goals first | assumption | wp_step)
  refine codeAny_mono (code_set_led1 (.ref l) (E := E) (Q₁ := fun o s₁ => o = .ref s.heap.objs.size ∧ s₁ = { s with heap := s.heap.push (nset w) }) ⟨rfl, rfl⟩) fun r s₁ hr => ?_
  rcases r with er | fl
  · exact hr
  rcases fl with _ | _ | _ | ob
  iterate 3 exact hr.elim
  obtain ⟨rfl, rfl⟩ := hr
  have at0 : (s.heap.push (nset w)).get? s.heap.objs.size = some (nset w) := Heap.get?_push_size _ rfl
  have ty0 : Shared.TypeIs { s with heap := s.heap.push (nset w) } (.ref s.heap.objs.size) "set" := ⟨_, at0, rfl⟩
  have b1 := F.called_set.init.lookup
  have b2 := F.called_set.init.bind (.ref s.heap.objs.size)
  repeat (any_goals first | assumption | wp_step)
  refine codeAny_mono (codeAny_call_builtin (R := wants (fun r s₂ => r = .none ∧ ∃ g tk c, s₂ = { s with heap := g, toks := tk } ∧ SetR w g s.heap.objs.size (fun j => decide (j ∈ ns)) c ∧ c ≤ ns.length ∧ (∀ b o, s.heap.get? b = some o → g.get? b = some o)) E)
    F.called_set.init.plain F.entry_set_init (check_set_init_1 ty0 ?_)) fun r₂ s₂ hr₂ => ?_
  · obtain ⟨⟨oc, od, odt, osl⟩, hol, hcl, nl, hdl⟩ := hl
    simp only at hcl hdl
    subst hcl hdl
    have ol : (s.heap.push (nset w)).get? l = some { cls := .type "list", dict := od, data := .seq items nl, slots := osl } := Heap.get?_push_of_some _ hol
    have c1 := F.sub_list_set
    have c2 := F.sub_list_frozenset
    have c3 : (Value.type "list" == Value.type "dict") = false := by decide
    have isl : (s.heap.push (nset w)).IsList l items := ⟨_, ol, rfl, nl, rfl⟩
    unfold Builtin.«set.__init__» noKeywords Builtin.Frozenset.updateFrom
    generalize hPI : pyIter = PI
    wp_walk
    subst hPI
    refine wpAny_pyIter_list isl (wpAny_bind (wpAny_runValue ?_))
    have lt : l < s.heap.objs.size := Heap.lt_size hol
    have hh3 : A.in1.in1.in1.handled = none := by simp [hh]
    have neI : l ≠ (s.heap.push (nset w)).objs.size := by
      rw [Heap.size_push]
      exact Nat.ne_of_lt (Nat.lt_succ_of_lt lt)
    have nf : s.heap.objs.size ∉ [(s.heap.push (nset w)).objs.size, l] := by
      rw [Heap.size_push]
      simp only [List.mem_cons, List.not_mem_nil, or_false, not_or]
      exact And.intro (Nat.ne_of_lt (Nat.lt_succ_self _)) (Nat.ne_of_gt lt)
    have val : ∀ (i : Nat) (v : Value), items[i]? = some v → ∃ k t, ns[i]? = some k ∧ v = .int k t := fun i v hv => by
      have hi : i < ns.length := by rw [← size]; exact (Array.getElem?_eq_some_iff.mp hv).1
      obtain ⟨t, e⟩ := PyProof.Rows.IntsAre.int_at hit i v (by rwa [Array.getElem?_toList])
      refine ⟨ns[i], t, List.getElem?_eq_getElem hi, ?_⟩
      rw [e, List.getD_eq_getElem?_getD, List.getElem?_eq_getElem hi, Option.getD_some]
    refine set_update_ints ((Walks.list hh3 _ l neI items).toS) s.heap.objs.size nf ns size hb val (items.size - 0) 0 _ (by omega) (Nat.zero_le _) ⟨⟨_, Heap.get?_push_size _ rfl, rfl, rfl⟩, isl.push _⟩ ?z ?y
    case z => exact ⟨0, Nat.le_refl 0, setR_new_at (Heap.get?_push_of_some _ at0)⟩
    case y =>
      rintro ⟨g, gn, dr, tk, os⟩ c' hm hc' hS'
      obtain rfl : gn = s.gens := hm.gens
      obtain rfl : dr = s.drawn := hm.drawn
      obtain rfl : os = s.os := hm.os
      refine wpAny_pure (show wpAny _ _ (ret Value.none) _ _ _ from wpAny_pure ⟨rfl, g, tk, c', rfl, hS', size ▸ hc', fun b o e => ?_⟩)
      have b0 : b < s.heap.objs.size := Heap.lt_size e
      refine hm.heap b o ?_ (Heap.get?_push_of_some _ (Heap.get?_push_of_some _ e))
      rw [Heap.size_push]
      simp only [List.mem_cons, List.not_mem_nil, or_false, not_or]
      exact And.intro (Nat.ne_of_lt b0) (Nat.ne_of_lt (Nat.lt_succ_of_lt b0))
  · rcases r₂ with er | fl₂
    · exact hr₂
    rcases fl₂ with _ | _ | _ | r
    iterate 3 exact hr₂.elim
    obtain ⟨rfl, g, tk, c', rfl, hS', hc', hk'⟩ := hr₂
    repeat (any_goals first | assumption | wp_step)
    exact fin _ _ _ hS' hc' hk'
end
end GV

/-! Rules upon the syntax itself: the weakest reading of a piece of text, and what it gives on data. -/
namespace GV
open PySem PySem.Spec PyProof.Rows L2
abbrev St := L2.St

/-! ### the weakest readings -/
def wE (X : Cx) (e : Expr) : TE := fun σ H Q => ∃ t, PE X e t ∧ t σ H Q
def wT (X : Cx) (e : Expr) : TT := fun σ H Q => ∃ t, PT X e t ∧ t σ H Q
def wA (X : Cx) (es : List Expr) : TA := fun σ H Q => ∃ t, PA X es t ∧ t σ H Q
def wS (X : Cx) (st : Stmt) : TS := fun D σ H => ∃ t, PS X st t ∧ t D σ H
def wB (X : Cx) (st : List Stmt) : TS := fun D σ H => ∃ t, PSs X st t ∧ t D σ H
section
variable {X : Cx}
theorem wE.pe {e : Expr} : PE X e (wE X e) := ⟨fun pins s σ H Q I ⟨_, h, q⟩ => h.run pins s σ H Q I q⟩
theorem wT.pt {e : Expr} : PT X e (wT X e) := ⟨fun pins s σ H Q I ⟨_, h, q⟩ => h.run pins s σ H Q I q⟩
theorem wA.pa {es : List Expr} : PA X es (wA X es) := ⟨fun pos pins s σ H Q I ⟨_, h, q⟩ => h.run pos pins s σ H Q I q⟩
theorem wS.ps {st : Stmt} : PS X st (wS X st) := ⟨fun pins s σ H D I ⟨_, h, q⟩ => h.run pins s σ H D I q⟩
theorem wB.ps {st : List Stmt} : PSs X st (wB X st) := ⟨fun pins s σ H D I ⟨_, h, q⟩ => h.run pins s σ H D I q⟩
end

/-! ### what is known of the heap: all but the mutable things at M and the tables -/
def NT (o : HO) : Prop := ∀ ps, o ≠ .tbl ps
def ExM (M : Addr → Prop) (H H' : Hp) : Prop := ∀ a o, H a = some o → ¬ M a → NT o → H' a = some o
def Alive (M : Addr → Prop) (H : Hp) : Prop := ∀ a, M a → ∃ o, H a = some o
theorem ExM.refl {M : Addr → Prop} (H : Hp) : ExM M H H := fun _ _ h _ _ => h
theorem ExM.trans {M : Addr → Prop} {H H1 H2 : Hp} (a : ExM M H H1) (b : ExM M H1 H2) : ExM M H H2 := fun x o h m n => b x o (a x o h m n) m n
theorem ExM.of {M : Addr → Prop} {H H' : Hp} (e : Evl.Ex H H') : ExM M H H' := fun a o h _ _ => e a o h
theorem Alive.mono {M : Addr → Prop} {H H' : Hp} (a : Alive M H) (e : Evl.Ex H H') : Alive M H' := fun x m => let ⟨o, h⟩ := a x m; ⟨o, e x o h⟩
theorem Alive.fresh {M : Addr → Prop} {H : Hp} {p : Addr} (a : Alive M H) (h : H p = none) : ¬ M p := fun m => by
  obtain ⟨o, q⟩ := a p m
  rw [h] at q
  cases q

mutual
/-- v is the datum d, none of whose parts lies in M -/
inductive Rp (K : PySem.W.Frag) (M : Addr → Prop) (H : Hp) : V → PyData → Prop
  | non : Rp K M H .non .none
  | bl (b : Bool) : Rp K M H (.bl b) (.bool b)
  | int (i : Int) : Rp K M H (.int i) (.int i)
  | str (x : Str) : Rp K M H (.str x) (.str x)
  | lst {a : Addr} {xs : List V} {ds : List PyData} : ¬ M a → Rd H a (.lst xs) → RpAll K M H xs ds → Rp K M H (.ref a) (.list ds)
  | tup {a : Addr} {xs : List V} {ds : List PyData} : ¬ M a → Rd H a (.tup xs) → RpAll K M H xs ds → Rp K M H (.ref a) (.tuple ds)
inductive RpAll (K : PySem.W.Frag) (M : Addr → Prop) (H : Hp) : List V → List PyData → Prop
  | nil : RpAll K M H [] []
  | cons {v : V} {vs : List V} {d : PyData} {ds : List PyData} : Rp K M H v d → RpAll K M H vs ds → RpAll K M H (v :: vs) (d :: ds)
end

section
variable {K : PySem.W.Frag} {M M' : Addr → Prop} {H H' : Hp}
theorem Rd.exM {a : Addr} {xs : List V} (h : Rd H a (.lst xs)) (m : ¬ M a) (e : ExM M H H') : Rd H' a (.lst xs) := by
  rcases h with h | ⟨o, h⟩
  · exact .inl (e _ _ h m (fun _ z => by cases z))
  · exact .inr ⟨o, e _ _ h m (fun _ z => by cases z)⟩
theorem Rd.exT {a : Addr} {xs : List V} (h : Rd H a (.tup xs)) (m : ¬ M a) (e : ExM M H H') : Rd H' a (.tup xs) := by
  rcases h with h | ⟨o, h⟩
  · exact .inl (e _ _ h m (fun _ z => by cases z))
  · exact .inr ⟨o, e _ _ h m (fun _ z => by cases z)⟩
theorem Rd.there {a : Addr} {u : HO} (h : Rd H a u) : H a ≠ none := by
  rcases h with h | ⟨o, h⟩ <;> rw [h] <;> exact fun z => by cases z
mutual
theorem Rp.mono {v : V} {d : PyData} : (r : Rp K M H v d) → (hm : ∀ a, M' a → M a) → ExM M H H' → Rp K M' H' v d
  | .non, _, _ => .non
  | .bl b, _, _ => .bl b
  | .int i, _, _ => .int i
  | .str x, _, _ => .str x
  | .lst m h r, hm, e => .lst (fun z => m (hm _ z)) (Rd.exM h m e) (RpAll.mono r hm e)
  | .tup m h r, hm, e => .tup (fun z => m (hm _ z)) (Rd.exT h m e) (RpAll.mono r hm e)
theorem RpAll.mono {vs : List V} {ds : List PyData} : (r : RpAll K M H vs ds) → (hm : ∀ a, M' a → M a) → ExM M H H' → RpAll K M' H' vs ds
  | .nil, _, _ => .nil
  | .cons r rs, hm, e => .cons (Rp.mono r hm e) (RpAll.mono rs hm e)
end
mutual
/-- further mutable things, none of which was there -/
theorem Rp.wide {v : V} {d : PyData} : (r : Rp K M H v d) → (∀ a, M' a → M a ∨ H a = none) → Rp K M' H v d
  | .non, _ => .non
  | .bl b, _ => .bl b
  | .int i, _ => .int i
  | .str x, _ => .str x
  | .lst m h r, hm => .lst (fun z => (hm _ z).elim m (Rd.there h)) h (RpAll.wide r hm)
  | .tup m h r, hm => .tup (fun z => (hm _ z).elim m (Rd.there h)) h (RpAll.wide r hm)
theorem RpAll.wide {vs : List V} {ds : List PyData} : (r : RpAll K M H vs ds) → (∀ a, M' a → M a ∨ H a = none) → RpAll K M' H vs ds
  | .nil, _ => .nil
  | .cons r rs, hm => .cons (Rp.wide r hm) (RpAll.wide rs hm)
end
mutual
theorem Rp.dp {v : V} {d : PyData} : (r : Rp K M H v d) → Dp K H v d
  | .non => .non
  | .bl b => .bl b
  | .int i => .int i
  | .str x => .str x
  | .lst _ h r => .lst (.inl h) (RpAll.dp r)
  | .tup _ h r => .tup (.inl h) (RpAll.dp r)
theorem RpAll.dp {vs : List V} {ds : List PyData} : (r : RpAll K M H vs ds) → DpAll K H vs ds
  | .nil => .nil
  | .cons r rs => .cons (Rp.dp r) (RpAll.dp rs)
end
theorem RpAll.length : ∀ {vs : List V} {ds : List PyData}, RpAll K M H vs ds → vs.length = ds.length
  | _, _, .nil => rfl
  | _, _, .cons _ rs => congrArg (· + 1) rs.length
theorem RpAll.get : ∀ {vs : List V} {ds : List PyData} {i : Nat} {d : PyData}, RpAll K M H vs ds → ds[i]? = some d → ∃ v, vs[i]? = some v ∧ Rp K M H v d
  | _, _, 0, _, .cons r _, e => by
    simp at e
    subst e
    exact ⟨_, rfl, r⟩
  | _, _, i + 1, d, .cons _ rs, e => by
    obtain ⟨v, h1, h2⟩ := RpAll.get (i := i) (d := d) rs (by simpa using e)
    exact ⟨v, by simpa using h1, h2⟩
  | _, _, _, _, .nil, e => by simp at e
theorem RpAll.append : ∀ {vs ws : List V} {ds es : List PyData}, RpAll K M H vs ds → RpAll K M H ws es → RpAll K M H (vs ++ ws) (ds ++ es)
  | _, _, _, _, .nil, s => s
  | _, _, _, _, .cons r rs, s => .cons r (RpAll.append rs s)
theorem RpAll.ints : ∀ ns : List Int, RpAll K M H (ns.map V.int) (ns.map PyData.int)
  | [] => .nil
  | n :: r => .cons (.int n) (RpAll.ints r)
theorem RpAll.of_ints : ∀ {vs : List V} {ns : List Int}, RpAll K M H vs (ns.map PyData.int) → vs = ns.map V.int
  | [], [], .nil => rfl
  | _ :: _, n :: r, .cons h hs => by
    cases h
    rw [RpAll.of_ints hs]
    rfl
end

/-! ### what a piece of text gives -/
structure PD (X : Cx) (M : Addr → Prop) (e : Expr) (σ : St) (H : Hp) (d : PyData) : Prop where
  run : ∀ H1, ExM M H H1 → Alive M H1 → ∀ Q : VK, (∀ v H2, Evl.Ex H1 H2 → Rp X.K M H2 v d → Q v H2) → wE X e σ H1 Q
structure TD (X : Cx) (M : Addr → Prop) (e : Expr) (σ : St) (H : Hp) (b : Bool) : Prop where
  run : ∀ H1, ExM M H H1 → Alive M H1 → ∀ Q : Bool → Hp → Prop, (∀ H2, Evl.Ex H1 H2 → Q b H2) → wT X e σ H1 Q
structure AD (X : Cx) (M : Addr → Prop) (es : List Expr) (σ : St) (H : Hp) (ds : List PyData) : Prop where
  run : ∀ H1, ExM M H H1 → Alive M H1 → ∀ Q : List V → Hp → Prop, (∀ vs H2, Evl.Ex H1 H2 → RpAll X.K M H2 vs ds → Q vs H2) → wA X es σ H1 Q

section
variable {X : Cx} {M : Addr → Prop} {σ : St} {H H' : Hp} {a b c e : Expr} {da db d : PyData} {pos : Pos}
theorem PD.mono (h : PD X M e σ H d) (x : ExM M H H') : PD X M e σ H' d := ⟨fun H1 e1 al Q q => h.run H1 (x.trans e1) al Q q⟩
theorem TD.mono {k : Bool} (h : TD X M e σ H k) (x : ExM M H H') : TD X M e σ H' k := ⟨fun H1 e1 al Q q => h.run H1 (x.trans e1) al Q q⟩
theorem AD.mono {es : List Expr} {ds : List PyData} (h : AD X M es σ H ds) (x : ExM M H H') : AD X M es σ H' ds := ⟨fun H1 e1 al Q q => h.run H1 (x.trans e1) al Q q⟩
theorem PD.is {d' : PyData} (h : PD X M e σ H d) (q : d = d') : PD X M e σ H d' := q ▸ h
theorem TD.is {k k' : Bool} (h : TD X M e σ H k) (q : k = k') : TD X M e σ H k' := q ▸ h
/-- names and constants -/
theorem pd_name {i : Nat} {x : Str} {v : V} (hN : X.N[i]? = some x) (hv : Vis X.env.scope x) (hs : σ[i]? = some (some v)) (r : Rp X.K M H v d)
    (hd : (x == ("__debug__" : Str)) = false := by decide) (hcd : (x == ("__classdict__" : Str)) = false := by decide) : PD X M (.Name x pos) σ H d :=
  ⟨fun H1 e1 _ Q q => ⟨_, pe_var hN hv hd hcd, v, hs, q v H1 (Evl.Ex.refl H1) (r.mono (fun _ z => z) e1)⟩⟩
theorem pd_int {i : Int} {j} : PD X M (.Constant (.int i) j pos) σ H (.int i) := ⟨fun H1 _ _ Q q => ⟨_, pe_int, q _ H1 (Evl.Ex.refl H1) (.int i)⟩⟩
theorem pd_bl {k : Bool} {j} : PD X M (.Constant (.bool k) j pos) σ H (.bool k) := ⟨fun H1 _ _ Q q => ⟨_, pe_bl, q _ H1 (Evl.Ex.refl H1) (.bl k)⟩⟩
theorem pd_non {j} : PD X M (.Constant .none j pos) σ H .none := ⟨fun H1 _ _ Q q => ⟨_, pe_non, q _ H1 (Evl.Ex.refl H1) .non⟩⟩
theorem pd_str {x : Str} {j} : PD X M (.Constant (.str x) j pos) σ H (.str x) := ⟨fun H1 _ _ Q q => ⟨_, pe_str, q _ H1 (Evl.Ex.refl H1) (.str x)⟩⟩
theorem pd_globI {x : Str} {i : Int} {t : Tok} (hg : Gl X x) (hm : X.mg x = some (.int i t)) (hd : (x == ("__debug__" : Str)) = false := by decide) : PD X M (.Name x pos) σ H (.int i) :=
  ⟨fun H1 _ _ Q q => ⟨_, pe_glob hg hm (v := .int i) ⟨t, rfl⟩ hd, q _ H1 (Evl.Ex.refl H1) (.int i)⟩⟩

/-! ### two operands -/
/-- an operator by values -/
def RD2 (X : Cx) (M : Addr → Prop) (r : R2) (da db d : PyData) : Prop :=
  ∀ x y H1, Rp X.K M H1 x da → Rp X.K M H1 y db → Alive M H1 → ∀ Q : VK, (∀ v H2, Evl.Ex H1 H2 → Rp X.K M H2 v d → Q v H2) → r x y H1 Q
theorem pd_binR {op : Operator} {r : R2} (ho : OpR X (binaryOp op) r) (hr : RD2 X M r da db d) (ha : PD X M a σ H da) (hb : PD X M b σ H db) : PD X M (.BinOp a op b pos) σ H d := ⟨fun H1 e1 al Q q =>
  ⟨_, pe_op ho wE.pe wE.pe, ha.run H1 e1 al _ fun x H2 x2 rx => hb.run H2 (e1.trans (.of x2)) (al.mono x2) _ fun y H3 x3 ry =>
    hr x y H3 (rx.mono (fun _ z => z) (.of x3)) ry ((al.mono x2).mono x3) Q fun v H4 x4 rv => q v H4 ((x2.trans x3).trans x4) rv⟩⟩
theorem pd_cmpR {op : CmpOp} {r : R2} (ho : OpR X (compareOp op) r) (hm : behindInMarks op b = false) (hr : RD2 X M r da db d) (ha : PD X M a σ H da) (hb : PD X M b σ H db) : PD X M (.Compare a [op] [b] pos) σ H d := ⟨fun H1 e1 al Q q =>
  ⟨_, pe_cmpR ho wE.pe wE.pe hm, ha.run H1 e1 al _ fun x H2 x2 rx => hb.run H2 (e1.trans (.of x2)) (al.mono x2) _ fun y H3 x3 ry =>
    hr x y H3 (rx.mono (fun _ z => z) (.of x3)) ry ((al.mono x2).mono x3) Q fun v H4 x4 rv => q v H4 ((x2.trans x3).trans x4) rv⟩⟩
theorem rd_I0 {g : Int → Int → Int} {i j : Int} : RD2 X M (rI0 fun i j => .int (g i j)) (.int i) (.int j) (.int (g i j)) := fun x y H1 rx ry _ Q q => by
  cases rx
  cases ry
  exact ⟨i, j, rfl, rfl, q _ H1 (Evl.Ex.refl H1) (.int _)⟩
theorem rd_I {C : Int → Int → Prop} {g : Int → Int → Int} {i j : Int} (hc : C i j) : RD2 X M (rI C fun i j => .int (g i j)) (.int i) (.int j) (.int (g i j)) := fun x y H1 rx ry _ Q q => by
  cases rx
  cases ry
  exact ⟨i, j, rfl, rfl, hc, q _ H1 (Evl.Ex.refl H1) (.int _)⟩
theorem rd_B0 {g : Int → Int → Bool} {i j : Int} : RD2 X M (rI0 fun i j => .bl (g i j)) (.int i) (.int j) (.bool (g i j)) := fun x y H1 rx ry _ Q q => by
  cases rx
  cases ry
  exact ⟨i, j, rfl, rfl, q _ H1 (Evl.Ex.refl H1) (.bl _)⟩
theorem pd_add {i j : Int} (ha : PD X M a σ H (.int i)) (hb : PD X M b σ H (.int j)) : PD X M (.BinOp a .Add b pos) σ H (.int (i + j)) := pd_binR op_add rd_I0 ha hb
theorem pd_sub {i j : Int} (ha : PD X M a σ H (.int i)) (hb : PD X M b σ H (.int j)) : PD X M (.BinOp a .Sub b pos) σ H (.int (i - j)) := pd_binR op_sub rd_I0 ha hb
theorem pd_mul {i j : Int} (ha : PD X M a σ H (.int i)) (hb : PD X M b σ H (.int j)) (hc : CMul i j) : PD X M (.BinOp a .Mult b pos) σ H (.int (i * j)) := pd_binR op_mul (rd_I hc) ha hb
theorem pd_lt {i j : Int} (ha : PD X M a σ H (.int i)) (hb : PD X M b σ H (.int j)) : PD X M (.Compare a [.Lt] [b] pos) σ H (.bool (decide (i < j))) := pd_cmpR op_lt (nomark _) rd_B0 ha hb
end
end GV

namespace GV
open PySem PySem.Spec PyProof.Rows L2
section
variable {X : Cx} {M : Addr → Prop} {σ : St} {H H' : Hp} {a b c e : Expr} {da db d : PyData} {pos : Pos} {es : List Expr} {ds : List PyData}

/-! ### truth, and, or, not -/
theorem pd_and {k1 k2 : Bool} {rest : List Expr} (ha : PD X M a σ H (.bool k1)) (hb : k1 = true → PD X M (.BoolOp .And (b :: rest) pos) σ H (.bool k2)) : PD X M (.BoolOp .And (a :: b :: rest) pos) σ H (.bool (k1 && k2)) := .mk fun H1 e1 al Q q =>
  ⟨_, pe_and wE.pe wE.pe, ha.run H1 e1 al _ fun x H2 x2 rx => by
    cases rx
    refine ⟨k1, rfl, ?_⟩
    cases k1 with
    | true => exact (hb rfl).run H2 (e1.trans (.of x2)) (al.mono x2) Q fun v H3 x3 rv => q v H3 (x2.trans x3) rv
    | false => exact q _ H2 x2 (.bl _)⟩
theorem pd_one {op} (h : PD X M a σ H d) : PD X M (.BoolOp op [a] pos) σ H d := .mk fun H1 e1 al Q q => ⟨_, pe_one wE.pe, h.run H1 e1 al Q q⟩
theorem pd_not {k : Bool} (h : PD X M a σ H (.bool k)) : PD X M (.UnaryOp .Not a pos) σ H (.bool (!k)) := .mk fun H1 e1 al Q q =>
  ⟨_, pe_not wE.pe, h.run H1 e1 al _ fun x H2 x2 rx => by
    cases rx
    exact ⟨k, rfl, q _ H2 x2 (.bl _)⟩⟩
theorem td_val {k : Bool} (h : PD X M e σ H (.bool k)) (he : ∀ whole, isTrue e X.env whole = (do let v ← whole; standAt e.pos; holding [v] (truthy v)) := by intro _; rfl) : TD X M e σ H k := .mk fun H1 e1 al Q q =>
  ⟨_, pt_val wE.pe he, h.run H1 e1 al _ fun x H2 x2 rx => by
    cases rx
    exact ⟨k, rfl, q H2 x2⟩⟩
theorem td_not {k : Bool} (h : TD X M a σ H k) : TD X M (.UnaryOp .Not a pos) σ H (!k) := .mk fun H1 e1 al Q q => ⟨_, pt_not wT.pt, h.run H1 e1 al _ fun H2 x2 => q H2 x2⟩
/-- a chain of tests -/
structure WD (X : Cx) (M : Addr → Prop) (e : Expr) (σ : St) (H : Hp) (k : Bool) : Prop where
  ex : ∃ t, PW X e t ∧ ∀ H1, ExM M H H1 → Alive M H1 → ∀ Q : Bool → Hp → Prop, (∀ H2, Evl.Ex H1 H2 → Q k H2) → t σ H1 Q
theorem WD.td {k : Bool} (h : WD X M e σ H k) : TD X M e σ H k := .mk fun H1 e1 al Q q => let ⟨t, p, r⟩ := h.ex; ⟨t, p.pt, r H1 e1 al Q q⟩
theorem wd_and1 {k : Bool} (h : TD X M a σ H k) : WD X M (.BoolOp .And [a] pos) σ H k := .mk ⟨_, pw_and1 wT.pt, h.run⟩
theorem wd_or1 {k : Bool} (h : TD X M a σ H k) : WD X M (.BoolOp .Or [a] pos) σ H k := .mk ⟨_, pw_or1 wT.pt, h.run⟩
/-- the reading of a chain, of any of its ends -/
def wW (X : Cx) (e : Expr) : TT := fun σ H Q => ∃ t, PW X e t ∧ t σ H Q
theorem wW.pw {e : Expr} : PW X e (wW X e) := ⟨fun pins s σ H whole Q I ⟨_, h, q⟩ => h.run pins s σ H whole Q I q⟩
theorem wd_and {k1 k2 : Bool} {rest : List Expr} (ha : TD X M a σ H k1) (hb : k1 = true → WD X M (.BoolOp .And (b :: rest) pos) σ H k2) : WD X M (.BoolOp .And (a :: b :: rest) pos) σ H (k1 && k2) :=
  .mk ⟨_, pw_and wT.pt wW.pw, fun H1 e1 al Q q => ha.run H1 e1 al _ fun H2 x2 => by
    cases k1 with
    | true =>
      obtain ⟨t, p, r⟩ := (hb rfl).ex
      exact ⟨t, p, r H2 (e1.trans (.of x2)) (al.mono x2) Q fun H3 x3 => q H3 (x2.trans x3)⟩
    | false => exact q H2 x2⟩
theorem wd_or {k1 k2 : Bool} {rest : List Expr} (ha : TD X M a σ H k1) (hb : k1 = false → WD X M (.BoolOp .Or (b :: rest) pos) σ H k2) : WD X M (.BoolOp .Or (a :: b :: rest) pos) σ H (k1 || k2) :=
  .mk ⟨_, pw_or wT.pt wW.pw, fun H1 e1 al Q q => ha.run H1 e1 al _ fun H2 x2 => by
    cases k1 with
    | false =>
      obtain ⟨t, p, r⟩ := (hb rfl).ex
      exact ⟨t, p, r H2 (e1.trans (.of x2)) (al.mono x2) Q fun H3 x3 => q H3 (x2.trans x3)⟩
    | true => exact q H2 x2⟩
theorem pd_if {k : Bool} (ht : TD X M c σ H k) (ha : k = true → PD X M a σ H d) (hb : k = false → PD X M b σ H d) : PD X M (.IfExp c a b pos) σ H d := .mk fun H1 e1 al Q q =>
  ⟨_, pe_ifExp wT.pt wE.pe wE.pe, ht.run H1 e1 al _ fun H2 x2 => by
    cases k with
    | true => exact (ha rfl).run H2 (e1.trans (.of x2)) (al.mono x2) Q fun v H3 x3 rv => q v H3 (x2.trans x3) rv
    | false => exact (hb rfl).run H2 (e1.trans (.of x2)) (al.mono x2) Q fun v H3 x3 rv => q v H3 (x2.trans x3) rv⟩

/-! ### lists of parts, displays -/
theorem ad_nil : AD X M [] σ H [] := .mk fun H1 _ _ Q q => ⟨_, pa_nil, q [] H1 (Evl.Ex.refl H1) .nil⟩
theorem ad_cons (h : PD X M e σ H d) (hr : AD X M es σ H ds) (hs : starEach (e :: es) X.env = (false, eval e X.env) :: starEach es X.env := by rfl) : AD X M (e :: es) σ H (d :: ds) := .mk fun H1 e1 al Q q =>
  ⟨_, pa_cons wE.pe wA.pa hs, h.run H1 e1 al _ fun v H2 x2 rv => hr.run H2 (e1.trans (.of x2)) (al.mono x2) _ fun vs H3 x3 rvs =>
    q (v :: vs) H3 (x2.trans x3) (.cons (rv.mono (fun _ z => z) (.of x3)) rvs)⟩
theorem Rp.newT {p : Addr} {xs : List V} (al : Alive M H) (hp : H p = none) (r : RpAll X.K M H xs ds) : Rp X.K M (upd H p (.tup xs)) (.ref p) (.tuple ds) :=
  .tup (al.fresh hp) (.inl upd_same) (r.mono (fun _ z => z) (.of (Evl.Ex.new hp)))
theorem pd_tup {x1} (h : AD X M es σ H ds) (hl : ds.length ≤ 100000) : PD X M (.Tuple es x1 pos) σ H (.tuple ds) := .mk fun H1 e1 al Q q =>
  ⟨_, pe_tup wA.pa, h.run H1 e1 al _ fun vs H2 x2 r => ⟨by rw [r.length]; exact Evl.sz_of hl, fun p hp => q _ _ (x2.trans (Evl.Ex.new hp)) (.newT (al.mono x2) hp r)⟩⟩
/-- .. a new one -/
structure FD (X : Cx) (M : Addr → Prop) (e : Expr) (σ : St) (H : Hp) (ds : List PyData) : Prop where
  run : ∀ H1, ExM M H H1 → Alive M H1 → ∀ Q : VK, (∀ p vs H2, H1 p = none → Evl.Ex H1 H2 → H2 p = some (.lst vs) → RpAll X.K M H2 vs ds → Q (.ref p) H2) → wE X e σ H1 Q
theorem FD.mono (h : FD X M e σ H ds) (x : ExM M H H') : FD X M e σ H' ds := .mk fun H1 e1 al Q q => h.run H1 (x.trans e1) al Q q
theorem FD.pd (h : FD X M e σ H ds) : PD X M e σ H (.list ds) := .mk fun H1 e1 al Q q => h.run H1 e1 al Q fun p vs H2 hp x2 h2 r => q _ H2 x2 (.lst (al.fresh hp) (.inl h2) r)
theorem fd_lst (h : AD X M es σ H ds) (hl : ds.length ≤ 100000) : FD X M (.List es pos) σ H ds := .mk fun H1 e1 al Q q =>
  ⟨_, pe_lst wA.pa, h.run H1 e1 al _ fun vs H2 x2 r => ⟨by rw [r.length]; exact Evl.sz_of hl, fun p hp => q p vs _ (Evl.fresh_back x2 hp) (x2.trans (Evl.Ex.new hp)) upd_same (r.mono (fun _ z => z) (.of (Evl.Ex.new hp)))⟩⟩

/-! ### == and is -/
theorem pd_eq (hu : X.A.units + 64 < cLine) (ha : PD X M a σ H da) (hb : PD X M b σ H db) (sa : SeqAt.shaped da = true) (sb : SeqAt.shaped db = true) : PD X M (.Compare a [.Eq] [b] pos) σ H (.bool (PyData.eqv da db)) :=
  pd_cmpR (op_eqD hu) (nomark _) (fun x y H1 rx ry _ Q q => ⟨da, db, rx.dp, ry.dp, sa, sb, q _ H1 (Evl.Ex.refl H1) (.bl _)⟩) ha hb
def isNone : PyData → Bool
  | .none => true
  | _ => false
theorem Rp.isN {K : PySem.W.Frag} {x : V} (r : Rp K M H x d) : decide (x = .non) = isNone d := by
  cases r <;> rfl
/-! ### items -/
def ixD : PyData → PyData → Option PyData
  | .list ds, .int i => atI ds i
  | .tuple ds, .int i => atI ds i
  | .str z, .int i => if z.length ≤ sizeLine then (atI z.cps.toList i).map fun c => .str ⟨#[c]⟩ else none
  | _, _ => none
theorem atI_rp {K : PySem.W.Frag} {xs : List V} {i : Int} (r : RpAll K M H xs ds) (h : atI ds i = some d) : ∃ v, atI xs i = some v ∧ Rp K M H v d := by
  unfold atI at h ⊢
  rw [r.length]
  cases e : ixN ds.length i with
  | none =>
    rw [e] at h
    cases h
  | some j =>
    rw [e] at h
    obtain ⟨v, h1, h2⟩ := r.get h
    exact ⟨v, h1, h2⟩
theorem pd_ix (ha : PD X M a σ H da) (hb : PD X M b σ H db) (h : ixD da db = some d) (hs : PlainIx b := by exact fun _ _ => rfl) : PD X M (.Subscript a b pos) σ H d := .mk fun H1 e1 al Q q =>
  ⟨_, pe_ix ix_seq wE.pe wE.pe hs, ha.run H1 e1 al _ fun x H2 x2 rx => hb.run H2 (e1.trans (.of x2)) (al.mono x2) _ fun y H3 x3 ry => by
    have rx' := rx.mono (fun _ z => z) (.of x3)
    have fin : ∀ v, Rp X.K M H3 v d → Q v H3 := fun v rv => q v H3 (x2.trans x3) rv
    cases ry with
    | int i =>
      cases rx' with
      | lst m hs rs =>
        obtain ⟨v, hv, rv⟩ := atI_rp rs h
        exact .inl ⟨_, _, i, v, rfl, rfl, .inl hs, hv, fin v rv⟩
      | tup m hs rs =>
        obtain ⟨v, hv, rv⟩ := atI_rp rs h
        exact .inr (.inl ⟨_, _, i, v, rfl, rfl, .inl hs, hv, fin v rv⟩)
      | str z =>
        simp only [ixD] at h
        split at h
        · rename_i hz
          cases e : atI z.cps.toList i with
          | none =>
            rw [e] at h
            cases h
          | some c =>
            rw [e] at h
            cases h
            exact .inr (.inr ⟨z, i, c, rfl, rfl, hz, e, fin _ (.str _)⟩)
        · cases h
      | _ => cases h
    | _ => cases da <;> cases h⟩

/-! ### own defs that leave all as it is -/
def PureR (K : PySem.W.Frag) (R : List PyData → PyData → Prop) : Sp := fun vs H Q _ => ∃ M ds d, Alive M H ∧ RpAll K M H vs ds ∧ R ds d ∧ ∀ v H', Evl.Ex H H' → Rp K M H' v d → Q v H'
theorem pd_call {R : List PyData → PyData → Prop} {CX : CXT} {E : XK} {k : Nat} {f : Addr} {fd : FuncData} {ps : List Str} {x : Str} {p : Pos} (F : FnOk X.prog X.w X.K X.mg X.base CX k f fd ps (PureR X.K R)) (hr : Room k X.A) (hg : Gl X x) (hm : X.mg x = some (.ref f)) (hk : PySem.W.keepIn X.K (.ref f) = true)
    (hb : Binds X.K fd ps []) (hx : Passes CX X E) (h : AD X M (e :: es) σ H ds) (hR : R ds d)
    (hdb : (x == ("__debug__" : Str)) = false := by decide) (he : starEach (e :: es) X.env = (false, eval e X.env) :: starEach es X.env := by rfl) (hpl : (backTo pos (starEach es X.env)).any (·.1) = false := by rfl) : PD X M (.Call (.Name x p) (e :: es) [] pos) σ H d := .mk fun H1 e1 al Q q =>
  ⟨_, pe_call F hr hg hm hk hb .nil hx wA.pa hdb he hpl, h.run H1 e1 al _ fun vs H2 x2 r => by
    rw [List.append_nil]
    exact ⟨M, ds, d, al.mono x2, r, hR, fun v H3 x3 rv => q v H3 (x2.trans x3) rv⟩⟩
end

/-! ### statements -/
section
variable {X : Cx} {M : Addr → Prop} {σ : St} {H : Hp} {c e : Expr} {d : PyData} {pos : Pos} {st : Stmt} {sts A B : List Stmt} {D : Ends}
theorem b_nil (h : D.nx σ H) : wB X [] D σ H := ⟨_, pss_nil, h⟩
theorem b_cons (h : wS X st { D with nx := wB X sts D } σ H) : wB X (st :: sts) D σ H := ⟨_, pss_cons wS.ps wB.ps, h⟩
theorem s_ret (al : Alive M H) (h : PD X M e σ H d) (q : ∀ v H2, Evl.Ex H H2 → Rp X.K M H2 v d → D.rt v H2) : wS X (.Return (some e) pos) D σ H := ⟨_, ps_ret wE.pe, h.run H (ExM.refl H) al _ q⟩
theorem s_if {k : Bool} (al : Alive M H) (h : TD X M c σ H k) (h1 : k = true → ∀ H2, Evl.Ex H H2 → wB X A D σ H2) (h2 : k = false → ∀ H2, Evl.Ex H H2 → wB X B D σ H2) : wS X (.If c A B pos) D σ H :=
  ⟨_, ps_if wT.pt wB.ps wB.ps, h.run H (ExM.refl H) al _ fun H2 x2 => by
    cases k with
    | true => exact h1 rfl H2 x2
    | false => exact h2 rfl H2 x2⟩
theorem s_set {i : Nat} {x : Str} {p : Pos} (al : Alive M H) (hN : X.N.Nodup) (hi : X.N[i]? = some x) (hx : Loc X.env.scope x) (h : PD X M e σ H d) (q : ∀ v H2, Evl.Ex H H2 → Rp X.K M H2 v d → D.nx (σ.set i (some v)) H2)
    (hs : swapsWith e (some (.Name x p)) pos.line X.env = pure false := by rfl) (hf : X.fn x = true ∨ X.env.scope.names.lookup x = some .local := by first | exact .inl rfl | exact .inr rfl | assumption) : wS X (.Assign [.Name x p] e pos) D σ H :=
  ⟨_, ps_set hN hi hx wE.pe hs hf, h.run H (ExM.refl H) al _ fun v H2 x2 r => q v H2 x2 r⟩
end
end GV

namespace GV
open PySem PySem.Spec PyProof.Rows L2
section
variable {X : Cx} {M : Addr → Prop} {σ : St} {H H' : Hp} {a b c e : Expr} {da db d : PyData} {pos : Pos} {es : List Expr} {ds : List PyData}

/-! ### more of ints -/
theorem pd_neg {i : Int} (ha : PD X M a σ H (.int i)) : PD X M (.UnaryOp .USub a pos) σ H (.int (-i)) := .mk fun H1 e1 al Q q =>
  ⟨_, pe_un un_neg wE.pe, ha.run H1 e1 al _ fun x H2 x2 rx => by
    cases rx
    exact ⟨i, rfl, q _ H2 x2 (.int _)⟩⟩
theorem pd_div {i j : Int} (ha : PD X M a σ H (.int i)) (hb : PD X M b σ H (.int j)) (hc : CDivW i j) : PD X M (.BinOp a .FloorDiv b pos) σ H (.int (i / j)) := pd_binR op_fdivW (rd_I hc) ha hb
theorem pd_mod {i j : Int} (ha : PD X M a σ H (.int i)) (hb : PD X M b σ H (.int j)) (hc : 0 < j) : PD X M (.BinOp a .Mod b pos) σ H (.int (i % j)) := pd_binR op_mod (rd_I (C := fun _ j => 0 < j) hc) ha hb
theorem pd_pow {i j : Int} (ha : PD X M a σ H (.int i)) (hb : PD X M b σ H (.int j)) (hc : CPow i j) : PD X M (.BinOp a .Pow b pos) σ H (.int (i ^ j.toNat)) := pd_binR op_pow (rd_I hc) ha hb

/-! ### built-ins, by values -/
def RDn (X : Cx) (M : Addr → Prop) (r : List V → Hp → VK → Prop) (ds : List PyData) (d : PyData) : Prop :=
  ∀ vs H1, RpAll X.K M H1 vs ds → Alive M H1 → ∀ Q : VK, (∀ v H2, Evl.Ex H1 H2 → Rp X.K M H2 v d → Q v H2) → r vs H1 Q
def RFn (X : Cx) (M : Addr → Prop) (r : List V → Hp → VK → Prop) (ds es : List PyData) : Prop :=
  ∀ vs H1, RpAll X.K M H1 vs ds → Alive M H1 → ∀ Q : VK, (∀ p ws H2, H1 p = none → Evl.Ex H1 H2 → H2 p = some (.lst ws) → RpAll X.K M H2 ws es → Q (.ref p) H2) → r vs H1 Q
theorem pd_callB {id : String} {x : Str} {p : Pos} {r : List V → Hp → VK → Prop} (hc : CallR X (.builtin id) r) (hg : Gl X x) (hm : X.mg x = none) (hv : bootBuiltins x = some (.builtin id)) (h : AD X M (e :: es) σ H ds) (hr : RDn X M r ds d)
    (hn : x ≠ "__name__" := by decide) (hdb : (x == ("__debug__" : Str)) = false := by decide) (he : starEach (e :: es) X.env = (false, eval e X.env) :: starEach es X.env := by rfl) (hpl : (backTo pos (starEach es X.env)).any (·.1) = false := by rfl) :
    PD X M (.Call (.Name x p) (e :: es) [] pos) σ H d := .mk fun H1 e1 al Q q =>
  ⟨_, pe_callB hc hg hm hv wA.pa hn hdb he hpl, h.run H1 e1 al _ fun vs H2 x2 rs => hr vs H2 rs (al.mono x2) Q fun v H3 x3 rv => q v H3 (x2.trans x3) rv⟩
theorem pd_callTy {T : String} {x : Str} {p : Pos} {r : List V → Hp → VK → Prop} (hc : CallR X (.type T) r) (hg : Gl X x) (hm : X.mg x = none) (hv : bootBuiltins x = some (.type T)) (h : AD X M (e :: es) σ H ds) (hr : RDn X M r ds d)
    (hn : x ≠ "__name__" := by decide) (hdb : (x == ("__debug__" : Str)) = false := by decide) (he : starEach (e :: es) X.env = (false, eval e X.env) :: starEach es X.env := by rfl) (hpl : (backTo pos (starEach es X.env)).any (·.1) = false := by rfl) :
    PD X M (.Call (.Name x p) (e :: es) [] pos) σ H d := .mk fun H1 e1 al Q q =>
  ⟨_, pe_callTy hc hg hm hv wA.pa hn hdb he hpl, h.run H1 e1 al _ fun vs H2 x2 rs => hr vs H2 rs (al.mono x2) Q fun v H3 x3 rv => q v H3 (x2.trans x3) rv⟩
theorem fd_callTy {T : String} {x : Str} {p : Pos} {r : List V → Hp → VK → Prop} {fs : List PyData} (hc : CallR X (.type T) r) (hg : Gl X x) (hm : X.mg x = none) (hv : bootBuiltins x = some (.type T)) (h : AD X M (e :: es) σ H ds) (hr : RFn X M r ds fs)
    (hn : x ≠ "__name__" := by decide) (hdb : (x == ("__debug__" : Str)) = false := by decide) (he : starEach (e :: es) X.env = (false, eval e X.env) :: starEach es X.env := by rfl) (hpl : (backTo pos (starEach es X.env)).any (·.1) = false := by rfl) :
    FD X M (.Call (.Name x p) (e :: es) [] pos) σ H fs := .mk fun H1 e1 al Q q =>
  ⟨_, pe_callTy hc hg hm hv wA.pa hn hdb he hpl, h.run H1 e1 al _ fun vs H2 x2 rs => hr vs H2 rs (al.mono x2) Q fun p ws H3 hp x3 h3 rv => q p ws H3 (Evl.fresh_back x2 hp) (x2.trans x3) h3 rv⟩
theorem fd_callB {id : String} {x : Str} {p : Pos} {r : List V → Hp → VK → Prop} {fs : List PyData} (hc : CallR X (.builtin id) r) (hg : Gl X x) (hm : X.mg x = none) (hv : bootBuiltins x = some (.builtin id)) (h : AD X M (e :: es) σ H ds) (hr : RFn X M r ds fs)
    (hn : x ≠ "__name__" := by decide) (hdb : (x == ("__debug__" : Str)) = false := by decide) (he : starEach (e :: es) X.env = (false, eval e X.env) :: starEach es X.env := by rfl) (hpl : (backTo pos (starEach es X.env)).any (·.1) = false := by rfl) :
    FD X M (.Call (.Name x p) (e :: es) [] pos) σ H fs := .mk fun H1 e1 al Q q =>
  ⟨_, pe_callB hc hg hm hv wA.pa hn hdb he hpl, h.run H1 e1 al _ fun vs H2 x2 rs => hr vs H2 rs (al.mono x2) Q fun p ws H3 hp x3 h3 rv => q p ws H3 (Evl.fresh_back x2 hp) (x2.trans x3) h3 rv⟩
theorem rpa1 {vs : List V} {K : PySem.W.Frag} (r : RpAll K M H vs [d]) : ∃ v, vs = [v] ∧ Rp K M H v d := by
  obtain ⟨⟩ | ⟨r1, r⟩ := r
  obtain ⟨⟩ := r
  exact ⟨_, rfl, r1⟩
theorem rpa2 {vs : List V} {K : PySem.W.Frag} (r : RpAll K M H vs [da, db]) : ∃ v w, vs = [v, w] ∧ Rp K M H v da ∧ Rp K M H w db := by
  obtain ⟨⟩ | ⟨r1, r⟩ := r
  obtain ⟨v, rfl, r2⟩ := rpa1 r
  exact ⟨_, _, rfl, r1, r2⟩
/-- int(n), int(True) -/
theorem rn_int {i : Int} : RDn X M (fun xs H Q => (∃ i, xs = [.int i] ∧ Q (.int i) H) ∨ ∃ k, xs = [.bl k] ∧ Q (.int (if k then 1 else 0)) H) [.int i] (.int i) := fun vs H1 r _ Q q => by
  obtain ⟨v, rfl, r1⟩ := rpa1 r
  cases r1
  exact .inl ⟨i, rfl, q _ H1 (Evl.Ex.refl H1) (.int _)⟩
theorem rn_max2 {i j : Int} : RDn X M (fun xs H Q => ∃ i j, xs = [.int i, .int j] ∧ Q (.int (if j > i then j else i)) H) [.int i, .int j] (.int (if j > i then j else i)) := fun vs H1 r _ Q q => by
  obtain ⟨v, w, rfl, r1, r2⟩ := rpa2 r
  cases r1
  cases r2
  exact ⟨i, j, rfl, q _ H1 (Evl.Ex.refl H1) (.int _)⟩
theorem rn_min2 {i j : Int} : RDn X M (fun xs H Q => ∃ i j, xs = [.int i, .int j] ∧ Q (.int (if j < i then j else i)) H) [.int i, .int j] (.int (if j < i then j else i)) := fun vs H1 r _ Q q => by
  obtain ⟨v, w, rfl, r1, r2⟩ := rpa2 r
  cases r1
  cases r2
  exact ⟨i, j, rfl, q _ H1 (Evl.Ex.refl H1) (.int _)⟩
/-- len -/
def lenD : PyData → Option Nat
  | .list ds => some ds.length
  | .tuple ds => some ds.length
  | .str z => if z.length ≤ sizeLine then some z.length else none
  | _ => none
theorem rn_len {n : Nat} (h : lenD d = some n) : RDn X M (fun xs H Q => ∃ x n, xs = [x] ∧ LenV X.K x H n ∧ Q (.int n) H) [d] (.int n) := fun vs H1 r _ Q q => by
  obtain ⟨v, rfl, r1⟩ := rpa1 r
  have fin := q (.int n) H1 (Evl.Ex.refl H1) (.int _)
  cases r1 with
  | lst m hs rs =>
    cases h
    exact ⟨_, _, rfl, .inl ⟨_, .inl hs, rs.length.symm⟩, fin⟩
  | tup m hs rs =>
    cases h
    exact ⟨_, _, rfl, .inr ⟨_, .inl hs, rs.length.symm⟩, fin⟩
  | str z =>
    simp only [lenD] at h
    split at h
    · rename_i hz
      cases h
      exact ⟨_, _, rfl, ⟨hz, rfl⟩, fin⟩
    · cases h
  | _ => cases h
/-- list(xs), tuple(xs) -/
def itemsD : PyData → Option (List PyData)
  | .list ds => some ds
  | .tuple ds => some ds
  | _ => none
theorem rf_list (h : itemsD d = some ds) : RFn X M (fun xs H Q => ∃ p ys, xs = [.ref p] ∧ (SqL X.K H p ys ∨ SqT X.K H p ys) ∧ ∀ l, H l = none → Q (.ref l) (upd H l (.lst ys))) [d] ds := fun vs H1 r al Q q => by
  obtain ⟨v, rfl, r1⟩ := rpa1 r
  cases r1 with
  | lst m hs rs =>
    cases h
    exact ⟨_, _, rfl, .inl (.inl hs), fun l hl => q l _ _ hl (Evl.Ex.new hl) upd_same (rs.mono (fun _ z => z) (.of (Evl.Ex.new hl)))⟩
  | tup m hs rs =>
    cases h
    exact ⟨_, _, rfl, .inr (.inl hs), fun l hl => q l _ _ hl (Evl.Ex.new hl) upd_same (rs.mono (fun _ z => z) (.of (Evl.Ex.new hl)))⟩
  | _ => cases h
theorem rn_tuple (h : itemsD d = some ds) : RDn X M (fun xs H Q => ∃ p ys, xs = [.ref p] ∧ ((SqL X.K H p ys ∧ ∀ l, H l = none → Q (.ref l) (upd H l (.tup ys))) ∨ (SqT X.K H p ys ∧ Q (.ref p) H))) [d] (.tuple ds) := fun vs H1 r al Q q => by
  obtain ⟨v, rfl, r1⟩ := rpa1 r
  cases r1 with
  | lst m hs rs =>
    cases h
    exact ⟨_, _, rfl, .inl ⟨.inl hs, fun l hl => q _ _ (Evl.Ex.new hl) (.newT (X := X) al hl rs)⟩⟩
  | tup m hs rs =>
    cases h
    exact ⟨_, _, rfl, .inr ⟨.inl hs, q _ H1 (Evl.Ex.refl H1) (.tup m hs rs)⟩⟩
  | _ => cases h

/-! ### slices of a list -/
def cutD (xs : List PyData) (lo hi : Option Int) : List PyData := (xs.drop (HT.sIx xs.length 0 lo)).take (HT.sIx xs.length xs.length hi - HT.sIx xs.length 0 lo)
theorem RpAll.take {K : PySem.W.Frag} : ∀ {vs : List V} {ds : List PyData} (n : Nat), RpAll K M H vs ds → RpAll K M H (vs.take n) (ds.take n)
  | _, _, 0, _ => .nil
  | _, _, n + 1, .nil => .nil
  | _, _, n + 1, .cons r rs => .cons r (RpAll.take n rs)
theorem RpAll.drop {K : PySem.W.Frag} : ∀ {vs : List V} {ds : List PyData} (n : Nat), RpAll K M H vs ds → RpAll K M H (vs.drop n) (ds.drop n)
  | _, _, 0, r => r
  | _, _, n + 1, .nil => .nil
  | _, _, n + 1, .cons r rs => RpAll.drop n rs
theorem RpAll.cut {K : PySem.W.Frag} {vs : List V} {ds : List PyData} (lo hi : Option Int) (r : RpAll K M H vs ds) : RpAll K M H (cutV vs lo hi) (cutD ds lo hi) := by
  unfold cutV cutD
  rw [r.length]
  exact (r.drop _).take _
/-- an optional part of a slice -/
structure OD (X : Cx) (M : Addr → Prop) (e : Option Expr) (σ : St) (H : Hp) (o : Option Int) : Prop where
  ex : ∃ t, PO X e t ∧ ∀ H1, ExM M H H1 → Alive M H1 → ∀ Q : Option Int → Hp → Prop, (∀ H2, Evl.Ex H1 H2 → Q o H2) → t σ H1 Q
theorem od_none : OD X M none σ H none := ⟨_, po_none, fun H1 _ _ Q q => q H1 (Evl.Ex.refl H1)⟩
theorem od_some {i : Int} (h : PD X M e σ H (.int i)) : OD X M (some e) σ H (some i) := ⟨_, po_some wE.pe, fun H1 e1 al Q q => h.run H1 e1 al _ fun x H2 x2 r => by
  cases r
  exact ⟨i, rfl, q H2 x2⟩⟩
theorem fd_slice {lo hi : Option Expr} {l u : Option Int} {p2 : Pos} (h : PD X M e σ H (.list ds)) (hl : OD X M lo σ H l) (hu : OD X M hi σ H u) : FD X M (.Subscript e (.Slice lo hi none p2) pos) σ H (cutD ds l u) := by
  obtain ⟨tl, pl, rl⟩ := hl.ex
  obtain ⟨tu, pu, ru⟩ := hu.ex
  refine .mk fun H1 e1 al Q q => ⟨_, pe_slice sl_list wE.pe pl pu, h.run H1 e1 al _ fun x H2 x2 r => ?_⟩
  refine rl H2 (e1.trans (.of x2)) (al.mono x2) _ fun H3 x3 => ru H3 ((e1.trans (.of x2)).trans (.of x3)) ((al.mono x2).mono x3) _ fun H4 x4 => ?_
  have r4 := r.mono (fun _ z => z) (.of (x3.trans x4))
  cases r4 with
  | lst m hs rs =>
    exact ⟨_, _, rfl, .inl hs, fun p hp => q p _ _ (Evl.fresh_back (x2.trans (x3.trans x4)) hp) ((x2.trans (x3.trans x4)).trans (Evl.Ex.new hp)) upd_same ((rs.cut l u).mono (fun _ z => z) (.of (Evl.Ex.new hp)))⟩

/-! ### list + list -/
def rCatR : R2 := fun x y H Q => ∃ l b xs zs, x = .ref l ∧ y = .ref b ∧ Rd H l (.lst xs) ∧ Rd H b (.lst zs) ∧ xs.length + zs.length ≤ sizeLine ∧ ∀ p, H p = none → Q (.ref p) (upd H p (.lst (xs ++ zs)))
theorem op_catR : OpR X (binaryOp .Add) rCatR := by
  intro pins s σ H x y v u Q I rx ry h
  obtain ⟨l, b, xs, zs, rfl, rfl, hH, hB, hz, q⟩ := h
  cases rx
  cases ry
  obtain ⟨z, its, n, r, e⟩ := hH.ok I.hok
  obtain ⟨z2, its2, n2, r2, e2⟩ := hB.ok I.hok
  have hl := r.length
  have hl2 := r2.length
  refine PySem.P.add_list e e2 ?_ (by rw [List.size_toArray, List.size_toArray]; omega)
  have ea : its.toArray ++ its2.toArray = (its ++ its2).toArray := by simp
  rw [ea]
  exact ⟨.ref _, _, I.lnew (t' := s.toks) (r.append r2) (by rw [List.length_append]; omega), rfl, q _ I.fresh⟩
theorem fd_cat {es fs : List PyData} (ha : PD X M a σ H (.list es)) (hb : PD X M b σ H (.list fs)) (hl : es.length + fs.length ≤ 100000) : FD X M (.BinOp a .Add b pos) σ H (es ++ fs) := .mk fun H1 e1 al Q q =>
  ⟨_, pe_op op_catR wE.pe wE.pe, ha.run H1 e1 al _ fun x H2 x2 rx => hb.run H2 (e1.trans (.of x2)) (al.mono x2) _ fun y H3 x3 ry => by
    have rx' := rx.mono (fun _ z => z) (.of x3)
    cases rx' with
    | lst m1 h1 r1 =>
      cases ry with
      | lst m2 h2 r2 =>
        exact ⟨_, _, _, _, rfl, rfl, h1, h2, by rw [r1.length, r2.length]; exact Evl.sz_of hl, fun p hp => q p _ _ (Evl.fresh_back (x2.trans x3) hp) ((x2.trans x3).trans (Evl.Ex.new hp)) upd_same
          ((r1.append r2).mono (fun _ z => z) (.of (Evl.Ex.new hp)))⟩⟩
end
end GV

namespace GV
open PySem PySem.Spec PyProof.Rows L2

/-! ### what is walked -/
/-- from H0 on the iterator gives these data, one after another -/
structure Wk (K : PySem.W.Frag) (M : Addr → Prop) (J : It) (H0 : Hp) (ds : List PyData) : Prop where
  go : ∀ M' i H, (∀ a, M' a → M a ∨ H0 a = none) → ExM M' H0 H → i < ds.length → J.go i H
  stop : ∀ M' H, (∀ a, M' a → M a ∨ H0 a = none) → ExM M' H0 H → J.stop ds.length H
  yld : ∀ M' i H x H', (∀ a, M' a → M a ∨ H0 a = none) → ExM M' H0 H → Alive M' H → J.yld i H x H' → Evl.Ex H H' ∧ ∀ d, ds[i]? = some d → Rp K M' H' x d
structure Src (X : Cx) (M : Addr → Prop) (tg iter : Expr) (σ : St) (H : Hp) (ds : List PyData) : Prop where
  ex : ∃ wi, PI X tg iter wi ∧ ∀ H1, ExM M H H1 → Alive M H1 → ∀ R, (∀ J H2, Evl.Ex H1 H2 → Wk X.K M J H2 ds → R J H2) → wi σ H1 R
section
variable {X : Cx} {K : PySem.W.Frag} {M : Addr → Prop} {σ : St} {H H' : Hp} {a b c e tg iter : Expr} {da db d : PyData} {pos : Pos} {es : List Expr} {ds : List PyData}
theorem wk_list {a : Addr} {xs : List V} (m : ¬ M a) (h : Rd H a (.lst xs)) (r : RpAll K M H xs ds) : Wk K M (Itl K a) H ds := by
  have nm : ∀ M' : Addr → Prop, (∀ a, M' a → M a ∨ H a = none) → ¬ M' a := fun M' hm z => (hm a z).elim m (Rd.there h)
  have at_ : ∀ (M' : Addr → Prop) (H' : Hp), (∀ a, M' a → M a ∨ H a = none) → ExM M' H H' → Rd H' a (.lst xs) := fun M' H' hm e => Rd.exM (M := M') h (nm M' hm) e
  refine ⟨fun M' i H' hm e hi => ?_, fun M' H' hm e => ?_, fun M' i H' x H'' hm e al y => ?_⟩
  · have hx : i < xs.length := by rw [r.length]; exact hi
    exact ⟨xs, xs[i], .inl (at_ M' H' hm e), List.getElem?_eq_getElem hx⟩
  · exact ⟨xs, .inl (at_ M' H' hm e), by rw [r.length]; exact Nat.le_refl _⟩
  · obtain ⟨rfl, y⟩ := y
    refine ⟨Evl.Ex.refl _, fun d hd => ?_⟩
    obtain ⟨v, hv, rv⟩ := r.get hd
    have q := y xs (.inl (at_ M' _ hm e))
    rw [hv] at q
    cases q
    exact (rv.wide hm).mono (fun _ z => z) e
theorem wk_tup {a : Addr} {xs : List V} (m : ¬ M a) (h : Rd H a (.tup xs)) (r : RpAll K M H xs ds) : Wk K M (Itt K a) H ds := by
  have nm : ∀ M' : Addr → Prop, (∀ a, M' a → M a ∨ H a = none) → ¬ M' a := fun M' hm z => (hm a z).elim m (Rd.there h)
  have at_ : ∀ (M' : Addr → Prop) (H' : Hp), (∀ a, M' a → M a ∨ H a = none) → ExM M' H H' → Rd H' a (.tup xs) := fun M' H' hm e => Rd.exT (M := M') h (nm M' hm) e
  refine ⟨fun M' i H' hm e hi => ?_, fun M' H' hm e => ?_, fun M' i H' x H'' hm e al y => ?_⟩
  · have hx : i < xs.length := by rw [r.length]; exact hi
    exact ⟨xs, xs[i], .inl (at_ M' H' hm e), List.getElem?_eq_getElem hx⟩
  · exact ⟨xs, .inl (at_ M' H' hm e), by rw [r.length]; exact Nat.le_refl _⟩
  · obtain ⟨rfl, y⟩ := y
    refine ⟨Evl.Ex.refl _, fun d hd => ?_⟩
    obtain ⟨v, hv, rv⟩ := r.get hd
    have q := y xs (.inl (at_ M' _ hm e))
    rw [hv] at q
    cases q
    exact (rv.wide hm).mono (fun _ z => z) e
theorem wk_range (lo : Int) (n : Nat) : Wk K M (Itr lo n) H ((List.range n).map fun i => PyData.int (lo + (i : Nat))) := by
  refine ⟨fun M' i H' hm e hi => ?_, fun M' H' hm e => ?_, fun M' i H' x H'' hm e al y => ?_⟩
  · rw [List.length_map, List.length_range] at hi
    exact hi
  · rw [List.length_map, List.length_range]
    exact Nat.le_refl _
  · obtain ⟨rfl, rfl⟩ := y
    refine ⟨Evl.Ex.refl _, fun d hd => ?_⟩
    rw [List.getElem?_map] at hd
    obtain ⟨j, hj, rfl⟩ := Option.map_eq_some_iff.mp hd
    obtain ⟨h1, h2⟩ := List.getElem?_eq_some_iff.mp hj
    rw [List.getElem_range] at h2
    subst h2
    exact .int _
def enumD (ds : List PyData) : List PyData := ds.zipIdx.map fun p => .tuple [.int (p.2 : Nat), p.1]
theorem src_list (h : PD X M iter σ H (.list ds)) : Src X M tg iter σ H ds := ⟨_, pi_list wE.pe, fun H1 e1 al R q => h.run H1 e1 al _ fun v H2 x2 r => by
  cases r with
  | lst m hr rs => exact ⟨_, rfl, ⟨_, .inl hr⟩, q _ H2 x2 (wk_list m hr rs)⟩⟩
theorem src_tup (h : PD X M iter σ H (.tuple ds)) : Src X M tg iter σ H ds := ⟨_, pi_tup wE.pe, fun H1 e1 al R q => h.run H1 e1 al _ fun v H2 x2 r => by
  cases r with
  | tup m hr rs => exact ⟨_, rfl, ⟨_, .inl hr⟩, q _ H2 x2 (wk_tup m hr rs)⟩⟩
theorem src_range1 {p : Pos} {j : Int} (hg : Gl X "range") (hm : X.mg "range" = none) (h : PD X M e σ H (.int j)) (h1 : -(2 ^ 62) ≤ j) (h2 : j < 2 ^ 62) (hs : starEach [e] X.env = [(false, eval e X.env)] := by rfl)
    (hs' : starEach (e :: []) X.env = (false, eval e X.env) :: starEach [] X.env := by rfl) : Src X M tg (.Call (.Name "range" p) [e] [] pos) σ H ((List.range j.toNat).map fun i => PyData.int (0 + (i : Nat))) :=
  ⟨_, pi_range1 hg hm wA.pa hs, fun H1 e1 al R q => (ad_cons h ad_nil hs').run H1 e1 al _ fun vs H2 x2 rs => by
    obtain ⟨v, rfl, r⟩ := rpa1 rs
    cases r
    exact ⟨j, rfl, h1, h2, q _ H2 x2 (wk_range 0 j.toNat)⟩⟩
theorem src_range2 {p : Pos} {a b : Expr} {i j : Int} (hg : Gl X "range") (hm : X.mg "range" = none) (ha : PD X M a σ H (.int i)) (hb : PD X M b σ H (.int j)) (h1 : -(2 ^ 62) ≤ i ∧ i < 2 ^ 62) (h2 : -(2 ^ 62) ≤ j ∧ j < 2 ^ 62)
    (hs : starEach [a, b] X.env = [(false, eval a X.env), (false, eval b X.env)] := by rfl) (hs2 : starEach [b] X.env = [(false, eval b X.env)] := by rfl)
    (hsa : starEach (a :: [b]) X.env = (false, eval a X.env) :: starEach [b] X.env := by rfl) (hsb : starEach (b :: []) X.env = (false, eval b X.env) :: starEach [] X.env := by rfl) :
    Src X M tg (.Call (.Name "range" p) [a, b] [] pos) σ H ((List.range (j - i).toNat).map fun k => PyData.int (i + (k : Nat))) :=
  ⟨_, pi_range2 hg hm wA.pa hs hs2, fun H1 e1 al R q => (ad_cons ha (ad_cons hb ad_nil hsb) hsa).run H1 e1 al _ fun vs H2 x2 rs => by
    obtain ⟨v, w, rfl, r1, r2⟩ := rpa2 rs
    cases r1
    cases r2
    exact ⟨i, j, rfl, ⟨h1.1, h1.2, h2.1, h2.2⟩, q _ H2 x2 (wk_range i (j - i).toNat)⟩⟩

/-! ### targets: a name, two names -/
inductive Tg where
  | one (i : Nat)
  | two (i j : Nat)
def Tg.g (K : PySem.W.Frag) : Tg → TG
  | .one i => gName i
  | .two i j => gTup K 2 (gCons (gName i) (gCons (gName j) gNil))
def Tg.Ok (K : PySem.W.Frag) (M : Addr → Prop) (H : Hp) (d : PyData) (σ : St) : Tg → St → Prop
  | .one i, σ' => ∃ v, Rp K M H v d ∧ σ' = σ.set i (some v)
  | .two i j, σ' => ∃ da db v w, d = .tuple [da, db] ∧ Rp K M H v da ∧ Rp K M H w db ∧ σ' = (σ.set i (some v)).set j (some w)
def Tg.Fits : Tg → PyData → Prop
  | .one _, _ => True
  | .two _ _, d => ∃ da db, d = .tuple [da, db]
theorem Tg.run {t : Tg} {v : V} {Q : St → Hp → Prop} (f : t.Fits d) (r : Rp K M H v d) (q : ∀ σ', t.Ok K M H d σ σ' → Q σ' H) : t.g K v σ H Q := by
  cases t with
  | one i => exact q _ ⟨v, r, rfl⟩
  | two i j =>
    obtain ⟨da, db, rfl⟩ := f
    cases r with
    | tup m h rs =>
      obtain ⟨v1, w1, rfl, r1, r2⟩ := rpa2 rs
      exact ⟨_, _, rfl, .inl h, rfl, v1, [w1], rfl, w1, [], rfl, rfl, q _ ⟨da, db, v1, w1, rfl, r1, r2, rfl⟩⟩

/-! ### for -/
theorem s_for {t : Tg} {body : List Stmt} {D : Ends} (hp : PassesOwn (model X.prog X.w) X.A X.env X.xe) (hc : X.calm = true) (hi : Src X M tg iter σ H ds) (hg : PG X tg (t.g X.K)) (al : Alive M H) (J : Hp → Nat → St → Hp → Prop)
    (h0 : ∀ H1, Evl.Ex H H1 → J H1 0 σ H1) (hk : ∀ H1 i σ' H', Evl.Ex H H1 → J H1 i σ' H' → ExM M H1 H' ∧ Alive M H') (hf : ∀ d ∈ ds, t.Fits d)
    (ht : ∀ H1 i d σ' H' H2 σ2, Evl.Ex H H1 → ds[i]? = some d → J H1 i σ' H' → Evl.Ex H' H2 → t.Ok X.K M H2 d σ' σ2 → wB X body { D with nx := J H1 (i + 1), ct := J H1 (i + 1), bk := D.nx } σ2 H2)
    (hd : ∀ H1 σ' H', Evl.Ex H H1 → J H1 ds.length σ' H' → D.nx σ' H') (hs : ∀ x, foldedSetIterable iter X.env x = pure x := by intro _; rfl) : wS X (.For tg iter body [] pos) D σ H := by
  obtain ⟨wi, pi, run⟩ := hi.ex
  refine ⟨_, ps_for hp hc pi hg wB.ps hs, run H (ExM.refl H) al _ fun It H1 x1 wk => ?_⟩
  refine ⟨fun i m σ' H' => m = ds.length - i ∧ i ≤ ds.length ∧ J H1 i σ' H', ⟨ds.length, rfl, Nat.zero_le _, h0 H1 x1⟩, ?_⟩
  rintro i m σ' H' ⟨rfl, hi', j⟩
  obtain ⟨e, al'⟩ := hk H1 i σ' H' x1 j
  by_cases hlt : i < ds.length
  · refine .inr ⟨wk.go M i H' (fun _ z => .inl z) e hlt, J H1 (i + 1), fun σ2 H2 j2 => ⟨ds.length - (i + 1), by omega, rfl, hlt, j2⟩, fun x H2 y => ?_⟩
    obtain ⟨x2, r⟩ := wk.yld M i H' x H2 (fun _ z => .inl z) e al' y
    have hd' : ds[i]? = some ds[i] := List.getElem?_eq_getElem hlt
    exact Tg.run (hf _ (List.getElem_mem hlt)) (r _ hd') fun σ2 ok => ht H1 i _ σ' H' H2 σ2 x1 hd' j x2 ok
  · have e2 : i = ds.length := by omega
    subst e2
    exact .inl ⟨wk.stop M H' (fun _ z => .inl z) e, hd H1 σ' H' x1 j⟩

/-! ### [elt for target in iter if ..] -/
def wTs (X : Cx) (ifs : List Expr) : TT := fun σ H Q => ∃ t, PTs X ifs t ∧ t σ H Q
theorem wTs.pts {ifs : List Expr} : PTs X ifs (wTs X ifs) := ⟨fun pins s σ H Q I ⟨_, h, q⟩ => h.run pins s σ H Q I q⟩
/-- the tests' answer -/
structure TsD (X : Cx) (M : Addr → Prop) (ifs : List Expr) (σ : St) (H : Hp) (k : Bool) : Prop where
  run : ∀ H1, ExM M H H1 → Alive M H1 → ∀ Q : Bool → Hp → Prop, (∀ H2, Evl.Ex H1 H2 → Q k H2) → wTs X ifs σ H1 Q
theorem tsd_nil : TsD X M [] σ H true := ⟨fun H1 _ _ Q q => ⟨_, pts_nil, q H1 (Evl.Ex.refl H1)⟩⟩
theorem tsd_one {k : Bool} (h : TD X M c σ H k) : TsD X M [c] σ H k := ⟨fun H1 e1 al Q q => ⟨_, pts_one wT.pt, h.run H1 e1 al Q q⟩⟩
abbrev Cx.lc (X : Cx) (s : Shared) (H : Hp) (scope : Scope) (C : Addr) (cl : List (Str × Addr)) (fp : List Addr) : Cx := X.blk s H scope (compEnvC scope cl C X.env) fp
theorem lc_core {t : Tg} {elt : Expr} {ifs : List Expr} {scope : Scope} {own : List (Str × Nat)} (hc : X.calm = true) (hN : X.N.Nodup) (hi : Src X M tg iter σ H ds) (ok : BlkOk X.N X.env.scope scope own)
    (hg : ∀ s H C cl fp, PG (Cx.lc X s H scope C cl fp) tg (t.g X.K)) (hf : ∀ d ∈ ds, t.Fits d) (hw : ∀ M H d σ', t.Ok X.K M H d (wipe σ (own.map (·.2))) σ' → wipe σ' (own.map (·.2)) = wipe σ (own.map (·.2)))
    (p : PyData → Bool) (f : PyData → PyData) (hl : ds.length ≤ 100000)
    (body : ∀ s0 H0 C cl fp M' H' d σ', (∀ a, M a → M' a) → (∀ v e, Rp X.K M H v e → Rp X.K M' H' v e) → d ∈ ds → t.Ok X.K M' H' d (wipe σ (own.map (·.2))) σ' →
      TsD (Cx.lc X s0 H0 scope C cl fp) M' ifs σ' H' (p d) ∧ (p d = true → PD (Cx.lc X s0 H0 scope C cl fp) M' elt σ' H' (f d))) :
    ∃ wi, PI X tg iter wi ∧ ∀ H1, ExM M H H1 → Alive M H1 → ∀ Q : VK, (∀ l ws H2, H1 l = none → Evl.Ex H1 H2 → H2 l = some (.lst ws) → RpAll X.K M H2 ws ((ds.filter p).map f) → Q (.ref l) H2) →
      tLc wi (t.g X.K) (fun σ H Q => ∀ s0 H0 C cl fp, wTs (Cx.lc X s0 H0 scope C cl fp) ifs σ H Q) (fun σ H Q => ∀ s0 H0 C cl fp, wE (Cx.lc X s0 H0 scope C cl fp) elt σ H Q) (own.map (·.2)) σ H1 Q := by
  obtain ⟨wi, pi, run⟩ := hi.ex
  refine ⟨wi, pi, fun H1 e1 al Q q => ?_⟩
  refine run H1 e1 al _ fun It Hs xs wk D hD => ?_
  have alS := al.mono xs
  -- D is mutable meanwhile
  let M' : Addr → Prop := fun a => M a ∨ a = D
  have hm : ∀ a, M' a → M a ∨ Hs a = none := fun a z => z.elim .inl fun e => .inr (by rw [e]; exact hD)
  have al2 : ∀ H', Evl.Ex Hs H' → (∃ acc, H' D = some (.lst acc)) → Alive M' H' := fun H' e ⟨acc, h⟩ a z => by
    rcases z with z | z
    · exact (alS.mono e) a z
    · subst z
      exact ⟨_, h⟩
  refine ⟨fun i m H' => m = ds.length - i ∧ i ≤ ds.length ∧ Evl.Ex Hs H' ∧ ∃ acc, H' D = some (.lst acc) ∧ acc.length ≤ i ∧ RpAll X.K M' H' acc (((ds.take i).filter p).map f), ⟨ds.length, rfl, Nat.zero_le _, Evl.Ex.new hD, [], upd_same, Nat.le_refl _, by simpa using RpAll.nil⟩, ?_⟩
  rintro i m H' ⟨rfl, hi', x, acc, hacc, hlen, racc⟩
  have eM : ExM M' Hs H' := .of x
  have al' := al2 H' x ⟨acc, hacc⟩
  by_cases hlt : i < ds.length
  · refine .inr ⟨wk.go M' i H' hm eM hlt, fun H2 => Evl.Ex Hs H2 ∧ ∃ acc, H2 D = some (.lst acc) ∧ acc.length ≤ i + 1 ∧ RpAll X.K M' H2 acc (((ds.take (i + 1)).filter p).map f), fun H2 ⟨a1, a2⟩ => ⟨ds.length - (i + 1), by omega, rfl, hlt, a1, a2⟩, fun v H2 y => ?_⟩
    obtain ⟨x2, r⟩ := wk.yld M' i H' v H2 hm eM al' y
    have hd' : ds[i]? = some ds[i] := List.getElem?_eq_getElem hlt
    have hmem := List.getElem_mem hlt
    have hacc2 : H2 D = some (.lst acc) := x2 _ _ hacc
    have lift : ∀ v e, Rp X.K M H v e → Rp X.K M' H2 v e := fun v e rv => ((rv.mono (fun _ z => z) (e1.trans (.of xs))).wide hm).mono (fun _ z => z) (.of (x.trans x2))
    have al3 := al2 H2 (x.trans x2) ⟨acc, hacc2⟩
    refine Tg.run (hf _ hmem) (r _ hd') fun σ2 okk => ⟨hw _ _ _ _ okk, ?_⟩
    have all := fun s0 H0 C cl fp => body s0 H0 C cl fp M' H2 ds[i] σ2 (fun _ z => .inl z) lift hmem okk
    -- the test
    have tk : (ds.take (i + 1)).filter p = (ds.take i).filter p ++ (if p ds[i] = true then [ds[i]] else []) := by
      rw [List.take_add_one, hd', List.filter_append]
      simp only [Option.toList_some, List.filter_cons, List.filter_nil]
    have fin : ∀ b, b = p ds[i] → ∀ H3, Evl.Ex H2 H3 → (if b = true then (∀ s0 H0 C cl fp, wE (Cx.lc X s0 H0 scope C cl fp) elt σ2 H3 fun y H4 => ∃ acc, H4 D = some (.lst acc) ∧ acc.length < sizeLine ∧
        (Evl.Ex Hs (upd H4 D (.lst (acc ++ [y]))) ∧ ∃ acc', (upd H4 D (.lst (acc ++ [y]))) D = some (.lst acc') ∧ acc'.length ≤ i + 1 ∧ RpAll X.K M' (upd H4 D (.lst (acc ++ [y]))) acc' (((ds.take (i + 1)).filter p).map f)))
        else (Evl.Ex Hs H3 ∧ ∃ acc, H3 D = some (.lst acc) ∧ acc.length ≤ i + 1 ∧ RpAll X.K M' H3 acc (((ds.take (i + 1)).filter p).map f))) := by
      intro b hb H3 x3
      have hacc3 := x3 _ _ hacc2
      cases b with
      | true =>
        rw [if_pos rfl]
        intro s0 H0 C cl fp
        refine ((all s0 H0 C cl fp).2 hb.symm).run H3 (.of x3) (al3.mono x3) _ fun y H4 x4 ry => ?_
        have x5 : Evl.Ex Hs H4 := ((x.trans x2).trans x3).trans x4
        refine ⟨acc, x4 _ _ hacc3, ?_, Evl.Ex.mut x5 hD, _, upd_same, ?_, ?_⟩
        · exact Nat.lt_of_lt_of_le (Nat.lt_of_le_of_lt hlen hlt) (Evl.sz_of hl)
        · rw [List.length_append, List.length_singleton]
          omega
        · rw [tk, if_pos hb.symm, List.map_append]
          have eD : ExM M' H4 (upd H4 D (.lst (acc ++ [y]))) := fun a o h nm _ => by
            rw [upd_ne (fun e => nm (.inr e))]
            exact h
          exact (racc.mono (fun _ z => z) (.of ((x2.trans x3).trans x4))).append (.cons ry .nil) |>.mono (fun _ z => z) eD
      | false =>
        rw [if_neg Bool.false_ne_true]
        refine ⟨(x.trans x2).trans x3, acc, hacc3, by omega, ?_⟩
        rw [tk, if_neg (by rw [← hb]; exact Bool.false_ne_true), List.append_nil]
        exact racc.mono (fun _ z => z) (.of (x2.trans x3))
    intro s0 H0 C cl fp
    exact (all s0 H0 C cl fp).1.run H2 (ExM.refl H2) al3 _ fun H3 x3 => fin _ rfl H3 x3
  · have e2 : i = ds.length := by omega
    subst e2
    refine .inl ⟨wk.stop M' H' hm eM, q D acc H' (Evl.fresh_back xs hD) (xs.trans x) hacc ?_⟩
    rw [List.take_length] at racc
    exact racc.mono (fun _ z => .inl z) (ExM.refl _)
theorem fd_lc {t : Tg} {elt : Expr} {ifs : List Expr} {scope : Scope} {own : List (Str × Nat)} (hc : X.calm = true) (hN : X.N.Nodup) (hi : Src X M tg iter σ H ds) (ok : BlkOk X.N X.env.scope scope own)
    (hg : ∀ s H C cl fp, PG (Cx.lc X s H scope C cl fp) tg (t.g X.K)) (hf : ∀ d ∈ ds, t.Fits d) (hw : ∀ M H d σ', t.Ok X.K M H d (wipe σ (own.map (·.2))) σ' → wipe σ' (own.map (·.2)) = wipe σ (own.map (·.2)))
    (p : PyData → Bool) (f : PyData → PyData) (hl : ds.length ≤ 100000)
    (body : ∀ s0 H0 C cl fp M' H' d σ', (∀ a, M a → M' a) → (∀ v e, Rp X.K M H v e → Rp X.K M' H' v e) → d ∈ ds → t.Ok X.K M' H' d (wipe σ (own.map (·.2))) σ' →
      TsD (Cx.lc X s0 H0 scope C cl fp) M' ifs σ' H' (p d) ∧ (p d = true → PD (Cx.lc X s0 H0 scope C cl fp) M' elt σ' H' (f d)))
    (hs : ∀ x, foldedSetIterable iter X.env x = pure x := by intro _; rfl) : FD X M (.ListComp elt [⟨tg, iter, ifs, 0⟩] scope pos) σ H ((ds.filter p).map f) := by
  obtain ⟨wi, pi, run⟩ := lc_core hc hN hi ok hg hf hw p f hl body
  exact .mk fun H1 e1 al Q q => ⟨_, pe_lc hc hN pi ok hg (fun s0 H0 C cl fp => ⟨fun pins s σ H Q I h => wTs.pts.run pins s σ H Q I (h s0 H0 C cl fp)⟩) (fun s0 H0 C cl fp => ⟨fun pins s σ H Q I h => wE.pe.run pins s σ H Q I (h s0 H0 C cl fp)⟩) hs, run H1 e1 al Q q⟩
/-- y = [elt for target in iter if ..], where y stands in the block alone -/
theorem s_setLc {t : Tg} {elt : Expr} {ifs : List Expr} {scope : Scope} {own : List (Str × Nat)} (hc : X.calm = true) (hN : X.N.Nodup) (hi : Src X M tg iter σ H ds) (ok : BlkOk X.N X.env.scope scope own)
    (hg : ∀ s H C cl fp, PG (Cx.lc X s H scope C cl fp) tg (t.g X.K)) (hf : ∀ d ∈ ds, t.Fits d) (hw : ∀ M H d σ', t.Ok X.K M H d (wipe σ (own.map (·.2))) σ' → wipe σ' (own.map (·.2)) = wipe σ (own.map (·.2)))
    (p : PyData → Bool) (f : PyData → PyData) (hl : ds.length ≤ 100000)
    (body : ∀ s0 H0 C cl fp M' H' d σ', (∀ a, M a → M' a) → (∀ v e, Rp X.K M H v e → Rp X.K M' H' v e) → d ∈ ds → t.Ok X.K M' H' d (wipe σ (own.map (·.2))) σ' →
      TsD (Cx.lc X s0 H0 scope C cl fp) M' ifs σ' H' (p d) ∧ (p d = true → PD (Cx.lc X s0 H0 scope C cl fp) M' elt σ' H' (f d)))
    {i : Nat} {y : Str} {py spos : Pos} {D : Ends} (al : Alive M H) (hy : X.N[i]? = some y) (hyl : X.env.scope.names.lookup y = some .local) (hsw : swapsWith (.ListComp elt [⟨tg, iter, ifs, 0⟩] scope pos) (some (.Name y py)) spos.line X.env = pure true) (q : ∀ l ws H2, H l = none → Evl.Ex H H2 → H2 l = some (.lst ws) → RpAll X.K M H2 ws ((ds.filter p).map f) → D.nx (σ.set i (some (.ref l))) H2)
    (hs : ∀ x, foldedSetIterable iter X.env x = pure x := by intro _; rfl) : wS X (.Assign [.Name y py] (.ListComp elt [⟨tg, iter, ifs, 0⟩] scope pos) spos) D σ H := by
  obtain ⟨wi, pi, run⟩ := lc_core hc hN hi ok hg hf hw p f hl body
  exact ⟨_, ps_setLc hc hN hy hyl hsw pi ok hg (fun s0 H0 C cl fp => ⟨fun pins s σ H Q I h => wTs.pts.run pins s σ H Q I (h s0 H0 C cl fp)⟩) (fun s0 H0 C cl fp => ⟨fun pins s σ H Q I h => wE.pe.run pins s σ H Q I (h s0 H0 C cl fp)⟩) hs, run H (ExM.refl H) al _ q⟩
end
end GV

namespace GV
open PySem PySem.Spec PyProof.Rows L2
/-- the names of the built-ins that the text asks for are the built-ins' own -/
structure NoB (mg : Str → Option Value) : Prop where
  isinstance : mg "isinstance" = none
  int : mg "int" = none
  bool : mg "bool" = none
  str : mg "str" = none
  list : mg "list" = none
  tuple : mg "tuple" = none
  set : mg "set" = none
  len : mg "len" = none
  range : mg "range" = none
  enumerate : mg "enumerate" = none
  abs : mg "abs" = none
  min : mg "min" = none
  max : mg "max" = none
  sum : mg "sum" = none
  any : mg "any" = none
  all : mg "all" = none
  sorted : mg "sorted" = none
section
variable {X : Cx} {M : Addr → Prop} {σ : St} {H H' : Hp} {a b c e : Expr} {da db d : PyData} {pos : Pos} {es : List Expr} {ds : List PyData}

/-! ### isinstance of data, by one built-in class -/
def tyD : PyData → String
  | .none => "NoneType"
  | .bool _ => "bool"
  | .int _ => "int"
  | .str _ => "str"
  | .list _ => "list"
  | .tuple _ => "tuple"
  | .dict _ => "dict"
theorem Rp.tyX {K : PySem.W.Frag} {v : V} (r : Rp K M H v d) : TyX K H v (.type (tyD d)) := by
  cases r with
  | non => exact .base .non
  | bl b => exact .base (.bl b)
  | int i => exact .base (.int i)
  | str x => exact .base (.str x)
  | lst m h rs =>
    rcases h with h | ⟨o, h⟩
    · exact .base (.lst h)
    · exact .base (.frz h)
  | tup m h rs =>
    rcases h with h | ⟨o, h⟩
    · exact .base (.tup h)
    · exact .fTuple h
theorem pd_isi {T : String} {x : Str} {p p2 : Pos} {k : Bool} (hg : Gl X "isinstance") (hm : X.mg "isinstance" = none) (hgT : Gl X x) (hmT : X.mg x = none) (hv : bootBuiltins x = some (.type T)) (ha : PD X M a σ H d) (hk : kitB (tyD d) T = some k)
    (hn : x ≠ "__name__" := by decide) (hd : (x == ("__debug__" : Str)) = false := by decide)
    (h1 : starEach (a :: [.Name x p2]) X.env = (false, eval a X.env) :: starEach [.Name x p2] X.env := by rfl) (h2 : starEach (.Name x p2 :: []) X.env = (false, eval (.Name x p2) X.env) :: starEach [] X.env := by rfl)
    (hpl : (backTo pos (starEach [.Name x p2] X.env)).any (·.1) = false := by rfl) :
    PD X M (.Call (.Name "isinstance" p) [a, .Name x p2] [] pos) σ H (.bool k) := .mk fun H1 e1 al Q q =>
  ⟨_, pe_callB call_isi hg hm PyProof.Rows.boot_isinstance (pa_cons wE.pe (pa_cons (pe_bltn (v := .ty T) hgT hmT hv rfl hn hd) pa_nil h2) h1) (by decide) (by decide) h1 hpl, ha.run H1 e1 al _ fun v H2 x2 r =>
    ⟨v, .ty T, .type (tyD d), .type T, k, rfl, .ty T, r.tyX, kit_ty hk, q _ H2 x2 (.bl k)⟩⟩

/-! ### a chain of two comparisons of ints -/
theorem pd_leLe {i j k : Int} (ha : PD X M a σ H (.int i)) (hb : PD X M b σ H (.int j)) (hc : PD X M c σ H (.int k)) (h1 : lastMarks [.LtE, .LtE] [b, c] = false := by with_unfolding_all rfl) : PD X M (.Compare a [.LtE, .LtE] [b, c] pos) σ H (.bool (decide (i ≤ j) && decide (j ≤ k))) := .mk fun H1 e1 al Q q =>
  ⟨_, pe_chain op_le op_le wE.pe wE.pe wE.pe h1, ha.run H1 e1 al _ fun x H2 x2 rx => hb.run H2 (e1.trans (.of x2)) (al.mono x2) _ fun y H3 x3 ry => by
    cases rx
    cases ry
    refine ⟨i, j, rfl, rfl, _, rfl, ?_⟩
    by_cases h : i ≤ j
    · rw [if_pos (decide_eq_true h)]
      refine hc.run H3 ((e1.trans (.of x2)).trans (.of x3)) ((al.mono x2).mono x3) _ fun z H4 x4 rz => ?_
      cases rz
      refine ⟨j, k, rfl, rfl, q _ H4 ((x2.trans x3).trans x4) ?_⟩
      rw [decide_eq_true h]
      exact .bl _
    · rw [if_neg (by rw [decide_eq_false h]; exact Bool.false_ne_true)]
      refine q _ H3 (x2.trans x3) ?_
      rw [decide_eq_false h]
      exact .bl _⟩

/-! ### any, all, sum, min, max, in -/
theorem RpAll.of_bools {K : PySem.W.Frag} : ∀ {vs : List V} {bs : List Bool}, RpAll K M H vs (bs.map PyData.bool) → vs = bs.map V.bl
  | [], [], .nil => rfl
  | _ :: _, n :: r, .cons h hs => by
    cases h
    rw [RpAll.of_bools hs]
    rfl
theorem rn_all {bs : List Bool} : RDn X M (rAll X.K) [.list (bs.map PyData.bool)] (.bool (bs.all id)) := fun vs H1 r _ Q q => by
  obtain ⟨v, rfl, r1⟩ := rpa1 r
  cases r1 with
  | lst m hs rs => exact ⟨_, bs, rfl, .inl (by rw [← rs.of_bools]; exact hs), q _ H1 (Evl.Ex.refl H1) (.bl _)⟩
theorem rn_sum {ns : List Int} : RDn X M (rSum X.K) [.list (ns.map PyData.int)] (.int ns.sum) := fun vs H1 r _ Q q => by
  obtain ⟨v, rfl, r1⟩ := rpa1 r
  cases r1 with
  | lst m hs rs => exact ⟨_, ns, rfl, .inl (by rw [← rs.of_ints]; exact hs), q _ H1 (Evl.Ex.refl H1) (.int _)⟩
/-! ### min(e, default=f) of a list of ints -/
def minOr (d : PyData) : List Int → PyData
  | [] => d
  | n :: r => .int (r.foldl min n)
def rMinDf (K : PySem.W.Frag) : List V → List V → Hp → VK → Prop := fun xs zs H Q => ∃ (a : Addr) (ns : List Int) (z : V), xs = [.ref a] ∧ zs = [z] ∧ SqL K H a (ns.map V.int) ∧ (ns = [] → Q z H) ∧ (∀ n r, ns = n :: r → Q (.int (r.foldl min n)) H)
end
end GV

namespace GV
open PySem PySem.Spec PyProof.Rows L2
end GV

namespace GV
open PySem PySem.Spec PyProof.Rows L2
/-! ### a def of the text that keeps a promise, by its name -/
structure Cl (P : Program) (w : World) (K : PySem.W.Frag) (mg : Str → Option Value) (base : Heap) (CX : CXT) (k : Nat) (x : Str) (sp : Sp) : Prop where
  ex : ∃ (f : Addr) (fd : FuncData) (ps : List Str), FnOk P w K mg base CX k f fd ps sp ∧ mg x = some (.ref f) ∧ PySem.W.keepIn K (.ref f) = true ∧ Binds K fd ps []
section
variable {P : Program} {w : World} {K : PySem.W.Frag} {mg : Str → Option Value} {base : Heap}
/-- where a def stands -/
structure At (K : PySem.W.Frag) (mg : Str → Option Value) (x : Str) (st : Stmt) (f : Addr) (fd : FuncData) : Prop where
  fn : Fun K x x st f fd
  gl : mg x = some (.ref f)
theorem pureR_len {R : List PyData → PyData → Prop} {n : Nat} (hR : ∀ ds d, R ds d → ds.length = n) : ∀ vs H Q E, PureR K R vs H Q E → vs.length = n := fun vs H Q E h => by
  obtain ⟨M, ds, d, al, r, hr, _⟩ := h
  rw [r.length]
  exact hR ds d hr
/-- a pure def -/
theorem cl_pure {x : Str} {st : Stmt} {f : Addr} {fd : FuncData} {N ps : List Str} {k : Nat} {R : List PyData → PyData → Prop} (F : At K mg x st f fd) (S : FnScope N ps (defScope st)) (hb : Binds K fd ps []) (hR : ∀ ds d, R ds d → ds.length = ps.length)
    (body : ∀ (X : Cx) (cdv : Value) (A : Around) (outer : List Env) (s : Shared) (H : Hp) (Q : VK) (E : XK) (M : Addr → Prop) (vs : List V) (ds : List PyData) (d : PyData), X = (cxOf CX0 P w K mg base N x (defScope st) f cdv A outer s H E).nox → Room k X.A → Alive M H → RpAll K M H vs ds → R ds d →
      (∀ v H', Evl.Ex H H' → Rp K M H' v d → Q v H') → wB X (defBody st) { nx := fun _ H' => Q .non H', rt := Q } (L2.start N vs) H) :
    Cl P w K mg base CX0 (k + 1) x (PureR K R) := by
  refine ⟨f, fd, ps, F.fn.ok S (pureR_len hR) (fun cdv A outer s H vs Q E hr h => ⟨_, wB.ps, ?_⟩), F.gl, F.fn.kp, hb⟩
  obtain ⟨M, ds, d, al, r, hr', q⟩ := h
  exact body _ cdv A outer s H Q E M vs ds d rfl hr al r hr' q
end
section
variable {X : Cx} {M : Addr → Prop} {σ : St} {H H' : Hp} {a b c e : Expr} {da db d : PyData} {pos : Pos} {es : List Expr} {ds : List PyData}
theorem pd_callC {R : List PyData → PyData → Prop} {j k : Nat} {x : Str} {p : Pos} (cl : Cl X.prog X.w X.K X.mg X.base CX0 k x (PureR X.K R)) (hr : Room j X.A) (hkj : k ≤ j) (hg : Gl X x) (h : AD X M (e :: es) σ H ds) (hR : R ds d)
    (hdb : (x == ("__debug__" : Str)) = false := by decide) (he : starEach (e :: es) X.env = (false, eval e X.env) :: starEach es X.env := by rfl) (hpl : (backTo pos (starEach es X.env)).any (·.1) = false := by rfl) : PD X M (.Call (.Name x p) (e :: es) [] pos) σ H d := by
  obtain ⟨f, fd, ps, F, hm, hk, hb⟩ := cl.ex
  exact pd_call F (hr.mono hkj) hg hm hk hb pass0 h hR hdb he hpl
/-- .. a def that makes a list -/
def FreshR (K : PySem.W.Frag) (R : List PyData → List PyData → Prop) : Sp := fun vs H Q _ => ∃ M ds es, Alive M H ∧ RpAll K M H vs ds ∧ R ds es ∧ ∀ p ws H', H p = none → Evl.Ex H H' → H' p = some (.lst ws) → RpAll K M H' ws es → Q (.ref p) H'
theorem fd_callC {R : List PyData → List PyData → Prop} {fs : List PyData} {j k : Nat} {x : Str} {p : Pos} (cl : Cl X.prog X.w X.K X.mg X.base CX0 k x (FreshR X.K R)) (hr : Room j X.A) (hkj : k ≤ j) (hg : Gl X x) (h : AD X M (e :: es) σ H ds) (hR : R ds fs)
    (hdb : (x == ("__debug__" : Str)) = false := by decide) (he : starEach (e :: es) X.env = (false, eval e X.env) :: starEach es X.env := by rfl) (hpl : (backTo pos (starEach es X.env)).any (·.1) = false := by rfl) : FD X M (.Call (.Name x p) (e :: es) [] pos) σ H fs := by
  obtain ⟨f, fd, ps, F, hm, hk, hb⟩ := cl.ex
  exact .mk fun H1 e1 al Q q => ⟨_, pe_call F (hr.mono hkj) hg hm hk hb .nil pass0 wA.pa hdb he hpl, h.run H1 e1 al _ fun vs H2 x2 r => by
    rw [List.append_nil]
    exact ⟨M, ds, fs, al.mono x2, r, hR, fun p ws H3 hp x3 h3 rv => q p ws H3 (Evl.fresh_back x2 hp) (x2.trans x3) h3 rv⟩⟩

/-! ### where things change: step by step -/
abbrev M0 : Addr → Prop := fun _ => False
theorem alive0 : Alive M0 H := fun _ z => z.elim
theorem ce_pd {Q : VK} (al : Alive M H) (h : PD X M e σ H d) (q : ∀ v H2, Evl.Ex H H2 → Rp X.K M H2 v d → Q v H2) : wE X e σ H Q := h.run H (ExM.refl H) al Q q
theorem ce_fd {Q : VK} (al : Alive M H) (h : FD X M e σ H ds) (q : ∀ p ws H2, H p = none → Evl.Ex H H2 → H2 p = some (.lst ws) → RpAll X.K M H2 ws ds → Q (.ref p) H2) : wE X e σ H Q := h.run H (ExM.refl H) al Q q
/-! ### comparisons as tests -/
theorem td_cmpR {op : CmpOp} {r : R2} {k : Bool} (ho : OpR X (compareOp op) r) (hm : behindInMarks op b = false) (hr : RD2 X M r da db (.bool k)) (ha : PD X M a σ H da) (hb : PD X M b σ H db) : TD X M (.Compare a [op] [b] pos) σ H k := .mk fun H1 e1 al Q q =>
  ⟨_, pt_cmpR ho wE.pe wE.pe hm, ha.run H1 e1 al _ fun x H2 x2 rx => hb.run H2 (e1.trans (.of x2)) (al.mono x2) _ fun y H3 x3 ry =>
    hr x y H3 (rx.mono (fun _ z => z) (.of x3)) ry ((al.mono x2).mono x3) _ fun v H4 x4 rv => by
      cases rv
      exact ⟨k, rfl, q H4 ((x2.trans x3).trans x4)⟩⟩
theorem td_lt {i j : Int} (ha : PD X M a σ H (.int i)) (hb : PD X M b σ H (.int j)) : TD X M (.Compare a [.Lt] [b] pos) σ H (decide (i < j)) := td_cmpR op_lt (nomark _) rd_B0 ha hb
theorem td_gt {i j : Int} (ha : PD X M a σ H (.int i)) (hb : PD X M b σ H (.int j)) : TD X M (.Compare a [.Gt] [b] pos) σ H (decide (j < i)) := td_cmpR op_gt (nomark _) rd_B0 ha hb
theorem td_ge {i j : Int} (ha : PD X M a σ H (.int i)) (hb : PD X M b σ H (.int j)) : TD X M (.Compare a [.GtE] [b] pos) σ H (decide (j ≤ i)) := td_cmpR op_ge (nomark _) rd_B0 ha hb
theorem rd_eqD (hu : X.A.units + 64 < cLine) (sa : SeqAt.shaped da = true) (sb : SeqAt.shaped db = true) : RD2 X M (rEqD X.K) da db (.bool (PyData.eqv da db)) := fun x y H1 rx ry _ Q q => ⟨da, db, rx.dp, ry.dp, sa, sb, q _ H1 (Evl.Ex.refl H1) (.bl _)⟩
theorem rd_neD (hu : X.A.units + 64 < cLine) (sa : SeqAt.shaped da = true) (sb : SeqAt.shaped db = true) : RD2 X M (rNeD X.K) da db (.bool (!PyData.eqv da db)) := fun x y H1 rx ry _ Q q => ⟨da, db, rx.dp, ry.dp, sa, sb, q _ H1 (Evl.Ex.refl H1) (.bl _)⟩
theorem td_eq (hu : X.A.units + 64 < cLine) (ha : PD X M a σ H da) (hb : PD X M b σ H db) (sa : SeqAt.shaped da = true) (sb : SeqAt.shaped db = true) : TD X M (.Compare a [.Eq] [b] pos) σ H (PyData.eqv da db) := td_cmpR (op_eqD hu) (nomark _) (rd_eqD hu sa sb) ha hb
theorem td_ne (hu : X.A.units + 64 < cLine) (ha : PD X M a σ H da) (hb : PD X M b σ H db) (sa : SeqAt.shaped da = true) (sb : SeqAt.shaped db = true) : TD X M (.Compare a [.NotEq] [b] pos) σ H (!PyData.eqv da db) := td_cmpR (op_neD hu) (nomark _) (rd_neD hu sa sb) ha hb
theorem td_isN {j p2} (ha : PD X M a σ H da) : TD X M (.Compare a [.Is] [.Constant .none j p2] pos) σ H (isNone da) :=
  td_cmpR op_isN (nomark _) (fun x y H1 rx ry _ Q q => by
    cases ry
    exact ⟨rfl, q _ H1 (Evl.Ex.refl H1) (by rw [rx.isN]; exact .bl _)⟩) ha pd_non
theorem td_notN {j p2} (ha : PD X M a σ H da) : TD X M (.Compare a [.IsNot] [.Constant .none j p2] pos) σ H (!isNone da) :=
  td_cmpR op_notN (nomark _) (fun x y H1 rx ry _ Q q => by
    cases ry
    exact ⟨rfl, q _ H1 (Evl.Ex.refl H1) (by rw [rx.isN]; exact .bl _)⟩) ha pd_non
theorem filt_all {α : Type} (l : List α) : (l.filter fun _ => true) = l := List.filter_eq_self.mpr fun _ _ => rfl
/-- [elt for target in iter] -/
theorem fd_map {tg iter : Expr} {t : Tg} {elt : Expr} {scope : Scope} {own : List (Str × Nat)} (f : PyData → PyData) (hc : X.calm = true) (hN : X.N.Nodup) (hi : Src X M tg iter σ H ds) (ok : BlkOk X.N X.env.scope scope own)
    (hg : ∀ s H C cl fp, PG (Cx.lc X s H scope C cl fp) tg (t.g X.K)) (hf : ∀ d ∈ ds, t.Fits d) (hw : ∀ M H d σ', t.Ok X.K M H d (wipe σ (own.map (·.2))) σ' → wipe σ' (own.map (·.2)) = wipe σ (own.map (·.2))) (hl : ds.length ≤ 100000)
    (body : ∀ s0 H0 C cl fp M' H' d σ', (∀ a, M a → M' a) → (∀ v e, Rp X.K M H v e → Rp X.K M' H' v e) → d ∈ ds → t.Ok X.K M' H' d (wipe σ (own.map (·.2))) σ' → PD (Cx.lc X s0 H0 scope C cl fp) M' elt σ' H' (f d))
    (hs : ∀ x, foldedSetIterable iter X.env x = pure x := by intro _; rfl) : FD X M (.ListComp elt [⟨tg, iter, [], 0⟩] scope pos) σ H (ds.map f) := by
  have h := fd_lc (pos := pos) hc hN hi ok hg hf hw (fun _ => true) f hl (fun s0 H0 C cl fp M' H' d σ' hM lift hd hok => ⟨tsd_nil, fun _ => body s0 H0 C cl fp M' H' d σ' hM lift hd hok⟩) hs
  rwa [filt_all] at h
/-- [elt for target in iter if test] -/
theorem fd_filter {tg iter tst : Expr} {t : Tg} {elt : Expr} {scope : Scope} {own : List (Str × Nat)} (p : PyData → Bool) (f : PyData → PyData) (hc : X.calm = true) (hN : X.N.Nodup) (hi : Src X M tg iter σ H ds) (ok : BlkOk X.N X.env.scope scope own)
    (hg : ∀ s H C cl fp, PG (Cx.lc X s H scope C cl fp) tg (t.g X.K)) (hf : ∀ d ∈ ds, t.Fits d) (hw : ∀ M H d σ', t.Ok X.K M H d (wipe σ (own.map (·.2))) σ' → wipe σ' (own.map (·.2)) = wipe σ (own.map (·.2))) (hl : ds.length ≤ 100000)
    (body : ∀ s0 H0 C cl fp M' H' d σ', (∀ a, M a → M' a) → (∀ v e, Rp X.K M H v e → Rp X.K M' H' v e) → d ∈ ds → t.Ok X.K M' H' d (wipe σ (own.map (·.2))) σ' → TD (Cx.lc X s0 H0 scope C cl fp) M' tst σ' H' (p d) ∧ PD (Cx.lc X s0 H0 scope C cl fp) M' elt σ' H' (f d))
    (hs : ∀ x, foldedSetIterable iter X.env x = pure x := by intro _; rfl) : FD X M (.ListComp elt [⟨tg, iter, [tst], 0⟩] scope pos) σ H ((ds.filter p).map f) :=
  fd_lc hc hN hi ok hg hf hw p f hl (fun s0 H0 C cl fp M' H' d σ' hM lift hd hok => let ⟨h1, h2⟩ := body s0 H0 C cl fp M' H' d σ' hM lift hd hok; ⟨tsd_one h1, fun _ => h2⟩) hs
/-- the name in slot i, by what is known of its value -/
theorem nm (i : Nat) {x : Str} {v : V} (r : Rp X.K M H v d) (hN : X.N[i]? = some x := by rfl) (hv : Vis X.env.scope x := by first | exact .inl rfl | exact .inr (.inl rfl) | exact .inr (.inr rfl)) (hs : σ[i]? = some (some v) := by rfl)
    (hd : (x == ("__debug__" : Str)) = false := by decide) (hcd : (x == ("__classdict__" : Str)) = false := by decide) : PD X M (.Name x pos) σ H d := pd_name hN hv hs r hd hcd
theorem ce_name {i : Nat} {x : Str} {v : V} {Q : VK} (hN : X.N[i]? = some x) (hv : Vis X.env.scope x) (hs : σ[i]? = some (some v)) (q : Q v H)
    (hd : (x == ("__debug__" : Str)) = false := by decide) (hcd : (x == ("__classdict__" : Str)) = false := by decide) : wE X (.Name x pos) σ H Q := ⟨_, pe_var hN hv hd hcd, v, hs, q⟩
theorem ca_nil {Q : List V → Hp → Prop} (q : Q [] H) : wA X [] σ H Q := ⟨_, pa_nil, q⟩
theorem ca_cons {Q : List V → Hp → Prop} (h : wE X e σ H fun v H2 => wA X es σ H2 fun vs H3 => Q (v :: vs) H3) (hs : starEach (e :: es) X.env = (false, eval e X.env) :: starEach es X.env := by rfl) : wA X (e :: es) σ H Q := ⟨_, pa_cons wE.pe wA.pa hs, h⟩
theorem ce_bin {op : Operator} {r : R2} {Q : VK} (ho : OpR X (binaryOp op) r) (h : wE X a σ H fun x H2 => wE X b σ H2 fun y H3 => r x y H3 Q) : wE X (.BinOp a op b pos) σ H Q := ⟨_, pe_op ho wE.pe wE.pe, h⟩
theorem ce_add {Q : VK} (h : wE X a σ H fun x H2 => wE X b σ H2 fun y H3 => ∃ i j, x = .int i ∧ y = .int j ∧ Q (.int (i + j)) H3) : wE X (.BinOp a .Add b pos) σ H Q := ce_bin op_add h
theorem ce_sub {Q : VK} (h : wE X a σ H fun x H2 => wE X b σ H2 fun y H3 => ∃ i j, x = .int i ∧ y = .int j ∧ Q (.int (i - j)) H3) : wE X (.BinOp a .Sub b pos) σ H Q := ce_bin op_sub h
theorem ce_call {sp : Sp} {Q : VK} {j k : Nat} {x : Str} {p : Pos} (cl : Cl X.prog X.w X.K X.mg X.base CX0 k x sp) (hr : Room j X.A) (hkj : k ≤ j) (hg : Gl X x) (h : wA X (e :: es) σ H fun vs H2 => sp vs H2 Q E0)
    (hdb : (x == ("__debug__" : Str)) = false := by decide) (he : starEach (e :: es) X.env = (false, eval e X.env) :: starEach es X.env := by rfl) (hpl : (backTo pos (starEach es X.env)).any (·.1) = false := by rfl) : wE X (.Call (.Name x p) (e :: es) [] pos) σ H Q := by
  obtain ⟨f, fd, ps, F, hm, hk, hb⟩ := cl.ex
  refine ⟨_, pe_call F (hr.mono hkj) hg hm hk hb .nil pass0 wA.pa hdb he hpl, ?_⟩
  obtain ⟨t, h1, h2⟩ := h
  refine ⟨t, h1, ?_⟩
  have e1 : (fun vs H1 => sp (vs ++ []) H1 Q E0) = fun vs H1 => sp vs H1 Q E0 := by
    funext vs H1
    rw [List.append_nil]
  rw [e1]
  exact h2
theorem ce_ix {Q : VK} (h : wE X a σ H fun x H2 => wE X b σ H2 fun y H3 => rIx X.K x y H3 Q) (hs : PlainIx b := by exact fun _ _ => rfl) : wE X (.Subscript a b pos) σ H Q := ⟨_, pe_ix ix_seq wE.pe wE.pe hs, h⟩
/-- an item of a datum, by values -/
theorem rIx_of {K : PySem.W.Frag} {x : V} {i : Int} {Q : VK} (r : Rp K M H x da) (h : ixD da (.int i) = some d) (q : ∀ v, Rp K M H v d → Q v H) : rIx K x (.int i) H Q := by
  cases r with
  | lst m hs rs =>
    obtain ⟨v, hv, rv⟩ := atI_rp rs h
    exact .inl ⟨_, _, i, v, rfl, rfl, .inl hs, hv, q v rv⟩
  | tup m hs rs =>
    obtain ⟨v, hv, rv⟩ := atI_rp rs h
    exact .inr (.inl ⟨_, _, i, v, rfl, rfl, .inl hs, hv, q v rv⟩)
  | str z =>
    simp only [ixD] at h
    split at h
    · rename_i hz
      cases e : atI z.cps.toList i with
      | none =>
        rw [e] at h
        cases h
      | some c =>
        rw [e] at h
        cases h
        exact .inr (.inr ⟨z, i, c, rfl, rfl, hz, e, q _ (.str _)⟩)
    · cases h
  | _ => cases h
end
section
variable {X : Cx} {M : Addr → Prop} {σ : St} {H H' : Hp} {c e o ix : Expr} {d : PyData} {pos : Pos} {st : Stmt} {sts A B : List Stmt} {D : Ends}
theorem cs_set {i : Nat} {x : Str} {p : Pos} (hN : X.N.Nodup) (hi : X.N[i]? = some x) (hx : Loc X.env.scope x) (h : wE X e σ H fun v H2 => D.nx (σ.set i (some v)) H2)
    (hs : swapsWith e (some (.Name x p)) pos.line X.env = pure false := by rfl) (hf : X.fn x = true ∨ X.env.scope.names.lookup x = some .local := by first | exact .inl rfl | exact .inr rfl | assumption) : wS X (.Assign [.Name x p] e pos) D σ H := ⟨_, ps_set hN hi hx wE.pe hs hf, h⟩
theorem cs_ret (h : wE X e σ H D.rt) : wS X (.Return (some e) pos) D σ H := ⟨_, ps_ret wE.pe, h⟩
theorem cs_expr (h : wE X e σ H fun _ H2 => D.nx σ H2) (hs : swapsWith e none pos.line X.env = pure false := by rfl) : wS X (.Expr e pos) D σ H := ⟨_, ps_expr wE.pe hs, h⟩
/-- o[ix] = e -/
theorem cs_sub {p : Pos} (h : wE X e σ H fun v H1 => wE X o σ H1 fun x H2 => wE X ix σ H2 fun y H3 => rSetL x y v H3 fun H4 => D.nx σ H4)
    (ha : ∀ v, assign (.Subscript o ix p) X.env v = (do
      let ov ← holding [v] (eval o X.env)
      let iv ← holding [v, ov] (eval ix X.env)
      standAt p
      holding [v, ov, iv] (setItem ov iv v)
      release [v, ov, iv] []) := by intro _; rfl)
    (hs : swapsWithSole [.Subscript o ix p] e pos.line X.env = pure false := by rfl) (hw : swappedStores [.Subscript o ix p] e X.env = pure none := by rfl)
    (h1 : (assignEach [.Subscript o ix p] X.env).map (·.2) = [assign (.Subscript o ix p) X.env] := by rfl) : wS X (.Assign [.Subscript o ix p] e pos) D σ H :=
  ⟨_, ps_asg wE.pe (pg_sub wE.pe wE.pe set_list ha) hs hw h1, h⟩
end
end GV

namespace GV
open PySem PySem.Spec PyProof.Rows L2
/-! ### own errors -/
/-- what the __init__ of an error keeps: its arguments, by these names -/
def spInit (C : Addr) (fl : List Str) : Sp := fun vs H Q _ => ∃ (a : Addr) (xs : List V), vs = .ref a :: xs ∧ xs.length = fl.length ∧ H a = some (exo a C none) ∧
  ∀ H' d, (∀ b o, H b = some o → b ≠ a → H' b = some o) → H d = none → d ≠ a → H' a = some (exo a C (some d)) → H' d = some (exd d (fl.zip xs).reverse) → Q .non H'
structure ErrC (P : Program) (w : World) (K : PySem.W.Frag) (mg : Str → Option Value) (base : Heap) (x : Str) (C : Addr) (fl : List Str) : Prop where
  gC : mg x = some (.ref C)
  oex : OexC K C
  xf : XfC K C
  no : ∀ f ∈ fl, PySem.W.findIn K (.ref C) f = some none
  init : ∃ (fI : Addr) (fd : FuncData) (ps : List Str), PySem.W.findIn K (.ref C) "__init__" = some (some (.ref fI)) ∧ PySem.W.typeIn K (.ref fI) = some (.type "function") ∧ FnOk P w K mg base CX0 1 fI fd ps (spInit C fl) ∧ Binds K fd ps []
/-- what a raised one leaves: a new dict that holds the arguments -/
def Raised (C : Addr) (fs : List (Str × V)) (H : Hp) (E : XK) : Prop := ∀ d H', H d = none → Evl.Ex H H' → H' d = some (.xd fs) → E (.ref C) (some d) H'
section
variable {X : Cx} {σ : St} {H : Hp} {D : Ends} {e : Expr} {es : List Expr}
theorem s_raise {W : WX} {x : Str} {C : Addr} {fl : List Str} {p pos pos2 : Pos} (hc : X.calm = true) (er : ErrC X.prog X.w X.K X.mg X.base x C fl) (hr : Room 2 X.A) (tk : Takes X W) (hg : Gl X x)
    (h : wA X (e :: es) σ H fun vs H1 => vs.length = fl.length ∧ vs.length ≤ 1000 ∧ Raised C (fl.zip vs).reverse H1 fun cls d H' => W cls d σ H')
    (hdb : (x == ("__debug__" : Str)) = false := by decide) (he : starEach (e :: es) X.env = (false, eval e X.env) :: starEach es X.env := by rfl) (hpl : (backTo pos (starEach es X.env)).any (·.1) = false := by rfl) :
    wS X (.Raise (some (.Call (.Name x p) (e :: es) [] pos)) none pos2) D σ H := by
  obtain ⟨fI, fd, ps, iC, tI, F1, hb⟩ := er.init
  obtain ⟨t, pa, q⟩ := h
  -- the arguments' own reading, with what is wanted behind it
  refine ⟨_, ps_raise hc tk (pmk_oex (k := 1) (dvs := []) (ds := []) er.oex iC tI F1 hr hb .nil pass0 hg er.gC (ta := fun σ H Q => ∃ Q0, t σ H Q0 ∧ ∀ vs H1, Q0 vs H1 → Q vs H1) ⟨fun pos pins s σ H Q I ⟨Q0, h0, imp⟩ => wpAny_mono (pa.run pos pins s σ H Q0 I h0) (fun us s1 ⟨vs, H1, I1, r1, q1⟩ => ⟨vs, H1, I1, r1, imp vs H1 q1⟩) fun _ _ z => z⟩ hdb he hpl), _, q, fun vs H1 ⟨hl, h1000, hR⟩ => ?_⟩
  refine ⟨h1000, fun a na => ⟨a, vs, by rw [List.append_nil], hl, upd_same, fun H' d k nd da ea ed => ⟨rfl, d, _, ea, ed, ?_, ?_⟩⟩⟩
  · rwa [upd_ne da] at nd
  · rw [upd_ne da] at nd
    refine hR d _ nd (fun b o hb' => ?_) upd_same
    rw [upd_ne (ne_of_none hb' nd), del_ne (ne_of_none hb' na)]
    exact k b o (by rw [upd_ne (ne_of_none hb' na)]; exact hb') (ne_of_none hb' na)
end
end GV

namespace GV
open PySem PySem.Spec PyProof.Rows L2
/-! ### try with clauses that may keep the exception by a name -/
abbrev HdT := Addr → Value → Option Addr → TS
/-- where a clause with a name goes on: the name is gone -/
def Ends.less (D : Ends) (i : Nat) : Ends := { nx := fun σ' H' => D.nx (σ'.set i none) H', rt := D.rt, bk := fun σ' H' => D.bk (σ'.set i none) H', ct := fun σ' H' => D.ct (σ'.set i none) H' }
/-- which clause takes an exception, and what it must do then -/
def wHs (K : PySem.W.Frag) (Wout : WX) (D : Ends) : List (Value × Option Nat × HdT) → WX
  | [] => Wout
  | (c, o, ts) :: r => fun cls d σ H => ∃ b, PySem.W.exmOne K cls c = some b ∧
      (b = true → ∀ a, H a = none → match o with
        | none => ts a cls d D σ H
        | some i => i < σ.length → ts a cls d (Ends.less D i) (σ.set i (some (.ref a))) H) ∧
      (b = false → wHs K Wout D r cls d σ H)
inductive Hds (X : Cx) : List ExceptHandler → List (Value × Option Nat × HdT) → Prop
  | nil : Hds X [] []
  | one {x : Str} {c : Value} {ts : HdT} {b₀ : Stmt} {suite : List Stmt} {np p : Pos} {hs l} : Names X x c →
      (∀ a oe cls d pn, Zc cls d oe → (∃ vs, oe.data = .fields vs) → PSs (X.suite a ((a, oe) :: pn)) (b₀ :: suite) (ts a cls d)) → Hds X hs l →
      Hds X (.ExceptHandler (some (.Name x np)) none (b₀ :: suite) p :: hs) ((c, none, ts) :: l)
  | as_ {x n : Str} {i : Nat} {c : Value} {ts : HdT} {b₀ : Stmt} {suite : List Stmt} {np p : Pos} {hs l} : Names X x c → X.N[i]? = some n → X.env.kindOf n = some .local →
      (∀ a oe cls d pn, Zc cls d oe → (∃ vs, oe.data = .fields vs) → PSs (X.suite a ((a, oe) :: pn)) (b₀ :: suite) (ts a cls d)) → Hds X hs l →
      Hds X (.ExceptHandler (some (.Name x np)) (some n) (b₀ :: suite) p :: hs) ((c, some i, ts) :: l)
theorem ps_tryAs {X : Cx} {body : List Stmt} {h₀ : ExceptHandler} {hds : List ExceptHandler} {l : List (Value × Option Nat × HdT)} {pos : Pos} {tb : WX → TS} {Wout : WX} (hs : X.stack = X.env :: X.outer) (hf : X.env.frame = some X.env.locals) (hN : X.N.Nodup) (tk : Takes X Wout)
    (hb : ∀ (W : WX) (pn : List (Addr × Obj)) (xe : Value → Shared → Prop), Takes (X.tr pn xe) W → PassesOwn (model X.prog X.w) X.A X.env xe → PSs (X.tr pn xe) body (tb W)) (hh : Hds X (h₀ :: hds) l) :
    PS X (.Try body (h₀ :: hds) [] [] pos) fun D σ H => tb (wHs X.K Wout D l) D σ H := by
  constructor
  intro pins s σ H D I h
  have ok := I.ok
  have hfr : X.A.frames = some (X.env :: X.outer) := by
    rw [ok.frames, hs]
  refine wpAny_Try_except (wpAny_mono ((hb (wHs X.K Wout D l) (X.pn ++ pins) _ ?_ PassesOwn.looking).run [] s σ H D (I.toTry _) h) ?_ fun e s1 he => he)
  · rintro u s' ⟨a, B, sI, pins', σ', H', cls, d, rfl, J', nb, up, sky, na, os, ag, w⟩
    have J := J'.ofTry ok
    have sky' : Sky B (X.env :: X.outer) a (Zc cls d) X.env.locals s'.heap := by
      rw [← hs]
      exact sky
    refine Sky.land Zc.steady hfr hf sky' fun h3 fl3 up3 => ?_
    have J3 := J.landed (s' := { heap := h3, gens := s'.gens, drawn := s'.drawn, toks := s'.toks, os := s'.os }) nb fl3.1 (up.trans up3) os ag
    obtain ⟨oe3, vs3, he3, hz3, hd3⟩ := fl3.there
    have nfr : ¬ a ∈ List.filterMap (fun x => x.frame) (X.env :: X.outer) := fun hm => by
      obtain ⟨_, o', e', hnf⟩ := fl3.2.2.1.mem hm
      have e2 : some oe3 = some o' := he3.symm.trans e'
      cases e2
      exact hnf _ hd3
    have nL : a ≠ X.env.locals := fun z => nfr (List.mem_filterMap.mpr ⟨X.env, List.mem_cons_self, by rw [hf, z]⟩)
    have nF : ¬ a ∈ X.fs := fun hm => by
      obtain ⟨e, he, q⟩ := List.mem_filterMap.mp hm
      exact nfr (List.mem_filterMap.mpr ⟨e, List.mem_cons_of_mem _ he, q⟩)
    have S3 := J3.suite he3 hd3 na nL nF
    have go : ∀ {hs' l'}, Hds X hs' l' → wHs X.K Wout D l' cls d σ' H' → wpAny (model X.prog X.w) X.A (handleBy (.ref a) X.env hs') (SP X pins D) X.xe { heap := h3, gens := s'.gens, drawn := s'.drawn, toks := s'.toks, os := s'.os } := by
      intro hs' l' hk
      have LT : ∀ (c : Value) (b : Bool), PySem.W.exmOne X.K cls c = some b → PySem.W.Looks (model X.prog X.w) h3 (excMatches (.ref a) c) b := fun c b hb1 => PySem.W.exm_one J3.kIn (fun A Q E s k q => wpAny_typeOf_ref (k a oe3 he3) (by rw [hz3.1]; exact q)) hb1
      have test : ∀ {x : Str} {c : Value} {np : Pos} {Q : Value → Shared → Prop} {E : Value → Shared → Prop}, Names X x c → Q c { heap := h3, gens := s'.gens, drawn := s'.drawn, toks := s'.toks, os := s'.os } → wpAny (model X.prog X.w) (X.A.mark (some (.ref a))) (eval (.Name x np) X.env) Q E { heap := h3, gens := s'.gens, drawn := s'.drawn, toks := s'.toks, os := s'.os } := by
        intro x c np Q E hc q
        obtain ⟨hg, hdbg, hm | ⟨hm, hv, hnn⟩⟩ := hc
        · exact ld_glob S3 hg hm q hdbg
        · exact ld_blt S3 hg hm hv q hnn hdbg
      induction hk with
      | nil =>
        intro w
        refine wpAny_handleBy_nil ?_
        obtain ⟨k1, k2, k3, oe, vs, T, oT, ts', he, hz, hd, h1, hr⟩ := id fl3
        refine wpAny_bind (wpAny_field he hd h1 ?_)
        rw [if_neg (by simp)]
        refine wpAny_bind ?_
        rw [hf]
        exact HandSPX.setFlight_upZ fl3 fun h4 hh4 up4 => wpAny_throw (tk (.ref a) _ ⟨a, B, sI, pins, σ', H', cls, d, rfl, J, nb, (up.trans up3).trans up4, .inr (.inr (by rw [hs]; exact hh4)), na, os, ag, w⟩)
      | one hc hsu r ih =>
        rintro ⟨b, hb1, hyes, hno⟩
        refine wpAny_handleBy_cons (codeAny_handlers_test (test hc (PySem.W.Looks.here (LT _ _ hb1) ?_))) (fun q => by cases q)
        cases b with
        | false => exact ih (hno rfl)
        | true =>
          refine codeAny_handlers_suite (HandSPX.lands_againZ fl3 fun h4 fl4 up4 => ?_)
          have J4 := J.landed (s' := { heap := h4, gens := s'.gens, drawn := s'.drawn, toks := s'.toks, os := s'.os }) nb fl4.1 ((up.trans up3).trans up4) os ag
          obtain ⟨oe4, vs4, he4, hz4, hd4⟩ := fl4.there
          have S4 := J4.suite he4 hd4 na nL nF
          refine wpAny_mono ((hsu a oe4 cls d (X.pn ++ pins) hz4 ⟨vs4, hd4⟩).run [] _ σ' H' D S4 (hyes rfl a na)) (fun f s6 hsp => ?_) fun _ _ z => z.elim
          show SP X pins D f s6
          cases f with
          | ret u =>
            obtain ⟨v6, σ6, H6, S6, r6, q6⟩ := hsp
            exact ⟨v6, σ6, H6, S6.unsuite ok, r6, q6⟩
          | _ =>
            obtain ⟨σ6, H6, S6, q6⟩ := hsp
            exact ⟨σ6, H6, S6.unsuite ok, q6⟩
      | as_ hc hi hln hsu r ih =>
        rintro ⟨b, hb1, hyes, hno⟩
        refine wpAny_handleBy_cons (codeAny_handlers_test (test hc (PySem.W.Looks.here (LT _ _ hb1) ?_))) (fun q => by cases q)
        cases b with
        | false => exact ih (hno rfl)
        | true =>
          refine codeAny_handlers_suite_as (HandSPX.lands_againZ fl3 fun h4 fl4 up4 => ?_)
          have J4 := J.landed (s' := { heap := h4, gens := s'.gens, drawn := s'.drawn, toks := s'.toks, os := s'.os }) nb fl4.1 ((up.trans up3).trans up4) os ag
          obtain ⟨oe4, vs4, he4, hz4, hd4⟩ := fl4.there
          have S4 := J4.suite he4 hd4 na nL nF
          refine store_ok (X := X.suite a ((a, oe4) :: (X.pn ++ pins))) (v := .ref a) S4 hN hi (.inl hln) rfl (fun s5 S5 => ?_) (.inr hln)
          refine wpAny_mono ((hsu a oe4 cls d (X.pn ++ pins) hz4 ⟨vs4, hd4⟩).run [] s5 _ H' _ S5 (hyes rfl a na (by rw [J.len]; exact (List.getElem?_eq_some_iff.mp hi).1))) (fun f s6 hsp => ?_) fun _ _ z => z.elim
          cases f with
          | ret u =>
            obtain ⟨v6, σ6, H6, S6, r6, q6⟩ := hsp
            exact gone_ok (S6.unsuite ok) hN hi hln fun s7 J7 => ⟨v6, _, H6, J7, r6, q6⟩
          | _ =>
            obtain ⟨σ6, H6, S6, q6⟩ := hsp
            exact gone_ok (S6.unsuite ok) hN hi hln fun s7 J7 => ⟨_, H6, J7, q6⟩
    exact go hh w
  · intro f s1 hsp
    cases f with
    | ret u =>
      obtain ⟨v, σ', H', J', r, q⟩ := hsp
      exact ⟨v, σ', H', J'.ofTry ok, r, q⟩
    | next =>
      obtain ⟨σ', H', J', q⟩ := hsp
      exact wpAny_execs_nil ⟨σ', H', J'.ofTry ok, q⟩
    | _ =>
      obtain ⟨σ', H', J', q⟩ := hsp
      exact ⟨σ', H', J'.ofTry ok, q⟩
end GV

namespace GV
open PySem PySem.Spec PyProof.Rows L2
/-! ### an own error without a word -/
/-- an error class whose objects are made without words -/
structure Err0 (K : PySem.W.Frag) (mg : Str → Option Value) (x : Str) (C : Addr) : Prop where
  gC : mg x = some (.ref C)
  ex : PySem.W.excIn K C [.type "ValueError", .type "Exception", .type "BaseException", .type "object"] "ValueError.__new__" = true
  kC : PySem.W.keepIn K (.ref C) = true
  exC : PySem.W.subIn K (.ref C) (.type "BaseException") = some true
  tyC : PySem.W.typeIn K (.ref C) = some (.type "type")
end GV

namespace GV
open PySem PySem.Spec PyProof.Rows L2
/-! ### objects: fields, methods, properties -/
/-- e names what stands at a -/
def AtN (X : Cx) (σ : St) (e : Expr) (a : Addr) : Prop := ∀ H1 (Q : VK), Q (.ref a) H1 → wE X e σ H1 Q
section
variable {X : Cx} {M : Addr → Prop} {σ : St} {H H' : Hp} {a b c e o : Expr} {da db d : PyData} {pos : Pos} {es : List Expr} {ds : List PyData} {D : Ends}
theorem AtN.name {i : Nat} {x : Str} {p : Addr} (hN : X.N[i]? = some x) (hv : Vis X.env.scope x) (hs : σ[i]? = some (some (.ref p)))
    (hd : (x == ("__debug__" : Str)) = false := by decide) (hcd : (x == ("__classdict__" : Str)) = false := by decide) : AtN X σ (.Name x pos) p := fun H1 Q q => ce_name hN hv hs q hd hcd
theorem pd_fld {f : Str} {p C dx : Addr} {fs : List (Str × V)} {v : V} (hn : AtN X σ e p) (m : ¬ M p) (hp : H p = some (.ins C dx fs)) (c : Cls X.K C) (n : NoAttr X.K C f) (hf : fs.lookup f = some v) (r : Rp X.K M H v d)
    (hb : attributeBase e f X.env (eval e X.env) = eval e X.env := by rfl) : PD X M (.Attribute e f pos) σ H d := .mk fun H1 e1 al Q q =>
  ⟨_, pe_fld wE.pe hb, hn _ _ ⟨p, C, dx, fs, v, rfl, e1 _ _ hp m (fun _ z => by cases z), c, n, hf, q v H1 (Evl.Ex.refl H1) (r.mono (fun _ z => z) e1)⟩⟩
theorem AtN.fld {f : Str} {p s C dx : Addr} {fs : List (Str × V)} (hn : AtN X σ e p) (c : Cls X.K C) (n : NoAttr X.K C f) (hf : fs.lookup f = some (.ref s)) {Q : VK} (hp : H p = some (.ins C dx fs)) (q : Q (.ref s) H)
    (hb : attributeBase e f X.env (eval e X.env) = eval e X.env := by rfl) : wE X (.Attribute e f pos) σ H Q := ⟨_, pe_fld wE.pe hb, hn _ _ ⟨p, C, dx, fs, _, rfl, hp, c, n, hf, q⟩⟩
/-- o.append(e) -/
theorem ce_append {apos cpos : Pos} {Q : VK} (h : wE X o σ H fun x H1 => ∃ l xs, x = .ref l ∧ H1 l = some (.lst xs) ∧ wE X e σ H1 fun y H2 => ∃ ys, H2 l = some (.lst ys) ∧ ys.length < 100000 ∧ Q .non (upd H2 l (.lst (ys ++ [y]))))
    (h1 : attributeBase o ("append" : Str) X.env (eval o X.env) = eval o X.env := by rfl)
    (h2 : ((((backTo cpos (starEach (e :: []) X.env)).all fun x => !x.1) && (backToKw cpos (keywordEach [] X.env)).all fun x => x.1.isSome) && decide (((e :: []).length + ([] : List Keyword).length + if ([] : List Keyword).isEmpty = true then 0 else 1) < 30)) = true := by rfl)
    (h3 : (apos.endLine == cpos.line) = true := by rfl) (h4 : starEach (e :: []) X.env = (false, eval e X.env) :: starEach [] X.env := by rfl) (h5 : (backTo cpos (starEach [] X.env)).any (·.1) = false := by rfl) :
    wE X (.Call (.Attribute o "append" apos) [e] [] cpos) σ H Q := by
  refine ⟨_, pe_bm PySem.F.plainAttrs_list PySem.F.slot_list_append PySem.F.type_list_append mt_append wE.pe wA.pa h1 h2 h3 h4 h5, ?_⟩
  obtain ⟨t, p, q⟩ := h
  refine ⟨fun σ H Q => ∃ Q0, t σ H Q0 ∧ ∀ x H1, Q0 x H1 → Q x H1, ⟨fun pins s σ H Q I ⟨Q0, h0, imp⟩ => wpAny_mono (p.run pins s σ H Q0 I h0) (fun us s1 ⟨v, H1, I1, r1, q1⟩ => ⟨v, H1, I1, r1, imp v H1 q1⟩) fun _ _ z => z⟩, _, q, ?_⟩
  rintro x H1 ⟨l, xs, rfl, hl, h2⟩
  refine ⟨.inl ⟨rfl, _, SqL.of hl⟩, ?_⟩
  obtain ⟨t2, p2, q2⟩ := h2
  refine ⟨_, pa_cons (te := fun σ H Q => ∃ Q0, t2 σ H Q0 ∧ ∀ x H1, Q0 x H1 → Q x H1) ⟨fun pins s σ H Q I ⟨Q0, h0, imp⟩ => wpAny_mono (p2.run pins s σ H Q0 I h0) (fun us s1 ⟨v, H1, I1, r1, q1⟩ => ⟨v, H1, I1, r1, imp v H1 q1⟩) fun _ _ z => z⟩ pa_nil h4, _, q2, ?_⟩
  rintro y H2 ⟨ys, hy, hlen, hq⟩
  exact ⟨l, ys, y, rfl, rfl, hy, Nat.lt_of_lt_of_le hlen (by rw [sizeLine_eq]; decide), hq⟩
/-- o.pop() -/
theorem ce_pop {apos cpos : Pos} {Q : VK} {l : Addr} {xs : List V} {y : V} (h : wE X o σ H fun x H1 => x = .ref l ∧ H1 l = some (.lst (xs ++ [y])) ∧ Q y (upd H1 l (.lst xs)))
    (h1 : attributeBase o ("pop" : Str) X.env (eval o X.env) = eval o X.env := by rfl) (h3 : (apos.endLine == cpos.line) = true := by rfl) : wE X (.Call (.Attribute o "pop" apos) [] [] cpos) σ H Q := by
  refine ⟨_, pe_bm0 PySem.F.plainAttrs_list PySem.F.slot_list_pop PySem.F.type_list_pop mt_pop wE.pe h1 h3, ?_⟩
  obtain ⟨t, p, q⟩ := h
  refine ⟨fun σ H Q => ∃ Q0, t σ H Q0 ∧ ∀ x H1, Q0 x H1 → Q x H1, ⟨fun pins s σ H Q I ⟨Q0, h0, imp⟩ => wpAny_mono (p.run pins s σ H Q0 I h0) (fun us s1 ⟨v, H1, I1, r1, q1⟩ => ⟨v, H1, I1, r1, imp v H1 q1⟩) fun _ _ z => z⟩, _, q, ?_⟩
  rintro x H1 ⟨rfl, hl, hq⟩
  refine ⟨.inl ⟨rfl, _, SqL.of hl⟩, l, _, y, rfl, rfl, hl, ?_, ?_⟩
  · simp
  · rw [List.dropLast_concat]
    exact hq
/-- o.reverse() -/
theorem ce_reverse {apos cpos : Pos} {Q : VK} {l : Addr} {xs : List V} (h : wE X o σ H fun x H1 => x = .ref l ∧ H1 l = some (.lst xs) ∧ Q .non (upd H1 l (.lst xs.reverse)))
    (h1 : attributeBase o ("reverse" : Str) X.env (eval o X.env) = eval o X.env := by rfl) (h3 : (apos.endLine == cpos.line) = true := by rfl) : wE X (.Call (.Attribute o "reverse" apos) [] [] cpos) σ H Q := by
  refine ⟨_, pe_bm0 PySem.F.plainAttrs_list PySem.F.slot_list_reverse PySem.F.type_list_reverse mt_reverse wE.pe h1 h3, ?_⟩
  obtain ⟨t, p, q⟩ := h
  refine ⟨fun σ H Q => ∃ Q0, t σ H Q0 ∧ ∀ x H1, Q0 x H1 → Q x H1, ⟨fun pins s σ H Q I ⟨Q0, h0, imp⟩ => wpAny_mono (p.run pins s σ H Q0 I h0) (fun us s1 ⟨v, H1, I1, r1, q1⟩ => ⟨v, H1, I1, r1, imp v H1 q1⟩) fun _ _ z => z⟩, _, q, ?_⟩
  rintro x H1 ⟨rfl, hl, hq⟩
  exact ⟨.inl ⟨rfl, _, SqL.of hl⟩, l, _, rfl, rfl, hl, hq⟩
end
/-! ### which data hold no list, so that no change reaches them -/
mutual
def flat : PyData → Bool
  | .list _ => false
  | .dict _ => false
  | .tuple ds => flats ds
  | _ => true
def flats : List PyData → Bool
  | [] => true
  | d :: ds => flat d && flats ds
end
section
variable {K : PySem.W.Frag} {M M' : Addr → Prop} {H H' : Hp}
def Lists (M : Addr → Prop) (H : Hp) : Prop := ∀ a, M a → ∃ xs, H a = some (.lst xs)
mutual
theorem Rp.off {v : V} {d : PyData} : (r : Rp K M' H v d) → flat d = true → Lists M H → Rp K M H v d
  | .non, _, _ => .non
  | .bl b, _, _ => .bl b
  | .int i, _, _ => .int i
  | .str x, _, _ => .str x
  | .lst m h r, hf, hm => absurd hf (by simp [flat])
  | .tup m h r, hf, hm => .tup (fun z => by
      obtain ⟨xs, hx⟩ := hm _ z
      rcases h with h | ⟨o, h⟩ <;> rw [h] at hx <;> cases hx) h (RpAll.off r (by simpa [flat] using hf) hm)
theorem RpAll.off {vs : List V} {ds : List PyData} : (r : RpAll K M' H vs ds) → flats ds = true → Lists M H → RpAll K M H vs ds
  | .nil, _, _ => .nil
  | .cons r rs, hf, hm => .cons (Rp.off r (by simp [flats] at hf; exact hf.1) hm) (RpAll.off rs (by simp [flats] at hf; exact hf.2) hm)
end
/-- .. so what is flat stays whatever becomes of lists -/
def Keep (H H' : Hp) : Prop := ∀ a o, H a = some o → (∀ xs, o ≠ .lst xs) → NT o → H' a = some o
end
end GV

namespace GV
open PySem PySem.Spec PyProof.Rows L2
/-! ### weaker questions -/
theorem PE.weak {X : Cx} {e : Expr} {t : TE} (p : PE X e t) : PE X e fun σ H Q => ∃ Q0 : VK, t σ H Q0 ∧ ∀ v H1, Q0 v H1 → Q v H1 :=
  ⟨fun pins s σ H Q I ⟨Q0, h0, imp⟩ => wpAny_mono (p.run pins s σ H Q0 I h0) (fun us s1 ⟨v, H1, I1, r1, q1⟩ => ⟨v, H1, I1, r1, imp v H1 q1⟩) fun _ _ z => z⟩
theorem wE.weak {X : Cx} {e : Expr} {σ : St} {H : Hp} {Q0 Q : VK} (h : wE X e σ H Q0) (imp : ∀ v H1, Q0 v H1 → Q v H1) : wE X e σ H Q := let ⟨t, p, q⟩ := h; ⟨_, PE.weak p, Q0, q, imp⟩
/-! ### what changes only at S -/
def ExS (S : Addr → Prop) (H H' : Hp) : Prop := ∀ a o, ¬ S a → H a = some o → H' a = some o
theorem ExS.of {S : Addr → Prop} {H H' : Hp} (e : Evl.Ex H H') : ExS S H H' := fun a o _ h => e a o h
theorem ExS.trans {S : Addr → Prop} {H H1 H2 : Hp} (e : ExS S H H1) (f : ExS S H1 H2) : ExS S H H2 := fun a o n h => f a o n (e a o n h)
theorem ExS.upd {S : Addr → Prop} {H : Hp} {b : Addr} {o : HO} (s : S b) : ExS S H (upd H b o) := fun a u n h => by
  rw [upd_ne fun e => n (by rw [e]; exact s)]
  exact h
theorem ExS.mono {S S' : Addr → Prop} {H H' : Hp} (e : ExS S H H') (h : ∀ a, S a → S' a) : ExS S' H H' := fun a o n k => e a o (fun z => n (h a z)) k
theorem ExS.exM {S : Addr → Prop} {H H' : Hp} (e : ExS S H H') : ExM S H H' := fun a o h n _ => e a o n h
theorem ExM.mono {S S' : Addr → Prop} {H H' : Hp} (e : ExM S H H') (h : ∀ a, S a → S' a) : ExM S' H H' := fun a o k n t => e a o k (fun z => n (h a z)) t
theorem ExM.lst {S : Addr → Prop} {H H' : Hp} {a : Addr} {xs : List V} (e : ExM S H H') (n : ¬ S a) (h : H a = some (.lst xs)) : H' a = some (.lst xs) := e a _ h n fun _ z => by cases z
section
variable {X : Cx} {M : Addr → Prop} {σ : St} {H H' : Hp} {a b c e o : Expr} {da db d : PyData} {pos : Pos} {es : List Expr} {ds : List PyData} {D : Ends}
theorem ce_str {x : Str} {j} {Q : VK} (q : Q (.str x) H) : wE X (.Constant (.str x) j pos) σ H Q := ⟨_, pe_str, q⟩
theorem ce_tup {x1} {Q : VK} (h : wA X es σ H fun vs H1 => vs.length ≤ 1000 ∧ ∀ p, H1 p = none → Q (.ref p) (upd H1 p (.tup vs))) : wE X (.Tuple es x1 pos) σ H Q := by
  obtain ⟨t, p, q⟩ := h
  refine ⟨_, pe_tup (t := fun σ H Q => ∃ Q0, t σ H Q0 ∧ ∀ vs H1, Q0 vs H1 → Q vs H1) ⟨fun pos pins s σ H Q I ⟨Q0, h0, imp⟩ => wpAny_mono (p.run pos pins s σ H Q0 I h0) (fun us s1 ⟨vs, H1, I1, r1, q1⟩ => ⟨vs, H1, I1, r1, imp vs H1 q1⟩) fun _ _ z => z⟩, _, q, ?_⟩
  rintro vs H1 ⟨hl, hq⟩
  exact ⟨Evl.sz_of (by omega), hq⟩
/-- a method's call -/
theorem ce_meth {CX : CXT} {E : XK} {C f p dx : Addr} {fd : FuncData} {ps : List Str} {sp : Sp} {m : Str} {apos : Pos} {pl : Sem Bool} {j k : Nat} {fs : List (Str × V)} {Q : VK} (hn : AtN X σ o p) (c : Cls X.K C) (hm : Meth X.K C m f) (F : FnOk X.prog X.w X.K X.mg X.base CX k f fd ps sp) (hr : Room j X.A) (hkj : k ≤ j) (hb : Binds X.K fd ps []) (hx : Passes CX X E)
    (hp : H p = some (.ins C dx fs)) (hf : fs.lookup m = none) (h : wA X (e :: es) σ H fun vs H2 => sp (.ref p :: vs) H2 Q E)
    (he : starEach (e :: es) X.env = (false, eval e X.env) :: starEach es X.env := by rfl) (hpl : (backTo pos (starEach es X.env)).any (·.1) = false := by rfl)
    (hev : eval (.Call (.Attribute o m apos) (e :: es) [] pos) X.env = (do
      let ov ← eval o X.env
      standAt apos.atName
      let (f, first) ← holding [ov] (getMethod ov m pl)
      callWith pos f first (backTo pos (starEach (e :: es) X.env)) (backToKw pos (keywordEach [] X.env))) := by rfl) : wE X (.Call (.Attribute o m apos) (e :: es) [] pos) σ H Q := by
  refine ⟨_, pe_meth wE.pe c hm F (hr.mono hkj) hb .nil hx wA.pa he hpl hev, hn _ _ ⟨p, dx, fs, rfl, hp, hf, ?_⟩⟩
  obtain ⟨t, h1, h2⟩ := h
  refine ⟨t, h1, ?_⟩
  have e1 : (fun vs H2 => sp (V.ref p :: (vs ++ [])) H2 Q E) = fun vs H2 => sp (V.ref p :: vs) H2 Q E := by
    funext vs H1
    rw [List.append_nil]
  rw [e1]
  exact h2
/-! ### try -/
abbrev tsW (X : Cx) (suite : List Stmt) : HdT := fun a cls d D σ H => ∀ oe pn, Zc cls d oe → (∃ vs, oe.data = .fields vs) → wB (X.suite a ((a, oe) :: pn)) suite D σ H
theorem psW {X : Cx} {suite : List Stmt} {a : Addr} {oe : Obj} {cls : Value} {d : Option Addr} {pn : List (Addr × Obj)} (hz : Zc cls d oe) (hd : ∃ vs, oe.data = .fields vs) : PSs (X.suite a ((a, oe) :: pn)) suite (tsW X suite a cls d) := ⟨fun pins s σ H D I h => wB.ps.run pins s σ H D I (h oe pn hz hd)⟩
theorem s_try {body : List Stmt} {h₀ : ExceptHandler} {hds : List ExceptHandler} {l : List (Value × Option Nat × HdT)} {Wout : WX} (hs : X.stack = X.env :: X.outer) (hf : X.env.frame = some X.env.locals) (hN : X.N.Nodup) (tk : Takes X Wout) (hh : Hds X (h₀ :: hds) l)
    (h : ∀ pn xe, Takes (X.tr pn xe) (wHs X.K Wout D l) → wB (X.tr pn xe) body D σ H) : wS X (.Try body (h₀ :: hds) [] [] pos) D σ H :=
  ⟨_, ps_tryAs (tb := fun W D σ H => ∀ pn xe, Takes (X.tr pn xe) W → wB (X.tr pn xe) body D σ H) hs hf hN tk (fun W pn xe tkW _ => ⟨fun pins s σ H D I h => wB.ps.run pins s σ H D I (h pn xe tkW)⟩) hh, h⟩
/-- e.f, e the exception that the clause holds -/
theorem ce_xf {X : Cx} {a C : Addr} {oe : Obj} {cls : Value} {d : Option Addr} {pn : List (Addr × Obj)} {f : Str} {Q : VK} (xf : XfC X.K C) (n : PySem.W.findIn X.K (.ref C) f = some none) (hz : Zc cls d oe) (hd : ∃ vs, oe.data = .fields vs)
    (h : wE (X.suite a ((a, oe) :: pn)) e σ H fun x H1 => x = .ref a ∧ cls = .ref C ∧ ∃ dd fs v, d = some dd ∧ H1 dd = some (.xd fs) ∧ fs.lookup f = some v ∧ Q v H1)
    (hab : attributeBase e f X.env (eval e X.env) = eval e X.env := by rfl) : wE (X.suite a ((a, oe) :: pn)) (.Attribute e f pos) σ H Q := ⟨_, pe_xf xf n hz hd wE.pe hab, h⟩
end
end GV

namespace GV
open PySem PySem.Spec PyProof.Rows L2
/-! ### the script: a list of whole numbers that nothing changes, wherever it stands -/
def ScAt (K : PySem.W.Frag) (M : Addr → Prop) (H : Hp) (a : Addr) (ns : List Int) : Prop := (¬ M a ∧ Rd H a (.lst (ns.map V.int))) ∨ ∀ H', SqL K H' a (ns.map V.int)
section
variable {K : PySem.W.Frag} {M M' : Addr → Prop} {H H' : Hp} {a : Addr} {ns : List Int}
theorem ScAt.of (h : SqL K H a (ns.map V.int)) (n : ¬ M a) : ScAt K M H a ns := h.elim (fun h => .inl ⟨n, h⟩) fun h => .inr fun _ => .inr h
theorem ScAt.sq (h : ScAt K M H a ns) : SqL K H a (ns.map V.int) := h.elim (fun h => .inl h.2) fun h => h H
theorem ScAt.mono (h : ScAt K M H a ns) (hm : ∀ a, M' a → M a) (e : ExM M H H') : ScAt K M' H' a ns := h.elim (fun ⟨n, h⟩ => .inl ⟨fun z => n (hm _ z), Rd.exM h n e⟩) .inr
end
section
variable {X : Cx} {M : Addr → Prop} {σ : St} {H : Hp} {a : Addr} {e b : Expr} {ns : List Int} {pos : Pos}
theorem pd_scIx {i : Nat} {j : Nat} {x : Str} {p : Pos} {z : Int} (h : ScAt X.K M H a ns) (hb : PD X M b σ H (.int (i : Nat))) (hz : ns[i]? = some z) (hN : X.N[j]? = some x := by rfl) (hv : Vis X.env.scope x := by first | exact .inl rfl | exact .inr (.inl rfl)) (hs : σ[j]? = some (some (.ref a)) := by rfl)
    (hd : (x == ("__debug__" : Str)) = false := by decide) (hcd : (x == ("__classdict__" : Str)) = false := by decide) (hpl : PlainIx b := by exact fun _ _ => rfl) : PD X M (.Subscript (.Name x p) b pos) σ H (.int z) := .mk fun H1 e1 al Q q =>
  ⟨_, pe_ix ix_seq wE.pe wE.pe hpl, ce_name hN hv hs (hb.run H1 e1 al _ fun y H2 x2 ry => by
    cases ry
    have hq := ((h.mono (fun _ z => z) e1).mono (fun _ z => z) (.of x2)).sq
    exact .inl ⟨_, _, (i : Nat), .int z, rfl, rfl, hq, atI_nat (by rw [List.getElem?_map, hz]; rfl), q _ H2 x2 (.int z)⟩) hd hcd⟩
theorem pd_scLen {j : Nat} {x : Str} {p p2 : Pos} (h : ScAt X.K M H a ns) (hg : Gl X "len") (hm : X.mg "len" = none) (hN : X.N[j]? = some x := by rfl) (hv : Vis X.env.scope x := by first | exact .inl rfl | exact .inr (.inl rfl)) (hs : σ[j]? = some (some (.ref a)) := by rfl)
    (hd : (x == ("__debug__" : Str)) = false := by decide) (hcd : (x == ("__classdict__" : Str)) = false := by decide) (hst : starEach (.Name x p :: []) X.env = (false, eval (.Name x p) X.env) :: starEach [] X.env := by rfl) (hpl : (backTo pos (starEach [] X.env)).any (·.1) = false := by rfl) :
    PD X M (.Call (.Name "len" p2) [.Name x p] [] pos) σ H (.int ns.length) := .mk fun H1 e1 al Q q =>
  ⟨_, pe_callB call_len_seq hg hm PySem.boot_len wA.pa (by decide) (by decide) hst hpl, ca_cons (ce_name hN hv hs (ca_nil ⟨a, ns.map V.int, rfl, .inl ((h.mono (fun _ z => z) e1).sq), by
    rw [List.length_map]
    exact q _ H1 (Evl.Ex.refl H1) (.int _)⟩) hd hcd) hst⟩
theorem fd_scSlice {lo hi : Option Expr} {l u : Option Int} {j : Nat} {x : Str} {p p2 : Pos} (h : ScAt X.K M H a ns) (hl : OD X M lo σ H l) (hu : OD X M hi σ H u) (hN : X.N[j]? = some x := by rfl) (hv : Vis X.env.scope x := by first | exact .inl rfl | exact .inr (.inl rfl)) (hs : σ[j]? = some (some (.ref a)) := by rfl)
    (hd : (x == ("__debug__" : Str)) = false := by decide) (hcd : (x == ("__classdict__" : Str)) = false := by decide) : FD X M (.Subscript (.Name x p) (.Slice lo hi none p2) pos) σ H (cutD (ns.map PyData.int) l u) := by
  obtain ⟨tl, pl, rl⟩ := hl.ex
  obtain ⟨tu, pu, ru⟩ := hu.ex
  refine .mk fun H1 e1 al Q q => ⟨_, pe_slice sl_list wE.pe pl pu, ce_name hN hv hs ?_ hd hcd⟩
  refine rl H1 e1 al _ fun H3 x3 => ru H3 (e1.trans (.of x3)) (al.mono x3) _ fun H4 x4 => ?_
  have hq := ((h.mono (fun _ z => z) e1).mono (fun _ z => z) (.of (x3.trans x4))).sq
  exact ⟨_, _, rfl, hq, fun p hp => q p _ _ (Evl.fresh_back (x3.trans x4) hp) ((x3.trans x4).trans (Evl.Ex.new hp)) upd_same (((RpAll.ints ns).cut l u))⟩
end
end GV

-- out of B3
namespace GV
open PySem PySem.Spec PyProof.Rows L2
theorem cutD_take (xs : List PyData) (i : Nat) : cutD xs none (some (i : Int)) = xs.take i := by
  unfold cutD
  rw [HT.sIx_none, HT.sIx_nat, List.drop_zero, Nat.sub_zero]
  by_cases h : i ≤ xs.length
  · rw [Nat.min_eq_left h]
  · rw [Nat.min_eq_right (by omega), List.take_of_length_le (Nat.le_refl _), List.take_of_length_le (by omega)]
theorem cutD_drop (xs : List PyData) (i : Nat) : cutD xs (some (i : Int)) none = xs.drop i := by
  unfold cutD
  rw [HT.sIx_none, HT.sIx_nat]
  by_cases h : i ≤ xs.length
  · rw [Nat.min_eq_left h, List.take_of_length_le]
    rw [List.length_drop]
    exact Nat.le_refl _
  · rw [Nat.min_eq_right (by omega), Nat.sub_self, List.take_zero, List.drop_of_length_le (by omega)]
end GV
-- out of B4
namespace GV
open PySem PySem.Spec PyProof.Rows L2
theorem ixD_list {ds : List PyData} {i : Nat} {d : PyData} (h : ds[i]? = some d) : ixD (.list ds) (.int (i : Nat)) = some d := atI_nat h
theorem ixD_ints {ns : List Int} {i : Nat} {z : Int} (h : ns[i]? = some z) : ixD (.list (ns.map PyData.int)) (.int (i : Nat)) = some (.int z) := ixD_list (by rw [List.getElem?_map, h]; rfl)
section
variable {X : Cx} {M : Addr → Prop} {σ : St} {H H' : Hp} {a e : Expr} {d : PyData} {pos : Pos}
/-- int(e), e an int -/
theorem pd_intI {p : Pos} {i : Int} (nb : NoB X.mg) (hg : Gl X "int") (h : PD X M e σ H (.int i)) (hs : starEach (e :: []) X.env = (false, eval e X.env) :: starEach [] X.env := by rfl) (hpl : (backTo pos (starEach [] X.env)).any (·.1) = false := by rfl) :
    PD X M (.Call (.Name "int" p) [e] [] pos) σ H (.int i) := pd_callTy call_int1 hg nb.int PyProof.Rows.boot_int (ad_cons h ad_nil hs) rn_int (by decide) (by decide) hs hpl
theorem pd_len {p : Pos} {n : Nat} (nb : NoB X.mg) (hg : Gl X "len") (h : PD X M e σ H d) (hn : lenD d = some n) (hs : starEach (e :: []) X.env = (false, eval e X.env) :: starEach [] X.env := by rfl) (hpl : (backTo pos (starEach [] X.env)).any (·.1) = false := by rfl) :
    PD X M (.Call (.Name "len" p) [e] [] pos) σ H (.int n) := pd_callB call_len hg nb.len PySem.boot_len (ad_cons h ad_nil hs) (rn_len hn) (by decide) (by decide) hs hpl
theorem pd_sum {p : Pos} {ns : List Int} (hc : X.calm = true) (nb : NoB X.mg) (hg : Gl X "sum") (h : PD X M e σ H (.list (ns.map PyData.int))) (hs : starEach (e :: []) X.env = (false, eval e X.env) :: starEach [] X.env := by rfl) (hpl : (backTo pos (starEach [] X.env)).any (·.1) = false := by rfl) :
    PD X M (.Call (.Name "sum" p) [e] [] pos) σ H (.int ns.sum) := pd_callB (cr_sum hc) hg nb.sum PyProof.Rows.boot_sum (ad_cons h ad_nil hs) rn_sum (by decide) (by decide) hs hpl
end
end GV
-- out of B5
namespace GV
open PySem PySem.Spec PyProof.Rows L2
section
variable {X : Cx} {M : Addr → Prop} {σ : St} {H H' : Hp} {a b c e o : Expr} {da db d : PyData} {pos : Pos} {es : List Expr} {ds : List PyData} {D : Ends}
/-- o.f = e, o an exception being made -/
theorem cs_ost {f : Str} {p' : Pos} (h : wE X e σ H fun y H1 => wE X o σ H1 fun x H2 => ∃ a C, x = .ref a ∧ OexC X.K C ∧ PySem.W.findIn X.K (.ref C) f = some none ∧
      ((H2 a = some (exo a C none) ∧ ∀ dx, H2 dx = none → dx ≠ a → D.nx σ (upd (upd H2 dx (exd dx [(f, y)])) a (exo a C (some dx)))) ∨
        ∃ dx fs, H2 a = some (exo a C (some dx)) ∧ H2 dx = some (exd dx fs) ∧ fs.length ≤ 900 ∧ D.nx σ (upd H2 dx (exd dx ((f, y) :: fs)))))
    (hs : swapsWith e (some (.Attribute o f p')) pos.line X.env = pure false := by rfl) : wS X (.Assign [.Attribute o f p'] e pos) D σ H := ⟨_, ps_ost wE.pe wE.pe hs, h⟩
/-- o.f = e -/
theorem cs_fld {f : Str} {p' : Pos} (h : wE X e σ H fun y H1 => wE X o σ H1 fun x H2 => ∃ a C dx fs, x = .ref a ∧ H2 a = some (.ins C dx fs) ∧ Cls X.K C ∧ NoAttr X.K C f ∧ fs.length < 1000 ∧ D.nx σ (upd H2 a (.ins C dx (putF f y fs))))
    (hs : swapsWith e (some (.Attribute o f p')) pos.line X.env = pure false := by rfl) : wS X (.Assign [.Attribute o f p'] e pos) D σ H := ⟨_, ps_fld wE.pe wE.pe hs, h⟩
theorem cs_if {A B : List Stmt} (h : wT X c σ H fun k H2 => if k = true then wB X A D σ H2 else wB X B D σ H2) : wS X (.If c A B pos) D σ H := ⟨_, ps_if wT.pt wB.ps wB.ps, h⟩
end
end GV
-- out of B7
namespace GV
open PySem PySem.Spec PyProof.Rows L2
section
variable {X : Cx} {M : Addr → Prop} {σ : St} {H : Hp} {e : Expr} {pos : Pos}
/-- for x in range(n) -/
theorem s_forR {n slot : Nat} {x : Str} {p p1 p2 : Pos} {body : List Stmt} {D : Ends} (hp : PassesOwn (model X.prog X.w) X.A X.env X.xe) (hc : X.calm = true) (hN : X.N.Nodup) (hx : X.N[slot]? = some x) (hl : Loc X.env.scope x) (hg : Gl X "range") (hm : X.mg "range" = none) (h : PD X M e σ H (.int (n : Nat))) (hn : n ≤ 1000000) (al : Alive M H) (J : Hp → Nat → St → Hp → Prop)
    (h0 : ∀ H1, Evl.Ex H H1 → J H1 0 σ H1) (hk : ∀ H1 i σ' H', Evl.Ex H H1 → J H1 i σ' H' → ExM M H1 H' ∧ Alive M H')
    (ht : ∀ H1 i σ' H' H2, Evl.Ex H H1 → i < n → J H1 i σ' H' → Evl.Ex H' H2 → wB X body { D with nx := J H1 (i + 1), ct := J H1 (i + 1), bk := D.nx } (σ'.set slot (some (.int (i : Nat)))) H2)
    (hd : ∀ H1 σ' H', Evl.Ex H H1 → J H1 n σ' H' → D.nx σ' H') (hs : starEach [e] X.env = [(false, eval e X.env)] := by rfl) (hs' : starEach (e :: []) X.env = (false, eval e X.env) :: starEach [] X.env := by rfl)
    (hf : ∀ x, foldedSetIterable (.Call (.Name "range" p) [e] [] p1) X.env x = pure x := by intro _; rfl) (hfn : X.fn x = true ∨ X.env.scope.names.lookup x = some .local := by first | exact .inl rfl | exact .inr rfl | assumption) : wS X (.For (.Name x p2) (.Call (.Name "range" p) [e] [] p1) body [] pos) D σ H := by
  refine s_for (t := .one slot) hp hc (src_range1 hg hm h (by omega) (by omega) hs hs') (pg_name hN hx hl hfn) al J h0 hk (fun _ _ => trivial) ?_ ?_ hf
  · rintro H1 i d σ' H' H2 σ2 x1 hd j x2 ⟨v, rv, rfl⟩
    obtain ⟨k, hk', rfl⟩ := List.mem_iff_getElem?.mp (List.mem_of_getElem? hd) |> fun _ => (by
      rw [List.getElem?_map] at hd
      obtain ⟨k, h1, h2⟩ := Option.map_eq_some_iff.mp hd
      exact ⟨k, h1, h2.symm⟩ : ∃ k, (List.range (Int.toNat (n : Nat)))[i]? = some k ∧ d = PyData.int (0 + (k : Nat)))
    rw [List.getElem?_range (by
      have := (List.getElem?_eq_some_iff.mp hk').1
      simpa using this)] at hk'
    have hin : i < n := by
      have := (List.getElem?_eq_some_iff.mp hd).1
      simpa using this
    cases hk'
    cases rv
    rw [Int.zero_add]
    exact ht H1 i σ' H' H2 x1 hin j x2
  · intro H1 σ' H' x1 j
    refine hd H1 σ' H' x1 ?_
    have e1 : ((List.range (Int.toNat (n : Nat))).map fun i => PyData.int (0 + (i : Nat))).length = n := by simp
    rw [← e1]
    exact j
end
end GV
-- out of B8
namespace GV
open PySem PySem.Spec PyProof.Rows L2
/-! ### which data == may look at -/
theorem shaped_of {d : PyData} (h1 : d.canLay0 = true) (h2 : d.depth ≤ 64) : SeqAt.shaped d = true := by
  simp [SeqAt.shaped, h1, h2]
/-- flat parts, at most one deep -/
def one1 : PyData → Prop
  | .int _ => True
  | .tuple [.int _, .int _] => True
  | _ => False
theorem lay1 {d : PyData} (h : one1 d) : d.canLay0 = true ∧ d.depth ≤ 1 := by
  unfold one1 at h
  split at h
  · exact ⟨rfl, by show 0 ≤ 1; omega⟩
  · exact ⟨rfl, Nat.le_refl 1⟩
  · cases h
theorem lays1 {ds : List PyData} (h : ∀ d ∈ ds, one1 d) : (PyData.list ds).canLay0 = true ∧ (PyData.list ds).depth ≤ 2 := by
  have key : ∀ ds : List PyData, (∀ d ∈ ds, one1 d) → PyData.canLayAll0 ds = true ∧ PyData.depthAll ds ≤ 1 := by
    intro ds
    induction ds with
    | nil => exact fun _ => ⟨rfl, Nat.zero_le _⟩
    | cons d r ih =>
      intro h
      obtain ⟨a, b⟩ := lay1 (h d (List.mem_cons_self))
      obtain ⟨a2, b2⟩ := ih fun x hx => h x (List.mem_cons_of_mem _ hx)
      refine ⟨?_, ?_⟩
      · show (d.canLay0 && PyData.canLayAll0 r) = true
        rw [a, a2]
        rfl
      · show max d.depth (PyData.depthAll r) ≤ 1
        omega
  obtain ⟨a, b⟩ := key ds h
  refine ⟨a, ?_⟩
  show PyData.depthAll ds + 1 ≤ 2
  omega
end GV
-- out of B13
namespace GV
open PySem PySem.Spec PyProof.Rows L2
end GV
-- out of B15
namespace GV
open PySem PySem.Spec PyProof.Rows L2
section
variable {X : Cx} {M : Addr → Prop} {σ : St} {H H' : Hp} {a b c e o : Expr} {da db d : PyData} {pos : Pos} {es : List Expr} {ds : List PyData} {D : Ends}
theorem ce_lst {Q : VK} (h : wA X es σ H fun vs H1 => vs.length ≤ 1000 ∧ ∀ p, H1 p = none → Q (.ref p) (upd H1 p (.lst vs))) : wE X (.List es pos) σ H Q := by
  obtain ⟨t, p, q⟩ := h
  refine ⟨_, pe_lst (t := fun σ H Q => ∃ Q0, t σ H Q0 ∧ ∀ vs H1, Q0 vs H1 → Q vs H1) ⟨fun pos pins s σ H Q I ⟨Q0, h0, imp⟩ => wpAny_mono (p.run pos pins s σ H Q0 I h0) (fun us s1 ⟨vs, H1, I1, r1, q1⟩ => ⟨vs, H1, I1, r1, imp vs H1 q1⟩) fun _ _ z => z⟩, _, q, ?_⟩
  rintro vs H1 ⟨hl, hq⟩
  exact ⟨Evl.sz_of (by omega), hq⟩
theorem ct_val {Q : Bool → Hp → Prop} (h : wE X e σ H fun x H2 => ∃ k, x = .bl k ∧ Q k H2) (he : ∀ whole, isTrue e X.env whole = (do let v ← whole; standAt e.pos; holding [v] (truthy v)) := by intro _; rfl) : wT X e σ H Q := ⟨_, pt_val wE.pe he, h⟩
theorem ct_eq {Q : Bool → Hp → Prop} (hu : X.A.units + 64 < cLine) (h : wE X a σ H fun x H2 => wE X b σ H2 fun y H3 => ∃ da db, Dp X.K H3 x da ∧ Dp X.K H3 y db ∧ SeqAt.shaped da = true ∧ SeqAt.shaped db = true ∧ Q (PyData.eqv da db) H3) : wT X (.Compare a [.Eq] [b] pos) σ H Q :=
  ⟨_, pt_cmpR (op_eqD hu) wE.pe wE.pe (nomark _), wE.weak h fun x H2 h2 => wE.weak h2 fun y H3 ⟨da, db, h1, h2, h3, h4, q⟩ => ⟨da, db, h1, h2, h3, h4, _, rfl, q⟩⟩
theorem ct_not {Q : Bool → Hp → Prop} (h : wT X a σ H fun k H2 => Q (!k) H2) : wT X (.UnaryOp .Not a pos) σ H Q := ⟨_, pt_not wT.pt, h⟩
end
end GV
-- out of B18
namespace GV
open PySem PySem.Spec PyProof.Rows L2
end GV
-- out of B19
namespace GV
open PySem PySem.Spec PyProof.Rows L2
section
variable {X : Cx} {σ : St} {H : Hp} {a b e o : Expr} {pos : Pos}
theorem PT.weak {X : Cx} {e : Expr} {t : TT} (p : PT X e t) : PT X e fun σ H Q => ∃ Q0 : Bool → Hp → Prop, t σ H Q0 ∧ ∀ v H1, Q0 v H1 → Q v H1 :=
  ⟨fun pins s σ H Q I ⟨Q0, h0, imp⟩ => wpAny_mono (p.run pins s σ H Q0 I h0) (fun us s1 ⟨H1, I1, q1⟩ => ⟨H1, I1, imp _ H1 q1⟩) fun _ _ z => z⟩
theorem wT.weak {Q0 Q : Bool → Hp → Prop} (h : wT X e σ H Q0) (imp : ∀ v H1, Q0 v H1 → Q v H1) : wT X e σ H Q := let ⟨t, p, q⟩ := h; ⟨_, PT.weak p, Q0, q, imp⟩
theorem ce_propE {CX : CXT} {E : XK} {C p g : Addr} {f : Str} {fd : FuncData} {ps : List Str} {sp : Sp} {j k : Nat} {Q : VK} (c : Cls X.K C) (hp : PropOf X.K C f p g) (F : FnOk X.prog X.w X.K X.mg X.base CX k g fd ps sp) (hr : Room j X.A) (hkj : k + 1 ≤ j) (hb : Binds X.K fd ps []) (hx : Passes CX X.nox E)
    (h : wE X o σ H fun x H1 => ∃ a dx fs, x = .ref a ∧ H1 a = some (.ins C dx fs) ∧ sp [.ref a] H1 Q E) (hab : attributeBase o f X.env (eval o X.env) = eval o X.env := by rfl) : wE X (.Attribute o f pos) σ H Q :=
  ⟨_, pe_prop wE.pe c hp F (hr.mono hkj) hb .nil hx hab, wE.weak h fun x H1 ⟨a, dx, fs, h1, h2, h3⟩ => ⟨a, dx, fs, h1, h2, h3⟩⟩
end
end GV

namespace GV
open PySem PySem.Spec PyProof.Rows L2
section
variable {X : Cx} {σ : St} {H : Hp} {e : Expr} {pos : Pos}
/-- for x in range(n), n a value on the way; nothing need be known of what stays -/
theorem s_forRW {slot : Nat} {x : Str} {p p1 p2 : Pos} {body : List Stmt} {D : Ends} (hp : PassesOwn (model X.prog X.w) X.A X.env X.xe) (hc : X.calm = true) (hN : X.N.Nodup) (hx : X.N[slot]? = some x) (hl : Loc X.env.scope x) (hg : Gl X "range") (hm : X.mg "range" = none)
    (h : wE X e σ H fun v H1 => ∃ (n : Nat) (J : Nat → St → Hp → Prop), v = .int (n : Nat) ∧ n ≤ 1000000 ∧ J 0 σ H1 ∧
      (∀ i σ' H', i < n → J i σ' H' → wB X body { D with nx := J (i + 1), ct := J (i + 1), bk := D.nx } (σ'.set slot (some (.int (i : Nat)))) H') ∧ ∀ σ' H', J n σ' H' → D.nx σ' H')
    (hs : starEach [e] X.env = [(false, eval e X.env)] := by rfl) (hs' : starEach (e :: []) X.env = (false, eval e X.env) :: starEach [] X.env := by rfl)
    (hf : ∀ x, foldedSetIterable (.Call (.Name "range" p) [e] [] p1) X.env x = pure x := by intro _; rfl) (hfn : X.fn x = true ∨ X.env.scope.names.lookup x = some .local := by first | exact .inl rfl | exact .inr rfl | assumption) : wS X (.For (.Name x p2) (.Call (.Name "range" p) [e] [] p1) body [] pos) D σ H := by
  refine ⟨_, ps_for hp hc (pi_range1 hg hm wA.pa hs) (pg_name hN hx hl hfn) wB.ps hf, ca_cons (wE.weak h ?_) hs'⟩
  rintro v H1 ⟨n, J, rfl, hn, h0, ht, hd⟩
  refine ca_nil ⟨(n : Nat), rfl, by omega, by omega, ?_⟩
  have en : ((n : Nat) : Int).toNat = n := by omega
  rw [en]
  refine ⟨fun i m σ' H' => m = n - i ∧ i ≤ n ∧ J i σ' H', ⟨n, rfl, Nat.zero_le _, h0⟩, ?_⟩
  rintro i m σ' H' ⟨rfl, hi', j⟩
  have wk := wk_range (K := X.K) (M := M0) (H := H') 0 n
  have ln : ((List.range n).map fun i => PyData.int (0 + (i : Nat))).length = n := by simp
  by_cases hlt : i < n
  · refine .inr ⟨wk.go M0 i H' (fun _ z => z.elim) (ExM.refl _) (by rw [ln]; exact hlt), J (i + 1), fun σ2 H2 j2 => ⟨n - (i + 1), by omega, rfl, hlt, j2⟩, fun x H2 y => ?_⟩
    obtain ⟨rfl, rfl⟩ := y
    rw [Int.zero_add]
    exact ht i σ' _ hlt j
  · have e2 : i = n := by omega
    subst e2
    have := wk.stop M0 H' (fun _ z => z.elim) (ExM.refl _)
    rw [ln] at this
    exact .inl ⟨this, hd σ' H' j⟩
end
end GV

namespace GV
open PySem PySem.Spec PyProof.Rows L2
end GV
namespace GV
open PySem PySem.Spec PyProof.Rows L2
section
variable {X : Cx} {M : Addr → Prop} {σ : St} {H : Hp} {a : Expr} {d : PyData} {pos : Pos}
theorem kitAny2 {K : PySem.W.Frag} {t S T : String} {j k : Bool} (h1 : kitB t S = some j) (h2 : kitB t T = some k) : PySem.W.kitAny K (.type t) [.type S, .type T] = some (j || k) := by
  have e1 := kit_ty (K := K) h1
  have e2 := kit_ty (K := K) h2
  show (match PySem.W.kitOne K (.type t) (.type S) with
    | some true => some true
    | some false => PySem.W.kitAny K (.type t) [.type T]
    | none => none) = _
  rw [e1]
  cases j with
  | true => rfl
  | false =>
    show (match PySem.W.kitOne K (.type t) (.type T) with
      | some true => some true
      | some false => PySem.W.kitAny K (.type t) []
      | none => none) = _
    rw [e2]
    cases k <;> rfl
/-- isinstance(a, (S, T)) -/
theorem pd_isi2 {S T : String} {x y : Str} {p p1 p2 p3 : Pos} {n : Nat} {j k : Bool} (hg : Gl X "isinstance") (hm : X.mg "isinstance" = none) (hgS : Gl X x) (hmS : X.mg x = none) (hvS : bootBuiltins x = some (.type S)) (hgT : Gl X y) (hmT : X.mg y = none) (hvT : bootBuiltins y = some (.type T)) (ha : PD X M a σ H d) (hj : kitB (tyD d) S = some j) (hk : kitB (tyD d) T = some k)
    (nx : x ≠ "__name__" := by decide) (dx : (x == ("__debug__" : Str)) = false := by decide) (ny : y ≠ "__name__" := by decide) (dy : (y == ("__debug__" : Str)) = false := by decide)
    (h1 : starEach (a :: [.Tuple [.Name x p1, .Name y p2] n p3]) X.env = (false, eval a X.env) :: starEach [.Tuple [.Name x p1, .Name y p2] n p3] X.env := by rfl) (h2 : starEach (.Tuple [.Name x p1, .Name y p2] n p3 :: []) X.env = (false, eval (.Tuple [.Name x p1, .Name y p2] n p3) X.env) :: starEach [] X.env := by rfl)
    (h3 : starEach (.Name x p1 :: [.Name y p2]) X.env = (false, eval (.Name x p1) X.env) :: starEach [.Name y p2] X.env := by rfl) (h4 : starEach (.Name y p2 :: []) X.env = (false, eval (.Name y p2) X.env) :: starEach [] X.env := by rfl)
    (hpl : (backTo pos (starEach [.Tuple [.Name x p1, .Name y p2] n p3] X.env)).any (·.1) = false := by rfl) :
    PD X M (.Call (.Name "isinstance" p) [a, .Tuple [.Name x p1, .Name y p2] n p3] [] pos) σ H (.bool (j || k)) := .mk fun H1 e1 al Q q =>
  ⟨_, pe_callB call_isiT hg hm PyProof.Rows.boot_isinstance (pa_cons wE.pe (pa_cons (pe_tup (pa_cons (pe_bltn (v := .ty S) hgS hmS hvS rfl nx dx) (pa_cons (pe_bltn (v := .ty T) hgT hmT hvT rfl ny dy) pa_nil h4) h3)) pa_nil h2) h1) (by decide) (by decide) h1 hpl, ha.run H1 e1 al _ fun v H2 x2 r =>
    ⟨Evl.sz_of (by show 2 ≤ 100000; decide), fun t ht => ⟨v, t, [.ty S, .ty T], .type (tyD d), [.type S, .type T], j || k, rfl, upd_same, .cons (.ty S) (.cons (.ty T) .nil), (r.mono (fun _ z => z) (.of (Evl.Ex.new ht))).tyX, kitAny2 hj hk, q _ _ (x2.trans (Evl.Ex.new ht)) (.bl _)⟩⟩⟩
end
end GV

namespace GV
open PySem PySem.Spec PyProof.Rows L2
section
variable {X : Cx} {M : Addr → Prop} {σ : St} {H : Hp} {a b e : Expr} {d : PyData} {ds : List PyData} {pos : Pos}
theorem cut_all {xs : List PyData} {lo hi : Option Int} (h : HT.sIx xs.length 0 lo = 0 ∧ HT.sIx xs.length xs.length hi = xs.length) : cutD xs lo hi = xs := by
  unfold cutD
  rw [h.1, h.2, List.drop_zero, Nat.sub_zero, List.take_length]
/-- a slice of a tuple -/
theorem pd_sliceT {lo hi : Option Expr} {l u : Option Int} {p2 : Pos} (h : PD X M e σ H (.tuple ds)) (hl : OD X M lo σ H l) (hu : OD X M hi σ H u) : PD X M (.Subscript e (.Slice lo hi none p2) pos) σ H (.tuple (cutD ds l u)) := by
  obtain ⟨tl, pl, rl⟩ := hl.ex
  obtain ⟨tu, pu, ru⟩ := hu.ex
  refine .mk fun H1 e1 al Q q => ⟨_, pe_slice sl_tupA wE.pe pl pu, h.run H1 e1 al _ fun x H2 x2 r => ?_⟩
  refine rl H2 (e1.trans (.of x2)) (al.mono x2) _ fun H3 x3 => ru H3 ((e1.trans (.of x2)).trans (.of x3)) ((al.mono x2).mono x3) _ fun H4 x4 => ?_
  have r4 := r.mono (fun _ z => z) (.of (x3.trans x4))
  have x24 := x2.trans (x3.trans x4)
  cases r4 with
  | tup m hs rs =>
    refine ⟨_, _, rfl, .inl hs, fun hall => ?_, fun _ p hp => ?_⟩
    · rw [rs.length] at hall
      refine q _ H4 x24 ?_
      rw [cut_all hall]
      exact .tup m hs rs
    · exact q _ _ (x24.trans (Evl.Ex.new hp)) (.newT (X := X) (al.mono x24) hp (rs.cut l u))
/-- min(e, default=f) of a tuple of whole numbers -/
def rMinDfT (K : PySem.W.Frag) : List V → List V → Hp → VK → Prop := fun xs zs H Q => ∃ (a : Addr) (ns : List Int) (z : V), xs = [.ref a] ∧ zs = [z] ∧ SqT K H a (ns.map V.int) ∧ (ns = [] → Q z H) ∧ (∀ n r, ns = n :: r → Q (.int (r.foldl min n)) H)
end
end GV

namespace TK
open PySem PySem.Spec PyProof.Rows L2 GV
abbrev St := L2.St
def topS (i : Nat) : Stmt := PySem.Challenge.pw_millbrook_k61_history_entries.main.body.getD i (.Pass ⟨0, 0, 0, 0⟩)
abbrev s_InvalidRow_init : Stmt := inClass (topS 3) 0
abbrev n_InvalidRow_init : List Str := ["self", "row"]
abbrev p_InvalidRow_init : List Str := ["self", "row"]
abbrev s_InvalidPlace_init : Stmt := inClass (topS 4) 0
abbrev n_InvalidPlace_init : List Str := ["self", "place"]
abbrev p_InvalidPlace_init : List Str := ["self", "place"]
abbrev s_InvalidHouse_init : Stmt := inClass (topS 5) 0
abbrev n_InvalidHouse_init : List Str := ["self", "house"]
abbrev p_InvalidHouse_init : List Str := ["self", "house"]
abbrev s_InvalidNumber_init : Stmt := inClass (topS 6) 0
abbrev n_InvalidNumber_init : List Str := ["self", "number"]
abbrev p_InvalidNumber_init : List Str := ["self", "number"]
abbrev s_Barred_init : Stmt := inClass (topS 8) 0
abbrev n_Barred_init : List Str := ["self", "place", "step"]
abbrev p_Barred_init : List Str := ["self", "place", "step"]
theorem sc_Barred_init : FnScope n_Barred_init p_Barred_init (defScope s_Barred_init) := ⟨rfl, rfl, rfl, by decide +kernel, rfl, by decide +kernel, by decide +kernel⟩
abbrev s_Full_init : Stmt := inClass (topS 11) 0
abbrev n_Full_init : List Str := ["self", "most"]
abbrev p_Full_init : List Str := ["self", "most"]
abbrev s_is_integer : Stmt := topS 14
abbrev n_is_integer : List Str := ["value"]
abbrev p_is_integer : List Str := ["value"]
theorem sc_is_integer : FnScope n_is_integer p_is_integer (defScope s_is_integer) := ⟨rfl, rfl, rfl, by decide +kernel, rfl, by decide +kernel, by decide +kernel⟩
abbrev s_is_number : Stmt := topS 15
abbrev n_is_number : List Str := ["value", "low", "high"]
abbrev p_is_number : List Str := ["value", "low", "high"]
theorem sc_is_number : FnScope n_is_number p_is_number (defScope s_is_number) := ⟨rfl, rfl, rfl, by decide +kernel, rfl, by decide +kernel, by decide +kernel⟩
abbrev s_check_number : Stmt := topS 16
abbrev n_check_number : List Str := ["number", "low", "high"]
abbrev p_check_number : List Str := ["number", "low", "high"]
theorem sc_check_number : FnScope n_check_number p_check_number (defScope s_check_number) := ⟨rfl, rfl, rfl, by decide +kernel, rfl, by decide +kernel, by decide +kernel⟩
abbrev s_text_of_number : Stmt := topS 21
abbrev n_text_of_number : List Str := ["number", "sides"]
abbrev p_text_of_number : List Str := ["number"]
abbrev s_number_of_text : Stmt := topS 22
abbrev n_number_of_text : List Str := ["text", "before", "dash", "behind"]
abbrev p_number_of_text : List Str := ["text"]
theorem sc_number_of_text : FnScope n_number_of_text p_number_of_text (defScope s_number_of_text) := ⟨rfl, rfl, rfl, by decide +kernel, rfl, by decide +kernel, by decide +kernel⟩
abbrev s_check_house : Stmt := topS 23
abbrev n_check_house : List Str := ["house"]
abbrev p_check_house : List Str := ["house"]
theorem sc_check_house : FnScope n_check_house p_check_house (defScope s_check_house) := ⟨rfl, rfl, rfl, by decide +kernel, rfl, by decide +kernel, by decide +kernel⟩
abbrev s_House_init : Stmt := inClass (topS 24) 1
abbrev n_House_init : List Str := ["self", "text", "number"]
abbrev p_House_init : List Str := ["self", "text"]
theorem sc_House_init : FnScope n_House_init p_House_init (defScope s_House_init) := ⟨rfl, rfl, rfl, by decide +kernel, rfl, by decide +kernel, by decide +kernel⟩
abbrev s_House_names_index : Stmt := inClass (topS 24) 5
abbrev n_House_names_index : List Str := ["self", "index"]
abbrev p_House_names_index : List Str := ["self", "index"]
theorem sc_House_names_index : FnScope n_House_names_index p_House_names_index (defScope s_House_names_index) := ⟨rfl, rfl, rfl, by decide +kernel, rfl, by decide +kernel, by decide +kernel⟩
abbrev s_is_weight : Stmt := topS 31
abbrev n_is_weight : List Str := ["value"]
abbrev p_is_weight : List Str := ["value"]
theorem sc_is_weight : FnScope n_is_weight p_is_weight (defScope s_is_weight) := ⟨rfl, rfl, rfl, by decide +kernel, rfl, by decide +kernel, by decide +kernel⟩
abbrev s_is_bag_row : Stmt := topS 32
abbrev n_is_bag_row : List Str := ["value", "item"]
abbrev p_is_bag_row : List Str := ["value"]
theorem sc_is_bag_row : FnScope n_is_bag_row p_is_bag_row (defScope s_is_bag_row) := ⟨rfl, rfl, rfl, by decide +kernel, rfl, by decide +kernel, by decide +kernel⟩
abbrev s_is_row : Stmt := topS 33
abbrev n_is_row : List Str := ["value"]
abbrev p_is_row : List Str := ["value"]
theorem sc_is_row : FnScope n_is_row p_is_row (defScope s_is_row) := ⟨rfl, rfl, rfl, by decide +kernel, rfl, by decide +kernel, by decide +kernel⟩
abbrev s_is_place : Stmt := topS 34
abbrev n_is_place : List Str := ["row", "value"]
abbrev p_is_place : List Str := ["row", "value"]
theorem sc_is_place : FnScope n_is_place p_is_place (defScope s_is_place) := ⟨rfl, rfl, rfl, by decide +kernel, rfl, by decide +kernel, by decide +kernel⟩
abbrev s_check_row : Stmt := topS 35
abbrev n_check_row : List Str := ["row"]
abbrev p_check_row : List Str := ["row"]
theorem sc_check_row : FnScope n_check_row p_check_row (defScope s_check_row) := ⟨rfl, rfl, rfl, by decide +kernel, rfl, by decide +kernel, by decide +kernel⟩
abbrev s_check_place : Stmt := topS 36
abbrev n_check_place : List Str := ["row", "place"]
abbrev p_check_place : List Str := ["row", "place"]
theorem sc_check_place : FnScope n_check_place p_check_place (defScope s_check_place) := ⟨rfl, rfl, rfl, by decide +kernel, rfl, by decide +kernel, by decide +kernel⟩
abbrev s_swapped : Stmt := topS 38
abbrev n_swapped : List Str := ["row", "place"]
abbrev p_swapped : List Str := ["row", "place"]
theorem sc_swapped : FnScope n_swapped p_swapped (defScope s_swapped) := ⟨rfl, rfl, rfl, by decide +kernel, rfl, by decide +kernel, by decide +kernel⟩
abbrev s_check_all : Stmt := topS 42
abbrev n_check_all : List Str := ["row", "place", "house"]
abbrev p_check_all : List Str := ["row", "place", "house"]
theorem sc_check_all : FnScope n_check_all p_check_all (defScope s_check_all) := ⟨rfl, rfl, rfl, by decide +kernel, rfl, by decide +kernel, by decide +kernel⟩
abbrev s_third_kinds : Stmt := topS 43
abbrev n_third_kinds : List Str := ["row", "place", "lighter", "heavier", "letters", "behind", "stone", "index"]
abbrev p_third_kinds : List Str := ["row", "place"]
theorem sc_third_kinds : FnScope n_third_kinds p_third_kinds (defScope s_third_kinds) := ⟨rfl, rfl, rfl, by decide +kernel, rfl, by decide +kernel, by decide +kernel⟩
abbrev s_helper_indexes : Stmt := topS 44
abbrev n_helper_indexes : List Str := ["row", "place", "house", "index", "kind"]
abbrev p_helper_indexes : List Str := ["row", "place", "house"]
theorem sc_helper_indexes : FnScope n_helper_indexes p_helper_indexes (defScope s_helper_indexes) := ⟨rfl, rfl, rfl, by decide +kernel, rfl, by decide +kernel, by decide +kernel⟩
abbrev s_nearness : Stmt := topS 45
abbrev n_nearness : List Str := ["place", "index"]
abbrev p_nearness : List Str := ["place", "index"]
theorem sc_nearness : FnScope n_nearness p_nearness (defScope s_nearness) := ⟨rfl, rfl, rfl, by decide +kernel, rfl, by decide +kernel, by decide +kernel⟩
abbrev s_frees : Stmt := topS 46
abbrev n_frees : List Str := ["row", "place", "house"]
abbrev p_frees : List Str := ["row", "place", "house"]
abbrev s_nearest_helper : Stmt := topS 47
abbrev n_nearest_helper : List Str := ["row", "place", "house", "indexes", "index"]
abbrev p_nearest_helper : List Str := ["row", "place", "house"]
theorem sc_nearest_helper : FnScope n_nearest_helper p_nearest_helper (defScope s_nearest_helper) := ⟨rfl, rfl, rfl, by decide +kernel, rfl, by decide +kernel, by decide +kernel⟩
abbrev s_entry_of : Stmt := topS 122
abbrev n_entry_of : List Str := ["row", "place", "house", "helper"]
abbrev p_entry_of : List Str := ["row", "place", "house"]
theorem sc_entry_of : FnScope n_entry_of p_entry_of (defScope s_entry_of) := ⟨rfl, rfl, rfl, by decide +kernel, rfl, by decide +kernel, by decide +kernel⟩
abbrev s_Desk_init : Stmt := inClass (topS 123) 0
abbrev n_Desk_init : List Str := ["self", "row", "house", "limit"]
abbrev p_Desk_init : List Str := ["self", "row", "house", "limit"]
theorem sc_Desk_init : FnScope n_Desk_init p_Desk_init (defScope s_Desk_init) := ⟨rfl, rfl, rfl, by decide +kernel, rfl, by decide +kernel, by decide +kernel⟩
abbrev s_Desk_present : Stmt := inClass (topS 123) 1
abbrev n_Desk_present : List Str := ["self"]
abbrev p_Desk_present : List Str := ["self"]
theorem sc_Desk_present : FnScope n_Desk_present p_Desk_present (defScope s_Desk_present) := ⟨rfl, rfl, rfl, by decide +kernel, rfl, by decide +kernel, by decide +kernel⟩
abbrev s_Desk_enter : Stmt := inClass (topS 123) 6
abbrev n_Desk_enter : List Str := ["self", "state"]
abbrev p_Desk_enter : List Str := ["self", "state"]
theorem sc_Desk_enter : FnScope n_Desk_enter p_Desk_enter (defScope s_Desk_enter) := ⟨rfl, rfl, rfl, by decide +kernel, rfl, by decide +kernel, by decide +kernel⟩
abbrev s_Desk_change : Stmt := inClass (topS 123) 7
abbrev n_Desk_change : List Str := ["self", "place", "history", "row", "entry"]
abbrev p_Desk_change : List Str := ["self", "place"]
theorem sc_Desk_change : FnScope n_Desk_change p_Desk_change (defScope s_Desk_change) := ⟨rfl, rfl, rfl, by decide +kernel, rfl, by decide +kernel, by decide +kernel⟩
abbrev s_Desk_undo : Stmt := inClass (topS 123) 8
abbrev n_Desk_undo : List Str := ["self"]
abbrev p_Desk_undo : List Str := ["self"]
theorem sc_Desk_undo : FnScope n_Desk_undo p_Desk_undo (defScope s_Desk_undo) := ⟨rfl, rfl, rfl, by decide +kernel, rfl, by decide +kernel, by decide +kernel⟩
abbrev s_Desk_redo : Stmt := inClass (topS 123) 9
abbrev n_Desk_redo : List Str := ["self"]
abbrev p_Desk_redo : List Str := ["self"]
theorem sc_Desk_redo : FnScope n_Desk_redo p_Desk_redo (defScope s_Desk_redo) := ⟨rfl, rfl, rfl, by decide +kernel, rfl, by decide +kernel, by decide +kernel⟩
abbrev s_Desk_history : Stmt := inClass (topS 123) 10
abbrev n_Desk_history : List Str := ["self"]
abbrev p_Desk_history : List Str := ["self"]
theorem sc_Desk_history : FnScope n_Desk_history p_Desk_history (defScope s_Desk_history) := ⟨rfl, rfl, rfl, by decide +kernel, rfl, by decide +kernel, by decide +kernel⟩
abbrev s_law_cell : Stmt := topS 125
abbrev n_law_cell : List Str := ["script", "k"]
abbrev p_law_cell : List Str := ["script", "k"]
theorem sc_law_cell : FnScope n_law_cell p_law_cell (defScope s_law_cell) := ⟨rfl, rfl, rfl, by decide +kernel, rfl, by decide +kernel, by decide +kernel⟩
abbrev s_law_bag : Stmt := topS 126
abbrev n_law_bag : List Str := ["cell", "k", "rest"]
abbrev p_law_bag : List Str := ["cell", "k"]
theorem sc_law_bag : FnScope n_law_bag p_law_bag (defScope s_law_bag) := ⟨rfl, rfl, rfl, by decide +kernel, rfl, by decide +kernel, by decide +kernel⟩
abbrev s_law_take : Stmt := topS 127
abbrev n_law_take : List Str := ["bag", "size", "digit", "one", "two"]
abbrev p_law_take : List Str := ["bag", "size"]
theorem sc_law_take : FnScope n_law_take p_law_take (defScope s_law_take) := ⟨rfl, rfl, rfl, by decide +kernel, rfl, by decide +kernel, by decide +kernel⟩
abbrev s_law_stones : Stmt := topS 128
abbrev n_law_stones : List Str := ["bag", "count", "style", "weight", "part", "stones", "k"]
abbrev p_law_stones : List Str := ["bag", "count"]
theorem sc_law_stones : FnScope n_law_stones p_law_stones (defScope s_law_stones) := ⟨rfl, rfl, rfl, by decide +kernel, rfl, by decide +kernel, by decide +kernel⟩
abbrev s_law_row : Stmt := topS 129
abbrev n_law_row : List Str := ["bag", "count", "row", "stone"]
abbrev p_law_row : List Str := ["bag", "count"]
theorem sc_law_row : FnScope n_law_row p_law_row (defScope s_law_row) := ⟨rfl, rfl, rfl, by decide +kernel, rfl, by decide +kernel, by decide +kernel⟩
abbrev s_law_number : Stmt := topS 130
abbrev n_law_number : List Str := ["bag", "menu"]
abbrev p_law_number : List Str := ["bag"]
theorem sc_law_number : FnScope n_law_number p_law_number (defScope s_law_number) := ⟨rfl, rfl, rfl, by decide +kernel, rfl, by decide +kernel, by decide +kernel⟩
abbrev s_law_text : Stmt := topS 131
abbrev n_law_text : List Str := ["number", "text", "k"]
abbrev p_law_text : List Str := ["number"]
theorem sc_law_text : FnScope n_law_text p_law_text (defScope s_law_text) := ⟨rfl, rfl, rfl, by decide +kernel, rfl, by decide +kernel, by decide +kernel⟩
abbrev s_law_names : Stmt := topS 132
abbrev n_law_names : List Str := ["number", "low", "high", "stone", "before", "part"]
abbrev p_law_names : List Str := ["number", "low", "high", "stone", "before"]
theorem sc_law_names : FnScope n_law_names p_law_names (defScope s_law_names) := ⟨rfl, rfl, rfl, by decide +kernel, rfl, by decide +kernel, by decide +kernel⟩
abbrev s_law_nearest : Stmt := topS 133
abbrev n_law_nearest : List Str := ["row", "place", "number", "low", "high", "best", "gap", "k", "away"]
abbrev p_law_nearest : List Str := ["row", "place", "number"]
theorem sc_law_nearest : FnScope n_law_nearest p_law_nearest (defScope s_law_nearest) := ⟨rfl, rfl, rfl, by decide +kernel, rfl, by decide +kernel, by decide +kernel⟩
abbrev s_law_tried : Stmt := topS 134
abbrev n_law_tried : List Str := ["desk", "place", "told", "e", "flags"]
abbrev p_law_tried : List Str := ["desk", "place"]
theorem sc_law_tried : FnScope n_law_tried p_law_tried (defScope s_law_tried) := ⟨rfl, rfl, rfl, by decide +kernel, rfl, by decide +kernel, by decide +kernel⟩
abbrev s_law_swap : Stmt := topS 135
abbrev n_law_swap : List Str := ["row", "place"]
abbrev p_law_swap : List Str := ["row", "place"]
theorem sc_law_swap : FnScope n_law_swap p_law_swap (defScope s_law_swap) := ⟨rfl, rfl, rfl, by decide +kernel, rfl, by decide +kernel, by decide +kernel⟩
abbrev s_law_read : Stmt := topS 136
abbrev n_law_read : List Str := ["told", "start", "number", "row", "entry", "place", "part"]
abbrev p_law_read : List Str := ["told", "start", "number"]
theorem sc_law_read : FnScope n_law_read p_law_read (defScope s_law_read) := ⟨rfl, rfl, rfl, by decide +kernel, rfl, by decide +kernel, by decide +kernel⟩
abbrev s_law_shows : Stmt := topS 137
abbrev n_law_shows : List Str := ["desk", "start", "number", "entries", "told", "row"]
abbrev p_law_shows : List Str := ["desk", "start", "number", "entries"]
theorem sc_law_shows : FnScope n_law_shows p_law_shows (defScope s_law_shows) := ⟨rfl, rfl, rfl, by decide +kernel, rfl, by decide +kernel, by decide +kernel⟩
abbrev s_law_pick : Stmt := topS 138
abbrev n_law_pick : List Str := ["row", "number", "bag", "place", "k", "at"]
abbrev p_law_pick : List Str := ["row", "number", "bag"]
theorem sc_law_pick : FnScope n_law_pick p_law_pick (defScope s_law_pick) := ⟨rfl, rfl, rfl, by decide +kernel, rfl, by decide +kernel, by decide +kernel⟩
abbrev s_law : Stmt := topS 139
abbrev n_law : List Str := ["script", "bag", "number", "count", "start", "more", "rounds", "given", "desk", "entries", "row", "k", "turn", "look", "place", "helper", "due", "many"]
abbrev p_law : List Str := ["script"]
theorem sc_law : FnScope n_law p_law (defScope s_law) := ⟨rfl, rfl, rfl, by decide +kernel, rfl, by decide +kernel, by decide +kernel⟩
end TK


namespace TK
open PySem PySem.Spec PyProof.Rows L2 GV
section
variable {P : Program} {w : World} {K : PySem.W.Frag} {mg : Str → Option Value} {base : Heap}

/-! ### whole numbers -/
def isIntD : PyData → Bool
  | .int _ => true
  | _ => false
def isBoolD : PyData → Bool
  | .bool _ => true
  | _ => false
theorem kit_int (d : PyData) : kitB (tyD d) "int" = some (isIntD d || isBoolD d) := by
  cases d with
  | none => exact (by decide +kernel : kitB "NoneType" "int" = some false)
  | bool _ => exact (by decide +kernel : kitB "bool" "int" = some true)
  | int _ => exact (by decide +kernel : kitB "int" "int" = some true)
  | str _ => exact (by decide +kernel : kitB "str" "int" = some false)
  | list _ => exact (by decide +kernel : kitB "list" "int" = some false)
  | tuple _ => exact (by decide +kernel : kitB "tuple" "int" = some false)
  | dict _ => exact (by decide +kernel : kitB "dict" "int" = some false)
theorem kit_bool (d : PyData) : kitB (tyD d) "bool" = some (isBoolD d) := by
  cases d with
  | none => exact (by decide +kernel : kitB "NoneType" "bool" = some false)
  | bool _ => exact (by decide +kernel : kitB "bool" "bool" = some true)
  | int _ => exact (by decide +kernel : kitB "int" "bool" = some false)
  | str _ => exact (by decide +kernel : kitB "str" "bool" = some false)
  | list _ => exact (by decide +kernel : kitB "list" "bool" = some false)
  | tuple _ => exact (by decide +kernel : kitB "tuple" "bool" = some false)
  | dict _ => exact (by decide +kernel : kitB "dict" "bool" = some false)
def R_is_integer (ds : List PyData) (d : PyData) : Prop := ∃ a, ds = [a] ∧ d = .bool (isIntD a)
theorem cl_is_integer {f : Addr} {fd : FuncData} (F : At K mg "is_integer" s_is_integer f fd) (nb : NoB mg) : Cl P w K mg base CX0 1 "is_integer" (PureR K R_is_integer) := by
  refine cl_pure F sc_is_integer (F.fn.binds fun _ _ _ _ _ _ us hl => match us, hl with | [_], _ => rfl) (fun ds d h => ?_) (fun X cdv A outer s H Q E M vs ds d hX hr al r h q => ?_)
  · obtain ⟨a, rfl, _⟩ := h
    rfl
  · obtain ⟨a, rfl, rfl⟩ := h
    obtain ⟨v, rfl, r1⟩ := rpa1 r
    subst hX
    refine b_cons (s_ret al (PD.is (pd_and (pd_isi rfl nb.isinstance rfl nb.int PyProof.Rows.boot_int (nm 0 r1) (kit_int a)) fun _ => pd_one (pd_not (pd_isi rfl nb.isinstance rfl nb.bool PyProof.Rows.boot_bool (nm 0 r1) (kit_bool a)))) ?_) q)
    cases a <;> rfl
def isNumD (a : PyData) (lo hi : Int) : Bool := match a with
  | .int i => decide (lo ≤ i) && decide (i ≤ hi)
  | _ => false
def R_is_number (ds : List PyData) (d : PyData) : Prop := ∃ a lo hi, ds = [a, .int lo, .int hi] ∧ d = .bool (isNumD a lo hi)
theorem rpa3 {K : PySem.W.Frag} {M : Addr → Prop} {H : Hp} {vs : List V} {a b c : PyData} (r : RpAll K M H vs [a, b, c]) : ∃ u v w, vs = [u, v, w] ∧ Rp K M H u a ∧ Rp K M H v b ∧ Rp K M H w c := by
  obtain ⟨⟩ | ⟨r1, r⟩ := r
  obtain ⟨v, w, rfl, r2, r3⟩ := rpa2 r
  exact ⟨_, _, _, rfl, r1, r2, r3⟩
theorem cl_is_number {f : Addr} {fd : FuncData} (F : At K mg "is_number" s_is_number f fd) (c1 : Cl P w K mg base CX0 1 "is_integer" (PureR K R_is_integer)) : Cl P w K mg base CX0 2 "is_number" (PureR K R_is_number) := by
  refine cl_pure F sc_is_number (F.fn.binds fun _ _ _ _ _ _ us hl => match us, hl with | [_, _, _], _ => rfl) (fun ds d h => ?_) (fun X cdv A outer s H Q E M vs ds d hX hr al r h q => ?_)
  · obtain ⟨a, lo, hi, rfl, _⟩ := h
    rfl
  · obtain ⟨a, lo, hi, rfl, rfl⟩ := h
    obtain ⟨u, v, x, rfl, r1, r2, r3⟩ := rpa3 r
    subst hX
    refine b_cons (s_ret al (PD.is (pd_and (k2 := isNumD a lo hi) (pd_callC c1 hr (by decide) rfl (ad_cons (nm 0 r1) ad_nil) ⟨a, rfl, rfl⟩) fun ha => pd_one ?_) ?_) q)
    · cases a with
      | int i => exact pd_leLe (nm 1 r2) (nm 0 r1) (nm 2 r3)
      | _ => cases ha
    · cases a <;> rfl
def mostW : Int := 1000000000000
def isWeightD (a : PyData) : Bool := isNumD a (-mostW) mostW
def R_is_weight (ds : List PyData) (d : PyData) : Prop := ∃ a, ds = [a] ∧ d = .bool (isWeightD a)
theorem cl_is_weight {f : Addr} {fd : FuncData} {t : Tok} (F : At K mg "is_weight" s_is_weight f fd) (c1 : Cl P w K mg base CX0 2 "is_number" (PureR K R_is_number)) (gW : mg "MOST_WEIGHT" = some (.int mostW t)) : Cl P w K mg base CX0 3 "is_weight" (PureR K R_is_weight) := by
  refine cl_pure F sc_is_weight (F.fn.binds fun _ _ _ _ _ _ us hl => match us, hl with | [_], _ => rfl) (fun ds d h => ?_) (fun X cdv A outer s H Q E M vs ds d hX hr al r h q => ?_)
  · obtain ⟨a, rfl, _⟩ := h
    rfl
  · obtain ⟨a, rfl, rfl⟩ := h
    obtain ⟨v, rfl, r1⟩ := rpa1 r
    subst hX
    exact b_cons (s_ret al (pd_callC c1 hr (by decide) rfl (ad_cons (nm 0 r1) (ad_cons (pd_neg (pd_globI rfl gW)) (ad_cons (pd_globI rfl gW) ad_nil))) ⟨a, _, _, rfl, rfl⟩) q)
/-! ### couples -/
abbrev pairD (p : Int × Int) : PyData := .tuple [.int p.1, .int p.2]
end
end TK

namespace GV
open PySem PySem.Spec PyProof.Rows L2
open Sem (wp)
open AutoSeq1 (wpAny_loadPart')
/-! ### enumerate(a tuple) -/
def IteT (K : PySem.W.Frag) (a : Addr) : It :=
  ⟨fun i H => ∃ (xs : List V) (x : V), SqT K H a xs ∧ xs[i]? = some x, fun i H v H' => ∃ T x, v = .ref T ∧ H T = none ∧ H' = upd H T (.tup [.int (i : Nat), x]) ∧ ∀ xs, SqT K H a xs → xs[i]? = some x, fun i H => ∃ xs : List V, SqT K H a xs ∧ xs.length ≤ i⟩
def iEnumT (K : PySem.W.Frag) (ta : TA) : TI := fun σ H R => ta σ H fun vs H1 => ∃ a xs, vs = [.ref a] ∧ SqT K H1 a xs ∧ R (IteT K a) H1
end GV

namespace GV
open PySem PySem.Spec PyProof.Rows L2
section
variable {X : Cx} {M : Addr → Prop} {σ : St} {H H' : Hp} {a b c e o i : Expr} {da db d : PyData} {pos : Pos} {es : List Expr} {ds : List PyData} {D : Ends}
/-- o.insert(i, e) -/
theorem ce_insert {apos cpos : Pos} {Q : VK} (h : wE X o σ H fun x H1 => ∃ l, x = .ref l ∧ (∃ ys, H1 l = some (.lst ys)) ∧ wE X i σ H1 fun n H2 => wE X e σ H2 fun y H3 => ∃ ys k, H3 l = some (.lst ys) ∧ n = .int (k : Nat) ∧ k ≤ 100000 ∧ ys.length < 100000 ∧ Q .non (upd H3 l (.lst (ys.take k ++ [y] ++ ys.drop k))))
    (h1 : attributeBase o ("insert" : Str) X.env (eval o X.env) = eval o X.env := by rfl)
    (h2 : ((((backTo cpos (starEach [i, e] X.env)).all fun x => !x.1) && (backToKw cpos (keywordEach [] X.env)).all fun x => x.1.isSome) && decide (([i, e].length + ([] : List Keyword).length + if ([] : List Keyword).isEmpty = true then 0 else 1) < 30)) = true := by rfl)
    (h3 : (apos.endLine == cpos.line) = true := by rfl) (h4 : starEach (i :: [e]) X.env = (false, eval i X.env) :: starEach [e] X.env := by rfl) (h6 : starEach (e :: []) X.env = (false, eval e X.env) :: starEach [] X.env := by rfl) (h5 : (backTo cpos (starEach [e] X.env)).any (·.1) = false := by rfl) :
    wE X (.Call (.Attribute o "insert" apos) [i, e] [] cpos) σ H Q := by
  refine ⟨_, pe_bm PySem.F.plainAttrs_list PySem.F.slot_list_insert PySem.F.type_list_insert mt_insert (wE.pe) (pa_cons wE.pe (pa_cons wE.pe pa_nil h6) h4) h1 h2 h3 h4 h5, ?_⟩
  refine wE.weak h ?_
  rintro x H1 ⟨l, rfl, ⟨ys0, hl⟩, hh⟩
  refine ⟨.inl ⟨rfl, _, SqL.of hl⟩, ?_⟩
  refine wE.weak hh ?_
  intro n H2 hh2
  refine wE.weak hh2 ?_
  rintro y H3 ⟨ys, k, hy, rfl, hk, hlen, q⟩
  refine ⟨l, ys, (k : Nat), y, rfl, rfl, hy, Nat.lt_of_lt_of_le hlen (by rw [sizeLine_eq]; decide), by omega, by omega, ?_⟩
  rw [show ((k : Nat) : Int).toNat = k by omega]
  exact q
/-! ### dicts, as far as they are looked at -/
theorem ce_dict0 {Q : VK} (h : ∀ p, H p = none → Q (.ref p) (upd H p (.dK []))) : wE X (.Dict [] [] pos) σ H Q := ⟨_, pe_dnewK, h⟩
/-! ### == of tuples that hold the same things -/
def sameB : V → Bool
  | .ref _ => true
  | v => flatB v
def rEqSame (K : PySem.W.Frag) : R2 := fun x y H Q => ∃ a b xs, x = .ref a ∧ y = .ref b ∧ SqT K H a xs ∧ SqT K H b xs ∧ (∀ v ∈ xs, sameB v = true) ∧ Q (.bl true) H
/-! ### max of a tuple -/
def rMaxT (K : PySem.W.Frag) : List V → Hp → VK → Prop := fun vs H Q => ∃ (a : Addr) (n : Int) (r : List Int), vs = [.ref a] ∧ SqT K H a ((n :: r).map V.int) ∧ Q (.int (r.foldl max n)) H
/-! ### sorted(set(a tuple of whole numbers)) -/
end
end GV

namespace GV
open PySem PySem.Spec PyProof.Rows L2
/-! ### a list or a tuple, whichever -/
def sqD : Bool → List PyData → PyData
  | true, ds => .tuple ds
  | false, ds => .list ds
theorem len_sq (tp : Bool) (ds : List PyData) : lenD (sqD tp ds) = some ds.length := by cases tp <;> rfl
theorem ix_sq {tp : Bool} {ds : List PyData} {i : Int} {d : PyData} (h : atI ds i = some d) : ixD (sqD tp ds) (.int i) = some d := by cases tp <;> exact h
theorem ix_sqI {tp : Bool} {ns : List Int} {i : Nat} {z : Int} (h : ns[i]? = some z) : ixD (sqD tp (ns.map PyData.int)) (.int (i : Nat)) = some (.int z) := ix_sq (atI_nat (by rw [List.getElem?_map, h]; rfl))
section
variable {X : Cx} {M : Addr → Prop} {σ : St} {H : Hp} {a b c e tg : Expr} {d : PyData} {pos : Pos} {ds : List PyData} {tp : Bool}
theorem src_S (h : PD X M e σ H (sqD tp ds)) : Src X M tg e σ H ds := by
  cases tp with
  | true => exact src_tup h
  | false => exact src_list h
theorem pd_sliceS {lo hi : Option Expr} {l u : Option Int} {p2 : Pos} (h : PD X M e σ H (sqD tp ds)) (hl : OD X M lo σ H l) (hu : OD X M hi σ H u) : PD X M (.Subscript e (.Slice lo hi none p2) pos) σ H (sqD tp (cutD ds l u)) := by
  cases tp with
  | true => exact pd_sliceT h hl hu
  | false => exact (fd_slice h hl hu).pd
theorem pd_min2 {p : Pos} {i j : Int} (hg : Gl X "min") (hn : X.mg "min" = none) (ha : PD X M a σ H (.int i)) (hb : PD X M b σ H (.int j)) (hc : X.calm = true := by rfl)
    (h1 : starEach (a :: [b]) X.env = (false, eval a X.env) :: starEach [b] X.env := by rfl) (h2 : starEach (b :: []) X.env = (false, eval b X.env) :: starEach [] X.env := by rfl) (hpl : (backTo pos (starEach [b] X.env)).any (·.1) = false := by rfl) : PD X M (.Call (.Name "min" p) [a, b] [] pos) σ H (.int (min i j)) :=
  PD.is (pd_callB (call_min2 hc) hg hn PyProof.Rows.boot_min (ad_cons ha (ad_cons hb ad_nil h2) h1) rn_min2 (by decide) (by decide) h1 hpl) (by
    congr 1
    split
    · exact (Int.min_eq_right (by omega)).symm
    · exact (Int.min_eq_left (by omega)).symm)
theorem pd_max2 {p : Pos} {i j : Int} (hg : Gl X "max") (hn : X.mg "max" = none) (ha : PD X M a σ H (.int i)) (hb : PD X M b σ H (.int j)) (hc : X.calm = true := by rfl)
    (h1 : starEach (a :: [b]) X.env = (false, eval a X.env) :: starEach [b] X.env := by rfl) (h2 : starEach (b :: []) X.env = (false, eval b X.env) :: starEach [] X.env := by rfl) (hpl : (backTo pos (starEach [b] X.env)).any (·.1) = false := by rfl) : PD X M (.Call (.Name "max" p) [a, b] [] pos) σ H (.int (max i j)) :=
  PD.is (pd_callB (call_max2 hc) hg hn PyProof.Rows.boot_max (ad_cons ha (ad_cons hb ad_nil h2) h1) rn_max2 (by decide) (by decide) h1 hpl) (by
    congr 1
    split
    · exact (Int.max_eq_right (by omega)).symm
    · exact (Int.max_eq_left (by omega)).symm)
/-- list(e), tuple(e) -/
theorem fd_listOf {p : Pos} (hg : Gl X "list") (hm : X.mg "list" = none) (ha : PD X M a σ H d) (h : itemsD d = some ds)
    (h1 : starEach (a :: []) X.env = (false, eval a X.env) :: starEach [] X.env := by rfl) (hpl : (backTo pos (starEach [] X.env)).any (·.1) = false := by rfl) : FD X M (.Call (.Name "list" p) [a] [] pos) σ H ds :=
  fd_callTy call_list_of hg hm PyProof.Rows.boot_list (ad_cons ha ad_nil h1) (rf_list h) (by decide) (by decide) h1 hpl
/-- the name in slot i, by its value -/
theorem ce_nm (i : Nat) {x : Str} {v : V} {Q : VK} (q : Q v H) (hN : X.N[i]? = some x := by rfl) (hv : Vis X.env.scope x := by first | exact .inl rfl | exact .inr (.inl rfl) | exact .inr (.inr rfl)) (hs : σ[i]? = some (some v) := by rfl)
    (hd : (x == ("__debug__" : Str)) = false := by decide) (hcd : (x == ("__classdict__" : Str)) = false := by decide) : wE X (.Name x pos) σ H Q := ce_name hN hv hs q hd hcd
end
end GV

namespace GV
open PySem PySem.Spec PyProof.Rows L2
section
variable {X : Cx} {M : Addr → Prop} {σ : St} {H H' : Hp} {a b c e tg iter : Expr} {da db d : PyData} {pos : Pos} {es : List Expr} {ds : List PyData} {tp : Bool}
/-! ### comprehensions over a heap with objects that stay -/
theorem lc_coreO {t : Tg} {elt : Expr} {ifs : List Expr} {scope : Scope} {own : List (Str × Nat)} (hc : X.calm = true) (hN : X.N.Nodup) (hi : Src X M tg iter σ H ds) (ok : BlkOk X.N X.env.scope scope own)
    (hg : ∀ s H C cl fp, PG (Cx.lc X s H scope C cl fp) tg (t.g X.K)) (hf : ∀ d ∈ ds, t.Fits d) (hw : ∀ M H d σ', t.Ok X.K M H d (wipe σ (own.map (·.2))) σ' → wipe σ' (own.map (·.2)) = wipe σ (own.map (·.2)))
    (p : PyData → Bool) (f : PyData → PyData) (hl : ds.length ≤ 100000)
    (body : ∀ s0 H0 C cl fp M' H' d σ', (∀ a, M a → M' a) → (∀ v e, Rp X.K M H v e → Rp X.K M' H' v e) → (∀ a o, ¬ M a → NT o → H a = some o → H' a = some o ∧ ¬ M' a) → d ∈ ds → t.Ok X.K M' H' d (wipe σ (own.map (·.2))) σ' →
      TsD (Cx.lc X s0 H0 scope C cl fp) M' ifs σ' H' (p d) ∧ (p d = true → PD (Cx.lc X s0 H0 scope C cl fp) M' elt σ' H' (f d))) :
    ∃ wi, PI X tg iter wi ∧ ∀ H1, ExM M H H1 → Alive M H1 → ∀ Q : VK, (∀ l ws H2, H1 l = none → Evl.Ex H1 H2 → H2 l = some (.lst ws) → RpAll X.K M H2 ws ((ds.filter p).map f) → Q (.ref l) H2) →
      tLc wi (t.g X.K) (fun σ H Q => ∀ s0 H0 C cl fp, wTs (Cx.lc X s0 H0 scope C cl fp) ifs σ H Q) (fun σ H Q => ∀ s0 H0 C cl fp, wE (Cx.lc X s0 H0 scope C cl fp) elt σ H Q) (own.map (·.2)) σ H1 Q := by
  obtain ⟨wi, pi, run⟩ := hi.ex
  refine ⟨wi, pi, fun H1 e1 al Q q => ?_⟩
  refine run H1 e1 al _ fun It Hs xs wk D hD => ?_
  have alS := al.mono xs
  -- D is mutable meanwhile
  let M' : Addr → Prop := fun a => M a ∨ a = D
  have hm : ∀ a, M' a → M a ∨ Hs a = none := fun a z => z.elim .inl fun e => .inr (by rw [e]; exact hD)
  have al2 : ∀ H', Evl.Ex Hs H' → (∃ acc, H' D = some (.lst acc)) → Alive M' H' := fun H' e ⟨acc, h⟩ a z => by
    rcases z with z | z
    · exact (alS.mono e) a z
    · subst z
      exact ⟨_, h⟩
  refine ⟨fun i m H' => m = ds.length - i ∧ i ≤ ds.length ∧ Evl.Ex Hs H' ∧ ∃ acc, H' D = some (.lst acc) ∧ acc.length ≤ i ∧ RpAll X.K M' H' acc (((ds.take i).filter p).map f), ⟨ds.length, rfl, Nat.zero_le _, Evl.Ex.new hD, [], upd_same, Nat.le_refl _, by simpa using RpAll.nil⟩, ?_⟩
  rintro i m H' ⟨rfl, hi', x, acc, hacc, hlen, racc⟩
  have eM : ExM M' Hs H' := .of x
  have al' := al2 H' x ⟨acc, hacc⟩
  by_cases hlt : i < ds.length
  · refine .inr ⟨wk.go M' i H' hm eM hlt, fun H2 => Evl.Ex Hs H2 ∧ ∃ acc, H2 D = some (.lst acc) ∧ acc.length ≤ i + 1 ∧ RpAll X.K M' H2 acc (((ds.take (i + 1)).filter p).map f), fun H2 ⟨a1, a2⟩ => ⟨ds.length - (i + 1), by omega, rfl, hlt, a1, a2⟩, fun v H2 y => ?_⟩
    obtain ⟨x2, r⟩ := wk.yld M' i H' v H2 hm eM al' y
    have hd' : ds[i]? = some ds[i] := List.getElem?_eq_getElem hlt
    have hmem := List.getElem_mem hlt
    have hacc2 : H2 D = some (.lst acc) := x2 _ _ hacc
    have lift : ∀ v e, Rp X.K M H v e → Rp X.K M' H2 v e := fun v e rv => ((rv.mono (fun _ z => z) (e1.trans (.of xs))).wide hm).mono (fun _ z => z) (.of (x.trans x2))
    have al3 := al2 H2 (x.trans x2) ⟨acc, hacc2⟩
    refine Tg.run (hf _ hmem) (r _ hd') fun σ2 okk => ⟨hw _ _ _ _ okk, ?_⟩
    have all := fun s0 H0 C cl fp => body s0 H0 C cl fp M' H2 ds[i] σ2 (fun _ z => .inl z) lift (fun a o nm nt h => ⟨x2 _ _ (x _ _ (xs _ _ (e1 _ _ h nm nt))), fun z => z.elim nm fun e => by have w := xs _ _ (e1 _ _ h nm nt); rw [e, hD] at w; cases w⟩) hmem okk
    -- the test
    have tk : (ds.take (i + 1)).filter p = (ds.take i).filter p ++ (if p ds[i] = true then [ds[i]] else []) := by
      rw [List.take_add_one, hd', List.filter_append]
      simp only [Option.toList_some, List.filter_cons, List.filter_nil]
    have fin : ∀ b, b = p ds[i] → ∀ H3, Evl.Ex H2 H3 → (if b = true then (∀ s0 H0 C cl fp, wE (Cx.lc X s0 H0 scope C cl fp) elt σ2 H3 fun y H4 => ∃ acc, H4 D = some (.lst acc) ∧ acc.length < sizeLine ∧
        (Evl.Ex Hs (upd H4 D (.lst (acc ++ [y]))) ∧ ∃ acc', (upd H4 D (.lst (acc ++ [y]))) D = some (.lst acc') ∧ acc'.length ≤ i + 1 ∧ RpAll X.K M' (upd H4 D (.lst (acc ++ [y]))) acc' (((ds.take (i + 1)).filter p).map f)))
        else (Evl.Ex Hs H3 ∧ ∃ acc, H3 D = some (.lst acc) ∧ acc.length ≤ i + 1 ∧ RpAll X.K M' H3 acc (((ds.take (i + 1)).filter p).map f))) := by
      intro b hb H3 x3
      have hacc3 := x3 _ _ hacc2
      cases b with
      | true =>
        rw [if_pos rfl]
        intro s0 H0 C cl fp
        refine ((all s0 H0 C cl fp).2 hb.symm).run H3 (.of x3) (al3.mono x3) _ fun y H4 x4 ry => ?_
        have x5 : Evl.Ex Hs H4 := ((x.trans x2).trans x3).trans x4
        refine ⟨acc, x4 _ _ hacc3, ?_, Evl.Ex.mut x5 hD, _, upd_same, ?_, ?_⟩
        · exact Nat.lt_of_lt_of_le (Nat.lt_of_le_of_lt hlen hlt) (Evl.sz_of hl)
        · rw [List.length_append, List.length_singleton]
          omega
        · rw [tk, if_pos hb.symm, List.map_append]
          have eD : ExM M' H4 (upd H4 D (.lst (acc ++ [y]))) := fun a o h nm _ => by
            rw [upd_ne (fun e => nm (.inr e))]
            exact h
          exact (racc.mono (fun _ z => z) (.of ((x2.trans x3).trans x4))).append (.cons ry .nil) |>.mono (fun _ z => z) eD
      | false =>
        rw [if_neg Bool.false_ne_true]
        refine ⟨(x.trans x2).trans x3, acc, hacc3, by omega, ?_⟩
        rw [tk, if_neg (by rw [← hb]; exact Bool.false_ne_true), List.append_nil]
        exact racc.mono (fun _ z => z) (.of (x2.trans x3))
    intro s0 H0 C cl fp
    exact (all s0 H0 C cl fp).1.run H2 (ExM.refl H2) al3 _ fun H3 x3 => fin _ rfl H3 x3
  · have e2 : i = ds.length := by omega
    subst e2
    refine .inl ⟨wk.stop M' H' hm eM, q D acc H' (Evl.fresh_back xs hD) (xs.trans x) hacc ?_⟩
    rw [List.take_length] at racc
    exact racc.mono (fun _ z => .inl z) (ExM.refl _)
theorem fd_lcO {t : Tg} {elt : Expr} {ifs : List Expr} {scope : Scope} {own : List (Str × Nat)} (hc : X.calm = true) (hN : X.N.Nodup) (hi : Src X M tg iter σ H ds) (ok : BlkOk X.N X.env.scope scope own)
    (hg : ∀ s H C cl fp, PG (Cx.lc X s H scope C cl fp) tg (t.g X.K)) (hf : ∀ d ∈ ds, t.Fits d) (hw : ∀ M H d σ', t.Ok X.K M H d (wipe σ (own.map (·.2))) σ' → wipe σ' (own.map (·.2)) = wipe σ (own.map (·.2)))
    (p : PyData → Bool) (f : PyData → PyData) (hl : ds.length ≤ 100000)
    (body : ∀ s0 H0 C cl fp M' H' d σ', (∀ a, M a → M' a) → (∀ v e, Rp X.K M H v e → Rp X.K M' H' v e) → (∀ a o, ¬ M a → NT o → H a = some o → H' a = some o ∧ ¬ M' a) → d ∈ ds → t.Ok X.K M' H' d (wipe σ (own.map (·.2))) σ' →
      TsD (Cx.lc X s0 H0 scope C cl fp) M' ifs σ' H' (p d) ∧ (p d = true → PD (Cx.lc X s0 H0 scope C cl fp) M' elt σ' H' (f d)))
    (hs : ∀ x, foldedSetIterable iter X.env x = pure x := by intro _; rfl) : FD X M (.ListComp elt [⟨tg, iter, ifs, 0⟩] scope pos) σ H ((ds.filter p).map f) := by
  obtain ⟨wi, pi, run⟩ := lc_coreO hc hN hi ok hg hf hw p f hl body
  exact .mk fun H1 e1 al Q q => ⟨_, pe_lc hc hN pi ok hg (fun s0 H0 C cl fp => ⟨fun pins s σ H Q I h => wTs.pts.run pins s σ H Q I (h s0 H0 C cl fp)⟩) (fun s0 H0 C cl fp => ⟨fun pins s σ H Q I h => wE.pe.run pins s σ H Q I (h s0 H0 C cl fp)⟩) hs, run H1 e1 al Q q⟩
theorem fd_filterO {tst : Expr} {t : Tg} {elt : Expr} {scope : Scope} {own : List (Str × Nat)} (p : PyData → Bool) (f : PyData → PyData) (hc : X.calm = true) (hN : X.N.Nodup) (hi : Src X M tg iter σ H ds) (ok : BlkOk X.N X.env.scope scope own)
    (hg : ∀ s H C cl fp, PG (Cx.lc X s H scope C cl fp) tg (t.g X.K)) (hf : ∀ d ∈ ds, t.Fits d) (hw : ∀ M H d σ', t.Ok X.K M H d (wipe σ (own.map (·.2))) σ' → wipe σ' (own.map (·.2)) = wipe σ (own.map (·.2))) (hl : ds.length ≤ 100000)
    (body : ∀ s0 H0 C cl fp M' H' d σ', (∀ a, M a → M' a) → (∀ v e, Rp X.K M H v e → Rp X.K M' H' v e) → (∀ a o, ¬ M a → NT o → H a = some o → H' a = some o ∧ ¬ M' a) → d ∈ ds → t.Ok X.K M' H' d (wipe σ (own.map (·.2))) σ' → TD (Cx.lc X s0 H0 scope C cl fp) M' tst σ' H' (p d) ∧ PD (Cx.lc X s0 H0 scope C cl fp) M' elt σ' H' (f d))
    (hs : ∀ x, foldedSetIterable iter X.env x = pure x := by intro _; rfl) : FD X M (.ListComp elt [⟨tg, iter, [tst], 0⟩] scope pos) σ H ((ds.filter p).map f) :=
  fd_lcO hc hN hi ok hg hf hw p f hl (fun s0 H0 C cl fp M' H' d σ' hM lift kp hd hok => let ⟨h1, h2⟩ := body s0 H0 C cl fp M' H' d σ' hM lift kp hd hok; ⟨tsd_one h1, fun _ => h2⟩) hs
/-- the heap behind the collecting of xs: a new list that holds them -/
abbrev heapC (h : Heap) (xs : Array Value) : Heap := (h.push (seqObj "list" #[] 0)).update h.objs.size (Obj.mapSeq (· ++ xs))
/-- collect of a list or a tuple, with the heap that it leaves (wpAny_collect_seq says only that all stays) -/
theorem collect_seqX {P : Program} {w : World} {A : Around} {E : Value → Shared → Prop} {s : Shared} {Q : List Value → Shared → Prop} (it : Addr) {T : String} {o : Obj} {xs : Array Value} {n : Nat} (hT : T = "list" ∨ T = "tuple")
    (ho : s.heap.get? it = some o) (hc : o.cls = .type T) (hd : o.data = .seq xs n) (hsz : xs.size ≤ sizeLine) (q : Q xs.toList { s with heap := heapC s.heap xs }) : wpAny (model P w) A (collect (.ref it)) Q E s := by
  have empty : (s.heap.push (seqObj "list" #[] 0)).get? s.heap.objs.size = some (seqObj "list" #[] 0) := Heap.get?_push_size _ rfl
  have full : ∃ e, (heapC s.heap xs).get? s.heap.objs.size = some (seqObj "list" xs e) := by
    have e := get?_update_seq empty (· ++ xs)
    rw [show (#[] : Array Value) ++ xs = xs by simp] at e
    exact ⟨_, e⟩
  obtain ⟨e, full⟩ := full
  -- what is done with the full list
  have read : ∀ {k : Obj → Sem (List Value)}, (∀ m, k (seqObj "list" xs m) = pure xs.toList) → wpAny (model P w) A (load s.heap.objs.size >>= k) Q E { s with heap := heapC s.heap xs } := fun hk => wpAny_bind (wpAny_load full (by rw [hk]; exact wpAny_pure q))
  have fill := wpAny_extend_seq (prog := P) (w := w) (A := A) (s := { s with heap := s.heap.push (seqObj "list" #[] 0) }) (R := fun r z => r = .ok (.ret (.ref s.heap.objs.size)) ∧ z = { s with heap := heapC s.heap xs }) s.heap.objs.size it (.ref s.heap.objs.size) 0 hT empty (Heap.get?_push_of_some _ ho) hc hd ⟨rfl, rfl⟩ hsz
  unfold collect
  refine wpAny_bind (wpAny_runValue (codeAny_builtin PyProof.Rows.entry_proto_collect' ?_))
  refine wpAny_bind (wpAny_newList (wpAny_pure ⟨Code.quiet_builtin _ (by decide +kernel), codeAny_builtin PyProof.Rows.entry_list_iadd' (wpAny_mono fill (fun r z hz => ?_) fun e z hz => ?_)⟩) (by simp))
  · cases r with
    | done f =>
      obtain ⟨e1, rfl⟩ := hz
      cases e1
      exact read fun m => rfl
    | again c' =>
      refine ⟨hz.1, codeAny_mono hz.2 fun r u hr => ?_⟩
      obtain ⟨rfl, rfl⟩ := hr
      exact read fun m => rfl
  · exact absurd hz.1 (by simp)
/-! ### sorted(a list or a tuple of whole numbers, fewer than 64) -/
def rSortQ (K : PySem.W.Frag) : List V → Hp → VK → Prop := fun vs H Q => ∃ (a : Addr) (ns : List Int), vs = [.ref a] ∧ (SqL K H a (ns.map V.int) ∨ SqT K H a (ns.map V.int)) ∧ ns.length < 64 ∧
  ∀ (ns' : List Int) (p : Addr), ns'.Perm ns → ns'.Pairwise (· ≤ ·) → H p = none → Q (.ref p) (upd H p (.lst (ns'.map V.int)))
theorem cr_sortQ : CallR X (.builtin "sorted") (rSortQ X.K) := by
  intro pins s σ H vs us Q J r h
  obtain ⟨a, ns, rfl, hs, h64, q⟩ := h
  rw [Vals.ref1 r]
  have core : ∀ (T : String) (its : List Value) (o : Obj) (n : Nat), (T = "list" ∨ T = "tuple") → Vals (ns.map V.int) its → s.heap.get? a = some o → o.cls = .type T → o.data = .seq its.toArray n →
      wpAny (model X.prog X.w) X.A (call (.builtin "sorted") [.ref a]) (EP X pins σ Q) X.xe s := by
    intro T its o n hT rv ho hcl hd
    have hI : IntsAre its ns := rv.ints
    have hln : its.length = ns.length := by rw [← rv.length, List.length_map]
    refine Calls.call_function_entry PyProof.Rows.kind_sorted PyProof.Rows.plain_sorted PyProof.Rows.entry_sorted (PyProof.Rows.args_sorted1 (.ref a)) ?_
    unfold Builtin.«sorted»
    have hzz : its.toArray.size ≤ sizeLine := by rw [List.size_toArray, hln, sizeLine_eq]; omega
    refine wpAny_bind (m := checkCount "sorted" 1 1 _) (wpAny_pure (wpAny_bind (collect_seqX a hT ho hcl hd hzz ?_)))
    rw [List.toList_toArray]
    refine wpAny_bind (wpAny_newList ?_ (by rw [← List.size_toArray]; exact hzz))
    generalize hh' : heapC s.heap its.toArray = h'
    have hsz : h'.objs.size = s.heap.objs.size + 1 := by rw [← hh', Heap.size_update, Heap.size_push]
    have kp : ∀ b o, s.heap.get? b = some o → h'.get? b = some o := fun b o e => by
      rw [← hh', Heap.get?_update_ne _ _ _ _ (Nat.ne_of_lt (Heap.lt_size e))]
      exact Heap.get?_push_of_some _ e
    have hoL : (h'.push (seqObj "list" its.toArray 0)).get? h'.objs.size = some (seqObj "list" its.toArray 0) := Heap.get?_push_size _ rfl
    refine wpAny_bind (wpAny_holding (wpAny_call_entry PyProof.Rows.slot_list_sort ⟨_, hoL, rfl⟩ PyProof.Rows.entry_list_sort (list_sort_tree hoL hI (by rw [hln]; exact h64) fun out ns' k1 k2 k3 => ⟨_, rfl, ?_⟩) (PyProof.Rows.args_list_sort _)))
    obtain ⟨c, hc⟩ := sortedHeap_at (vs := its) (out := out) hoL
    have le : s.heap.objs.size ≤ h'.objs.size := by rw [hsz]; exact Nat.le_succ _
    refine wpAny_pure ⟨_, rfl, .ref _, upd H h'.objs.size (.lst (ns'.map V.int)), ?_, rfl, q ns' _ k2 k3 (J.hok.fresh le)⟩
    refine J.laid (t' := s.toks) (fun b u e => ?_) le ⟨?_, out.toList, c, vals_of_ints k1, hc⟩
    · have e := kp b u e
      have hlt := Heap.lt_size e
      show (sortedHeap (h'.push (seqObj "list" its.toArray 0)) h'.objs.size its out).get? b = some u
      rw [sortedHeap_old (Nat.ne_of_lt hlt) (by rw [Heap.size_push]; exact Nat.lt_succ_of_lt hlt)]
      exact Heap.get?_push_of_some _ e
    · rw [List.length_map, k2.length_eq, sizeLine_eq]
      omega
  rcases hs with hs | hs
  · obtain ⟨its, rv, hl, hz⟩ := J.list hs
    obtain ⟨o, ho, hcl, n, hd⟩ := hl.isList
    exact core "list" its o n (.inl rfl) rv ho hcl hd
  · obtain ⟨its, rv, hl, hz⟩ := J.tuple hs
    obtain ⟨o, ho, hcl, n, hd⟩ := hl
    exact core "tuple" its o n (.inr rfl) rv ho hcl hd
end
end GV

namespace GV
open PySem PySem.Spec PyProof.Rows L2
section
variable {X : Cx} {M : Addr → Prop} {σ : St} {H H' : Hp} {a b c e tg iter : Expr} {da db d : PyData} {pos : Pos} {es : List Expr} {ds : List PyData} {tp : Bool} {D : Ends}
theorem two_sorted {x y : Int} {l : List Int} (h : l.Perm [x, y]) (s : l.Pairwise (· ≤ ·)) : l = [min x y, max x y] := by
  have hl := h.length_eq
  match l, hl with
  | [u, v], _ =>
    have hs : u ≤ v := by
      have := List.pairwise_cons.mp s
      exact this.1 v (by simp)
    have h1 : u ∈ [x, y] := h.mem_iff.mp (by simp)
    have h2 : v ∈ [x, y] := h.mem_iff.mp (by simp)
    have h3 : x ∈ [u, v] := h.mem_iff.mpr (by simp)
    have h4 : y ∈ [u, v] := h.mem_iff.mpr (by simp)
    simp only [List.mem_cons, List.not_mem_nil, or_false] at h1 h2 h3 h4
    have e1 : u = min x y := by omega
    have e2 : v = max x y := by omega
    rw [e1, e2]
theorem fd_sort2 {p : Pos} {x y : Int} (hg : Gl X "sorted") (hm : X.mg "sorted" = none) (ha : PD X M a σ H (sqD tp [.int x, .int y])) (hs : starEach (a :: []) X.env = (false, eval a X.env) :: starEach [] X.env := by rfl) (hpl : (backTo pos (starEach [] X.env)).any (·.1) = false := by rfl) :
    FD X M (.Call (.Name "sorted" p) [a] [] pos) σ H [.int (min x y), .int (max x y)] := by
  refine fd_callB cr_sortQ hg hm PyProof.Rows.boot_sorted (ad_cons ha ad_nil hs) (fun vs H1 r al Q q => ?_) (by decide) (by decide) hs hpl
  obtain ⟨v, rfl, r1⟩ := rpa1 r
  have fin : ∀ (ns' : List Int) (p : Addr), ns'.Perm [x, y] → ns'.Pairwise (· ≤ ·) → H1 p = none → Q (.ref p) (upd H1 p (.lst (ns'.map V.int))) := fun ns' p hp hs hn => by
    rw [two_sorted hp hs]
    exact q p _ _ hn (Evl.Ex.new hn) upd_same (.cons (.int _) (.cons (.int _) .nil))
  cases tp with
  | true =>
    cases r1 with
    | tup m hs rs =>
      obtain ⟨v1, v2, rfl, q1, q2⟩ := rpa2 rs
      cases q1
      cases q2
      exact ⟨_, [x, y], rfl, .inr (.inl hs), (by show 2 < 64; decide), fin⟩
  | false =>
    cases r1 with
    | lst m hs rs =>
      obtain ⟨v1, v2, rfl, q1, q2⟩ := rpa2 rs
      cases q1
      cases q2
      exact ⟨_, [x, y], rfl, .inl (.inl hs), (by show 2 < 64; decide), fin⟩
/-- x, y = a list of two -/
theorem s_unp2 {i j kt : Nat} {x y : Str} {px py pt : Pos} (al : Alive M H) (hc : X.calm = true) (h : FD X M e σ H [da, db]) (hx : PG X (.Name x px) (gName i)) (hy : PG X (.Name y py) (gName j))
    (q : ∀ v w H2, Evl.Ex H H2 → Rp X.K M H2 v da → Rp X.K M H2 w db → D.nx ((σ.set i (some v)).set j (some w)) H2)
    (hn : (assignEach [.Name x px, .Name y py] X.env).length = 2 := by rfl) (hst : (assignEach [.Name x px, .Name y py] X.env).findIdx? (·.1) = none := by rfl) (hs : swapsWithSole [.Tuple [.Name x px, .Name y py] kt pt] e pos.line X.env = pure false := by rfl) (hw : swappedStores [.Tuple [.Name x px, .Name y py] kt pt] e X.env = pure none := by rfl)
    (h1 : (assignEach [.Tuple [.Name x px, .Name y py] kt pt] X.env).map (·.2) = [assign (.Tuple [.Name x px, .Name y py] kt pt) X.env] := by rfl) : wS X (.Assign [.Tuple [.Name x px, .Name y py] kt pt] e pos) D σ H :=
  ⟨_, ps_asg wE.pe (pg_unl hc (pgs_cons hx (pgs_cons hy pgs_nil)) hn hst) hs hw h1, h.run H (ExM.refl H) al _ fun p ws H2 hp x2 h2 rs => by
    obtain ⟨v, w, rfl, r1, r2⟩ := rpa2 rs
    exact ⟨p, _, rfl, .inl (.inl h2), rfl, v, _, rfl, w, _, rfl, rfl, q v w H2 x2 r1 r2⟩⟩
theorem pd_catT {es fs : List PyData} (ha : PD X M a σ H (.tuple es)) (hb : PD X M b σ H (.tuple fs)) (hl : es.length + fs.length ≤ 100000) : PD X M (.BinOp a .Add b pos) σ H (.tuple (es ++ fs)) := .mk fun H1 e1 al Q q =>
  ⟨_, pe_op op_catA wE.pe wE.pe, ha.run H1 e1 al _ fun x H2 x2 rx => hb.run H2 (e1.trans (.of x2)) (al.mono x2) _ fun y H3 x3 ry => by
    have rx' := rx.mono (fun _ z => z) (.of x3)
    have al3 := (al.mono x2).mono x3
    cases rx' with
    | tup m1 h1 r1 =>
      cases ry with
      | tup m2 h2 r2 =>
        refine ⟨_, _, _, _, rfl, rfl, .inl h1, .inl h2, by rw [r1.length, r2.length]; exact Evl.sz_of hl, fun e => ?_, fun _ e => ?_, fun _ _ p hp => ?_⟩
        · subst e
          cases r1
          exact q _ _ (x2.trans x3) (.tup m2 h2 r2)
        · subst e
          cases r2
          exact q _ _ (x2.trans x3) (.tup m1 h1 (by rw [List.append_nil]; exact r1))
        · exact q _ _ ((x2.trans x3).trans (Evl.Ex.new hp)) (.tup (al3.fresh hp) (.inl upd_same) ((r1.append r2).mono (fun _ z => z) (.of (Evl.Ex.new hp))))⟩
/-! ### x in a list of whole numbers -/
/-! ### is True, is False -/
/-! ### len(set(..)) -/
def dd : List Int → List Int
  | [] => []
  | x :: t => if x ∈ t then dd t else x :: dd t
theorem mem_dd {l : List Int} {k : Int} : k ∈ dd l ↔ k ∈ l := by
  induction l with
  | nil => exact Iff.rfl
  | cons x t ih =>
    unfold dd
    split
    · rename_i h
      rw [ih, List.mem_cons]
      exact ⟨.inr, fun z => z.elim (fun e => e ▸ h) id⟩
    · rw [List.mem_cons, List.mem_cons, ih]
theorem nd_dd (l : List Int) : (dd l).Nodup := by
  induction l with
  | nil => exact List.nodup_nil
  | cons x t ih =>
    unfold dd
    split
    · exact ih
    · rename_i h
      exact List.nodup_cons.mpr ⟨fun z => h (mem_dd.mp z), ih⟩
theorem dd_le (l : List Int) : (dd l).length ≤ l.length := by
  induction l with
  | nil => exact Nat.le_refl _
  | cons x t ih =>
    unfold dd
    split
    · exact Nat.le_succ_of_le ih
    · exact Nat.succ_le_succ ih
theorem dd_eq {l : List Int} : (dd l).length = l.length ↔ l.Nodup := by
  induction l with
  | nil => exact ⟨fun _ => List.nodup_nil, fun _ => rfl⟩
  | cons x t ih =>
    unfold dd
    rw [List.nodup_cons]
    split
    · rename_i h
      constructor
      · intro e
        have := dd_le t
        rw [List.length_cons] at e
        omega
      · exact fun z => absurd h z.1
    · rename_i h
      rw [List.length_cons, List.length_cons]
      exact ⟨fun e => ⟨h, ih.mp (by omega)⟩, fun z => by rw [ih.mpr z.2]⟩
theorem pd_lenSet {p p2 q2 : Pos} {ns : List Int} (hc : X.calm = true) (hg : Gl X "len") (hm : X.mg "len" = none) (hg2 : Gl X "set") (hm2 : X.mg "set" = none) (ha : PD X M a σ H (sqD tp (ns.map PyData.int))) (hl : ns.length < 64)
    (na : starEach [a] X.env = (false, eval a X.env) :: starEach [] X.env := by rfl) : PD X M (.Call (.Name "len" p) [.Call (.Name "set" p2) [a] [] q2] [] pos) σ H (.int ((dd ns).length : Nat)) := .mk fun H1 e1 al Q q => by
  refine ⟨fun σ H Q => wE X a σ H fun x H1 => ∃ l, x = V.ref l ∧ (SqL X.K H1 l (ns.map V.int) ∨ SqT X.K H1 l (ns.map V.int)) ∧ Q (.int ((dd ns).length : Nat)) H1, ⟨fun pins s σ H Q J h => ?_⟩, ?_⟩
  · refine Call_ (ld_blt J hg hm PySem.boot_len (PyProof.Rows.callWith_builtin1 (PyProof.Rows.args_cons ?_ rfl) rfl rfl))
    refine Call_ (ld_blt J hg2 hm2 PyProof.Rows.boot_set (PyProof.Rows.callWith_type1 (PyProof.Rows.args_cons (thn (wE.pe.run pins s σ H _ J h) fun v s1 ⟨x, H1, J1, r1, l, e2, hq, q1⟩ => PyProof.Rows.args_nil ?_) na) na rfl))
    subst e2
    cases r1
    have fin : ∀ (g : Heap) (tk c : Nat), SetR X.w g s1.heap.objs.size (fun j => decide (j ∈ ns)) c → c ≤ ns.length → (∀ b o, s1.heap.get? b = some o → g.get? b = some o) →
        wpAny (model X.prog X.w) X.A (spliced (backTo pos (starEach [] X.env))) (fun vs s₂ => wpAny (model X.prog X.w) X.A (call (.builtin "len") (Value.ref s1.heap.objs.size :: vs)) (EP X pins σ Q) X.xe s₂) X.xe { s1 with heap := g, toks := tk } := by
      intro g tk c R hcl k
      refine PyProof.Rows.args_nil ?_
      obtain ⟨o, es, ep, t, ho, hex, hd, _, hnd, hmem, hsz, hf, hn, _⟩ := R
      have J2 : Inv X pins σ H1 { s1 with heap := g, toks := tk } := J1.kept k
      have hc' : c = (dd ns).length := by
        have pm : (es.toList.map keyOf).Perm (dd ns) := (List.perm_ext_iff_of_nodup hnd (nd_dd ns)).mpr fun k => by
          rw [← hmem k, mem_dd]
          exact decide_eq_true_iff
        have := pm.length_eq
        rw [List.length_map, Array.length_toList, hn] at this
        exact this
      refine call_len_set ho hex hd hf (by rw [hn] <;> omega) ⟨.int ((dd ns).length : Nat), H1, J2.tok _, ⟨_, by rw [hn, hc']⟩, q1⟩
    rcases hq with hq | hq
    · obtain ⟨its, r, pl, hz⟩ := J1.list hq
      exact set_ofL ns (J1.ok.hd hc) pl.isList (by simpa using r.ints) (by unfold scanBound; omega) fun g tk c R hcl k => fin g tk c R hcl k
    · obtain ⟨its, r, pl, hz⟩ := J1.tuple hq
      exact call_set_tupI ns (J1.ok.hd hc) pl (by simpa using r.ints) (by unfold scanBound; omega) fun g tk c R hcl k => fin g tk c R hcl k
  · refine ha.run H1 e1 al _ fun v H2 x2 r => ?_
    cases tp with
    | true =>
      cases r with
      | tup m hr rs => exact ⟨_, rfl, .inr (.inl (by rw [← rs.of_ints]; exact hr)), q _ H2 x2 (.int _)⟩
    | false =>
      cases r with
      | lst m hr rs => exact ⟨_, rfl, .inl (.inl (by rw [← rs.of_ints]; exact hr)), q _ H2 x2 (.int _)⟩
end
end GV

namespace TK
open PySem PySem.Spec PyProof.Rows L2 GV
section
variable {P : Program} {w : World} {K : PySem.W.Frag} {mg : Str → Option Value} {base : Heap}
abbrev intsD (ns : List Int) : PyData := .list (ns.map PyData.int)
abbrev tintsD (ns : List Int) : PyData := .tuple (ns.map PyData.int)
theorem kit_list (d : PyData) : kitB (tyD d) "list" = some (match d with | .list _ => true | _ => false) := by
  cases d with
  | none => exact (by decide +kernel : kitB "NoneType" "list" = some false)
  | bool _ => exact (by decide +kernel : kitB "bool" "list" = some false)
  | int _ => exact (by decide +kernel : kitB "int" "list" = some false)
  | str _ => exact (by decide +kernel : kitB "str" "list" = some false)
  | list _ => exact (by decide +kernel : kitB "list" "list" = some true)
  | tuple _ => exact (by decide +kernel : kitB "tuple" "list" = some false)
  | dict _ => exact (by decide +kernel : kitB "dict" "list" = some false)
theorem kit_tup (ds : List PyData) : kitB (tyD (.tuple ds)) "tuple" = some true := (by decide +kernel : kitB "tuple" "tuple" = some true)
theorem get_i {ns : List Int} {i : Nat} (h : i < ns.length) : ∃ z, ns[i]? = some z := ⟨_, List.getElem?_eq_getElem h⟩
def isSeqD : PyData → Bool
  | .list _ => true
  | .tuple _ => true
  | _ => false
def partsD : PyData → List PyData
  | .list ds => ds
  | .tuple ds => ds
  | _ => []
def isListD : PyData → Bool
  | .list _ => true
  | _ => false
def isTupD : PyData → Bool
  | .tuple _ => true
  | _ => false
theorem kit_l (d : PyData) : kitB (tyD d) "list" = some (isListD d) := by
  cases d with
  | none => exact (by decide +kernel : kitB "NoneType" "list" = some false)
  | bool _ => exact (by decide +kernel : kitB "bool" "list" = some false)
  | int _ => exact (by decide +kernel : kitB "int" "list" = some false)
  | str _ => exact (by decide +kernel : kitB "str" "list" = some false)
  | list _ => exact (by decide +kernel : kitB "list" "list" = some true)
  | tuple _ => exact (by decide +kernel : kitB "tuple" "list" = some false)
  | dict _ => exact (by decide +kernel : kitB "dict" "list" = some false)
theorem kit_t (d : PyData) : kitB (tyD d) "tuple" = some (isTupD d) := by
  cases d with
  | none => exact (by decide +kernel : kitB "NoneType" "tuple" = some false)
  | bool _ => exact (by decide +kernel : kitB "bool" "tuple" = some false)
  | int _ => exact (by decide +kernel : kitB "int" "tuple" = some false)
  | str _ => exact (by decide +kernel : kitB "str" "tuple" = some false)
  | list _ => exact (by decide +kernel : kitB "list" "tuple" = some false)
  | tuple _ => exact (by decide +kernel : kitB "tuple" "tuple" = some true)
  | dict _ => exact (by decide +kernel : kitB "dict" "tuple" = some false)
def bagB (d : PyData) : Bool := isSeqD d && decide ((partsD d).length ≤ 40) && (partsD d).all isWeightD
def R_bag (ds : List PyData) (d : PyData) : Prop := ∃ a, ds = [a] ∧ (partsD a).length ≤ 1000 ∧ d = .bool (bagB a)
theorem cl_is_bag_row {f : Addr} {fd : FuncData} {t : Tok} (F : At K mg "is_bag_row" s_is_bag_row f fd) (nb : NoB mg) (c1 : Cl P w K mg base CX0 3 "is_weight" (PureR K R_is_weight)) (gS : mg "MOST_STONES" = some (.int 40 t)) : Cl P w K mg base CX0 4 "is_bag_row" (PureR K R_bag) := by
  refine cl_pure F sc_is_bag_row (F.fn.binds fun _ _ _ _ _ _ us hl => match us, hl with | [_], _ => rfl) (fun ds d h => ?_) (fun X cdv A outer s H Q E M vs ds d hX hr al r h q => ?_)
  · obtain ⟨a, rfl, _⟩ := h
    rfl
  · obtain ⟨a, rfl, hlen, rfl⟩ := h
    obtain ⟨v, rfl, r1⟩ := rpa1 r
    subst hX
    -- the parts are walked
    have last : ∀ H2, Evl.Ex H H2 → isSeqD a = true → (∀ {X : Cx} {σ' : L2.St} {tg e}, PD X M e σ' H2 a → Src X M tg e σ' H2 (partsD a)) → (partsD a).length ≤ 40 → wB (cxOf CX0 P w K mg base n_is_bag_row "is_bag_row" (defScope s_is_bag_row) f cdv A outer s H E).nox ((defBody s_is_bag_row).drop 1) { nx := fun _ H' => Q .non H', rt := Q } (L2.start n_is_bag_row [v]) H2 := by
      intro H2 x2 hq src hl
      have r2 := r1.mono (fun _ z => z) (ExM.of x2)
      refine b_cons (s_ret (al.mono x2) (PD.is (pd_callB (cr_all rfl) rfl nb.all PyProof.Rows.boot_all (ad_cons (PD.is (d' := .list (((partsD a).map isWeightD).map PyData.bool)) (FD.pd
        (fd_map (t := .one 1) (own := [("item", 1)]) (fun d => .bool (isWeightD d)) rfl sc_is_bag_row.nd (src (nm 0 r2)) (blkOk_by (N := n_is_bag_row) (sc := defScope s_is_bag_row) (by decide +kernel)) (fun _ _ _ _ _ => pg_name (i := 1) sc_is_bag_row.nd rfl (.inl rfl)) (fun _ _ => trivial) ?_ ?_ ?_)) ?_) ad_nil) rn_all) ?_) fun v H3 x3 rv => q v H3 (x2.trans x3) rv)
      · rintro M H d σ' ⟨v, _, rfl⟩
        rfl
      · omega
      · rintro s0 H0 C cl fp M' H' d σ' hM lift hd ⟨v, rv, rfl⟩
        exact pd_callC c1 hr (by decide) rfl (ad_cons (nm 1 rv) ad_nil) ⟨d, rfl, rfl⟩
      · rw [List.map_map]
        rfl
      · unfold bagB
        rw [hq, decide_eq_true hl, Bool.true_and, Bool.true_and, List.all_map]
        rfl
    have lenA : ∀ {n}, isSeqD a = true → n = (partsD a).length → lenD a = some n := fun hq hn => by
      cases a <;> first | (cases hq; done) | (subst hn; rfl)
    refine b_cons (s_if (k := !(isListD a || isTupD a) || decide ((40 : Int) < ((partsD a).length : Nat))) al (WD.td (wd_or (td_not (td_val (pd_isi2 rfl nb.isinstance rfl nb.list PyProof.Rows.boot_list rfl nb.tuple PyProof.Rows.boot_tuple (nm 0 r1) (kit_l a) (kit_t a)))) fun hq => wd_or1 (td_gt (pd_len nb rfl (nm 0 r1) (lenA ?_ rfl)) (pd_globI rfl gS)))) (fun k H2 x2 => ?_) (fun k H2 x2 => ?_))
    · cases a <;> first | rfl | (cases hq; done)
    · have hb : bagB a = false := by
        unfold bagB
        cases a <;> first | rfl | skip
        all_goals
          simp only [isListD, isTupD, Bool.or_true, Bool.true_or, Bool.not_true, Bool.false_or, decide_eq_true_eq] at k
          rw [decide_eq_false (by omega), Bool.and_false, Bool.false_and]
      exact b_cons (s_ret (al.mono x2) (PD.is pd_bl (by rw [hb])) fun v H3 x3 rv => q v H3 (x2.trans x3) rv)
    · have hs : isSeqD a = true ∧ (partsD a).length ≤ 40 := by
        cases a <;> simp [isListD, isTupD] at k <;> exact ⟨rfl, by omega⟩
      refine b_nil (last H2 x2 hs.1 (fun h => ?_) hs.2)
      cases a with
      | list ds => exact src_list h
      | tuple ds => exact src_tup h
      | _ => cases hs.1
end
end TK

namespace TK
open PySem PySem.Spec PyProof.Rows L2 GV
section
variable {P : Program} {w : World} {K : PySem.W.Frag} {mg : Str → Option Value} {base : Heap}
abbrev potL (r c k : Int) : HO := .lst [.int r, .int c, .int k]
def ExB (b : Addr) (H H' : Hp) : Prop := ∀ a o, a ≠ b → H a = some o → H' a = some o
theorem ExB.of {b : Addr} {H H' : Hp} (e : Evl.Ex H H') : ExB b H H' := fun a o _ h => e a o h
theorem ExB.trans {b : Addr} {H H1 H2 : Hp} (e : ExB b H H1) (f : ExB b H1 H2) : ExB b H H2 := fun a o n h => f a o n (e a o n h)
theorem ExB.upd {b : Addr} {H : Hp} {o : HO} : ExB b H (upd H b o) := fun a u n h => by
  rw [upd_ne n]
  exact h
def spTake : Sp := fun vs H Q _ => ∃ (b : Addr) (n r c k : Int), vs = [.ref b, .int n] ∧ H b = some (potL r c k) ∧ 0 < n ∧ n.natAbs < 2 ^ 8000 ∧ ∀ z r' k' H', 0 ≤ z → z < n → ExB b H H' → H' b = some (potL r' c k') → Q (.int z) H'
theorem emod_lt' (a : Int) {m : Int} (h : 0 < m) : 0 ≤ a % m ∧ a % m < m := ⟨Int.emod_nonneg _ (by omega), Int.emod_lt_of_pos _ h⟩
theorem small_mul {i : Int} (h0 : 0 ≤ i) (h1 : i < 2147483648) : CMul i i := .inl ⟨by omega, by omega⟩
end
end TK

/-! A list of lambdas, given to a name: their closures are pinned for the rest of the block. -/
namespace GV
open PySem PySem.Spec PyProof.Rows L2
structure Lm where
  ps : Arguments
  bd : Expr
  sc : Scope
  po : Pos
def Lm.e (l : Lm) : Expr := .Lambda l.ps l.bd l.sc l.po
def lmsOf : List Expr → List Lm
  | .Lambda a b c d :: es => ⟨a, b, c, d⟩ :: lmsOf es
  | _ => []
abbrev cloO (X : Cx) (l : Lm) (pm : Value) (c' : Addr) (ctv : Value) : Obj := PySem.W.kla_obj "<lambda>" (X.env.qual ++ "<lambda>") l.ps l.bd l.sc (cloFrom X.env.cells l.sc.names []) pm c' ctv
abbrev qlam (X : Cx) : Str := X.env.qual ++ "<lambda>"
/-- the closure of l stands at f -/
def CloAt (X : Cx) (pn : List (Addr × Obj)) (H : Hp) (l : Lm) (f : Addr) : Prop := ∃ pm c' ctv, (f, cloO X l pm c' ctv) ∈ pn ∧ H c' = some (LamX.CodeO c' (qlam X))
structure LmOk (X : Cx) (l : Lm) : Prop where
  sc : LamX.LamS X.env.scope l.sc
  df : defaultsOf l.ps X.env = ([], [])
  bi : ∀ (q : Str) (cl : List (Str × Addr)) (pm cv ctv : Value), bindArgs (PySem.W.kla_fn "<lambda>" q l.ps l.bd l.sc cl pm cv ctv) ⟨[], []⟩ = pure []
section
variable {X : Cx} {pins : List (Addr × Obj)} {σ : St} {H : Hp} {s : Shared}
/-- a walk over a list of whatever -/
theorem s_forL {e : Expr} {pos p2 : Pos} {slot : Nat} {x : Str} {body : List Stmt} {D : Ends} (hp : PassesOwn (model X.prog X.w) X.A X.env X.xe) (hc : X.calm = true) (hN : X.N.Nodup) (hx : X.N[slot]? = some x) (hl : Loc X.env.scope x)
    (h : wE X e σ H fun v H1 => ∃ (l : Addr) (xs : List V) (J : Nat → St → Hp → Prop), v = .ref l ∧ J 0 σ H1 ∧ (∀ i σ' H', J i σ' H' → H' l = some (.lst xs)) ∧
      (∀ i σ' H' y, xs[i]? = some y → J i σ' H' → wB X body { D with nx := J (i + 1), ct := J (i + 1), bk := D.nx } (σ'.set slot (some y)) H') ∧ ∀ σ' H', J xs.length σ' H' → D.nx σ' H')
    (hf : ∀ x, foldedSetIterable e X.env x = pure x := by intro _; rfl) (hfn : X.fn x = true ∨ X.env.scope.names.lookup x = some .local := by first | exact .inl rfl | exact .inr rfl | assumption) : wS X (.For (.Name x p2) e body [] pos) D σ H := by
  refine ⟨_, ps_for hp hc (pi_list wE.pe) (pg_name hN hx hl hfn) wB.ps hf, wE.weak h ?_⟩
  rintro v H1 ⟨l, xs, J, rfl, h0, hk, ht, hd⟩
  refine ⟨l, rfl, ⟨xs, .inl (.inl (hk _ _ _ h0))⟩, fun i m σ' H' => m = xs.length - i ∧ i ≤ xs.length ∧ J i σ' H', ⟨xs.length, rfl, Nat.zero_le _, h0⟩, ?_⟩
  rintro i m σ' H' ⟨rfl, hi', j⟩
  have hl := hk _ _ _ j
  by_cases hlt : i < xs.length
  · refine .inr ⟨⟨xs, xs[i], .inl (.inl hl), List.getElem?_eq_getElem hlt⟩, J (i + 1), fun σ2 H2 j2 => ⟨xs.length - (i + 1), by omega, rfl, hlt, j2⟩, fun y H2 q => ?_⟩
    obtain ⟨rfl, q⟩ := q
    exact ht i σ' _ y (q xs (.inl (.inl hl))) j
  · have e2 : i = xs.length := by omega
    subst e2
    exact .inl ⟨⟨xs, .inl (.inl hl), Nat.le_refl _⟩, hd σ' H' j⟩
end
end GV

/-! min(e, key=lambda a: ..), e a list of whole numbers: the first of those with the least key -/
namespace GV
open PySem PySem.Spec PyProof.Rows L2
/-- a list's iterator at turn i, whatever the tokens of its whole numbers -/
def ItS (I l : Addr) (ns : List Int) (i : Nat) (s : Shared) : Prop := s.heap.IsListIter I l i ∧ ∃ xs : Array Value, s.heap.IsList l xs ∧ IntsAre xs.toList ns
def IntP (ns : List Int) (i : Nat) (v : Value) : Prop := ∃ t, v = .int (ns.getD i 0) t
theorem walk_ints {prog : Program} {w : World} {A : Around} (hh : A.handled = none) (I l : Addr) (ne : l ≠ I) (ns : List Int) : WalksS prog w A I [I, l] [I] (fun a b => b = a) ns.length (IntP ns) (ItS I l ns) where
  sub := fun b hb => by
    rw [List.mem_singleton.mp hb]
    exact List.mem_cons_self ..
  grefl := fun _ => rfl
  gtrans := fun _ _ _ p q => q.trans p
  frame := fun i s h' tk ⟨si, xs, sl, sn⟩ _ hk => by
    obtain ⟨o1, a1, r1⟩ := si
    obtain ⟨o2, a2, r2⟩ := sl
    exact ⟨⟨o1, hk I (by simp) o1 a1, r1⟩, xs, ⟨o2, hk l (by simp) o2 a2, r2⟩, sn⟩
  item := fun i s Q E hi ⟨si, xs, sl, sn⟩ hQ => by
    have hx : i < xs.size := by
      rw [← Array.length_toList, IntsAre.length sn]
      exact hi
    obtain ⟨t, e⟩ := IntsAre.int_at sn i xs[i] (by simp [hx])
    refine wpAny_pyNext_list_item si sl (x := xs[i]) (by simp [hx]) fun g si' sb => ?_
    refine hQ _ { s with heap := g } ⟨t, ?_⟩ ⟨si', xs, sl.extBut sb.extBut ne, sn⟩ ⟨fun b o nb q => sb.extBut b o (fun z => nb (by simp [z])) q, rfl, rfl, rfl, Nat.le_refl _⟩
    rw [e]
  done := fun s Q E ⟨si, xs, sl, sn⟩ hQ => by
    have hx : xs[ns.length]? = none := by
      rw [← IntsAre.length sn, Array.length_toList]
      simp
    exact wpAny_pyNext_list_end hh si sl hx fun g xb => hQ { s with heap := g } ⟨fun b o nb q => xb b o (fun z => nb (by simp [z])) q, rfl, rfl, rfl, Nat.le_refl _⟩
  self := fun i s Q E st q => wpAny_pyIter_listiter st.1 q
/-- a lambda of one parameter: captured names, globals, and the parameter -/
structure Lam1S (sc scope : Scope) (a : Str) : Prop where
  kind : scope.kind = .function
  co : scope.isCoroutine = false
  gen : scope.isGenerator = false
  cell : ∀ y ∈ scope.names, y.2 ≠ .cell
  loc : ∀ y ∈ scope.names, y.2 = .local → y.1 = a
  par : scope.names.lookup a = some .local
  free : ∀ y ∈ scope.names, y.2 = .free → sc.names.lookup y.1 = some .cell ∨ sc.names.lookup y.1 = some .free
def lam1B (sc scope : Scope) (a : Str) : Bool :=
  decide (scope.kind = .function) && !scope.isCoroutine && !scope.isGenerator && decide (scope.names.lookup a = some .local) && scope.names.all fun y => !decide (y.2 = .cell) && (!decide (y.2 = .local) || decide (y.1 = a)) && (!decide (y.2 = .free) || (decide (sc.names.lookup y.1 = some .cell) || decide (sc.names.lookup y.1 = some .free)))
theorem lam1_by {sc scope : Scope} {a : Str} (h : lam1B sc scope a = true) : Lam1S sc scope a := by
  unfold lam1B at h
  simp only [Bool.and_eq_true, Bool.or_eq_true, Bool.not_eq_true', decide_eq_true_eq, decide_eq_false_iff_not, List.all_eq_true] at h
  obtain ⟨⟨⟨⟨k1, k2⟩, k3⟩, k4⟩, k5⟩ := h
  exact ⟨k1, k2, k3, fun y m => (k5 y m).1.1, fun y m e => (k5 y m).1.2.resolve_left (fun z => z e), k4, fun y m e => (k5 y m).2.resolve_left (fun z => z e)⟩
section
variable {X : Cx} {pins : List (Addr × Obj)} {σ : L2.St} {H HZ : Hp} {s s1 : Shared}
theorem Lam1S.has {a : Str} {scope : Scope} (L : Lam1S X.env.scope scope a) (ok : X.Ok) : ∀ y ∈ scope.names, y.2 = .free → ∃ c, X.env.cells.lookup y.1 = some c := fun y m e => (L.free y m e).elim (fun z => ok.has _ (.inl z)) fun z => ok.has _ (.inr z)
/-- the lambda's body is entered: its parameter stands in slot i -/
theorem lam1_start {A : Around} {outer : List Env} {E : XK} {scope : Scope} {f c' : Addr} {g : Heap} {tk i : Nat} {a : Str} {v : V} {u : Value} (I : Inv X pins σ H s) (L : Lam1S X.env.scope scope a) (hN : X.N.Nodup) (hi : X.N[i]? = some a) (rv : RelV v u) (e0 : Env0 X.prog X.w X.K X.mg X.base A outer s1 HZ) (hd : A.handled = none)
    (un : Un (frs X.stack) [] H HZ s.heap s1.heap) (hns : g.Ns s1.heap.objs.size fun y => ([(a, u)] : List (Str × Value)).reverse.lookup y) (kp : ∀ b o, s1.heap.get? b = some o → g.get? b = some o) :
    Inv (LamX.lamCx X A outer s1 HZ E scope f c') [] (σ.set i (some v)) HZ { s1 with heap := g, toks := tk } := by
  have has := L.has I.ok
  have up : ∀ {y c}, (cloFrom X.env.cells scope.names []).lookup y = some c → X.env.cells.lookup y = some c := fun {y c} e => by
    rcases cloFrom_mem (PySem.mem_of_lookup e) with z | ⟨z1, z2⟩
    · cases z
    · obtain ⟨d, hd⟩ := has _ z1 rfl
      have hd : X.env.cells.lookup y = some d := hd
      rw [z2, hd] <;> rfl
  have low : ∀ {y}, scope.names.lookup y = some .free → ∃ c, (cloFrom X.env.cells scope.names []).lookup y = some c := fun {y} e => mem_lookup (cloFrom_has (cells := X.env.cells) (acc := []) (show (y, NameKind.free) ∈ scope.names from PySem.mem_of_lookup e))
  have ck : ∀ {c : Addr} {z : Option Value}, H c = none → s.heap.IsCell c z → g.IsCell c z := fun {c z} n ⟨o, ho, hz⟩ => by
    obtain ⟨sl, q⟩ := un.any ho n (by simp)
    exact ⟨_, kp _ _ q, hz⟩
  have nx : ∀ b : Addr, ¬ b ∈ (LamX.lamCx X A outer s1 HZ E scope f c').ex := fun b z => by
    have z : b ∈ ([] : List Addr) := z
    cases z
  refine ⟨⟨e0.mod, L.kind, rfl, rfl, Nat.le_refl _, fun y z c p q => I.ok.inj y z c (up p) (up q), fun y hy => ?_, fun y c z _ => ?_, fun _ => hd, Around.frames_deeper e0.frames, .inr ⟨rfl, rfl⟩, fun b z => (nx b z).elim, e0.bs, e0.bsz, fun b _ _ => nx b, fun b z => (nx b z).elim, e0.funs, e0.frf⟩, rfl, e0.bare, Un.kept kp, ⟨_, hns, fun j y w p q k => ?_⟩, fun y c e => ?_, e0.hok.fresh (Nat.le_refl _), fun y c e => ?_, fun q hq => ?_, e0.hok.kept kp, by rw [List.length_set]; exact I.len⟩
  · have hy : scope.names.lookup y = some .cell ∨ scope.names.lookup y = some .free := hy
    rcases hy with hy | hy
    · exact (L.cell _ (PySem.mem_of_lookup hy) rfl).elim
    · exact low hy
  · have z : false = true := z
    cases z
  · have k : Vis scope y := k
    rcases k with k | k | k
    · have e : y = a := L.loc _ (PySem.mem_of_lookup k) rfl
      subst e
      have hj := (List.getElem?_eq_some_iff.mp p).1
      have ji : j = i := (List.getElem?_inj hj hN).mp (p.trans hi.symm)
      subst ji
      rw [List.getElem?_set_self (by rw [I.len]; exact hj)] at q
      cases q
      exact ⟨u, rv, .inl ⟨k, by simp⟩⟩
    · exact (L.cell _ (PySem.mem_of_lookup k) rfl).elim
    · have ji : i ≠ j := fun e => by
        subst e
        have p : X.N[i]? = some y := p
        rw [hi] at p
        cases p
        rw [L.par] at k
        cases k
      rw [List.getElem?_set_ne ji] at q
      obtain ⟨m, hn, look⟩ := I.loc
      have fr := L.free _ (PySem.mem_of_lookup k) rfl
      have vis : Vis X.env.scope y := fr.elim (fun z => .inr (.inl z)) fun z => .inr (.inr z)
      obtain ⟨x, r, z⟩ := look j y w p q vis
      obtain ⟨d, hd⟩ := low k
      refine ⟨x, r, .inr ⟨.inr k, d, hd, ?_⟩⟩
      rcases z with ⟨z, _⟩ | ⟨_, d', e', z⟩
      · have z : X.env.scope.names.lookup y = some .local := z
        rcases fr with e | e <;> (have e : X.env.scope.names.lookup y = _ := e; rw [z] at e; cases e)
      · rw [up hd] at e'
        cases e'
        exact ck (I.freeC y _ (up hd)) z
  · obtain ⟨x, z⟩ := I.cell y c (up e)
    exact ⟨x, ck (I.freeC y c (up e)) z⟩
  · obtain ⟨x, o, ho, hz⟩ := I.cell y c (up e)
    exact un.free c o ho (I.freeC y c (up e)) (by simp)
  · have hq : q ∈ ([] : List (Addr × Obj)) ++ [] := hq
    cases hq
end
end GV

namespace GV
open PySem PySem.Spec PyProof.Rows L2
/-- item i of ns has the lesser key -/
def keyB (key : Int → Int) (ns : List Int) (i j : Nat) : Bool := decide (key (ns.getD i 0) < key (ns.getD j 0))
def firstK (key : Int → Int) (ns : List Int) : Int := ns.getD (argBest (keyB key ns) (ns.length - 1)) 0
section
variable {X : Cx} {σ : L2.St} {H : Hp} {e : Expr}
def rMinKey (X : Cx) (T : List (Addr × Str)) (k i : Nat) (body : Expr) (scope : Scope) (σ : L2.St) (key : Int → Int) (v : V) (H1 : Hp) (Q : VK) : Prop :=
  ∃ l ns, v = .ref l ∧ SqL X.K H1 l (ns.map V.int) ∧ ns ≠ [] ∧ LamX.Tabs T H1 ∧ ∀ H2, LamX.ExtN H1 H2 → LamX.Tabs T H2 →
    (∀ z ∈ ns, ∀ A outer s H0 f c' H3, Room k (A.deeper (LamX.lamEnv X scope s.heap.objs.size f c')) → Evl.Ex H2 H3 → wE (LamX.lamCx X A outer s H0 C8.E0 scope f c') body (σ.set i (some (.int z))) H3 fun u H4 => u = .int (key z) ∧ Evl.Ex H3 H4) ∧
    ∀ H4, Evl.Ex H2 H4 → Q (.int (firstK key ns)) H4
theorem ce_minKey {T : List (Addr × Str)} {c P : Addr} {k i : Nat} {a : Str} {params : Arguments} {body : Expr} {scope : Scope} {p lpos kp pos : Pos} {Q : VK} (key : Int → Int)
    (hc : X.calm = true) (hN : X.N.Nodup) (hi : X.N[i]? = some a) (hg : Gl X "min") (hm : X.mg "min" = none) (hr : Room (k + 2) X.A)
    (TB : LamX.TabB X.base X.mg c P) (hcode : X.env.code = .ref c) (hmT : (P, X.env.qual ++ "<lambda>") ∈ T) (hu : ∀ p ∈ T, p.1 = P → p.2 = X.env.qual ++ "<lambda>")
    (L : Lam1S X.env.scope scope a) (hdef : defaultsOf params X.env = ([], [])) (hbind : ∀ (q : Str) (cl : List (Str × Addr)) (pm cv ctv v : Value), bindArgs (PySem.W.kla_fn "<lambda>" q params body scope cl pm cv ctv) ⟨[v], []⟩ = pure [(a, v)])
    (h : wE X e σ H fun v H1 => rMinKey X T k i body scope σ key v H1 Q)
    (h1 : starEach (e :: []) X.env = (false, eval e X.env) :: starEach [] X.env := by rfl) (he : backTo pos (starEach (e :: []) X.env) = (false, eval e X.env) :: backTo pos (starEach [] X.env) := by rfl) (hpl : (backTo pos (starEach (e :: []) X.env)).any (·.1) = false := by rfl)
    (hall : (backToKw pos (keywordEach [⟨some "key", .Lambda params body scope lpos, kp⟩] X.env)).all (·.1.isSome) = true := by rfl) (hnone : (backToKw pos (keywordEach [⟨some "key", .Lambda params body scope lpos, kp⟩] X.env)).any (·.1.isNone) = false := by rfl)
    (hks : (backToKw pos (keywordEach [⟨some "key", .Lambda params body scope lpos, kp⟩] X.env)).filterMap (·.1) = (["key"] : List Str) := by rfl) :
    wE X (.Call (.Name "min" p) [e] [⟨some "key", .Lambda params body scope lpos, kp⟩] pos) σ H Q := by
  refine ⟨fun σ' H' Q' => σ' = σ ∧ wE X e σ H' fun v H1 => rMinKey X T k i body scope σ key v H1 Q', ⟨fun pins s σ' H' Q' I hq => ?_⟩, rfl, h⟩
  obtain ⟨e1, hq⟩ := hq
  subst e1
  refine wpAny_Call_Name_kw (ld_blt I hg hm PyProof.Rows.boot_min ?_ (by decide) (by decide))
  refine PyProof.Rows.callWith_kw (thn ((pa_cons wE.pe pa_nil h1).run pos pins s σ' H' (fun vs H1 => ∃ v, vs = [v] ∧ rMinKey X T k i body scope σ' key v H1 Q') I (wE.weak hq fun v H1 z => ⟨v, rfl, z⟩)) fun us s1 ⟨vs, H1, I1, r1, v, ev, q1⟩ => ?_) he hpl hall hnone
  subst ev
  obtain ⟨l, ns, ev, hs, hne, hT, q1⟩ := q1
  subst ev
  rw [Vals.ref1 r1, hks]
  show wpAny _ _ (evalAll ((do let v ← eval (.Lambda params body scope lpos) X.env; standAt pos; pure v) :: (backToKw pos (keywordEach [] X.env)).map (·.2))) _ _ s1
  refine wpAny_evalAll_cons (wpAny_bind (LamX.lam_make2 I1 TB hcode hmT hu hT hdef (L.has I1.ok) fun f c' pm ctv H2 s2 I2 eN T2 hf hfn hfr hco => wpAny_bind (wpAny_standAt (wpAny_pure (wpAny_evalAll_nil ?_)))))
  show wpAny _ _ (call (.builtin "min") [.ref l] [(Str.ofString "key", .ref f)]) _ _ s2
  obtain ⟨hb, hQ⟩ := q1 H2 eN T2
  have hs2 : SqL X.K H2 l (ns.map V.int) := hs.imp (fun z => z.imp (fun z => eN _ _ z fun _ z => by cases z) fun ⟨o, z⟩ => ⟨o, eN _ _ z fun _ z => by cases z⟩) id
  obtain ⟨its, rvs, pl, _⟩ := I2.list hs2
  have hd := I2.ok.hd hc
  have lt : l < s2.heap.objs.size := let ⟨_, q, _⟩ := pl.isList; Heap.lt_size q
  have ltf := Heap.lt_size hf
  refine call_min_walkK (wpAny_pyIter_list pl.isList ?_)
  have szI : ∀ ob : Obj, (s2.heap.push ob).objs.size = s2.heap.objs.size + 1 := fun ob => Heap.size_push ..
  refine ⟨s2.heap.objs.size, [s2.heap.objs.size, l], [s2.heap.objs.size], fun a b => b = a, ns.length, IntP ns, ItS s2.heap.objs.size l ns,
    fun s => ∃ H', Evl.Ex H2 H' ∧ Inv X pins σ' H' s ∧ H' s2.heap.objs.size = none ∧ H' (s2.heap.objs.size + 1) = none ∧ s.heap.get? f = some (PySem.W.kla_obj "<lambda>" (X.env.qual ++ "<lambda>") params body scope (cloFrom X.env.cells scope.names []) pm c' ctv) ∧ H' f = none,
    fun j u _ => ∃ t, u = .int (key (ns.getD j 0)) t, keyB key ns, rfl, walk_ints (by exact hd) _ l (Nat.ne_of_lt lt) ns, ⟨⟨_, Heap.get?_push_size _ rfl, rfl, rfl⟩, its.toArray, pl.isList.push _, by simpa using rvs.ints⟩, ?_, List.length_pos_iff.mpr hne, ?_, ?_, ?_⟩
  · intro b hb
    rw [szI]
    rcases List.mem_cons.mp hb with e | hb
    · rw [e]
      exact Nat.lt_succ_self _
    · rw [List.mem_singleton.mp hb]
      exact Nat.lt_succ_of_lt lt
  · rw [szI]
    refine ⟨fun s s' ⟨H', x, J, n1, n2, hf', n3⟩ mv => ?_, fun _ _ _ _ z _ => z, fun j v s o Q E hj hP hJ hst hS kk => ?_, fun i j ki kj s Q E _ ⟨t, e1⟩ ⟨u, e2⟩ q => ?_⟩
    · obtain ⟨g, gn, dr, tk, os⟩ := s'
      obtain rfl : gn = s.gens := mv.gens
      obtain rfl : dr = s.drawn := mv.drawn
      obtain rfl : os = s.os := mv.os
      refine ⟨H', x, J.turnedL (ch := [s2.heap.objs.size + 1, s2.heap.objs.size]) (fun b o nb e => mv.heap b o nb e) (fun b hb => ?_), n1, n2, mv.heap _ _ ?_ hf', n3⟩
      · rcases List.mem_cons.mp hb with e | hb
        · rw [e]
          exact I2.fpOk (Nat.le_succ _) n2
        · rw [List.mem_singleton.mp hb]
          exact I2.fpOk (Nat.le_refl _) n1
      · simp only [List.mem_cons, List.not_mem_nil, or_false, not_or]
        exact ⟨Nat.ne_of_lt (Nat.lt_succ_of_lt ltf), Nat.ne_of_lt ltf⟩
    · obtain ⟨H', x, J, n1, n2, hf', hfn'⟩ := hJ
      obtain ⟨t, ev⟩ := hP
      obtain ⟨si, _⟩ := hst
      subst ev
      generalize hz : ns.getD j 0 = z at *
      have zm : z ∈ ns := by
        rw [← hz, List.getD_eq_getElem?_getD, List.getElem?_eq_getElem hj, Option.getD_some]
        exact List.getElem_mem _
      obtain ⟨⟨oc, vs, tt, hoc, hdc, hvc⟩, _, _⟩ := J.hok c' _ (x _ _ hco)
      have r1 : Room (k + 1) X.A.in1 := hr.in1
      have rc : codeAny (model X.prog X.w) X.A.in1 (.call (.ref f) ⟨[.int z t], []⟩) (L2.CR (L2.CX X.prog X.w) X.stack X.prog X.w H' s (fun u H4 => u = .int (key z) ∧ Evl.Ex H' H4) C8.E0) s := by
        refine PySem.W.kla_callFunE r1.depth hf' rfl L.co L.gen rfl ⟨c', oc, vs, tt, rfl, hoc, hdc, hvc⟩ ?_
        rw [hbind]
        refine wpAny_pure (wpAny_newFunctionEnv L.cell (fun y hy => by rw [List.mem_singleton.mp hy]; exact L.par) (fun g hns hsb => ⟨J.nolimit.fresh _ hsb, ?_⟩) L.kind)
        show codeAny _ _ (.expr body (LamX.lamEnv X scope s.heap.objs.size f c')) _ _
        have Jn : Inv (LamX.lamCx X X.A.in1 X.stack s H' C8.E0 scope f c') [] (σ'.set i (some (.int z))) H' { s with heap := g, toks := s.toks + ([(a, Value.int z t)] : List (Str × Value)).length } :=
          lam1_start J L hN hi ⟨t, rfl⟩ J.env0.in1 r1.hd Un.refl hns fun b o e => hsb.extBut b o (Nat.ne_of_lt (Heap.lt_size e)) (Heap.get?_push_of_some _ e)
        refine PySem.W.kla_codeExpr (wpAny_mono (wE.pe.run [] _ _ H' _ Jn (hb z zm _ _ _ _ f c' H' (r1.deeper _) x)) (fun v s' hq => ?_) fun e s' hq => hq)
        obtain ⟨w', H'', J', rv, q⟩ := hq
        exact ⟨w', H'', J'.os, J'.bare, J'.base, J'.hok, rv, q⟩
      refine wpAny_call (codeAny_mono rc fun r s' hr' => ?_)
      rcases r with er | fl
      · obtain ⟨_, _, _, _, _, _, _, _, _, _, _, _, z⟩ := hr'
        exact z.elim
      rcases fl with _ | _ | _ | u
      iterate 3 exact hr'.elim
      obtain ⟨v, H4, os, bare, un, hok, rv, ev, x4⟩ := hr'
      subst ev
      obtain ⟨t', eu⟩ := rv
      subst eu
      have J4 : Inv X pins σ' H4 s' := J.call' (ch := []) os un hok bare fun _ z => by cases z
      have hS' : s.heap.get? (s2.heap.objs.size + 1) = some o := hS
      obtain ⟨oi, ai, ri⟩ := si
      have nf : ∀ b, s2.heap.objs.size ≤ b → b ∉ frs X.stack := fun b hb z => by
        rcases List.mem_cons.mp (I2.stkSub _ z) with e | e
        · exact absurd (Nat.lt_of_le_of_lt hb (by rw [e]; exact I2.lt)) (Nat.lt_irrefl _)
        · exact I2.nofs hb e
      have ki := un.keep _ _ ai n1 (nf _ (Nat.le_refl _)) (by simp)
      have kS := un.keep _ _ hS' n2 (nf _ (Nat.le_succ _)) (by simp)
      have kf := un.keep _ _ hf' hfn' hfr (by simp)
      obtain ⟨its4, rv4, pl4, _⟩ := J4.list (show SqL X.K H4 l (ns.map V.int) from hs2.imp (fun z => z.imp (fun z => x4 _ _ (x _ _ z)) fun ⟨o, z⟩ => ⟨o, x4 _ _ (x _ _ z)⟩) id)
      refine kk _ _ ⟨H4, x.trans x4, J4, un.free _ _ ai n1 (by simp), un.free _ _ hS' n2 (by simp), kf, un.free _ _ hf' hfn' (by simp)⟩ ⟨⟨oi, ki, ri⟩, its4.toArray, pl4.isList, by simpa using rv4.ints⟩ kS ⟨t', rfl⟩ fun _ _ z => z
    · subst e1
      subst e2
      exact wpAny_lt_int q
  · exact ⟨H2, Evl.Ex.refl H2, I2.kept fun b o e => Heap.get?_push_of_some _ e, I2.hok.fresh (Nat.le_refl _), I2.hok.fresh (Nat.le_succ _), Heap.get?_push_of_some _ hf, hfn⟩
  · rintro v s' ⟨t, ev⟩ ⟨H', x, J, _, _, _, _⟩
    exact ⟨.int (firstK key ns), H', J, ⟨t, ev⟩, hQ H' x⟩
end
end GV

/-! isinstance of an exception that has attributes: the library's kitx_exc, carried to the suite of an except clause -/
namespace GV
open PySem PySem.Spec PyProof.Rows L2
theorem call_isEd {X : Cx} {a D dd : Addr} {oe : Obj} {fs : List (Str × V)} {pn : List (Addr × Obj)} (C : ExcC X.K D) (hz : Zc (.ref D) (some dd) oe) (hf : ∃ vs, oe.data = .fields vs) :
    CallR (X.suite a ((a, oe) :: pn)) (.builtin "isinstance") (fun xs H Q => H dd = some (.xd fs) ∧ rIsE X.K D a xs H Q) := by
  intro pins s σ H xs us Q J r h
  obtain ⟨hdd, c, cv, b, rfl, hcv, e, q⟩ := h
  obtain ⟨u1, u2, rfl, rx, rt⟩ : ∃ u1 u2, us = [u1, u2] ∧ L2.RelV (.ref a) u1 ∧ L2.RelV c u2 := by
    rcases r with _ | ⟨rx, _ | ⟨rt, _ | _⟩⟩
    exact ⟨_, _, rfl, rx, rt⟩
  cases rx
  have ec := hcv _ rt
  subst ec
  have ha := (J.pin (a, oe) (List.mem_append.mpr (.inl (List.mem_cons_self ..)))).1
  obtain ⟨mA, hns, _⟩ := (show ObjOk X.prog X.w H s.heap dd (.xd fs) from J.hok dd _ hdd)
  obtain ⟨od, ho, _⟩ := lookIn_ns hns
  obtain ⟨vs, hv⟩ := hf
  have no : PySem.W.notCls oe = true := by
    unfold PySem.W.notCls
    rw [hv] <;> rfl
  have at_ : PySem.W.InstAt s.heap a oe D (some od) := ⟨ha, hz.1, no, by rw [hz.2]; exact ho⟩
  have hcl : (PySem.W.clsIn X.K D).isSome = true := by
    obtain ⟨cd, hc, _⟩ := PySem.W.any_some C.hd
    rw [hc]
    rfl
  exact PySem.W.kia_one (PySem.W.kitx_exc hcl C.hg C.hk C.hs C.ha C.hn C.ht C.hm) J.kIn at_ e (fun z => nomatch z) fun tk => ⟨.bl b, H, J.kept (t' := tk) fun _ _ z => z, rfl, q⟩
end GV

namespace GV
open PySem PySem.Spec PyProof.Rows L2
section
variable {X : Cx} {M : Addr → Prop} {σ : St} {H H' : Hp} {a b c e : Expr} {da db d : PyData} {pos : Pos} {es : List Expr} {ds : List PyData}
/-! ### != of tuples that hold the same things -/
def rNeSame (K : PySem.W.Frag) : R2 := fun x y H Q => ∃ a b xs, x = .ref a ∧ y = .ref b ∧ SqT K H a xs ∧ SqT K H b xs ∧ (∀ v ∈ xs, sameB v = true) ∧ Q (.bl false) H
theorem ct_ne {Q : Bool → Hp → Prop} (hu : X.A.units + 64 < cLine) (h : wE X a σ H fun x H2 => wE X b σ H2 fun y H3 => ∃ da db, Dp X.K H3 x da ∧ Dp X.K H3 y db ∧ SeqAt.shaped da = true ∧ SeqAt.shaped db = true ∧ Q (!PyData.eqv da db) H3) : wT X (.Compare a [.NotEq] [b] pos) σ H Q :=
  ⟨_, pt_cmpR (op_neD hu) wE.pe wE.pe (nomark _), wE.weak h fun x H2 h2 => wE.weak h2 fun y H3 ⟨da, db, h1, h2, h3, h4, q⟩ => ⟨da, db, h1, h2, h3, h4, _, rfl, q⟩⟩
end
end GV

namespace GV
open PySem PySem.Spec PyProof.Rows L2
end GV

namespace GV
open PySem PySem.Spec PyProof.Rows L2
/-! ### the first of the least keys -/
theorem argB_spec (key : Int → Int) (ns : List Int) : ∀ j, argBest (keyB key ns) j ≤ j ∧ (∀ i, i ≤ j → key (ns.getD (argBest (keyB key ns) j) 0) ≤ key (ns.getD i 0)) ∧ ∀ i, i < argBest (keyB key ns) j → key (ns.getD (argBest (keyB key ns) j) 0) < key (ns.getD i 0)
  | 0 => ⟨Nat.le_refl _, fun i h => by
      rw [Nat.le_zero.mp h]
      exact Int.le_refl _, fun i h => absurd h (Nat.not_lt_zero _)⟩
  | j + 1 => by
    obtain ⟨h1, h2, h3⟩ := argB_spec key ns j
    generalize hb : argBest (keyB key ns) j = b at h1 h2 h3
    have e : argBest (keyB key ns) (j + 1) = if keyB key ns (j + 1) b = true then j + 1 else b := by rw [← hb]; rfl
    by_cases hk : keyB key ns (j + 1) b = true
    · rw [e, if_pos hk]
      have hk := of_decide_eq_true hk
      refine ⟨Nat.le_refl _, fun i hi => ?_, fun i hi => ?_⟩
      · rcases Nat.lt_or_ge i (j + 1) with z | z
        · have := h2 i (by omega)
          omega
        · rw [show i = j + 1 by omega]
          exact Int.le_refl _
      · have := h2 i (by omega)
        omega
    · rw [e, if_neg hk]
      have hk := of_decide_eq_false (Bool.not_eq_true _ ▸ hk)
      refine ⟨by omega, fun i hi => ?_, h3⟩
      rcases Nat.lt_or_ge i (j + 1) with z | z
      · exact h2 i (by omega)
      · rw [show i = j + 1 by omega]
        omega
/-- of an ascending list: the one with the least key, and of these the least -/
theorem firstK_eq {key : Int → Int} {ns : List Int} {m : Int} (up : ns.Pairwise (· < ·)) (hm : m ∈ ns) (h : ∀ y ∈ ns, key m < key y ∨ (key m = key y ∧ m ≤ y)) : firstK key ns = m := by
  obtain ⟨i, hi⟩ := List.mem_iff_getElem?.mp hm
  have hil := (List.getElem?_eq_some_iff.mp hi).1
  obtain ⟨h1, h2, h3⟩ := argB_spec key ns (ns.length - 1)
  unfold firstK
  generalize argBest (keyB key ns) (ns.length - 1) = b at h1 h2 h3 ⊢
  have hbl : b < ns.length := by omega
  have eb : ns.getD b 0 = ns[b] := by rw [List.getD_eq_getElem?_getD, List.getElem?_eq_getElem hbl]; rfl
  have ei : ns.getD i 0 = m := by rw [List.getD_eq_getElem?_getD, hi]; rfl
  have hb := h (ns.getD b 0) (by rw [eb]; exact List.getElem_mem _)
  have k2 := h2 i (by omega)
  rw [ei] at k2
  rcases hb with hb | ⟨hb, hle⟩
  · omega
  · rcases Nat.lt_trichotomy i b with z | z | z
    · have := h3 i z
      rw [ei] at this
      omega
    · rw [← z, ei]
    · have := List.pairwise_iff_getElem.mp up b i hbl hil z
      rw [(List.getElem?_eq_some_iff.mp hi).2, ← eb] at this
      omega
/-! ### texts -/
theorem RpAll.of_strs {K : PySem.W.Frag} {M : Addr → Prop} {H : Hp} : ∀ {vs : List V} {ns : List Str}, RpAll K M H vs (ns.map PyData.str) → vs = ns.map V.str
  | [], [], .nil => rfl
  | _ :: _, n :: r, .cons h hs => by
    cases h
    rw [RpAll.of_strs hs]
    rfl
theorem inV_strs (x : Str) (ns : List Str) : inV (.str x) (ns.map V.str) = decide (x ∈ ns) := by
  unfold inV
  rw [List.any_map, Bool.eq_iff_iff, decide_eq_true_eq, List.any_eq_true]
  constructor
  · rintro ⟨y, hy, e⟩
    have e : (y == x) = true := e
    rw [← beq_iff_eq.mp e]
    exact hy
  · intro h
    exact ⟨x, h, (by show (x == x) = true; simp)⟩
section
variable {X : Cx} {M : Addr → Prop} {σ : St} {H H' : Hp} {a b c e o : Expr} {da db d : PyData} {pos : Pos}
theorem pd_addS {x y : Str} (ha : PD X M a σ H (.str x)) (hb : PD X M b σ H (.str y)) (hl : x.length + y.length ≤ 100000) : PD X M (.BinOp a .Add b pos) σ H (.str (x ++ y)) :=
  pd_binR op_add_str (fun u v H1 ru rv _ Q q => by
    cases ru
    cases rv
    exact ⟨x, y, rfl, rfl, Evl.sz_of hl, q _ H1 (Evl.Ex.refl H1) (.str _)⟩) ha hb
theorem pd_shr {i : Int} {k : Nat} (ha : PD X M a σ H (.int i)) (hb : PD X M b σ H (.int (k : Nat))) : PD X M (.BinOp a .RShift b pos) σ H (.int (i / 2 ^ k)) :=
  PD.is (pd_binR op_shr (rd_I (C := fun _ j => (0 : Int) ≤ j) (i := i) (j := (k : Nat)) (by omega)) ha hb) (by rw [Int.toNat_natCast])
end
end GV

namespace TK
open PySem PySem.Spec PyProof.Rows L2 GV
/-! ### the texts of the houses -/
def sideT : Nat → Str
  | 0 => ""
  | 1 => "l"
  | 2 => "b"
  | 3 => "lb"
  | 4 => "h"
  | 5 => "lh"
  | 6 => "bh"
  | _ => "lbh"
def txN (n : Nat) : Str := sideT (n % 8) ++ "-" ++ sideT (n / 8)
def ordK : List Str := ["l-", "b-", "h-", "-l", "-b", "-h"]
def bitN (n k : Nat) : Bool := decide ((n : Int) / 2 ^ k % 2 = 1)
def kindsL (n : Nat) : List Str := ((List.range 6).filter (bitN n)).map fun i => ordK.getD i ""
theorem all63 {p : Nat → Prop} [DecidablePred p] (h : (List.range 64).all (fun n => decide (p n)) = true) {n : Nat} (hn : n < 64) : p n := of_decide_eq_true (List.all_eq_true.mp h n (List.mem_range.mpr hn))
theorem part_tx {n : Nat} (hn : n < 64) : Txt.partition (txN n) (Str.ofString "-") = (sideT (n % 8), Str.ofString "-", sideT (n / 8)) :=
  all63 (p := fun n => Txt.partition (txN n) (Str.ofString "-") = (sideT (n % 8), Str.ofString "-", sideT (n / 8))) (by decide +kernel) hn
theorem len_tx {n : Nat} (hn : n < 64) : (txN n).length ≤ 7 := all63 (p := fun n => (txN n).length ≤ 7) (by decide +kernel) hn
structure Sides (K : PySem.W.Frag) (mg : Str → Option Value) (w : World) : Prop where
  ex : ∃ d es n, mg "_SIDES" = some (.ref d) ∧ KDict K w d es n ∧ ∀ i, i < 8 → ∃ t, PySem.W.nsIn K d (sideT i) = some (some (.int i t))
section
variable {X : Cx} {M : Addr → Prop} {σ : St} {H : Hp} {a : Expr}
theorem td_ninS {i : Nat} {p pos : Pos} (hi : i < 8) (S : Sides X.K X.mg X.w) (hg : Gl X "_SIDES") (ha : PD X M a σ H (.str (sideT i))) : TD X M (.Compare a [.NotIn] [.Name "_SIDES" p] pos) σ H false := by
  obtain ⟨d, es, n, hm, D, ns⟩ := S.ex
  obtain ⟨t, n1⟩ := ns i hi
  refine .mk fun H1 e1 al Q q => ⟨_, pt_cmpR (op_notIn_kd D) wE.pe (pe_glob hg hm (v := .ref d) rfl (by decide)) rfl, ha.run H1 e1 al _ fun v H2 x2 r => ?_⟩
  cases r
  exact ⟨_, _, rfl, rfl, n1, _, rfl, q H2 x2⟩
theorem pd_ixS {i : Nat} {p pos : Pos} (hi : i < 8) (S : Sides X.K X.mg X.w) (hg : Gl X "_SIDES") (ha : PD X M a σ H (.str (sideT i))) (hs : PlainIx a := by exact fun _ _ => rfl) : PD X M (.Subscript (.Name "_SIDES" p) a pos) σ H (.int (i : Nat)) := by
  obtain ⟨d, es, n, hm, D, ns⟩ := S.ex
  obtain ⟨t, n1⟩ := ns i hi
  refine .mk fun H1 e1 al Q q => ⟨_, pe_ix ix_kdict (pe_glob hg hm (v := .ref d) rfl (by decide)) wE.pe hs, ha.run H1 e1 al _ fun v H2 x2 r => ?_⟩
  cases r
  exact ⟨d, _, .int (i : Nat), rfl, rfl, ⟨es, n, _, D.at_, D.lit, n1, ⟨t, rfl⟩⟩, q _ H2 x2 (.int _)⟩
theorem cs_unp3 {e : Expr} {pos px py pz pt : Pos} {i j l kt : Nat} {x y z : Str} {D : Ends} {u v w : Str} (hx : PG X (.Name x px) (gName i)) (hy : PG X (.Name y py) (gName j)) (hz : PG X (.Name z pz) (gName l))
    (h : wE X e σ H fun r H2 => ∃ p, r = .ref p ∧ H2 p = some (.tup [.str u, .str v, .str w]) ∧ D.nx (((σ.set i (some (.str u))).set j (some (.str v))).set l (some (.str w))) H2)
    (ht : PG X (.Tuple [.Name x px, .Name y py, .Name z pz] kt pt) (gTup X.K 3 (gCons (gName i) (gCons (gName j) (gCons (gName l) gNil))))) (hs : swapsWithSole [.Tuple [.Name x px, .Name y py, .Name z pz] kt pt] e pos.line X.env = pure false := by rfl) (hw : swappedStores [.Tuple [.Name x px, .Name y py, .Name z pz] kt pt] e X.env = pure none := by rfl)
    (h1 : (assignEach [.Tuple [.Name x px, .Name y py, .Name z pz] kt pt] X.env).map (·.2) = [assign (.Tuple [.Name x px, .Name y py, .Name z pz] kt pt) X.env] := by rfl) : wS X (.Assign [.Tuple [.Name x px, .Name y py, .Name z pz] kt pt] e pos) D σ H :=
  ⟨_, ps_asg wE.pe ht hs hw h1, wE.weak h fun r H2 ⟨p, e, hp, q⟩ => ⟨p, _, e, .inl (.inl hp), rfl, _, _, rfl, _, _, rfl, _, _, rfl, rfl, q⟩⟩
end
section
variable {P : Program} {w : World} {K : PySem.W.Frag} {mg : Str → Option Value} {base : Heap}
theorem eqv_int (i j : Int) : PyData.eqv (.int i) (.int j) = decide (i = j) := by
  rw [Bool.eq_iff_iff, decide_eq_true_eq]
  simp [PyData.eqv]
def R_not (ds : List PyData) (d : PyData) : Prop := ∃ n : Nat, n < 64 ∧ ds = [.str (txN n)] ∧ d = .int (n : Nat)
theorem cl_number_of_text {f : Addr} {fd : FuncData} (F : At K mg "number_of_text" s_number_of_text f fd) (nb : NoB mg) (S : Sides K mg w) : Cl P w K mg base CX0 1 "number_of_text" (PureR K R_not) := by
  refine cl_pure F sc_number_of_text (F.fn.binds fun _ _ _ _ _ _ us hl => match us, hl with | [_], _ => rfl) (fun ds d h => ?_) (fun X cdv A outer s H Q E M vs ds d hX hr al r h q => ?_)
  · obtain ⟨n, _, rfl, _⟩ := h
    rfl
  · obtain ⟨n, hn, rfl, rfl⟩ := h
    obtain ⟨v, rfl, r1⟩ := rpa1 r
    cases r1
    subst hX
    have h1 : n % 8 < 8 := Nat.mod_lt _ (by decide)
    have h2 : n / 8 < 8 := by omega
    refine b_cons (s_if (k := false) al (td_not (k := true) (td_val (pd_isi rfl nb.isinstance rfl nb.str PyProof.Rows.boot_str (nm 0 (.str (txN n))) (by decide +kernel : kitB "str" "str" = some true)))) (fun k => by cases k) (fun _ H2 x2 => ?_))
    refine b_nil (b_cons (cs_unp3 (i := 1) (j := 2) (l := 3) (u := sideT (n % 8)) (v := "-") (w := sideT (n / 8)) (pg_name (i := 1) sc_number_of_text.nd rfl (.inl rfl)) (pg_name (i := 2) sc_number_of_text.nd rfl (.inl rfl)) (pg_name (i := 3) sc_number_of_text.nd rfl (.inl rfl)) ⟨_, pe_partition wE.pe wE.pe, ce_nm 0 ⟨⟨txN n, rfl⟩, ce_str ⟨txN n, "-", rfl, rfl, by decide +kernel, Evl.sz_of (Nat.le_trans (len_tx hn) (by decide)), fun p hp => ⟨p, rfl, (by rw [part_tx hn]; exact upd_same), ?_⟩⟩⟩⟩ (pg_tup rfl (pgs_cons (pg_name (i := 1) sc_number_of_text.nd rfl (.inl rfl)) (pgs_cons (pg_name (i := 2) sc_number_of_text.nd rfl (.inl rfl)) (pgs_cons (pg_name (i := 3) sc_number_of_text.nd rfl (.inl rfl)) pgs_nil))))))
    refine b_cons (s_if (k := false) (al.mono (x2.trans (Evl.Ex.new hp))) (WD.td (wd_or (k1 := false) (k2 := false) (TD.is (td_eq hr.units (nm 2 (.str "-")) pd_str (by decide +kernel) (by decide +kernel)) (by decide +kernel)) fun _ => wd_or (k1 := false) (k2 := false) (td_ninS h1 S rfl (nm 1 (.str _))) fun _ => wd_or1 (td_ninS h2 S rfl (nm 3 (.str _))))) (fun k => by cases k) (fun _ H4 x4 => ?_))
    exact b_nil (b_cons (s_ret ((al.mono (x2.trans (Evl.Ex.new hp))).mono x4) (PD.is (pd_add (pd_ixS h1 S rfl (nm 1 (.str _))) (pd_mul pd_int (pd_ixS h2 S rfl (nm 3 (.str _))) (.inl (by decide)))) (congrArg PyData.int (by omega))) fun v H5 x5 rv => q v H5 (((x2.trans (Evl.Ex.new hp)).trans x4).trans x5) rv))
structure HouC (K : PySem.W.Frag) (CH : Addr) : Prop where
  ins : C8.InsC K CH
  nT : NoAttr K CH "text"
  nN : NoAttr K CH "number"
def HAt (CH : Addr) (n : Nat) (H : Hp) (h : Addr) : Prop := ∃ dx, H h = some (.ins CH dx [("text", .str (txN n)), ("number", .int (n : Nat))])
theorem HAt.ex {CH h : Addr} {n : Nat} {H H' : Hp} (a : HAt CH n H h) (x : ∀ o, H h = some o → H' h = some o) : HAt CH n H' h := let ⟨dx, e⟩ := a; ⟨dx, x _ e⟩
theorem HAt.exM {CH h : Addr} {n : Nat} {M : Addr → Prop} {H H' : Hp} (a : HAt CH n H h) (x : ExM M H H') (m : ¬ M h) : HAt CH n H' h := let ⟨dx, e⟩ := a; ⟨dx, x _ _ e m fun _ z => by cases z⟩
def spHInit (CH : Addr) : Sp := fun vs H Q _ => ∃ (b dx : Addr) (n : Nat), vs = [.ref b, .str (txN n)] ∧ 1 ≤ n ∧ n < 64 ∧ H b = some (.ins CH dx []) ∧ ∀ H', (∀ a o, H a = some o → a ≠ b → H' a = some o) → HAt CH n H' b → Q .non H'
theorem ok_hinit {f CH : Addr} {fd : FuncData} (F : Fun K "__init__" "House.__init__" s_House_init f fd) (B : HouC K CH) (c1 : Cl P w K mg base CX0 1 "number_of_text" (PureR K R_not)) : FnOk P w K mg base CX0 2 f fd ["self", "text"] (spHInit CH) := by
  refine F.ok sc_House_init (fun vs H Q E h => ?_) (fun cdv A outer sh H vs Q E hr h => ⟨_, wB.ps, ?_⟩)
  · obtain ⟨b, dx, n, rfl, _⟩ := h
    rfl
  · obtain ⟨b, dx, n, rfl, hn0, hn, hb, q⟩ := h
    refine b_cons (s_set (M := M0) (i := 2) (d := .int (n : Nat)) alive0 sc_House_init.nd rfl (.inl rfl) (pd_callC c1 hr (by decide) rfl (ad_cons (nm 1 (.str (txN n))) ad_nil) ⟨n, hn, rfl, rfl⟩) fun v H2 x2 r2 => ?_)
    cases r2
    refine b_cons (s_if (M := M0) (k := false) alive0 (TD.is (td_eq hr.units (nm 2 (.int (n : Nat))) pd_int rfl rfl) (by rw [eqv_int]; exact decide_eq_false (by omega))) (fun k => by cases k) (fun _ H3 x3 => ?_))
    refine b_nil (b_cons (cs_fld (ce_nm 1 (ce_nm 0 ⟨b, CH, dx, [], rfl, x3 _ _ (x2 _ _ hb), B.ins.cl, B.nT, (by show 0 < 1000; decide), ?_⟩))))
    refine b_cons (cs_fld (ce_nm 2 (ce_nm 0 ⟨b, CH, dx, _, rfl, upd_same, B.ins.cl, B.nN, (by show 1 < 1000; decide), b_nil (q _ (fun a o ha na => ?_) ⟨dx, ?_⟩)⟩)))
    · rw [upd_ne na, upd_ne na]
      exact x3 _ _ (x2 _ _ ha)
    · rw [upd_same]
      rfl
def spBit (CH : Addr) : Sp := fun vs H Q _ => ∃ (h : Addr) (n k : Nat), vs = [.ref h, .int (k : Nat)] ∧ HAt CH n H h ∧ ∀ H', Evl.Ex H H' → Q (.bl (bitN n k)) H'
theorem ok_bit {f CH : Addr} {fd : FuncData} (F : Fun K "names_index" "House.names_index" s_House_names_index f fd) (B : HouC K CH) : FnOk P w K mg base CX0 1 f fd ["self", "index"] (spBit CH) := by
  refine F.ok sc_House_names_index (fun vs H Q E h => ?_) (fun cdv A outer sh H vs Q E hr h => ⟨_, wB.ps, ?_⟩)
  · obtain ⟨b, n, k, rfl, _⟩ := h
    rfl
  · obtain ⟨b, n, k, rfl, ⟨dx, hb⟩, q⟩ := h
    refine b_cons (s_ret (M := M0) (d := .bool (bitN n k)) alive0 (PD.is (pd_eq hr.units (pd_binR (d := .int ((n : Int) / 2 ^ k % 2 ^ 1)) op_andM (fun x y H1 rx ry _ Q q => ?_) (pd_shr (pd_fld (AtN.name (i := 0) rfl (.inl rfl) rfl) (fun z => z) hb B.ins.cl B.nN rfl (.int (n : Nat))) (nm 1 (.int (k : Nat)))) (pd_int (i := 1))) pd_int rfl rfl) ?_) fun v H2 x2 r2 => ?_)
    · cases rx
      cases ry
      exact ⟨_, 1, rfl, rfl, q _ H1 (Evl.Ex.refl H1) (.int _)⟩
    · show PyData.bool (PyData.eqv _ _) = PyData.bool (bitN n k)
      rw [eqv_int]
      rfl
    · cases r2
      exact q H2 x2
end
end TK

namespace GV
open PySem PySem.Spec PyProof.Rows L2
section
variable {X : Cx} {M : Addr → Prop} {σ : St} {H H' : Hp} {a b c e o : Expr} {da db d : PyData} {pos : Pos}
/-- min(a, b), max(a, b), step by step -/
theorem ce_min2 {p : Pos} {Q : VK} (hg : Gl X "min") (hn : X.mg "min" = none) (h : wA X [a, b] σ H fun vs H2 => ∃ i j, vs = [.int i, .int j] ∧ Q (.int (min i j)) H2) (hc : X.calm = true := by rfl)
    (h1 : starEach (a :: [b]) X.env = (false, eval a X.env) :: starEach [b] X.env := by rfl) (hpl : (backTo pos (starEach [b] X.env)).any (·.1) = false := by rfl) : wE X (.Call (.Name "min" p) [a, b] [] pos) σ H Q := by
  obtain ⟨t, ht, q⟩ := h
  refine ⟨_, pe_callB (call_min2 hc) hg hn PyProof.Rows.boot_min wA.pa (by decide) (by decide) h1 hpl, ⟨fun σ' H' Q' => σ' = σ ∧ H' = H ∧ ∀ vs H2, (∃ i j, vs = [.int i, .int j] ∧ Q (.int (min i j)) H2) → Q' vs H2, ⟨fun ps pins s σ' H' Q' I ⟨e1, e2, k⟩ => ?_⟩, rfl, rfl, fun vs H2 ⟨i, j, e, z⟩ => ⟨i, j, e, ?_⟩⟩⟩
  · subst e1
    subst e2
    exact thn (ht.run ps pins s σ' H' _ I q) fun us s' ⟨vs, H2, I2, r, z⟩ => ⟨vs, H2, I2, r, k vs H2 z⟩
  · rw [show (if j < i then j else i) = min i j by split <;> omega]
    exact z
theorem ce_max2 {p : Pos} {Q : VK} (hg : Gl X "max") (hn : X.mg "max" = none) (h : wA X [a, b] σ H fun vs H2 => ∃ i j, vs = [.int i, .int j] ∧ Q (.int (max i j)) H2) (hc : X.calm = true := by rfl)
    (h1 : starEach (a :: [b]) X.env = (false, eval a X.env) :: starEach [b] X.env := by rfl) (hpl : (backTo pos (starEach [b] X.env)).any (·.1) = false := by rfl) : wE X (.Call (.Name "max" p) [a, b] [] pos) σ H Q := by
  obtain ⟨t, ht, q⟩ := h
  refine ⟨_, pe_callB (call_max2 hc) hg hn PyProof.Rows.boot_max wA.pa (by decide) (by decide) h1 hpl, ⟨fun σ' H' Q' => σ' = σ ∧ H' = H ∧ ∀ vs H2, (∃ i j, vs = [.int i, .int j] ∧ Q (.int (max i j)) H2) → Q' vs H2, ⟨fun ps pins s σ' H' Q' I ⟨e1, e2, k⟩ => ?_⟩, rfl, rfl, fun vs H2 ⟨i, j, e, z⟩ => ⟨i, j, e, ?_⟩⟩⟩
  · subst e1
    subst e2
    exact thn (ht.run ps pins s σ' H' _ I q) fun us s' ⟨vs, H2, I2, r, z⟩ => ⟨vs, H2, I2, r, k vs H2 z⟩
  · rw [show (if j > i then j else i) = max i j by split <;> omega]
    exact z
theorem ce_mul {Q : VK} (h : wE X a σ H fun x H2 => wE X b σ H2 fun y H3 => ∃ i j, x = .int i ∧ y = .int j ∧ CMul i j ∧ Q (.int (i * j)) H3) : wE X (.BinOp a .Mult b pos) σ H Q := ce_bin op_mul h
end
end GV

namespace TK
open PySem PySem.Spec PyProof.Rows L2 GV
def okW (z : Int) : Prop := -1000000000000 ≤ z ∧ z ≤ 1000000000000
theorem okW.is {z : Int} (h : okW z) : isWeightD (.int z) = true := by
  show (decide (-mostW ≤ z) && decide (z ≤ mostW)) = true
  rw [decide_eq_true (by unfold mostW; exact h.1), decide_eq_true (by unfold mostW; exact h.2)]
  rfl
abbrev Ma (a : Addr) : Addr → Prop := fun x => x = a
abbrev S2 (s r : Addr) : Addr → Prop := fun a => a = s ∨ a = r
theorem ExB.exM {a : Addr} {H H' : Hp} (e : ExB a H H') : ExM (Ma a) H H' := fun x o h n _ => e x o n h
theorem ExB.trE {a : Addr} {H H1 H2 : Hp} (e : ExB a H H1) (x : Evl.Ex H1 H2) : ExB a H H2 := e.trans (.of x)
theorem al_pot {a : Addr} {H : Hp} {r c k : Int} (h : H a = some (potL r c k)) : Alive (Ma a) H := fun x e => ⟨_, e ▸ h⟩
theorem fresh_backB {a p : Addr} {H H' : Hp} {o : HO} (e : ExB a H H') (ha : H a = some o) (ha' : ∃ o', H' a = some o') (hp : H' p = none) : H p = none := by
  cases hh : H p with
  | none => rfl
  | some u =>
    by_cases h : p = a
    · subst h
      obtain ⟨o', h'⟩ := ha'
      rw [hp] at h'
      cases h'
    · rw [e p u h hh] at hp
      cases hp
section
variable {P : Program} {w : World} {K : PySem.W.Frag} {mg : Str → Option Value} {base : Heap}
theorem ce_take {X : Cx} {σ : St} {H : Hp} {a : Addr} {r c k : Int} {e1 e2 : Expr} {p pos : Pos} {Q : VK} {j : Nat} {n : Int} (cd : Cl X.prog X.w X.K X.mg X.base CX0 1 "_law_take" spTake) (hr : Room j X.A) (hj : 1 ≤ j) (hg : Gl X "_law_take")
    (he : ∀ H1 (Q : VK), Q (.ref a) H1 → wE X e1 σ H1 Q) (hn : PD X (Ma a) e2 σ H (.int n)) (ha : H a = some (potL r c k)) (h0 : 0 < n) (h1 : n.natAbs < 2 ^ 8000)
    (q : ∀ z r' k' H', 0 ≤ z → z < n → ExB a H H' → H' a = some (potL r' c k') → Q (.int z) H')
    (hs : starEach (e1 :: [e2]) X.env = (false, eval e1 X.env) :: starEach [e2] X.env := by rfl) (hs2 : starEach (e2 :: []) X.env = (false, eval e2 X.env) :: starEach [] X.env := by rfl) (hpl : (backTo pos (starEach [e2] X.env)).any (·.1) = false := by rfl) : wE X (.Call (.Name "_law_take" p) [e1, e2] [] pos) σ H Q := by
  refine ce_call cd hr hj hg (ca_cons (he _ _ (ca_cons (ce_pd (al_pot ha) hn fun v H2 x2 r2 => ?_) hs2)) hs) (by decide) hs hpl
  cases r2
  exact ca_nil ⟨a, n, r, c, k, rfl, x2 _ _ ha, h0, h1, fun z r' k' H' z0 z1 e h => q z r' k' H' z0 z1 ((ExB.of x2).trans e) h⟩
theorem n8000 {n : Int} (h0 : 0 ≤ n) (h : n ≤ 1000000) : n.natAbs < 2 ^ 8000 := Nat.lt_of_le_of_lt (m := 1000000) (by omega) (by decide +kernel)
/-! ### a weight -/
theorem p12 : (10 : Int) ^ Int.toNat 12 = 1000000000000 := by decide +kernel
end
end TK

namespace TK
open PySem PySem.Spec PyProof.Rows L2 GV
theorem ins_mem {α : Type} (l : List α) (k : Nat) (x y : α) : y ∈ l.take k ++ [x] ++ l.drop k ↔ y = x ∨ y ∈ l := by
  rw [List.mem_append, List.mem_append, List.mem_singleton]
  constructor
  · rintro ((h | h) | h)
    · exact .inr (List.mem_of_mem_take h)
    · exact .inl h
    · exact .inr (List.mem_of_mem_drop h)
  · rintro (h | h)
    · exact .inl (.inr h)
    · rw [← List.take_append_drop k l] at h
      exact (List.mem_append.mp h).elim (fun h => .inl (.inl h)) .inr
theorem ins_len {α : Type} (l : List α) (k : Nat) (x : α) : (l.take k ++ [x] ++ l.drop k).length = l.length + 1 := by
  rw [List.length_append, List.length_append, List.length_take, List.length_drop, List.length_singleton]
  omega
theorem ins_nodup {α : Type} {l : List α} {k : Nat} {x : α} (h : l.Nodup) (hx : x ∉ l) : (l.take k ++ [x] ++ l.drop k).Nodup := by
  have p : (l.take k ++ [x] ++ l.drop k).Perm (x :: l) := by
    have q : (x :: (l.take k ++ l.drop k)).Perm (l.take k ++ ([x] ++ l.drop k)) := (List.perm_middle (l₁ := l.take k) (a := x) (l₂ := l.drop k)).symm
    rw [List.take_append_drop] at q
    rw [List.append_assoc]
    exact q.symm
  exact p.symm.nodup (List.nodup_cons.mpr ⟨hx, h⟩)
def RowL (ns : List Int) : Prop := ns.length ≤ 40 ∧ (∀ z ∈ ns, okW z) ∧ ns.Nodup
def RowQ (a : Addr) (c : Int) (H : Hp) (Q : VK) : Prop := ∀ p (ns : List Int) r' k' H', H p = none → ExB a H H' → H' a = some (potL r' c k') → H' p = some (.lst (ns.map V.int)) → RowL ns → Q (.ref p) H'
end TK

namespace TK
open PySem PySem.Spec PyProof.Rows L2 GV
theorem getD_of {ns : List Int} {i : Nat} {z : Int} (h : ns[i]? = some z) : ns.getD i 0 = z := by
  rw [List.getD_eq_getElem?_getD, h]
  rfl
theorem cut_pair {ns : List Int} {p : Nat} {x y : Int} (hx : ns[p]? = some x) (hy : ns[p + 1]? = some y) : cutD (ns.map PyData.int) (some (p : Int)) (some ((p : Int) + 2)) = [.int x, .int y] := by
  have hp := (List.getElem?_eq_some_iff.mp hy).1
  obtain ⟨hx', ex⟩ := List.getElem?_eq_some_iff.mp hx
  obtain ⟨_, ey⟩ := List.getElem?_eq_some_iff.mp hy
  unfold GV.cutD
  rw [show (p : Int) + 2 = ((p + 2 : Nat) : Int) by omega, HT.sIx_nat, HT.sIx_nat, List.length_map, Nat.min_eq_left (by omega : p ≤ ns.length), Nat.min_eq_left (by omega : p + 2 ≤ ns.length), show p + 2 - p = 2 by omega, ← List.map_drop, ← List.map_take, List.drop_eq_getElem_cons hx', List.drop_eq_getElem_cons hp]
  simp [ex, ey]
def letZ (lo hi z : Int) : Int := if z < lo then 0 else if z < hi then 1 else 2
abbrev ikD (i : Nat) (k : Int) : PyData := .tuple [.int (i : Nat), .int k]
def lo2 (ns : List Int) (p : Nat) : Int := min (ns.getD p 0) (ns.getD (p + 1) 0)
def hi2 (ns : List Int) (p : Nat) : Int := max (ns.getD p 0) (ns.getD (p + 1) 0)
def letL (ns : List Int) (p : Nat) : List Int := ns.map (letZ (lo2 ns p) (hi2 ns p))
def befL (ns : List Int) (p : Nat) : List PyData := (List.range p).map fun i => ikD i ((letL ns p).getD i 0)
def behL (ns : List Int) (p : Nat) : List PyData := (List.range (ns.length - (p + 2))).map fun j => ikD (p + 2 + j) ((letL ns p).getD (p + 2 + j) 0 + 3)
theorem letL_len (ns : List Int) (p : Nat) : (letL ns p).length = ns.length := by
  unfold letL
  rw [List.length_map]
def lD (lo hi : Int) : PyData → PyData
  | .int z => .int (letZ lo hi z)
  | d => d
def beD (l : List Int) : PyData → PyData
  | .int i => ikD i.toNat (l.getD i.toNat 0)
  | d => d
def bhD (l : List Int) : PyData → PyData
  | .int i => ikD i.toNat (l.getD i.toNat 0 + 3)
  | d => d
section
variable {P : Program} {w : World} {K : PySem.W.Frag} {mg : Str → Option Value} {base : Heap}
def R_third (ds es : List PyData) : Prop := ∃ (tp : Bool) (ns : List Int) (p : Nat), p + 1 < ns.length ∧ ns.length ≤ 900 ∧ ds = [sqD tp (ns.map PyData.int), .int (p : Nat)] ∧ es = befL ns p ++ behL ns p
theorem cl_third_kinds {f : Addr} {fd : FuncData} (F : At K mg "_third_kinds" s_third_kinds f fd) (nb : NoB mg) : Cl P w K mg base CX0 1 "_third_kinds" (FreshR K R_third) := by
  refine ⟨f, fd, _, F.fn.ok sc_third_kinds (fun vs H Q E h => ?_) (fun cdv A outer sh H vs Q E hr h => ⟨_, wB.ps, ?_⟩), F.gl, F.fn.kp, F.fn.binds fun _ _ _ _ _ _ us hl => match us, hl with | [_, _], _ => rfl⟩
  · obtain ⟨M, ds, es, al, r, ⟨_, _, _, _, _, rfl, _⟩, _⟩ := h
    rw [r.length]
    rfl
  · obtain ⟨M, ds, es, al, r, ⟨tp, ns, p, hp, hl, rfl, rfl⟩, q⟩ := h
    obtain ⟨u, v, rfl, r1, r2⟩ := rpa2 r
    obtain ⟨x, hx⟩ := get_i (ns := ns) (i := p) (by omega)
    obtain ⟨y, hy⟩ := get_i (ns := ns) (i := p + 1) hp
    have elo : lo2 ns p = min x y := by
      unfold lo2
      rw [getD_of hx, getD_of hy]
    have ehi : hi2 ns p = max x y := by
      unfold hi2
      rw [getD_of hx, getD_of hy]
    refine b_cons (s_unp2 (i := 2) (j := 3) al rfl (fd_sort2 rfl nb.sorted (PD.is (pd_sliceS (nm 0 r1) (od_some (nm 1 r2)) (od_some (pd_add (nm 1 r2) pd_int))) (congrArg (sqD tp) (cut_pair hx hy)))) (pg_name (i := 2) sc_third_kinds.nd rfl (by first | exact .inl rfl | exact .inr rfl)) (pg_name (i := 3) sc_third_kinds.nd rfl (by first | exact .inl rfl | exact .inr rfl)) fun v2 v3 H2 x2 q2 q3 => ?_)
    cases q2
    cases q3
    have al2 := al.mono x2
    have r1a := r1.mono (fun _ z => z) (ExM.of x2)
    have r2a := r2.mono (fun _ z => z) (ExM.of x2)
    refine b_cons (cs_set (i := 4) sc_third_kinds.nd rfl (by first | exact .inl rfl | exact .inr rfl) (ce_fd al2 (fd_map (t := .one 6) (own := [("stone", 6)]) (lD (min x y) (max x y)) rfl sc_third_kinds.nd (src_S (nm 0 r1a)) (blkOk_by (N := n_third_kinds) (sc := defScope s_third_kinds) (by decide +kernel)) (fun _ _ _ _ _ => pg_name (i := 6) sc_third_kinds.nd rfl (.inl rfl)) (fun _ _ => trivial) ?_ ?_ ?_) fun l ws H3 hl3 x3 h3 rw3 => ?_))
    · rintro M H d σ' ⟨v, _, rfl⟩
      rfl
    · rw [List.length_map]
      omega
    · rintro s0 H0 C cl fp M' H' d σ' hM lift hd ⟨v', rv, rfl⟩
      obtain ⟨z, _, rfl⟩ := List.mem_map.mp hd
      refine pd_if (k := decide (z < min x y)) (td_lt (nm 6 rv) (nm 2 (.int (min x y)))) (fun k => PD.is pd_int ?_) (fun k => pd_if (k := decide (z < max x y)) (td_lt (nm 6 rv) (nm 3 (.int (max x y)))) (fun k2 => PD.is pd_int ?_) (fun k2 => PD.is pd_int ?_))
      · show PyData.int 0 = .int (letZ _ _ _)
        unfold letZ
        rw [if_pos (of_decide_eq_true k)]
      · show PyData.int 1 = .int (letZ _ _ _)
        unfold letZ
        rw [if_neg (of_decide_eq_false k), if_pos (of_decide_eq_true k2)]
      · show PyData.int 2 = .int (letZ _ _ _)
        unfold letZ
        rw [if_neg (of_decide_eq_false k), if_neg (of_decide_eq_false k2)]
    have ew : (ns.map PyData.int).map (lD (min x y) (max x y)) = (letL ns p).map PyData.int := by
      unfold letL
      rw [elo, ehi, List.map_map, List.map_map]
      rfl
    rw [ew] at rw3
    have al3 := al2.mono x3
    have rl : Rp K M H3 (.ref l) (intsD (letL ns p)) := .lst (al2.fresh hl3) (.inl h3) rw3
    have r1b := r1a.mono (fun _ z => z) (ExM.of x3)
    have r2b := r2a.mono (fun _ z => z) (ExM.of x3)
    have ll := letL_len ns p
    have i2 : ((p : Nat) : Int) + 2 = ((p + 2 : Nat) : Int) := by omega
    refine b_cons (s_setLc (i := 5) (t := .one 7) (own := [("index", 7)]) (ds := (List.range ((ns.length : Int) - (((p : Nat) : Int) + 2)).toNat).map fun k => PyData.int (((p : Nat) : Int) + 2 + (k : Nat))) rfl sc_third_kinds.nd ?_ (blkOk_by (N := n_third_kinds) (sc := defScope s_third_kinds) (by decide +kernel)) (fun _ _ _ _ _ => pg_name (i := 7) sc_third_kinds.nd rfl (.inl rfl)) (fun _ _ => trivial) ?_ (fun _ => true) (bhD (letL ns p)) ?_ ?_ al3 rfl rfl rfl fun l2 ws2 H4 hl4 x4 h4 rw4 => ?_)
    · exact src_range2 rfl nb.range (pd_add (nm 1 r2b) pd_int) (pd_len nb rfl (nm 0 r1b) (n := ns.length) (by rw [len_sq, List.length_map])) (by omega) (by omega)
    · rintro M H d σ' ⟨v, _, rfl⟩
      rfl
    · rw [List.length_map, List.length_range]
      omega
    · rintro s0 H0 C cl fp M' H' d σ' hM lift hd ⟨v', rv, rfl⟩
      obtain ⟨j, hj, rfl⟩ := List.mem_map.mp hd
      have hj := List.mem_range.mp hj
      have ej : ((p : Nat) : Int) + 2 + (j : Nat) = ((p + 2 + j : Nat) : Int) := by omega
      rw [ej] at rv ⊢
      obtain ⟨z, hz⟩ := get_i (ns := letL ns p) (i := p + 2 + j) (by omega)
      refine ⟨tsd_nil, fun _ => PD.is (pd_tup (ad_cons (nm 7 rv) (ad_cons (pd_add (pd_ix (nm 4 (lift _ _ rl)) (nm 7 rv) (ixD_ints hz)) pd_int) ad_nil)) (by show 2 ≤ 100000; decide)) ?_⟩
      show PyData.tuple [_, _] = ikD _ _
      rw [Int.toNat_natCast, getD_of hz]
    rw [filt_all] at rw4
    have al4 := al3.mono x4
    have rl4 := rl.mono (fun _ z => z) (ExM.of x4)
    have rb4 : Rp K M H4 (.ref l2) (.list (behL ns p)) := by
      have e : ((List.range ((ns.length : Int) - (((p : Nat) : Int) + 2)).toNat).map fun k => PyData.int (((p : Nat) : Int) + 2 + (k : Nat))).map (bhD (letL ns p)) = behL ns p := by
        unfold behL
        rw [show ((ns.length : Int) - (((p : Nat) : Int) + 2)).toNat = ns.length - (p + 2) by omega, List.map_map]
        refine List.map_congr_left fun j _ => ?_
        show ikD _ _ = ikD _ _
        rw [show (((p : Nat) : Int) + 2 + (j : Nat)).toNat = p + 2 + j by omega]
      rw [e] at rw4
      exact .lst (al3.fresh hl4) (.inl h4) rw4
    have lb : (befL ns p).length = p := by
      unfold befL
      rw [List.length_map, List.length_range]
    have lh : (behL ns p).length ≤ 900 := by
      unfold behL
      rw [List.length_map, List.length_range]
      omega
    refine b_cons (cs_ret (ce_fd al4 (fd_cat (es := befL ns p) (fs := behL ns p) (PD.is (FD.pd (fd_map (t := .one 7) (own := [("index", 7)]) (beD (letL ns p)) rfl sc_third_kinds.nd (src_range1 rfl nb.range (nm 1 (r2b.mono (fun _ z => z) (ExM.of x4))) (by omega) (by omega)) (blkOk_by (N := n_third_kinds) (sc := defScope s_third_kinds) (by decide +kernel)) (fun _ _ _ _ _ => pg_name (i := 7) sc_third_kinds.nd rfl (.inl rfl)) (fun _ _ => trivial) ?_ ?_ ?_)) ?_) (nm 5 rb4) (by omega)) fun l5 ws5 H5 hl5 x5 h5 rw5 => q l5 ws5 H5 (Evl.fresh_back ((x2.trans x3).trans x4) hl5) (((x2.trans x3).trans x4).trans x5) h5 rw5))
    · rintro M H d σ' ⟨v, _, rfl⟩
      rfl
    · rw [List.length_map, List.length_range]
      omega
    · rintro s0 H0 C cl fp M' H' d σ' hM lift hd ⟨v', rv, rfl⟩
      obtain ⟨j, hj, rfl⟩ := List.mem_map.mp hd
      have hj := List.mem_range.mp hj
      rw [Int.zero_add] at rv ⊢
      obtain ⟨z, hz⟩ := get_i (ns := letL ns p) (i := j) (by omega)
      refine PD.is (pd_tup (ad_cons (nm 7 rv) (ad_cons (pd_ix (nm 4 (lift _ _ rl4)) (nm 7 rv) (ixD_ints hz)) ad_nil)) (by show 2 ≤ 100000; decide)) ?_
      show PyData.tuple [_, _] = ikD _ _
      rw [Int.toNat_natCast, getD_of hz]
    · congr 1
      unfold befL
      rw [Int.toNat_natCast, List.map_map]
      refine List.map_congr_left fun j _ => ?_
      show ikD _ _ = ikD _ _
      rw [Int.zero_add, Int.toNat_natCast]
end
end TK

namespace TK
open PySem PySem.Spec PyProof.Rows L2 GV
/-! ### the helpers, as indexes and as stones -/
def ltN (lo hi z : Int) : Nat := if z < lo then 0 else if z < hi then 1 else 2
theorem letZ_nat (lo hi z : Int) : letZ lo hi z = ((ltN lo hi z : Nat) : Int) := by
  unfold letZ ltN
  split
  · rfl
  · split <;> rfl
def kdN (ns : List Int) (p i : Nat) : Nat := ltN (lo2 ns p) (hi2 ns p) (ns.getD i 0) + (if i < p then 0 else 3)
def kb (n : Nat) (ns : List Int) (p i : Nat) : Bool := bitN n (kdN ns p i)
def behI (ns : List Int) (p : Nat) : List Nat := (List.range (ns.length - (p + 2))).map (p + 2 + ·)
def hIx (n : Nat) (ns : List Int) (p : Nat) : List Nat := (List.range p).filter (kb n ns p) ++ (behI ns p).filter (kb n ns p)
def natD (ns : List Nat) : List PyData := ns.map fun i => PyData.int (i : Nat)
theorem let_get {ns : List Int} {p i : Nat} {z : Int} (h : ns[i]? = some z) : (letL ns p).getD i 0 = ((ltN (lo2 ns p) (hi2 ns p) z : Nat) : Int) := by
  rw [← letZ_nat]
  refine getD_of ?_
  unfold letL
  rw [List.getElem?_map, h]
  rfl
theorem befL_eq {ns : List Int} {p : Nat} (hp : p + 1 < ns.length) : befL ns p = (List.range p).map fun i => ikD i ((kdN ns p i : Nat) : Int) := by
  unfold befL
  refine List.map_congr_left fun i hi => ?_
  have hi := List.mem_range.mp hi
  obtain ⟨z, hz⟩ := get_i (ns := ns) (i := i) (by omega)
  rw [let_get hz]
  unfold kdN
  rw [if_pos hi, getD_of hz]
  rfl
theorem behL_eq {ns : List Int} {p : Nat} (hp : p + 1 < ns.length) : behL ns p = (behI ns p).map fun i => ikD i ((kdN ns p i : Nat) : Int) := by
  unfold behL behI
  rw [List.map_map]
  refine List.map_congr_left fun j hj => ?_
  have hj := List.mem_range.mp hj
  obtain ⟨z, hz⟩ := get_i (ns := ns) (i := p + 2 + j) (by omega)
  show ikD _ _ = ikD (p + 2 + j) ((kdN ns p (p + 2 + j) : Nat) : Int)
  rw [let_get hz]
  unfold kdN
  rw [if_neg (by omega), getD_of hz]
  rfl
def bkD (n : Nat) : PyData → Bool
  | .tuple [_, .int k] => bitN n k.toNat
  | _ => false
def fD : PyData → PyData
  | .tuple [i, _] => i
  | d => d
theorem help_eq {n : Nat} {ns : List Int} {p : Nat} (hp : p + 1 < ns.length) : ((befL ns p ++ behL ns p).filter (bkD n)).map fD = natD (hIx n ns p) := by
  have one : ∀ l : List Nat, ((l.map fun i => ikD i ((kdN ns p i : Nat) : Int)).filter (bkD n)).map fD = natD (l.filter (kb n ns p)) := fun l => by
    unfold natD
    rw [List.filter_map, List.map_map]
    rfl
  unfold hIx natD
  rw [befL_eq hp, behL_eq hp, List.filter_append, List.map_append, one, one, List.map_append]
  rfl
theorem hIx_ok {n : Nat} {ns : List Int} {p i : Nat} (hp : p + 1 < ns.length) : i ∈ hIx n ns p ↔ i < ns.length ∧ i ≠ p ∧ i ≠ p + 1 ∧ kb n ns p i = true := by
  unfold hIx behI
  rw [List.mem_append, List.mem_filter, List.mem_filter, List.mem_range, List.mem_map]
  constructor
  · rintro (⟨h, k⟩ | ⟨⟨j, hj, rfl⟩, k⟩)
    · exact ⟨by omega, by omega, by omega, k⟩
    · have hj := List.mem_range.mp hj
      exact ⟨by omega, by omega, by omega, k⟩
  · rintro ⟨h1, h2, h3, k⟩
    by_cases hi : i < p
    · exact .inl ⟨hi, k⟩
    · exact .inr ⟨⟨i - (p + 2), List.mem_range.mpr (by omega), by omega⟩, k⟩
theorem hIx_up (n : Nat) (ns : List Int) (p : Nat) : (hIx n ns p).Pairwise (· < ·) := by
  unfold hIx behI
  refine List.pairwise_append.mpr ⟨(List.pairwise_lt_range).filter _, ?_, fun x hx y hy => ?_⟩
  · exact (List.pairwise_map.mpr ((List.pairwise_lt_range).imp fun h => by omega)).filter _
  · have hx := List.mem_range.mp (List.mem_filter.mp hx).1
    obtain ⟨j, _, rfl⟩ := List.mem_map.mp (List.mem_filter.mp hy).1
    omega
section
variable {P : Program} {w : World} {K : PySem.W.Frag} {mg : Str → Option Value} {base : Heap}
def BitM (P : Program) (w : World) (K : PySem.W.Frag) (mg : Str → Option Value) (base : Heap) (CH : Addr) : Prop := ∃ f fd, Meth K CH "names_index" f ∧ FnOk P w K mg base CX0 1 f fd ["self", "index"] (spBit CH) ∧ Binds K fd ["self", "index"] []
def spHP (K : PySem.W.Frag) (CH : Addr) (then_ : (Addr → Prop) → Nat → List Int → Nat → Hp → VK → Prop) : Sp := fun vs H Q _ => ∃ (M : Addr → Prop) (u v : V) (h : Addr) (n : Nat) (tp : Bool) (ns : List Int) (p : Nat), vs = [u, v, .ref h] ∧ Alive M H ∧ Rp K M H u (sqD tp (ns.map PyData.int)) ∧ Rp K M H v (.int (p : Nat)) ∧ p + 1 < ns.length ∧ RowL ns ∧ HAt CH n H h ∧ ¬ M h ∧ then_ M n ns p H Q
theorem NTins {C dx : Addr} {fs : List (Str × V)} : NT (.ins C dx fs) := fun _ z => by cases z
abbrev toIx (K : PySem.W.Frag) (M : Addr → Prop) (n : Nat) (ns : List Int) (p : Nat) (H : Hp) (Q : VK) : Prop := ∀ l ws H', H l = none → Evl.Ex H H' → H' l = some (.lst ws) → RpAll K M H' ws (natD (hIx n ns p)) → Q (.ref l) H'
theorem cl_helper_indexes {f CH : Addr} {fd : FuncData} (F : At K mg "_helper_indexes" s_helper_indexes f fd) (B : HouC K CH) (bm : BitM P w K mg base CH) (ct : Cl P w K mg base CX0 1 "_third_kinds" (FreshR K R_third)) :
    Cl P w K mg base CX0 2 "_helper_indexes" (spHP K CH (toIx K)) := by
  refine ⟨f, fd, _, F.fn.ok sc_helper_indexes (fun vs H Q E h => ?_) (fun cdv A outer sh H vs Q E hr h => ⟨_, wB.ps, ?_⟩), F.gl, F.fn.kp, F.fn.binds fun _ _ _ _ _ _ us hl => match us, hl with | [_, _, _], _ => rfl⟩
  · obtain ⟨M, u, v, h, n, tp, ns, p, rfl, _⟩ := h
    rfl
  · obtain ⟨M, u, v, h, n, tp, ns, p, rfl, al, r1, r2, hp, hrow, ⟨dx, hh⟩, nh, q⟩ := h
    obtain ⟨fb, fdb, bm1, bm2, bm3⟩ := bm
    have hl := hrow.1
    have okd : ∀ d ∈ befL ns p ++ behL ns p, ∃ i k : Nat, d = ikD i (k : Nat) := fun d hd => by
      rw [befL_eq hp, behL_eq hp] at hd
      rcases List.mem_append.mp hd with hd | hd
      · obtain ⟨i, _, rfl⟩ := List.mem_map.mp hd
        exact ⟨_, _, rfl⟩
      · obtain ⟨i, _, rfl⟩ := List.mem_map.mp hd
        exact ⟨_, _, rfl⟩
    refine b_cons (cs_ret (ce_fd al (fd_filterO (t := .two 3 4) (own := [("index", 3), ("kind", 4)]) (bkD n) fD rfl sc_helper_indexes.nd (src_list (FD.pd (fd_callC ct hr (by decide) rfl (ad_cons (nm 0 r1) (ad_cons (nm 1 r2) ad_nil)) ⟨tp, ns, p, hp, by omega, rfl, rfl⟩))) (blkOk_by (N := n_helper_indexes) (sc := defScope s_helper_indexes) (by decide +kernel)) (fun _ _ _ _ _ => pg_tup rfl (pgs_cons (pg_name (i := 3) sc_helper_indexes.nd rfl (.inl rfl)) (pgs_cons (pg_name (i := 4) sc_helper_indexes.nd rfl (.inl rfl)) pgs_nil))) ?_ ?_ ?_ ?_) fun l ws H' h1 h2 h3 h4 => q l ws H' h1 h2 h3 (by rw [← help_eq hp]; exact h4)))
    · intro d hd
      obtain ⟨i, k, rfl⟩ := okd d hd
      exact ⟨_, _, rfl⟩
    · rintro M H d σ' ⟨_, _, _, _, _, _, _, rfl⟩
      rfl
    · have : (befL ns p ++ behL ns p).length ≤ 100000 := by
        unfold befL behL
        rw [List.length_append, List.length_map, List.length_map, List.length_range, List.length_range]
        omega
      exact this
    · rintro s0 H0 C cl fp M' H' d σ' hM lift kp hd ⟨da, db, v1, v2, e, q1, q2, rfl⟩
      obtain ⟨i, k, rfl⟩ := okd d hd
      cases e
      cases q2
      obtain ⟨hh', nh'⟩ := kp _ _ nh NTins hh
      refine ⟨td_val (.mk fun H1 e1 al1 Q q => ?_), PD.is (nm 3 q1) rfl⟩
      have hh1 := e1 _ _ hh' nh' NTins
      refine ce_meth (AtN.name (i := 2) rfl (by first | exact .inl rfl | exact .inr (.inl rfl) | exact .inr (.inr rfl)) rfl) B.ins.cl bm1 bm2 hr (by decide) bm3 pass0 hh1 rfl (ca_cons (ce_nm 4 (ca_nil ⟨h, n, k, rfl, ⟨dx, hh1⟩, fun H3 x3 => ?_⟩)))
      have e2 : bitN n k = bkD n (ikD i (k : Nat)) := by
        show _ = bitN n ((k : Nat) : Int).toNat
        rw [Int.toNat_natCast]
      rw [e2]
      exact q _ H3 x3 (.bl _)
end
end TK

namespace TK
open PySem PySem.Spec PyProof.Rows L2 GV
section
variable {P : Program} {w : World} {K : PySem.W.Frag} {mg : Str → Option Value} {base : Heap}
theorem rowW {ns : List Int} (h : RowL ns) : ∀ z ∈ ns, isWeightD (.int z) = true := fun z hz => (h.2.1 z hz).is
def spRowOk (K : PySem.W.Frag) (g : Hp → VK → Prop) : Sp := fun vs H Q _ => ∃ (M : Addr → Prop) (v : V) (tp : Bool) (ns : List Int), vs = [v] ∧ Alive M H ∧ Rp K M H v (sqD tp (ns.map PyData.int)) ∧ RowL ns ∧ g H Q
theorem bagB_of {tp : Bool} {ns : List Int} (hl : ns.length ≤ 40) (hw : ∀ z ∈ ns, isWeightD (.int z) = true) : bagB (sqD tp (ns.map PyData.int)) = true := by
  have e : (ns.map PyData.int).all isWeightD = true := List.all_eq_true.mpr fun d hd => by
    obtain ⟨z, hz, rfl⟩ := List.mem_map.mp hd
    exact hw z hz
  have e2 : decide ((ns.map PyData.int).length ≤ 40) = true := decide_eq_true (by rw [List.length_map]; exact hl)
  cases tp <;> (show (true && decide ((ns.map PyData.int).length ≤ 40) && (ns.map PyData.int).all isWeightD) = true; rw [e, e2]; rfl)
theorem parts_sq' (tp : Bool) (ds : List PyData) : (partsD (sqD tp ds)).length = ds.length := by cases tp <;> rfl
abbrev toB (b : Bool) (H : Hp) (Q : VK) : Prop := ∀ H', Evl.Ex H H' → Q (.bl b) H'
abbrev toN (H : Hp) (Q : VK) : Prop := ∀ H', Evl.Ex H H' → Q .non H'
theorem cl_is_row {f : Addr} {fd : FuncData} (F : At K mg "is_row" s_is_row f fd) (nb : NoB mg) (c1 : Cl P w K mg base CX0 4 "is_bag_row" (PureR K R_bag)) : Cl P w K mg base CX0 5 "is_row" (spRowOk K (toB true)) := by
  refine ⟨f, fd, _, F.fn.ok sc_is_row (fun vs H Q E h => ?_) (fun cdv A outer s H vs Q E hr h => ⟨_, wB.ps, ?_⟩), F.gl, F.fn.kp, F.fn.binds fun _ _ _ _ _ _ us hl => match us, hl with | [_], _ => rfl⟩
  · obtain ⟨M, v, tp, ns, rfl, _⟩ := h
    rfl
  · obtain ⟨M, v, tp, ns, rfl, al, r1, hrow, q⟩ := h
    have hb := bagB_of (tp := tp) hrow.1 (rowW hrow)
    have hl := hrow.1
    refine b_cons (s_ret al (pd_and (k1 := true) (k2 := true) (PD.is (pd_callC c1 hr (by decide) rfl (ad_cons (nm 0 r1) ad_nil) ⟨_, rfl, (by rw [parts_sq', List.length_map]; omega), rfl⟩) (by rw [hb])) fun _ => pd_one (PD.is (pd_eq hr.units (pd_lenSet rfl rfl nb.len rfl nb.set (nm 0 r1) (by omega)) (pd_len nb rfl (nm 0 r1) (n := ns.length) (by rw [len_sq, List.length_map])) rfl rfl) ?_)) fun v2 H2 x2 r2 => ?_)
    · rw [dd_eq.mpr hrow.2.2, eqv_int]
      simp
    · cases r2
      exact q H2 x2
theorem cl_check_row {f : Addr} {fd : FuncData} (F : At K mg "check_row" s_check_row f fd) (c1 : Cl P w K mg base CX0 5 "is_row" (spRowOk K (toB true))) : Cl P w K mg base CX0 6 "check_row" (spRowOk K toN) := by
  refine ⟨f, fd, _, F.fn.ok sc_check_row (fun vs H Q E h => ?_) (fun cdv A outer s H vs Q E hr h => ⟨_, wB.ps, ?_⟩), F.gl, F.fn.kp, F.fn.binds fun _ _ _ _ _ _ us hl => match us, hl with | [_], _ => rfl⟩
  · obtain ⟨M, v, tp, ns, rfl, _⟩ := h
    rfl
  · obtain ⟨M, v, tp, ns, rfl, al, bg, hn, q⟩ := h
    exact b_cons (cs_if (ct_not (ct_val (ce_call c1 hr (by decide) rfl (ca_cons (ce_nm 0 (ca_nil ⟨M, v, tp, ns, rfl, al, bg, hn, fun H2 x2 => ⟨true, rfl, b_nil (b_nil (q H2 x2))⟩⟩)))))))
def R_place (ds : List PyData) (d : PyData) : Prop := ∃ (tp : Bool) (ns : List Int) (p : Nat), p + 1 < ns.length ∧ ds = [sqD tp (ns.map PyData.int), .int (p : Nat)] ∧ d = .bool true
theorem cl_is_place {f : Addr} {fd : FuncData} (F : At K mg "is_place" s_is_place f fd) (nb : NoB mg) (c1 : Cl P w K mg base CX0 2 "is_number" (PureR K R_is_number)) : Cl P w K mg base CX0 3 "is_place" (PureR K R_place) := by
  refine cl_pure F sc_is_place (F.fn.binds fun _ _ _ _ _ _ us hl => match us, hl with | [_, _], _ => rfl) (fun ds d h => ?_) (fun X cdv A outer s H Q E M vs ds d hX hr al r h q => ?_)
  · obtain ⟨_, _, _, _, rfl, _⟩ := h
    rfl
  · obtain ⟨tp, ns, p, hp, rfl, rfl⟩ := h
    obtain ⟨u, v, rfl, r1, r2⟩ := rpa2 r
    subst hX
    refine b_cons (s_ret al (pd_callC c1 hr (by decide) rfl (ad_cons (nm 1 r2) (ad_cons pd_int (ad_cons (pd_sub (pd_len nb rfl (nm 0 r1) (n := ns.length) (by rw [len_sq, List.length_map])) pd_int) ad_nil))) ⟨_, _, _, rfl, ?_⟩) q)
    show PyData.bool true = .bool (decide ((0 : Int) ≤ (p : Nat)) && decide (((p : Nat) : Int) ≤ (ns.length : Nat) - 2))
    rw [decide_eq_true (by omega), decide_eq_true (by omega)]
    rfl
def spPlOk (K : PySem.W.Frag) : Sp := fun vs H Q _ => ∃ (M : Addr → Prop) (u v : V) (tp : Bool) (ns : List Int) (p : Nat), vs = [u, v] ∧ Alive M H ∧ Rp K M H u (sqD tp (ns.map PyData.int)) ∧ Rp K M H v (.int (p : Nat)) ∧ p + 1 < ns.length ∧ toN H Q
theorem cl_check_place {f : Addr} {fd : FuncData} (F : At K mg "check_place" s_check_place f fd) (c1 : Cl P w K mg base CX0 3 "is_place" (PureR K R_place)) : Cl P w K mg base CX0 4 "check_place" (spPlOk K) := by
  refine ⟨f, fd, _, F.fn.ok sc_check_place (fun vs H Q E h => ?_) (fun cdv A outer s H vs Q E hr h => ⟨_, wB.ps, ?_⟩), F.gl, F.fn.kp, F.fn.binds fun _ _ _ _ _ _ us hl => match us, hl with | [_, _], _ => rfl⟩
  · obtain ⟨M, u, v, tp, ns, p, rfl, _⟩ := h
    rfl
  · obtain ⟨M, u, v, tp, ns, p, rfl, al, r1, r2, hp, q⟩ := h
    exact b_cons (s_if (k := false) al (td_not (k := true) (td_val (pd_callC c1 hr (by decide) rfl (ad_cons (nm 0 r1) (ad_cons (nm 1 r2) ad_nil)) ⟨tp, ns, p, hp, rfl, rfl⟩))) (fun k => by cases k) (fun _ H2 x2 => b_nil (b_nil (q H2 x2))))
def spHoOk (CH : Addr) : Sp := fun vs H Q _ => ∃ h n, vs = [.ref h] ∧ HAt CH n H h ∧ toN H Q
theorem cl_check_house {f CH : Addr} {fd : FuncData} (F : At K mg "check_house" s_check_house f fd) (nb : NoB mg) (B : HouC K CH) (gH : mg "House" = some (.ref CH)) : Cl P w K mg base CX0 1 "check_house" (spHoOk CH) := by
  refine ⟨f, fd, _, F.fn.ok sc_check_house (fun vs H Q E h => ?_) (fun cdv A outer s H vs Q E hr h => ⟨_, wB.ps, ?_⟩), F.gl, F.fn.kp, F.fn.binds fun _ _ _ _ _ _ us hl => match us, hl with | [_], _ => rfl⟩
  · obtain ⟨h, n, rfl, _⟩ := h
    rfl
  · obtain ⟨h, n, rfl, ⟨dx, hh⟩, q⟩ := h
    exact b_cons (cs_if (ct_not (ct_val ⟨_, pe_callB (C8.call_isC B.ins) rfl nb.isinstance PyProof.Rows.boot_isinstance (pa_cons wE.pe (pa_cons (pe_glob rfl gH (v := .ref CH) rfl (by decide)) pa_nil)) (by decide) (by decide), ce_nm 0 ⟨h, dx, _, rfl, hh, ⟨true, rfl, b_nil (b_nil (q H (Evl.Ex.refl H)))⟩⟩⟩)))
theorem cl_check_all {f CH : Addr} {fd : FuncData} (F : At K mg "_check_all" s_check_all f fd) (c1 : Cl P w K mg base CX0 6 "check_row" (spRowOk K toN)) (c2 : Cl P w K mg base CX0 4 "check_place" (spPlOk K)) (c3 : Cl P w K mg base CX0 1 "check_house" (spHoOk CH)) : Cl P w K mg base CX0 7 "_check_all" (spHP K CH fun _ _ _ _ H Q => toN H Q) := by
  refine ⟨f, fd, _, F.fn.ok sc_check_all (fun vs H Q E h => ?_) (fun cdv A outer s H vs Q E hr h => ⟨_, wB.ps, ?_⟩), F.gl, F.fn.kp, F.fn.binds fun _ _ _ _ _ _ us hl => match us, hl with | [_, _, _], _ => rfl⟩
  · obtain ⟨M, u, v, h, n, tp, ns, p, rfl, _⟩ := h
    rfl
  · obtain ⟨M, u, v, h, n, tp, ns, p, rfl, al, r1, r2, hp, hrow, hh, nh, q⟩ := h
    refine b_cons (cs_expr (ce_call c1 hr (by decide) rfl (ca_cons (ce_nm 0 (ca_nil ⟨M, u, tp, ns, rfl, al, r1, hrow, fun H2 x2 => ?_⟩)))))
    refine b_cons (cs_expr (ce_call c2 hr (by decide) rfl (ca_cons (ce_nm 0 (ca_cons (ce_nm 1 (ca_nil ⟨M, u, v, tp, ns, p, rfl, al.mono x2, r1.mono (fun _ z => z) (ExM.of x2), r2.mono (fun _ z => z) (ExM.of x2), hp, fun H3 x3 => ?_⟩)))))))
    exact b_cons (cs_expr (ce_call c3 hr (by decide) rfl (ca_cons (ce_nm 2 (ca_nil ⟨h, n, rfl, (hh.ex fun o => x2 _ _).ex fun o => x3 _ _, fun H4 x4 => b_nil (q H4 ((x2.trans x3).trans x4))⟩)))))
/-! ### the functions that the law asks -/
def stL (n : Nat) (ns : List Int) (p : Nat) : List Int := (hIx n ns p).map fun i => ns.getD i 0
def rowD (ns : List Int) : PyData → PyData
  | .int i => .int (ns.getD i.toNat 0)
  | d => d
abbrev toL (K : PySem.W.Frag) (M : Addr → Prop) (zs : List Int) (H : Hp) (Q : VK) : Prop := ∀ l ws H', H l = none → Evl.Ex H H' → H' l = some (.lst ws) → RpAll K M H' ws (zs.map PyData.int) → Q (.ref l) H'
def optD : Option Int → PyData
  | none => .none
  | some z => .int z
end
end TK

namespace TK
open PySem PySem.Spec PyProof.Rows L2 GV
structure FunC (K : PySem.W.Frag) (mg : Str → Option Value) (x : Str) (st : Stmt) (f : Addr) (fd : FuncData) (cdv : Value) : Prop where
  ex : ∃ oc od kV doc pm an ct osl, fd = PySem.W.fnOf x x (defArgs st) (defBody st) (defScope st) .none kV doc pm an cdv ct ∧ K.lookup f = some ⟨oc, od, .func fd, osl⟩ ∧ PySem.W.codeIn K cdv x = true
  kp : PySem.W.keepIn K (.ref f) = true
  gl : mg x = some (.ref f)
theorem FunC.fn {K : PySem.W.Frag} {mg : Str → Option Value} {x : Str} {st : Stmt} {f : Addr} {fd : FuncData} {cdv : Value} (F : FunC K mg x st f fd cdv) : Fun K x x st f fd := by
  obtain ⟨oc, od, kV, doc, pm, an, ct, osl, h1, h2, h3⟩ := F.ex
  exact ⟨⟨oc, od, kV, doc, pm, an, cdv, ct, osl, h1, h2, h3⟩, F.kp⟩
section
variable {P : Program} {w : World} {K : PySem.W.Frag} {mg : Str → Option Value} {base : Heap}
theorem FunC.ok {x : Str} {st : Stmt} {f : Addr} {fd : FuncData} {cdv : Value} {N ps : List Str} {k : Nat} {sp : Sp} (F : FunC K mg x st f fd cdv) (S : FnScope N ps (defScope st)) (len : ∀ vs H Q E, sp vs H Q E → vs.length = ps.length)
    (body : ∀ (A : Around) (outer : List Env) (s : Shared) (H : Hp) (vs : List V) (Q : VK) (E : XK), Room k (A.deeper (PyProof.Rows.envOfC x (defScope st) s.heap.objs.size f cdv)) → sp vs H Q E →
      wB (cxOf CX0 P w K mg base N x (defScope st) f cdv A outer s H E).nox (defBody st) { nx := fun _ H' => Q .non H', rt := Q } (L2.start N vs) H) : FnOk P w K mg base CX0 (k + 1) f fd ps sp := by
  obtain ⟨oc, od, kV, doc, pm, an, ct, osl, rfl, lk, hcd⟩ := F.ex
  exact fn_of lk hcd S len fun A outer s H vs Q E hr hsp => ⟨_, PSs.nox wB.ps, body A outer s H vs Q E hr hsp⟩
def LamB (mg : Str → Option Value) (base : Heap) (T : List (Addr × Str)) (cdv : Value) (q : Str) : Prop := ∃ c Pt, cdv = .ref c ∧ LamX.TabB base mg c Pt ∧ (Pt, q) ∈ T ∧ ∀ p ∈ T, p.1 = Pt → p.2 = q
theorem exM_ofN {M : Addr → Prop} {H H' : Hp} (e : LamX.ExtN H H') : ExM M H H' := fun a o h _ n => e a o h n

theorem ExM.m0 {M : Addr → Prop} {H H' : Hp} (e : ExM M0 H H') : ExM M H H' := fun a o h _ n => e a o h (fun z => z) n
def nearK (p : Nat) (i : Int) : Int := if i < p then p - i else i - p - 1
def R_near (ds : List PyData) (d : PyData) : Prop := ∃ (p : Nat) (i : Int), ds = [.int (p : Nat), .int i] ∧ d = .int (nearK p i)
theorem cl_nearness {f : Addr} {fd : FuncData} (F : At K mg "_nearness" s_nearness f fd) : Cl P w K mg base CX0 1 "_nearness" (PureR K R_near) := by
  refine cl_pure F sc_nearness (F.fn.binds fun _ _ _ _ _ _ us hl => match us, hl with | [_, _], _ => rfl) (fun ds d h => ?_) (fun X cdv A outer s H Q E M vs ds d hX hr al r h q => ?_)
  · obtain ⟨_, _, rfl, _⟩ := h
    rfl
  · obtain ⟨p, i, rfl, rfl⟩ := h
    obtain ⟨u, v, rfl, r1, r2⟩ := rpa2 r
    subst hX
    refine b_cons (s_ret al (pd_if (k := decide (i < (p : Int))) (td_lt (nm 1 r2) (nm 0 r1)) (fun k => PD.is (pd_sub (nm 0 r1) (nm 1 r2)) ?_) (fun k => PD.is (pd_sub (pd_sub (nm 1 r2) (nm 0 r1)) pd_int) ?_)) q)
    · unfold nearK
      rw [if_pos (of_decide_eq_true k)]
    · unfold nearK
      rw [if_neg (of_decide_eq_false k)]
def ixI (n : Nat) (ns : List Int) (p : Nat) : List Int := (hIx n ns p).map fun i => ((i : Nat) : Int)
def nearL (n : Nat) (ns : List Int) (p : Nat) : Option Int := if hIx n ns p = [] then none else some (ns.getD (firstK (nearK p) (ixI n ns p)).toNat 0)
theorem firstK_mem {key : Int → Int} {ns : List Int} (h : ns ≠ []) : firstK key ns ∈ ns := by
  obtain ⟨h1, _⟩ := argB_spec key ns (ns.length - 1)
  have := List.length_pos_iff.mpr h
  unfold firstK
  rw [List.getD_eq_getElem?_getD, List.getElem?_eq_getElem (by omega)]
  exact List.getElem_mem _
def spHT (K : PySem.W.Frag) (CH : Addr) (T : List (Addr × Str)) (then_ : (Addr → Prop) → Nat → List Int → Nat → Hp → VK → Prop) : Sp := fun vs H Q _ => ∃ (M : Addr → Prop) (u v : V) (h : Addr) (n : Nat) (tp : Bool) (ns : List Int) (p : Nat), vs = [u, v, .ref h] ∧ Alive M H ∧ Rp K M H u (sqD tp (ns.map PyData.int)) ∧ Rp K M H v (.int (p : Nat)) ∧ p + 1 < ns.length ∧ RowL ns ∧ HAt CH n H h ∧ ¬ M h ∧ LamX.Tabs T H ∧ then_ M n ns p H Q
abbrev toT (T : List (Addr × Str)) (o : Option Int) (H : Hp) (Q : VK) : Prop := ∀ v H', ExM M0 H H' → LamX.Tabs T H' → Rp K M0 H' v (optD o) → Q v H'
theorem cl_nearest {f CH : Addr} {fd : FuncData} {cdv : Value} {T : List (Addr × Str)} (F : FunC K mg "nearest_helper" s_nearest_helper f fd cdv) (nb : NoB mg) (lb : LamB mg base T cdv ((PyProof.Rows.envOfC "nearest_helper" (defScope s_nearest_helper) 0 f cdv).qual ++ "<lambda>"))
    (ck : Cl P w K mg base CX0 7 "_check_all" (spHP K CH fun _ _ _ _ H Q => toN H Q)) (ch : Cl P w K mg base CX0 2 "_helper_indexes" (spHP K CH (toIx K))) (cn : Cl P w K mg base CX0 1 "_nearness" (PureR K R_near)) :
    Cl P w K mg base CX0 8 "nearest_helper" (spHT K CH T fun _ n ns p H Q => toT (K := K) T (nearL n ns p) H Q) := by
  obtain ⟨c, Pt, hc, tb, hmT, hu⟩ := lb
  refine ⟨f, fd, _, F.ok sc_nearest_helper (fun vs H Q E h => ?_) (fun A outer s H vs Q E hr h => ?_), F.gl, F.kp, F.fn.binds fun _ _ _ _ _ _ us hl => match us, hl with | [_, _, _], _ => rfl⟩
  · obtain ⟨M, u, v, h, n, tp, ns, p, rfl, _⟩ := h
    rfl
  · obtain ⟨M, u, v, h, n, tp, ns, p, rfl, al, r1, r2, hp, hrow, hh, nh, hT, q⟩ := h
    refine b_cons (cs_expr (ce_call ck hr (by decide) rfl (ca_cons (ce_nm 0 (ca_cons (ce_nm 1 (ca_cons (ce_nm 2 (ca_nil ⟨M, u, v, h, n, tp, ns, p, rfl, al, r1, r2, hp, hrow, hh, nh, fun H2 x2 => ?_⟩)))))))))
    have al2 := al.mono x2
    have r1a := r1.mono (fun _ z => z) (ExM.of x2)
    have r2a := r2.mono (fun _ z => z) (ExM.of x2)
    have hh2 := hh.ex fun o => x2 _ _
    refine b_cons (cs_set (i := 3) sc_nearest_helper.nd rfl (by first | exact .inl rfl | exact .inr rfl) (ce_call ch hr (by decide) rfl (ca_cons (ce_nm 0 (ca_cons (ce_nm 1 (ca_cons (ce_nm 2 (ca_nil ⟨M, u, v, h, n, tp, ns, p, rfl, al2, r1a, r2a, hp, hrow, hh2, nh, fun l ws H3 hl x3 h3 r3 => ?_⟩)))))))))
    have al3 := al2.mono x3
    have r1b := r1a.mono (fun _ z => z) (ExM.of x3)
    cases r2
    have ei : natD (hIx n ns p) = (ixI n ns p).map PyData.int := by
      unfold natD ixI
      rw [List.map_map]
      rfl
    have rl : Rp K M H3 (.ref l) (intsD (ixI n ns p)) := .lst (al2.fresh hl) (.inl h3) (by rw [← ei]; exact r3)
    have ew := RpAll.of_ints (by rw [← ei]; exact r3 : RpAll K M H3 ws ((ixI n ns p).map PyData.int))
    refine b_cons (s_if (k := decide (hIx n ns p = [])) al3 (TD.is (td_eq hr.units (pd_len nb rfl (nm 3 rl) (n := (ixI n ns p).length) (by simp [lenD])) pd_int rfl rfl) ?_) (fun k H4 x4 => ?_) (fun k H4 x4 => b_nil ?_))
    · unfold ixI
      rw [eqv_int, List.length_map, Bool.eq_iff_iff, decide_eq_true_eq, decide_eq_true_eq, ← List.length_eq_zero_iff]
      omega
    · refine b_cons (s_ret (al3.mono x4) pd_non fun v5 H5 x5 r5 => ?_)
      cases r5
      refine q _ H5 (.of (((x2.trans x3).trans x4).trans x5)) (hT.ext (((x2.trans x3).trans x4).trans x5)) ?_
      unfold nearL
      rw [if_pos (of_decide_eq_true k)]
      exact .non
    · have ne : hIx n ns p ≠ [] := of_decide_eq_false k
      have ne2 : ixI n ns p ≠ [] := fun e => ne (by
        unfold ixI at e
        exact List.map_eq_nil_iff.mp e)
      have x04 := (x2.trans x3).trans x4
      refine b_cons (cs_ret (ce_ix (ce_nm 0 (ce_minKey (k := 1) (i := 4) (a := "index") (nearK p) rfl sc_nearest_helper.nd rfl rfl nb.min (hr.mono (by decide)) tb hc hmT hu (lam1_by (by show lam1B (defScope s_nearest_helper) _ "index" = true; decide +kernel)) rfl (fun _ _ _ _ _ _ => rfl) (ce_nm 3 ⟨l, ixI n ns p, rfl, .inl (.inl (by rw [← ew]; exact x4 _ _ h3)), ne2, hT.ext x04, fun H5 e5 T5 => ⟨fun z hz A2 outer2 s2 H02 f2 c2 H6 hr2 x6 => ?_, fun H6 x6 => ?_⟩⟩)))))
      · exact ce_pd (M := M0) alive0 (pd_callC cn hr2 (by decide) rfl (ad_cons (nm 1 (.int (p : Nat))) (ad_cons (nm 4 (.int z)) ad_nil)) ⟨p, z, rfl, rfl⟩) fun v7 H7 x7 r7 => by
          cases r7
          exact ⟨rfl, x7⟩
      · have eM : ExM M0 H H6 := (ExM.of x04).trans ((exM_ofN e5).trans (.of x6))
        obtain ⟨i, hi, ei⟩ := List.mem_map.mp (firstK_mem (key := nearK p) ne2)
        have ei : ((i : Nat) : Int) = firstK (nearK p) (ixI n ns p) := ei
        obtain ⟨z, hz⟩ := get_i (ns := ns) (i := i) ((hIx_ok hp).mp hi).1
        have en : nearL n ns p = some z := by
          unfold nearL
          rw [if_neg ne, ← ei, Int.toNat_natCast, getD_of hz]
        rw [← ei]
        refine rIx_of (M := M) (r1.mono (fun _ z => z) (ExM.m0 eM)) (ix_sqI hz) fun v7 r7 => ?_
        cases r7
        refine q _ H6 eM (T5.ext x6) ?_
        rw [en]
        exact .int z
end
end TK

namespace TK
open PySem PySem.Spec PyProof.Rows L2 GV
def exch (ns : List Int) (p : Nat) : List Int := (ns.set p (ns.getD (p + 1) 0)).set (p + 1) (ns.getD p 0)
theorem exch_eq {ns : List Int} {p : Nat} (h : p + 1 < ns.length) : ∃ x y A B, ns[p]? = some x ∧ ns[p + 1]? = some y ∧ A = ns.take p ∧ B = ns.drop (p + 2) ∧ ns = A ++ x :: y :: B ∧ exch ns p = A ++ y :: x :: B := by
  induction ns generalizing p with
  | nil => simp at h
  | cons z t ih =>
    cases p with
    | zero =>
      cases t with
      | nil => simp at h
      | cons y t => exact ⟨z, y, [], t, rfl, rfl, rfl, rfl, rfl, rfl⟩
    | succ p =>
      obtain ⟨x, y, A, B, h1, h2, h3, h4, h5, h6⟩ := ih (p := p) (by simpa using h)
      refine ⟨x, y, z :: A, B, h1, h2, by rw [h3]; rfl, h4, congrArg (z :: ·) h5, ?_⟩
      show z :: exch t p = _
      rw [h6]
      rfl
theorem cutD_dropI (ns : List Int) (i : Nat) : cutD (ns.map PyData.int) (some (i : Int)) none = (ns.drop i).map PyData.int := by rw [cutD_drop, List.map_drop]
section
variable {P : Program} {w : World} {K : PySem.W.Frag} {mg : Str → Option Value} {base : Heap}
/-! ### all tame places -/
/-! ### two neighbours exchanged -/
end
end TK

namespace TK
open PySem PySem.Spec PyProof.Rows L2 GV
theorem cut_takeI (ns : List Int) (i : Nat) : cutD (ns.map PyData.int) none (some (i : Int)) = (ns.take i).map PyData.int := by rw [cutD_take, List.map_take]
theorem cut_drop2 (ns : List Int) (i : Nat) : cutD (ns.map PyData.int) (some ((i : Int) + 2)) none = (ns.drop (i + 2)).map PyData.int := by
  rw [show (i : Int) + 2 = ((i + 2 : Nat) : Int) by omega, cutD_dropI]
section
variable {P : Program} {w : World} {K : PySem.W.Frag} {mg : Str → Option Value} {base : Heap}
/-! ### the row after a change -/
def R_swap (ds : List PyData) (d : PyData) : Prop := ∃ (ns : List Int) (p : Nat), p + 1 < ns.length ∧ ns.length ≤ 900 ∧ ds = [tintsD ns, .int (p : Nat)] ∧ d = tintsD (exch ns p)
theorem cl_swapped {f : Addr} {fd : FuncData} (F : At K mg "swapped" s_swapped f fd) : Cl P w K mg base CX0 1 "swapped" (PureR K R_swap) := by
  refine cl_pure F sc_swapped (F.fn.binds fun _ _ _ _ _ _ us hl => match us, hl with | [_, _], _ => rfl) (fun ds d h => ?_) (fun X cdv A outer s H Q E M vs ds d hX hr al r h q => ?_)
  · obtain ⟨_, _, _, _, rfl, _⟩ := h
    rfl
  · obtain ⟨ns, p, hp, hl, rfl, rfl⟩ := h
    obtain ⟨u, v, rfl, r1, r2⟩ := rpa2 r
    subst hX
    obtain ⟨x, y, A', B', hx, hy, rfl, rfl, en, ee⟩ := exch_eq hp
    have i1 : ((p : Nat) : Int) + 1 = ((p + 1 : Nat) : Int) := by omega
    refine b_cons (s_ret al (PD.is (pd_catT (es := ((ns.take p).map PyData.int) ++ [.int y, .int x]) (fs := (ns.drop (p + 2)).map PyData.int) (pd_catT (es := (ns.take p).map PyData.int) (fs := [.int y, .int x]) (PD.is (pd_sliceT (nm 0 r1) od_none (od_some (nm 1 r2))) (congrArg PyData.tuple (cut_takeI ns p)))
      (pd_tup (ad_cons (pd_ix (nm 0 r1) (PD.is (pd_add (nm 1 r2) pd_int) (congrArg PyData.int i1)) (ix_sqI (tp := true) hy)) (ad_cons (pd_ix (nm 0 r1) (nm 1 r2) (ix_sqI (tp := true) hx)) ad_nil)) (by show 2 ≤ 100000; decide)) ?_) (PD.is (pd_sliceT (nm 0 r1) (od_some (pd_add (nm 1 r2) pd_int)) od_none) (congrArg PyData.tuple (cut_drop2 ns p))) ?_) ?_) q)
    · rw [List.length_map, List.length_take]
      show min p ns.length + 2 ≤ 100000
      omega
    · rw [List.length_append, List.length_map, List.length_map, List.length_take, List.length_drop]
      show min p ns.length + 2 + _ ≤ 100000
      omega
    · show PyData.tuple _ = PyData.tuple _
      rw [ee, List.map_append]
      simp
end
end TK

/-! objects: methods of whatever object, own operators, own == and own len, calls without arguments -/
namespace PySem.W
open PySem PySem.Calls PyProof.Rows
end PySem.W
namespace GV
open PySem PySem.Spec PyProof.Rows L2
/-- a method (or an own operator) of the class at C, with what it promises -/
def MethS (P : Program) (w : World) (K : PySem.W.Frag) (mg : Str → Option Value) (base : Heap) (CX : CXT) (C : Addr) (m : Str) (k : Nat) (ps : List Str) (sp : Sp) : Prop := ∃ f fd, Meth K C m f ∧ FnOk P w K mg base CX k f fd ps sp ∧ Binds K fd ps []
/-- what an operator of the class's own wants of the right side: its type -/
structure RightT (K : PySem.W.Frag) (C : Addr) (op : Operator) (T : String) : Prop where
  ex : ∃ p1 p2 p3, PySem.W.findIn K (.ref C) (PySem.dunderR op.info.2) = some p3 ∧ (p3 = none ∨ ∃ g : Addr, p3 = some (.ref g)) ∧ PySem.W.findIn K (.type T) (PySem.dunder op.info.2) = some p1 ∧ PySem.W.findIn K (.type T) (PySem.dunderR op.info.2) = some p2
  sub : PySem.W.subIn K (.type T) (.ref C) = some false
section
variable {X : Cx} {M : Addr → Prop} {σ : St} {H : Hp} {a b e o : Expr} {es : List Expr} {pos : Pos}
/-- o.m(e, ..), whatever o is -/
theorem ce_methH {sp : Sp} {Q : VK} {j k : Nat} {C : Addr} {m : Str} {ps : List Str} {apos : Pos} {pl : Sem Bool} (c : Cls X.K C) (mt : MethS X.prog X.w X.K X.mg X.base CX0 C m k ps sp) (hr : Room j X.A) (hkj : k ≤ j)
    (h : wE X o σ H fun x H1 => ∃ a dx fs, x = .ref a ∧ H1 a = some (.ins C dx fs) ∧ fs.lookup m = none ∧ wA X (e :: es) σ H1 fun vs H2 => sp (.ref a :: vs) H2 Q E0)
    (he : starEach (e :: es) X.env = (false, eval e X.env) :: starEach es X.env := by rfl) (hpl : (backTo pos (starEach es X.env)).any (·.1) = false := by rfl)
    (hev : eval (.Call (.Attribute o m apos) (e :: es) [] pos) X.env = (do
      let ov ← eval o X.env
      standAt apos.atName
      let (f, first) ← holding [ov] (getMethod ov m pl)
      callWith pos f first (backTo pos (starEach (e :: es) X.env)) (backToKw pos (keywordEach [] X.env))) := by rfl) : wE X (.Call (.Attribute o m apos) (e :: es) [] pos) σ H Q := by
  obtain ⟨f, fd, hm, F, hb⟩ := mt
  refine ⟨_, pe_meth wE.pe c hm F (hr.mono hkj) hb .nil pass0 wA.pa he hpl hev, wE.weak h ?_⟩
  rintro x H1 ⟨p, dx, fs, rfl, hp, hf, hA⟩
  refine ⟨p, dx, fs, rfl, hp, hf, ?_⟩
  simp only [List.append_nil]
  exact hA
theorem ce_methH0 {sp : Sp} {Q : VK} {j k : Nat} {C : Addr} {m : Str} {ps : List Str} {apos : Pos} {pl : Sem Bool} (c : Cls X.K C) (mt : MethS X.prog X.w X.K X.mg X.base CX0 C m k ps sp) (hr : Room j X.A) (hkj : k ≤ j)
    (h : wE X o σ H fun x H1 => ∃ a dx fs, x = .ref a ∧ H1 a = some (.ins C dx fs) ∧ fs.lookup m = none ∧ sp [.ref a] H1 Q E0)
    (hev : eval (.Call (.Attribute o m apos) [] [] pos) X.env = (do
      let ov ← eval o X.env
      standAt apos.atName
      let (f, first) ← holding [ov] (getMethod ov m pl)
      callWith pos f first (backTo pos (starEach [] X.env)) (backToKw pos (keywordEach [] X.env))) := by rfl) : wE X (.Call (.Attribute o m apos) [] [] pos) σ H Q := by
  obtain ⟨f, fd, hm, F, hb⟩ := mt
  refine ⟨_, pe_meth0 wE.pe c hm F (hr.mono hkj) hb .nil pass0 hev, wE.weak h ?_⟩
  rintro x H1 ⟨p, dx, fs, rfl, hp, hf, hA⟩
  exact ⟨p, dx, fs, rfl, hp, hf, hA⟩
/-- .. that may raise -/
theorem ce_methX {sp : Sp} {W : WX} {Q : VK} {j k : Nat} {C : Addr} {m : Str} {ps : List Str} {apos : Pos} {pl : Sem Bool} (c : Cls X.K C) (mt : MethS X.prog X.w X.K X.mg X.base (L2.CX X.prog X.w) C m k ps sp) (hr : Room j X.A) (hkj : k ≤ j) (tk : Takes X W)
    (h : wE X o σ H fun x H1 => ∃ a dx fs, x = .ref a ∧ H1 a = some (.ins C dx fs) ∧ fs.lookup m = none ∧ wA X (e :: es) σ H1 fun vs H2 => sp (.ref a :: vs) H2 Q fun cls d H' => W cls d σ H')
    (he : starEach (e :: es) X.env = (false, eval e X.env) :: starEach es X.env := by rfl) (hpl : (backTo pos (starEach es X.env)).any (·.1) = false := by rfl)
    (hev : eval (.Call (.Attribute o m apos) (e :: es) [] pos) X.env = (do
      let ov ← eval o X.env
      standAt apos.atName
      let (f, first) ← holding [ov] (getMethod ov m pl)
      callWith pos f first (backTo pos (starEach (e :: es) X.env)) (backToKw pos (keywordEach [] X.env))) := by rfl) : wE X (.Call (.Attribute o m apos) (e :: es) [] pos) σ H Q := by
  obtain ⟨f, fd, hm, F, hb⟩ := mt
  refine ⟨fun σ H Q => wE X o σ H fun x H1 => ∃ a dx fs, x = .ref a ∧ H1 a = some (.ins C dx fs) ∧ fs.lookup m = none ∧ wA X (e :: es) σ H1 fun vs H2 => sp (.ref a :: vs) H2 Q fun cls d H' => W cls d σ H', ⟨fun pins s σ H Q I h => ?_⟩, h⟩
  refine PySem.W.methodCall_KW (pl := pl) (thn (wE.pe.run pins s σ H _ I h) fun u s1 ⟨x, H1, I1, rx, g, dx, fs, ex, eg, l, q⟩ => ?_) hev
  cases ex
  cases (show u = Value.ref g from rx)
  refine getmeth_ok I1 eg c hm l (PySem.W.callWith_K (first := [.ref g]) (h₀ := X.base) I1.ok.mod.kin hm.kp (thn (wA.pa.run pos pins s1 σ H1 _ I1 q) fun us s2 ⟨vs, H2, I2, r, q2⟩ => ⟨I2.kIn, ?_⟩) he hpl)
  exact run_fnS (us := .ref g :: us) (vs := .ref g :: vs) (E := fun σ cls d H' => W cls d σ H') F (hr.mono hkj) hb (passAt tk σ) I2 (.cons rfl r) q2
/-- a op b by the left side's own method: an object of the same class, or a value of a built-in type, on the right -/
def OwnR (X : Cx) (C : Addr) (op : Operator) (sp : Sp) (W : WX) (σ : St) (x y : V) (H : Hp) (Q : VK) : Prop := ∃ (a dx : Addr) (fs : List (Str × V)), x = .ref a ∧ H a = some (.ins C dx fs) ∧
  ((∃ (b dy : Addr) (gs : List (Str × V)), y = .ref b ∧ H b = some (.ins C dy gs)) ∨ ∃ T : String, TyX X.K H y (.type T) ∧ RightT X.K C op T) ∧ sp [x, y] H Q fun cls d H' => W cls d σ H'
/-- a == b of objects, by the class's own == -/
def OwnE (C : Addr) (sp : Sp) : R2 := fun x y H Q => ∃ (a dx : Addr) (fs : List (Str × V)) (b dy : Addr) (gs : List (Str × V)), x = .ref a ∧ H a = some (.ins C dx fs) ∧ y = .ref b ∧ H b = some (.ins C dy gs) ∧ sp [x, y] H Q E0
end
end GV

/-! what the top wrote: list(a dict of texts), items of a tuple, enumerate(a tuple), a class's constant -/
namespace GV
open PySem PySem.Spec PyProof.Rows L2
/-- the keys of a written dict, in their order -/
inductive KeysT : List DictEntry → List Str → Prop
  | nil : KeysT [] []
  | cons {e : DictEntry} {x : Str} {es : List DictEntry} {xs : List Str} : (∃ t, e.key = .str x t) → KeysT es xs → KeysT (e :: es) (x :: xs)
section
variable {X : Cx} {M : Addr → Prop} {σ : St} {H : Hp} {a b e : Expr} {pos : Pos}
/-- a tuple that the top wrote -/
def KTup (K : PySem.W.Frag) (a : Addr) (xs : List V) : Prop := ∃ (o : Obj) (its : Array Value) (n : Nat), K.lookup a = some o ∧ o.cls = .type "tuple" ∧ o.data = .seq its n ∧ its.size ≤ sizeLine ∧ Vals xs its.toList
end
end GV

/-! lists of texts walked by comprehensions, a dict of four texts, the index of a text -/
namespace GV
open PySem PySem.Spec PyProof.Rows L2
def strP (p : Str → Bool) : PyData → Bool
  | .str x => p x
  | _ => false
def strF (g : Str → PyData) : PyData → PyData
  | .str x => g x
  | d => d
section
variable {X : Cx} {M : Addr → Prop} {σ : St} {H : Hp} {a b e o tg iter tst : Expr} {pos : Pos}
theorem td_ninS {x : Str} {ns : List Str} (ha : PD X M a σ H (.str x)) (hb : PD X M b σ H (.list (ns.map PyData.str))) (hk : behindInMarks .NotIn b = false := by rfl) : TD X M (.Compare a [.NotIn] [b] pos) σ H (!decide (x ∈ ns)) :=
  td_cmpR op_notIn_seq hk (fun u v H1 ru rv _ Q q => by
    cases ru
    cases rv with
    | lst m hs rs =>
      have all : (ns.map V.str).all flatV = true := by
        rw [List.all_map, List.all_eq_true]
        exact fun _ _ => rfl
      rw [rs.of_strs] at hs
      refine ⟨_, _, rfl, .inl (.inl hs), rfl, all, ?_⟩
      show Q (.bl (!inV (.str x) (ns.map V.str))) H1
      rw [inV_strs]
      exact q _ H1 (Evl.Ex.refl H1) (.bl _)) ha hb
end
end GV

/-! isinstance of an error with attributes, of one of two classes -/
namespace GV
open PySem PySem.Spec PyProof.Rows L2
end GV

/-! a name of its own for a comprehension over texts -/
namespace GV
open PySem PySem.Spec PyProof.Rows L2
end GV

/-! defs that are told what reprs are under way: the guards of the frame, whatever they are -/
namespace GV
open PySem PySem.Spec PyProof.Rows L2
/-- a def that is told what is under way -/
structure FnG (G : List Code) (P : Program) (w : World) (K : PySem.W.Frag) (mg : Str → Option Value) (base : Heap) (CX : CXT) (k : Nat) (f : Addr) (fd : FuncData) (ps : List Str) (sp : Sp) : Prop where
  len : ∀ vs H Q E, sp vs H Q E → vs.length = ps.length
  run : ∀ (A : Around) (outer : List Env) (s : Shared) (H : Hp) (args : Args) (us : List Value) (vs : List V) (Q : VK) (E : XK), A.guards = some G → Room k A → Env0 P w K mg base A outer s H → BindsTo s fd args (ps.zip us) → Vals vs us → sp vs H Q E →
    codeAny (model P w) A (.call (.ref f) args) (CR CX outer P w H s Q E) s
section
variable {P : Program} {w : World} {K : PySem.W.Frag} {mg : Str → Option Value} {base : Heap}
structure ClG (G : List Code) (P : Program) (w : World) (K : PySem.W.Frag) (mg : Str → Option Value) (base : Heap) (k : Nat) (x : Str) (sp : Sp) : Prop where
  ex : ∃ (f : Addr) (fd : FuncData) (ps : List Str), FnG G P w K mg base CX0 k f fd ps sp ∧ mg x = some (.ref f) ∧ PySem.W.keepIn K (.ref f) = true ∧ Binds K fd ps []
end
end GV

/-! repr of lists, tuples, dicts, whatever is under way -/
namespace PySem
open Sem
/-- list.__repr__'s question -/
def gvLstWay (self : Value) : Code × Pos → Bool := fun
  | (.builtin "list.__repr__.loop" ⟨v :: _, _⟩, _) => Builtin.List.listSameRef v self
  | _ => false
end PySem

namespace GV
open PySem PySem.Spec PyProof.Rows L2
/-- what repr of a plain value gives where G is under way -/
inductive RepG (G : List Code) (H : Hp) : V → Str → Prop
  | non : RepG G H .non "None"
  | bl (b : Bool) : RepG G H (.bl b) (if b then ("True" : Str) else ("False" : Str))
  | int {i : Int} (h : i.natAbs.log2 < 1920) : RepG G H (.int i) (toString i)
  | str {x : Str} (h : (reprText x).length ≤ sizeLine) : RepG G H (.str x) (reprText x)
  | lst {a : Addr} {x : Str} (e : H a = some (.lst [.str x])) (h : (reprText x).length ≤ sizeLine) (h2 : (listText [reprText x]).length ≤ sizeLine) : RepG G H (.ref a) (if (G.any fun c => gvLstWay (.ref a) (c, default)) = true then "[...]" else listText [reprText x])
  | tup {a : Addr} {x : Str} (e : H a = some (.tup [.str x])) (h : (reprText x).length ≤ sizeLine) (h2 : (tupleText [reprText x]).length ≤ sizeLine) : RepG G H (.ref a) (if (G.any fun c => tupGuardF (.ref a) (c, default)) = true then "(...)" else tupleText [reprText x])
  | dict {a : Addr} (e : H a = some (.dK [])) : RepG G H (.ref a) (if (G.any fun c => dictGuardF (.ref a) (c, default)) = true then "{...}" else "{}")
theorem RepG.ext {G : List Code} {H H' : Hp} {v : V} {T : Str} (r : RepG G H v T) (x : Evl.Ex H H') : RepG G H' v T := by
  cases r with
  | non => exact .non
  | bl b => exact .bl b
  | int h => exact .int h
  | str h => exact .str h
  | lst e h h2 => exact .lst (x _ _ e) h h2
  | tup e h h2 => exact .tup (x _ _ e) h h2
  | dict e => exact .dict (x _ _ e)
end GV

namespace GV
open PySem PySem.Spec PyProof.Rows L2
section
variable {X : Cx} {σ : St} {H : Hp} {a b : Expr} {pos : Pos}
theorem ce_intC {i : Int} {j} {Q : VK} (q : Q (.int i) H) : wE X (.Constant (.int i) j pos) σ H Q := ⟨_, pe_int, q⟩
end
end GV

/-! objects: a static method, a class method, a class held by a name; own repr, str, in; own == against a built-in type -/
namespace GV
open PySem PySem.Spec PyProof.Rows L2
section
variable {X : Cx} {M : Addr → Prop} {σ : St} {H : Hp} {a b e o : Expr} {es : List Expr} {pos : Pos}
/-- a static method of the class at C -/
structure StatS (P : Program) (w : World) (K : PySem.W.Frag) (mg : Str → Option Value) (base : Heap) (C : Addr) (m : Str) (k : Nat) (sp : Sp) : Prop where
  ex : ∃ (f : Addr) (fd : FuncData) (ps : List Str) (p : Addr) (mc : Value) (rest : List Value), ClX.CRead K C mc ∧ PySem.W.findCls K (.ref C) mc m = some (.get (.builtin "staticmethod.__get__") (.ref p) .none (.ref C)) ∧ PySem.W.recIn K p "staticmethod" = some (.ref f :: rest) ∧ PySem.W.keepIn K (.ref f) = true ∧
    FnOk P w K mg base CX0 k f fd ps sp ∧ Binds K fd ps []
/-- a class method of the class at C -/
structure ClsS (P : Program) (w : World) (K : PySem.W.Frag) (mg : Str → Option Value) (base : Heap) (CX : CXT) (C : Addr) (m : Str) (k : Nat) (sp : Sp) : Prop where
  ex : ∃ (f : Addr) (fd : FuncData) (ps : List Str) (p : Addr) (mc : Value), ClX.CRead K C mc ∧ ClX.CMet K C mc m p f ∧ FnOk P w K mg base CX k f fd ps sp ∧ Binds K fd ps []
/-- x(e, ..), x a name that holds the class at C -/
theorem ce_makeN {C f : Addr} {fd : FuncData} {ps : List Str} {x : Str} {k j : Nat} {CX : CXT} {sp : Sp} {E : XK} {Q : VK} {p : Pos} (Mk_ : Mk X.K C f) (F : FnOk X.prog X.w X.K X.mg X.base CX k f fd ps sp) (hr : Room j X.A) (hkj : k + 1 ≤ j) (hb : Binds X.K fd ps []) (hx : Passes CX X E)
    (h : wE X (.Name x p) σ H fun v H1 => v = .ref C ∧ wA X (e :: es) σ H1 fun vs H2 => ∀ x dx, H2 x = none → H2 dx = none → dx ≠ x → sp (.ref x :: vs) (upd (upd H2 dx (.own x)) x (.ins C dx [])) (fun v H3 => v = .non ∧ Q (.ref x) H3) E)
    (he : starEach (e :: es) X.env = (false, eval e X.env) :: starEach es X.env := by rfl) (hpl : (backTo pos (starEach es X.env)).any (·.1) = false := by rfl) : wE X (.Call (.Name x p) (e :: es) [] pos) σ H Q := by
  refine ⟨fun σ H Q => wE X (.Name x p) σ H fun v H1 => v = .ref C ∧ wA X (e :: es) σ H1 fun vs H2 => ∀ x dx, H2 x = none → H2 dx = none → dx ≠ x → sp (.ref x :: vs) (upd (upd H2 dx (.own x)) x (.ins C dx [])) (fun v H3 => v = .non ∧ Q (.ref x) H3) E, ⟨fun pins s σ H Q I h => ?_⟩, h⟩
  refine wpAny_Call_Name_kw (thn (wE.pe.run pins s σ H _ I h) fun u s1 ⟨v, H1, I1, rx, ev, q⟩ => ?_)
  subst ev
  cases (show u = Value.ref C from rx)
  refine PySem.W.callWith_K (h₀ := X.base) I1.ok.mod.kin Mk_.kp (thn (wA.pa.run pos pins s1 σ H1 _ I1 q) fun us s2 ⟨vs, H2, I2, rv, q2⟩ => ⟨I2.kIn, ?_⟩) he hpl
  exact run_make Mk_ F (hr.mono hkj) hb .nil hx I2 rv (by simp only [List.append_nil]; exact q2)
end
end GV

namespace GV
open PySem PySem.Spec PyProof.Rows L2
end GV

/-! {elt for tg in iter if ..} of ints -/
namespace GV
open PySem PySem.Spec PyProof.Rows L2 PpSet
section
variable {X : Cx}
/-- what a set comprehension of ints asks: D the new set, V what holds at its turns -/
def tScI (w : World) (wi : TI) (g : TG) (tt : TT) (te : TE) (vs : List Nat) : TE := fun σ H Q => wi σ H fun J Ha => ∀ D, Ha D = none → ∃ V : Nat → Nat → Hp → Prop, (∃ m, V 0 m (upd Ha D (SetO w D (fun _ => false) 0))) ∧ ∀ i m Hb, V i m Hb →
  (J.stop i Hb ∧ Q (.ref D) Hb) ∨ (J.go i Hb ∧ ∃ next : Hp → Prop, (∀ Hc, next Hc → ∃ k, k < m ∧ V (i + 1) k Hc) ∧ ∀ x Hc, J.yld i Hb x Hc → g x (wipe σ vs) Hc fun σ2 Hd => wipe σ2 vs = wipe σ vs ∧ tt σ2 Hd fun b He =>
    if b = true then te σ2 He fun y Hf => ∃ (z : Int) (S : Int → Bool) (n : Nat), y = .int z ∧ Hf D = some (SetO w D S n) ∧ n + 1 < scanBound ∧ next (upd Hf D (SetO w D (fun j => S j || decide (j = z)) (if S z = true then n else n + 1))) else next He)
end
end GV

/-! methods with keyword-only parameters; comprehensions over a list of whatever -/
namespace GV
open PySem PySem.Spec PyProof.Rows L2
def wK (X : Cx) (kws : List Keyword) : TA := fun σ H Q => ∃ t, PK X kws t ∧ t σ H Q
section
variable {X : Cx} {M : Addr → Prop} {σ : St} {H : Hp} {a b e o elt tst : Expr} {es : List Expr} {pos : Pos}
/-- a method that may be told some of its parameters by name -/
structure MethK (P : Program) (w : World) (K : PySem.W.Frag) (mg : Str → Option Value) (base : Heap) (CX : CXT) (C : Addr) (m : Str) (k : Nat) (ks : List Str) (gV : List V → List V → List V) (sp : Sp) : Prop where
  ex : ∃ (f : Addr) (fd : FuncData) (ps : List Str) (g : List Value → List Value → List Value), Meth K C m f ∧ FnOk P w K mg base CX k f fd ps sp ∧ KBn K fd ps 1 ks g gV
end
end GV

/-! o.pop(e), e an int that stands in the list -/
namespace GV
open PySem PySem.Spec PyProof.Rows L2
end GV

namespace GV
open PySem PySem.Spec PyProof.Rows L2
section
variable {X : Cx} {σ : St} {H : Hp} {o : Expr}
/-- o.clear() -/
theorem ce_clear {apos cpos : Pos} {Q : VK} {l : Addr} {xs : List V} (h : wE X o σ H fun x H1 => x = .ref l ∧ H1 l = some (.lst xs) ∧ Q .non (upd H1 l (.lst [])))
    (h1 : attributeBase o ("clear" : Str) X.env (eval o X.env) = eval o X.env := by rfl) (h3 : (apos.endLine == cpos.line) = true := by rfl) : wE X (.Call (.Attribute o "clear" apos) [] [] cpos) σ H Q := by
  refine ⟨_, pe_bm0 PySem.F.plainAttrs_list PySem.F.slot_list_clear PySem.F.type_list_clear mt_clear wE.pe h1 h3, ?_⟩
  obtain ⟨t, p, q⟩ := h
  refine ⟨fun σ H Q => ∃ Q0, t σ H Q0 ∧ ∀ x H1, Q0 x H1 → Q x H1, ⟨fun pins s σ H Q I ⟨Q0, h0, imp⟩ => wpAny_mono (p.run pins s σ H Q0 I h0) (fun us s1 ⟨v, H1, I1, r1, q1⟩ => ⟨v, H1, I1, r1, imp v H1 q1⟩) fun _ _ z => z⟩, _, q, ?_⟩
  rintro x H1 ⟨rfl, hl, hq⟩
  exact ⟨.inl ⟨rfl, _, SqL.of hl⟩, l, _, rfl, rfl, hl, hq⟩
end
end GV

/-! x += e of ints; a walk over enumerate(a tuple of the top) whatever its turns change; a tuple of two unpacked -/
namespace GV
open PySem PySem.Spec PyProof.Rows L2
section
variable {X : Cx} {σ : St} {H : Hp} {e : Expr} {pos : Pos} {D : Ends}
/-- x, y = a tuple of two, whatever its making changes -/
theorem cs_unpP {i j kt : Nat} {x y : Str} {px py pt : Pos} (hc : X.calm = true) (hx : PG X (.Name x px) (gName i)) (hy : PG X (.Name y py) (gName j))
    (h : wE X e σ H fun r H2 => ∃ p v w, r = .ref p ∧ SqT X.K H2 p [v, w] ∧ D.nx ((σ.set i (some v)).set j (some w)) H2)
    (hn : (assignEach [.Name x px, .Name y py] X.env).length = 2 := by rfl) (hst : (assignEach [.Name x px, .Name y py] X.env).findIdx? (·.1) = none := by rfl) (hs : swapsWithSole [.Tuple [.Name x px, .Name y py] kt pt] e pos.line X.env = pure false := by rfl) (hw : swappedStores [.Tuple [.Name x px, .Name y py] kt pt] e X.env = pure none := by rfl)
    (h1 : (assignEach [.Tuple [.Name x px, .Name y py] kt pt] X.env).map (·.2) = [assign (.Tuple [.Name x px, .Name y py] kt pt) X.env] := by rfl) : wS X (.Assign [.Tuple [.Name x px, .Name y py] kt pt] e pos) D σ H :=
  ⟨_, ps_asg wE.pe (pg_tup hc (pgs_cons hx (pgs_cons hy pgs_nil)) hn hst) hs hw h1, wE.weak h fun r H2 ⟨p, v, w, e, hp, q⟩ => ⟨p, _, e, hp, rfl, v, _, rfl, w, _, rfl, rfl, q⟩⟩
end
end GV

namespace TK
open PySem PySem.Spec PyProof.Rows L2 GV
/-! ### entries of a history, states of a desk -/
structure En where
  p : Nat
  a : Int
  b : Int
  h : Int
def enD (e : En) : PyData := .tuple [.int (e.p : Nat), .int e.a, .int e.b, .int e.h]
structure Sta where
  his : List En
  row : List Int
def staD (s : Sta) : PyData := .tuple [.tuple (s.his.map enD), tintsD s.row]
theorem flats_ints : ∀ l : List Int, flats (l.map PyData.int) = true
  | [] => rfl
  | _ :: l => by
    show (true && flats (l.map PyData.int)) = true
    rw [flats_ints l]
    rfl
theorem flats_of {α : Type} {e : α → PyData} (h : ∀ a, flat (e a) = true) : ∀ l : List α, flats (l.map e) = true
  | [] => rfl
  | a :: l => by
    show (flat (e a) && flats (l.map e)) = true
    rw [h a, flats_of h l]
    rfl
theorem flat_en (e : En) : flat (enD e) = true := rfl
theorem flat_sta (s : Sta) : flat (staD s) = true := by
  show (flats (s.his.map enD) && (flats (s.row.map PyData.int) && true)) = true
  rw [flats_of flat_en, flats_ints]
  rfl
/-! ### flat data stay where no tuple changes -/
def NoT (S : Addr → Prop) (H : Hp) : Prop := ∀ a, S a → ∀ xs, H a ≠ some (.tup xs) ∧ ∀ o, H a ≠ some (.frz o (.tup xs))
section
variable {K : PySem.W.Frag} {H H' : Hp} {S M' : Addr → Prop}
mutual
theorem offN {v : V} {d : PyData} : (r : Rp K M' H v d) → flat d = true → NoT S H → Rp K S H v d
  | .non, _, _ => .non
  | .bl b, _, _ => .bl b
  | .int i, _, _ => .int i
  | .str x, _, _ => .str x
  | .lst m h r, hf, hm => absurd hf (by simp [flat])
  | .tup m h r, hf, hm => .tup (fun z => by
      rcases h with h | ⟨o, h⟩
      · exact (hm _ z _).1 h
      · exact (hm _ z _).2 _ h) h (offNs r (by simpa [flat] using hf) hm)
theorem offNs {vs : List V} {ds : List PyData} : (r : RpAll K M' H vs ds) → flats ds = true → NoT S H → RpAll K S H vs ds
  | .nil, _, _ => .nil
  | .cons r rs, hf, hm => .cons (offN r (by simp [flats] at hf; exact hf.1) hm) (offNs rs (by simp [flats] at hf; exact hf.2) hm)
end
theorem flatN {v : V} {d : PyData} (r : Rp K M' H v d) (hf : flat d = true) (L : NoT S H) (e : ExM S H H') : Rp K M0 H' v d := ((offN r hf L).mono (fun _ z => z) e).mono (fun _ z => z.elim) (ExM.refl _)
theorem flatNs {vs : List V} {ds : List PyData} (r : RpAll K M' H vs ds) (hf : flats ds = true) (L : NoT S H) (e : ExM S H H') : RpAll K M0 H' vs ds := ((offNs r hf L).mono (fun _ z => z) e).mono (fun _ z => z.elim) (ExM.refl _)
theorem upd_exM {a : Addr} {o : HO} (h : S a) : ExM S H (upd H a o) := fun b u hb nb _ => by
  rw [upd_ne (fun e => nb (by rw [e]; exact h))]
  exact hb
theorem ExM.wid {S' : Addr → Prop} (e : ExM S H H') (h : ∀ a, S a → S' a) : ExM S' H H' := fun a o ha na nt => e a o ha (fun z => na (h a z)) nt
theorem ExM.lst' {a : Addr} {xs : List V} (e : ExM S H H') (h : H a = some (.lst xs)) (n : ¬ S a) : H' a = some (.lst xs) := e a _ h n (fun _ z => by cases z)
theorem ExM.ins' {a C dx : Addr} {fs : List (Str × V)} (e : ExM S H H') (h : H a = some (.ins C dx fs)) (n : ¬ S a) : H' a = some (.ins C dx fs) := e a _ h n (fun _ z => by cases z)
end
/-! ### the desk -/
structure DesC (K : PySem.W.Frag) (CD : Addr) : Prop where
  ins : C8.InsC K CD
  n1 : NoAttr K CD "house"
  n2 : NoAttr K CD "_limit"
  n3 : NoAttr K CD "_state"
  n4 : NoAttr K CD "_to_undo"
  n5 : NoAttr K CD "_to_redo"
  n6 : NoAttr K CD "_state_of_mark"
abbrev deskF (h : Addr) (lim : Int) (sv : V) (lu lr dm : Addr) : List (Str × V) := [("house", .ref h), ("_limit", .int lim), ("_state", sv), ("_to_undo", .ref lu), ("_to_redo", .ref lr), ("_state_of_mark", .ref dm)]
structure DeskAt (K : PySem.W.Frag) (CD CH : Addr) (H : Hp) (g lu lr dm h : Addr) (n : Nat) (lim : Int) (s : Sta) (us rs : List Sta) : Prop where
  ins : ∃ dx sv, H g = some (.ins CD dx (deskF h lim sv lu lr dm)) ∧ Rp K M0 H sv (staD s)
  ne : lu ≠ lr
  hg : h ≠ g
  hou : HAt CH n H h
  u : ∃ ws, H lu = some (.lst ws) ∧ RpAll K M0 H ws (us.map staD)
  r : ∃ ws, H lr = some (.lst ws) ∧ RpAll K M0 H ws (rs.map staD)
/-- what a deed changes -/
abbrev Th (g lu lr : Addr) : Addr → Prop := fun a => a = g ∨ a = lu ∨ a = lr
section
variable {K : PySem.W.Frag} {CD CH : Addr} {H H' : Hp} {g lu lr dm h : Addr} {n : Nat} {lim : Int} {s : Sta} {us rs : List Sta} {S : Addr → Prop}
theorem DeskAt.exM (a : DeskAt K CD CH H g lu lr dm h n lim s us rs) (e : ExM S H H') (L : NoT S H) (hg : ¬ S g) (hu : ¬ S lu) (hr : ¬ S lr) (hh : ¬ S h) : DeskAt K CD CH H' g lu lr dm h n lim s us rs := by
  obtain ⟨dx, sv, hi, rv⟩ := a.ins
  obtain ⟨ws, hw, rw_⟩ := a.u
  obtain ⟨zs, hz, rz⟩ := a.r
  obtain ⟨dh, h1⟩ := a.hou
  exact ⟨⟨dx, sv, ExM.ins' e hi hg, flatN rv (flat_sta s) L e⟩, a.ne, a.hg, ⟨dh, ExM.ins' e h1 hh⟩, ⟨ws, ExM.lst' e hw hu, flatNs rw_ (flats_of flat_sta us) L e⟩, ⟨zs, ExM.lst' e hz hr, flatNs rz (flats_of flat_sta rs) L e⟩⟩
theorem noT0 : NoT M0 H := fun _ z => z.elim
theorem DeskAt.ex0 (a : DeskAt K CD CH H g lu lr dm h n lim s us rs) (e : ExM M0 H H') : DeskAt K CD CH H' g lu lr dm h n lim s us rs := a.exM e noT0 (fun z => z) (fun z => z) (fun z => z) fun z => z
theorem DeskAt.ex (a : DeskAt K CD CH H g lu lr dm h n lim s us rs) (x : Evl.Ex H H') : DeskAt K CD CH H' g lu lr dm h n lim s us rs := a.ex0 (.of x)
theorem DeskAt.noT (a : DeskAt K CD CH H g lu lr dm h n lim s us rs) : NoT (Th g lu lr) H := fun x hx xs => by
  obtain ⟨dx, sv, hi, rv⟩ := a.ins
  obtain ⟨ws, hw, _⟩ := a.u
  obtain ⟨zs, hz, _⟩ := a.r
  rcases hx with rfl | rfl | rfl
  · rw [hi]
    exact ⟨fun z => (by cases z), fun o z => (by cases z)⟩
  · rw [hw]
    exact ⟨fun z => (by cases z), fun o z => (by cases z)⟩
  · rw [hz]
    exact ⟨fun z => (by cases z), fun o z => (by cases z)⟩
theorem DeskAt.gu (a : DeskAt K CD CH H g lu lr dm h n lim s us rs) : g ≠ lu := fun e => by
  obtain ⟨dx, sv, hi, rv⟩ := a.ins
  obtain ⟨ws, hw, _⟩ := a.u
  rw [e, hw] at hi
  cases hi
theorem DeskAt.gr (a : DeskAt K CD CH H g lu lr dm h n lim s us rs) : g ≠ lr := fun e => by
  obtain ⟨dx, sv, hi, rv⟩ := a.ins
  obtain ⟨ws, hw, _⟩ := a.r
  rw [e, hw] at hi
  cases hi
theorem DeskAt.hu (a : DeskAt K CD CH H g lu lr dm h n lim s us rs) : h ≠ lu := fun e => by
  obtain ⟨dh, hi⟩ := a.hou
  obtain ⟨ws, hw, _⟩ := a.u
  rw [e, hw] at hi
  cases hi
theorem DeskAt.hr (a : DeskAt K CD CH H g lu lr dm h n lim s us rs) : h ≠ lr := fun e => by
  obtain ⟨dh, hi⟩ := a.hou
  obtain ⟨ws, hw, _⟩ := a.r
  rw [e, hw] at hi
  cases hi
end
section
variable {X : Cx} {M : Addr → Prop} {CD CH : Addr} {σ : St} {H : Hp} {e : Expr} {pos : Pos} {g lu lr dm h : Addr} {n : Nat} {lim : Int} {s : Sta} {us rs : List Sta}
/-- o._state, as data -/
theorem pd_state (B : DesC X.K CD) (a : DeskAt X.K CD CH H g lu lr dm h n lim s us rs) (hn : AtN X σ e g) (hb : attributeBase e "_state" X.env (eval e X.env) = eval e X.env := by rfl) : PD X M0 (.Attribute e "_state" pos) σ H (staD s) := by
  obtain ⟨dx, sv, hi, rv⟩ := a.ins
  exact pd_fld hn (fun z => z) hi B.ins.cl B.n3 rfl rv hb
theorem pd_limit (B : DesC X.K CD) (a : DeskAt X.K CD CH H g lu lr dm h n lim s us rs) (hn : AtN X σ e g) (hb : attributeBase e "_limit" X.env (eval e X.env) = eval e X.env := by rfl) : PD X M0 (.Attribute e "_limit" pos) σ H (.int lim) := by
  obtain ⟨dx, sv, hi, rv⟩ := a.ins
  exact pd_fld hn (fun z => z) hi B.ins.cl B.n2 rfl (.int lim) hb
theorem pd_undos (B : DesC X.K CD) (a : DeskAt X.K CD CH H g lu lr dm h n lim s us rs) (hn : AtN X σ e g) (hb : attributeBase e "_to_undo" X.env (eval e X.env) = eval e X.env := by rfl) : PD X M0 (.Attribute e "_to_undo" pos) σ H (.list (us.map staD)) := by
  obtain ⟨dx, sv, hi, rv⟩ := a.ins
  obtain ⟨ws, hw, r⟩ := a.u
  exact pd_fld hn (fun z => z) hi B.ins.cl B.n4 rfl (.lst (fun z => z) (.inl hw) r) hb
theorem pd_redos (B : DesC X.K CD) (a : DeskAt X.K CD CH H g lu lr dm h n lim s us rs) (hn : AtN X σ e g) (hb : attributeBase e "_to_redo" X.env (eval e X.env) = eval e X.env := by rfl) : PD X M0 (.Attribute e "_to_redo" pos) σ H (.list (rs.map staD)) := by
  obtain ⟨dx, sv, hi, rv⟩ := a.ins
  obtain ⟨ws, hw, r⟩ := a.r
  exact pd_fld hn (fun z => z) hi B.ins.cl B.n5 rfl (.lst (fun z => z) (.inl hw) r) hb
theorem ce_undos {Q : VK} (B : DesC X.K CD) (a : DeskAt X.K CD CH H g lu lr dm h n lim s us rs) (hn : AtN X σ e g) (q : Q (.ref lu) H) (hb : attributeBase e "_to_undo" X.env (eval e X.env) = eval e X.env := by rfl) : wE X (.Attribute e "_to_undo" pos) σ H Q := by
  obtain ⟨dx, sv, hi, rv⟩ := a.ins
  exact AtN.fld hn B.ins.cl B.n4 rfl hi q hb
theorem ce_redos {Q : VK} (B : DesC X.K CD) (a : DeskAt X.K CD CH H g lu lr dm h n lim s us rs) (hn : AtN X σ e g) (q : Q (.ref lr) H) (hb : attributeBase e "_to_redo" X.env (eval e X.env) = eval e X.env := by rfl) : wE X (.Attribute e "_to_redo" pos) σ H Q := by
  obtain ⟨dx, sv, hi, rv⟩ := a.ins
  exact AtN.fld hn B.ins.cl B.n5 rfl hi q hb
theorem ce_house {Q : VK} (B : DesC X.K CD) (a : DeskAt X.K CD CH H g lu lr dm h n lim s us rs) (hn : AtN X σ e g) (q : Q (.ref h) H) (hb : attributeBase e "house" X.env (eval e X.env) = eval e X.env := by rfl) : wE X (.Attribute e "house" pos) σ H Q := by
  obtain ⟨dx, sv, hi, rv⟩ := a.ins
  exact AtN.fld hn B.ins.cl B.n1 rfl hi q hb
end
/-! ### the methods that raise nothing -/
def spPres (K : PySem.W.Frag) (CD CH : Addr) : Sp := fun vs H Q _ => ∃ (g lu lr dm h : Addr) (n : Nat) (lim : Int) (s : Sta) (us rs : List Sta), vs = [.ref g] ∧ DeskAt K CD CH H g lu lr dm h n lim s us rs ∧ ∀ v H', Evl.Ex H H' → Rp K M0 H' v (tintsD s.row) → Q v H'
def spHist (K : PySem.W.Frag) (CD CH : Addr) : Sp := fun vs H Q _ => ∃ (g lu lr dm h : Addr) (n : Nat) (lim : Int) (s : Sta) (us rs : List Sta), vs = [.ref g] ∧ DeskAt K CD CH H g lu lr dm h n lim s us rs ∧ ∀ p ws H', H p = none → Evl.Ex H H' → H' p = some (.lst ws) → RpAll K M0 H' ws (s.his.map enD) → Q (.ref p) H'
def spEnter (K : PySem.W.Frag) (CD CH : Addr) : Sp := fun vs H Q _ => ∃ (g lu lr dm h : Addr) (n : Nat) (lim : Int) (s t : Sta) (us rs : List Sta) (tv : V), vs = [.ref g, tv] ∧ DeskAt K CD CH H g lu lr dm h n lim s us rs ∧ Rp K M0 H tv (staD t) ∧ us.length < 5000 ∧
  ∀ H', ExS (Th g lu lr) H H' → DeskAt K CD CH H' g lu lr dm h n lim t (us ++ [s]) [] → Q .non H'
section
variable {P : Program} {w : World} {K : PySem.W.Frag} {mg : Str → Option Value} {base : Heap} {CD CH : Addr}
theorem ok_present {f : Addr} {fd : FuncData} (F : Fun K "present" "Desk.present" s_Desk_present f fd) (B : DesC K CD) : FnOk P w K mg base CX0 1 f fd ["self"] (spPres K CD CH) := by
  refine F.ok sc_Desk_present (fun vs H Q E h => ?_) (fun cdv A outer sh H vs Q E hr h => ⟨_, wB.ps, ?_⟩)
  · obtain ⟨g, lu, lr, dm, h, n, lim, s, us, rs, rfl, _⟩ := h
    rfl
  obtain ⟨g, lu, lr, dm, h, n, lim, s, us, rs, rfl, a, q⟩ := h
  exact b_cons (s_ret alive0 (pd_ix (pd_state B a (AtN.name (i := 0) rfl (.inl rfl) rfl)) pd_int rfl) q)
theorem ok_history {f : Addr} {fd : FuncData} (F : Fun K "history" "Desk.history" s_Desk_history f fd) (B : DesC K CD) (nb : NoB mg) : FnOk P w K mg base CX0 1 f fd ["self"] (spHist K CD CH) := by
  refine F.ok sc_Desk_history (fun vs H Q E h => ?_) (fun cdv A outer sh H vs Q E hr h => ⟨_, wB.ps, ?_⟩)
  · obtain ⟨g, lu, lr, dm, h, n, lim, s, us, rs, rfl, _⟩ := h
    rfl
  obtain ⟨g, lu, lr, dm, h, n, lim, s, us, rs, rfl, a, q⟩ := h
  exact b_cons (cs_ret (ce_fd alive0 (fd_callTy call_list_of rfl nb.list PyProof.Rows.boot_list (ad_cons (pd_ix (pd_state B a (AtN.name (i := 0) rfl (.inl rfl) rfl)) pd_int rfl) ad_nil) (rf_list rfl)) q))
theorem ok_enter {f : Addr} {fd : FuncData} (F : Fun K "_enter" "Desk._enter" s_Desk_enter f fd) (B : DesC K CD) : FnOk P w K mg base CX0 1 f fd ["self", "state"] (spEnter K CD CH) := by
  refine F.ok sc_Desk_enter (fun vs H Q E h => ?_) (fun cdv A outer sh H vs Q E hr h => ⟨_, wB.ps, ?_⟩)
  · obtain ⟨g, lu, lr, dm, h, n, lim, s, t, us, rs, tv, rfl, _⟩ := h
    rfl
  obtain ⟨g, lu, lr, dm, h, n, lim, s, t, us, rs, tv, rfl, a, rt, hl, q⟩ := h
  refine b_cons (cs_expr (ce_append (ce_undos B a (AtN.name (i := 0) rfl (.inl rfl) rfl) ?_)))
  obtain ⟨ws, hw, rws⟩ := a.u
  refine ⟨lu, ws, rfl, hw, ce_pd (M := M0) alive0 (pd_state B a (AtN.name (i := 0) rfl (.inl rfl) rfl)) fun v H1 x1 r1 => ?_⟩
  have a1 := a.ex x1
  have hw1 := x1 _ _ hw
  have rws1 : RpAll K M0 H1 ws (us.map staD) := rws.mono (fun _ z => z) (ExM.of x1)
  have rt1 : Rp K M0 H1 tv (staD t) := rt.mono (fun _ z => z) (ExM.of x1)
  refine ⟨ws, hw1, by rw [rws1.length, List.length_map]; omega, ?_⟩
  have e1 : ExS (Th g lu lr) H1 (upd H1 lu (.lst (ws ++ [v]))) := ExS.upd (.inr (.inl rfl))
  have hu2 : upd H1 lu (.lst (ws ++ [v])) lu = some (.lst (ws ++ [v])) := upd_same
  obtain ⟨dx, sv, hi, rv⟩ := a1.ins
  obtain ⟨zs, hz, rz⟩ := a1.r
  have hi2 : upd H1 lu (.lst (ws ++ [v])) g = some (.ins CD dx (deskF h lim sv lu lr dm)) := by
    rw [upd_ne a1.gu]
    exact hi
  have hz2 : upd H1 lu (.lst (ws ++ [v])) lr = some (.lst zs) := by
    rw [upd_ne a1.ne.symm]
    exact hz
  generalize upd H1 lu (.lst (ws ++ [v])) = H2 at e1 hu2 hi2 hz2 ⊢
  refine b_cons (cs_expr (ce_clear (AtN.fld (AtN.name (i := 0) rfl (.inl rfl) rfl) B.ins.cl B.n5 rfl hi2 ⟨rfl, hz2, ?_⟩)))
  have e2 : ExS (Th g lu lr) H2 (upd H2 lr (.lst [])) := ExS.upd (.inr (.inr rfl))
  have hr3 : upd H2 lr (.lst []) lr = some (.lst []) := upd_same
  have hu3 : upd H2 lr (.lst []) lu = some (.lst (ws ++ [v])) := by
    rw [upd_ne a1.ne]
    exact hu2
  have hi3 : upd H2 lr (.lst []) g = some (.ins CD dx (deskF h lim sv lu lr dm)) := by
    rw [upd_ne a1.gr]
    exact hi2
  generalize upd H2 lr (.lst []) = H3 at e2 hr3 hu3 hi3 ⊢
  refine b_cons (cs_fld (ce_nm 1 (ce_nm 0 ⟨g, CD, dx, _, rfl, hi3, B.ins.cl, B.n3, (by show 6 < 1000; decide), b_nil ?_⟩)))
  have e3 : ExS (Th g lu lr) H3 (upd H3 g (.ins CD dx (putF "_state" tv (deskF h lim sv lu lr dm)))) := ExS.upd (.inl rfl)
  have eA := (e1.trans e2).trans e3
  have L := a1.noT
  refine q _ ((ExS.of x1).trans eA) ⟨⟨dx, tv, upd_same, flatN rt1 (flat_sta t) L eA.exM⟩, a.ne, a.hg, ?_, ⟨ws ++ [v], ?_, ?_⟩, ⟨[], ?_, .nil⟩⟩
  · obtain ⟨dh, hh⟩ := a1.hou
    exact ⟨dh, eA _ _ (fun z => z.elim a1.hg fun z => z.elim a1.hu a1.hr) hh⟩
  · rw [upd_ne a1.gu.symm]
    exact hu3
  · rw [List.map_append]
    exact flatNs (rws1.append (.cons r1 .nil)) (by have z := flats_of flat_sta (us ++ [s]); rwa [List.map_append] at z) L eA.exM
  · rw [upd_ne a1.gr.symm]
    exact hr3
end
end TK

namespace TK
open PySem PySem.Spec PyProof.Rows L2 GV
/-- the entry that a change gives -/
def entO (n : Nat) (ns : List Int) (p : Nat) : Option En := (nearL n ns p).map fun z => ⟨p, ns.getD p 0, ns.getD (p + 1) 0, z⟩
def optE : Option En → PyData
  | none => .none
  | some e => enD e
def spEntry (K : PySem.W.Frag) (CH : Addr) (T : List (Addr × Str)) : Sp := fun vs H Q _ => ∃ (u : V) (h : Addr) (n : Nat) (ns : List Int) (p : Nat), vs = [u, .int (p : Nat), .ref h] ∧ Rp K M0 H u (tintsD ns) ∧ p + 1 < ns.length ∧ RowL ns ∧ HAt CH n H h ∧ LamX.Tabs T H ∧
  ∀ v H', ExM M0 H H' → LamX.Tabs T H' → Rp K M0 H' v (optE (entO n ns p)) → Q v H'
section
variable {P : Program} {w : World} {K : PySem.W.Frag} {mg : Str → Option Value} {base : Heap} {CD CH : Addr} {T : List (Addr × Str)}
theorem cl_entry_of {f : Addr} {fd : FuncData} (F : At K mg "_entry_of" s_entry_of f fd) (cn : Cl P w K mg base CX0 8 "nearest_helper" (spHT K CH T fun _ n ns p H Q => toT (K := K) T (nearL n ns p) H Q)) : Cl P w K mg base CX0 9 "_entry_of" (spEntry K CH T) := by
  refine ⟨f, fd, _, F.fn.ok sc_entry_of (fun vs H Q E h => ?_) (fun cdv A outer s H vs Q E hr h => ⟨_, wB.ps, ?_⟩), F.gl, F.fn.kp, F.fn.binds fun _ _ _ _ _ _ us hl => match us, hl with | [_, _, _], _ => rfl⟩
  · obtain ⟨u, h, n, ns, p, rfl, _⟩ := h
    rfl
  obtain ⟨u, h, n, ns, p, rfl, ru, hp, hrow, hh, hT, q⟩ := h
  refine b_cons (cs_set (i := 3) sc_entry_of.nd rfl (.inl rfl) (ce_call cn hr (by decide) rfl (ca_cons (ce_nm 0 (ca_cons (ce_nm 1 (ca_cons (ce_nm 2 (ca_nil ⟨M0, u, .int (p : Nat), h, n, true, ns, p, rfl, alive0, ru, .int _, hp, hrow, hh, fun z => z, hT, fun v H1 e1 T1 r1 => ?_⟩))))))))) 
  have ru1 := ru.mono (fun _ z => z) e1
  have i1 : ((p : Nat) : Int) + 1 = ((p + 1 : Nat) : Int) := by omega
  obtain ⟨x, hx⟩ := get_i (ns := ns) (i := p) (by omega)
  obtain ⟨y, hy⟩ := get_i (ns := ns) (i := p + 1) hp
  cases hn : nearL n ns p with
  | none =>
    rw [hn] at r1
    cases r1
    refine b_cons (s_ret (M := M0) (d := .none) alive0 (pd_if (k := true) (td_isN (nm 3 .non)) (fun _ => pd_non) fun z => by cases z) fun v2 H2 x2 r2 => ?_)
    refine q v2 H2 (e1.trans (.of x2)) (T1.ext x2) ?_
    unfold entO
    rw [hn]
    exact r2
  | some z =>
    rw [hn] at r1
    cases r1
    refine b_cons (s_ret (M := M0) (d := enD ⟨p, ns.getD p 0, ns.getD (p + 1) 0, z⟩) alive0 (pd_if (k := false) (td_isN (nm 3 (.int z))) (fun z => by cases z) fun _ => PD.is (pd_tup (ad_cons (nm 1 (.int (p : Nat))) (ad_cons (pd_ix (nm 0 ru1) (nm 1 (.int (p : Nat))) (ix_sqI (tp := true) hx)) (ad_cons (pd_ix (nm 0 ru1) (PD.is (pd_add (nm 1 (.int (p : Nat))) pd_int) (congrArg PyData.int i1)) (ix_sqI (tp := true) hy)) (ad_cons (nm 3 (.int z)) ad_nil)))) (by show 4 ≤ 100000; decide)) ?_) fun v2 H2 x2 r2 => ?_)
    · unfold enD
      rw [getD_of hx, getD_of hy]
    · refine q v2 H2 (e1.trans (.of x2)) (T1.ext x2) ?_
      unfold entO
      rw [hn]
      exact r2
end
/-! ### undo and redo -/
def spUndo (K : PySem.W.Frag) (CD CH : Addr) : Sp := fun vs H Q _ => ∃ (g lu lr dm h : Addr) (n : Nat) (lim : Int) (s t : Sta) (us rs : List Sta), vs = [.ref g] ∧ DeskAt K CD CH H g lu lr dm h n lim s (us ++ [t]) rs ∧ rs.length < 5000 ∧
  ∀ H', ExS (Th g lu lr) H H' → DeskAt K CD CH H' g lu lr dm h n lim t us (rs ++ [s]) → Q .non H'
def spRedo (K : PySem.W.Frag) (CD CH : Addr) : Sp := fun vs H Q _ => ∃ (g lu lr dm h : Addr) (n : Nat) (lim : Int) (s t : Sta) (us rs : List Sta), vs = [.ref g] ∧ DeskAt K CD CH H g lu lr dm h n lim s us (rs ++ [t]) ∧ us.length < 5000 ∧
  ∀ H', ExS (Th g lu lr) H H' → DeskAt K CD CH H' g lu lr dm h n lim t (us ++ [s]) rs → Q .non H'
theorem snoc_rp {K : PySem.W.Frag} {M : Addr → Prop} {H : Hp} {ws : List V} {ds : List PyData} {d : PyData} (r : RpAll K M H ws (ds ++ [d])) : ∃ xs v, ws = xs ++ [v] ∧ RpAll K M H xs ds ∧ Rp K M H v d := by
  induction ds generalizing ws with
  | nil =>
    cases r with
    | cons a b =>
      cases b
      exact ⟨[], _, rfl, .nil, a⟩
  | cons e ds ih =>
    cases r with
    | cons a b =>
      obtain ⟨xs, v, rfl, r1, r2⟩ := ih b
      exact ⟨_ :: xs, v, rfl, .cons a r1, r2⟩
section
variable {P : Program} {w : World} {K : PySem.W.Frag} {mg : Str → Option Value} {base : Heap} {CD CH : Addr}
theorem ok_undo {f : Addr} {fd : FuncData} (F : Fun K "undo" "Desk.undo" s_Desk_undo f fd) (B : DesC K CD) (nb : NoB mg) : FnOk P w K mg base CX0 1 f fd ["self"] (spUndo K CD CH) := by
  refine F.ok sc_Desk_undo (fun vs H Q E h => ?_) (fun cdv A outer sh H vs Q E hr h => ⟨_, wB.ps, ?_⟩)
  · obtain ⟨g, lu, lr, dm, h, n, lim, s, t, us, rs, rfl, _⟩ := h
    rfl
  obtain ⟨g, lu, lr, dm, h, n, lim, s, t, us, rs, rfl, a, hl, q⟩ := h
  refine b_cons (s_if (M := M0) (k := false) alive0 (TD.is (td_eq hr.units (pd_len nb rfl (pd_undos B a (AtN.name (i := 0) rfl (.inl rfl) rfl)) (n := us.length + 1) (by simp [lenD])) pd_int rfl rfl) ?_) (fun k => by cases k) fun _ H1 x1 => b_nil ?_)
  · rw [eqv_int]
    exact decide_eq_false (by omega)
  have a1 := a.ex x1
  refine b_cons (cs_expr (ce_append (ce_redos B a1 (AtN.name (i := 0) rfl (.inl rfl) rfl) ?_)))
  obtain ⟨zs, hz, rz⟩ := a1.r
  refine ⟨lr, zs, rfl, hz, ce_pd (M := M0) alive0 (pd_state B a1 (AtN.name (i := 0) rfl (.inl rfl) rfl)) fun v H2 x2 r2 => ?_⟩
  have a2 := a1.ex x2
  have hz2 := x2 _ _ hz
  have rz2 : RpAll K M0 H2 zs (rs.map staD) := rz.mono (fun _ z => z) (ExM.of x2)
  refine ⟨zs, hz2, by rw [rz2.length, List.length_map]; omega, ?_⟩
  obtain ⟨dx, sv, hi, rv⟩ := a2.ins
  obtain ⟨ws, hw, rw_⟩ := a2.u
  rw [List.map_append] at rw_
  obtain ⟨xs, tv, rfl, r3, r4⟩ := snoc_rp rw_
  have L := a2.noT
  have e1 : ExS (Th g lu lr) H2 (upd H2 lr (.lst (zs ++ [v]))) := ExS.upd (.inr (.inr rfl))
  have hr3 : upd H2 lr (.lst (zs ++ [v])) lr = some (.lst (zs ++ [v])) := upd_same
  have hu3 : upd H2 lr (.lst (zs ++ [v])) lu = some (.lst (xs ++ [tv])) := by
    rw [upd_ne a2.ne]
    exact hw
  have hi3 : upd H2 lr (.lst (zs ++ [v])) g = some (.ins CD dx (deskF h lim sv lu lr dm)) := by
    rw [upd_ne a2.gr]
    exact hi
  generalize upd H2 lr (.lst (zs ++ [v])) = H3 at e1 hr3 hu3 hi3 ⊢
  refine b_cons (cs_fld (ce_pop (AtN.fld (AtN.name (i := 0) rfl (.inl rfl) rfl) B.ins.cl B.n4 rfl hi3 ⟨rfl, hu3, ?_⟩)))
  have e2 : ExS (Th g lu lr) H3 (upd H3 lu (.lst xs)) := ExS.upd (.inr (.inl rfl))
  have hu4 : upd H3 lu (.lst xs) lu = some (.lst xs) := upd_same
  have hr4 : upd H3 lu (.lst xs) lr = some (.lst (zs ++ [v])) := by
    rw [upd_ne a2.ne.symm]
    exact hr3
  have hi4 : upd H3 lu (.lst xs) g = some (.ins CD dx (deskF h lim sv lu lr dm)) := by
    rw [upd_ne a2.gu]
    exact hi3
  generalize upd H3 lu (.lst xs) = H4 at e2 hr4 hu4 hi4 ⊢
  refine ce_nm 0 ⟨g, CD, dx, _, rfl, hi4, B.ins.cl, B.n3, (by show 6 < 1000; decide), b_nil ?_⟩
  have e3 : ExS (Th g lu lr) H4 (upd H4 g (.ins CD dx (putF "_state" tv (deskF h lim sv lu lr dm)))) := ExS.upd (.inl rfl)
  have eA := (e1.trans e2).trans e3
  refine q _ ((ExS.of (x1.trans x2)).trans eA) ⟨⟨dx, tv, upd_same, flatN r4 (flat_sta t) L eA.exM⟩, a.ne, a.hg, ?_, ⟨xs, ?_, flatNs r3 (flats_of flat_sta us) L eA.exM⟩, ⟨zs ++ [v], ?_, ?_⟩⟩
  · obtain ⟨dh, hh⟩ := a2.hou
    exact ⟨dh, eA _ _ (fun z => z.elim a2.hg fun z => z.elim a2.hu a2.hr) hh⟩
  · rw [upd_ne a2.gu.symm]
    exact hu4
  · rw [upd_ne a2.gr.symm]
    exact hr4
  · rw [List.map_append]
    exact flatNs (rz2.append (.cons r2 .nil)) (by have z := flats_of flat_sta (rs ++ [s]); rwa [List.map_append] at z) L eA.exM
theorem ok_redo {f : Addr} {fd : FuncData} (F : Fun K "redo" "Desk.redo" s_Desk_redo f fd) (B : DesC K CD) (nb : NoB mg) : FnOk P w K mg base CX0 1 f fd ["self"] (spRedo K CD CH) := by
  refine F.ok sc_Desk_redo (fun vs H Q E h => ?_) (fun cdv A outer sh H vs Q E hr h => ⟨_, wB.ps, ?_⟩)
  · obtain ⟨g, lu, lr, dm, h, n, lim, s, t, us, rs, rfl, _⟩ := h
    rfl
  obtain ⟨g, lu, lr, dm, h, n, lim, s, t, us, rs, rfl, a, hl, q⟩ := h
  refine b_cons (s_if (M := M0) (k := false) alive0 (TD.is (td_eq hr.units (pd_len nb rfl (pd_redos B a (AtN.name (i := 0) rfl (.inl rfl) rfl)) (n := rs.length + 1) (by simp [lenD])) pd_int rfl rfl) ?_) (fun k => by cases k) fun _ H1 x1 => b_nil ?_)
  · rw [eqv_int]
    exact decide_eq_false (by omega)
  have a1 := a.ex x1
  refine b_cons (cs_expr (ce_append (ce_undos B a1 (AtN.name (i := 0) rfl (.inl rfl) rfl) ?_)))
  obtain ⟨zs, hz, rz⟩ := a1.u
  refine ⟨lu, zs, rfl, hz, ce_pd (M := M0) alive0 (pd_state B a1 (AtN.name (i := 0) rfl (.inl rfl) rfl)) fun v H2 x2 r2 => ?_⟩
  have a2 := a1.ex x2
  have hz2 := x2 _ _ hz
  have rz2 : RpAll K M0 H2 zs (us.map staD) := rz.mono (fun _ z => z) (ExM.of x2)
  refine ⟨zs, hz2, by rw [rz2.length, List.length_map]; omega, ?_⟩
  obtain ⟨dx, sv, hi, rv⟩ := a2.ins
  obtain ⟨ws, hw, rw_⟩ := a2.r
  rw [List.map_append] at rw_
  obtain ⟨xs, tv, rfl, r3, r4⟩ := snoc_rp rw_
  have L := a2.noT
  have e1 : ExS (Th g lu lr) H2 (upd H2 lu (.lst (zs ++ [v]))) := ExS.upd (.inr (.inl rfl))
  have hr3 : upd H2 lu (.lst (zs ++ [v])) lu = some (.lst (zs ++ [v])) := upd_same
  have hu3 : upd H2 lu (.lst (zs ++ [v])) lr = some (.lst (xs ++ [tv])) := by
    rw [upd_ne a2.ne.symm]
    exact hw
  have hi3 : upd H2 lu (.lst (zs ++ [v])) g = some (.ins CD dx (deskF h lim sv lu lr dm)) := by
    rw [upd_ne a2.gu]
    exact hi
  generalize upd H2 lu (.lst (zs ++ [v])) = H3 at e1 hr3 hu3 hi3 ⊢
  refine b_cons (cs_fld (ce_pop (AtN.fld (AtN.name (i := 0) rfl (.inl rfl) rfl) B.ins.cl B.n5 rfl hi3 ⟨rfl, hu3, ?_⟩)))
  have e2 : ExS (Th g lu lr) H3 (upd H3 lr (.lst xs)) := ExS.upd (.inr (.inr rfl))
  have hu4 : upd H3 lr (.lst xs) lr = some (.lst xs) := upd_same
  have hr4 : upd H3 lr (.lst xs) lu = some (.lst (zs ++ [v])) := by
    rw [upd_ne a2.ne]
    exact hr3
  have hi4 : upd H3 lr (.lst xs) g = some (.ins CD dx (deskF h lim sv lu lr dm)) := by
    rw [upd_ne a2.gr]
    exact hi3
  generalize upd H3 lr (.lst xs) = H4 at e2 hr4 hu4 hi4 ⊢
  refine ce_nm 0 ⟨g, CD, dx, _, rfl, hi4, B.ins.cl, B.n3, (by show 6 < 1000; decide), b_nil ?_⟩
  have e3 : ExS (Th g lu lr) H4 (upd H4 g (.ins CD dx (putF "_state" tv (deskF h lim sv lu lr dm)))) := ExS.upd (.inl rfl)
  have eA := (e1.trans e2).trans e3
  refine q _ ((ExS.of (x1.trans x2)).trans eA) ⟨⟨dx, tv, upd_same, flatN r4 (flat_sta t) L eA.exM⟩, a.ne, a.hg, ?_, ⟨zs ++ [v], ?_, ?_⟩, ⟨xs, ?_, flatNs r3 (flats_of flat_sta rs) L eA.exM⟩⟩
  · obtain ⟨dh, hh⟩ := a2.hou
    exact ⟨dh, eA _ _ (fun z => z.elim a2.hg fun z => z.elim a2.hu a2.hr) hh⟩
  · rw [upd_ne a2.gu.symm]
    exact hr4
  · rw [List.map_append]
    exact flatNs (rz2.append (.cons r2 .nil)) (by have z := flats_of flat_sta (us ++ [s]); rwa [List.map_append] at z) L eA.exM
  · rw [upd_ne a2.gr.symm]
    exact hu4
end
end TK

namespace TK
open PySem PySem.Spec PyProof.Rows L2 GV
/-! ### a number that is one -/
def spNumOk (K : PySem.W.Frag) : Sp := fun vs H Q _ => ∃ (i lo hi : Int), vs = [.int i, .int lo, .int hi] ∧ lo ≤ i ∧ i ≤ hi ∧ ∀ H', Evl.Ex H H' → Q .non H'
/-! ### the desk is made -/
def spDInit (K : PySem.W.Frag) (CD CH : Addr) : Sp := fun vs H Q _ => ∃ (g dx h : Addr) (u : V) (n : Nat) (lim : Int) (tp : Bool) (ns : List Int), vs = [.ref g, u, .ref h, .int lim] ∧ H g = some (.ins CD dx []) ∧ Rp K M0 H u (sqD tp (ns.map PyData.int)) ∧ RowL ns ∧ HAt CH n H h ∧ h ≠ g ∧ 0 ≤ lim ∧ lim ≤ 1000 ∧
  ∀ H' lu lr dm, H lu = none → H lr = none → H dm = none → (∀ a o, H a = some o → a ≠ g → H' a = some o) → DeskAt K CD CH H' g lu lr dm h n lim ⟨[], ns⟩ [] [] → Q .non H'
/-! ### a change -/
def spChange (K : PySem.W.Frag) (CD CH CB : Addr) (T : List (Addr × Str)) : Sp := fun vs H Q E => ∃ (g lu lr dm h : Addr) (n : Nat) (lim : Int) (s : Sta) (us rs : List Sta) (p : Nat), vs = [.ref g, .int (p : Nat)] ∧ DeskAt K CD CH H g lu lr dm h n lim s us rs ∧ p + 1 < s.row.length ∧ RowL s.row ∧ LamX.Tabs T H ∧ (s.his.length : Int) < lim ∧ s.his.length < 5000 ∧ us.length < 5000 ∧
  (entO n s.row p = none → ∀ H', ExM M0 H H' → LamX.Tabs T H' → Raised CB [("step", .int 0), ("place", .int (p : Nat))] H' E) ∧
  (∀ e, entO n s.row p = some e → ∀ H', ExM (Th g lu lr) H H' → LamX.Tabs T H' → DeskAt K CD CH H' g lu lr dm h n lim ⟨s.his ++ [e], exch s.row p⟩ (us ++ [s]) [] → Q .non H')
section
variable {P : Program} {w : World} {K : PySem.W.Frag} {mg : Str → Option Value} {base : Heap} {CD CH CB : Addr} {T : List (Addr × Str)}
theorem cl_check_numberOk {f : Addr} {fd : FuncData} (F : At K mg "check_number" s_check_number f fd) (c1 : Cl P w K mg base CX0 2 "is_number" (PureR K R_is_number)) : Cl P w K mg base CX0 3 "check_number" (spNumOk K) := by
  refine ⟨f, fd, _, F.fn.ok sc_check_number (fun vs H Q E h => ?_) (fun cdv A outer s H vs Q E hr h => ⟨_, wB.ps, ?_⟩), F.gl, F.fn.kp, F.fn.binds fun _ _ _ _ _ _ us hl => match us, hl with | [_, _, _], _ => rfl⟩
  · obtain ⟨i, lo, hi, rfl, _⟩ := h
    rfl
  obtain ⟨i, lo, hi, rfl, h1, h2, q⟩ := h
  refine b_cons (s_if (M := M0) (k := false) alive0 (TD.is (td_not (td_val (pd_callC c1 hr (by decide) rfl (ad_cons (nm 0 (.int i)) (ad_cons (nm 1 (.int lo)) (ad_cons (nm 2 (.int hi)) ad_nil))) ⟨.int i, lo, hi, rfl, rfl⟩))) ?_) (fun k => by cases k) (fun _ H2 x2 => b_nil (b_nil (q H2 x2))))
  show (!(decide (lo ≤ i) && decide (i ≤ hi))) = false
  rw [decide_eq_true h1, decide_eq_true h2]
  rfl
theorem ok_dinit {f : Addr} {fd : FuncData} {dvs : List V} {kws : List (Str × V)} (F : FunD K "__init__" "Desk.__init__" (defArgs s_Desk_init) (defBody s_Desk_init) (defScope s_Desk_init) dvs kws f fd) (B : DesC K CD) (nb : NoB mg) (gM : ∃ t, mg "_MOST_LIMIT" = some (.int 1000 t)) (c1 : Cl P w K mg base CX0 6 "check_row" (spRowOk K toN)) (c2 : Cl P w K mg base CX0 1 "check_house" (spHoOk CH)) (c3 : Cl P w K mg base CX0 3 "check_number" (spNumOk K)) :
    FnOk P w K mg base CX0 7 f fd ["self", "row", "house", "limit"] (spDInit K CD CH) := by
  refine F.ok sc_Desk_init (fun vs H Q E h => ?_) (fun cdv A outer sh H vs Q E hr h => ⟨_, PSs.nox wB.ps, ?_⟩)
  · obtain ⟨g, dx, h, u, n, lim, tp, ns, rfl, _⟩ := h
    rfl
  obtain ⟨g, dx, h, u, n, lim, tp, ns, rfl, hg, ru, hrow, hh, hne, l0, l1, q⟩ := h
  obtain ⟨tm, gM⟩ := gM
  refine b_cons (cs_expr (ce_call c1 hr (by decide) rfl (ca_cons (ce_nm 1 (ca_nil ⟨M0, u, tp, ns, rfl, alive0, ru, hrow, fun H1 x1 => ?_⟩)))))
  refine b_cons (cs_expr (ce_call c2 hr (by decide) rfl (ca_cons (ce_nm 2 (ca_nil ⟨h, n, rfl, hh.ex fun o => x1 _ _, fun H2 x2 => ?_⟩)))))
  refine b_cons (cs_expr (ce_call c3 hr (by decide) rfl (ca_cons (ce_nm 3 (ca_cons (ce_pd (M := M0) alive0 pd_int fun v0 H3 x3 r3 => ca_cons ⟨_, pe_glob rfl gM (v := .int 1000) ⟨tm, rfl⟩ (by decide), ca_nil ?_⟩))))))
  cases r3
  refine ⟨lim, 0, 1000, rfl, l0, l1, fun H4 x4 => ?_⟩
  have x14 := ((x1.trans x2).trans x3).trans x4
  have hg4 := x14 _ _ hg
  refine b_cons (cs_fld (ce_nm 2 (ce_nm 0 ⟨g, CD, dx, [], rfl, hg4, B.ins.cl, B.n1, (by show 0 < 1000; decide), ?_⟩)))
  refine b_cons (cs_fld (ce_nm 3 (ce_nm 0 ⟨g, CD, dx, _, rfl, upd_same, B.ins.cl, B.n2, (by show 1 < 1000; decide), ?_⟩)))
  have k2 : ∀ a o, H a = some o → a ≠ g → upd (upd H4 g (.ins CD dx (putF "house" (.ref h) []))) g (.ins CD dx (putF "_limit" (.int lim) (putF "house" (.ref h) []))) a = some o := fun a o ha na => by
    rw [upd_ne na, upd_ne na]
    exact x14 _ _ ha
  have e2 : ExM (fun a => a = g) H (upd (upd H4 g (.ins CD dx (putF "house" (.ref h) []))) g (.ins CD dx (putF "_limit" (.int lim) (putF "house" (.ref h) [])))) := fun a o ha na _ => k2 a o ha na
  have hg5 : upd (upd H4 g (.ins CD dx (putF "house" (.ref h) []))) g (.ins CD dx (putF "_limit" (.int lim) (putF "house" (.ref h) []))) g = some (.ins CD dx [("house", .ref h), ("_limit", .int lim)]) := upd_same
  have fr : ∀ a, upd (upd H4 g (.ins CD dx (putF "house" (.ref h) []))) g (.ins CD dx (putF "_limit" (.int lim) (putF "house" (.ref h) []))) a = none → H a = none := fun a ha => by
    cases z : H a with
    | none => rfl
    | some o =>
      by_cases na : a = g
      · rw [na, upd_same] at ha
        cases ha
      · rw [k2 a o z na] at ha
        cases ha
  generalize upd (upd H4 g (.ins CD dx (putF "house" (.ref h) []))) g (.ins CD dx (putF "_limit" (.int lim) (putF "house" (.ref h) []))) = H5 at k2 e2 hg5 fr ⊢
  have ru5 : ∃ (xs : List V), Rp K M0 H5 u (sqD tp (ns.map PyData.int)) := ⟨[], by
    have L : ∀ x, x = g → ∀ xs, H x ≠ some (.tup xs) ∧ (∀ o, H x ≠ some (.frz o (.tup xs))) ∧ H x ≠ some (.lst xs) ∧ ∀ o, H x ≠ some (.frz o (.lst xs)) := fun x hx xs => by
      rw [hx, hg]
      exact ⟨fun z => (by cases z), fun o z => (by cases z), fun z => (by cases z), fun o z => (by cases z)⟩
    cases tp with
    | true =>
      cases ru with
      | tup m hr rs =>
        have e := RpAll.of_ints rs
        subst e
        refine .tup m (xs := ns.map V.int) ?_ (.ints _)
        rcases hr with hr | ⟨o, hr⟩
        · exact .inl (k2 _ _ hr fun e => (L _ e _).1 hr)
        · exact .inr ⟨o, k2 _ _ hr fun e => (L _ e _).2.1 _ hr⟩
    | false =>
      cases ru with
      | lst m hr rs =>
        have e := RpAll.of_ints rs
        subst e
        refine .lst m (xs := ns.map V.int) ?_ (.ints _)
        rcases hr with hr | ⟨o, hr⟩
        · exact .inl (k2 _ _ hr fun e => (L _ e _).2.2.1 hr)
        · exact .inr ⟨o, k2 _ _ hr fun e => (L _ e _).2.2.2 _ hr⟩⟩
  obtain ⟨_, ru5⟩ := ru5
  refine b_cons (cs_fld (ce_tup (ca_cons (ce_tup (ca_nil ⟨(by decide), fun p1 hp1 => ca_cons (ce_pd (M := M0) alive0 (pd_callTy call_tuple_of rfl nb.tuple PyProof.Rows.boot_tuple (ad_cons (nm 1 (ru5.mono (fun _ z => z) (.of (Evl.Ex.new hp1)))) ad_nil) (rn_tuple (ds := ns.map PyData.int) (by cases tp <;> rfl))) fun tv H6 x6 r6 => ca_nil ⟨(by show 2 ≤ 1000; decide), fun p2 hp2 => ?_⟩)⟩)))))
  have n12 : p2 ≠ p1 := fun e => by
    rw [e, x6 _ _ upd_same] at hp2
    cases hp2
  have k7 : ∀ a o, H a = some o → a ≠ g → upd H6 p2 (.tup [.ref p1, tv]) a = some o := fun a o ha na => by
    have z := x6 _ _ (Evl.Ex.new hp1 (o := .tup []) _ _ (k2 a o ha na))
    rw [upd_ne (ne_of_none z hp2)]
    exact z
  have hg7 : upd H6 p2 (.tup [.ref p1, tv]) g = some (.ins CD dx [("house", .ref h), ("_limit", .int lim)]) := by
    have z := x6 _ _ (Evl.Ex.new hp1 (o := .tup []) _ _ hg5)
    rw [upd_ne (ne_of_none z hp2)]
    exact z
  have r7 : Rp K M0 (upd H6 p2 (.tup [.ref p1, tv])) (.ref p2) (staD ⟨[], ns⟩) := .tup (fun z => z) (.inl upd_same) (.cons (.tup (xs := []) (fun z => z) (.inl (by rw [upd_ne n12.symm]; exact x6 _ _ upd_same)) .nil) (.cons (r6.mono (fun _ z => z) (.of (Evl.Ex.new hp2))) .nil))
  have fr7 : ∀ a, upd H6 p2 (.tup [.ref p1, tv]) a = none → H a = none := fun a ha => by
    cases z : H a with
    | none => rfl
    | some o =>
      by_cases na : a = g
      · rw [na, hg7] at ha
        cases ha
      · rw [k7 a o z na] at ha
        cases ha
  generalize upd H6 p2 (.tup [.ref p1, tv]) = H7 at k7 hg7 r7 fr7 ⊢
  refine ce_nm 0 ⟨g, CD, dx, _, rfl, hg7, B.ins.cl, B.n3, (by show 2 < 1000; decide), ?_⟩
  have r8 : Rp K M0 (upd H7 g (.ins CD dx (putF "_state" (.ref p2) [("house", .ref h), ("_limit", .int lim)]))) (.ref p2) (staD ⟨[], ns⟩) := flatN r7 (flat_sta _) (S := fun a => a = g) (fun x hx xs => by
    rw [hx, hg7]
    exact ⟨fun z => (by cases z), fun o z => (by cases z)⟩) (upd_exM rfl)
  have k8 : ∀ a o, H a = some o → a ≠ g → upd H7 g (.ins CD dx (putF "_state" (.ref p2) [("house", .ref h), ("_limit", .int lim)])) a = some o := fun a o ha na => by
    rw [upd_ne na]
    exact k7 a o ha na
  have hg8 : upd H7 g (.ins CD dx (putF "_state" (.ref p2) [("house", .ref h), ("_limit", .int lim)])) g = some (.ins CD dx [("house", .ref h), ("_limit", .int lim), ("_state", .ref p2)]) := upd_same
  generalize upd H7 g (.ins CD dx (putF "_state" (.ref p2) [("house", .ref h), ("_limit", .int lim)])) = H8 at r8 k8 hg8 ⊢
  have fr8 : ∀ a, H8 a = none → H a = none := fun a ha => by
    cases z : H a with
    | none => rfl
    | some o =>
      by_cases na : a = g
      · rw [na, hg8] at ha
        cases ha
      · rw [k8 a o z na] at ha
        cases ha
  -- self._to_undo = []
  refine b_cons (cs_fld (ce_lst (ca_nil ⟨(by decide), fun lu hlu => ce_nm 0 ⟨g, CD, dx, _, rfl, by rw [upd_ne (ne_of_none hg8 hlu)]; exact hg8, B.ins.cl, B.n4, (by show 3 < 1000; decide), ?_⟩⟩)))
  have gu : g ≠ lu := ne_of_none hg8 hlu
  have x9 : ExM (fun a => a = g) H8 (upd (upd H8 lu (.lst [])) g (.ins CD dx (putF "_to_undo" (.ref lu) [("house", .ref h), ("_limit", .int lim), ("_state", .ref p2)]))) := fun a o ha na _ => by
    rw [upd_ne na, upd_ne (ne_of_none ha hlu)]
    exact ha
  have hlu9 : upd (upd H8 lu (.lst [])) g (.ins CD dx (putF "_to_undo" (.ref lu) [("house", .ref h), ("_limit", .int lim), ("_state", .ref p2)])) lu = some (.lst []) := by
    rw [upd_ne gu.symm, upd_same]
  have hg9 : upd (upd H8 lu (.lst [])) g (.ins CD dx (putF "_to_undo" (.ref lu) [("house", .ref h), ("_limit", .int lim), ("_state", .ref p2)])) g = some (.ins CD dx [("house", .ref h), ("_limit", .int lim), ("_state", .ref p2), ("_to_undo", .ref lu)]) := upd_same
  have L8 : NoT (fun a => a = g) H8 := fun x hx xs => by
    rw [hx, hg8]
    exact ⟨fun z => (by cases z), fun o z => (by cases z)⟩
  have r9 := flatN r8 (flat_sta _) L8 x9
  have k9 : ∀ a o, H a = some o → a ≠ g → upd (upd H8 lu (.lst [])) g (.ins CD dx (putF "_to_undo" (.ref lu) [("house", .ref h), ("_limit", .int lim), ("_state", .ref p2)])) a = some o := fun a o ha na => by
    rw [upd_ne na, upd_ne (ne_of_none (k8 a o ha na) hlu)]
    exact k8 a o ha na
  generalize upd (upd H8 lu (.lst [])) g (.ins CD dx (putF "_to_undo" (.ref lu) [("house", .ref h), ("_limit", .int lim), ("_state", .ref p2)])) = H9 at x9 hlu9 hg9 r9 k9 ⊢
  -- self._to_redo = []
  refine b_cons (cs_fld (ce_lst (ca_nil ⟨(by decide), fun lr hlr => ce_nm 0 ⟨g, CD, dx, _, rfl, by rw [upd_ne (ne_of_none hg9 hlr)]; exact hg9, B.ins.cl, B.n5, (by show 4 < 1000; decide), ?_⟩⟩)))
  have gr : g ≠ lr := ne_of_none hg9 hlr
  have ur : lu ≠ lr := ne_of_none hlu9 hlr
  have xA : ExM (fun a => a = g) H9 (upd (upd H9 lr (.lst [])) g (.ins CD dx (putF "_to_redo" (.ref lr) [("house", .ref h), ("_limit", .int lim), ("_state", .ref p2), ("_to_undo", .ref lu)]))) := fun a o ha na _ => by
    rw [upd_ne na, upd_ne (ne_of_none ha hlr)]
    exact ha
  have hlrA : upd (upd H9 lr (.lst [])) g (.ins CD dx (putF "_to_redo" (.ref lr) [("house", .ref h), ("_limit", .int lim), ("_state", .ref p2), ("_to_undo", .ref lu)])) lr = some (.lst []) := by
    rw [upd_ne gr.symm, upd_same]
  have hluA : upd (upd H9 lr (.lst [])) g (.ins CD dx (putF "_to_redo" (.ref lr) [("house", .ref h), ("_limit", .int lim), ("_state", .ref p2), ("_to_undo", .ref lu)])) lu = some (.lst []) := by
    rw [upd_ne gu.symm, upd_ne ur]
    exact hlu9
  have hgA : upd (upd H9 lr (.lst [])) g (.ins CD dx (putF "_to_redo" (.ref lr) [("house", .ref h), ("_limit", .int lim), ("_state", .ref p2), ("_to_undo", .ref lu)])) g = some (.ins CD dx [("house", .ref h), ("_limit", .int lim), ("_state", .ref p2), ("_to_undo", .ref lu), ("_to_redo", .ref lr)]) := upd_same
  have L9 : NoT (fun a => a = g) H9 := fun x hx xs => by
    rw [hx, hg9]
    exact ⟨fun z => (by cases z), fun o z => (by cases z)⟩
  have rA := flatN r9 (flat_sta _) L9 xA
  have kA : ∀ a o, H a = some o → a ≠ g → upd (upd H9 lr (.lst [])) g (.ins CD dx (putF "_to_redo" (.ref lr) [("house", .ref h), ("_limit", .int lim), ("_state", .ref p2), ("_to_undo", .ref lu)])) a = some o := fun a o ha na => by
    rw [upd_ne na, upd_ne (ne_of_none (k9 a o ha na) hlr)]
    exact k9 a o ha na
  generalize upd (upd H9 lr (.lst [])) g (.ins CD dx (putF "_to_redo" (.ref lr) [("house", .ref h), ("_limit", .int lim), ("_state", .ref p2), ("_to_undo", .ref lu)])) = HA at xA hlrA hluA hgA rA kA ⊢
  -- self._state_of_mark = {}
  refine b_cons (cs_fld (ce_dict0 fun dm hdm => ce_nm 0 ⟨g, CD, dx, _, rfl, by rw [upd_ne (ne_of_none hgA hdm)]; exact hgA, B.ins.cl, B.n6, (by show 5 < 1000; decide), b_nil ?_⟩))
  have xB : ExM (fun a => a = g) HA (upd (upd HA dm (.dK [])) g (.ins CD dx (putF "_state_of_mark" (.ref dm) [("house", .ref h), ("_limit", .int lim), ("_state", .ref p2), ("_to_undo", .ref lu), ("_to_redo", .ref lr)]))) := fun a o ha na _ => by
    rw [upd_ne na, upd_ne (ne_of_none ha hdm)]
    exact ha
  have LA : NoT (fun a => a = g) HA := fun x hx xs => by
    rw [hx, hgA]
    exact ⟨fun z => (by cases z), fun o z => (by cases z)⟩
  have fr9 : ∀ a, H9 a = none → H a = none := fun a ha => by
    cases z : H a with
    | none => rfl
    | some o =>
      by_cases na : a = g
      · rw [na, hg9] at ha
        cases ha
      · rw [k9 a o z na] at ha
        cases ha
  have frA : ∀ a, HA a = none → H a = none := fun a ha => by
    cases z : H a with
    | none => rfl
    | some o =>
      by_cases na : a = g
      · rw [na, hgA] at ha
        cases ha
      · rw [kA a o z na] at ha
        cases ha
  have kB : ∀ a o, H a = some o → a ≠ g → upd (upd HA dm (.dK [])) g (.ins CD dx (putF "_state_of_mark" (.ref dm) [("house", .ref h), ("_limit", .int lim), ("_state", .ref p2), ("_to_undo", .ref lu), ("_to_redo", .ref lr)])) a = some o := fun a o ha na => by
    rw [upd_ne na, upd_ne (ne_of_none (kA a o ha na) hdm)]
    exact kA a o ha na
  obtain ⟨dh, hh0⟩ := hh
  refine q _ lu lr dm (fr8 _ hlu) (fr9 _ hlr) (frA _ hdm) kB ⟨⟨dx, _, upd_same, flatN rA (flat_sta _) LA xB⟩, ur, hne, ⟨dh, kB _ _ hh0 hne⟩, ⟨[], xB _ _ hluA gu.symm (fun _ z => by cases z), .nil⟩, ⟨[], xB _ _ hlrA gr.symm (fun _ z => by cases z), .nil⟩⟩
end
end TK

namespace TK
open PySem PySem.Spec PyProof.Rows L2 GV
/-- lists and objects alone -/
def LoI (S : Addr → Prop) (H : Hp) : Prop := ∀ a, S a → (∃ xs, H a = some (.lst xs)) ∨ ∃ C dx fs, H a = some (.ins C dx fs)
theorem tabs_exS {T : List (Addr × Str)} {S : Addr → Prop} {H H' : Hp} (t : LamX.Tabs T H) (e : ExS S H H') (L : LoI S H) : LamX.Tabs T H' := fun p hp => by
  obtain ⟨ps, h1, h2, h3⟩ := t p hp
  have off : ∀ a o, H a = some o → (∀ xs, o ≠ .lst xs) → (∀ C dx fs, o ≠ .ins C dx fs) → H' a = some o := fun a o ha n1 n2 => e a o (fun z => by
    rcases L a z with ⟨xs, h⟩ | ⟨C, dx, fs, h⟩
    · rw [ha] at h
      exact n1 _ (Option.some.inj h)
    · rw [ha] at h
      exact n2 _ _ _ (Option.some.inj h)) ha
  refine ⟨ps, off _ _ h1 (fun _ z => by cases z) (fun _ _ _ z => by cases z), h2, fun pos cv hc => ?_⟩
  obtain ⟨c, e1, e2⟩ := h3 pos cv hc
  exact ⟨c, e1, off _ _ e2 (fun _ z => by cases z) (fun _ _ _ z => by cases z)⟩
theorem DeskAt.loI {K : PySem.W.Frag} {CD CH : Addr} {H : Hp} {g lu lr dm h : Addr} {n : Nat} {lim : Int} {s : Sta} {us rs : List Sta} (a : DeskAt K CD CH H g lu lr dm h n lim s us rs) : LoI (Th g lu lr) H := fun x hx => by
  obtain ⟨dx, sv, hi, rv⟩ := a.ins
  obtain ⟨ws, hw, _⟩ := a.u
  obtain ⟨zs, hz, _⟩ := a.r
  rcases hx with rfl | rfl | rfl
  · exact .inr ⟨_, _, _, hi⟩
  · exact .inl ⟨_, hw⟩
  · exact .inl ⟨_, hz⟩
theorem len_list {α : Type} (f : α → PyData) (l : List α) : lenD (.tuple (l.map f)) = some l.length := by
  show some _ = _
  rw [List.length_map]
section
variable {P : Program} {w : World} {K : PySem.W.Frag} {mg : Str → Option Value} {base : Heap} {CD CH CB : Addr} {T : List (Addr × Str)}
theorem ok_change {f : Addr} {fd : FuncData} (F : Fun K "change" "Desk.change" s_Desk_change f fd) (B : DesC K CD) (nb : NoB mg) (ce : Cl P w K mg base CX0 9 "_entry_of" (spEntry K CH T)) (cs : Cl P w K mg base CX0 1 "swapped" (PureR K R_swap)) (en : MethS P w K mg base CX0 CD "_enter" 1 ["self", "state"] (spEnter K CD CH)) (er : ErrC P w K mg base "Barred" CB ["place", "step"]) :
    FnOk P w K mg base (L2.CX P w) 10 f fd ["self", "place"] (spChange K CD CH CB T) := by
  refine F.okX sc_Desk_change (fun vs H Q E h => ?_) (fun cdv A outer sh H vs Q E hr h => ⟨_, wB.ps, ?_⟩)
  · obtain ⟨g, lu, lr, dm, h, n, lim, s, us, rs, p, rfl, _⟩ := h
    rfl
  obtain ⟨g, lu, lr, dm, h, n, lim, s, us, rs, p, rfl, a, hp, hrow, hT, hl, hh5, hu5, q1, q2⟩ := h
  have tk : Takes _ (fun cls d (_ : St) H' => E cls d H') := takes_of (X := cxOf (L2.CX P w) P w K mg base n_Desk_change "Desk.change" (defScope s_Desk_change) f cdv A outer sh H E) rfl rfl rfl rfl
  refine b_cons (cs_unpP (i := 2) (j := 3) rfl (pg_name (i := 2) sc_Desk_change.nd rfl (.inl rfl)) (pg_name (i := 3) sc_Desk_change.nd rfl (.inl rfl)) (ce_pd (M := M0) alive0 (pd_state B a (AtN.name (i := 0) rfl (.inl rfl) rfl)) fun v1 H1 x1 r1 => ?_))
  cases r1 with
  | tup m1 h1 rs1 =>
    obtain ⟨hv, rv, rfl, rh, rr⟩ := rpa2 rs1
    refine ⟨_, hv, rv, rfl, .inl h1, ?_⟩
    have a1 := a.ex x1
    refine b_cons (cs_set (i := 4) sc_Desk_change.nd rfl (.inl rfl) (ce_call ce hr (by decide) rfl (ca_cons (ce_nm 3 (ca_cons (ce_nm 1 (ca_cons (ce_house B a1 (AtN.name (i := 0) rfl (.inl rfl) rfl) (ca_nil ⟨rv, h, n, s.row, p, rfl, rr, hp, hrow, a1.hou, hT.ext x1, fun v2 H2 e2 T2 r2 => ?_⟩)))))))))
    have a2 := a1.ex0 e2
    have rr2 := rr.mono (fun _ z => z) e2
    have rh2 := rh.mono (fun _ z => z) e2
    cases hn : entO n s.row p with
    | none =>
      rw [hn] at r2
      cases r2
      refine b_cons (s_if (M := M0) (k := true) alive0 (td_isN (nm 4 .non)) (fun _ H3 x3 => ?_) (fun k => by cases k))
      refine b_cons (s_raise rfl er (hr.mono (by decide)) tk rfl (ca_cons (ce_nm 1 (ca_cons (ce_pd (M := M0) alive0 pd_int fun v4 H4 x4 r4 => ?_)))))
      cases r4
      exact ca_nil ⟨rfl, (by show 2 ≤ 1000; decide), q1 hn _ ((ExM.of x1).trans (e2.trans (.of (x3.trans x4)))) (T2.ext (x3.trans x4))⟩
    | some e =>
      rw [hn] at r2
      refine b_cons (s_if (M := M0) (k := false) alive0 (TD.is (td_isN (nm 4 r2)) rfl) (fun k => by cases k) (fun _ H3 x3 => b_nil ?_))
      have a3 := a2.ex x3
      have rr3 := rr2.mono (fun _ z => z) (ExM.of x3)
      have rh3 := rh2.mono (fun _ z => z) (ExM.of x3)
      have r3 := r2.mono (fun _ z => z) (ExM.of x3)
      refine b_cons (s_if (M := M0) (k := false) alive0 (TD.is (td_ge (pd_len nb rfl (nm 2 rh3) (len_list enD s.his)) (pd_limit B a3 (AtN.name (i := 0) rfl (.inl rfl) rfl))) (decide_eq_false (by omega))) (fun k => by cases k) (fun _ H4 x4 => b_nil ?_))
      have a4 := a3.ex x4
      have rr4 := rr3.mono (fun _ z => z) (ExM.of x4)
      have rh4 := rh3.mono (fun _ z => z) (ExM.of x4)
      have r4 := r3.mono (fun _ z => z) (ExM.of x4)
      obtain ⟨dx, sv, hi, _⟩ := a4.ins
      refine b_cons (cs_expr (ce_methH B.ins.cl en hr (by decide) (ce_nm 0 ⟨g, dx, _, rfl, hi, rfl, ca_cons (ce_pd (M := M0) (d := staD ⟨s.his ++ [e], exch s.row p⟩) alive0 (pd_tup (ad_cons (PD.is (pd_catT (es := s.his.map enD) (fs := [enD e]) (nm 2 rh4) (pd_tup (ad_cons (nm 4 r4) ad_nil) (by show 1 ≤ 100000; decide)) (by rw [List.length_map]; show _ + 1 ≤ 100000; omega)) (by rw [List.map_append]; rfl)) (ad_cons (pd_callC cs hr (by decide) rfl (ad_cons (nm 3 rr4) (ad_cons (nm 1 (.int (p : Nat))) ad_nil)) ⟨s.row, p, hp, by have := hrow.1; omega, rfl, rfl⟩) ad_nil)) (by show 2 ≤ 100000; decide)) fun v5 H5 x5 r5 => ca_nil ⟨g, lu, lr, dm, h, n, lim, s, _, us, rs, v5, rfl, a4.ex x5, r5, hu5, fun H6 e6 a6 => b_nil ?_⟩)⟩)))
      refine q2 e hn H6 ((ExM.wid ((ExM.of x1).trans (e2.trans (.of ((x3.trans x4).trans x5)))) fun _ z => z.elim).trans e6.exM) (tabs_exS (T2.ext ((x3.trans x4).trans x5)) e6 (a4.ex x5).loI) a6
end
end TK

namespace TK
open PySem PySem.Spec PyProof.Rows L2 GV
/-! ### the law's numbers -/
def spCell (K : PySem.W.Frag) : Sp := fun vs H Q _ => ∃ (M : Addr → Prop) (a : Addr) (ns : List Int) (i : Nat), vs = [.ref a, .int i] ∧ Alive M H ∧ ScAt K M H a ns ∧ ∀ z H', Evl.Ex H H' → Q (.int z) H'
def spBag : Sp := fun vs H Q _ => ∃ (c : Int) (i : Nat), vs = [.int c, .int i] ∧ ∀ p r c k H', H p = none → Evl.Ex H H' → H' p = some (potL r c k) → Q (.ref p) H'
section
variable {P : Program} {w : World} {K : PySem.W.Frag} {mg : Str → Option Value} {base : Heap}
theorem cl_law_cell {f : Addr} {fd : FuncData} (F : At K mg "_law_cell" s_law_cell f fd) (nb : NoB mg) : Cl P w K mg base CX0 1 "_law_cell" (spCell K) := by
  refine ⟨f, fd, _, F.fn.ok sc_law_cell (fun vs H Q E h => ?_) (fun cdv A outer s H vs Q E hr h => ⟨_, wB.ps, ?_⟩), F.gl, F.fn.kp, F.fn.binds fun _ _ _ _ _ _ us hl => match us, hl with | [_, _], _ => rfl⟩
  · obtain ⟨M, a, ns, i, rfl, _⟩ := h
    rfl
  obtain ⟨M, a, ns, i, rfl, al, r1, q⟩ := h
  refine b_cons (s_if al (td_lt (nm 1 (.int (i : Int))) (pd_scLen (j := 0) r1 rfl nb.len)) (fun hk H2 x2 => ?_) (fun _ H2 x2 => b_nil ?_))
  · have hi : i < ns.length := by
      have := of_decide_eq_true hk
      omega
    refine b_cons (s_ret (al.mono x2) (pd_scIx (j := 0) (r1.mono (fun _ z => z) (ExM.of x2)) (nm 1 (.int (i : Int))) (List.getElem?_eq_getElem hi)) fun v H3 x3 r3 => ?_)
    cases r3
    exact q _ H3 (x2.trans x3)
  · have r2 := r1.mono (fun _ z => z) (ExM.of x2)
    refine b_cons (s_ret (al.mono x2) (pd_add (pd_mul (pd_add (nm 1 (.int (i : Int))) pd_int) pd_int (.inr (by decide))) (pd_mod (pd_intI nb rfl (pd_sum rfl nb rfl (PD.is (FD.pd (fd_scSlice (j := 0) r2 od_none (od_some pd_int))) ((congrArg PyData.list (cutD_take _ 1)).trans (by rw [List.map_take]))))) pd_int (by decide))) fun v H3 x3 r3 => ?_)
    cases r3
    exact q _ H3 (x2.trans x3)
theorem cl_law_bag {f : Addr} {fd : FuncData} (F : At K mg "_law_bag" s_law_bag f fd) (nb : NoB mg) : Cl P w K mg base CX0 1 "_law_bag" spBag := by
  refine ⟨f, fd, _, F.fn.ok sc_law_bag (fun vs H Q E h => ?_) (fun cdv A outer s H vs Q E hr h => ⟨_, wB.ps, ?_⟩), F.gl, F.fn.kp, F.fn.binds fun _ _ _ _ _ _ us hl => match us, hl with | [_, _], _ => rfl⟩
  · obtain ⟨c, i, rfl, _⟩ := h
    rfl
  obtain ⟨c, i, rfl, q⟩ := h
  have last : ∀ (z : Int) H2, Evl.Ex H H2 → wB (cxOf CX0 P w K mg base n_law_bag "_law_bag" (defScope s_law_bag) f cdv A outer s H E).nox ((defBody s_law_bag).drop 2) { nx := fun _ H' => Q .non H', rt := Q } [some (.int c), some (.int i), some (.int z)] H2 := by
    intro z H2 x2
    refine b_cons (cs_ret (ce_fd (M := M0) alive0 (fd_lst (ad_cons (nm 2 (.int z)) (ad_cons (pd_mod (pd_intI nb rfl (pd_add (nm 0 (.int c)) (pd_mul (nm 1 (.int (i : Int))) pd_int (.inr (by decide))))) pd_int (by decide)) (ad_cons pd_int ad_nil))) (by simp)) fun p ws H3 hp x3 h3 rw3 => ?_))
    obtain ⟨u, v, x, rfl, a1, a2, a3⟩ := rpa3 rw3
    cases a1
    cases a2
    cases a3
    exact q p _ _ _ H3 (Evl.fresh_back x2 hp) (x2.trans x3) h3
  refine b_cons (s_set (M := M0) (i := 2) alive0 sc_law_bag.nd rfl (.inl rfl) pd_int fun v H1 x1 r1 => ?_)
  cases r1
  refine b_cons (s_if (M := M0) alive0 (td_ge (nm 0 (.int c)) (pd_pow pd_int pd_int ⟨by decide, by decide, by decide⟩)) (fun _ H4 x4 => ?_) (fun _ H4 x4 => b_nil (last 0 H4 (x1.trans x4))))
  exact b_cons (s_set (M := M0) (i := 2) alive0 sc_law_bag.nd rfl (.inl rfl) (nm 0 (.int c)) fun v H5 x5 r5 => by
    cases r5
    exact b_nil (last c H5 ((x1.trans x4).trans x5)))
theorem cl_law_take {f : Addr} {fd : FuncData} (F : At K mg "_law_take" s_law_take f fd) (nb : NoB mg) : Cl P w K mg base CX0 1 "_law_take" spTake := by
  refine ⟨f, fd, _, F.fn.ok sc_law_take (fun vs H Q E h => ?_) (fun cdv A outer s H vs Q E hr h => ⟨_, wB.ps, ?_⟩), F.gl, F.fn.kp, F.fn.binds fun _ _ _ _ _ _ us hl => match us, hl with | [_, _], _ => rfl⟩
  · obtain ⟨b, n, r, c, k, rfl, _⟩ := h
    rfl
  obtain ⟨b, n, r, c, k, rfl, hb, h0, hn, q⟩ := h
  have pot : ∀ {H' : Hp} {r c k : Int}, H' b = some (potL r c k) → Rp K M0 H' (.ref b) (.list [.int r, .int c, .int k]) := fun e => .lst (fun z => z) (.inl e) (.cons (.int _) (.cons (.int _) (.cons (.int _) .nil)))
  refine b_cons (cs_sub (ce_pd (M := M0) alive0 (pd_add (pd_ix (nm 0 (pot hb)) pd_int rfl) pd_int) fun v H5 x5 r5 => ce_nm 0 (ce_pd (M := M0) alive0 pd_int fun y H6 x6 r6 => ?_)))
  cases r5
  cases r6
  refine ⟨b, _, 2, 2, rfl, rfl, x6 _ _ (x5 _ _ hb), rfl, ?_⟩
  have e7 : ExB b H (upd H6 b (.lst (List.set [V.int r, V.int c, V.int k] 2 (V.int (k + 1))))) := ((ExB.of x5).trans (.of x6)).trans .upd
  have hb7 : upd H6 b (.lst (List.set [V.int r, V.int c, V.int k] 2 (V.int (k + 1)))) b = some (potL r c (k + 1)) := upd_same
  generalize upd H6 b (.lst (List.set [V.int r, V.int c, V.int k] 2 (V.int (k + 1)))) = H7 at e7 hb7 ⊢
  refine b_cons (s_if (M := M0) alive0 (td_gt (pd_ix (nm 0 (pot hb7)) pd_int rfl) pd_int) (fun _ H8 x8 => ?_) (fun _ H8 x8 => b_nil ?_))
  · have hb8 := x8 _ _ hb7
    refine b_cons (s_set (M := M0) (i := 2) alive0 sc_law_take.nd rfl (.inl rfl) (pd_mod (pd_intI nb rfl (pd_ix (nm 0 (pot hb8)) pd_int rfl)) (nm 1 (.int n)) h0) fun v H9 x9 r9 => ?_)
    cases r9
    have hb9 := x9 _ _ hb8
    refine b_cons (cs_sub (ce_pd (M := M0) alive0 (pd_div (pd_ix (nm 0 (pot hb9)) pd_int rfl) (nm 1 (.int n)) (wide_div h0 hn (by decide) (by decide))) fun v HA xA rA => ce_nm 0 (ce_pd (M := M0) alive0 pd_int fun y HB xB rB => ?_)))
    cases rA
    cases rB
    refine ⟨b, _, 0, 0, rfl, rfl, xB _ _ (xA _ _ hb9), rfl, ?_⟩
    refine b_cons (cs_ret (ce_nm 2 ?_))
    obtain ⟨z0, z1⟩ := emod_lt' r h0
    exact q _ _ _ _ z0 z1 ((e7.trans (.of (x8.trans (x9.trans (xA.trans xB))))).trans .upd) upd_same
  · have hb8 := x8 _ _ hb7
    refine b_cons (s_set (M := M0) (i := 3) alive0 sc_law_take.nd rfl (.inl rfl) (pd_mod (pd_intI nb rfl (pd_add (pd_mul (pd_ix (nm 0 (pot hb8)) pd_int rfl) pd_int (.inr (by decide))) (pd_mul (pd_ix (nm 0 (pot hb8)) pd_int rfl) pd_int (.inr (by decide))))) pd_int (by decide)) fun v H9 x9 r9 => ?_)
    cases r9
    have hb9 := x9 _ _ hb8
    obtain ⟨l0, l1⟩ := emod_lt' (c * 48271 + (k + 1) * 69621) (m := 2147483647) (by decide)
    generalize (c * 48271 + (k + 1) * 69621) % 2147483647 = one at l0 l1 ⊢
    refine b_cons (s_set (M := M0) (i := 4) alive0 sc_law_take.nd rfl (.inl rfl) (pd_mod (pd_intI nb rfl (pd_add (pd_add (pd_mul (nm 3 (.int one)) (nm 3 (.int one)) (small_mul l0 (by omega))) (pd_mul (pd_ix (nm 0 (pot hb9)) pd_int rfl) pd_int (.inr (by decide)))) pd_int)) pd_int (by decide)) fun v HA xA rA => ?_)
    cases rA
    obtain ⟨m0, m1⟩ := emod_lt' (one * one + (k + 1) * 16807 + 5) (m := 1000000007) (by decide)
    generalize (one * one + (k + 1) * 16807 + 5) % 1000000007 = two at m0 m1 ⊢
    refine b_cons (s_ret (M := M0) alive0 (pd_mod (pd_div (pd_mod (pd_intI nb rfl (pd_add (pd_mul (nm 4 (.int two)) (nm 4 (.int two)) (small_mul m0 (by omega))) (nm 3 (.int one)))) pd_int (by decide)) pd_int (wide_div (b := 40) (by decide) (by decide) (by decide) (by decide))) (nm 1 (.int n)) h0) fun v HB xB rB => ?_)
    cases rB
    obtain ⟨z0, z1⟩ := emod_lt' ((two * two + one) % 998244353 / 7) h0
    exact q _ _ _ HB z0 z1 (e7.trans (.of (x8.trans (x9.trans (xA.trans xB))))) (xB _ _ (xA _ _ hb9))
end
end TK

namespace TK
open PySem PySem.Spec PyProof.Rows L2 GV
/-! ### the stones, ascending -/
theorem nBig {n : Int} (h0 : 0 ≤ n) (h : n ≤ 2000000000) : n.natAbs < 2 ^ 8000 := Nat.lt_of_le_of_lt (m := 2000000000) (by omega) (by decide +kernel)
/-- what stands after k stones: ascending, from -10 ** 12 on, all below the next weight -/
structure Asc (ns : List Int) (k : Nat) (wt : Int) : Prop where
  len : ns.length = k
  up : ns.Pairwise (· < ·)
  lo : ∀ z ∈ ns, -1000000000000 ≤ z
  hi : ∀ z ∈ ns, z < wt
theorem Asc.put {ns : List Int} {k : Nat} {wt wt' : Int} (a : Asc ns k wt) (h : -1000000000000 ≤ wt) (h2 : wt < wt') : Asc (ns ++ [wt]) (k + 1) wt' := by
  refine ⟨by rw [List.length_append, a.len]; rfl, List.pairwise_append.mpr ⟨a.up, List.pairwise_singleton _ _, fun x hx y hy => ?_⟩, fun z hz => ?_, fun z hz => ?_⟩
  · rw [List.mem_singleton.mp hy]
    exact a.hi x hx
  · rcases List.mem_append.mp hz with hz | hz
    · exact a.lo z hz
    · rw [List.mem_singleton.mp hz]
      exact h
  · rcases List.mem_append.mp hz with hz | hz
    · have := a.hi z hz
      omega
    · rw [List.mem_singleton.mp hz]
      exact h2
theorem up_nodup {ns : List Int} (h : ns.Pairwise (· < ·)) : ns.Nodup := h.imp fun h => by omega
theorem ends_row {ns : List Int} (h : ns.Pairwise (· < ·)) (lo : ∀ z ∈ ns, -1000000000000 ≤ z) (hi : ∀ z ∈ ns, z < 1000000000000) (hl : 1 < ns.length) : ((ns.set 0 (-1000000000000)).set (ns.length - 1) 1000000000000).Pairwise (· < ·) ∧ ∀ z ∈ (ns.set 0 (-1000000000000)).set (ns.length - 1) 1000000000000, okW z := by
  match ns, hl with
  | a :: r, hl =>
    have hr : r ≠ [] := by
      rintro rfl
      simp at hl
    obtain ⟨m, b, rfl⟩ : ∃ m b, r = m ++ [b] := ⟨_, _, (List.dropLast_concat_getLast hr).symm⟩
    have e : ((a :: (m ++ [b])).set 0 (-1000000000000)).set ((a :: (m ++ [b])).length - 1) 1000000000000 = -1000000000000 :: (m ++ [1000000000000]) := by
      simp [List.length_append]
    rw [e]
    obtain ⟨h1, h2⟩ := List.pairwise_cons.mp h
    obtain ⟨h3, _, h4⟩ := List.pairwise_append.mp h2
    have la := lo a (List.mem_cons_self ..)
    refine ⟨List.pairwise_cons.mpr ⟨fun z hz => ?_, List.pairwise_append.mpr ⟨h3, List.pairwise_singleton _ _, fun x hx y hy => ?_⟩⟩, fun z hz => ?_⟩
    · rcases List.mem_append.mp hz with hz | hz
      · have := h1 z (List.mem_append_left _ hz)
        omega
      · rw [List.mem_singleton.mp hz]
        omega
    · rw [List.mem_singleton.mp hy]
      exact hi x (List.mem_cons_of_mem _ (List.mem_append_left _ hx))
    · unfold okW
      rcases List.mem_cons.mp hz with rfl | hz
      · omega
      · rcases List.mem_append.mp hz with hz | hz
        · have := lo z (List.mem_cons_of_mem _ (List.mem_append_left _ hz))
          have := hi z (List.mem_cons_of_mem _ (List.mem_append_left _ hz))
          omega
        · rw [List.mem_singleton.mp hz]
          omega
def RowN (a : Addr) (c : Int) (n : Nat) (H : Hp) (Q : VK) : Prop := ∀ p (ns : List Int) r' k' H', H p = none → ExB a H H' → H' a = some (potL r' c k') → H' p = some (.lst (ns.map V.int)) → RowL ns → ns.length = n → Q (.ref p) H'
def spRowN : Sp := fun vs H Q _ => ∃ (a : Addr) (n : Nat) (r c k : Int), vs = [.ref a, .int (n : Nat)] ∧ H a = some (potL r c k) ∧ n ≤ 40 ∧ RowN a c n H Q
section
variable {P : Program} {w : World} {K : PySem.W.Frag} {mg : Str → Option Value} {base : Heap}
theorem cl_law_stones {f : Addr} {fd : FuncData} (F : At K mg "_law_stones" s_law_stones f fd) (nb : NoB mg) (cd : Cl P w K mg base CX0 1 "_law_take" spTake) : Cl P w K mg base CX0 2 "_law_stones" spRowN := by
  refine ⟨f, fd, _, F.fn.ok sc_law_stones (fun vs H Q E h => ?_) (fun cdv A outer sh H vs Q E hr h => ⟨_, wB.ps, ?_⟩), F.gl, F.fn.kp, F.fn.binds fun _ _ _ _ _ _ us hl => match us, hl with | [_, _], _ => rfl⟩
  · obtain ⟨a, n, r, c, k, rfl, _⟩ := h
    rfl
  obtain ⟨a, n, r, c, k, rfl, ha, hn, q⟩ := h
  -- style, the first weight
  refine b_cons (cs_set (i := 2) sc_law_stones.nd rfl (.inl rfl) (ce_take cd hr (by decide) rfl (fun H1 Q hq => ce_nm 0 hq) pd_int ha (by decide) (by decide +kernel) fun sty r1 k1 H1 y0 y1 e1 ha1 => ?_))
  refine b_cons (cs_set (i := 3) sc_law_stones.nd rfl (.inl rfl) (ce_sub (ce_take cd hr (by decide) rfl (fun H1 Q hq => ce_nm 0 hq) pd_int ha1 (by decide) (by decide +kernel) fun z r2 k2 H2 z0 z1 e2 ha2 => ce_pd (al_pot ha2) pd_int fun v H3 x3 r3 => ⟨z, 1, rfl, by cases r3; rfl, ?_⟩)))
  have ha3 := x3 _ _ ha2
  have e3 := (e1.trans e2).trE x3
  -- from the loop on
  have loop : ∀ (w0 D : Int) (r4 k4 : Int) (H4 : Hp), ExB a H H4 → H4 a = some (potL r4 c k4) → -1000000000000 ≤ w0 → 0 ≤ D → (sty ≤ 1 → 9 ≤ D) → (1 < sty → D = 1000 * (1900000000 / ((n : Int) + 1))) → w0 + (n : Int) * (D + 1) < 1000000000000 →
      wB (cxOf CX0 P w K mg base n_law_stones "_law_stones" (defScope s_law_stones) f cdv A outer sh H E).nox ((defBody s_law_stones).drop 4) { nx := fun _ H' => Q .non H', rt := Q } [some (.ref a), some (.int (n : Nat)), some (.int sty), some (.int w0), none, none, none] H4 := by
    intro w0 D r4 k4 H4 e4 ha4 hw0 hD0 hD1 hD2 hW
    refine b_cons (s_set (i := 4) (al_pot ha4) sc_law_stones.nd rfl (.inl rfl) (pd_div pd_int (pd_add (nm 1 (.int (n : Nat))) pd_int) (wide_div (b := 40) (by omega) (by omega) (by decide) (by decide))) fun v5 H5 x5 r5 => ?_)
    cases r5
    have hp0 : 0 < 1900000000 / ((n : Int) + 1) := Int.lt_of_lt_of_le (by decide : (0 : Int) < 46341463) (by rw [Int.le_ediv_iff_mul_le (by omega)]; omega)
    have hp1 : 1900000000 / ((n : Int) + 1) ≤ 1900000000 := Int.ediv_le_self _ (by omega)
    generalize hpt : 1900000000 / ((n : Int) + 1) = part at hp0 hp1 hD2 ⊢
    have ha5 := x5 _ _ ha4
    refine b_cons (cs_set (i := 5) sc_law_stones.nd rfl (.inl rfl) (ce_fd alive0 (fd_lst ad_nil (by simp)) fun p ws H6 hp x6 h6 rw6 => ?_))
    obtain ⟨⟩ := rw6
    have ha6 := x6 _ _ ha5
    have e6 := (e4.trE x5).trE x6
    have nap : a ≠ p := fun e => by
      rw [← e, ha5] at hp
      cases hp
    have hp0' : H p = none := fresh_backB (e4.trE x5) ha ⟨_, ha5⟩ hp
    refine b_cons (s_forRW (slot := 6) PassesOwn.never rfl sc_law_stones.nd rfl (.inl rfl) rfl nb.range (ce_nm 1 ⟨n, fun i σ' H' => ∃ (ns : List Int) (wt r' k' : Int) (xk : Option V), σ' = [some (.ref a), some (.int (n : Nat)), some (.int sty), some (.int wt), some (.int part), some (.ref p), xk] ∧ ExB a H H' ∧ H' a = some (potL r' c k') ∧ H' p = some (.lst (ns.map V.int)) ∧ Asc ns i wt ∧ -1000000000000 ≤ wt ∧ wt ≤ w0 + (i : Int) * (D + 1), rfl, by omega, ⟨[], w0, r4, k4, none, rfl, e6, ha6, h6, ⟨rfl, .nil, fun z h => absurd h List.not_mem_nil, fun z h => absurd h List.not_mem_nil⟩, hw0, by omega⟩, ?_, ?_⟩))
    · rintro i σ' H' hi ⟨ns, wt, r7, k7, xk, rfl, e7, ha7, hp7, as, hlo, hhi⟩
      refine b_cons (cs_expr (ce_append (ce_nm 5 ⟨p, _, rfl, hp7, ce_nm 3 ⟨_, hp7, by rw [List.length_map, as.len]; omega, ?_⟩⟩)))
      have ha8 : upd H' p (.lst (ns.map V.int ++ [.int wt])) a = some (potL r7 c k7) := by
        rw [upd_ne nap]
        exact ha7
      have hp8 : upd H' p (.lst (ns.map V.int ++ [.int wt])) p = some (.lst ((ns ++ [wt]).map V.int)) := by
        rw [upd_same, List.map_append]
        rfl
      have e8 : ExB a H (upd H' p (.lst (ns.map V.int ++ [.int wt]))) := fun x o nx h => by
        by_cases hx : x = p
        · rw [hx, hp0'] at h
          cases h
        · rw [upd_ne hx]
          exact e7 _ _ nx h
      generalize upd H' p (.lst (ns.map V.int ++ [.int wt])) = H8 at ha8 hp8 e8 ⊢
      refine b_cons (s_set (i := 3) (al_pot ha8) sc_law_stones.nd rfl (.inl rfl) (pd_add (nm 3 (.int wt)) pd_int) fun v9 H9 x9 r9 => ?_)
      cases r9
      have ha9 := x9 _ _ ha8
      have hp9 := x9 _ _ hp8
      have e9 := e8.trE x9
      have fin : ∀ (wt' r' k' : Int) (HE : Hp), wt < wt' → wt' ≤ wt + 1 + D → ExB a H HE → HE a = some (potL r' c k') → HE p = some (.lst ((ns ++ [wt]).map V.int)) → ∃ (ns : List Int) (wt r' k' : Int) (xk : Option V), ([some (.ref a), some (.int (n : Nat)), some (.int sty), some (.int wt'), some (.int part), some (.ref p), some (.int (i : Nat))] : L2.St) = [some (.ref a), some (.int (n : Nat)), some (.int sty), some (.int wt), some (.int part), some (.ref p), xk] ∧ ExB a H HE ∧ HE a = some (potL r' c k') ∧ HE p = some (.lst (ns.map V.int)) ∧ Asc ns (i + 1) wt ∧ -1000000000000 ≤ wt ∧ wt ≤ w0 + ((i + 1 : Nat) : Int) * (D + 1) := fun wt' r' k' HE h1 h2 eE haE hpE => ⟨ns ++ [wt], wt', r', k', _, rfl, eE, haE, hpE, as.put hlo h1, by omega, by
        have : ((i + 1 : Nat) : Int) * (D + 1) = (i : Int) * (D + 1) + (D + 1) := by
          rw [Int.natCast_add, Int.add_mul]
          simp
        omega⟩
      refine b_cons (s_if (k := decide (sty = 1)) (al_pot ha9) (TD.is (td_eq hr.units (nm 2 (.int sty)) pd_int rfl rfl) (eqv_int _ _)) (fun hk HA xA => ?_) (fun hk HA xA => b_nil ?_))
      · have hs : sty = 1 := of_decide_eq_true hk
        have haA := xA _ _ ha9
        refine b_cons (cs_set (i := 3) sc_law_stones.nd rfl (.inl rfl) (ce_add (ce_nm 3 (ce_take cd hr (by decide) rfl (fun H1 Q hq => ce_nm 0 hq) pd_int haA (by decide) (by decide +kernel) fun z r8 k8 HB z0 z1 eB haB => ⟨_, z, rfl, rfl, b_nil ?_⟩))))
        refine b_cons (s_if (k := false) (al_pot haB) (TD.is (td_gt (nm 2 (.int sty)) pd_int) (decide_eq_false (by omega))) (fun k => by cases k) (fun _ HC xC => b_nil (b_nil ?_)))
        have := hD1 (by omega)
        exact fin (wt + 1 + z) _ _ HC (by omega) (by omega) (((e9.trE xA).trans eB).trE xC) (xC _ _ haB) (xC _ _ (eB _ _ nap.symm (xA _ _ hp9)))
      · have hs : sty ≠ 1 := of_decide_eq_false hk
        have haA := xA _ _ ha9
        refine b_cons (s_if (k := decide (1 < sty)) (al_pot haA) (td_gt (nm 2 (.int sty)) pd_int) (fun hk2 HB xB => ?_) (fun hk2 HB xB => b_nil (b_nil ?_)))
        · have hs2 : 1 < sty := of_decide_eq_true hk2
          have haB := xB _ _ haA
          refine b_cons (cs_set (i := 3) sc_law_stones.nd rfl (.inl rfl) (ce_add (ce_add (ce_nm 3 (ce_mul (ce_take cd hr (by decide) rfl (fun H1 Q hq => ce_nm 0 hq) pd_int haB (by decide) (by decide +kernel) fun z r8 k8 HC z0 z1 eC haC => ce_nm 4 ⟨z, part, rfl, rfl, .inl ⟨by omega, by omega⟩, ⟨_, _, rfl, rfl, ce_take cd hr (by decide) rfl (fun H1 Q hq => ce_nm 0 hq) (nm 4 (.int part)) haC hp0 (nBig (by omega) (by omega)) fun z2 r9 k9 HD z20 z21 eD haD => ⟨_, z2, rfl, rfl, b_nil (b_nil ?_)⟩⟩⟩))))))
          have hD := hD2 hs2
          have m1 : 0 ≤ z * part := Int.mul_nonneg z0 (by omega)
          have m2 : z * part ≤ 999 * part := Int.mul_le_mul_of_nonneg_right (by omega) (by omega)
          refine fin (wt + 1 + z * part + z2) _ _ HD (by omega) (by omega) ((((e9.trE xA).trE xB).trans eC).trans eD) haD (eD _ _ nap.symm (eC _ _ nap.symm (xB _ _ (xA _ _ hp9))))
        · exact fin (wt + 1) _ _ HB (by omega) (by omega) ((e9.trE xA).trE xB) (xB _ _ haA) (xB _ _ (xA _ _ hp9))
    · rintro σ' H' ⟨ns, wt, r7, k7, xk, rfl, e7, ha7, hp7, as, hlo, hhi⟩
      have hmax : ∀ z ∈ ns, z < 1000000000000 := fun z hz => by
        have := as.hi z hz
        omega
      have plain : RowL ns := ⟨by rw [as.len]; exact hn, fun z hz => ⟨as.lo z hz, by have := hmax z hz; omega⟩, up_nodup as.up⟩
      refine b_cons (s_if (k := decide (sty = 3) && decide (1 < n)) (al_pot ha7) (TD.is (WD.td (wd_and (td_eq hr.units (nm 2 (.int sty)) pd_int rfl rfl) fun _ => wd_and1 (td_gt (nm 1 (.int (n : Nat))) pd_int))) ?_) (fun hk H8 x8 => ?_) (fun hk H8 x8 => b_nil (b_cons (cs_ret (ce_nm 5 (q p ns r7 k7 H8 hp0' (e7.trE x8) (x8 _ _ ha7) (x8 _ _ hp7) plain as.len))))))
      · rw [eqv_int]
        congr 1
        rw [Bool.eq_iff_iff, decide_eq_true_eq, decide_eq_true_eq]
        omega
      · obtain ⟨_, hn1⟩ := Bool.and_eq_true_iff.mp hk
        have hn1 : 1 < n := of_decide_eq_true hn1
        have ha8 := x8 _ _ ha7
        have hp8 := x8 _ _ hp7
        have hlen : (ns.map V.int).length = n := by rw [List.length_map, as.len]
        refine b_cons (cs_sub (ce_pd (al_pot ha8) (pd_sub pd_int (pd_pow pd_int pd_int ⟨by decide, by decide, by decide⟩)) fun v9 H9 x9 r9 => ce_nm 5 (ce_pd (al_pot (x9 _ _ ha8)) pd_int fun y HA xA rA => ?_)))
        cases r9
        cases rA
        have ha9 := xA _ _ (x9 _ _ ha8)
        have hp9 := xA _ _ (x9 _ _ hp8)
        refine ⟨p, ns.map V.int, 0, 0, rfl, rfl, hp9, by rw [hlen]; show (if _ then _ else _) = _; simp; omega, ?_⟩
        have haB : upd HA p (.lst ((ns.map V.int).set 0 (.int (0 - 10 ^ Int.toNat 12)))) a = some (potL r7 c k7) := by
          rw [upd_ne nap]
          exact ha9
        have hpB : upd HA p (.lst ((ns.map V.int).set 0 (.int (0 - 10 ^ Int.toNat 12)))) p = some (.lst ((ns.set 0 (-1000000000000)).map V.int)) := by
          rw [upd_same, List.map_set, p12]
          rfl
        have eB : ExB a H (upd HA p (.lst ((ns.map V.int).set 0 (.int (0 - 10 ^ Int.toNat 12))))) := fun x o nx h => by
          by_cases hx : x = p
          · rw [hx, hp0'] at h
            cases h
          · rw [upd_ne hx]
            exact xA _ _ (x9 _ _ (x8 _ _ (e7 _ _ nx h)))
        generalize upd HA p (.lst ((ns.map V.int).set 0 (.int (0 - 10 ^ Int.toNat 12)))) = HB at haB hpB eB ⊢
        refine b_cons (cs_sub (ce_pd (al_pot haB) (pd_pow pd_int pd_int ⟨by decide, by decide, by decide⟩) fun vC HC xC rC => ce_nm 5 (ce_pd (al_pot (xC _ _ haB)) (pd_neg pd_int) fun yD HD xD rD => ?_)))
        cases rC
        cases rD
        have haD := xD _ _ (xC _ _ haB)
        have hpD := xD _ _ (xC _ _ hpB)
        refine ⟨p, _, -1, n - 1, rfl, rfl, hpD, by rw [List.length_map, List.length_set, as.len]; unfold ixN; simp; omega, b_nil (b_cons (cs_ret (ce_nm 5 (q p ((ns.set 0 (-1000000000000)).set (ns.length - 1) 1000000000000) r7 k7 _ hp0' ?_ ?_ ?_ ?_ ?_))))⟩
        · intro x o nx h
          by_cases hx : x = p
          · rw [hx, hp0'] at h
            cases h
          · rw [upd_ne hx]
            exact xD _ _ (xC _ _ (eB _ _ nx h))
        · rw [upd_ne nap]
          exact haD
        · rw [upd_same, p12, List.map_set, List.map_set, List.map_set, as.len]
        · obtain ⟨u1, u2⟩ := ends_row as.up as.lo hmax (by rw [as.len]; exact hn1)
          exact ⟨by rw [List.length_set, List.length_set, as.len]; exact hn, u2, up_nodup u1⟩
        · rw [List.length_set, List.length_set, as.len]
  -- the other first weights
  have big : ∀ (w0 r4 k4 : Int) (H4 : Hp), ExB a H H4 → H4 a = some (potL r4 c k4) → (sty ≤ 1 → -1000000000000 ≤ w0 ∧ w0 ≤ 100) → (1 < sty → w0 = w0) → wB (cxOf CX0 P w K mg base n_law_stones "_law_stones" (defScope s_law_stones) f cdv A outer sh H E).nox ((defBody s_law_stones).drop 3) { nx := fun _ H' => Q .non H', rt := Q } [some (.ref a), some (.int (n : Nat)), some (.int sty), some (.int w0), none, none, none] H4 := by
    intro w0 r4 k4 H4 e4 ha4 hw _
    have hnn : (n : Int) ≤ 40 := by omega
    refine b_cons (s_if (k := decide (1 < sty)) (al_pot ha4) (td_gt (nm 2 (.int sty)) pd_int) (fun hk H5 x5 => ?_) (fun hk H5 x5 => b_nil ?_))
    · have hs : 1 < sty := of_decide_eq_true hk
      have ha5 := x5 _ _ ha4
      refine b_cons (cs_set (i := 3) sc_law_stones.nd rfl (.inl rfl) (ce_sub (ce_take cd hr (by decide) rfl (fun H1 Q hq => ce_nm 0 hq) pd_int ha5 (by decide) (by decide +kernel) fun z r6 k6 H6 z0 z1 e6 ha6 => ce_pd (al_pot ha6) (pd_pow pd_int pd_int ⟨by decide, by decide, by decide⟩) fun v H7 x7 r7 => ⟨z, 10 ^ Int.toNat 12, rfl, by cases r7; rfl, b_nil ?_⟩)))
      have hq : (n : Int) * (1900000000 / ((n : Int) + 1)) ≤ 1900000000 := by
        have h1 : ((n : Int) + 1) * (1900000000 / ((n : Int) + 1)) ≤ 1900000000 := Int.mul_ediv_self_le (by omega)
        have h2 : 0 ≤ 1900000000 / ((n : Int) + 1) := Int.ediv_nonneg (by decide) (by omega)
        rw [Int.add_mul, Int.one_mul] at h1
        omega
      refine loop (z - 10 ^ Int.toNat 12) (1000 * (1900000000 / ((n : Int) + 1))) r6 k6 H7 (((e4.trE x5).trans e6).trE x7) (x7 _ _ ha6) (by rw [p12]; omega) (by have h2 : 0 ≤ 1900000000 / ((n : Int) + 1) := Int.ediv_nonneg (by decide) (by omega); omega) (fun h => by omega) (fun _ => rfl) ?_
      rw [p12, Int.mul_add, Int.mul_one]
      have : (n : Int) * (1000 * (1900000000 / ((n : Int) + 1))) = 1000 * ((n : Int) * (1900000000 / ((n : Int) + 1))) := by rw [Int.mul_left_comm]
      rw [this]
      omega
    · have hs : ¬ 1 < sty := of_decide_eq_false hk
      obtain ⟨w1, w2⟩ := hw (by omega)
      exact loop w0 9 r4 k4 H5 (e4.trE x5) (x5 _ _ ha4) w1 (by decide) (fun _ => by decide) (fun h => absurd h hs) (by omega)
  refine b_cons (s_if (k := decide (sty = 1)) (al_pot ha3) (TD.is (td_eq hr.units (nm 2 (.int sty)) pd_int rfl rfl) (eqv_int _ _)) (fun hk H4 x4 => ?_) (fun hk H4 x4 => b_nil (big _ _ _ H4 (e3.trE x4) (x4 _ _ ha3) (fun _ => ⟨by omega, by omega⟩) fun _ => rfl)))
  have ha4 := x4 _ _ ha3
  exact b_cons (cs_set (i := 3) sc_law_stones.nd rfl (.inl rfl) (ce_sub (ce_take cd hr (by decide) rfl (fun H1 Q hq => ce_nm 0 hq) pd_int ha4 (by decide) (by decide +kernel) fun z r6 k6 H6 z0 z1 e6 ha6 => ce_pd (al_pot ha6) pd_int fun v H7 x7 r7 => ⟨z, 30, rfl, by cases r7; rfl, b_nil (big _ _ _ H7 (((e3.trE x4).trans e6).trE x7) (x7 _ _ ha6) (fun _ => ⟨by omega, by omega⟩) fun _ => rfl)⟩)))
end
end TK

namespace TK
open PySem PySem.Spec PyProof.Rows L2 GV
/-! ### rows, numbers, texts -/
abbrev frL : List Nat := [1, 2, 33, 5, 3, 9, 10, 18, 7, 11, 13, 14, 19, 21, 15, 27, 45, 30, 23, 29, 62, 61, 63]
theorem frL_all : ∀ n ∈ frL, 1 ≤ n ∧ n ≤ 63 := by decide
def let6 : Nat → Str
  | 0 => "l"
  | 1 => "b"
  | 2 => "h"
  | 3 => "l"
  | 4 => "b"
  | _ => "h"
def accD (i : Nat) (t : Str) : Str := if i = 3 then t ++ "-" else t
def accT (n : Nat) : Nat → Str
  | 0 => ""
  | i + 1 => if bitN n i = true then accD i (accT n i) ++ let6 i else accD i (accT n i)
theorem acc_is {n : Nat} (h : n < 64) : accT n 6 = txN n := all63 (p := fun n => accT n 6 = txN n) (by decide +kernel) h
theorem acc_len {n i : Nat} (h : n < 64) (hi : i ≤ 6) : (accT n i).length ≤ 100 := by
  have key : ∀ i : Fin 7, (accT n i.val).length ≤ 100 := all63 (p := fun n => ∀ i : Fin 7, (accT n i.val).length ≤ 100) (by decide +kernel) h
  exact key ⟨i, by omega⟩
def spNumber : Sp := fun vs H Q _ => ∃ (a : Addr) (r c k : Int), vs = [.ref a] ∧ H a = some (potL r c k) ∧ ∀ (n : Nat) r' k' H', 1 ≤ n → n ≤ 63 → ExB a H H' → H' a = some (potL r' c k') → Q (.int (n : Nat)) H'
def R_ltext (ds : List PyData) (d : PyData) : Prop := ∃ n : Nat, n < 64 ∧ ds = [.int (n : Nat)] ∧ d = .str (txN n)
def R_names (ds : List PyData) (d : PyData) : Prop := ∃ (n : Nat) (lo hi z : Int) (b : Bool), lo ≤ hi ∧ z ≠ hi ∧ ds = [.int (n : Nat), .int lo, .int hi, .int z, .bool b] ∧ d = .bool (bitN n (ltN lo hi z + if b = true then 0 else 3))
section
variable {X : Cx} {M : Addr → Prop} {σ : St} {H : Hp} {e : Expr}
/-- [1, 2, 4, 8, 16, 32][k] -/
theorem pd_pw6 {k : Nat} {t0 t1 t2 t3 t4 t5} {p0 p1 p2 p3 p4 p5 pl pos : Pos} (hk : k < 6) (he : PD X M e σ H (.int (k : Nat))) (hs : PlainIx e) :
    PD X M (.Subscript (.List [.Constant (.int 1) t0 p0, .Constant (.int 2) t1 p1, .Constant (.int 4) t2 p2, .Constant (.int 8) t3 p3, .Constant (.int 16) t4 p4, .Constant (.int 32) t5 p5] pl) e pos) σ H (.int ((2 : Int) ^ k)) :=
  pd_ix (hs := hs) (FD.pd (fd_lst (ad_cons pd_int (ad_cons pd_int (ad_cons pd_int (ad_cons pd_int (ad_cons pd_int (ad_cons pd_int ad_nil)))))) (by simp))) he (by
    match k, hk with
    | 0, _ => rfl
    | 1, _ => rfl
    | 2, _ => rfl
    | 3, _ => rfl
    | 4, _ => rfl
    | 5, _ => rfl)
theorem pw6_div {n : Int} {k : Nat} (hk : k < 6) : CDivW n ((2 : Int) ^ k) := by
  match k, hk with
  | 0, _ => exact wide_div (b := 40) (by decide) (by decide) (by decide) (by decide)
  | 1, _ => exact wide_div (b := 40) (by decide) (by decide) (by decide) (by decide)
  | 2, _ => exact wide_div (b := 40) (by decide) (by decide) (by decide) (by decide)
  | 3, _ => exact wide_div (b := 40) (by decide) (by decide) (by decide) (by decide)
  | 4, _ => exact wide_div (b := 40) (by decide) (by decide) (by decide) (by decide)
  | 5, _ => exact wide_div (b := 40) (by decide) (by decide) (by decide) (by decide)
end
section
variable {P : Program} {w : World} {K : PySem.W.Frag} {mg : Str → Option Value} {base : Heap}
theorem cl_law_row {f : Addr} {fd : FuncData} (F : At K mg "_law_row" s_law_row f fd) (nb : NoB mg) (cd : Cl P w K mg base CX0 1 "_law_take" spTake) (cs : Cl P w K mg base CX0 2 "_law_stones" spRowN) : Cl P w K mg base CX0 3 "_law_row" spRowN := by
  refine ⟨f, fd, _, F.fn.ok sc_law_row (fun vs H Q E h => ?_) (fun cdv A outer sh H vs Q E hr h => ⟨_, wB.ps, ?_⟩), F.gl, F.fn.kp, F.fn.binds fun _ _ _ _ _ _ us hl => match us, hl with | [_, _], _ => rfl⟩
  · obtain ⟨a, n, r, c, k, rfl, _⟩ := h
    rfl
  obtain ⟨a, n, r, c, k, rfl, ha, hn, q⟩ := h
  refine b_cons (cs_set (i := 2) sc_law_row.nd rfl (.inl rfl) (ce_fd (M := M0) alive0 (fd_lst ad_nil (by simp)) fun p ws H1 hp x1 h1 rw1 => ?_))
  obtain ⟨⟩ := rw1
  have ha1 := x1 _ _ ha
  have nap : a ≠ p := fun e => by
    rw [← e, ha] at hp
    cases hp
  refine b_cons (s_forL (slot := 3) PassesOwn.never rfl sc_law_row.nd rfl (.inl rfl) (ce_call cs hr (by decide) rfl (ca_cons (ce_nm 0 (ca_cons (ce_nm 1 (ca_nil ⟨a, n, r, c, k, rfl, ha1, hn, fun l ns r2 k2 H2 hl e2 ha2 hl2 hrow hlen => ?_⟩)))))))
  have npl : p ≠ l := fun e => by
    rw [← e, h1] at hl
    cases hl
  have nal : a ≠ l := fun e => by
    rw [← e, ha1] at hl
    cases hl
  refine ⟨l, ns.map V.int, fun i σ' H' => ∃ (row : List Int) (r' k' : Int) (xk : Option V), σ' = [some (.ref a), some (.int (n : Nat)), some (.ref p), xk] ∧ ExB a H H' ∧ H' a = some (potL r' c k') ∧ H' p = some (.lst (row.map V.int)) ∧ H' l = some (.lst (ns.map V.int)) ∧ row.length = i ∧ (∀ z, z ∈ row ↔ z ∈ ns.take i) ∧ row.Nodup, rfl, ⟨[], r2, k2, none, rfl, (ExB.of x1).trans e2, ha2, e2 _ _ nap.symm h1, hl2, rfl, fun z => by simp, .nil⟩, ?_, ?_, ?_⟩
  · rintro i σ' H' ⟨row, r', k', xk, rfl, _, _, _, h5, _⟩
    exact h5
  · rintro i σ' H' y hy ⟨row, r3, k3, xk, rfl, e3, ha3, hp3, hl3, len3, m3, n3⟩
    obtain ⟨z, hz, rfl⟩ : ∃ z, ns[i]? = some z ∧ y = .int z := by
      rw [List.getElem?_map] at hy
      cases hz : ns[i]? with
      | none =>
        rw [hz] at hy
        cases hy
      | some z =>
        rw [hz] at hy
        exact ⟨z, rfl, (Option.some.inj hy).symm⟩
    have hi : i < ns.length := (List.getElem?_eq_some_iff.mp hz).1
    have rp : Rp K (Ma a) H' (.ref p) (intsD row) := .lst (fun e => nap e.symm) (.inl hp3) (.ints row)
    refine b_cons (cs_expr (ce_insert (ce_nm 2 ⟨p, rfl, ⟨_, hp3⟩, ce_take cd hr (by decide) rfl (fun H1 Q hq => ce_nm 0 hq) (pd_add (pd_len nb rfl (nm 2 rp) (n := row.length) (by simp [lenD])) pd_int) ha3 (by omega) (n8000 (by omega) (by omega)) fun u r4 k4 H4 u0 u1 e4 ha4 => ce_nm 3 ?_⟩)))
    have hp4 := e4 _ _ nap.symm hp3
    have fr : z ∉ row := fun h => by
      have h2 := (m3 z).mp h
      obtain ⟨j, hj, e⟩ := List.getElem_of_mem h2
      have hj' : j < i := by
        rw [List.length_take] at hj
        omega
      rw [List.getElem_take] at e
      obtain ⟨_, e2⟩ := List.getElem?_eq_some_iff.mp hz
      have := (List.nodup_iff_pairwise_ne.mp hrow.2.2)
      have k := List.pairwise_iff_getElem.mp this j i (by omega) hi hj'
      exact k (e.trans e2.symm)
    refine ⟨_, u.toNat, hp4, by rw [Int.toNat_of_nonneg u0], by omega, by rw [List.length_map]; have := hrow.1; omega, b_nil ⟨row.take u.toNat ++ [z] ++ row.drop u.toNat, r4, k4, _, rfl, ?_, ?_, ?_, ?_, ?_, ?_, ins_nodup n3 fr⟩⟩
    · intro x o nx h
      by_cases hx : x = p
      · rw [hx, hp] at h
        cases h
      · rw [upd_ne hx]
        exact e4 _ _ nx (e3 _ _ nx h)
    · rw [upd_ne nap]
      exact ha4
    · rw [upd_same, List.map_append, List.map_append, List.map_take, List.map_drop]
      rfl
    · rw [upd_ne npl.symm]
      exact e4 _ _ nal.symm hl3
    · rw [ins_len, len3]
    · intro y
      rw [ins_mem, m3, List.take_add_one, List.mem_append, hz]
      simp
      exact or_comm
  · rintro σ' H' ⟨row, r3, k3, xk, rfl, e3, ha3, hp3, hl3, len3, m3, n3⟩
    rw [List.length_map] at len3 m3
    refine b_cons (cs_ret (ce_nm 2 (q p row r3 k3 H' hp e3 ha3 hp3 ⟨by omega, fun z hz => ?_, n3⟩ (by omega))))
    have := (m3 z).mp hz
    rw [List.take_length] at this
    exact hrow.2.1 z this
theorem cl_law_number {f : Addr} {fd : FuncData} (F : At K mg "_law_number" s_law_number f fd) (nb : NoB mg) (cd : Cl P w K mg base CX0 1 "_law_take" spTake) : Cl P w K mg base CX0 2 "_law_number" spNumber := by
  refine ⟨f, fd, _, F.fn.ok sc_law_number (fun vs H Q E h => ?_) (fun cdv A outer sh H vs Q E hr h => ⟨_, wB.ps, ?_⟩), F.gl, F.fn.kp, F.fn.binds fun _ _ _ _ _ _ us hl => match us, hl with | [_], _ => rfl⟩
  · obtain ⟨b, r, c, k, rfl, _⟩ := h
    rfl
  obtain ⟨b, r, c, k, rfl, hb, q⟩ := h
  refine b_cons (cs_set (i := 1) sc_law_number.nd rfl (.inl rfl) (ce_fd (M := M0) (ds := frL.map fun n => PyData.int (n : Nat)) alive0 (fd_lst (ad_cons pd_int (ad_cons pd_int (ad_cons pd_int (ad_cons pd_int (ad_cons pd_int (ad_cons pd_int (ad_cons pd_int (ad_cons pd_int (ad_cons pd_int (ad_cons pd_int (ad_cons pd_int (ad_cons pd_int (ad_cons pd_int (ad_cons pd_int (ad_cons pd_int (ad_cons pd_int (ad_cons pd_int (ad_cons pd_int (ad_cons pd_int (ad_cons pd_int (ad_cons pd_int (ad_cons pd_int (ad_cons pd_int ad_nil))))))))))))))))))))))) (by simp)) fun p ws H1 hp x1 h1 rw1 => ?_))
  have hb1 := x1 _ _ hb
  have nbp : b ≠ p := fun e => by
    rw [← e, hb] at hp
    cases hp
  have ew : ws = (frL.map fun n => ((n : Nat) : Int)).map V.int := RpAll.of_ints (by rw [List.map_map]; exact rw1)
  subst ew
  refine b_cons (cs_if (ct_eq hr.units (ce_take cd hr (by decide) rfl (fun H1 Q hq => ce_nm 0 hq) pd_int hb1 (by decide) (by decide +kernel) fun z r2 k2 H2 z0 z1 e2 hb2 => ce_intC ⟨.int z, .int 0, (Rp.int (M := M0) _).dp, (Rp.int (M := M0) _).dp, rfl, rfl, ?_⟩)))
  have h2 := e2 _ _ nbp.symm h1
  have e02 : ExB b H H2 := (ExB.of x1).trans e2
  by_cases hz : PyData.eqv (.int z) (.int 0) = true
  · rw [if_pos hz]
    refine b_cons (cs_ret (ce_ix (ce_nm 1 (ce_take cd hr (by decide) rfl (fun H1 Q hq => ce_nm 0 hq) pd_int hb2 (by decide) (by decide +kernel) fun y r3 k3 H3 y0 y1 e3 hb3 => ?_))))
    obtain ⟨n, hn⟩ : ∃ n, frL[y.toNat]? = some n := ⟨_, List.getElem?_eq_getElem (show y.toNat < 23 by omega)⟩
    have r3 : Rp K M0 H3 (.ref p) (.list (frL.map fun n => PyData.int (n : Nat))) := .lst (fun z => z) (.inl (e3 _ _ nbp.symm h2)) (by have := RpAll.ints (K := K) (M := M0) (H := H3) (frL.map fun n => ((n : Nat) : Int)); rwa [List.map_map] at this)
    refine rIx_of (M := M0) (d := .int (n : Nat)) r3 (by rw [show y = ((y.toNat : Nat) : Int) by omega]; exact ixD_list (by rw [List.getElem?_map, hn]; rfl)) fun v rv => ?_
    cases rv
    have hh := frL_all n (List.mem_of_getElem? hn)
    exact q n _ _ H3 hh.1 hh.2 (e02.trans e3) hb3
  · rw [if_neg hz]
    refine b_nil (b_cons (cs_ret (ce_add (ce_intC (ce_take cd hr (by decide) rfl (fun H1 Q hq => ce_nm 0 hq) pd_int hb2 (by decide) (by decide +kernel) fun y r3 k3 H3 y0 y1 e3 hb3 => ⟨_, _, rfl, rfl, ?_⟩)))))
    rw [show (1 : Int) + y = (((1 + y).toNat : Nat) : Int) by omega]
    exact q _ _ _ H3 (by omega) (by omega) (e02.trans e3) hb3
theorem cl_law_text {f : Addr} {fd : FuncData} (F : At K mg "_law_text" s_law_text f fd) (nb : NoB mg) : Cl P w K mg base CX0 1 "_law_text" (PureR K R_ltext) := by
  refine cl_pure F sc_law_text (F.fn.binds fun _ _ _ _ _ _ us hl => match us, hl with | [_], _ => rfl) (fun ds d h => ?_) (fun X cdv A outer s H Q E M vs ds d hX hr al r h q => ?_)
  · obtain ⟨n, _, rfl, _⟩ := h
    rfl
  obtain ⟨n, hn, rfl, rfl⟩ := h
  obtain ⟨v, rfl, r1⟩ := rpa1 r
  subst hX
  cases r1
  have lbh : ∀ k : Nat, k < 6 → ixD (.str "lbhlbh") (.int (k : Nat)) = some (.str (let6 k)) := fun k hk => by
    match k, hk with
    | 0, _ => rfl
    | 1, _ => rfl
    | 2, _ => rfl
    | 3, _ => rfl
    | 4, _ => rfl
    | 5, _ => rfl
  have len6 : ∀ k, (let6 k).length = 1 := fun k => by
    match k with
    | 0 => rfl
    | 1 => rfl
    | 2 => rfl
    | 3 => rfl
    | 4 => rfl
    | _ + 5 => rfl
  refine b_cons (s_set (i := 1) (d := .str "") al sc_law_text.nd rfl (.inl rfl) pd_str fun v2 H2 x2 r2 => ?_)
  cases r2
  refine b_cons (s_forR (M := M) (n := 6) (slot := 2) PassesOwn.never rfl sc_law_text.nd rfl (.inl rfl) rfl nb.range pd_int (by decide) (al.mono x2)
    (fun Hs i σ' H' => ∃ x : Option V, σ' = [some (.int (n : Nat)), some (.str (accT n i)), x] ∧ Evl.Ex Hs H') ?_ ?_ ?_ ?_)
  · exact fun Hs xs => ⟨none, rfl, Evl.Ex.refl _⟩
  · rintro Hs i σ' H' xs ⟨_, _, e⟩
    exact ⟨.of e, al.mono (x2.trans (xs.trans e))⟩
  · rintro Hs i σ' H' H3 xs hi ⟨x, rfl, e⟩ x3
    have al3 := al.mono (x2.trans (xs.trans (e.trans x3)))
    have ln := acc_len hn (show i ≤ 6 by omega)
    have mid : ∀ (D : Ends) (t : Str) H4, accD i (accT n i) = t → t.length ≤ 200 → Evl.Ex H3 H4 → (∀ H5, Evl.Ex H3 H5 → D.nx [some (.int (n : Nat)), some (.str (accT n (i + 1))), some (.int (i : Nat))] H5) → wB (cxOf CX0 P w K mg base n_law_text "_law_text" (defScope s_law_text) f cdv A outer s H E).nox ((match (defBody s_law_text)[1]? with | some (Stmt.For _ _ b _ _) => b | _ => []).drop 1) D [some (.int (n : Nat)), some (.str t), some (.int (i : Nat))] H4 := by
      intro D t H4 ht hl4 x4 qD
      refine b_cons (s_if (k := bitN n i) (al3.mono x4) (TD.is (td_eq hr.units (pd_mod (pd_intI nb rfl (pd_div (nm 0 (.int (n : Nat))) (pd_pw6 hi (nm 2 (.int (i : Nat))) (fun _ _ => rfl)) (pw6_div hi))) pd_int (by decide)) pd_int rfl rfl) (eqv_int _ _)) (fun k H5 x5 => ?_) (fun k H5 x5 => b_nil (b_nil ?_)))
      · refine b_cons (s_set (i := 1) (d := .str (accT n (i + 1))) ((al3.mono x4).mono x5) sc_law_text.nd rfl (.inl rfl) (PD.is (pd_addS (nm 1 (.str t)) (pd_ix pd_str (nm 2 (.int (i : Nat))) (lbh i hi)) (by rw [len6]; omega)) ?_) fun v6 H6 x6 r6 => ?_)
        · show PyData.str _ = .str (if bitN n i = true then accD i (accT n i) ++ let6 i else accD i (accT n i))
          rw [if_pos k, ht]
        · cases r6
          exact b_nil (b_nil (qD H6 (x4.trans (x5.trans x6))))
      · have q5 := qD H5 (x4.trans x5)
        rw [show accT n (i + 1) = t by show (if bitN n i = true then accD i (accT n i) ++ let6 i else accD i (accT n i)) = t; rw [if_neg (by rw [k]; decide), ht]] at q5
        exact q5
    have fin : ∀ H5, Evl.Ex H3 H5 → ∃ x : Option V, [some (.int (n : Nat)), some (.str (accT n (i + 1))), some (.int (i : Nat))] = [some (V.int (n : Nat)), some (.str (accT n (i + 1))), x] ∧ Evl.Ex Hs H5 := fun H5 x5 => ⟨_, rfl, e.trans (x3.trans x5)⟩
    refine b_cons (s_if (k := decide (i = 3)) al3 (TD.is (td_eq hr.units (nm 2 (.int (i : Nat))) pd_int rfl rfl) (by rw [eqv_int, Bool.eq_iff_iff, decide_eq_true_eq, decide_eq_true_eq]; omega)) (fun k H4 x4 => ?_) (fun k H4 x4 => b_nil (mid _ _ H4 ?_ (by omega) x4 fin)))
    · have k := of_decide_eq_true k
      refine b_cons (s_set (i := 1) (d := .str (accT n i ++ "-")) (al3.mono x4) sc_law_text.nd rfl (.inl rfl) (pd_addS (nm 1 (.str _)) pd_str (by have : (Str.ofString "-").length = 1 := rfl; omega)) fun v5 H5 x5 r5 => ?_)
      cases r5
      refine b_nil (mid _ _ H5 (by unfold accD; rw [if_pos k]) ?_ (x4.trans x5) fin)
      have key : ∀ i : Fin 7, (accT n i.val ++ "-").length ≤ 200 := all63 (p := fun n => ∀ i : Fin 7, (accT n i.val ++ "-").length ≤ 200) (by decide +kernel) hn
      exact key ⟨i, by omega⟩
    · have k := of_decide_eq_false k
      unfold accD
      rw [if_neg k]
  · rintro Hs σ' H' xs ⟨x, rfl, e⟩
    exact b_cons (s_ret (al.mono (x2.trans (xs.trans e))) (nm 1 (.str _)) fun v4 H4 x4 r4 => q v4 H4 ((x2.trans (xs.trans e)).trans x4) (by rw [acc_is hn] at r4; exact r4))
theorem cl_law_names {f : Addr} {fd : FuncData} (F : At K mg "_law_names" s_law_names f fd) (nb : NoB mg) : Cl P w K mg base CX0 1 "_law_names" (PureR K R_names) := by
  refine cl_pure F sc_law_names (F.fn.binds fun _ _ _ _ _ _ us hl => match us, hl with | [_, _, _, _, _], _ => rfl) (fun ds d h => ?_) (fun X cdv A outer s H Q E M vs ds d hX hr al r h q => ?_)
  · obtain ⟨n, lo, hi, z, b, _, _, rfl, _⟩ := h
    rfl
  obtain ⟨n, lo, hi, z, b, hlh, hzh, rfl, rfl⟩ := h
  obtain ⟨v1, v2, v3, v4, v5, rfl, r1, r2, r3, r4, r5⟩ : ∃ v1 v2 v3 v4 v5, vs = [v1, v2, v3, v4, v5] ∧ Rp K M H v1 (.int (n : Nat)) ∧ Rp K M H v2 (.int lo) ∧ Rp K M H v3 (.int hi) ∧ Rp K M H v4 (.int z) ∧ Rp K M H v5 (.bool b) := by
    cases r with
    | cons a r => cases r with
      | cons b r => cases r with
        | cons c r => cases r with
          | cons d r => cases r with
            | cons e r =>
              cases r
              exact ⟨_, _, _, _, _, rfl, a, b, c, d, e⟩
  subst hX
  cases r1
  cases r2
  cases r3
  cases r4
  cases r5
  have last : ∀ (k : Nat) H1, k < 6 → k = ltN lo hi z + (if b = true then 0 else 3) → Evl.Ex H H1 → wB (cxOf CX0 P w K mg base n_law_names "_law_names" (defScope s_law_names) f cdv A outer s H E).nox ((defBody s_law_names).drop 4) { nx := fun _ H' => Q .non H', rt := Q } [some (.int (n : Nat)), some (.int lo), some (.int hi), some (.int z), some (.bl b), some (.int (k : Nat))] H1 := fun k H1 hk e x => by
    refine b_cons (s_ret (d := .bool (bitN n (ltN lo hi z + if b = true then 0 else 3))) (al.mono x) (PD.is (pd_eq hr.units (pd_mod (pd_intI nb rfl (pd_div (nm 0 (.int (n : Nat))) (pd_pw6 hk (nm 5 (.int (k : Nat))) (fun _ _ => rfl)) (pw6_div hk))) pd_int (by decide)) pd_int rfl rfl) ?_) fun v H2 x2 r => q v H2 (x.trans x2) r)
    rw [eqv_int, ← e]
    rfl
  have mid : ∀ (k : Nat) H1, k < 3 → k = ltN lo hi z → Evl.Ex H H1 → wB (cxOf CX0 P w K mg base n_law_names "_law_names" (defScope s_law_names) f cdv A outer s H E).nox ((defBody s_law_names).drop 3) { nx := fun _ H' => Q .non H', rt := Q } [some (.int (n : Nat)), some (.int lo), some (.int hi), some (.int z), some (.bl b), some (.int (k : Nat))] H1 := fun k H1 hk e x => by
    refine b_cons (s_if (k := !b) (al.mono x) (td_not (td_val (nm 4 (.bl b)))) (fun hb H2 x2 => ?_) (fun hb H2 x2 => b_nil (last k H2 (by omega) ?_ (x.trans x2))))
    · refine b_cons (s_set (i := 5) (al.mono (x.trans x2)) sc_law_names.nd rfl (.inl rfl) (PD.is (pd_add (i := (k : Int)) (j := 3) (nm 5 (.int (k : Nat))) pd_int) (congrArg PyData.int (show (k : Int) + 3 = ((k + 3 : Nat) : Int) by omega))) fun v H3 x3 r3 => ?_)
      cases r3
      exact b_nil (last (k + 3) H3 (by omega) (by cases b <;> simp_all) ((x.trans x2).trans x3))
    · cases b <;> simp_all
  refine b_cons (s_set (i := 5) al sc_law_names.nd rfl (.inl rfl) pd_int fun v H1 x1 r1 => ?_)
  cases r1
  refine b_cons (s_if (al.mono x1) (td_lt (nm 3 (.int z)) (nm 1 (.int lo))) (fun k H2 x2 => ?_) (fun k H2 x2 => b_nil ?_))
  · have k := of_decide_eq_true k
    refine b_cons (s_set (i := 5) (al.mono (x1.trans x2)) sc_law_names.nd rfl (.inl rfl) pd_int fun v H3 x3 r3 => ?_)
    cases r3
    refine b_nil (b_cons (s_if (k := false) (al.mono ((x1.trans x2).trans x3)) (TD.is (td_gt (nm 3 (.int z)) (nm 2 (.int hi))) (decide_eq_false (by omega))) (fun k => by cases k) (fun _ H4 x4 => b_nil (mid 0 H4 (by decide) ?_ (((x1.trans x2).trans x3).trans x4)))))
    unfold ltN
    rw [if_pos k]
  · have k := of_decide_eq_false k
    refine b_cons (s_if (al.mono (x1.trans x2)) (td_gt (nm 3 (.int z)) (nm 2 (.int hi))) (fun k2 H3 x3 => ?_) (fun k2 H3 x3 => b_nil (mid 1 H3 (by decide) ?_ ((x1.trans x2).trans x3))))
    · have k2 := of_decide_eq_true k2
      refine b_cons (s_set (i := 5) (al.mono ((x1.trans x2).trans x3)) sc_law_names.nd rfl (.inl rfl) pd_int fun v H4 x4 r4 => ?_)
      cases r4
      refine b_nil (mid 2 H4 (by decide) ?_ (((x1.trans x2).trans x3).trans x4))
      unfold ltN
      rw [if_neg (by omega), if_neg (by omega)]
    · have k2 := of_decide_eq_false k2
      unfold ltN
      rw [if_neg (by omega), if_pos (by omega)]
end
end TK

namespace GV
open PySem PySem.Spec PyProof.Rows L2
end GV

namespace TK
open PySem PySem.Spec PyProof.Rows L2 GV
theorem nearL_of {n : Nat} {ns : List Int} {p j : Nat} (hj : j ∈ hIx n ns p) (h : ∀ y ∈ hIx n ns p, nearK p (j : Nat) < nearK p (y : Nat) ∨ (nearK p (j : Nat) = nearK p (y : Nat) ∧ j ≤ y)) : nearL n ns p = some (ns.getD j 0) := by
  unfold nearL
  rw [if_neg (List.ne_nil_of_mem hj)]
  have up : (ixI n ns p).Pairwise (· < ·) := List.pairwise_map.mpr ((hIx_up n ns p).imp fun h => by omega)
  rw [firstK_eq (key := nearK p) (m := ((j : Nat) : Int)) up (List.mem_map.mpr ⟨j, hj, rfl⟩) fun y hy => ?_, Int.toNat_natCast]
  obtain ⟨i, hi, rfl⟩ := List.mem_map.mp hy
  rcases h i hi with z | ⟨z, z2⟩
  · exact .inl z
  · exact .inr ⟨z, by omega⟩
theorem nearL_none {n : Nat} {ns : List Int} {p : Nat} (h : hIx n ns p = []) : nearL n ns p = none := by
  unfold nearL
  rw [if_pos h]
end TK

namespace GV
open PySem PySem.Spec PyProof.Rows L2
section
variable {X : Cx} {M : Addr → Prop} {σ : St} {H H' : Hp} {a b c e o : Expr} {da db d : PyData} {pos : Pos}
theorem td_ltLt {i j k : Int} (ha : PD X M a σ H (.int i)) (hb : PD X M b σ H (.int j)) (hc : PD X M c σ H (.int k)) (h1 : lastMarks [.Lt, .Lt] [b, c] = false := by with_unfolding_all rfl) : TD X M (.Compare a [.Lt, .Lt] [b, c] pos) σ H (decide (i < j) && decide (j < k)) := .mk fun H1 e1 al Q q => by
  refine ⟨_, pt_chain op_lt op_lt wE.pe wE.pe wE.pe h1, ha.run H1 e1 al _ fun x H2 x2 rx => hb.run H2 (e1.trans (.of x2)) (al.mono x2) _ fun y H3 x3 ry => ?_⟩
  cases rx
  cases ry
  refine ⟨i, j, rfl, rfl, _, rfl, ?_⟩
  cases h : decide (i < j) with
  | false =>
    rw [h] at q
    exact ⟨_, rfl, q H3 (x2.trans x3)⟩
  | true =>
    rw [h] at q
    refine hc.run H3 ((e1.trans (.of x2)).trans (.of x3)) ((al.mono x2).mono x3) _ fun z H4 x4 rz => ?_
    cases rz
    exact ⟨j, k, rfl, rfl, _, rfl, q H4 ((x2.trans x3).trans x4)⟩
end
end GV

namespace TK
open PySem PySem.Spec PyProof.Rows L2 GV
/-! ### the law's nearest helper -/
/-- the state of the search behind i stones -/
def Bst (n : Nat) (ns : List Int) (p i : Nat) (bv : V) (g : Int) : Prop :=
  (bv = .non ∧ g = 99 ∧ ∀ y ∈ hIx n ns p, ¬ y < i) ∨ ∃ j, j ∈ hIx n ns p ∧ j < i ∧ bv = .int (ns.getD j 0) ∧ g = nearK p (j : Nat) ∧ ∀ y ∈ hIx n ns p, y < i → nearK p (j : Nat) < nearK p (y : Nat) ∨ (nearK p (j : Nat) = nearK p (y : Nat) ∧ j ≤ y)
theorem Bst.skip {n : Nat} {ns : List Int} {p i : Nat} {bv : V} {g : Int} (b : Bst n ns p i bv g) (h : i ∈ hIx n ns p → g ≤ nearK p (i : Nat)) (hn : i ∈ hIx n ns p → g ≠ 99) : Bst n ns p (i + 1) bv g := by
  rcases b with ⟨rfl, rfl, b⟩ | ⟨j, b1, b2, rfl, rfl, b3⟩
  · refine .inl ⟨rfl, rfl, fun y hy hlt => ?_⟩
    rcases Nat.lt_or_ge y i with z | z
    · exact b y hy z
    · have : y = i := by omega
      rw [this] at hy
      exact hn hy rfl
  · refine .inr ⟨j, b1, by omega, rfl, rfl, fun y hy hlt => ?_⟩
    rcases Nat.lt_or_ge y i with z | z
    · exact b3 y hy z
    · have e : y = i := by omega
      rw [e] at hy ⊢
      have := h hy
      omega
theorem Bst.take {n : Nat} {ns : List Int} {p i : Nat} {bv : V} {g : Int} (b : Bst n ns p i bv g) (hi : i ∈ hIx n ns p) (h : nearK p (i : Nat) < g) : Bst n ns p (i + 1) (.int (ns.getD i 0)) (nearK p (i : Nat)) := by
  refine .inr ⟨i, hi, by omega, rfl, rfl, fun y hy hlt => ?_⟩
  rcases Nat.lt_or_ge y i with z | z
  · rcases b with ⟨_, _, b⟩ | ⟨j, b1, b2, _, rfl, b3⟩
    · exact absurd z (b y hy)
    · have := b3 y hy z
      omega
  · have e : y = i := by omega
    rw [e]
    exact .inr ⟨rfl, Nat.le_refl _⟩
theorem Bst.last {n : Nat} {ns : List Int} {p : Nat} {bv : V} {g : Int} (hp : p + 1 < ns.length) (b : Bst n ns p ns.length bv g) : (nearL n ns p = none ∧ bv = .non) ∨ ∃ z, nearL n ns p = some z ∧ bv = .int z := by
  rcases b with ⟨rfl, _, b⟩ | ⟨j, b1, b2, rfl, _, b3⟩
  · refine .inl ⟨nearL_none (List.eq_nil_iff_forall_not_mem.mpr fun y hy => b y hy ((hIx_ok hp).mp hy).1), rfl⟩
  · exact .inr ⟨_, nearL_of b1 fun y hy => b3 y hy ((hIx_ok hp).mp hy).1, rfl⟩
def R_lnear (ds : List PyData) (d : PyData) : Prop := ∃ (n : Nat) (ns : List Int) (p : Nat), p + 1 < ns.length ∧ RowL ns ∧ ds = [intsD ns, .int (p : Nat), .int (n : Nat)] ∧ d = optD (nearL n ns p)
section
variable {P : Program} {w : World} {K : PySem.W.Frag} {mg : Str → Option Value} {base : Heap}
theorem cl_law_nearest {f : Addr} {fd : FuncData} (F : At K mg "_law_nearest" s_law_nearest f fd) (nb : NoB mg) (cn : Cl P w K mg base CX0 1 "_law_names" (PureR K R_names)) : Cl P w K mg base CX0 2 "_law_nearest" (PureR K R_lnear) := by
  refine cl_pure F sc_law_nearest (F.fn.binds fun _ _ _ _ _ _ us hl => match us, hl with | [_, _, _], _ => rfl) (fun ds d h => ?_) (fun X cdv A outer s H Q E M vs ds d hX hr al r h q => ?_)
  · obtain ⟨_, _, _, _, _, rfl, _⟩ := h
    rfl
  obtain ⟨n, ns, p, hp, hrow, rfl, rfl⟩ := h
  obtain ⟨u, v, x, rfl, r1, r2, r3⟩ := rpa3 r
  subst hX
  cases r2
  cases r3
  obtain ⟨a, ha⟩ := get_i (ns := ns) (i := p) (by omega)
  obtain ⟨b, hb⟩ := get_i (ns := ns) (i := p + 1) hp
  have i1 : ((p : Nat) : Int) + 1 = ((p + 1 : Nat) : Int) := by omega
  have elo : lo2 ns p = min a b := by
    unfold lo2
    rw [getD_of ha, getD_of hb]
  have ehi : hi2 ns p = max a b := by
    unfold hi2
    rw [getD_of ha, getD_of hb]
  refine b_cons (s_set (i := 3) (d := .int (min a b)) al sc_law_nearest.nd rfl (.inl rfl) (pd_min2 rfl nb.min (pd_ix (nm 0 r1) (nm 1 (.int (p : Nat))) (ixD_ints ha)) (pd_ix (nm 0 r1) (PD.is (pd_add (nm 1 (.int (p : Nat))) pd_int) (congrArg PyData.int i1)) (ixD_ints hb))) fun v2 H2 x2 rv2 => ?_)
  cases rv2
  have r1a := r1.mono (fun _ z => z) (ExM.of x2)
  refine b_cons (s_set (i := 4) (d := .int (max a b)) (al.mono x2) sc_law_nearest.nd rfl (.inl rfl) (pd_max2 rfl nb.max (pd_ix (nm 0 r1a) (nm 1 (.int (p : Nat))) (ixD_ints ha)) (pd_ix (nm 0 r1a) (PD.is (pd_add (nm 1 (.int (p : Nat))) pd_int) (congrArg PyData.int i1)) (ixD_ints hb))) fun v3 H3 x3 rv3 => ?_)
  cases rv3
  refine b_cons (s_set (i := 5) (al.mono (x2.trans x3)) sc_law_nearest.nd rfl (.inl rfl) pd_non fun v4 H4 x4 rv4 => ?_)
  cases rv4
  refine b_cons (s_set (i := 6) (al.mono ((x2.trans x3).trans x4)) sc_law_nearest.nd rfl (.inl rfl) pd_int fun v5 H5 x5 rv5 => ?_)
  cases rv5
  have x05 := ((x2.trans x3).trans x4).trans x5
  have r1b := r1.mono (fun _ z => z) (ExM.of x05)
  refine b_cons (s_forR (M := M) (n := ns.length) (slot := 7) PassesOwn.never rfl sc_law_nearest.nd rfl (.inl rfl) rfl nb.range (pd_len nb rfl (nm 0 r1b) (n := ns.length) (by simp [lenD])) (by have := hrow.1; omega) (al.mono x05)
    (fun Hs i σ' H' => ∃ (bv : V) (g : Int) (xk xa : Option V), σ' = [some u, some (.int (p : Nat)), some (.int (n : Nat)), some (.int (min a b)), some (.int (max a b)), some bv, some (.int g), xk, xa] ∧ Evl.Ex Hs H' ∧ Bst n ns p i bv g) ?_ ?_ ?_ ?_)
  · exact fun Hs xs => ⟨.non, 99, none, none, rfl, Evl.Ex.refl _, .inl ⟨rfl, rfl, fun _ _ => Nat.not_lt_zero _⟩⟩
  · rintro Hs i σ' H' xs ⟨_, _, _, _, _, e, _⟩
    exact ⟨.of e, al.mono (x05.trans (xs.trans e))⟩
  · rintro Hs i σ' H' H6 xs hi ⟨bv, g, xk, xa, rfl, e, bs⟩ x6
    have e6 := x05.trans (xs.trans (e.trans x6))
    have al6 := al.mono e6
    obtain ⟨z, hz⟩ := get_i (ns := ns) (i := i) hi
    have near0 : i ≠ p → i ≠ p + 1 → 0 < nearK p (i : Nat) ∧ nearK p (i : Nat) < 99 := fun n1 n2 => by
      have := hrow.1
      unfold nearK
      split <;> omega
    have body : ∀ (D : Ends) (aw : Int) H7, Evl.Ex H6 H7 → (i = p ∨ i = p + 1 → aw = 0) → (i ≠ p → i ≠ p + 1 → aw = nearK p (i : Nat)) → (∀ bv g H8, Evl.Ex H6 H8 → Bst n ns p (i + 1) bv g → D.nx [some u, some (.int (p : Nat)), some (.int (n : Nat)), some (.int (min a b)), some (.int (max a b)), some bv, some (.int g), some (.int (i : Nat)), some (.int aw)] H8) →
        wB (cxOf CX0 P w K mg base n_law_nearest "_law_nearest" (defScope s_law_nearest) f cdv A outer s H E).nox ((match (defBody s_law_nearest)[4]? with | some (Stmt.For _ _ b _ _) => b | _ => []).drop 2) D [some u, some (.int (p : Nat)), some (.int (n : Nat)), some (.int (min a b)), some (.int (max a b)), some bv, some (.int g), some (.int (i : Nat)), some (.int aw)] H7 := by
      intro D aw H7 x7 w0 w1 qD
      have al7 := al6.mono x7
      have r7 := r1.mono (fun _ z => z) (ExM.of (e6.trans x7))
      have third : 0 < aw → i ≠ p ∧ i ≠ p + 1 := fun h => by
        constructor <;> rintro rfl
        · have := w0 (.inl rfl)
          omega
        · have := w0 (.inr rfl)
          omega
      have ekd : bitN n (ltN (min a b) (max a b) z + if decide ((i : Int) < (p : Int)) = true then 0 else 3) = kb n ns p i := by
        unfold kb kdN
        rw [elo, ehi, getD_of hz]
        congr 2
        by_cases h : i < p
        · rw [if_pos h, if_pos (decide_eq_true (by omega))]
        · rw [if_neg h, if_neg (by rw [decide_eq_false (by omega)]; decide)]
      refine b_cons (s_if (k := (decide (0 < aw) && decide (aw < g)) && kb n ns p i) al7 (WD.td (wd_and (td_ltLt pd_int (nm 8 (.int aw)) (nm 6 (.int g))) fun hc => wd_and1 (td_val (PD.is (pd_callC cn hr (by decide) rfl (ad_cons (nm 2 (.int (n : Nat))) (ad_cons (nm 3 (.int (min a b))) (ad_cons (nm 4 (.int (max a b))) (ad_cons (pd_ix (nm 0 r7) (nm 7 (.int (i : Nat))) (ixD_ints hz)) (ad_cons (pd_lt (nm 7 (.int (i : Nat))) (nm 1 (.int (p : Nat)))) ad_nil))))) ⟨n, min a b, max a b, z, decide ((i : Int) < (p : Int)), by omega, ?_, rfl, rfl⟩) (congrArg PyData.bool ekd))))) (fun hk H8 x8 => ?_) (fun hk H8 x8 => b_nil (b_nil (qD bv g H8 (x7.trans x8) (bs.skip (fun hm => ?_) fun hm => ?_)))))
      · obtain ⟨n1, n2⟩ := third (of_decide_eq_true (Bool.and_eq_true_iff.mp hc).1)
        have nd := List.pairwise_iff_getElem.mp (List.nodup_iff_pairwise_ne.mp hrow.2.2)
        obtain ⟨hia, ea⟩ := List.getElem?_eq_some_iff.mp ha
        obtain ⟨hib, eb⟩ := List.getElem?_eq_some_iff.mp hb
        obtain ⟨hiz, ez⟩ := List.getElem?_eq_some_iff.mp hz
        have za : z ≠ a := fun e => by
          rcases Nat.lt_or_gt_of_ne n1 with h | h
          · exact nd i p hiz hia h (by rw [ea, ez, e])
          · exact nd p i hia hiz h (by rw [ea, ez, e])
        have zb : z ≠ b := fun e => by
          rcases Nat.lt_or_gt_of_ne n2 with h | h
          · exact nd i (p + 1) hiz hib h (by rw [eb, ez, e])
          · exact nd (p + 1) i hib hiz h (by rw [eb, ez, e])
        omega
      · obtain ⟨k1, k2⟩ := Bool.and_eq_true_iff.mp hk
        obtain ⟨k3, k4⟩ := Bool.and_eq_true_iff.mp k1
        have k3 := of_decide_eq_true k3
        have k4 := of_decide_eq_true k4
        obtain ⟨n1, n2⟩ := third k3
        have al8 := al7.mono x8
        have r8 := r1.mono (fun _ z => z) (ExM.of (e6.trans (x7.trans x8)))
        refine b_cons (s_set (i := 5) al8 sc_law_nearest.nd rfl (.inl rfl) (pd_ix (nm 0 r8) (nm 7 (.int (i : Nat))) (ixD_ints hz)) fun v9 H9 x9 r9 => ?_)
        cases r9
        refine b_cons (s_set (i := 6) (al8.mono x9) sc_law_nearest.nd rfl (.inl rfl) (nm 8 (.int aw)) fun vA HA xA rA => ?_)
        cases rA
        refine b_nil (b_nil (qD (.int z) aw HA ((x7.trans x8).trans (x9.trans xA)) ?_))
        have hm : i ∈ hIx n ns p := (hIx_ok hp).mpr ⟨hi, n1, n2, k2⟩
        have ew := w1 n1 n2
        have := bs.take hm (by omega)
        rw [getD_of hz, ← ew] at this
        exact this
      · obtain ⟨_, n1, n2, k2⟩ := (hIx_ok hp).mp hm
        have ew := w1 n1 n2
        have n0 := (near0 n1 n2).1
        rw [k2, Bool.and_true] at hk
        by_cases hg : aw < g
        · rw [decide_eq_true hg, decide_eq_true (by omega)] at hk
          cases hk
        · omega
      · rintro rfl
        obtain ⟨_, n1, n2, k2⟩ := (hIx_ok hp).mp hm
        have ew := w1 n1 n2
        obtain ⟨n0, n9⟩ := near0 n1 n2
        rw [k2, Bool.and_true, decide_eq_true (by omega), decide_eq_true (by omega)] at hk
        cases hk
    refine b_cons (s_set (i := 8) al6 sc_law_nearest.nd rfl (.inl rfl) (pd_sub (nm 1 (.int (p : Nat))) (nm 7 (.int (i : Nat)))) fun v7 H7 x7 r7 => ?_)
    cases r7
    refine b_cons (s_if (al6.mono x7) (td_gt (nm 7 (.int (i : Nat))) (nm 1 (.int (p : Nat)))) (fun hk H8 x8 => ?_) (fun hk H8 x8 => b_nil (body _ _ H8 (x7.trans x8) (fun h => ?_) (fun n1 n2 => ?_) fun bv g H9 x9 b9 => ⟨bv, g, _, _, rfl, e.trans (x6.trans x9), b9⟩)))
    · have hk := of_decide_eq_true hk
      refine b_cons (s_set (i := 8) ((al6.mono x7).mono x8) sc_law_nearest.nd rfl (.inl rfl) (pd_sub (pd_sub (nm 7 (.int (i : Nat))) (nm 1 (.int (p : Nat)))) pd_int) fun v9 H9 x9 r9 => ?_)
      cases r9
      refine b_nil (body _ _ H9 ((x7.trans x8).trans x9) (fun h => ?_) (fun n1 n2 => ?_) fun bv g HA xA bA => ⟨bv, g, _, _, rfl, e.trans (x6.trans xA), bA⟩)
      · omega
      · unfold nearK
        rw [if_neg (by omega)]
    · have hk := of_decide_eq_false hk
      omega
    · have hk := of_decide_eq_false hk
      unfold nearK
      rw [if_pos (by omega)]
  · rintro Hs σ' H' xs ⟨bv, g, xk, xa, rfl, e, bs⟩
    rcases bs.last hp with ⟨e1, rfl⟩ | ⟨z, e1, rfl⟩
    · exact b_cons (s_ret (al.mono (x05.trans (xs.trans e))) (nm 5 .non) fun v9 H9 x9 r9 => q v9 H9 ((x05.trans (xs.trans e)).trans x9) (by rw [e1]; exact r9))
    · exact b_cons (s_ret (al.mono (x05.trans (xs.trans e))) (nm 5 (.int z)) fun v9 H9 x9 r9 => q v9 H9 ((x05.trans (xs.trans e)).trans x9) (by rw [e1]; exact r9))
end
end TK

namespace TK
open PySem PySem.Spec PyProof.Rows L2 GV
/-! ### rows led along a history -/
theorem exch_len (ns : List Int) (p : Nat) : (exch ns p).length = ns.length := by
  simp [exch]
theorem exch_perm {ns : List Int} {p : Nat} (h : p + 1 < ns.length) : (exch ns p).Perm ns := by
  obtain ⟨x, y, A, B, _, _, _, _, h5, h6⟩ := exch_eq h
  rw [h6]
  conv => rhs; rw [h5]
  exact (List.Perm.swap x y B).append_left A
theorem RowL.exch {ns : List Int} {p : Nat} (r : RowL ns) (h : p + 1 < ns.length) : RowL (exch ns p) := ⟨by rw [exch_len]; exact r.1, fun z hz => r.2.1 z ((exch_perm h).mem_iff.mp hz), (exch_perm h).nodup_iff.mpr r.2.2⟩
def rowF (start : List Int) (his : List En) : List Int := his.foldl (fun r e => exch r e.p) start
theorem rowF_snoc (start : List Int) (his : List En) (e : En) : rowF start (his ++ [e]) = exch (rowF start his) e.p := by
  unfold rowF
  rw [List.foldl_append]
  rfl
theorem rowF_len (start : List Int) (his : List En) : (rowF start his).length = start.length := by
  induction his generalizing start with
  | nil => rfl
  | cons e l ih =>
    show (rowF (TK.exch start e.p) l).length = _
    rw [ih, exch_len]
/-- the history is one of changes that were made -/
def Led (n : Nat) (start : List Int) (his : List En) : Prop := ∀ i e, his[i]? = some e → e.p + 1 < start.length ∧ entO n (rowF start (his.take i)) e.p = some e
theorem Led.nil (n : Nat) (start : List Int) : Led n start [] := fun i e h => by simp at h
theorem Led.snoc {n : Nat} {start : List Int} {his : List En} {e : En} (l : Led n start his) (hp : e.p + 1 < start.length) (h : entO n (rowF start his) e.p = some e) : Led n start (his ++ [e]) := fun i f hf => by
  rcases Nat.lt_or_ge i his.length with hi | hi
  · rw [List.getElem?_append_left hi] at hf
    have := l i f hf
    rwa [List.take_append_of_le_length (by omega)]
  · rw [List.getElem?_append_right hi] at hf
    have e0 : i - his.length = 0 := by
      rcases Nat.eq_zero_or_pos (i - his.length) with z | z
      · exact z
      · rw [List.getElem?_eq_none (by simp; omega)] at hf
        cases hf
    rw [e0] at hf
    cases hf
    have ei : i = his.length := by omega
    rw [ei, List.take_left]
    exact ⟨hp, h⟩
theorem Led.take {n : Nat} {start : List Int} {his : List En} (l : Led n start his) (k : Nat) : Led n start (his.take k) := fun i e h => by
  have hi : i < k := by
    rcases Nat.lt_or_ge i k with z | z
    · exact z
    · rw [List.getElem?_eq_none (by rw [List.length_take]; omega)] at h
      cases h
  rw [List.getElem?_take_of_lt hi] at h
  rw [List.take_take, Nat.min_eq_left (by omega)]
  exact l i e h
theorem Led.row {n : Nat} {start : List Int} {his : List En} (l : Led n start his) (r : RowL start) : RowL (rowF start his) := by
  have key : ∀ k, k ≤ his.length → RowL (rowF start (his.take k)) := fun k => by
    induction k with
    | zero => exact fun _ => r
    | succ k ih =>
      intro hk
      have hk' : k < his.length := by omega
      have e := l k _ (List.getElem?_eq_getElem hk')
      rw [List.take_add_one, List.getElem?_eq_getElem hk']
      show RowL (rowF start (his.take k ++ [his[k]]))
      rw [rowF_snoc]
      exact (ih (by omega)).exch (by rw [rowF_len]; exact e.1)
  have := key his.length (Nat.le_refl _)
  rwa [List.take_length] at this
theorem entO_at {n : Nat} {ns : List Int} {p : Nat} {e : En} (h : entO n ns p = some e) : e.a = ns.getD p 0 ∧ e.b = ns.getD (p + 1) 0 ∧ nearL n ns p = some e.h ∧ e.p = p := by
  unfold entO at h
  obtain ⟨z, hz, rfl⟩ := Option.map_eq_some_iff.mp h
  exact ⟨rfl, rfl, hz, rfl⟩
def R_lswap (ds es : List PyData) : Prop := ∃ (ns : List Int) (p : Nat), p + 1 < ns.length ∧ ns.length ≤ 900 ∧ ds = [intsD ns, .int (p : Nat)] ∧ es = (exch ns p).map PyData.int
def R_lread (ds es : List PyData) : Prop := ∃ (n : Nat) (start : List Int) (his : List En), Led n start his ∧ RowL start ∧ his.length ≤ 1000 ∧ ds = [.list (his.map enD), intsD start, .int (n : Nat)] ∧ es = (rowF start his).map PyData.int
section
variable {P : Program} {w : World} {K : PySem.W.Frag} {mg : Str → Option Value} {base : Heap}
theorem cl_law_swap {f : Addr} {fd : FuncData} (F : At K mg "_law_swap" s_law_swap f fd) : Cl P w K mg base CX0 1 "_law_swap" (FreshR K R_lswap) := by
  refine ⟨f, fd, _, F.fn.ok sc_law_swap (fun vs H Q E h => ?_) (fun cdv A outer s H vs Q E hr h => ⟨_, wB.ps, ?_⟩), F.gl, F.fn.kp, F.fn.binds fun _ _ _ _ _ _ us hl => match us, hl with | [_, _], _ => rfl⟩
  · obtain ⟨M, ds, es, al, r, ⟨ns, p, _, _, rfl, _⟩, _⟩ := h
    exact r.length
  obtain ⟨M, ds, es, al, r, ⟨ns, p, hp, hl, rfl, rfl⟩, q⟩ := h
  obtain ⟨u, v, rfl, r1, r2⟩ := rpa2 r
  obtain ⟨x, y, A', B', hx, hy, rfl, rfl, en, ee⟩ := exch_eq hp
  have i1 : ((p : Nat) : Int) + 1 = ((p + 1 : Nat) : Int) := by omega
  have e2 : ((ns.take p).map PyData.int ++ [.int y, .int x]) ++ (ns.drop (p + 2)).map PyData.int = (exch ns p).map PyData.int := by
    rw [ee, List.map_append]
    simp
  rw [← e2] at q
  exact b_cons (cs_ret (ce_fd al (fd_cat (FD.pd (fd_cat (PD.is (FD.pd (fd_slice (nm 0 r1) od_none (od_some (nm 1 r2)))) (congrArg PyData.list (cut_takeI ns p))) (FD.pd (fd_lst (ad_cons (pd_ix (nm 0 r1) (PD.is (pd_add (nm 1 r2) pd_int) (congrArg PyData.int i1)) (ixD_ints hy)) (ad_cons (pd_ix (nm 0 r1) (nm 1 r2) (ixD_ints hx)) ad_nil)) (by simp))) (by rw [List.length_map, List.length_take]; show min p ns.length + 2 ≤ 100000; omega))) (PD.is (FD.pd (fd_slice (nm 0 r1) (od_some (pd_add (nm 1 r2) pd_int)) od_none)) (congrArg PyData.list (cut_drop2 ns p))) (by
      rw [List.length_append, List.length_map, List.length_map, List.length_take, List.length_drop]
      show min p ns.length + 2 + _ ≤ 100000
      omega)) q))
end
end TK

namespace TK
open PySem PySem.Spec PyProof.Rows L2 GV
def oddI : PyData → Bool
  | .int _ => false
  | _ => true
theorem rowF_take {start : List Int} {his : List En} {i : Nat} {e : En} (h : his[i]? = some e) : rowF start (his.take (i + 1)) = exch (rowF start (his.take i)) e.p := by
  rw [List.take_add_one, h]
  exact rowF_snoc _ _ _
section
variable {P : Program} {w : World} {K : PySem.W.Frag} {mg : Str → Option Value} {base : Heap}
theorem cl_law_read {f : Addr} {fd : FuncData} (F : At K mg "_law_read" s_law_read f fd) (nb : NoB mg) (cn : Cl P w K mg base CX0 2 "_law_nearest" (PureR K R_lnear)) (cs : Cl P w K mg base CX0 1 "_law_swap" (FreshR K R_lswap)) : Cl P w K mg base CX0 3 "_law_read" (FreshR K R_lread) := by
  refine ⟨f, fd, _, F.fn.ok sc_law_read (fun vs H Q E h => ?_) (fun cdv A outer s H vs Q E hr h => ⟨_, wB.ps, ?_⟩), F.gl, F.fn.kp, F.fn.binds fun _ _ _ _ _ _ us hl => match us, hl with | [_, _, _], _ => rfl⟩
  · obtain ⟨M, ds, es, al, r, ⟨_, _, _, _, _, _, rfl, _⟩, _⟩ := h
    exact r.length
  obtain ⟨M, ds, es, al, r, ⟨n, start, his, led, hrow, hlen, rfl, rfl⟩, q⟩ := h
  obtain ⟨u, v, x, rfl, r1, r2, r3⟩ := rpa3 r
  cases r3
  refine b_cons (cs_set (i := 3) sc_law_read.nd rfl (.inl rfl) (ce_fd al (fd_listOf rfl nb.list (nm 1 r2) rfl) fun l ws H1 hl1 x1 h1 rw1 => ?_))
  have ew := rw1.of_ints
  subst ew
  have r1a := r1.mono (fun _ z => z) (ExM.of x1)
  refine b_cons (s_if (k := false) (al.mono x1) (td_not (k := true) (td_val (pd_isi rfl nb.isinstance rfl nb.list PyProof.Rows.boot_list (nm 0 r1a) (kit_list _)))) (fun k => by cases k) (fun _ H2 x2 => b_nil ?_))
  have x12 := x1.trans x2
  have r1b := r1.mono (fun _ z => z) (ExM.of x12)
  refine b_cons (s_for (t := .one 4) PassesOwn.never rfl (src_list (nm 0 r1b)) (pg_name (i := 4) sc_law_read.nd rfl (.inl rfl)) (al.mono x12)
    (fun Hs i σ' H' => ∃ (l : Addr) (xe xp xq : Option V), σ' = [some u, some v, some (.int (n : Nat)), some (.ref l), xe, xp, xq] ∧ Evl.Ex Hs H' ∧ H l = none ∧ H' l = some (.lst ((rowF start (his.take i)).map V.int))) ?_ ?_ (fun _ _ => trivial) ?_ ?_)
  · exact fun Hs xs => ⟨l, none, none, none, rfl, Evl.Ex.refl _, hl1, xs _ _ (x2 _ _ h1)⟩
  · rintro Hs i σ' H' xs ⟨_, _, _, _, _, e, _⟩
    exact ⟨.of e, al.mono (x12.trans (xs.trans e))⟩
  · rintro Hs i d σ' H' H3 σ2 xs hd ⟨l, xe, xp, xq, rfl, e, hln, hl⟩ x3 ⟨ev, re, rfl⟩
    rw [List.getElem?_map] at hd
    obtain ⟨en, hen, rfl⟩ := Option.map_eq_some_iff.mp hd
    obtain ⟨hp, hent⟩ := led i en hen
    have i1 : ((en.p : Nat) : Int) + 1 = ((en.p + 1 : Nat) : Int) := by omega
    obtain ⟨ea, eb, eh, _⟩ := entO_at hent
    have x03 := x12.trans (xs.trans (e.trans x3))
    have al3 := al.mono x03
    have hlL : (rowF start (his.take i)).length = start.length := rowF_len _ _
    have hrI := (led.take i).row hrow
    have rl : ∀ H4, Evl.Ex H3 H4 → Rp K M H4 (.ref l) (intsD (rowF start (his.take i))) := fun H4 x4 => .lst (al.fresh hln) (.inl (x4 _ _ (x3 _ _ hl))) (.ints _)
    have re' : ∀ H4, Evl.Ex H3 H4 → Rp K M H4 ev (enD en) := fun H4 x4 => re.mono (fun _ z => z) (ExM.of x4)
    have al' : ∀ H4, Evl.Ex H3 H4 → Alive M H4 := fun H4 x4 => al3.mono x4
    generalize hrw : rowF start (his.take i) = row at *
    obtain ⟨za, hza⟩ := get_i (ns := row) (i := en.p) (by omega)
    obtain ⟨zb, hzb⟩ := get_i (ns := row) (i := en.p + 1) (by omega)
    have ea' : en.a = za := by rw [ea, getD_of hza]
    have eb' : en.b = zb := by rw [eb, getD_of hzb]
    refine b_cons (s_if (k := false) al3 (TD.is (WD.td (wd_or (k1 := false) (td_not (k := true) (td_val (pd_isi rfl nb.isinstance rfl nb.tuple PyProof.Rows.boot_tuple (nm 4 (re' _ (Evl.Ex.refl _))) (kit_tup _)))) fun _ => wd_or1 (td_ne hr.units (pd_len nb rfl (nm 4 (re' _ (Evl.Ex.refl _))) (n := 4) rfl) pd_int rfl rfl))) rfl) (fun k => by cases k) (fun _ H4 x4 => b_nil ?_))
    refine b_cons (s_if (k := false) (al' _ x4) (TD.is (td_ne hr.units (FD.pd (fd_filter (t := .one 6) (own := [("part", 6)]) oddI id rfl sc_law_read.nd (src_tup (nm 4 (re' _ x4))) (blkOk_by (N := n_law_read) (sc := defScope s_law_read) (by decide +kernel)) (fun _ _ _ _ _ => pg_name (i := 6) sc_law_read.nd rfl (.inl rfl)) (fun _ _ => trivial) ?_ ?_ ?_)) (FD.pd (fd_lst ad_nil (by simp))) rfl rfl) rfl) (fun k => by cases k) (fun _ H5 x5 => b_nil ?_))
    · rintro M H d σ' ⟨_, _, rfl⟩
      rfl
    · show 4 ≤ 100000
      decide
    · rintro s0 H0 C cl fp M' H' d σ' hM lift hd ⟨v', rv, rfl⟩
      have hd : ∃ z : Int, d = .int z := by
        rcases List.mem_cons.mp hd with rfl | hd
        · exact ⟨_, rfl⟩
        · rcases List.mem_cons.mp hd with rfl | hd
          · exact ⟨_, rfl⟩
          · rcases List.mem_cons.mp hd with rfl | hd
            · exact ⟨_, rfl⟩
            · rw [List.mem_singleton.mp hd]
              exact ⟨_, rfl⟩
      obtain ⟨z, rfl⟩ := hd
      exact ⟨TD.is (WD.td (wd_or (k1 := false) (td_val (pd_isi rfl nb.isinstance rfl nb.bool PyProof.Rows.boot_bool (nm 6 rv) (kit_bool _))) fun _ => wd_or1 (td_not (k := true) (td_val (pd_isi rfl nb.isinstance rfl nb.int PyProof.Rows.boot_int (nm 6 rv) (kit_int _)))))) rfl, nm 6 rv⟩
    have x45 := x4.trans x5
    refine b_cons (s_set (i := 5) (d := .int (en.p : Nat)) (al' _ x45) sc_law_read.nd rfl (.inl rfl) (pd_ix (nm 4 (re' _ x45)) pd_int rfl) fun v6 H6 x6 r6 => ?_)
    cases r6
    have x46 := x45.trans x6
    refine b_cons (s_if (k := false) (al' _ x46) (TD.is (WD.td (wd_or (td_lt (nm 5 (.int (en.p : Nat))) pd_int) fun _ => wd_or1 (td_gt (nm 5 (.int (en.p : Nat))) (pd_sub (pd_len nb rfl (nm 3 (rl _ x46)) (n := row.length) (by simp [lenD])) pd_int)))) ?_) (fun k => by cases k) (fun _ H7 x7 => b_nil ?_))
    · rw [decide_eq_false (by omega), decide_eq_false (by omega)]
      rfl
    have x47 := x46.trans x7
    refine b_cons (s_if (k := false) (al' _ x47) (TD.is (WD.td (wd_or (td_ne hr.units (pd_ix (nm 4 (re' _ x47)) pd_int (d := .int en.a) rfl) (pd_ix (nm 3 (rl _ x47)) (nm 5 (.int (en.p : Nat))) (ixD_ints hza)) rfl rfl) fun _ => wd_or1 (td_ne hr.units (pd_ix (nm 4 (re' _ x47)) pd_int (d := .int en.b) rfl) (pd_ix (nm 3 (rl _ x47)) (PD.is (pd_add (nm 5 (.int (en.p : Nat))) pd_int) (congrArg PyData.int i1)) (ixD_ints hzb)) rfl rfl))) ?_) (fun k => by cases k) (fun _ H8 x8 => b_nil ?_))
    · rw [eqv_int, eqv_int, ea', eb', decide_eq_true rfl, decide_eq_true rfl]
      rfl
    have x48 := x47.trans x8
    refine b_cons (s_if (k := false) (al' _ x48) (TD.is (td_ne hr.units (pd_ix (nm 4 (re' _ x48)) pd_int (d := .int en.h) rfl) (PD.is (pd_callC cn hr (by decide) rfl (ad_cons (nm 3 (rl _ x48)) (ad_cons (nm 5 (.int (en.p : Nat))) (ad_cons (nm 2 (.int (n : Nat))) ad_nil))) ⟨n, row, en.p, by omega, hrI, rfl, rfl⟩) (by rw [eh]; rfl : optD (nearL n row en.p) = .int en.h)) rfl rfl) (by rw [eqv_int, decide_eq_true rfl]; rfl)) (fun k => by cases k) (fun _ H9 x9 => b_nil ?_))
    have x49 := x48.trans x9
    refine b_cons (cs_set (i := 3) sc_law_read.nd rfl (.inl rfl) (ce_fd (al' _ x49) (fd_callC cs hr (by decide) rfl (ad_cons (nm 3 (rl _ x49)) (ad_cons (nm 5 (.int (en.p : Nat))) ad_nil)) ⟨row, en.p, by omega, by have := hrI.1; omega, rfl, rfl⟩) fun l2 ws HA hl2 xA hA rwA => ?_))
    have ew := rwA.of_ints
    subst ew
    refine b_nil ⟨l2, _, _, _, rfl, e.trans (x3.trans (x49.trans xA)), Evl.fresh_back (x03.trans x49) hl2, ?_⟩
    rw [hA, rowF_take hen, hrw]
  · rintro Hs σ' H' xs ⟨l, xe, xp, xq, rfl, e, hln, hl⟩
    rw [List.length_map, List.take_length] at hl
    exact b_cons (cs_ret (ce_nm 3 (q l _ H' hln (x12.trans (xs.trans e)) hl (.ints _))))
end
end TK

namespace TK
open PySem PySem.Spec PyProof.Rows L2 GV
theorem td_notN {X : Cx} {M : Addr → Prop} {σ : St} {H : Hp} {a : Expr} {da : PyData} {pos : Pos} {j p2} (ha : PD X M a σ H da) : TD X M (.Compare a [.IsNot] [.Constant .none j p2] pos) σ H (!isNone da) :=
  td_cmpR op_notN (nomark _) (fun x y H1 rx ry _ Q q => by
    cases ry
    exact ⟨rfl, q _ H1 (Evl.Ex.refl H1) (by rw [rx.isN]; exact .bl _)⟩) ha pd_non
/-! ### a place is picked -/
def spPick (K : PySem.W.Frag) : Sp := fun vs H Q _ => ∃ (a l : Addr) (ns : List Int) (n : Nat) (r c k : Int), vs = [.ref l, .int (n : Nat), .ref a] ∧ H a = some (potL r c k) ∧ a ≠ l ∧ H l = some (.lst (ns.map V.int)) ∧ RowL ns ∧ 2 ≤ ns.length ∧
  ∀ (p : Nat) r' k' H', p + 1 < ns.length → ExB a H H' → H' a = some (potL r' c k') → Q (.int (p : Nat)) H'
section
variable {P : Program} {w : World} {K : PySem.W.Frag} {mg : Str → Option Value} {base : Heap}
theorem cl_law_pick {f : Addr} {fd : FuncData} (F : At K mg "_law_pick" s_law_pick f fd) (nb : NoB mg) (cd : Cl P w K mg base CX0 1 "_law_take" spTake) (cn : Cl P w K mg base CX0 2 "_law_nearest" (PureR K R_lnear)) : Cl P w K mg base CX0 3 "_law_pick" (spPick K) := by
  refine ⟨f, fd, _, F.fn.ok sc_law_pick (fun vs H Q E h => ?_) (fun cdv A outer sh H vs Q E hr h => ⟨_, wB.ps, ?_⟩), F.gl, F.fn.kp, F.fn.binds fun _ _ _ _ _ _ us hl => match us, hl with | [_, _, _], _ => rfl⟩
  · obtain ⟨a, l, ns, n, r, c, k, rfl, _⟩ := h
    rfl
  obtain ⟨a, l, ns, n, r, c, k, rfl, ha, nal, hl, hrow, hln, q⟩ := h
  have rl : ∀ {H' : Hp}, H' l = some (.lst (ns.map V.int)) → Rp K (Ma a) H' (.ref l) (intsD ns) := fun h => .lst (fun e => nal e.symm) (.inl h) (.ints ns)
  refine b_cons (cs_set (i := 3) sc_law_pick.nd rfl (.inl rfl) (ce_take cd hr (by decide) rfl (fun H1 Q hq => ce_nm 2 hq) (pd_sub (pd_len nb rfl (nm 0 (rl hl)) (n := ns.length) (by simp [lenD])) pd_int) ha (by omega) (n8000 (by omega) (by have := hrow.1; omega)) fun p r1 k1 H1 p0 p1 e1 ha1 => ?_))
  have hl1 := e1 _ _ nal.symm hl
  obtain ⟨pn, rfl⟩ : ∃ pn : Nat, p = (pn : Nat) := ⟨p.toNat, by omega⟩
  refine b_cons (cs_if (ct_eq hr.units (ce_take cd hr (by decide) rfl (fun H1 Q hq => ce_nm 2 hq) pd_int ha1 (by decide) (by decide +kernel) fun z r2 k2 H2 z0 z1 e2 ha2 => ce_intC ⟨.int z, .int 0, (Rp.int (M := M0) _).dp, (Rp.int (M := M0) _).dp, rfl, rfl, ?_⟩)))
  have hl2 := e2 _ _ nal.symm hl1
  have e02 := e1.trans e2
  by_cases hz : PyData.eqv (.int z) (.int 0) = true
  · rw [if_pos hz]
    exact b_cons (cs_ret (ce_nm 3 (q pn r2 k2 H2 (by omega) e02 ha2)))
  · rw [if_neg hz]
    refine b_nil (b_cons (s_forRW (slot := 4) PassesOwn.never rfl sc_law_pick.nd rfl (.inl rfl) rfl nb.range (ce_intC ⟨8, fun i σ' H' => ∃ xk xa : Option V, σ' = [some (.ref l), some (.int (n : Nat)), some (.ref a), some (.int (pn : Nat)), xk, xa] ∧ Evl.Ex H2 H', rfl, by decide, ⟨none, none, rfl, Evl.Ex.refl _⟩, ?_, ?_⟩)))
    · rintro i σ' H' hi ⟨xk, xa, rfl, e⟩
      have ha3 := e _ _ ha2
      have hl3 := e _ _ hl2
      obtain ⟨m0, m1⟩ := emod_lt' ((pn : Int) + (i : Int)) (m := (ns.length : Int) - 1) (by omega)
      refine b_cons (s_set (i := 5) (d := .int (((pn : Int) + (i : Int)) % ((ns.length : Int) - 1))) (al_pot ha3) sc_law_pick.nd rfl (.inl rfl) (pd_mod (pd_intI nb rfl (pd_add (nm 3 (.int (pn : Nat))) (nm 4 (.int (i : Nat))))) (pd_sub (pd_len nb rfl (nm 0 (rl hl3)) (n := ns.length) (by simp [lenD])) pd_int) (by omega)) fun v H4 x4 r4 => ?_)
      cases r4
      obtain ⟨at', hat⟩ : ∃ at' : Nat, ((pn : Int) + (i : Int)) % ((ns.length : Int) - 1) = (at' : Nat) := ⟨_, (Int.toNat_of_nonneg m0).symm⟩
      rw [hat] at m1 ⊢
      have ha4 := x4 _ _ ha3
      have hl4 := x4 _ _ hl3
      refine b_cons (s_if (k := (nearL n ns at').isSome) (al_pot ha4) (TD.is (td_notN (pd_callC cn hr (by decide) rfl (ad_cons (nm 0 (rl hl4)) (ad_cons (nm 5 (.int (at' : Nat))) (ad_cons (nm 1 (.int (n : Nat))) ad_nil))) ⟨n, ns, at', by omega, hrow, rfl, rfl⟩)) ?_) (fun hk H5 x5 => ?_) (fun hk H5 x5 => b_nil (b_nil ⟨_, _, rfl, e.trans (x4.trans x5)⟩)))
      · cases nearL n ns at' <;> rfl
      · exact b_cons (cs_ret (ce_nm 5 (q at' r2 k2 H5 (by omega) (e02.trans (.of (e.trans (x4.trans x5)))) (x5 _ _ ha4))))
    · rintro σ' H' ⟨xk, xa, rfl, e⟩
      exact b_cons (cs_ret (ce_nm 3 (q pn r2 k2 H' (by omega) (e02.trans (.of e)) (e _ _ ha2))))
end
end TK

set_option maxHeartbeats 2000000
/-! a lambda handed to a def that keeps names of its own while it calls it: what is raised may speak of these names -/
namespace GV
open PySem PySem.Spec PyProof.Rows L2
/-- the def that calls what it got -/
def GivesA (X : Cx) (Ng : List Str) (x : Str) (sg : Scope) (g : Addr) (cdg : Value) (bg : List Stmt) (a : Str) (q : Str) (TT : (XK → Hp → VK → Prop) → Hp → VK → Prop) : Prop :=
  ∀ (f c' : Addr) (s : Shared) (H : Hp) (Q : VK) (tl : XK → Hp → VK → Prop),
    (∀ (W : WX) (pn : List (Addr × Obj)) (xe : Value → Shared → Prop) (E : XK) (p1 p2 : Pos), Takes ((cxOf C8.CX0 X.prog X.w X.K X.mg X.base Ng x sg g cdg X.A X.stack s H C8.E0).tr pn xe) W →
      PE ((cxOf C8.CX0 X.prog X.w X.K X.mg X.base Ng x sg g cdg X.A X.stack s H C8.E0).tr pn xe) (.Call (.Name a p1) [] [] p2) fun τ HZ Q => τ[0]? = some (some (.ref f)) ∧ HZ c' = some (LamX.CodeO c' q) ∧ (∀ cls d H', E cls d H' → W cls d τ H') ∧ tl E HZ Q) →
    H c' = some (LamX.CodeO c' q) → TT tl H Q → wB (cxOf C8.CX0 X.prog X.w X.K X.mg X.base Ng x sg g cdg X.A X.stack s H C8.E0).nox bg { nx := fun _ H' => Q .non H', rt := Q } (L2.start Ng [.ref f]) H
end GV

namespace TK
open PySem PySem.Spec PyProof.Rows L2 GV
/-! ### a change is tried -/
structure ErB (K : PySem.W.Frag) (mg : Str → Option Value) (CB CP CF CM : Addr) : Prop where
  gB : mg "Barred" = some (.ref CB)
  gP : mg "InvalidPlace" = some (.ref CP)
  gF : mg "Full" = some (.ref CF)
  gM : mg "MillError" = some (.ref CM)
  gV : mg "ValueError" = none
  ec : ExcC K CB
  xf : XfC K CB
  n1 : PySem.W.findIn K (.ref CB) "place" = some none
  n2 : PySem.W.findIn K (.ref CB) "step" = some none
  em : PySem.W.exmOne K (.ref CB) (.ref CM) = some true
  kP : PySem.W.kitOne K (.ref CB) (.ref CP) = some false
  kB : PySem.W.kitOne K (.ref CB) (.ref CB) = some true
  kF : PySem.W.kitOne K (.ref CB) (.ref CF) = some false
  kV : PySem.W.kitOne K (.ref CB) (.type "ValueError") = some true
def barD (p : Nat) : PyData := .tuple [.str "barred", .int (p : Nat), .int 0]
def spTried (K : PySem.W.Frag) (CD CH : Addr) (T : List (Addr × Str)) : Sp := fun vs H Q _ => ∃ (g lu lr dm h : Addr) (n : Nat) (lim : Int) (s : Sta) (us rs : List Sta) (p : Nat), vs = [.ref g, .int (p : Nat)] ∧ DeskAt K CD CH H g lu lr dm h n lim s us rs ∧ p + 1 < s.row.length ∧ RowL s.row ∧ LamX.Tabs T H ∧ (s.his.length : Int) < lim ∧ s.his.length < 5000 ∧ us.length < 5000 ∧
  (entO n s.row p = none → ∀ v H', ExM M0 H H' → LamX.Tabs T H' → Rp K M0 H' v (barD p) → Q v H') ∧
  (∀ e, entO n s.row p = some e → ∀ v H', ExM (Th g lu lr) H H' → LamX.Tabs T H' → DeskAt K CD CH H' g lu lr dm h n lim ⟨s.his ++ [e], exch s.row p⟩ (us ++ [s]) [] → Rp K M0 H' v (.tuple []) → Q v H')
section
variable {P : Program} {w : World} {K : PySem.W.Frag} {mg : Str → Option Value} {base : Heap} {CD CH CB CP CF CM : Addr} {T : List (Addr × Str)}
theorem cl_law_tried {f : Addr} {fd : FuncData} (F : At K mg "_law_tried" s_law_tried f fd) (nb : NoB mg) (B : DesC K CD) (T0 : ErB K mg CB CP CF CM) (mc : MethS P w K mg base (L2.CX P w) CD "change" 10 ["self", "place"] (spChange K CD CH CB T)) : Cl P w K mg base CX0 11 "_law_tried" (spTried K CD CH T) := by
  refine ⟨f, fd, _, F.fn.ok sc_law_tried (fun vs H Q E h => ?_) (fun cdv A outer sh H vs Q E hr h => ⟨_, wB.ps, ?_⟩), F.gl, F.fn.kp, F.fn.binds fun _ _ _ _ _ _ us hl => match us, hl with | [_, _], _ => rfl⟩
  · obtain ⟨g, lu, lr, dm, h, n, lim, s, us, rs, p, rfl, _⟩ := h
    rfl
  obtain ⟨g, lu, lr, dm, h, n, lim, s, us, rs, p, rfl, a, hp, hrow, hT, hl, hh5, hu5, q1, q2⟩ := h
  refine b_cons (s_try (Wout := fun _ _ _ _ => False) rfl rfl sc_law_tried.nd takes0 (.as_ (i := 3) ⟨rfl, by decide, .inl T0.gM⟩ rfl rfl (fun a oe cls d pn hz hd => psW hz hd) .nil) fun pn xe tk => ?_)
  obtain ⟨dx, sv, hi, _⟩ := a.ins
  refine b_cons (cs_set (i := 2) sc_law_tried.nd rfl (.inl rfl) (ce_methX B.ins.cl mc hr (by decide) tk (ce_nm 0 ⟨g, dx, _, rfl, hi, rfl, ca_cons (ce_nm 1 (ca_nil ⟨g, lu, lr, dm, h, n, lim, s, us, rs, p, rfl, a, hp, hrow, hT, hl, hh5, hu5, fun hn H1 e1 T1 => ?_, fun e he H1 e1 T1 a1 => ?_⟩))⟩)))
  · intro d H2 hd x2 hdd
    refine ⟨true, T0.em, fun _ a ha hlt => ?_, fun z => by cases z⟩
    intro oe pn2 hz hdo
    refine b_cons (s_set (M := M0) (i := 4) (d := .list [.bool false, .bool true, .bool false]) alive0 sc_law_tried.nd rfl (.inl rfl) (FD.pd (fd_lst (ad_cons (.mk fun H3 e3 al3 Q q3 => ⟨_, pe_callB (call_isEd T0.ec hz hdo) rfl nb.isinstance PyProof.Rows.boot_isinstance (pa_cons wE.pe (pa_cons (pe_glob rfl T0.gP (v := .ref CP) rfl (by decide)) pa_nil)) (by decide) (by decide), ce_nm 3 ⟨e3 _ _ hdd (fun z => z) (fun _ z => by cases z), .ref CP, .ref CP, false, rfl, fun u h => h, T0.kP, q3 _ H3 (Evl.Ex.refl H3) (.bl false)⟩⟩)
      (ad_cons (.mk fun H3 e3 al3 Q q3 => ⟨_, pe_callB (call_isEd T0.ec hz hdo) rfl nb.isinstance PyProof.Rows.boot_isinstance (pa_cons wE.pe (pa_cons (pe_glob rfl T0.gB (v := .ref CB) rfl (by decide)) pa_nil)) (by decide) (by decide), ce_nm 3 ⟨e3 _ _ hdd (fun z => z) (fun _ z => by cases z), .ref CB, .ref CB, true, rfl, fun u h => h, T0.kB, q3 _ H3 (Evl.Ex.refl H3) (.bl true)⟩⟩)
      (ad_cons (.mk fun H3 e3 al3 Q q3 => ⟨_, pe_callB (call_isEd T0.ec hz hdo) rfl nb.isinstance PyProof.Rows.boot_isinstance (pa_cons wE.pe (pa_cons (pe_glob rfl T0.gF (v := .ref CF) rfl (by decide)) pa_nil)) (by decide) (by decide), ce_nm 3 ⟨e3 _ _ hdd (fun z => z) (fun _ z => by cases z), .ref CF, .ref CF, false, rfl, fun u h => h, T0.kF, q3 _ H3 (Evl.Ex.refl H3) (.bl false)⟩⟩) ad_nil))) (by simp))) fun fv H3 x3 r3 => ?_)
    refine b_cons (s_if (M := M0) (k := false) alive0 (WD.td (wd_and (k1 := false) (k2 := false) (TD.is (td_eq hr.units (nm 4 r3) (FD.pd (fd_lst (ad_cons pd_bl (ad_cons pd_bl (ad_cons pd_bl ad_nil))) (by simp))) rfl rfl) rfl) fun z => by cases z)) (fun k => by cases k) (fun _ H4 x4 => b_nil ?_))
    have r4 := r3.mono (fun _ z => z) (ExM.of x4)
    have hd4 := x4 _ _ (x3 _ _ hdd)
    refine b_cons (s_if (M := M0) (k := true) alive0 (WD.td (wd_and (k1 := true) (k2 := true) (TD.is (td_eq hr.units (nm 4 r4) (FD.pd (fd_lst (ad_cons pd_bl (ad_cons pd_bl (ad_cons pd_bl ad_nil))) (by simp))) rfl rfl) rfl) fun _ => wd_and1 (td_val (.mk fun H3 e3 al3 Q q3 => ⟨_, pe_callB (call_isEd T0.ec hz hdo) rfl nb.isinstance PyProof.Rows.boot_isinstance (pa_cons wE.pe (pa_cons (pe_bltn (v := .ty "ValueError") rfl T0.gV (by decide +kernel) rfl) pa_nil)) (by decide) (by decide), ce_nm 3 ⟨e3 _ _ hd4 (fun z => z) (fun _ z => by cases z), .ty "ValueError", .type "ValueError", true, rfl, fun u h => h, T0.kV, q3 _ H3 (Evl.Ex.refl H3) (.bl true)⟩⟩)))) (fun _ H5 x5 => ?_) (fun k => by cases k))
    have hd5 := x5 _ _ hd4
    refine b_cons (cs_ret (ce_tup (ca_cons (ce_str (ca_cons (ce_xf T0.xf T0.n1 hz hdo (ce_nm 3 ⟨rfl, rfl, d, _, .int (p : Nat), rfl, hd5, rfl, ca_cons (ce_xf T0.xf T0.n2 hz hdo (ce_nm 3 ⟨rfl, rfl, d, _, .int 0, rfl, hd5, rfl, ca_nil ⟨(by show 3 ≤ 1000; decide), fun pt hpt => ?_⟩⟩))⟩)))))))
    refine q1 hn _ _ (e1.trans (.of ((x2.trans (x3.trans (x4.trans x5))).trans (Evl.Ex.new hpt)))) (T1.ext ((x2.trans (x3.trans (x4.trans x5))).trans (Evl.Ex.new hpt))) (.tup (fun z => z) (.inl upd_same) (.cons (.str _) (.cons (.int _) (.cons (.int _) .nil))))
  · refine b_nil (b_cons (s_if (M := M0) (k := false) alive0 (TD.is (td_notN (nm 2 .non)) rfl) (fun k => by cases k) (fun _ H4 x4 => b_nil ?_)))
    refine b_cons (s_ret (M := M0) alive0 (pd_tup ad_nil (by decide)) fun v H5 x5 r5 => ?_)
    exact q2 e he v H5 (e1.trans (.of (x4.trans x5))) (T1.ext (x4.trans x5)) (a1.ex (x4.trans x5)) r5
end
end TK

namespace TK
open PySem PySem.Spec PyProof.Rows L2 GV
/-! ### what the desk shows -/
theorem lay_ens : ∀ l : List En, PyData.canLayAll0 (l.map enD) = true ∧ PyData.depthAll (l.map enD) ≤ 5
  | [] => ⟨rfl, Nat.zero_le _⟩
  | e :: l => by
    obtain ⟨a, b⟩ := lay_ens l
    refine ⟨?_, ?_⟩
    · show ((enD e).canLay0 && PyData.canLayAll0 (l.map enD)) = true
      rw [a]
      rfl
    · show max (enD e).depth (PyData.depthAll (l.map enD)) ≤ 5
      exact Nat.max_le.mpr ⟨(by simp [enD, PyData.depth, PyData.depthAll]), b⟩
theorem shapedE (l : List En) : SeqAt.shaped (.list (l.map enD)) = true := by
  obtain ⟨a, b⟩ := lay_ens l
  refine shaped_of a ?_
  show PyData.depthAll (l.map enD) + 1 ≤ 64
  omega
theorem eqvE (l : List En) : PyData.eqv (.list (l.map enD)) (.list (l.map enD)) = true := SeqAt.eqv_refl _ (SeqAt.canLay_of_shaped (shapedE l))
theorem shapedR (ns : List Int) : SeqAt.shaped (.list (ns.map PyData.int)) = true := shaped_of (lays1 fun d hd => by
  obtain ⟨z, _, rfl⟩ := List.mem_map.mp hd
  trivial).1 (Nat.le_trans (lays1 fun d hd => by
  obtain ⟨z, _, rfl⟩ := List.mem_map.mp hd
  trivial).2 (by decide))
theorem eqvR (ns : List Int) : PyData.eqv (.list (ns.map PyData.int)) (.list (ns.map PyData.int)) = true := SeqAt.eqv_refl _ (SeqAt.canLay_of_shaped (shapedR ns))
structure DesM (P : Program) (w : World) (K : PySem.W.Frag) (mg : Str → Option Value) (base : Heap) (CD CH : Addr) : Prop where
  c : DesC K CD
  hist : MethS P w K mg base CX0 CD "history" 1 ["self"] (spHist K CD CH)
  pres : ∃ p f fd, PropOf K CD "present" p f ∧ FnOk P w K mg base CX0 1 f fd ["self"] (spPres K CD CH) ∧ Binds K fd ["self"] []
def spShows (K : PySem.W.Frag) (CD CH : Addr) : Sp := fun vs H Q _ => ∃ (g lu lr dm h : Addr) (n : Nat) (lim : Int) (s : Sta) (us rs : List Sta) (sv ev : V) (start : List Int), vs = [.ref g, sv, .int (n : Nat), ev] ∧ DeskAt K CD CH H g lu lr dm h n lim s us rs ∧ Rp K M0 H sv (intsD start) ∧ Rp K M0 H ev (.list (s.his.map enD)) ∧ Led n start s.his ∧ s.row = rowF start s.his ∧ RowL start ∧ s.his.length ≤ 1000 ∧
  ∀ H', Evl.Ex H H' → Q (.bl true) H'
section
variable {X : Cx} {σ : St} {H : Hp} {e : Expr} {pos : Pos} {CD CH g lu lr dm h : Addr} {n : Nat} {lim : Int} {s : Sta} {us rs : List Sta} {j : Nat}
theorem pd_pres (D : DesM X.prog X.w X.K X.mg X.base CD CH) (hr : Room j X.A) (hj : 2 ≤ j) (a : DeskAt X.K CD CH H g lu lr dm h n lim s us rs) (hn : AtN X σ e g) (hab : attributeBase e "present" X.env (eval e X.env) = eval e X.env := by rfl) : PD X M0 (.Attribute e "present" pos) σ H (tintsD s.row) := .mk fun H1 e1 al Q q => by
  obtain ⟨p, f, fd, hp, F, hb⟩ := D.pres
  have a1 := a.ex0 e1
  obtain ⟨dx, sv, hi, _⟩ := a1.ins
  exact ce_propE D.c.ins.cl hp F hr (by omega) hb pass0 (hn _ _ ⟨g, dx, _, rfl, hi, g, lu, lr, dm, h, n, lim, s, us, rs, rfl, a1, fun v H' x r => q v H' x r⟩) hab
end
section
variable {P : Program} {w : World} {K : PySem.W.Frag} {mg : Str → Option Value} {base : Heap} {CD CH : Addr}
theorem cl_law_shows {f : Addr} {fd : FuncData} (F : At K mg "_law_shows" s_law_shows f fd) (nb : NoB mg) (D : DesM P w K mg base CD CH) (cr : Cl P w K mg base CX0 3 "_law_read" (FreshR K R_lread)) : Cl P w K mg base CX0 4 "_law_shows" (spShows K CD CH) := by
  refine ⟨f, fd, _, F.fn.ok sc_law_shows (fun vs H Q E h => ?_) (fun cdv A outer sh H vs Q E hr h => ⟨_, wB.ps, ?_⟩), F.gl, F.fn.kp, F.fn.binds fun _ _ _ _ _ _ us hl => match us, hl with | [_, _, _, _], _ => rfl⟩
  · obtain ⟨g, lu, lr, dm, h, n, lim, s, us, rs, sv, ev, start, rfl, _⟩ := h
    rfl
  obtain ⟨g, lu, lr, dm, h, n, lim, s, us, rs, sv, ev, start, rfl, a, rS, rE, led, hrw, hrow, hlen, q⟩ := h
  obtain ⟨dx, st0, hi, _⟩ := a.ins
  refine b_cons (cs_set (i := 4) sc_law_shows.nd rfl (.inl rfl) (ce_methH0 D.c.ins.cl D.hist hr (by decide) (ce_nm 0 ⟨g, dx, _, rfl, hi, rfl, g, lu, lr, dm, h, n, lim, s, us, rs, rfl, a, fun p1 ws1 H1 hp1 x1 h1 r1 => ?_⟩)))
  have rT : Rp K M0 H1 (.ref p1) (.list (s.his.map enD)) := .lst (fun z => z) (.inl h1) r1
  refine b_cons (cs_set (i := 5) sc_law_shows.nd rfl (.inl rfl) (ce_fd (M := M0) alive0 (fd_callC cr hr (by decide) rfl (ad_cons (nm 4 rT) (ad_cons (nm 1 (rS.mono (fun _ z => z) (ExM.of x1))) (ad_cons (nm 2 (.int (n : Nat))) ad_nil))) ⟨n, start, s.his, led, hrow, hlen, rfl, rfl⟩) fun l2 ws2 H2 hl2 x2 h2 r2 => ?_))
  have ew := r2.of_ints
  subst ew
  rw [← hrw] at h2
  have np : l2 ≠ p1 := fun e => by
    rw [e, h1] at hl2
    cases hl2
  have rR : ∀ {H'}, H' l2 = some (.lst (s.row.map V.int)) → Rp K M0 H' (.ref l2) (.list (s.row.map PyData.int)) := fun h => .lst (fun z => z) (.inl h) (.ints _)
  have x12 := x1.trans x2
  have rT2 := rT.mono (fun _ z => z) (ExM.of x2)
  have rE2 := rE.mono (fun _ z => z) (ExM.of x12)
  refine b_cons (s_if (M := M0) (k := false) alive0 (TD.is (WD.td (wd_or (k1 := false) (TD.is (td_isN (nm 5 (rR h2))) rfl) fun _ => wd_or1 (td_ne hr.units (nm 4 rT2) (nm 3 rE2) (shapedE _) (shapedE _)))) (by rw [eqvE]; rfl)) (fun k => by cases k) (fun _ H3 x3 => b_nil ?_))
  have x13 := x12.trans x3
  have a3 := a.ex x13
  have h23 := x3 _ _ h2
  refine b_cons (s_if (M := M0) (k := false) alive0 (TD.is (WD.td (wd_or (k1 := false) (td_not (k := true) (td_val (pd_isi rfl nb.isinstance rfl nb.tuple PyProof.Rows.boot_tuple (pd_pres D hr (by decide) a3 (AtN.name (i := 0) rfl (.inl rfl) rfl)) (kit_tup _)))) fun _ => wd_or1 (td_ne hr.units (FD.pd (fd_callTy call_list_of rfl nb.list PyProof.Rows.boot_list (ad_cons (pd_pres D hr (by decide) a3 (AtN.name (i := 0) rfl (.inl rfl) rfl)) ad_nil) (rf_list rfl))) (nm 5 (rR h23)) (shapedR _) (shapedR _)))) (by rw [eqvR]; rfl)) (fun k => by cases k) (fun _ H4 x4 => b_nil ?_))
  have x14 := x13.trans x4
  have h14 := x4 _ _ (x3 _ _ (x2 _ _ h1))
  have h24 := x4 _ _ h23
  refine b_cons (cs_expr (ce_append (ce_nm 4 ⟨p1, ws1, rfl, h14, ce_pd (M := M0) alive0 (pd_tup (ad_cons pd_int (ad_cons pd_int (ad_cons pd_int (ad_cons pd_int ad_nil)))) (by show 4 ≤ 100000; decide)) fun v5 H5 x5 r5 => ⟨ws1, x5 _ _ h14, by rw [r1.length, List.length_map]; omega, ?_⟩⟩)))
  have up : ∀ {Ha : Hp} {o : HO}, Evl.Ex H Ha → Evl.Ex H (upd Ha p1 o) := fun x b ob hb => by
    rw [upd_ne (ne_of_none hb hp1)]
    exact x _ _ hb
  have x6 := up (o := .lst (ws1 ++ [v5])) (x14.trans x5)
  have h26 : upd H5 p1 (.lst (ws1 ++ [v5])) l2 = some (.lst (s.row.map V.int)) := by
    rw [upd_ne np]
    exact x5 _ _ h24
  refine b_cons (cs_expr (ce_reverse (ce_nm 4 ⟨rfl, upd_same, ?_⟩)))
  have x7 := up (o := .lst (ws1 ++ [v5]).reverse) x6
  have h27 : upd (upd H5 p1 (.lst (ws1 ++ [v5]))) p1 (.lst (ws1 ++ [v5]).reverse) l2 = some (.lst (s.row.map V.int)) := by
    rw [upd_ne np]
    exact h26
  generalize upd (upd H5 p1 (.lst (ws1 ++ [v5]))) p1 (.lst (ws1 ++ [v5]).reverse) = H7 at x7 h27 ⊢
  have a7 := a.ex x7
  obtain ⟨dx7, st7, hi7, _⟩ := a7.ins
  refine b_cons (cs_set (i := 4) sc_law_shows.nd rfl (.inl rfl) (ce_methH0 D.c.ins.cl D.hist hr (by decide) (ce_nm 0 ⟨g, dx7, _, rfl, hi7, rfl, g, lu, lr, dm, h, n, lim, s, us, rs, rfl, a7, fun p8 ws8 H8 hp8 x8 h8 r8 => ?_⟩)))
  have x08 := x7.trans x8
  have rT8 : Rp K M0 H8 (.ref p8) (.list (s.his.map enD)) := .lst (fun z => z) (.inl h8) r8
  have rE8 := rE.mono (fun _ z => z) (ExM.of x08)
  refine b_cons (s_ret (M := M0) (d := .bool true) alive0 (PD.is (pd_and (pd_eq hr.units (nm 4 rT8) (nm 3 rE8) (shapedE _) (shapedE _)) fun _ => pd_one (pd_eq hr.units (FD.pd (fd_callTy call_list_of rfl nb.list PyProof.Rows.boot_list (ad_cons (pd_pres D hr (by decide) (a.ex x08) (AtN.name (i := 0) rfl (.inl rfl) rfl)) ad_nil) (rf_list rfl))) (nm 5 (rR (x8 _ _ h27))) (shapedR _) (shapedR _))) (by rw [eqvE, eqvR]; rfl)) fun v9 H9 x9 r9 => ?_)
  cases r9
  exact q H9 (x08.trans x9)
end
end TK

namespace TK
open PySem PySem.Spec PyProof.Rows L2 GV
/-! ### the world that the law holds -/
def Off (K : PySem.W.Frag) (a0 : Addr) (ns : List Int) (x : Addr) : Prop := (∀ H', SqL K H' a0 (ns.map V.int)) ∨ a0 ≠ x
theorem ScAt.off {K : PySem.W.Frag} {H H' : Hp} {a0 : Addr} {ns : List Int} {S : Addr → Prop} (h : ScAt K M0 H a0 ns) (e : ExM S H H') (o : ∀ x, S x → Off K a0 ns x) : ScAt K M0 H' a0 ns := by
  rcases h with ⟨_, h⟩ | h
  · by_cases s : S a0
    · rcases o _ s with z | z
      · exact .inr z
      · exact absurd rfl z
    · exact .inl ⟨fun z => z, Rd.exM h s e⟩
  · exact .inr h
theorem ScAt.fresh {K : PySem.W.Frag} {H : Hp} {a0 p : Addr} {ns : List Int} (h : ScAt K M0 H a0 ns) (hp : H p = none) : Off K a0 ns p := by
  rcases h with ⟨_, h⟩ | h
  · exact .inr fun e => Rd.there h (by rw [e]; exact hp)
  · exact .inl h

def stA (start : List Int) (his : List En) (i : Nat) : Sta := ⟨his.take i, rowF start (his.take i)⟩
theorem stA_self (start : List Int) (his : List En) : stA start his his.length = ⟨his, rowF start his⟩ := by
  unfold stA
  rw [List.take_length]
theorem stA_snoc {start : List Int} {his : List En} {e : En} {i : Nat} (h : i ≤ his.length) : stA start (his ++ [e]) i = stA start his i := by
  unfold stA
  rw [List.take_append_of_le_length h]
def usA (start : List Int) (his : List En) (k : Nat) : List Sta := (List.range k).map (stA start his)
theorem usA_succ (start : List Int) (his : List En) (k : Nat) : usA start his (k + 1) = usA start his k ++ [stA start his k] := by
  unfold usA
  rw [List.range_succ, List.map_append]
  rfl
theorem usA_snoc {start : List Int} {his : List En} {e : En} : usA start (his ++ [e]) (his ++ [e]).length = usA start his his.length ++ [⟨his, rowF start his⟩] := by
  rw [List.length_append, List.length_singleton, usA_succ, stA_snoc (Nat.le_refl _), stA_self]
  congr 1
  unfold usA
  exact List.map_congr_left fun i hi => stA_snoc (by have := List.mem_range.mp hi; omega)
theorem usA_len (start : List Int) (his : List En) (k : Nat) : (usA start his k).length = k := by simp [usA]
/-- what redo may bring back after j undos -/
def rsA (start : List Int) (his : List En) (j : Nat) : List Sta := (List.range j).map fun i => stA start his (his.length - i)
theorem rsA_succ (start : List Int) (his : List En) (j : Nat) : rsA start his (j + 1) = rsA start his j ++ [stA start his (his.length - j)] := by
  unfold rsA
  rw [List.range_succ, List.map_append]
  rfl
theorem rsA_len (start : List Int) (his : List En) (k : Nat) : (rsA start his k).length = k := by simp [rsA]
/-- the addresses -/
structure Ad where
  (a0 mb st en g lu lr dm h : Addr)
structure Dis (K : PySem.W.Frag) (A : Ad) (ns : List Int) : Prop where
  ms : A.mb ≠ A.st
  me : A.mb ≠ A.en
  mu : A.mb ≠ A.lu
  mr : A.mb ≠ A.lr
  mg : A.mb ≠ A.g
  mh : A.mb ≠ A.h
  se : A.st ≠ A.en
  su : A.st ≠ A.lu
  sr : A.st ≠ A.lr
  sg : A.st ≠ A.g
  eu : A.en ≠ A.lu
  er : A.en ≠ A.lr
  eg : A.en ≠ A.g
  eh : A.en ≠ A.h
  om : Off K A.a0 ns A.mb
  oe : Off K A.a0 ns A.en
  ou : Off K A.a0 ns A.lu
  or : Off K A.a0 ns A.lr
  og : Off K A.a0 ns A.g
structure WS (K : PySem.W.Frag) (CD CH : Addr) (T : List (Addr × Str)) (H : Hp) (A : Ad) (ns start : List Int) (n : Nat) (his : List En) (s : Sta) (us rs : List Sta) : Prop where
  sc : ScAt K M0 H A.a0 ns
  mo : ∃ r c k, H A.mb = some (potL r c k)
  stt : H A.st = some (.lst (start.map V.int))
  dk : DeskAt K CD CH H A.g A.lu A.lr A.dm A.h n 100 s us rs
  ent : ∃ ws, H A.en = some (.lst ws) ∧ RpAll K M0 H ws (his.map enD)
  tb : LamX.Tabs T H
theorem ex_ofB {b : Addr} {H H1 H2 : Hp} (x : Evl.Ex H H1) (hb : H b = none) (e : ExB b H1 H2) : Evl.Ex H H2 := fun a o ha => e a o (fun z => by
  rw [z, hb] at ha
  cases ha) (x a o ha)
section
variable {K : PySem.W.Frag} {CD CH : Addr} {T : List (Addr × Str)} {H H' : Hp} {A : Ad} {ns start : List Int} {n : Nat} {his : List En} {s t : Sta} {us rs us' rs' : List Sta}
theorem noT_lst {S : Addr → Prop} (h : ∀ a, S a → ∃ xs, H a = some (.lst xs)) : NoT S H := fun a ha xs => by
  obtain ⟨ys, hy⟩ := h a ha
  rw [hy]
  exact ⟨fun z => (by cases z), fun o z => (by cases z)⟩
theorem WS.m0 (w : WS K CD CH T H A ns start n his s us rs) (e : ExM M0 H H') (t : LamX.Tabs T H') : WS K CD CH T H' A ns start n his s us rs := by
  obtain ⟨r, c, k, hm⟩ := w.mo
  obtain ⟨ws, he, rw_⟩ := w.ent
  exact ⟨w.sc.mono (fun _ z => z) e, ⟨r, c, k, ExM.lst' e hm fun z => z⟩, ExM.lst' e w.stt fun z => z, w.dk.ex0 e, ⟨ws, ExM.lst' e he (fun z => z), rw_.mono (fun _ z => z) e⟩, t⟩
theorem WS.ex (w : WS K CD CH T H A ns start n his s us rs) (x : Evl.Ex H H') : WS K CD CH T H' A ns start n his s us rs := w.m0 (.of x) (w.tb.ext x)
theorem WS.draw (w : WS K CD CH T H A ns start n his s us rs) (D : Dis K A ns) (e : ExB A.mb H H') {r c k : Int} (hm : H' A.mb = some (potL r c k)) : WS K CD CH T H' A ns start n his s us rs := by
  obtain ⟨r0, c0, k0, hm0⟩ := w.mo
  obtain ⟨ws, he, rw_⟩ := w.ent
  have L : NoT (Ma A.mb) H := noT_lst fun a ha => ⟨_, ha ▸ hm0⟩
  refine ⟨ScAt.off w.sc e.exM fun x z => z ▸ D.om, ⟨r, c, k, hm⟩, e _ _ D.ms.symm w.stt, w.dk.exM e.exM L (fun z => D.mg z.symm) (fun z => D.mu z.symm) (fun z => D.mr z.symm) (fun z => D.mh z.symm), ⟨ws, e _ _ D.me.symm he, flatNs rw_ (flats_of flat_en his) L e.exM⟩, ?_⟩
  exact tabs_exS w.tb (fun a o n h => e a o n h) fun a ha => .inl ⟨_, ha ▸ hm0⟩
theorem WS.desk (w : WS K CD CH T H A ns start n his s us rs) (D : Dis K A ns) (e : ExM (Th A.g A.lu A.lr) H H') (t' : LamX.Tabs T H') (d : DeskAt K CD CH H' A.g A.lu A.lr A.dm A.h n 100 t us' rs') : WS K CD CH T H' A ns start n his t us' rs' := by
  obtain ⟨r, c, k, hm⟩ := w.mo
  obtain ⟨ws, he, rw_⟩ := w.ent
  refine ⟨ScAt.off w.sc e fun x z => ?_, ⟨r, c, k, ExM.lst' e hm fun z => ?_⟩, ExM.lst' e w.stt fun z => ?_, d, ⟨ws, ExM.lst' e he (fun z => ?_), flatNs rw_ (flats_of flat_en his) w.dk.noT e⟩, t'⟩
  · rcases z with rfl | rfl | rfl
    · exact D.og
    · exact D.ou
    · exact D.or
  · rcases z with z | z | z
    · exact D.mg z
    · exact D.mu z
    · exact D.mr z
  · rcases z with z | z | z
    · exact D.sg z
    · exact D.su z
    · exact D.sr z
  · rcases z with z | z | z
    · exact D.eg z
    · exact D.eu z
    · exact D.er z
theorem WS.put (w : WS K CD CH T H A ns start n his s us rs) (D : Dis K A ns) {ws : List V} {v : V} {e : En} (he : H A.en = some (.lst ws)) (rw_ : RpAll K M0 H ws (his.map enD)) (rv : Rp K M0 H v (enD e)) : WS K CD CH T (upd H A.en (.lst (ws ++ [v]))) A ns start n (his ++ [e]) s us rs := by
  obtain ⟨r, c, k, hm⟩ := w.mo
  have x : ExS (Ma A.en) H (upd H A.en (.lst (ws ++ [v]))) := ExS.upd rfl
  have L : NoT (Ma A.en) H := noT_lst fun a ha => ⟨_, ha ▸ he⟩
  refine ⟨ScAt.off w.sc x.exM fun y z => z ▸ D.oe, ⟨r, c, k, x _ _ (fun z => D.me z) hm⟩, x _ _ (fun z => D.se z) w.stt, w.dk.exM x.exM L (fun z => D.eg z.symm) (fun z => D.eu z.symm) (fun z => D.er z.symm) (fun z => D.eh z.symm), ⟨_, upd_same, ?_⟩, tabs_exS w.tb x fun a ha => .inl ⟨_, ha ▸ he⟩⟩
  rw [List.map_append]
  exact flatNs (rw_.append (.cons rv .nil)) (by have z := flats_of flat_en (his ++ [e]); rwa [List.map_append] at z) L x.exM
end
/-! ### rules -/
section
variable {X : Cx} {σ : St} {H : Hp} {e e1 e2 e3 e4 : Expr} {es : List Expr} {pos : Pos}
/-- C(e, ..) where defaults fill up -/
theorem ce_makeD {C f : Addr} {fd : FuncData} {ps : List Str} {x : Str} {k j : Nat} {CX : CXT} {sp : Sp} {E : XK} {Q : VK} {p : Pos} {ds : List Value} {dvs : List V} (Mk_ : Mk X.K C f) (F : FnOk X.prog X.w X.K X.mg X.base CX k f fd ps sp) (hr : Room j X.A) (hkj : k + 1 ≤ j) (hg : Gl X x) (hm : X.mg x = some (.ref C)) (hb : Binds X.K fd ps ds) (hd : Vals dvs ds) (hx : Passes CX X E)
    (h : wA X (e :: es) σ H fun vs H2 => ∀ a dx, H2 a = none → H2 dx = none → dx ≠ a → sp (.ref a :: (vs ++ dvs)) (upd (upd H2 dx (.own a)) a (.ins C dx [])) (fun v H3 => v = .non ∧ Q (.ref a) H3) E)
    (hdb : (x == ("__debug__" : Str)) = false := by decide) (he : starEach (e :: es) X.env = (false, eval e X.env) :: starEach es X.env := by rfl) (hpl : (backTo pos (starEach es X.env)).any (·.1) = false := by rfl) : wE X (.Call (.Name x p) (e :: es) [] pos) σ H Q :=
  ⟨_, pe_make Mk_ F (hr.mono hkj) hg hm hb hd hx wA.pa hdb he hpl, h⟩
theorem pd_shows {CD CH g lu lr dm h : Addr} {n : Nat} {lim : Int} {s : Sta} {us rs : List Sta} {start : List Int} {j : Nat} {p : Pos} (cl : Cl X.prog X.w X.K X.mg X.base CX0 4 "_law_shows" (spShows X.K CD CH)) (hr : Room j X.A) (hj : 4 ≤ j) (hg : Gl X "_law_shows") (a : DeskAt X.K CD CH H g lu lr dm h n lim s us rs) (h1 : AtN X σ e1 g) (h2 : PD X M0 e2 σ H (intsD start)) (h3 : PD X M0 e3 σ H (.int (n : Nat))) (h4 : PD X M0 e4 σ H (.list (s.his.map enD)))
    (led : Led n start s.his) (hs : s.row = rowF start s.his) (hrow : RowL start) (hl : s.his.length ≤ 1000)
    (b1 : starEach (e1 :: [e2, e3, e4]) X.env = (false, eval e1 X.env) :: starEach [e2, e3, e4] X.env := by rfl) (b2 : starEach (e2 :: [e3, e4]) X.env = (false, eval e2 X.env) :: starEach [e3, e4] X.env := by rfl) (b3 : starEach (e3 :: [e4]) X.env = (false, eval e3 X.env) :: starEach [e4] X.env := by rfl) (b4 : starEach (e4 :: []) X.env = (false, eval e4 X.env) :: starEach [] X.env := by rfl) (hpl : (backTo pos (starEach [e2, e3, e4] X.env)).any (·.1) = false := by rfl) :
    PD X M0 (.Call (.Name "_law_shows" p) [e1, e2, e3, e4] [] pos) σ H (.bool true) := .mk fun H1 x1 al Q q =>
  ce_call cl hr hj hg (ca_cons (h1 _ _ (ca_cons (h2.run H1 x1 alive0 _ fun v2 H2 x2 r2 => ca_cons (h3.run H2 (x1.trans (.of x2)) alive0 _ fun v3 H3 x3 r3 => ca_cons (h4.run H3 ((x1.trans (.of x2)).trans (.of x3)) alive0 _ fun v4 H4 x4 r4 => ca_nil (by
    cases r3
    exact ⟨g, lu, lr, dm, h, n, lim, s, us, rs, v2, v4, start, rfl, a.ex0 (x1.trans (.of (x2.trans (x3.trans x4)))), r2.mono (fun _ z => z) (ExM.of (x3.trans x4)), r4, led, hs, hrow, hl, fun H5 x5 => q _ H5 (x2.trans (x3.trans (x4.trans x5))) (.bl true)⟩)) b4) b3) b2)) b1) (by decide) b1 hpl
end
end TK

namespace TK
open PySem PySem.Spec PyProof.Rows L2 GV
structure LawC (P : Program) (w : World) (K : PySem.W.Frag) (mg : Str → Option Value) (base : Heap) (CD CH : Addr) (T : List (Addr × Str)) : Prop where
  nb : NoB mg
  D : DesM P w K mg base CD CH
  undo : MethS P w K mg base CX0 CD "undo" 1 ["self"] (spUndo K CD CH)
  redo : MethS P w K mg base CX0 CD "redo" 1 ["self"] (spRedo K CD CH)
  cell : Cl P w K mg base CX0 1 "_law_cell" (spCell K)
  bag : Cl P w K mg base CX0 1 "_law_bag" spBag
  take : Cl P w K mg base CX0 1 "_law_take" spTake
  row : Cl P w K mg base CX0 3 "_law_row" spRowN
  num : Cl P w K mg base CX0 2 "_law_number" spNumber
  text : Cl P w K mg base CX0 1 "_law_text" (PureR K R_ltext)
  near : Cl P w K mg base CX0 2 "_law_nearest" (PureR K R_lnear)
  tried : Cl P w K mg base CX0 11 "_law_tried" (spTried K CD CH T)
  swap : Cl P w K mg base CX0 1 "_law_swap" (FreshR K R_lswap)
  shows : Cl P w K mg base CX0 4 "_law_shows" (spShows K CD CH)
  pick : Cl P w K mg base CX0 3 "_law_pick" (spPick K)
  mkH : ∃ f fd, Mk K CH f ∧ FnOk P w K mg base CX0 2 f fd ["self", "text"] (spHInit CH) ∧ Binds K fd ["self", "text"] []
  gH : mg "House" = some (.ref CH)
  mkD : ∃ f fd ds, Mk K CD f ∧ FnOk P w K mg base CX0 7 f fd ["self", "row", "house", "limit"] (spDInit K CD CH) ∧ Vals [V.int 100] ds ∧ Binds K fd ["self", "row", "house", "limit"] ds
  gD : mg "Desk" = some (.ref CD)
def spLaw (K : PySem.W.Frag) (T : List (Addr × Str)) : Sp := fun vs H Q _ => ∃ (a : Addr) (ns : List Int), vs = [.ref a] ∧ SqL K H a (ns.map V.int) ∧ ns.length ≤ 63 ∧ LamX.Tabs T H ∧ ∀ H', Q (.bl true) H'
section
variable {P : Program} {w : World} {K : PySem.W.Frag} {mg : Str → Option Value} {base : Heap} {CD CH : Addr} {T : List (Addr × Str)}
abbrev lst18 (a0 b : Addr) (n cN : Nat) (st mb : Addr) (rN : Nat) (gv g en rw : Addr) (x11 x12 x13 x14 x15 x16 x17 : Option V) : L2.St := [some (.ref a0), some (.ref b), some (.int (n : Nat)), some (.int (cN : Nat)), some (.ref st), some (.ref mb), some (.int (rN : Nat)), some (.ref gv), some (.ref g), some (.ref en), some (.ref rw), x11, x12, x13, x14, x15, x16, x17]
/-- behind the loop -/
theorem law_end {f : Addr} {cdv : Value} {A0 : Around} {outer : List Env} {sh : Shared} {H0 H : Hp} {Q : VK} {E : XK} (C : LawC P w K mg base CD CH T) (hr : Room 11 (A0.deeper (PyProof.Rows.envOfC "law" (defScope s_law) sh.heap.objs.size f cdv))) {A : Ad} {ns start : List Int} {n : Nat} {his : List En} (D : Dis K A ns) (hrow : RowL start) (led : Led n start his) (hl : his.length ≤ 61)
    (w5 : WS K CD CH T H A ns start n his ⟨his, rowF start his⟩ (usA start his his.length) []) (q : ∀ H', Q (.bl true) H') {b gv rw : Addr} {cN rN : Nat} {x11 x12 x13 x14 x15 x16 x17 : Option V} :
    wB (cxOf CX0 P w K mg base n_law "law" (defScope s_law) f cdv A0 outer sh H0 E).nox ((defBody s_law).drop 15) { nx := fun _ H' => Q .non H', rt := Q } (lst18 A.a0 b n cN A.st A.mb rN gv A.g A.en rw x11 x12 x13 x14 x15 x16 x17) H := by
  have nb := C.nb
  have rS : ∀ {H1 : Hp}, H1 A.st = some (.lst (start.map V.int)) → Rp K M0 H1 (.ref A.st) (intsD start) := fun h => .lst (fun z => z) (.inl h) (.ints start)
  have rE : ∀ {H1 : Hp} {s : Sta} {us rs : List Sta}, WS K CD CH T H1 A ns start n his s us rs → Rp K M0 H1 (.ref A.en) (.list (his.map enD)) := fun w => by
    obtain ⟨ws, he, r⟩ := w.ent
    exact .lst (fun z => z) (.inl he) r
  obtain ⟨r, c, k, hm⟩ := w5.mo
  obtain ⟨ws, he, rws⟩ := w5.ent
  have L : NoT (Ma A.mb) H := noT_lst fun a ha => ⟨_, ha ▸ hm⟩
  have rE' : Rp K (Ma A.mb) H (.ref A.en) (.list (his.map enD)) := .lst (fun z => D.me z.symm) (.inl he) (offNs rws (flats_of flat_en his) L)
  refine b_cons (cs_set (i := 17) sc_law.nd rfl (.inl rfl) (ce_take C.take hr (by decide) rfl (fun H1 Q hq => ce_nm 5 hq) (pd_add (pd_len nb rfl (nm 9 rE') (n := his.length) (by simp [lenD])) pd_int) hm (by omega) (n8000 (by omega) (by omega)) fun m r1 k1 H1 m0 m1 e1 hm1 => ?_))
  obtain ⟨mm, rfl⟩ : ∃ mm : Nat, m = (mm : Nat) := ⟨m.toNat, by omega⟩
  have hmm : mm ≤ his.length := by omega
  have w1 := w5.draw D e1 hm1
  refine b_cons (s_forRW (slot := 11) PassesOwn.never rfl sc_law.nd rfl (.inl rfl) rfl nb.range (ce_nm 17 ⟨mm, fun j σ' H' => ∃ xk : Option V, σ' = lst18 A.a0 b n cN A.st A.mb rN gv A.g A.en rw xk x12 x13 x14 x15 x16 (some (.int (mm : Nat))) ∧ WS K CD CH T H' A ns start n his (stA start his (his.length - j)) (usA start his (his.length - j)) (rsA start his j), rfl, by omega, ⟨x11, rfl, by rw [Nat.sub_zero, stA_self]; exact w1⟩, ?_, ?_⟩))
  · rintro j σ' H' hj ⟨xk, rfl, w2⟩
    obtain ⟨dx, sv, hi, _⟩ := w2.dk.ins
    have ej : his.length - j = (his.length - (j + 1)) + 1 := by omega
    have dk : DeskAt K CD CH H' A.g A.lu A.lr A.dm A.h n 100 (stA start his (his.length - j)) (usA start his (his.length - (j + 1)) ++ [stA start his (his.length - (j + 1))]) (rsA start his j) := by
      have := w2.dk
      rw [← usA_succ, ← ej]
      exact this
    refine b_cons (cs_expr (ce_methH0 C.D.c.ins.cl C.undo hr (by decide) (ce_nm 8 ⟨A.g, dx, _, rfl, hi, rfl, A.g, A.lu, A.lr, A.dm, A.h, n, 100, stA start his (his.length - j), stA start his (his.length - (j + 1)), usA start his (his.length - (j + 1)), rsA start his j, rfl, dk, by rw [rsA_len]; omega, fun H2 e2 d2 => b_nil ⟨_, rfl, ?_⟩⟩)))
    have := w2.desk D e2.exM (tabs_exS w2.tb e2 w2.dk.loI) d2
    rwa [← rsA_succ] at this
  · rintro σ' H' ⟨xk, rfl, w2⟩
    refine b_cons (s_if (M := M0) (k := false) alive0 (td_not (k := true) (td_val (pd_shows C.shows hr (by decide) rfl w2.dk (AtN.name (i := 8) rfl (.inl rfl) rfl) (nm 4 (rS w2.stt)) (nm 2 (.int (n : Nat))) (PD.is (FD.pd (fd_slice (nm 9 (rE w2)) od_none (od_some (pd_sub (pd_len nb rfl (nm 9 (rE w2)) (n := his.length) (by simp [lenD])) (nm 17 (.int (mm : Nat))))))) (congrArg PyData.list ?_)) (led.take _) rfl hrow (by show (his.take _).length ≤ 1000; rw [List.length_take]; omega)))) (fun k => by cases k) (fun _ H3 x3 => b_nil ?_))
    · rw [show (his.length : Int) - (mm : Int) = ((his.length - mm : Nat) : Int) by omega, cutD_take, ← List.map_take]
      rfl
    have w3 := w2.ex x3
    refine b_cons (s_forRW (slot := 11) PassesOwn.never rfl sc_law.nd rfl (.inl rfl) rfl nb.range (ce_nm 17 ⟨mm, fun j σ' H' => ∃ xk : Option V, σ' = lst18 A.a0 b n cN A.st A.mb rN gv A.g A.en rw xk x12 x13 x14 x15 x16 (some (.int (mm : Nat))) ∧ WS K CD CH T H' A ns start n his (stA start his (his.length - mm + j)) (usA start his (his.length - mm + j)) (rsA start his (mm - j)), rfl, by omega, ⟨_, rfl, w3⟩, ?_, ?_⟩))
    · rintro j σ' H' hj ⟨xk, rfl, w4⟩
      obtain ⟨dx, sv, hi, _⟩ := w4.dk.ins
      have ej : mm - j = (mm - (j + 1)) + 1 := by omega
      have el : his.length - (mm - (j + 1)) = his.length - mm + (j + 1) := by omega
      have dk : DeskAt K CD CH H' A.g A.lu A.lr A.dm A.h n 100 (stA start his (his.length - mm + j)) (usA start his (his.length - mm + j)) (rsA start his (mm - (j + 1)) ++ [stA start his (his.length - mm + (j + 1))]) := by
        have := w4.dk
        rw [← el, ← rsA_succ, ← ej]
        exact this
      refine b_cons (cs_expr (ce_methH0 C.D.c.ins.cl C.redo hr (by decide) (ce_nm 8 ⟨A.g, dx, _, rfl, hi, rfl, A.g, A.lu, A.lr, A.dm, A.h, n, 100, stA start his (his.length - mm + j), stA start his (his.length - mm + (j + 1)), usA start his (his.length - mm + j), rsA start his (mm - (j + 1)), rfl, dk, by rw [usA_len]; omega, fun H2 e2 d2 => b_nil ⟨_, rfl, ?_⟩⟩)))
      have := w4.desk D e2.exM (tabs_exS w4.tb e2 w4.dk.loI) d2
      rwa [← usA_succ] at this
    · rintro σ' H' ⟨xk, rfl, w4⟩
      have es : his.length - mm + mm = his.length := by omega
      rw [es, stA_self] at w4
      refine b_cons (s_ret (M := M0) (d := .bool true) alive0 (pd_shows C.shows hr (by decide) rfl w4.dk (AtN.name (i := 8) rfl (.inl rfl) rfl) (nm 4 (rS w4.stt)) (nm 2 (.int (n : Nat))) (nm 9 (rE w4)) led rfl hrow (by show his.length ≤ 1000; omega)) fun v5 H5 x5 r5 => ?_)
      cases r5
      exact q H5
end
end TK

namespace TK
open PySem PySem.Spec PyProof.Rows L2 GV
abbrev turnB : List Stmt := match (defBody s_law)[13]? with
  | some (Stmt.For _ _ b _ _) => b
  | _ => []
theorem shapedB (p : Nat) : SeqAt.shaped (barD p) = true := by
  refine shaped_of ?_ ?_
  · simp [barD, PyData.canLay0, PyData.canLayAll0]
    decide +kernel
  · simp [barD, PyData.depth, PyData.depthAll]
theorem eqvB (p : Nat) : PyData.eqv (barD p) (barD p) = true := SeqAt.eqv_refl _ (SeqAt.canLay_of_shaped (shapedB p))
section
variable {P : Program} {w : World} {K : PySem.W.Frag} {mg : Str → Option Value} {base : Heap} {CD CH : Addr} {T : List (Addr × Str)}
/-- the row's own list -/
structure RowAt (H : Hp) (A : Ad) (rw : Addr) (row : List Int) : Prop where
  h : H rw = some (.lst (row.map V.int))
  u : rw ≠ A.lu
  r : rw ≠ A.lr
  g : rw ≠ A.g
  e : rw ≠ A.en
  m : rw ≠ A.mb
theorem law_turn {f : Addr} {cdv : Value} {A0 : Around} {outer : List Env} {sh : Shared} {H0 H : Hp} {E : XK} (C : LawC P w K mg base CD CH T) (hr : Room 11 (A0.deeper (PyProof.Rows.envOfC "law" (defScope s_law) sh.heap.objs.size f cdv))) {A : Ad} {ns start : List Int} {n i : Nat} {his : List En} (D : Dis K A ns) (hrow : RowL start) (h3 : 3 ≤ start.length) (led : Led n start his) (hl : his.length ≤ i) (hi : i < 61)
    (w5 : WS K CD CH T H A ns start n his ⟨his, rowF start his⟩ (usA start his his.length) []) {b gv rw : Addr} {cN rN : Nat} {x12 x13 x14 x15 x16 x17 : Option V} (ra : RowAt H A rw (rowF start his)) (De : Ends)
    (nxt : ∀ (his' : List En) (rw' : Addr) (y12 y13 y14 y15 y16 : Option V) H', Led n start his' → his'.length ≤ i + 1 → WS K CD CH T H' A ns start n his' ⟨his', rowF start his'⟩ (usA start his' his'.length) [] → RowAt H' A rw' (rowF start his') → De.nx (lst18 A.a0 b n cN A.st A.mb rN gv A.g A.en rw' (some (.int (i : Nat))) y12 y13 y14 y15 y16 x17) H') :
    wB (cxOf CX0 P w K mg base n_law "law" (defScope s_law) f cdv A0 outer sh H0 E).nox turnB De (lst18 A.a0 b n cN A.st A.mb rN gv A.g A.en rw (some (.int (i : Nat))) x12 x13 x14 x15 x16 x17) H := by
  have nb := C.nb
  have rS : ∀ {H1 : Hp}, H1 A.st = some (.lst (start.map V.int)) → Rp K M0 H1 (.ref A.st) (intsD start) := fun h => .lst (fun z => z) (.inl h) (.ints start)
  -- the look
  have tail : ∀ (his' : List En) (rw' : Addr) (lk : Int) (y12 y14 y15 y16 : Option V) H', Led n start his' → his'.length ≤ i + 1 → WS K CD CH T H' A ns start n his' ⟨his', rowF start his'⟩ (usA start his' his'.length) [] → RowAt H' A rw' (rowF start his') → wB (cxOf CX0 P w K mg base n_law "law" (defScope s_law) f cdv A0 outer sh H0 E).nox (turnB.drop 8) De (lst18 A.a0 b n cN A.st A.mb rN gv A.g A.en rw' (some (.int (i : Nat))) y12 (some (.int lk)) y14 y15 y16 x17) H' := by
    intro his' rw' lk y12 y14 y15 y16 H' led' hl' w' ra'
    have rE : Rp K M0 H' (.ref A.en) (.list (his'.map enD)) := by
      obtain ⟨ws, he, r⟩ := w'.ent
      exact .lst (fun z => z) (.inl he) r
    refine b_cons (s_if (M := M0) (k := decide (lk = 0) && false) alive0 (WD.td (wd_and (TD.is (td_eq hr.units (nm 13 (.int lk)) pd_int rfl rfl) (eqv_int _ _)) fun _ => wd_and1 (td_not (k := true) (td_val (pd_shows C.shows hr (by decide) rfl w'.dk (AtN.name (i := 8) rfl (.inl rfl) rfl) (nm 4 (rS w'.stt)) (nm 2 (.int (n : Nat))) (nm 9 rE) led' rfl hrow (by show his'.length ≤ 1000; omega)))))) (fun k => ?_) (fun _ H3 x3 => b_nil (b_nil (nxt his' rw' _ _ _ _ _ H3 led' hl' (w'.ex x3) ⟨x3 _ _ ra'.h, ra'.u, ra'.r, ra'.g, ra'.e, ra'.m⟩))))
    rw [Bool.and_false] at k
    cases k
  have i2 : (2 : Int) + (i : Int) = ((2 + i : Nat) : Int) := by omega
  generalize hrr : rowF start his = row at *
  have hlR : row.length = start.length := by rw [← hrr]; exact rowF_len _ _
  have hRL : RowL row := by rw [← hrr]; exact led.row hrow
  -- turn
  refine b_cons (cs_set (i := 12) sc_law.nd rfl (.inl rfl) (ce_call C.bag hr (by decide) rfl (ca_cons (ce_call C.cell hr (by decide) rfl (ca_cons (ce_nm 0 (ca_cons (ce_pd (M := M0) alive0 (PD.is (pd_add pd_int (nm 11 (.int (i : Nat)))) (congrArg PyData.int i2)) fun v1 H1 x1 r1 => ca_nil ⟨M0, A.a0, ns, 2 + i, by cases r1; rfl, alive0, (w5.ex x1).sc, fun z H2 x2 => ca_cons (ce_pd (M := M0) alive0 (PD.is (pd_add pd_int (nm 11 (.int (i : Nat)))) (congrArg PyData.int i2)) fun v3 H3 x3 r3 => ca_nil ⟨z, 2 + i, by cases r3; rfl, fun tb r c k H4 htb x4 h4 => ?_⟩)⟩))))))))
  have x03 := x1.trans (x2.trans x3)
  have htb0 := Evl.fresh_back x03 htb
  have x04 := x03.trans x4
  refine b_cons (cs_set (i := 13) sc_law.nd rfl (.inl rfl) (ce_take C.take hr (by decide) rfl (fun H1 Q hq => ce_nm 12 hq) pd_int h4 (by decide) (by decide +kernel) fun lk r5 k5 H5 l0 l1 e5 h5 => ?_))
  have x05 := ex_ofB x04 htb0 e5
  have ntr : tb ≠ rw := fun e => by
    rw [e, ra.h] at htb0
    cases htb0
  refine b_cons (cs_set (i := 14) sc_law.nd rfl (.inl rfl) (ce_call C.pick hr (by decide) rfl (ca_cons (ce_nm 10 (ca_cons (ce_nm 2 (ca_cons (ce_nm 12 (ca_nil ⟨tb, rw, row, n, r5, c, k5, rfl, h5, ntr, x05 _ _ ra.h, hRL, by omega, fun p r6 k6 H6 hp e6 h6 => ?_⟩)))))))))
  have x06 := ex_ofB x05 htb0 e6
  have rR : ∀ {H1 : Hp}, H1 rw = some (.lst (row.map V.int)) → Rp K M0 H1 (.ref rw) (intsD row) := fun h => .lst (fun z => z) (.inl h) (.ints row)
  refine b_cons (s_set (M := M0) (i := 15) (d := optD (nearL n row p)) alive0 sc_law.nd rfl (.inl rfl) (pd_callC C.near hr (by decide) rfl (ad_cons (nm 10 (rR (x06 _ _ ra.h))) (ad_cons (nm 14 (.int (p : Nat))) (ad_cons (nm 2 (.int (n : Nat))) ad_nil))) ⟨n, row, p, hp, hRL, rfl, rfl⟩) fun hv H7 x7 r7 => ?_)
  refine b_cons (s_set (M := M0) (i := 16) (d := .tuple []) alive0 sc_law.nd rfl (.inl rfl) (pd_tup ad_nil (by decide)) fun dv H8 x8 r8 => ?_)
  have x08 := x06.trans (x7.trans x8)
  have w8 := w5.ex x08
  have i1 : ((p : Nat) : Int) + 1 = ((p + 1 : Nat) : Int) := by omega
  have hlim : ((⟨his, row⟩ : Sta).his.length : Int) < 100 := by show (his.length : Int) < 100; omega
  have hl5 : (⟨his, row⟩ : Sta).his.length < 5000 := by show his.length < 5000; omega
  cases hn : nearL n row p with
  | none =>
    rw [hn] at r7
    cases r7
    have hent : entO n row p = none := by
      unfold entO
      rw [hn]
      rfl
    refine b_cons (s_if (M := M0) (k := true) alive0 (td_isN (nm 15 .non)) (fun _ H9 x9 => ?_) (fun k => by cases k))
    refine b_cons (s_set (M := M0) (i := 16) (d := barD p) alive0 sc_law.nd rfl (.inl rfl) (pd_tup (ad_cons pd_str (ad_cons (nm 14 (.int (p : Nat))) (ad_cons pd_int ad_nil))) (by show 3 ≤ 100000; decide)) fun bv HA xA rA => b_nil ?_)
    have w10 := w8.ex (x9.trans xA)
    refine b_cons (cs_if (ct_ne hr.units (ce_call C.tried hr (by decide) rfl (ca_cons (ce_nm 8 (ca_cons (ce_nm 14 (ca_nil ⟨A.g, A.lu, A.lr, A.dm, A.h, n, 100, ⟨his, row⟩, usA start his his.length, [], p, rfl, w10.dk, hp, hRL, w10.tb, hlim, hl5, by rw [usA_len]; omega, fun _ v HB eB TB rB => ce_nm 16 ⟨barD p, barD p, rB.dp, (rA.mono (fun _ z => z) eB).dp, shapedB p, shapedB p, ?_⟩, fun e he => absurd (show entO n row p = some e from he) (by rw [hent]; exact fun z => by cases z)⟩))))))))
    rw [eqvB]
    refine b_nil ?_
    have wB' := w10.m0 eB TB
    refine b_cons (s_if (M := M0) (k := false) alive0 (TD.is (td_notN (nm 15 .non)) rfl) (fun k => by cases k) (fun _ HC xC => b_nil ?_))
    exact tail his rw lk _ _ _ _ HC led (by omega) (by have := wB'.ex xC; rwa [hrr]) ⟨by rw [hrr]; exact xC _ _ (ExM.lst' eB (xA _ _ (x9 _ _ (x08 _ _ ra.h))) fun z => z), ra.u, ra.r, ra.g, ra.e, ra.m⟩
  | some z =>
    rw [hn] at r7
    cases r7
    obtain ⟨xa, hxa⟩ := get_i (ns := row) (i := p) (by omega)
    obtain ⟨xb, hxb⟩ := get_i (ns := row) (i := p + 1) hp
    have hent : entO n row p = some ⟨p, row.getD p 0, row.getD (p + 1) 0, z⟩ := by
      unfold entO
      rw [hn]
      rfl
    refine b_cons (s_if (M := M0) (k := false) alive0 (TD.is (td_isN (nm 15 (.int z))) rfl) (fun k => by cases k) (fun _ H9 x9 => b_nil ?_))
    have w9 := w8.ex x9
    have r9 := r8.mono (fun _ z => z) (ExM.of x9)
    refine b_cons (cs_if (ct_ne hr.units (ce_call C.tried hr (by decide) rfl (ca_cons (ce_nm 8 (ca_cons (ce_nm 14 (ca_nil ⟨A.g, A.lu, A.lr, A.dm, A.h, n, 100, ⟨his, row⟩, usA start his his.length, [], p, rfl, w9.dk, hp, hRL, w9.tb, hlim, hl5, by rw [usA_len]; omega, fun hx => absurd (show entO n row p = none from hx) (by rw [hent]; exact fun z => by cases z), fun e he v HB eB TB dB rB => ce_nm 16 ⟨.tuple [], .tuple [], rB.dp, (flatN r9 rfl w9.dk.noT eB).dp, rfl, rfl, ?_⟩⟩))))))))
    have he : entO n row p = some e := he
    rw [hent] at he
    cases he
    rw [if_neg (by decide)]
    refine b_nil ?_
    have wB' := w9.desk D eB TB dB
    have hrB : HB rw = some (.lst (row.map V.int)) := ExM.lst' eB (x9 _ _ (x08 _ _ ra.h)) fun z => by
      rcases z with z | z | z
      · exact ra.g z
      · exact ra.u z
      · exact ra.r z
    refine b_cons (s_if (M := M0) (k := true) alive0 (TD.is (td_notN (nm 15 (.int z))) rfl) (fun _ HC xC => ?_) (fun k => by cases k))
    have wC := wB'.ex xC
    have hrC := xC _ _ hrB
    obtain ⟨ws, heC, rwsC⟩ := wC.ent
    refine b_cons (cs_expr (ce_append (ce_nm 9 ⟨A.en, ws, rfl, heC, ce_pd (M := M0) (d := enD ⟨p, row.getD p 0, row.getD (p + 1) 0, z⟩) alive0 (PD.is (pd_tup (ad_cons (nm 14 (.int (p : Nat))) (ad_cons (pd_ix (nm 10 (rR hrC)) (nm 14 (.int (p : Nat))) (ixD_ints hxa)) (ad_cons (pd_ix (nm 10 (rR hrC)) (PD.is (pd_add (nm 14 (.int (p : Nat))) pd_int) (congrArg PyData.int i1)) (ixD_ints hxb)) (ad_cons (nm 15 (.int z)) ad_nil)))) (by show 4 ≤ 100000; decide)) (by unfold enD; rw [getD_of hxa, getD_of hxb])) fun ev HD xD rD => ⟨ws, xD _ _ heC, by rw [rwsC.length, List.length_map]; omega, ?_⟩⟩)))
    have wD := wC.ex xD
    have wE := wD.put D (xD _ _ heC) (rwsC.mono (fun _ z => z) (ExM.of xD)) rD
    have hrE : upd HD A.en (.lst (ws ++ [ev])) rw = some (.lst (row.map V.int)) := by
      rw [upd_ne ra.e]
      exact xD _ _ hrC
    generalize upd HD A.en (.lst (ws ++ [ev])) = HE at wE hrE ⊢
    refine b_cons (cs_set (i := 10) sc_law.nd rfl (.inl rfl) (ce_fd (M := M0) alive0 (fd_callC C.swap hr (by decide) rfl (ad_cons (nm 10 (rR hrE)) (ad_cons (nm 14 (.int (p : Nat))) ad_nil)) ⟨row, p, hp, by have := hRL.1; omega, rfl, rfl⟩) fun l2 ws2 HF hl2 xF hF rF => b_nil ?_))
    have ew := rF.of_ints
    subst ew
    have wF := wE.ex xF
    have erow : rowF start (his ++ [⟨p, row.getD p 0, row.getD (p + 1) 0, z⟩]) = exch row p := by
      rw [rowF_snoc, hrr]
    have led' : Led n start (his ++ [⟨p, row.getD p 0, row.getD (p + 1) 0, z⟩]) := led.snoc (by show p + 1 < _; omega) (by rw [hrr]; exact hent)
    have ne : ∀ {a : Addr} {o : HO}, HE a = some o → l2 ≠ a := fun h e => by
      rw [← e, hl2] at h
      cases h
    obtain ⟨dx, sv, hgE, _⟩ := wE.dk.ins
    obtain ⟨w1, hu1, _⟩ := wE.dk.u
    obtain ⟨w2, hu2, _⟩ := wE.dk.r
    obtain ⟨w3, hu3, _⟩ := wE.ent
    obtain ⟨q1, q2, q3, hm3⟩ := wE.mo
    refine tail _ l2 lk _ _ _ _ HF led' (by rw [List.length_append]; show his.length + 1 ≤ i + 1; omega) ?_ ⟨by rw [erow]; exact hF, ne hu1, ne hu2, ne hgE, ne hu3, ne hm3⟩
    rw [usA_snoc, erow, hrr]
    exact wF
end
end TK

namespace TK
open PySem PySem.Spec PyProof.Rows L2 GV
section
variable {P : Program} {w : World} {K : PySem.W.Frag} {mg : Str → Option Value} {base : Heap} {CD CH : Addr} {T : List (Addr × Str)}
theorem ok_law {f : Addr} {fd : FuncData} (F : At K mg "law" s_law f fd) (C : LawC P w K mg base CD CH T) : FnOk P w K mg base CX0 12 f fd ["script"] (spLaw K T) := by
  refine F.fn.ok sc_law (fun vs H Q E h => ?_) (fun cdv A0 outer sh H vs Q E hr h => ⟨_, wB.ps, ?_⟩)
  · obtain ⟨a, ns, rfl, _⟩ := h
    rfl
  obtain ⟨a0, ns, rfl, hS, hlen, hT, q⟩ := h
  have sc0 : ScAt K M0 H a0 ns := ScAt.of hS fun z => z
  have nb := C.nb
  have scx : ∀ {H'}, Evl.Ex H H' → ScAt K M0 H' a0 ns := fun x => sc0.mono (fun _ z => z) (ExM.of x)
  -- bag, number
  refine b_cons (cs_set (i := 1) sc_law.nd rfl (.inl rfl) (ce_call C.bag hr (by decide) rfl (ca_cons (ce_call C.cell hr (by decide) rfl (ca_cons (ce_nm 0 (ca_cons (ce_intC (ca_nil ⟨M0, a0, ns, 0, rfl, alive0, sc0, fun z H1 x1 => ca_cons (ce_intC (ca_nil ⟨z, 0, rfl, fun b r c k H2 hb x2 h2 => ?_⟩))⟩)))))))))
  have hb0 := Evl.fresh_back x1 hb
  have x02 := x1.trans x2
  refine b_cons (cs_set (i := 2) sc_law.nd rfl (.inl rfl) (ce_call C.num hr (by decide) rfl (ca_cons (ce_nm 1 (ca_nil ⟨b, r, c, k, rfl, h2, fun n r3 k3 H3 n1 n63 e3 h3 => ?_⟩)))))
  have x03 := ex_ofB x02 hb0 e3
  refine b_cons (cs_set (i := 3) sc_law.nd rfl (.inl rfl) (ce_add (ce_intC (ce_take C.take hr (by decide) rfl (fun H1 Q hq => ce_nm 1 hq) pd_int h3 (by decide) (by decide +kernel) fun z4 r4 k4 H4 z40 z41 e4 h4 => ⟨3, z4, rfl, rfl, ?_⟩))))
  have x04 := ex_ofB x03 hb0 e4
  obtain ⟨cN0, hcN⟩ : ∃ cN : Nat, (3 : Int) + z4 = (cN : Nat) := ⟨(3 + z4).toNat, by omega⟩
  rw [hcN]
  have rest : ∀ (cN : Nat) (r k : Int) H5, 3 ≤ cN → cN ≤ 40 → Evl.Ex H H5 → H5 b = some (potL r c k) → wB (cxOf CX0 P w K mg base n_law "law" (defScope s_law) f cdv A0 outer sh H E).nox ((defBody s_law).drop 4) { nx := fun _ H' => Q .non H', rt := Q } [some (.ref a0), some (.ref b), some (.int (n : Nat)), some (.int (cN : Nat)), none, none, none, none, none, none, none, none, none, none, none, none, none, none] H5 := by
    intro cN r5 k5 H5 hc3 hc40 x05 h5
    -- start
    refine b_cons (cs_set (i := 4) sc_law.nd rfl (.inl rfl) (ce_call C.row hr (by decide) rfl (ca_cons (ce_nm 1 (ca_cons (ce_nm 3 (ca_nil ⟨b, cN, r5, c, k5, rfl, h5, hc40, fun st start r6 k6 H6 hst5 e6 h6 hst6 hrow hlenS => ?_⟩)))))))
    have x06 := ex_ofB x05 hb0 e6
    have hst0 := Evl.fresh_back x05 hst5
    -- more
    refine b_cons (cs_set (i := 5) sc_law.nd rfl (.inl rfl) (ce_call C.bag hr (by decide) rfl (ca_cons (ce_call C.cell hr (by decide) rfl (ca_cons (ce_nm 0 (ca_cons (ce_intC (ca_nil ⟨M0, a0, ns, 1, rfl, alive0, scx x06, fun z H7 x7 => ca_cons (ce_intC (ca_nil ⟨z, 1, rfl, fun mb r8 c8 k8 H8 hmb7 x8 h8 => ?_⟩))⟩)))))))))
    have x68 := x7.trans x8
    have x08 := x06.trans x68
    have hmb6 := Evl.fresh_back x7 hmb7
    have hmb0 := Evl.fresh_back x06 hmb6
    have nms : mb ≠ st := fun e => by
      rw [e, hst6] at hmb6
      cases hmb6
    -- rounds
    refine b_cons (cs_set (i := 6) sc_law.nd rfl (.inl rfl) (ce_max2 rfl nb.max (ca_cons (ce_add (ce_intC (ce_take C.take hr (by decide) rfl (fun H1 Q hq => ce_nm 5 hq) pd_int h8 (by decide) (by decide +kernel) fun z9 r9 k9 H9 z90 z91 e9 h9 => ⟨6, z9, rfl, rfl, ca_cons (ce_min2 rfl nb.min (ca_cons (ce_pd (M := M0) alive0 (pd_sub (pd_scLen (j := 0) (scx (ex_ofB x08 hmb0 e9)) rfl nb.len) pd_int) fun vA HA xA rA => ca_cons (ce_intC (ca_nil ⟨(ns.length : Int) - 2, 61, by cases rA; rfl, ca_nil ⟨6 + z9, min ((ns.length : Int) - 2) 61, rfl, ?_⟩⟩)))))⟩))))))
    have x09 := ex_ofB x08 hmb0 e9
    have x0A := x09.trans xA
    have hmA := xA _ _ h9
    have hstA := xA _ _ (e9 _ _ nms.symm (x68 _ _ hst6))
    obtain ⟨rN, hrN⟩ : ∃ rN : Nat, max (6 + z9) (min ((ns.length : Int) - 2) 61) = (rN : Nat) := ⟨(max (6 + z9) (min ((ns.length : Int) - 2) 61)).toNat, by omega⟩
    have hr61 : rN ≤ 61 := by omega
    rw [hrN]
    have rSt : ∀ {H1 : Hp}, H1 st = some (.lst (start.map V.int)) → Rp K M0 H1 (.ref st) (intsD start) := fun h => .lst (fun z => z) (.inl h) (.ints start)
    -- given
    refine b_cons (cs_set (i := 7) sc_law.nd rfl (.inl rfl) (ce_fd (M := M0) alive0 (fd_listOf rfl nb.list (nm 4 (rSt hstA)) rfl) fun gv wsB HB hgvA xB hB rB => ?_))
    have ew := rB.of_ints
    subst ew
    have x0B := x0A.trans xB
    have hgv0 := Evl.fresh_back x0A hgvA
    -- the desk
    obtain ⟨fH, fdH, mkH, okH, bH⟩ := C.mkH
    obtain ⟨fD, fdD, ds, mkD, okD, vD, bD⟩ := C.mkD
    refine b_cons (cs_set (i := 8) sc_law.nd rfl (.inl rfl) (ce_makeD mkD okD hr (by decide) rfl C.gD bD vD pass0 (ca_cons (ce_nm 7 (ca_cons (ce_makeN mkH okH hr (by decide) bH pass0 ⟨_, pe_glob rfl C.gH (v := .ref CH) rfl (by decide), rfl, ca_cons (ce_pd (M := M0) (d := .str (txN n)) alive0 (pd_callC C.text hr (by decide) rfl (ad_cons (nm 2 (.int (n : Nat))) ad_nil) ⟨n, by omega, rfl, rfl⟩) fun vC HC xC rC => ca_nil fun h dxh hh hdx nhd => ?_)⟩))))))
    have vC' : vC = .str (txN n) := by
      cases rC
      rfl
    subst vC'
    refine ⟨h, dxh, n, rfl, n1, by omega, upd_same, fun HD kD hAt => ⟨rfl, ca_nil fun g dxg hg hdg ngd => ?_⟩⟩
    have xCD : Evl.Ex HC HD := fun a o ha => kD a o (by
      rw [upd_ne (ne_of_none ha hh), upd_ne (ne_of_none ha hdx)]
      exact ha) (ne_of_none ha hh)
    have x0D := x0B.trans (xC.trans xCD)
    have hgvD := xCD _ _ (xC _ _ hB)
    have hgh : h ≠ g := fun e => by
      obtain ⟨dd, hd⟩ := hAt
      rw [e, hg] at hd
      cases hd
    have up2 : ∀ a o, HD a = some o → upd (upd HD dxg (.own g)) g (.ins CD dxg []) a = some o := fun a o ha => by
      rw [upd_ne (ne_of_none ha hg), upd_ne (ne_of_none ha hdg)]
      exact ha
    refine ⟨g, dxg, h, .ref gv, n, 100, false, start, rfl, upd_same, .lst (fun z => z) (.inl (up2 _ _ hgvD)) (.ints start), hrow, by
      obtain ⟨dd, hd⟩ := hAt
      exact ⟨dd, up2 _ _ hd⟩, hgh, by decide, by decide, fun HE lu lr dm hlu hlr hdm kE dk => ⟨rfl, ?_⟩⟩
    have xDE : Evl.Ex HD HE := fun a o ha => kE a o (up2 a o ha) (ne_of_none ha hg)
    have x0E := x0D.trans xDE
    have fr : ∀ {a}, upd (upd HD dxg (.own g)) g (.ins CD dxg []) a = none → HD a = none := fun {a} ha => by
      cases z : HD a with
      | none => rfl
      | some o =>
        rw [up2 a o z] at ha
        cases ha
    have hluD := fr hlu
    have hlrD := fr hlr
    have hgvE := xDE _ _ hgvD
    -- given.reverse()
    refine b_cons (cs_expr (ce_reverse (ce_nm 7 ⟨rfl, hgvE, ?_⟩)))
    have ne2 : ∀ {a a' : Addr} {H1 : Hp} {o : HO}, H1 a = some o → H1 a' = none → a ≠ a' := fun h1 h2 e => by
      rw [e, h2] at h1
      cases h1
    have x0F : Evl.Ex H (upd HE gv (.lst (start.map V.int).reverse)) := fun a o ha => by
      rw [upd_ne (ne2 ha hgv0)]
      exact x0E _ _ ha
    have eF : ExS (Ma gv) HE (upd HE gv (.lst (start.map V.int).reverse)) := ExS.upd rfl
    have LE : NoT (Ma gv) HE := noT_lst fun a ha => ⟨_, ha ▸ hgvE⟩
    have ngvst : gv ≠ st := fun e => by
      rw [e, hstA] at hgvA
      cases hgvA
    have ngvmb : gv ≠ mb := fun e => by
      rw [e, hmA] at hgvA
      cases hgvA
    have dkF : DeskAt K CD CH (upd HE gv (.lst (start.map V.int).reverse)) g lu lr dm h n 100 ⟨[], start⟩ [] [] := dk.exM eF.exM LE (fun z => ne2 hgvD hg z.symm) (fun z => ne2 hgvD hluD z.symm) (fun z => ne2 hgvD hlrD z.symm) (fun z => by
      obtain ⟨dd, hd⟩ := hAt
      rw [z, hgvD] at hd
      cases hd)
    have hstE : HE st = some (.lst (start.map V.int)) := xDE _ _ (xCD _ _ (xC _ _ (xB _ _ hstA)))
    have hmE : HE mb = some (potL r9 c8 k9) := xDE _ _ (xCD _ _ (xC _ _ (xB _ _ hmA)))
    have hstF := eF _ _ (fun z => ngvst z.symm) hstE
    have hmF := eF _ _ (fun z => ngvmb z.symm) hmE
    have hTF : LamX.Tabs T (upd HE gv (.lst (start.map V.int).reverse)) := hT.ext x0F
    generalize upd HE gv (.lst (start.map V.int).reverse) = HF at x0F dkF hstF hmF hTF ⊢
    refine b_cons (s_if (M := M0) (k := false) alive0 (td_not (k := true) (td_val (pd_shows C.shows hr (by decide) rfl dkF (AtN.name (i := 8) rfl (.inl rfl) rfl) (nm 4 (rSt hstF)) (nm 2 (.int (n : Nat))) (FD.pd (fd_lst ad_nil (by simp))) (Led.nil n start) rfl hrow (by show 0 ≤ 1000; decide)))) (fun k => by cases k) (fun _ HG xG => b_nil ?_))
    -- entries, row
    refine b_cons (cs_set (i := 9) sc_law.nd rfl (.inl rfl) (ce_fd (M := M0) alive0 (fd_lst ad_nil (by simp)) fun en wsE HH henG xH hH rH => ?_))
    cases rH
    refine b_cons (cs_set (i := 10) sc_law.nd rfl (.inl rfl) (ce_fd (M := M0) alive0 (fd_listOf rfl nb.list (nm 4 (rSt (xH _ _ (xG _ _ hstF)))) rfl) fun rw wsR HI hrwH xI hI rI => ?_))
    have ew := rI.of_ints
    subst ew
    have xFI := xG.trans (xH.trans xI)
    have dkI := dkF.ex xFI
    have henF := Evl.fresh_back xG henG
    have hrwF := Evl.fresh_back (xG.trans xH) hrwH
    obtain ⟨dxF, svF, hgF, _⟩ := dkF.ins
    obtain ⟨wu, huF, _⟩ := dkF.u
    obtain ⟨wr, hrF, _⟩ := dkF.r
    obtain ⟨dhF, hhF⟩ := dkF.hou
    have scF := scx x0F
    have offF : ∀ {a}, H a = none → Off K a0 ns a := fun h => ScAt.fresh sc0 h
    have hg0 : H g = none := Evl.fresh_back x0D hg
    have hlu0 : H lu = none := Evl.fresh_back x0D hluD
    have hlr0 : H lr = none := Evl.fresh_back x0D hlrD
    have nlst : ∀ {a a' : Addr} {C1 dx : Addr} {fs : List (Str × V)} {xs : List V}, HF a = some (.lst xs) → HF a' = some (.ins C1 dx fs) → a ≠ a' := fun h1 h2 e => by
      rw [e, h2] at h1
      cases h1
    have DD : Dis K ⟨a0, mb, st, en, g, lu, lr, dm, h⟩ ns := ⟨nms, ne2 hmF henF, ne2 (xCD _ _ (xC _ _ (xB _ _ hmA))) hluD, ne2 (xCD _ _ (xC _ _ (xB _ _ hmA))) hlrD, nlst hmF hgF, nlst hmF hhF, ne2 hstF henF, ne2 (xCD _ _ (xC _ _ (xB _ _ hstA))) hluD, ne2 (xCD _ _ (xC _ _ (xB _ _ hstA))) hlrD, nlst hstF hgF, (ne2 huF henF).symm, (ne2 hrF henF).symm, (ne2 hgF henF).symm, (ne2 hhF henF).symm, offF hmb0, ScAt.fresh scF henF, offF hlu0, offF hlr0, offF hg0⟩
    have wI : WS K CD CH T HI ⟨a0, mb, st, en, g, lu, lr, dm, h⟩ ns start n [] ⟨[], rowF start []⟩ (usA start [] ([] : List En).length) [] := ⟨scx (x0F.trans xFI), ⟨_, _, _, xFI _ _ hmF⟩, xFI _ _ hstF, dkI, ⟨[], xI _ _ hH, .nil⟩, hTF.ext xFI⟩
    have raI : RowAt HI ⟨a0, mb, st, en, g, lu, lr, dm, h⟩ rw (rowF start []) := ⟨hI, (ne2 huF hrwF).symm, (ne2 hrF hrwF).symm, (ne2 hgF hrwF).symm, (ne2 hH hrwH).symm, (ne2 hmF hrwF).symm⟩
    -- the loop
    refine b_cons (s_forRW (slot := 11) PassesOwn.never rfl sc_law.nd rfl (.inl rfl) rfl nb.range (ce_nm 6 ⟨rN, fun i σ' H' => ∃ (his : List En) (rw : Addr) (x11 x12 x13 x14 x15 x16 : Option V), σ' = lst18 a0 b n cN st mb rN gv g en rw x11 x12 x13 x14 x15 x16 none ∧ Led n start his ∧ his.length ≤ i ∧ WS K CD CH T H' ⟨a0, mb, st, en, g, lu, lr, dm, h⟩ ns start n his ⟨his, rowF start his⟩ (usA start his his.length) [] ∧ RowAt H' ⟨a0, mb, st, en, g, lu, lr, dm, h⟩ rw (rowF start his), rfl, by omega, ⟨[], rw, none, none, none, none, none, none, rfl, Led.nil n start, Nat.le_refl _, wI, raI⟩, ?_, ?_⟩))
    · rintro i σ' H' hi ⟨his, rw2, x11, x12, x13, x14, x15, x16, rfl, led, hle, w2, ra2⟩
      exact law_turn C hr DD hrow (by omega) led hle (by omega) w2 ra2 _ fun his' rw' y12 y13 y14 y15 y16 H'' led' hl' w' ra' => ⟨his', rw', _, y12, y13, y14, y15, y16, rfl, led', hl', w', ra'⟩
    · rintro σ' H' ⟨his, rw2, x11, x12, x13, x14, x15, x16, rfl, led, hle, w2, ra2⟩
      have rE : Rp K M0 H' (.ref en) (.list (his.map enD)) := by
        obtain ⟨ws, he, r⟩ := w2.ent
        exact .lst (fun z => z) (.inl he) r
      refine b_cons (s_if (M := M0) (k := false) alive0 (td_not (k := true) (td_val (pd_shows C.shows hr (by decide) rfl w2.dk (AtN.name (i := 8) rfl (.inl rfl) rfl) (nm 4 (rSt w2.stt)) (nm 2 (.int (n : Nat))) (nm 9 rE) led rfl hrow (by show his.length ≤ 1000; omega)))) (fun k => by cases k) (fun _ HJ xJ => b_nil ?_))
      exact law_end C hr DD hrow led (by omega) (w2.ex xJ) q
  refine b_cons (cs_if (ct_eq hr.units (ce_take C.take hr (by decide) rfl (fun H1 Q hq => ce_nm 1 hq) pd_int h4 (by decide) (by decide +kernel) fun z r5 k5 H5 z0 z1 e5 h5 => ce_intC ⟨.int z, .int 0, (Rp.int (M := M0) _).dp, (Rp.int (M := M0) _).dp, rfl, rfl, ?_⟩)))
  have x05 := ex_ofB x04 hb0 e5
  by_cases hz : PyData.eqv (.int z) (.int 0) = true
  · rw [if_pos hz]
    refine b_cons (cs_set (i := 3) sc_law.nd rfl (.inl rfl) (ce_add (ce_intC (ce_take C.take hr (by decide) rfl (fun H1 Q hq => ce_nm 1 hq) pd_int h5 (by decide) (by decide +kernel) fun z6 r6 k6 H6 z60 z61 e6 h6 => ⟨12, z6, rfl, rfl, ?_⟩))))
    obtain ⟨cN, hc⟩ : ∃ cN : Nat, (12 : Int) + z6 = (cN : Nat) := ⟨(12 + z6).toNat, by omega⟩
    rw [hc]
    exact b_nil (rest cN r6 k6 H6 (by omega) (by omega) (ex_ofB x05 hb0 e6) h6)
  · rw [if_neg hz]
    exact b_nil (rest cN0 r5 k5 H5 (by omega) (by omega) x05 h5)
end
end TK

namespace GH
open PySem PySem.Spec PyProof.Rows L2 He GV
section
variable {fc : List (Fr → Bool)} {fn : List Df} {ts : List Tab} {tf : List (Fr → Addr)} {w : World} {h : Heap} {K : Fr} {mg : Str → Option Value}
/-- a global's def -/
theorem Says.at_ (c : Says fc fn ts tf w h K) (X : K.In h) (G : h.Ns mainGlobals mg) (i j : Nat) {x : Str} {st : Stmt} (e : fn[i]? = some ⟨fun K => ga K x, x, x, st, [], []⟩ := by rfl) (e2 : fc[j]? = some (fun K => (Fa.glo x).ok K) := by rfl) : ∃ f fd, At K mg x st f fd := by
  obtain ⟨fd, F⟩ := c.def_ i e
  exact ⟨_, fd, F, glo_ok X G (c.fact j e2)⟩
end
end GH
namespace GH
open PySem PySem.Spec PyProof.Rows L2 He GV
section
variable {fc : List (Fr → Bool)} {fn : List Df} {ts : List Tab} {tf : List (Fr → Addr)} {w : World} {h : Heap} {K : Fr}
/-- a def with defaults -/
theorem Says.defD (c : Says fc fn ts tf w h K) (i : Nat) {d : Df} (e : fn[i]? = some d := by rfl) : ∃ fd, L2.FunD K d.name d.qual (defArgs d.st) (defBody d.st) (defScope d.st) (d.dfl.map (Dv.v K)) (d.kwd.map fun q => (q.1, q.2.v K)) (d.path K) fd := by
  obtain ⟨h1, h2⟩ := c.d d (List.mem_of_getElem? e)
  obtain ⟨oc, od, dV, kV, doc, pm, an, ct, osl, lk, ci, dv, kv, kp⟩ := Df.fn h1 h2
  exact ⟨_, ⟨oc, od, dV, kV, doc, pm, an, _, ct, osl, rfl, lk, ci, dv, kv⟩, kp⟩
theorem propB_ok {C : Addr} {f : Str} (h : propB K C f = true) : PropOf K C f (ma K C f) (propAt K (ma K C f)) := by
  unfold propB at h
  split at h
  · rename_i p hp
    obtain ⟨h1, h2⟩ := ba h
    obtain ⟨h2, h3⟩ := ba h2
    have em : ma K C f = p := by
      unfold ma
      rw [hp]
    rw [em]
    refine ⟨hp, of_decide_eq_true h2, of_decide_eq_true h3, ?_⟩
    unfold propAt
    split at h1
    · rename_i g rest hr
      rw [hr]
      exact ⟨rest, rfl⟩
    · cases h1
  · cases h
theorem insB_ok {C : Addr} (h : insB K C = true) : C8.InsC K C := by
  obtain ⟨h1, h⟩ := ba h
  obtain ⟨h2, h⟩ := ba h
  obtain ⟨h3, h⟩ := ba h
  obtain ⟨h4, h⟩ := ba h
  obtain ⟨h5, h⟩ := ba h
  obtain ⟨h6, h⟩ := ba h
  obtain ⟨h7, h⟩ := ba h
  obtain ⟨h8, h9⟩ := ba h
  exact ⟨⟨h1, h2, h3, eqO_ok h4⟩, eqO_ok h5, eqO_ok h6, of_decide_eq_true h7, of_decide_eq_true h8, of_decide_eq_true h9⟩
theorem noB_ok {C : Addr} {f : Str} (h : noB K C f = true) : NoAttr K C f := eqO_ok h
/-- a table of the top with text keys and int values -/
theorem tabI {a : Addr} {kvs : List (Str × Dv)} (h : valsB K a kvs = true) {k : Str} {i : Int} (hk : (k, Dv.int i) ∈ kvs) : ∃ t, PySem.W.nsIn K a k = some (some (.int i t)) := by
  obtain ⟨u, hu, r⟩ := valsB_ok h hk
  obtain ⟨t, rfl⟩ := r
  exact ⟨t, hu⟩
end
end GH

namespace TK
open PySem PySem.Spec PyProof.Rows L2 GV
section
variable {P : Program} {w : World} {K : PySem.W.Frag} {mg : Str → Option Value} {base : Heap}
theorem ok_initB {f C : Addr} {fd : FuncData} (F : Fun K "__init__" "Barred.__init__" s_Barred_init f fd) (o : OexC K C) (n : PySem.W.findIn K (.ref C) "place" = some none) (n2 : PySem.W.findIn K (.ref C) "step" = some none) : FnOk P w K mg base CX0 1 f fd ["self", "place", "step"] (spInit C ["place", "step"]) := by
  refine F.ok sc_Barred_init (fun vs H Q E h => ?_) (fun cdv A outer s H vs Q E hr h => ⟨_, wB.ps, ?_⟩)
  · obtain ⟨a, xs, rfl, hl, _⟩ := h
    exact congrArg (· + 1) hl
  · obtain ⟨a, xs, rfl, hl, ha, q⟩ := h
    match xs, hl with
    | [v, u], _ =>
      refine b_cons (cs_ost (ce_name (i := 1) rfl (.inl rfl) rfl (ce_name (i := 0) rfl (.inl rfl) rfl ⟨a, C, rfl, o, n, .inl ⟨ha, fun dx hdx ne => ?_⟩⟩)))
      refine b_cons (cs_ost (ce_name (i := 2) rfl (.inl rfl) rfl (ce_name (i := 0) rfl (.inl rfl) rfl ⟨a, C, rfl, o, n2, .inr ⟨dx, [("place", v)], upd_same, ?_, (by show 1 ≤ 900; decide), b_nil (q _ dx (fun b o hb nb => ?_) hdx ne ?_ upd_same)⟩⟩)))
      · rw [upd_ne ne, upd_same]
      · rw [upd_ne (ne_of_none hb hdx), upd_ne nb, upd_ne (ne_of_none hb hdx)]
        exact hb
      · rw [upd_ne (Ne.symm ne), upd_same]
end
abbrev qL (x : Str) (st : Stmt) (f c : Addr) : Str := (PyProof.Rows.envOfC x (defScope st) 0 f (.ref c)).qual ++ "<lambda>"
structure LamF (K : PySem.W.Frag) (mg : Str → Option Value) (h : Heap) (x : Str) (st : Stmt) (f c Pt : Addr) : Prop where
  fn : ∃ fd, FunC K mg x st f fd (.ref c)
  hd : PySem.W.CodeHd h c Pt
  tb : h.get? Pt = some (PySem.W.tabObj #[])
  no : K.lookup Pt = none
abbrev ME (K : PySem.W.Frag) (C : Addr) (m q : Str) (st : Stmt) : Prop := ∃ f fd, Meth K C m f ∧ Fun K m q st f fd
structure ECls (K : PySem.W.Frag) (mg : Str → Option Value) (x q : Str) (st : Stmt) (C : Addr) : Prop where
  g : mg x = some (.ref C)
  o : OexC K C
  xf : XfC K C
  be : PySem.W.subIn K (.ref C) (.type "BaseException") = some true
  ty : PySem.W.typeIn K (.ref C) = some (.type "type")
  ci : PySem.W.isClsIn K C = true
  i : ∃ f fd, PySem.W.findIn K (.ref C) "__init__" = some (some (.ref f)) ∧ PySem.W.typeIn K (.ref f) = some (.type "function") ∧ Fun K "__init__" q st f fd
structure Facts (K : PySem.W.Frag) (mg : Str → Option Value) : Prop where
  nb : NoB mg
  is_integer : ∃ f fd, At K mg "is_integer" s_is_integer f fd
  is_number : ∃ f fd, At K mg "is_number" s_is_number f fd
  check_number : ∃ f fd, At K mg "check_number" s_check_number f fd
  number_of_text : ∃ f fd, At K mg "number_of_text" s_number_of_text f fd
  check_house : ∃ f fd, At K mg "check_house" s_check_house f fd
  is_weight : ∃ f fd, At K mg "is_weight" s_is_weight f fd
  is_bag_row : ∃ f fd, At K mg "is_bag_row" s_is_bag_row f fd
  is_row : ∃ f fd, At K mg "is_row" s_is_row f fd
  is_place : ∃ f fd, At K mg "is_place" s_is_place f fd
  check_row : ∃ f fd, At K mg "check_row" s_check_row f fd
  check_place : ∃ f fd, At K mg "check_place" s_check_place f fd
  swapped : ∃ f fd, At K mg "swapped" s_swapped f fd
  check_all : ∃ f fd, At K mg "_check_all" s_check_all f fd
  third_kinds : ∃ f fd, At K mg "_third_kinds" s_third_kinds f fd
  helper_indexes : ∃ f fd, At K mg "_helper_indexes" s_helper_indexes f fd
  nearness : ∃ f fd, At K mg "_nearness" s_nearness f fd
  entry_of : ∃ f fd, At K mg "_entry_of" s_entry_of f fd
  law_cell : ∃ f fd, At K mg "_law_cell" s_law_cell f fd
  law_bag : ∃ f fd, At K mg "_law_bag" s_law_bag f fd
  law_take : ∃ f fd, At K mg "_law_take" s_law_take f fd
  law_stones : ∃ f fd, At K mg "_law_stones" s_law_stones f fd
  law_row : ∃ f fd, At K mg "_law_row" s_law_row f fd
  law_number : ∃ f fd, At K mg "_law_number" s_law_number f fd
  law_text : ∃ f fd, At K mg "_law_text" s_law_text f fd
  law_names : ∃ f fd, At K mg "_law_names" s_law_names f fd
  law_nearest : ∃ f fd, At K mg "_law_nearest" s_law_nearest f fd
  law_tried : ∃ f fd, At K mg "_law_tried" s_law_tried f fd
  law_swap : ∃ f fd, At K mg "_law_swap" s_law_swap f fd
  law_read : ∃ f fd, At K mg "_law_read" s_law_read f fd
  law_shows : ∃ f fd, At K mg "_law_shows" s_law_shows f fd
  law_pick : ∃ f fd, At K mg "_law_pick" s_law_pick f fd
  law : ∃ f fd, At K mg "law" s_law f fd
  gW : ∃ t, mg "MOST_WEIGHT" = some (.int 1000000000000 t)
  gS : ∃ t, mg "MOST_STONES" = some (.int 40 t)
  gL : ∃ t, mg "_MOST_LIMIT" = some (.int 1000 t)
open PySem.W (nsIn findIn typeIn subIn keepIn isClsIn hasDictIn codeIn fnOf specialIn takesIn mroIn kitOne)
structure NRaw (K : PySem.W.Frag) (mg : Str → Option Value) (CB CP CF CM : Addr) : Prop where
  gP : mg "InvalidPlace" = some (.ref CP)
  gF : mg "Full" = some (.ref CF)
  gM : mg "MillError" = some (.ref CM)
  gV : mg "ValueError" = none
  n1 : findIn K (.ref CB) "place" = some none
  n2 : findIn K (.ref CB) "step" = some none
  em : PySem.W.exmOne K (.ref CB) (.ref CM) = some true
  kP : kitOne K (.ref CB) (.ref CP) = some false
  kB : kitOne K (.ref CB) (.ref CB) = some true
  kF : kitOne K (.ref CB) (.ref CF) = some false
  kV : kitOne K (.ref CB) (.type "ValueError") = some true
  h2 : findIn K (.ref CB) "__class__" = some (some (.builtin "object.__class__"))
  hn : specialIn K (.builtin "object.__class__") "__get__" = some (some (.builtin "getset_descriptor.__get__"))
  ht : takesIn K (.builtin "object.__class__") = some true
  m2 : mroIn K CB (.type "object") = some true
-- TAB _SIDES |l|b|lb|h|lh|bh|lbh
abbrev sidV : List (Str × He.Dv) := [("", .int 0), ("l", .int 1), ("b", .int 2), ("lb", .int 3), ("h", .int 4), ("lh", .int 5), ("bh", .int 6), ("lbh", .int 7)]
theorem sides_of {K : PySem.W.Frag} {mg : Str → Option Value} {w : World} {d : Addr} {ks : List Str} (g : mg "_SIDES" = some (.ref d)) (hd : He.dicW K d = some (He.keysIn w.params ks)) (hv : He.valsB K d sidV = true) : Sides K mg w := by
  obtain ⟨es, n, D⟩ := He.dicW_ok hd
  refine ⟨d, es, n, g, D, fun i hi => ?_⟩
  match i, hi with
  | 0, _ => exact GH.tabI hv (List.mem_of_getElem? (i := 0) rfl)
  | 1, _ => exact GH.tabI hv (List.mem_of_getElem? (i := 1) rfl)
  | 2, _ => exact GH.tabI hv (List.mem_of_getElem? (i := 2) rfl)
  | 3, _ => exact GH.tabI hv (List.mem_of_getElem? (i := 3) rfl)
  | 4, _ => exact GH.tabI hv (List.mem_of_getElem? (i := 4) rfl)
  | 5, _ => exact GH.tabI hv (List.mem_of_getElem? (i := 5) rfl)
  | 6, _ => exact GH.tabI hv (List.mem_of_getElem? (i := 6) rfl)
  | 7, _ => exact GH.tabI hv (List.mem_of_getElem? (i := 7) rfl)
-- HEND hH: ⟨GH.insB_ok {fc:fun K => GH.insB K (He.ga K "House")}, GH.noB_ok {fc:fun K => GH.noB K (He.ga K "House") "text"}, GH.noB_ok {fc:fun K => GH.noB K (He.ga K "House") "number"}⟩
-- HEND iH: (let ⟨fd, F⟩ := {def:⟨fun K => He.ma K (He.ga K "House") "__init__", "__init__", "House.__init__", s_House_init, [], []⟩}; ⟨_, fd, He.mkr_ok {fc:fun K => (He.Fa.mkr "House").ok K}, F⟩)
-- HEND hD: ⟨GH.insB_ok {fc:fun K => GH.insB K (He.ga K "Desk")}, GH.noB_ok {fc:fun K => GH.noB K (He.ga K "Desk") "house"}, GH.noB_ok {fc:fun K => GH.noB K (He.ga K "Desk") "_limit"}, GH.noB_ok {fc:fun K => GH.noB K (He.ga K "Desk") "_state"}, GH.noB_ok {fc:fun K => GH.noB K (He.ga K "Desk") "_to_undo"}, GH.noB_ok {fc:fun K => GH.noB K (He.ga K "Desk") "_to_redo"}, GH.noB_ok {fc:fun K => GH.noB K (He.ga K "Desk") "_state_of_mark"}⟩
-- HEND iD: (let ⟨fd, F⟩ := {defD:⟨fun K => He.ma K (He.ga K "Desk") "__init__", "__init__", "Desk.__init__", s_Desk_init, [.int 100], []⟩}; ⟨_, fd, He.mkr_ok {fc:fun K => (He.Fa.mkr "Desk").ok K}, F⟩)
-- HEND mp: (let ⟨fd, F⟩ := {def:⟨fun K => GH.propAt K (He.ma K (He.ga K "Desk") "present"), "present", "Desk.present", s_Desk_present, [], []⟩}; ⟨_, _, fd, GH.propB_ok {fc:fun K => GH.propB K (He.ga K "Desk") "present"}, F⟩)
-- HEND S: (sides_of {glo:_SIDES} {tab:0} {fc:fun K => He.valsB K (He.ga K "_SIDES") [("", .int 0), ("l", .int 1), ("b", .int 2), ("lb", .int 3), ("h", .int 4), ("lh", .int 5), ("bh", .int 6), ("lbh", .int 7)]})
section
variable {P : Program} {w : World} {K : PySem.W.Frag} {mg : Str → Option Value} {base : Heap}
theorem llaw {CH CD CB CP CF CM f1 c1 : Addr} {fd1 : FuncData} {T : List (Addr × Str)} (FA : Facts K mg) (gH : mg "House" = some (.ref CH)) (gD : mg "Desk" = some (.ref CD)) (hH : HouC K CH) (iH : ∃ f fd, Mk K CH f ∧ Fun K "__init__" "House.__init__" s_House_init f fd) (bH : ME K CH "names_index" "House.names_index" s_House_names_index)
    (hD : DesC K CD) (iD : ∃ f fd, Mk K CD f ∧ L2.FunD K "__init__" "Desk.__init__" (defArgs s_Desk_init) (defBody s_Desk_init) (defScope s_Desk_init) [.int 100] [] f fd) (m1 : ME K CD "history" "Desk.history" s_Desk_history) (m2 : ME K CD "undo" "Desk.undo" s_Desk_undo) (m3 : ME K CD "redo" "Desk.redo" s_Desk_redo) (m4 : ME K CD "change" "Desk.change" s_Desk_change) (m5 : ME K CD "_enter" "Desk._enter" s_Desk_enter)
    (mp : ∃ p f fd, PropOf K CD "present" p f ∧ Fun K "present" "Desk.present" s_Desk_present f fd) (S : Sides K mg w) (EB : ECls K mg "Barred" "Barred.__init__" s_Barred_init CB) (NR : NRaw K mg CB CP CF CM)
    (FN : FunC K mg "nearest_helper" s_nearest_helper f1 fd1 (.ref c1)) (lb : LamB mg base T (.ref c1) (qL "nearest_helper" s_nearest_helper f1 c1)) : LawC P w K mg base CD CH T := by
  have nb := FA.nb
  obtain ⟨_, _, a0⟩ := FA.is_integer
  obtain ⟨_, _, a1⟩ := FA.is_number
  obtain ⟨_, _, a2⟩ := FA.check_number
  obtain ⟨_, _, a3⟩ := FA.number_of_text
  obtain ⟨_, _, a4⟩ := FA.check_house
  obtain ⟨_, _, a5⟩ := FA.is_weight
  obtain ⟨_, _, a6⟩ := FA.is_bag_row
  obtain ⟨_, _, a7⟩ := FA.is_row
  obtain ⟨_, _, a8⟩ := FA.is_place
  obtain ⟨_, _, a9⟩ := FA.check_row
  obtain ⟨_, _, a10⟩ := FA.check_place
  obtain ⟨_, _, a11⟩ := FA.swapped
  obtain ⟨_, _, a12⟩ := FA.check_all
  obtain ⟨_, _, a13⟩ := FA.third_kinds
  obtain ⟨_, _, a14⟩ := FA.helper_indexes
  obtain ⟨_, _, a15⟩ := FA.nearness
  obtain ⟨_, _, a16⟩ := FA.entry_of
  obtain ⟨_, _, a17⟩ := FA.law_cell
  obtain ⟨_, _, a18⟩ := FA.law_bag
  obtain ⟨_, _, a19⟩ := FA.law_take
  obtain ⟨_, _, a20⟩ := FA.law_stones
  obtain ⟨_, _, a21⟩ := FA.law_row
  obtain ⟨_, _, a22⟩ := FA.law_number
  obtain ⟨_, _, a23⟩ := FA.law_text
  obtain ⟨_, _, a24⟩ := FA.law_names
  obtain ⟨_, _, a25⟩ := FA.law_nearest
  obtain ⟨_, _, a26⟩ := FA.law_tried
  obtain ⟨_, _, a27⟩ := FA.law_swap
  obtain ⟨_, _, a28⟩ := FA.law_read
  obtain ⟨_, _, a29⟩ := FA.law_shows
  obtain ⟨_, _, a30⟩ := FA.law_pick
  obtain ⟨_, _, a31⟩ := FA.law
  obtain ⟨_, gW⟩ := FA.gW
  obtain ⟨_, gS⟩ := FA.gS
  have cint : Cl P w K mg base CX0 1 "is_integer" _ := cl_is_integer a0 nb
  have cnum := cl_is_number a1 cint
  have ccn : Cl P w K mg base CX0 3 "check_number" _ := cl_check_numberOk a2 cnum
  have cnot : Cl P w K mg base CX0 1 "number_of_text" _ := cl_number_of_text a3 nb S
  have cho : Cl P w K mg base CX0 1 "check_house" (spHoOk CH) := cl_check_house a4 nb hH gH
  have cwt := cl_is_weight a5 cnum gW
  have cbag := cl_is_bag_row a6 nb cwt gS
  have crow := cl_is_row a7 nb cbag
  have cpl := cl_is_place a8 nb cnum
  have ckr := cl_check_row a9 crow
  have ckp := cl_check_place a10 cpl
  have csw : Cl P w K mg base CX0 1 "swapped" _ := cl_swapped a11
  have cka := cl_check_all a12 ckr ckp cho
  have ctk : Cl P w K mg base CX0 1 "_third_kinds" _ := cl_third_kinds a13 nb
  obtain ⟨fb, fdb, u1, u2⟩ := bH
  have bm : BitM P w K mg base CH := ⟨fb, fdb, u1, ok_bit u2 hH, u2.binds fun _ _ _ _ _ _ us hl => match us, hl with | [_, _], _ => rfl⟩
  have chi := cl_helper_indexes a14 hH bm ctk
  have cnn : Cl P w K mg base CX0 1 "_nearness" _ := cl_nearness a15
  have cne := cl_nearest FN nb lb cka chi cnn
  have cen := cl_entry_of a16 cne
  obtain ⟨fe, fde, ie1, ie2, ie3⟩ := EB.i
  have er : ErrC P w K mg base "Barred" CB ["place", "step"] := ⟨EB.g, EB.o, EB.xf, fun f hf => by
    simp only [List.mem_cons, List.not_mem_nil, or_false] at hf
    rcases hf with rfl | rfl
    · exact NR.n1
    · exact NR.n2, fe, fde, _, ie1, ie2, ok_initB ie3 EB.o NR.n1 NR.n2, ie3.binds fun _ _ _ _ _ _ us hl => match us, hl with | [_, _, _], _ => rfl⟩
  obtain ⟨_, _, p1, q1⟩ := m1
  obtain ⟨_, _, p2, q2⟩ := m2
  obtain ⟨_, _, p3, q3⟩ := m3
  obtain ⟨_, _, p4, q4⟩ := m4
  obtain ⟨_, _, p5, q5⟩ := m5
  have Me : MethS P w K mg base CX0 CD "_enter" 1 ["self", "state"] (spEnter K CD CH) := ⟨_, _, p5, ok_enter q5 hD, q5.binds fun _ _ _ _ _ _ us hl => match us, hl with | [_, _], _ => rfl⟩
  have Mc : MethS P w K mg base (L2.CX P w) CD "change" 10 ["self", "place"] (spChange K CD CH CB T) := ⟨_, _, p4, ok_change q4 hD nb cen csw Me er, q4.binds fun _ _ _ _ _ _ us hl => match us, hl with | [_, _], _ => rfl⟩
  obtain ⟨pp, fp, fdp, v1, v2⟩ := mp
  have DM : DesM P w K mg base CD CH := ⟨hD, ⟨_, _, p1, ok_history q1 hD nb, q1.binds fun _ _ _ _ _ _ us hl => match us, hl with | [_], _ => rfl⟩, ⟨pp, fp, fdp, v1, ok_present v2 hD, v2.binds fun _ _ _ _ _ _ us hl => match us, hl with | [_], _ => rfl⟩⟩
  have lcel : Cl P w K mg base CX0 1 "_law_cell" _ := cl_law_cell a17 nb
  have lbag : Cl P w K mg base CX0 1 "_law_bag" _ := cl_law_bag a18 nb
  have ltak : Cl P w K mg base CX0 1 "_law_take" _ := cl_law_take a19 nb
  have lsto := cl_law_stones a20 nb ltak
  have lrow := cl_law_row a21 nb ltak lsto
  have lnum := cl_law_number a22 nb ltak
  have ltxt : Cl P w K mg base CX0 1 "_law_text" _ := cl_law_text a23 nb
  have lnam : Cl P w K mg base CX0 1 "_law_names" _ := cl_law_names a24 nb
  have lnea := cl_law_nearest a25 nb lnam
  have EX : ErB K mg CB CP CF CM := ⟨EB.g, NR.gP, NR.gF, NR.gM, NR.gV, ⟨EB.xf.ga, EB.xf.gg, EB.be, EB.xf.hdC, NR.h2, NR.hn, NR.ht, NR.m2⟩, EB.xf, NR.n1, NR.n2, NR.em, NR.kP, NR.kB, NR.kF, NR.kV⟩
  have ltri := cl_law_tried a26 nb hD EX Mc
  have lswa : Cl P w K mg base CX0 1 "_law_swap" _ := cl_law_swap a27
  have lrea := cl_law_read a28 nb lnea lswa
  have lsho := cl_law_shows a29 nb DM lrea
  have lpic := cl_law_pick a30 nb ltak lnea
  obtain ⟨fi, fdi, i1, i2⟩ := iH
  obtain ⟨fj, fdj, j1, j2⟩ := iD
  have bd := FunD.binds1 (ps := ["self", "row", "house", "limit"]) j2 3 0 (by simp) rfl fun T kV doc pm an cdv ct us its h1 h2 => match us, its, h1, h2 with | [_, _, _], [_], _, _ => ⟨_, rfl, rfl⟩
  obtain ⟨ds, vD, bD⟩ := bd
  exact ⟨nb, DM, ⟨_, _, p2, ok_undo q2 hD nb, q2.binds fun _ _ _ _ _ _ us hl => match us, hl with | [_], _ => rfl⟩, ⟨_, _, p3, ok_redo q3 hD nb, q3.binds fun _ _ _ _ _ _ us hl => match us, hl with | [_], _ => rfl⟩, lcel, lbag, ltak, lrow, lnum, ltxt, lnea, ltri, lswa, lsho, lpic, ⟨fi, fdi, i1, ok_hinit i2 hH cnot, i2.binds fun _ _ _ _ _ _ us hl => match us, hl with | [_, _], _ => rfl⟩, gH, ⟨fj, fdj, ds, j1, ok_dinit j2 hD nb FA.gL ckr cho ccn, vD, bD⟩, gD⟩
end
theorem law_at {l : PySem.W.OpenLaw} {w : World} {K : PySem.W.Frag} {h : Heap} {mg : Str → Option Value} {fa CH CD CB CP CF CM f1 c1 P1 : Addr} (hfa : mg "law" = some (.ref fa)) (A : Facts K mg) (gH : mg "House" = some (.ref CH)) (gD : mg "Desk" = some (.ref CD)) (hH : HouC K CH) (iH : ∃ f fd, Mk K CH f ∧ Fun K "__init__" "House.__init__" s_House_init f fd) (bH : ME K CH "names_index" "House.names_index" s_House_names_index)
    (hD : DesC K CD) (iD : ∃ f fd, Mk K CD f ∧ L2.FunD K "__init__" "Desk.__init__" (defArgs s_Desk_init) (defBody s_Desk_init) (defScope s_Desk_init) [.int 100] [] f fd) (m1 : ME K CD "history" "Desk.history" s_Desk_history) (m2 : ME K CD "undo" "Desk.undo" s_Desk_undo) (m3 : ME K CD "redo" "Desk.redo" s_Desk_redo) (m4 : ME K CD "change" "Desk.change" s_Desk_change) (m5 : ME K CD "_enter" "Desk._enter" s_Desk_enter)
    (mp : ∃ p f fd, PropOf K CD "present" p f ∧ Fun K "present" "Desk.present" s_Desk_present f fd) (S : Sides K mg w) (EB : ECls K mg "Barred" "Barred.__init__" s_Barred_init CB) (NR : NRaw K mg CB CP CF CM) (l1 : LamF K mg h "nearest_helper" s_nearest_helper f1 c1 P1) : LamX.LawAtS l w K CX0 12 63 "script" mg fa h := by
  obtain ⟨f, fd, AL⟩ := A.law
  have e := hfa.symm.trans AL.gl
  cases e
  obtain ⟨oc, od, kV, doc, pm, an, cdv, ct, osl, e1, _, _⟩ := AL.fn.ex
  refine ⟨fd, [(c1, P1)], spLaw K [(P1, qL "nearest_helper" s_nearest_helper f1 c1)], ?_, ?_, ?_, ?_, ?_, ?_⟩
  · simp only [List.mem_cons, List.not_mem_nil, or_false]
    rintro p rfl
    exact l1.tb
  · simp only [List.mem_cons, List.not_mem_nil, or_false]
    rintro p rfl
    exact l1.no
  · simp only [List.mem_cons, List.not_mem_nil, or_false]
    rintro p rfl
    exact l1.hd
  · intro s u
    rw [e1]
    exact .of_eq rfl
  · intro H a ns hl _ ht hS
    refine ⟨a, ns, rfl, hS, hl, ?_, fun _ => rfl⟩
    intro p hp
    simp only [List.mem_cons, List.not_mem_nil, or_false] at hp
    subst hp
    exact LamX.TabS.nil (ht (c1, P1) (by simp))
  · intro base KB GB tb
    obtain ⟨fd1, F1⟩ := l1.fn
    exact ok_law AL (llaw (P := l.prog) (w := w) (base := base) A gH gD hH iH bH hD iD m1 m2 m3 m4 m5 mp S EB NR F1 ⟨c1, P1, rfl, tb (c1, P1) (List.mem_cons_self ..), List.mem_cons_self .., fun p hp e => by
      rw [List.mem_singleton.mp hp]⟩)
end TK

namespace TK
open PySem PySem.Spec PyProof.Rows L2 GV
theorem lamF {w : World} {K : GH.Fr} {h : Heap} {mg : Str → Option Value} (X : K.In h) (G : h.Ns mainGlobals mg) (c : GH.Says fcs fns tbs tfs w h K) (i j k : Nat) {x : Str} {st : Stmt} (e : fns[i]? = some ⟨fun K => He.ga K x, x, x, st, [], []⟩ := by rfl) (e1 : tfs[j]? = some (fun K => He.ga K x) := by rfl) (e2 : fcs[k]? = some (fun K => (He.Fa.glo x).ok K) := by rfl) :
    LamF K mg h x st (He.ga K x) (GH.codeAt K (He.ga K x)) (He.tabOf K (GH.codeAt K (He.ga K x))) := by
  obtain ⟨h1, h2⟩ := c.d _ (List.mem_of_getElem? e)
  obtain ⟨oc, od, dV, kV, doc, pm, an, ct, osl, lk, ci, dv, _, kp⟩ := GH.Df.fn h1 h2
  have z : dV = .none := by
    rcases dv with ⟨_, z⟩ | ⟨z, _⟩
    · exact z
    · exact absurd rfl z
  subst z
  have m := List.mem_of_getElem? e1
  exact ⟨⟨_, ⟨_, _, _, _, _, _, _, _, rfl, lk, ci⟩, kp, He.glo_ok X G (c.fact k e2)⟩, PySem.W.codeHd_of_K X (c.hd _ m), c.empty _ m, c.out _ m⟩
theorem at_head {l : PySem.W.OpenLaw} {w : World} {K : GH.Fr} {h : Heap} {mg : Str → Option Value} {fa : Addr} (X : K.In h) (G : h.Ns mainGlobals mg) (hfa : mg "law" = some (.ref fa)) (c : GH.Says fcs fns tbs tfs w h K) : LamX.LawAtS l w K CX0 12 63 "script" mg fa h := by
  refine law_at (CB := (He.ga K "Barred")) (CH := (He.ga K "House")) (CD := (He.ga K "Desk")) (CP := (He.ga K "InvalidPlace")) (CF := (He.ga K "Full")) (CM := (He.ga K "MillError")) (f1 := He.ga K "nearest_helper") (c1 := GH.codeAt K (He.ga K "nearest_helper")) (P1 := He.tabOf K (GH.codeAt K (He.ga K "nearest_helper"))) hfa ?_ ?_ ?_ ?_ ?_ ?_ ?_ ?_ ?_ ?_ ?_ ?_ ?_ ?_ ?_ ?_ ?_ ?_
  · exact ⟨⟨He.free_ok X G (c.fact 0), He.free_ok X G (c.fact 1), He.free_ok X G (c.fact 2), He.free_ok X G (c.fact 3), He.free_ok X G (c.fact 4), He.free_ok X G (c.fact 5), He.free_ok X G (c.fact 6), He.free_ok X G (c.fact 7), He.free_ok X G (c.fact 8), He.free_ok X G (c.fact 9), He.free_ok X G (c.fact 10), He.free_ok X G (c.fact 11), He.free_ok X G (c.fact 12), He.free_ok X G (c.fact 13), He.free_ok X G (c.fact 14), He.free_ok X G (c.fact 15), He.free_ok X G (c.fact 16)⟩, c.at_ X G 0 17, c.at_ X G 1 18, c.at_ X G 2 19, c.at_ X G 3 20, c.at_ X G 4 21, c.at_ X G 5 22, c.at_ X G 6 23, c.at_ X G 7 24, c.at_ X G 8 25, c.at_ X G 9 26, c.at_ X G 10 27, c.at_ X G 11 28, c.at_ X G 12 29, c.at_ X G 13 30, c.at_ X G 14 31, c.at_ X G 15 32, c.at_ X G 16 33, c.at_ X G 17 34, c.at_ X G 18 35, c.at_ X G 19 36, c.at_ X G 20 37, c.at_ X G 21 38, c.at_ X G 22 39, c.at_ X G 23 40, c.at_ X G 24 41, c.at_ X G 25 42, c.at_ X G 26 43, c.at_ X G 27 44, c.at_ X G 28 45, c.at_ X G 29 46, c.at_ X G 30 47, c.at_ X G 31 48, He.int_ok X G (c.fact 49), He.int_ok X G (c.fact 50), He.int_ok X G (c.fact 51)⟩
  · exact (He.glo_ok X G (c.fact 52))
  · exact (He.glo_ok X G (c.fact 53))
  · exact ⟨GH.insB_ok (c.fact 54), GH.noB_ok (c.fact 55), GH.noB_ok (c.fact 56)⟩
  · exact (let ⟨fd, F⟩ := (c.def_ 32 (d := ⟨fun K => He.ma K (He.ga K "House") "__init__", "__init__", "House.__init__", s_House_init, [], []⟩)); ⟨_, fd, He.mkr_ok (c.fact 57), F⟩)
  · exact (let ⟨fd, F⟩ := (c.def_ 33 (d := ⟨fun K => (He.ma K (He.ga K "House") "names_index"), "names_index", "House.names_index", s_House_names_index, [], []⟩)); ⟨_, fd, He.meth_ok (c.fact 58), F⟩)
  · exact ⟨GH.insB_ok (c.fact 59), GH.noB_ok (c.fact 60), GH.noB_ok (c.fact 61), GH.noB_ok (c.fact 62), GH.noB_ok (c.fact 63), GH.noB_ok (c.fact 64), GH.noB_ok (c.fact 65)⟩
  · exact (let ⟨fd, F⟩ := (c.defD 34 (d := ⟨fun K => He.ma K (He.ga K "Desk") "__init__", "__init__", "Desk.__init__", s_Desk_init, [.int 100], []⟩)); ⟨_, fd, He.mkr_ok (c.fact 66), F⟩)
  · exact (let ⟨fd, F⟩ := (c.def_ 35 (d := ⟨fun K => (He.ma K (He.ga K "Desk") "history"), "history", "Desk.history", s_Desk_history, [], []⟩)); ⟨_, fd, He.meth_ok (c.fact 67), F⟩)
  · exact (let ⟨fd, F⟩ := (c.def_ 36 (d := ⟨fun K => (He.ma K (He.ga K "Desk") "undo"), "undo", "Desk.undo", s_Desk_undo, [], []⟩)); ⟨_, fd, He.meth_ok (c.fact 68), F⟩)
  · exact (let ⟨fd, F⟩ := (c.def_ 37 (d := ⟨fun K => (He.ma K (He.ga K "Desk") "redo"), "redo", "Desk.redo", s_Desk_redo, [], []⟩)); ⟨_, fd, He.meth_ok (c.fact 69), F⟩)
  · exact (let ⟨fd, F⟩ := (c.def_ 38 (d := ⟨fun K => (He.ma K (He.ga K "Desk") "change"), "change", "Desk.change", s_Desk_change, [], []⟩)); ⟨_, fd, He.meth_ok (c.fact 70), F⟩)
  · exact (let ⟨fd, F⟩ := (c.def_ 39 (d := ⟨fun K => (He.ma K (He.ga K "Desk") "_enter"), "_enter", "Desk._enter", s_Desk_enter, [], []⟩)); ⟨_, fd, He.meth_ok (c.fact 71), F⟩)
  · exact (let ⟨fd, F⟩ := (c.def_ 40 (d := ⟨fun K => GH.propAt K (He.ma K (He.ga K "Desk") "present"), "present", "Desk.present", s_Desk_present, [], []⟩)); ⟨_, _, fd, GH.propB_ok (c.fact 72), F⟩)
  · exact (sides_of (He.glo_ok X G (c.fact 74)) (c.t _ (List.mem_of_getElem? (i := 0) rfl)) (c.fact 73))
  · exact ⟨He.glo_ok X G (c.fact 75), GH.oexB_ok (c.fact 76), L2.xfB_ok (c.fact 77), (of_decide_eq_true (c.fact 78)), (of_decide_eq_true (c.fact 79)), (of_decide_eq_true (c.fact 80)), let ⟨fd, F⟩ := (c.def_ 41 (d := ⟨fun K => (He.ma K (He.ga K "Barred") "__init__"), "__init__", "Barred.__init__", s_Barred_init, [], []⟩)); ⟨_, fd, (of_decide_eq_true (c.fact 81)), (of_decide_eq_true (c.fact 82)), F⟩⟩
  · exact ⟨(He.glo_ok X G (c.fact 83)), (He.glo_ok X G (c.fact 84)), (He.glo_ok X G (c.fact 85)), (He.free_ok X G (c.fact 86)), (of_decide_eq_true (c.fact 87)), (of_decide_eq_true (c.fact 88)), (of_decide_eq_true (c.fact 89)), (of_decide_eq_true (c.fact 90)), (of_decide_eq_true (c.fact 91)), (of_decide_eq_true (c.fact 92)), (of_decide_eq_true (c.fact 93)), (of_decide_eq_true (c.fact 94)), (of_decide_eq_true (c.fact 95)), (of_decide_eq_true (c.fact 96)), (of_decide_eq_true (c.fact 97))⟩
  · exact (lamF X G c 42 0 98)
end TK
theorem PySem.Challenge.cw_millbrook_k61_history_entries_holds : PySem.Challenge.rw_millbrook_k61_history_entries.Holds :=
  TK.head fun w mg fa h K X G hfa c => TK.at_head X G hfa c

