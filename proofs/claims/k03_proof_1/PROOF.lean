import PyProof.Rows.All
import Wide.All
import OpenK.AllK
import Wide.FinOn
import HandS.ForSpec
import HandS.ForMost
import HandS.ExcInit
import HandS.ExcValue
import HandS.ExcIs
import HandS.ExcField
import HandS.MakeKwOnly
import KE.KExcInit
import HandS.IsInst
import PyProof.ReprRoads
import HandS.Nested
import HandS.Iter
import KE.GoesMore
import HandS.Flow
import HandS.Walk
import HandS.DictComp
import HandS.Zip
import HandS.FStr
import HandS.Text
import HandS.TryOnly
import HandS.ExcOwn
import HandS.Defaults
import HandS.TupAny
import HandS.Conv
import PyProof.StrLawsRepr
import HandS.SetFor
import PyProof.Rows.CountFlat
import PyProof.Rows.FoldWordsD
import HandS.ClsMeth
import HandS.OwnEq
import HandS.RaiseMore
import HandS.Property
import HandS.Exc
import HandS.Deep
import HandS.Strs
import HandS.SortInts
import HandS.ExcInitHot
import HandS.RaiseFrom
import HandS.SuiteRaise
import KE.KStrOpen
import HandS.TupLe
import HandS.EndTab
import KE.KNestM
import PySem.Challenge.RW_tracebounds_k03_whole_texts_of_works
set_option Elab.async false
set_option linter.all false
set_option maxRecDepth 100000
set_option maxHeartbeats 4000000
/-! Errors of one's own, over any base, made by position or by name. -/
namespace PySem
namespace ErrV
open PySem.W PySem.Calls PyProof.Rows
open Builtin Builtin.ObjectAttr
/-- own classes in front, then the base's own row -/
def rowOver (B : List Value) : List Value → Bool
  | .ref _ :: r => rowOver B r
  | l => l == B
theorem rowOver_two (B l : List Value) (e : rowOver B l = true) :
    (∃ c r, l = .ref c :: r ∧ rowOver B r = true) ∨ l = B := by
  unfold rowOver at e
  split at e
  · exact .inl ⟨_, _, rfl, e⟩
  · exact .inr (beq_iff_eq.mp e)
/-- what is asked of the built-in base -/
structure BaseOk (B nw ini : String) (bm : List Value) : Prop where
  F : ExcBaseFacts B nw ini bm
  S : StoreFacts B bm "object.__setattr__" "object"
section
variable {B nw ini : String} {bm : List Value}
theorem rowOver_has (T : BaseOk B nw ini bm) (Y : String) :
    ∀ l : List Value, rowOver bm l = true → l.contains (.type Y) = bm.contains (.type Y) := by
  intro l
  induction l with
  | nil =>
    intro e
    rcases rowOver_two _ _ e with ⟨_, _, z, _⟩ | z
    · cases z
    · rw [z]
  | cons a r ih =>
    intro e
    rcases rowOver_two _ _ e with ⟨c, r1, z, h⟩ | z
    · obtain ⟨z1, z2⟩ := List.cons.inj z
      subst z1
      subst z2
      rw [List.contains_cons, ih h]
      rfl
    · rw [z]
theorem rowOver_lets (T : BaseOk B nw ini bm) (self : Value) :
    ∀ l : List Value, rowOver bm l = true → refuseLoop self "__setattr__" l = pure () := by
  intro l
  induction l with
  | nil =>
    intro e
    rcases rowOver_two _ _ e with ⟨_, _, z, _⟩ | z
    · cases z
    · rw [z]
      exact T.S.passes self
  | cons a r ih =>
    intro e
    rcases rowOver_two _ _ e with ⟨c, r1, z, h⟩ | z
    · obtain ⟨z1, z2⟩ := List.cons.inj z
      subst z1
      subst z2
      rw [refuseLoop_ref]
      exact ih h
    · rw [z]
      exact T.S.passes self
theorem rowOver_some (T : BaseOk B nw ini bm) {l : List Value} (e : rowOver bm l = true) : l.isEmpty = false := by
  cases l with
  | cons _ _ => rfl
  | nil =>
    have z := rowOver_has T B [] e
    rw [T.F.hasB] at z
    cases z
end
section
variable {prog : Program} {w : World} {A : Around} {E : Value → Shared → Prop} {R : Result → Shared → Prop}
variable {hp : Heap} {g : Array GenState} {d : Drawn} {t : Nat} {os : OsState} {B nw ini : String} {bmB : List Value}
/-- the object as BaseException.__new__ lays it -/
abbrev fresh (C u : Addr) (dd : Option Addr) : Obj :=
  { cls := .ref C, dict := dd, data := .fields #[.ref u, .none, .none, .none, .bool false, .none] }
/-- self.name = v where the error has no dict so far -/
theorem put_first {K : W.Frag} {name : Str} {tk : Tok} {v : Value} {x C u : Addr} {cd : ClassData} (T : BaseOk B nw ini bmB)
    (X : K.In hp) (hx : hp.get? x = some (fresh C u none)) (hcd : W.clsIn K C = some cd) (hm : rowOver bmB cd.mro = true)
    (hh : cd.hasDict = true) (ha : W.findIn K (.ref C) name = some none)
    (hq : ∀ h1 t1 dx, (∀ b o, b ≠ x → hp.get? b = some o → h1.get? b = some o) → hp.objs.size ≤ dx → dx ≠ x →
      h1.get? x = some (fresh C u (some dx)) → h1.Ns1 dx (fun y => if y = name then some v else none) →
      R (.ok (.ret .none)) ⟨h1, g, d, t1, os⟩) :
    codeAny (model prog w) A (.call (.builtin "object.__setattr__") ⟨[.ref x, .str name tk, v], []⟩) R ⟨hp, g, d, t, os⟩ := by
  have J : W.InstAt hp x (fresh C u none) C none := ⟨hx, rfl, rfl, trivial⟩
  have G := F.store_object
  have obj : cd.mro.contains (.type "object") = true := (rowOver_has T "object" _ hm).trans T.S.hasOwner
  have far : x ≠ hp.objs.size := Nat.ne_of_lt (Heap.lt_size hx)
  have of_obj : W.Looks (model prog w) hp (isInstance (.ref x) (.type "object")) true :=
    J.type.andThen (W.looks_mroIn X (by
      unfold W.mroIn
      rw [hcd, Option.bind_some, if_neg (by rw [rowOver_some T hm]; decide), obj]))
  refine codeAny_call_builtin G.slot.plain G.entry ?_
  refine @W.check_slot (model prog w) _ _ ⟨hp, g, d, t, os⟩ "object.__setattr__" "object" "__setattr__" (.ref x)
    [.str name tk, v] [] _ G.kind G.split of_obj (G.args (.ref x) (.str name tk) v) ?_
  have Lm : W.Looks (model prog w) hp (mroOf (.ref C)) cd.mro := (W.looks_clsIn X hcd).andThen .now
  have Lt : W.Looks (model prog w) hp (storeTaker? none) none := .now
  have Lc : W.Looks (model prog w) hp (classData C) cd := W.looks_clsIn X hcd
  rw [W.osa_eq, refuse_eq]
  refine wpAny_bind (wpAny_bind (J.type.at (wpAny_bind (Lm.at ?_))))
  rw [rowOver_lets T _ _ hm]
  refine wpAny_pure (wpAny_bind (J.type.at (wpAny_bind ((W.looks_findIn X ha).at (wpAny_bind (Lt.at ?_))))))
  show wpAny _ _ (storeInOwnDict (.ref x) (.ref C) (.str name tk) name v false) _ _ _
  obtain ⟨nm, bs, mro, ns, qn, hd, sn, sb, ab, col, del⟩ := cd
  dsimp only at hh
  subst hh
  unfold storeInOwnDict ownDictForStores
  repeat (first
    | with_reducible refine HandSPX.store_in_new ?_ ?_
    | with_reducible refine wpAny_loadPart_at hx ?_
    | with_reducible refine Lc.at ?_
    | wp_step)
  · refine ⟨_, #[], _, (Heap.get?_update_ne _ _ _ _ far.symm).trans (Heap.get?_push_at rfl rfl), rfl, ?_, fun _ => rfl⟩
    intro e he
    exact absurd he (by simp)
  · intro h1 t1 hn same
    have hx1 : (hp.push { cls := .type "dict", data := .dict #[] }).get? x = some (fresh C u none) := Heap.get?_push_of_some _ hx
    refine hq h1 t1 hp.objs.size (fun b o hb ho => ?_) (Nat.le_refl _) far.symm ?_ hn
    · refine (same.2 b (Nat.ne_of_lt (Heap.lt_size ho))).trans ?_
      exact (Heap.get?_update_ne _ _ _ _ hb).trans (Heap.get?_push_of_some _ ho)
    · exact (same.2 x far).trans (Heap.get?_update_self _ hx1 rfl)
end
/-! ### the class is called -/
section
variable {prog : Program} {w : World} {A : Around} {E : Value → Shared → Prop} {R : Result → Shared → Prop} {h : Heap}
variable {g : Array GenState} {d : Drawn} {t : Nat} {os : OsState} {M : Model}
variable {nm q : Str} {C N : Addr} {bs bm bmB : List Value} {hdct : Bool} {sn : List Str} {sub : List Value} {ab : Bool}
variable {col : Option Bool} {dd : Option Addr} {k0 k1 k2 k3 k5 : Option Value} {B nw ini : String}
variable {rest : List Value} {kw : List (Str × Value)}
theorem new_checked (F : ExcBaseFacts B nw ini bmB) (hT : ∀ Y : String, bm.contains (.type Y) = bmB.contains (.type Y)) {Q : Unit → Shared → Prop}
    (hC : h.get? C = some (excClassObj nm q C N bs bm hdct sn sub ab col dd k0 k1 k2 k3 k5 nw)) (hq : Q () ⟨h, g, d, t, os⟩) :
    wpAny M A (checkBuiltinCall nw ⟨.ref C :: rest, kw⟩) Q E ⟨h, g, d, t, os⟩ := by
  have inB : (Value.ref C :: bm).contains (.type B) = true := by
    rw [List.contains_cons, hT, F.hasB, Bool.or_true]
  have ns := F.noStar
  simp only [checkBuiltinCall, F.newKind, F.newSplit, F.newRow]
  repeat (first
    | refine wpAny_loadPart_at hC ?_
    | (refine wpAny_isSubtype_exc hC ?_; rw [inB])
    | refine wpAny_staticBase_exc hC ?_
    | refine wpAny_madeBy_exc hC ?_
    | simp only [bne_self_eq_false, Bool.false_eq_true, if_false]
    | wp_step)
  exact hq
theorem new_laid (F : ExcBaseFacts B nw ini bmB) (hT : ∀ Y : String, bm.contains (.type Y) = bmB.contains (.type Y))
    (hC : h.get? C = some (excClassObj nm q C N bs bm hdct sn sub ab col dd k0 k1 k2 k3 k5 nw)) (hrest : rest.length ≤ sizeLine)
    (hq : R (.ok (.ret (.ref (h.objs.size + 1)))) ⟨(h.push (W.kdv_tup rest)).push (fresh C h.objs.size none), g, d, t, os⟩) :
    codeAny (model prog w) A (.builtin nw ⟨.ref C :: rest, kw⟩) R ⟨h, g, d, t, os⟩ := by
  have ends := F.ends
  have inB : (Value.ref C :: bm).contains (.type B) = true := by
    rw [List.contains_cons, hT, F.hasB, Bool.or_true]
  have noA : (Value.ref C :: bm).contains (.type "AttributeError") = false := by
    rw [List.contains_cons, hT, F.noAttr]
    rfl
  have noN : (Value.ref C :: bm).contains (.type "NameError") = false := by
    rw [List.contains_cons, hT, F.noName]
    rfl
  refine codeAny_builtinAt F.entry ?_
  unfold Builtin.«BaseException.__new__»
  refine wpAt_bind ?_
  show wpAt _ _ _ (stack >>= _) _ _ _
  refine wpAt_bind (wpAt_stack fun p below => wpAt_of_wpAny ?_)
  wp_walk
  refine wpAt_of_wpAny ?_
  rw [F.owner]
  repeat (first
    | with_reducible refine wpAny_madeHere_exc F.canon hC ?_
    | with_reducible refine wpAny_loadPart_at hC ?_
    | (with_reducible refine wpAny_isSubtype_exc hC ?_; first | rw [inB] | rw [noA] | rw [noN])
    | wp_step)
  show R _ _
  rw [Heap.size_push]
  exact hq
theorem type_called (F : ExcBaseFacts B nw ini bmB) (hT : ∀ Y : String, bm.contains (.type Y) = bmB.contains (.type Y)) {fI : Addr} {Q : Fin → Shared → Prop}
    (hC : h.get? C = some (excClassObj nm q C N bs bm hdct sn sub ab col dd k0 k1 k2 k3 k5 nw)) (hrest : rest.length ≤ sizeLine)
    (hi : W.Looks (model prog w) h (typeLookup (.ref C) "__init__") (some (.ref fI)))
    (hb : ∀ self, W.Looks (model prog w) h (bindSpecial (.ref fI) self) (.ref fI, [self]))
    (hq : codeAny (model prog w) A (.call (.ref fI) ⟨.ref (h.objs.size + 1) :: rest, kw⟩)
      (fun r s1 => match r with
        | .ok (.ret v) => v = .none ∧ Q (.done (.ret (.ref (h.objs.size + 1)))) s1
        | .ok _ => False
        | .error e => E e s1)
      ⟨(h.push (W.kdv_tup rest)).push (fresh C h.objs.size none), g, d, t, os⟩) :
    wpAny (model prog w) A (Builtin.«type.__call__» ⟨.ref C :: rest, kw⟩) Q E ⟨h, g, d, t, os⟩ := by
  repeat (first
    | with_reducible refine wpAny_loadPart_at hC ?_
    | with_reducible refine wpAny_madeBy_exc hC ?_
    | wp_step)
  refine codeAny_call_builtin_code (Code.quiet_builtin _ F.quiet) (new_checked F hT hC ?_)
  refine new_laid F hT hC hrest ?_
  show wpAny _ _ _ _ _ _
  have k : ∀ b o, h.get? b = some o → ((h.push (W.kdv_tup rest)).push (fresh C h.objs.size none)).get? b = some o :=
    fun b o e => Heap.get?_push_of_some _ (Heap.get?_push_of_some _ e)
  have hC1 := k _ _ hC
  have at1 : ((h.push (W.kdv_tup rest)).push (fresh C h.objs.size none)).get? (h.objs.size + 1) = some (fresh C h.objs.size none) := by
    heap_get
  have inC : (Value.ref C :: bm).contains (.ref C) = true := by simp
  have i1 := hi.keeps k
  have b1 := (hb (.ref (h.objs.size + 1))).keeps k
  unfold isInstance
  repeat (first
    | with_reducible refine wpAny_loadPart_at at1 ?_
    | (with_reducible refine wpAny_isSubtype_exc hC1 ?_; rw [inC])
    | wp_step)
  show wpAny _ _ (typeLookup (.ref C) _) _ _ _
  refine i1.at ?_
  refine wpAny_holding (wpAny_bind (b1.at ?_))
  refine wpAny_bind (wpAny_call (codeAny_mono hq fun r s1 z => ?_))
  rcases r with e | (v | _ | _ | _) <;> first | exact z | exact z.elim | skip
  obtain ⟨rfl, z⟩ := z
  first
    | exact wpAny_pure (wpAny_pure z)
    | (wp_walk; exact z)
theorem call_checked {Q : Unit → Shared → Prop}
    (hC : h.get? C = some (excClassObj nm q C N bs bm hdct sn sub ab col dd k0 k1 k2 k3 k5 nw)) (hq : Q () ⟨h, g, d, t, os⟩) :
    wpAny M A (checkBuiltinCall "type.__call__" ⟨.ref C :: rest, kw⟩) Q E ⟨h, g, d, t, os⟩ := by
  have f3 := tc_sub
  have isT : (⟨h, g, d, t, os⟩ : Shared).TypeIs (.ref C) "type" := ⟨_, hC, rfl⟩
  simp only [checkBuiltinCall, tc_kind, tc_split]
  repeat (any_goals (first
    | assumption
    | with_reducible refine wpAny_loadPart_at hC ?_
    | with_reducible refine wpAny_onRaise ?_
    | with_reducible refine wpAny_map ?_
    | wp_step))
theorem class_called (F : ExcBaseFacts B nw ini bmB) (hT : ∀ Y : String, bm.contains (.type Y) = bmB.contains (.type Y)) {fI : Addr}
    (hC : h.get? C = some (excClassObj nm q C N bs bm hdct sn sub ab col dd k0 k1 k2 k3 k5 nw)) (hrest : rest.length ≤ sizeLine)
    (hi : W.Looks (model prog w) h (typeLookup (.ref C) "__init__") (some (.ref fI)))
    (hb : ∀ self, W.Looks (model prog w) h (bindSpecial (.ref fI) self) (.ref fI, [self]))
    (hq : codeAny (model prog w) (A.under (.builtin "type.__call__" ⟨.ref C :: rest, kw⟩)) (.call (.ref fI) ⟨.ref (h.objs.size + 1) :: rest, kw⟩)
      (W.InitBack (h.objs.size + 1) R) ⟨(h.push (W.kdv_tup rest)).push (fresh C h.objs.size none), g, d, t, os⟩) :
    codeAny (model prog w) A (.call (.ref C) ⟨rest, kw⟩) R ⟨h, g, d, t, os⟩ := by
  have f1 := tc_lookup
  have f2 := tc_bind (.ref C)
  have isT : (⟨h, g, d, t, os⟩ : Shared).TypeIs (.ref C) "type" := ⟨_, hC, rfl⟩
  refine codeAny_of_tree ?_
  show wpAny _ _ (callAny (.ref C) _) _ _ _
  repeat (any_goals (first
    | assumption
    | with_reducible refine wpAny_loadPart_at hC ?_
    | wp_step))
  refine ⟨rfl, ?_⟩
  refine codeAny_call_builtin_at (Code.quiet_builtin _ (by decide +kernel)) entry_typeCall ?_
  refine call_checked hC (type_called F hT hC hrest hi hb ?_)
  refine codeAny_mono hq fun r s1 z => ?_
  rcases r with e | (v | _ | _ | _) <;> exact z
end
end ErrV
end PySem
set_option Elab.async false
set_option linter.all false
set_option maxRecDepth 100000
set_option maxHeartbeats 4000000
namespace PySem
namespace ErrV
open PySem.W PySem.Calls PyProof.Rows
/-! ### the text of an error's __init__ -/
def eA (f : Str) (p1 p2 : Pos) : Arguments :=
  { posonlyargs := [], args := [{ arg := "self", annotation := none, pos := p1 }, { arg := f, annotation := none, pos := p2 }], vararg := none, kwonlyargs := [], kw_defaults := [], kwarg := none, defaults := [] }
def eB (f : Str) (q1 q2 q3 q4 : Pos) : List Stmt := [.Assign [.Attribute (.Name "self" q1) f q2] (.Name f q3) q4]
def eS (f : Str) : Scope :=
  { kind := .function, names := [(PySem.Str.ofString "self", .local), (f, .local)], isGenerator := false, isCoroutine := false, more := [] }
/-- what the written part says of an error's class, at C, and of its __init__, at fI -/
structure ErrC (K : Frag) (mg : Str → Option Value) (x f : Str) (C fI : Addr) (nw : String) (bmB : List Value) : Prop where
  gC : mg x = some (.ref C)
  cls : ∃ nm q N bs bm sn sub ab col dd k0 k1 k2 k3 k5,
    K.lookup C = some (excClassObj nm q C N bs bm true sn sub ab col dd k0 k1 k2 k3 k5 nw) ∧ rowOver bmB bm = true
  sa : findIn K (.ref C) "__setattr__" = some (some (.builtin "object.__setattr__"))
  noN : findIn K (.ref C) f = some none
  iC : findIn K (.ref C) "__init__" = some (some (.ref fI))
  tC : typeIn K (.ref fI) = some (.type "function")
  kC : keepIn K (.ref C) = true
  fn : ∃ (qual : Str) (oc : Value) (od : Option Addr) (doc pm : Value) (an : Option Addr) (cdv ct : Value) (osl : Array (Option Value)) (p1 p2 q1 q2 q3 q4 : Pos),
    K.lookup fI = some ⟨oc, od, .func (fnOf "__init__" qual (eA f p1 p2) (eB f q1 q2 q3 q4) (eS f) .none .none doc pm an cdv ct), osl⟩ ∧ codeIn K cdv qual = true
theorem ldL {M : Model} {s : Shared} {name : Str} {scope : Scope} {L a : Addr} {cd : Value} {m : Str → Option Value} {x : Str} {pos : Pos} {v : Value}
    {Q : Value → Shared → Prop} {A : Around} {E : Value → Shared → Prop} (hn : s.heap.Ns L m) (hv : m x = some v) (h : Q v s)
    (hk : scope.kind = .function := by rfl) (hl : (envOfC name scope L a cd).kindOf x = some .local := by rfl) (hd : (x == ("__debug__" : Str)) = false := by decide) :
    wpAny M A (eval (.Name x pos) (envOfC name scope L a cd)) Q E s :=
  wpAny_Name (wpAny_loadName_local hk hl hn hv h) hd
section
variable {prog : Program} {w : World} {A : Around} {E : Value → Shared → Prop} {R : Result → Shared → Prop} {s : Shared}
variable {K : Frag} {mg : Str → Option Value} {n f : Str} {C fI : Addr} {B nw ini : String} {bmB : List Value}
/-- __init__(self, f): self.f = f -/
theorem init_run (hf : f = "given" ∨ f = "index") (T : ErrC K mg n f C fI nw bmB) (Bo : BaseOk B nw ini bmB) {x t0 : Addr} {v : Value} {args : Args}
    (hargs : args = ⟨[.ref x, v], []⟩ ∨ args = ⟨[.ref x], [(f, v)]⟩)
    (X : K.In s.heap) (hlim : s.heap.NoLimit) (hx : s.heap.get? x = some (fresh C t0 none)) (hroom : A.depth < recursionLimit)
    (hq : ∀ h1 tk dx, (∀ b o, b ≠ x → s.heap.get? b = some o → h1.get? b = some o) → h1.get? x = some (fresh C t0 (some dx)) → s.heap.objs.size ≤ dx → dx ≠ x →
      h1.Ns1 dx (fun y => if y = f then some v else none) → R (.ok (.ret .none)) { s with heap := h1, toks := tk }) :
    codeAny (model prog w) A (.call (.ref fI) args) R s := by
  obtain ⟨qual, oc, od, doc, pm, an, cdv, ct, osl, p1, p2, q1, q2, q3, q4, ho, hcd⟩ := T.fn
  obtain ⟨nm, q, N, bs, bm, sn, sub, ab, col, dd, k0, k1, k2, k3, k5, hC, hbm⟩ := T.cls
  have hcl : clsIn K C = some { name := nm, bases := bs, mro := .ref C :: bm, ns := N, qualname := q, hasDict := true, slotNames := sn, subclasses := sub, abstract := ab, collection := col, hasDel := false } := by
    unfold clsIn
    rw [hC] <;> rfl
  have noN := T.noN
  have sa := T.sa
  clear T hC
  rcases hf with rfl | rfl
  · refine Att.call_fn (binds := [("self", .ref x), ("given", v)]) X hlim ho hcd hroom ?_ (by first | rfl | decide | with_unfolding_all rfl) (fun s1 IC => ?_) rfl rfl rfl
    · rcases hargs with rfl | rfl
      · exact BindsTo.of_eq (by first | rfl | with_unfolding_all rfl)
      · exact BindsTo.of_eq (by first | rfl | with_unfolding_all rfl)
    · obtain ⟨h1, tk1, rfl⟩ := IC.toInCall.same
      have k : ∀ b o, s.heap.get? b = some o → h1.get? b = some o := IC.toInCall.keep
      have hn := IC.toInCall.ns
      have far : s.heap.objs.size ≠ x := Nat.ne_of_gt (Heap.lt_size hx)
      have X1 : K.In h1 := X.keeps k
      have hx1 := k _ _ hx
      show wpAny _ _ (execs _ _) _ _ _
      refine wpAny_execs_cons (plainObj_wpAny_Assign_Attribute ?_)
      refine ldL (v := v) hn (by first | rfl | with_unfolding_all rfl | kernel_rfl) ?_
      refine ldL (v := .ref x) hn (by first | rfl | with_unfolding_all rfl | kernel_rfl) ?_
      refine set_plain X1 (ox := fresh C t0 none) (od := none) ⟨hx1, rfl, rfl, trivial⟩ sa ?_
      refine put_first Bo X1 hx1 hcl (show rowOver bmB (.ref C :: bm) = true from hbm) rfl noN (fun h3 tk3 dx k3 big ne hx3 hn3 => ?_)
      show wpAny _ _ (execs _ _) _ _ _
      have z : s.heap.objs.size < h1.objs.size := hn.lt
      exact wpAny_execs_nil (hq h3 tk3 dx (fun b o hb e => k3 b o hb (k b o e)) hx3 (Nat.le_of_lt (Nat.lt_of_lt_of_le z big)) ne hn3)
  · refine Att.call_fn (binds := [("self", .ref x), ("index", v)]) X hlim ho hcd hroom ?_ (by first | rfl | decide | with_unfolding_all rfl) (fun s1 IC => ?_) rfl rfl rfl
    · rcases hargs with rfl | rfl
      · exact BindsTo.of_eq (by first | rfl | with_unfolding_all rfl)
      · exact BindsTo.of_eq (by first | rfl | with_unfolding_all rfl)
    · obtain ⟨h1, tk1, rfl⟩ := IC.toInCall.same
      have k : ∀ b o, s.heap.get? b = some o → h1.get? b = some o := IC.toInCall.keep
      have hn := IC.toInCall.ns
      have far : s.heap.objs.size ≠ x := Nat.ne_of_gt (Heap.lt_size hx)
      have X1 : K.In h1 := X.keeps k
      have hx1 := k _ _ hx
      show wpAny _ _ (execs _ _) _ _ _
      refine wpAny_execs_cons (plainObj_wpAny_Assign_Attribute ?_)
      refine ldL (v := v) hn (by first | rfl | with_unfolding_all rfl | kernel_rfl) ?_
      refine ldL (v := .ref x) hn (by first | rfl | with_unfolding_all rfl | kernel_rfl) ?_
      refine set_plain X1 (ox := fresh C t0 none) (od := none) ⟨hx1, rfl, rfl, trivial⟩ sa ?_
      refine put_first Bo X1 hx1 hcl (show rowOver bmB (.ref C :: bm) = true from hbm) rfl noN (fun h3 tk3 dx k3 big ne hx3 hn3 => ?_)
      show wpAny _ _ (execs _ _) _ _ _
      have z : s.heap.objs.size < h1.objs.size := hn.lt
      exact wpAny_execs_nil (hq h3 tk3 dx (fun b o hb e => k3 b o hb (k b o e)) hx3 (Nat.le_of_lt (Nat.lt_of_lt_of_le z big)) ne hn3)
/-- a made error: at e, its dict at d -/
structure Made (h h1 : Heap) (e C d : Addr) (f : Str) (v : Value) : Prop where
  keep : ∀ b o, h.get? b = some o → h1.get? b = some o
  big : h.objs.size ≤ e
  obj : ∃ u, h1.get? e = some (fresh C u (some d))
  dbig : h.objs.size ≤ d
  ne : d ≠ e
  ns : h1.Ns1 d (fun y => if y = f then some v else none)
theorem err_made (hf : f = "given" ∨ f = "index") (T : ErrC K mg n f C fI nw bmB) (Bo : BaseOk B nw ini bmB) {v : Value} {rest : List Value} {kw : List (Str × Value)}
    (hargs : (rest = [v] ∧ kw = []) ∨ (rest = [] ∧ kw = [(f, v)])) (X : K.In s.heap) (hlim : s.heap.NoLimit) (hroom : A.depth + 1 < recursionLimit)
    (hq : ∀ h1 tk e d, Made s.heap h1 e C d f v → R (.ok (.ret (.ref e))) { s with heap := h1, toks := tk }) :
    codeAny (model prog w) A (.call (.ref C) ⟨rest, kw⟩) R s := by
  obtain ⟨nm, q, N, bs, bm, sn, sub, ab, col, dd, k0, k1, k2, k3, k5, hC, hbm⟩ := T.cls
  obtain ⟨hp, g, dr, tk, os⟩ := s
  have sz : rest.length ≤ sizeLine := by
    rw [sizeLine_eq]
    rcases hargs with ⟨rfl, _⟩ | ⟨rfl, _⟩
    · exact (by decide : 1 ≤ 16777216)
    · exact (by decide : 0 ≤ 16777216)
  have k : ∀ b o, hp.get? b = some o → ((hp.push (kdv_tup rest)).push (fresh C hp.objs.size none)).get? b = some o :=
    fun b o e => Heap.get?_push_of_some _ (Heap.get?_push_of_some _ e)
  have at1 : ((hp.push (kdv_tup rest)).push (fresh C hp.objs.size none)).get? (hp.objs.size + 1) = some (fresh C hp.objs.size none) := by heap_get
  refine class_called Bo.F (fun Y => rowOver_has Bo Y bm hbm) (X _ _ hC) sz (looks_findIn X T.iC) (fun self => bind_fn X self T.tC) ?_
  refine init_run (s := ⟨(hp.push (kdv_tup rest)).push (fresh C hp.objs.size none), g, dr, tk, os⟩) (x := hp.objs.size + 1) hf T Bo (v := v) ?_ (X.keeps k) (hlim.keeps k) at1 ?_ ?_
  · rcases hargs with ⟨rfl, rfl⟩ | ⟨rfl, rfl⟩
    · exact .inl rfl
    · exact .inr rfl
  · rw [L2.make_depth]
    exact hroom
  · intro h1 tk1 dx k1 hx big ne hns
    have old : ∀ b o, hp.get? b = some o → h1.get? b = some o :=
      fun b o e => k1 b o (Nat.ne_of_lt (Nat.lt_succ_of_lt (Heap.lt_size e))) (k b o e)
    have z : hp.objs.size + 1 + 1 ≤ dx := by
      have q := big
      simp only [Heap.size_push] at q
      exact q
    exact ⟨rfl, hq h1 tk1 (hp.objs.size + 1) dx ⟨old, Nat.le_succ _, ⟨_, hx⟩, Nat.le_trans (Nat.le_trans (Nat.le_succ _) (Nat.le_succ _)) z, ne, hns⟩⟩
end
/-! ### an error whose __init__ does nothing -/
def eA0 (p1 : Pos) : Arguments :=
  { posonlyargs := [], args := [{ arg := "self", annotation := none, pos := p1 }], vararg := none, kwonlyargs := [], kw_defaults := [], kwarg := none, defaults := [] }
def eS0 : Scope := { kind := .function, names := [(PySem.Str.ofString "self", .local)], isGenerator := false, isCoroutine := false, more := [] }
structure PassC (K : Frag) (mg : Str → Option Value) (x : Str) (C fI : Addr) (nw : String) (bmB : List Value) : Prop where
  gC : mg x = some (.ref C)
  cls : ∃ nm q N bs bm sn sub ab col dd k0 k1 k2 k3 k5,
    K.lookup C = some (excClassObj nm q C N bs bm true sn sub ab col dd k0 k1 k2 k3 k5 nw) ∧ rowOver bmB bm = true
  iC : findIn K (.ref C) "__init__" = some (some (.ref fI))
  tC : typeIn K (.ref fI) = some (.type "function")
  kC : keepIn K (.ref C) = true
  fn : ∃ (qual : Str) (oc : Value) (od : Option Addr) (doc pm : Value) (an : Option Addr) (cdv ct : Value) (osl : Array (Option Value)) (p1 q1 : Pos),
    K.lookup fI = some ⟨oc, od, .func (fnOf "__init__" qual (eA0 p1) [.Pass q1] eS0 .none .none doc pm an cdv ct), osl⟩ ∧ codeIn K cdv qual = true
section
variable {prog : Program} {w : World} {A : Around} {E : Value → Shared → Prop} {R : Result → Shared → Prop} {s : Shared}
variable {K : Frag} {mg : Str → Option Value} {n : Str} {C fI : Addr} {B nw ini : String} {bmB : List Value}
theorem pass_made (T : PassC K mg n C fI nw bmB) (Bo : BaseOk B nw ini bmB) (X : K.In s.heap) (hlim : s.heap.NoLimit) (hroom : A.depth + 1 < recursionLimit)
    (hq : ∀ h1 tk e u, (∀ b o, s.heap.get? b = some o → h1.get? b = some o) → s.heap.objs.size ≤ e → h1.get? e = some (fresh C u none) → R (.ok (.ret (.ref e))) { s with heap := h1, toks := tk }) :
    codeAny (model prog w) A (.call (.ref C) ⟨[], []⟩) R s := by
  obtain ⟨nm, q, N, bs, bm, sn, sub, ab, col, dd, k0, k1, k2, k3, k5, hC, hbm⟩ := T.cls
  obtain ⟨qual, oc, od, doc, pm, an, cdv, ct, osl, p1, q1, ho, hcd⟩ := T.fn
  obtain ⟨hp, g, dr, tk, os⟩ := s
  have k : ∀ b o, hp.get? b = some o → ((hp.push (kdv_tup [])).push (fresh C hp.objs.size none)).get? b = some o :=
    fun b o e => Heap.get?_push_of_some _ (Heap.get?_push_of_some _ e)
  have at1 : ((hp.push (kdv_tup [])).push (fresh C hp.objs.size none)).get? (hp.objs.size + 1) = some (fresh C hp.objs.size none) := by heap_get
  refine class_called Bo.F (fun Y => rowOver_has Bo Y bm hbm) (X _ _ hC) (by rw [sizeLine_eq]; exact (by decide : 0 ≤ 16777216)) (looks_findIn X T.iC) (fun self => bind_fn X self T.tC) ?_
  have room1 : (A.under (.builtin "type.__call__" ⟨.ref C :: [], []⟩)).depth < recursionLimit := by
    rw [L2.make_depth]
    exact hroom
  refine Att.call_fn (s := ⟨(hp.push (kdv_tup [])).push (fresh C hp.objs.size none), g, dr, tk, os⟩) (binds := [("self", .ref (hp.objs.size + 1))]) (X.keeps k) (hlim.keeps k) ho hcd room1 (BindsTo.of_eq (by first | rfl | with_unfolding_all rfl))
    (by first | rfl | decide | with_unfolding_all rfl) (fun s1 IC => ?_) rfl rfl rfl
  obtain ⟨h1, tk1, rfl⟩ := IC.toInCall.same
  have kk : ∀ b o, ((hp.push (kdv_tup [])).push (fresh C hp.objs.size none)).get? b = some o → h1.get? b = some o := IC.toInCall.keep
  show wpAny _ _ (execs [.Pass q1] _) _ _ _
  refine wpAny_execs_cons ?_
  have fin : InitBack (hp.objs.size + 1) R (.ok (.ret .none)) ⟨h1, g, dr, tk1, os⟩ :=
    ⟨rfl, hq h1 tk1 (hp.objs.size + 1) hp.objs.size (fun b o e => kk b o (k b o e)) (Nat.le_succ _) (kk _ _ at1)⟩
  first
    | exact wpAny_Pass (wpAny_execs_nil fin)
    | (wp_walk; exact fin)
end
end ErrV
end PySem
set_option Elab.async false
set_option linter.all false
set_option maxRecDepth 100000
set_option maxHeartbeats 4000000
/-! The hand layer's rules for errors held as values. -/
namespace L2
open PySem PySem.Spec PyProof.Rows PySem.ErrV
section
variable {fs ex : List Addr} {H : Hp} {h h1 : Heap} {a b : Addr} {o u : HO}
/-- two new objects at once -/
theorem Un.two (k : ∀ c z, h.get? c = some z → h1.get? c = some z) (ha : h.objs.size ≤ a) (hb : h.objs.size ≤ b) (na : H a = none) (nb : H b = none) :
    Un fs ex H (upd (upd H a o) b u) h h1 := by
  have oa : ∀ {c : Addr} {z : Obj}, h.get? c = some z → c ≠ a := fun {c z} q => Nat.ne_of_lt (Nat.lt_of_lt_of_le (Heap.lt_size q) ha)
  have ob : ∀ {c : Addr} {z : Obj}, h.get? c = some z → c ≠ b := fun {c z} q => Nat.ne_of_lt (Nat.lt_of_lt_of_le (Heap.lt_size q) hb)
  exact {
    keep := fun c z q _ _ _ => k c z q
    slot := fun c z q _ _ _ => ⟨z.slots, k c z q⟩
    free := fun c z q n _ => by
      rw [upd_ne (ob q), upd_ne (oa q)]
      exact n
    there := fun c z q _ => ⟨z, k c z q⟩
    tups := fun c xs q => by
      rw [upd_ne (ne_of_none q nb), upd_ne (ne_of_none q na)]
      exact q
    frzs := fun c z xs q => by
      rw [upd_ne (ne_of_none q nb), upd_ne (ne_of_none q na)]
      exact q
    tbls := fun c ps q => ⟨#[], by
      rw [upd_ne (ne_of_none q nb), upd_ne (ne_of_none q na), q]
      simp⟩ }
theorem HOk.two {P : Program} {w : World} (x : HOk P w H h) (k : ∀ c z, h.get? c = some z → h1.get? c = some z) (na : H a = none) (nb : H b = none) (ne : a ≠ b)
    (oka : ObjOk P w (upd (upd H a o) b u) h1 a o) (okb : ObjOk P w (upd (upd H a o) b u) h1 b u) : HOk P w (upd (upd H a o) b u) h1 := fun c z e => by
  by_cases cb : c = b
  · subst cb
    rw [upd_same] at e
    cases e
    exact okb
  · rw [upd_ne cb] at e
    by_cases ca : c = a
    · subst ca
      rw [upd_same] at e
      cases e
      exact oka
    · rw [upd_ne ca] at e
      have up : ∀ {y : Addr} {v : HO}, H y = some v → upd (upd H a o) b u y = some v := fun {y v} q => by
        rw [upd_ne (ne_of_none q nb), upd_ne (ne_of_none q na)]
        exact q
      exact (x c z e).stay (fun y v _ q => k y v q) (fun y q => up q) fun y xs q => up q
end
section
variable {X : Cx} {C fI : Addr} {x f : Str} {B nw ini : String} {bmB : List Value} {e : Expr} {p pos : Pos} {te : TE}
/-- C(e): a new error whose dict has the one field -/
def tErr (C : Addr) (f : Str) (te : TE) : TE := fun σ H Q => te σ H fun v H1 => ∀ a d, H1 a = none → H1 d = none → d ≠ a → Q (.ref a) (upd (upd H1 d (exd d [(f, v)])) a (exo a C (some d)))
theorem err_end {pins : List (Addr × Obj)} {σ : St} {H1 : Hp} {s1 : Shared} {h1 : Heap} {tk : Nat} {a d : Addr} {y : V} {u : Value} {Q : VK} (I : Inv X pins σ H1 s1) (ry : RelV y u) (m : Made s1.heap h1 a C d f u)
    (q : ∀ a d, H1 a = none → H1 d = none → d ≠ a → Q (.ref a) (upd (upd H1 d (exd d [(f, y)])) a (exo a C (some d)))) : EP X pins σ Q (.ref a) { s1 with heap := h1, toks := tk } := by
  have na : H1 a = none := I.hok.fresh m.big
  have nd : H1 d = none := I.hok.fresh m.dbig
  obtain ⟨t, ob⟩ := m.obj
  refine ⟨.ref a, _, I.un (t' := tk) (Un.two m.keep m.dbig m.big nd na) (I.hok.two m.keep nd na m.ne ?_ (exo_ok ob)), rfl, q a d na nd m.ne⟩
  exact exd_ok m.ns (relO_put (fs := []) ry fun g => True.intro)
theorem pe_err (hf : f = "given" ∨ f = "index") (T : ErrC X.K X.mg x f C fI nw bmB) (Bo : BaseOk B nw ini bmB) (hr : Room 1 X.A) (hg : Gl X x) (he : PE X e te)
    (hs : starEach [e] X.env = (false, eval e X.env) :: starEach [] X.env := by rfl) (hdb : (x == ("__debug__" : Str)) = false := by decide) :
    PE X (.Call (.Name x p) [e] [] pos) (tErr C f te) := by
  refine ⟨fun pins s σ H Q I h => ?_⟩
  refine wpAny_Call_Name_kw (ld_glob I hg T.gC ?_ hdb)
  refine PySem.W.callWith_K (h₀ := X.base) I.ok.mod.kin T.kC ?_ hs (by rfl)
  rw [hs]
  show wpAny _ _ (spliced ((false, eval e X.env) :: backTo pos (starEach [] X.env))) _ _ s
  refine Calls.spliced_cons (thn (he.run pins s σ H _ I h) fun u s1 ⟨v, H1, I1, r1, q1⟩ => ?_)
  refine Calls.spliced_nil ⟨I1.kIn, ?_⟩
  show wpAny _ _ (call (.ref C) [u]) _ _ _
  refine wpAny_call (err_made hf T Bo (v := u) (.inl ⟨rfl, rfl⟩) I1.kIn I1.nolimit (by have := hr.dp; omega) fun h1 tk a d m => ?_)
  exact err_end I1 r1 m q1
theorem pe_errK {kpos : Pos} (hf : f = "given" ∨ f = "index") (T : ErrC X.K X.mg x f C fI nw bmB) (Bo : BaseOk B nw ini bmB) (hr : Room 1 X.A) (hg : Gl X x) (he : PE X e te)
    (hall : (backToKw pos (keywordEach [⟨some f, e, kpos⟩] X.env)).all (·.1.isSome) = true := by rfl) (hks : (backToKw pos (keywordEach [⟨some f, e, kpos⟩] X.env)).filterMap (·.1) = [f] := by rfl)
    (hpl : ((backTo pos (starEach [] X.env)).any (·.1) || (backToKw pos (keywordEach [⟨some f, e, kpos⟩] X.env)).any (·.1.isNone)) = false := by rfl) (hdb : (x == ("__debug__" : Str)) = false := by decide) :
    PE X (.Call (.Name x p) [] [⟨some f, e, kpos⟩] pos) (tErr C f te) := by
  refine ⟨fun pins s σ H Q I h => ?_⟩
  refine wpAny_Call_Name_kw (ld_glob I hg T.gC ?_ hdb)
  refine PySem.W.callWith_KW0 (h₀ := X.base) I.ok.mod.kin T.kC hall ?_ hpl
  have hk : PK X [⟨some f, e, kpos⟩] (tCons te tNil) := pk_cons he pk_nil
  refine thn (hk.run pos pins s σ H (fun zs H2 => match zs with
    | [v] => ∀ a d, H2 a = none → H2 d = none → d ≠ a → Q (.ref a) (upd (upd H2 d (exd d [(f, v)])) a (exo a C (some d)))
    | _ => False) I h) fun ws s2 ⟨zs, H2, I2, rz, q2⟩ => ⟨I2.kIn, ?_⟩
  rw [hks]
  cases rz with
  | nil => exact q2.elim
  | @cons v u vs us rv rr =>
    cases rr with
    | cons _ _ => exact q2.elim
    | nil =>
      show wpAny _ _ (call (.ref C) [] [(f, u)]) _ _ _
      refine wpAny_call (err_made hf T Bo (v := u) (.inr ⟨rfl, rfl⟩) I2.kIn I2.nolimit (by have := hr.dp; omega) fun h1 tk a d m => ?_)
      exact err_end I2 rv m q2
end
section
variable {X : Cx} {e : Expr} {f : Str} {pos : Pos} {te : TE}
/-- e.f, e an error -/
def tEf (K : PySem.W.Frag) (f : Str) (te : TE) : TE := fun σ H Q => te σ H fun x H1 => ∃ (a C d : Addr) (fs : List (Str × V)) (v : V), x = .ref a ∧ XfC K C ∧ PySem.W.findIn K (.ref C) f = some none ∧
  H1 a = some (exo a C (some d)) ∧ H1 d = some (exd d fs) ∧ fs.lookup f = some v ∧ Q v H1
theorem pe_ef (he : PE X e te) (hb : attributeBase e f X.env (eval e X.env) = eval e X.env := by rfl) : PE X (.Attribute e f pos) (tEf X.K f te) := by
  refine ⟨fun pins s σ H Q I h => ?_⟩
  refine attr_of hb (thn (he.run pins s σ H _ I h) fun u s1 hh => ?_)
  obtain ⟨x, H1, I1, rx, a, C, d, fs, v, ex, T, hno, ea, ed, l, q⟩ := hh
  subst ex
  obtain rfl : u = Value.ref a := rx
  obtain ⟨t1, ho⟩ := exo_at I1.hok ea
  obtain ⟨mA, hns, hr⟩ := exd_at I1.hok ed
  obtain ⟨od, hd, hl⟩ := lookIn_ns hns
  obtain ⟨u, hu, ru⟩ := RelO.some_of (v := v) (o := mA f) (by rw [← l]; exact hr f)
  have J : PySem.W.InstAt s1.heap a _ C (some od) := ⟨ho, rfl, rfl, hd⟩
  exact HandSPX.exc_get I1.kIn J T.ga T.gg T.exC (PySem.W.findObj_own T.hdC hno rfl (by rw [hl, hu])) (handed_of ru) ⟨v, H1, I1.tok _, ru, q⟩
end
/-! ### isinstance of such a value -/
end L2
namespace PySem.W
open PySem PySem.Spec PySem.Calls PyProof.Rows
section
variable {prog : Program} {w : World} {A : Around} {E : Value → Shared → Prop} {s : Shared} {K : Frag} {x D : Addr} {ox : Obj} {od : Option Obj}
theorem data_found {C : Addr} {name : Str} {a g : Value} (hc : (clsIn K C).isSome = true) (ha : findIn K (.ref C) name = some (some a)) (hg : specialIn K a "__get__" = some (some g))
    (ht : takesIn K a = some true) : findObj K C od name = some (.bind g a) := by
  obtain ⟨cd, e⟩ := Option.isSome_iff_exists.mp hc
  unfold findObj
  rw [e, Option.bind_some, ha, Option.bind_some]
  simp only [hg, ht, Option.bind_some]
theorem errv_class {Q : Option Value → Shared → Prop} (c : L2.ExcC K D) (X : K.In s.heap) (I : InstAt s.heap x ox D od) (h : Q (some (.ref D)) { s with toks := s.toks + 1 }) :
    wpAny (model prog w) A (getAttr? (.ref x) "__class__") Q E s := by
  have hf : findObj K D od "__class__" = some (.bind (.builtin "getset_descriptor.__get__") (.builtin "object.__class__")) :=
    data_found (by obtain ⟨cd, hc, _⟩ := any_some c.hd; rw [hc]; rfl) c.ha c.hn c.ht
  obtain ⟨hp, g, d, t, os⟩ := s
  have ty := I.type (M := model prog w)
  have ga := looks_findIn (M := model prog w) X c.hg
  have gt := looks_findIn (M := model prog w) X c.hk
  have fd := looks_find (M := model prog w) X I hf
  have isB : Looks (model prog w) hp (isInstance (.ref x) (.type "BaseException")) true := ty.andThen (looks_subIn X c.hs)
  have n0 : (false && onTheHeap (Value.builtin "BaseException.__getattribute__")) = false := rfl
  have n2 : (Value.builtin "BaseException.__getattribute__" == Value.builtin "object.__getattribute__") = false := by decide +kernel
  have n1 : (onTheHeap (Value.ref D) && Value.builtin "BaseException.__getattribute__" == Value.builtin "object.__getattribute__") = false := by
    rw [n2]
    rfl
  unfold getAttr? getAttrBy? getAttrBy
  refine wpAny_bind (wpAny_mkText (wpAny_bind (wpAny_attempt (wpAny_holding (wpAny_bind (ty.at (wpAny_bind (ga.at ?_))))))))
  show wpAny _ _ (if (onTheHeap (Value.ref D) && Value.builtin "BaseException.__getattribute__" == Value.builtin "object.__getattribute__") = true then _ else _) _ _ _
  rw [n1, if_neg Bool.false_ne_true]
  unfold getAttrByItsOwn hookBefore
  refine wpAny_bind ?_
  rw [if_pos (show onTheHeap (Value.ref D) = true from rfl)]
  refine gt.at ?_
  refine wpAny_bind (wpAny_attempt (wpAny_holding ?_))
  unfold callGetattribute
  rw [n0, if_neg Bool.false_ne_true]
  unfold boundAndCalled
  rw [PySem.F.excAttr_ValueError.ga.bind (.ref x)]
  refine wpAny_bind (wpAny_pure ?_)
  show wpAny _ _ (call (.builtin "BaseException.__getattribute__") [.ref x, .str "__class__" t]) _ _ _
  refine wpAny_call (codeAny_call_builtin PySem.F.excAttr_ValueError.ga.plain PySem.F.entry_bexc_ga ?_)
  refine @check_slot (model prog w) _ _ ⟨hp, g, d, t + 1, os⟩ "BaseException.__getattribute__" "BaseException" "__getattribute__" (.ref x)
    [.str "__class__" t] [] _ (by decide +kernel) (by decide +kernel) isB (PySem.F.args_bexc_ga (.ref x) (.str "__class__" t)) ?_
  unfold Builtin.«object.__getattribute__»
  refine wpAny_bind (wpAny_of_eq (a := ((Value.ref x : Value), [Value.str "__class__" t])) (by first | rfl | (simp only [slotArgs]; rfl)) ?_)
  refine wpAny_bind (wpAny_pure (wpAny_bind (ty.at (wpAny_bind (fd.at ?_)))))
  show wpAny _ _ (holding [Value.builtin "object.__class__"] (call (.builtin "getset_descriptor.__get__") [.builtin "object.__class__", .ref x, .ref D]) >>= ret) _ _ _
  refine wpAny_bind (wpAny_holding (wpAny_call (class_get (s := ⟨hp, g, d, t + 1, os⟩) (ox := ox) (od := od) X I c.hm ?_)))
  refine wpAny_pure ?_
  show wpAny _ _ (handedOut (.ref D)) _ _ _
  rw [handedOut_of (v := .ref D) rfl]
  first
    | exact wpAny_pure (wpAny_pure h)
    | exact wpAny_pure h
    | exact wpAny_pure (wpAny_bind (wpAny_pure (wpAny_pure h)))
theorem errv_kit (c : L2.ExcC K D) : KitX K (.ref x) (.ref D) (fun h => ∃ ox od, InstAt h x ox D od) where
  ty := fun _ _ _ ⟨_, _, I⟩ => I.type
  it := fun _ _ X _ => by
    obtain ⟨cd, hc, _⟩ := any_some c.hd
    unfold clsIn at hc
    split at hc
    · rename_i ho
      intro A1 Q1 E1 s1 k q
      unfold isType loadHead
      exact wpAny_bind (wpAny_loadPart (k _ _ (X _ _ ho)) (wpAny_pure q))
    · cases hc
  ne := fun h tp dd its n sl X htp => by
    obtain ⟨cd, hc, _⟩ := any_some c.hd
    refine Bool.eq_false_iff.mpr fun q => ?_
    have e : D = tp := Value.ref.inj (beq_iff_eq.mp q)
    subst e
    unfold clsIn at hc
    split at hc
    · rename_i ho
      have z := (X _ _ ho).symm.trans htp
      cases z
    · cases hc
  ca := fun X ⟨_, _, I⟩ k => errv_class c X I k
end
end PySem.W
namespace L2
open PySem PySem.Spec PyProof.Rows PySem.ErrV
/-- isinstance(e, c), e an error that is held as a value -/
def rIsErr (K : PySem.W.Frag) : List V → Hp → VK → Prop := fun xs H Q => ∃ (a C : Addr) (d : Option Addr) (c : V) (cv : Value) (b : Bool), xs = [.ref a, c] ∧ H a = some (exo a C d) ∧ (∀ z, d = some z → ∃ fs, H z = some (exd z fs)) ∧ ExcC K C ∧
  ClsV c cv ∧ PySem.W.kitOne K (.ref C) cv = some b ∧ Q (.bl b) H
theorem call_isErr {X : Cx} : CallR X (.builtin "isinstance") (rIsErr X.K) := by
  intro pins s σ H xs us Q I r h
  obtain ⟨a, C, d, c, cv, b, rfl, ea, hd, c0, hcv, e, q⟩ := h
  cases r with
  | cons rx rr =>
    cases rr with
    | cons rt rr =>
      cases rr
      cases rx
      obtain ⟨t1, ho⟩ := exo_at I.hok ea
      have J : ∃ ox od, PySem.W.InstAt s.heap a ox C od := by
        cases d with
        | none => exact ⟨_, none, ho, rfl, rfl, trivial⟩
        | some z =>
          obtain ⟨o, eo⟩ := hd z rfl
          obtain ⟨_, ⟨oz, _, _, gz, _⟩, _⟩ := exd_at I.hok eo
          exact ⟨_, some oz, ho, rfl, rfl, gz⟩
      have ec := hcv.eq rt
      subst ec
      exact PySem.W.kia_one (PySem.W.errv_kit c0) I.kIn J e (fun z => nomatch z) fun tk => ⟨.bl b, H, I.kept (t' := tk) fun _ _ z => z, rfl, q⟩
end L2
set_option Elab.async false
set_option linter.all false
set_option maxRecDepth 100000
set_option maxHeartbeats 4000000
/-! repr of data that the hand layer tracks. -/
namespace L2
open PySem PySem.Spec PyProof.Rows
mutual
/-- x is the datum d, its lists and tuples standing in H -/
def rp (H : Hp) : PyData → V → Prop
  | .none, x => x = .non
  | .bool b, x => x = .bl b
  | .int i, x => x = .int i
  | .str z, x => x = .str z
  | .list ds, x => ∃ (a : Addr) (xs : List V), x = .ref a ∧ H a = some (.lst xs) ∧ rpAll H ds xs
  | .tuple ds, x => ∃ (a : Addr) (xs : List V), x = .ref a ∧ H a = some (.tup xs) ∧ rpAll H ds xs
  | .dict _, _ => False
def rpAll (H : Hp) : List PyData → List V → Prop
  | [], xs => xs = []
  | d :: ds, xs => ∃ (y : V) (ys : List V), xs = y :: ys ∧ rp H d y ∧ rpAll H ds ys
end
section
variable {P : Program} {w : World} {H : Hp} {h : Heap}
mutual
theorem rp_reads (ok : HOk P w H h) : ∀ (d : PyData) (x : V) (u : Value), rp H d x → RelV x u → d.hasDict = false ∧ ∃ as, Reads h u d as
  | .none, x, u, e, r => by
    unfold rp at e
    subst e
    obtain rfl : u = Value.none := r
    exact ⟨rfl, _, .none⟩
  | .bool b, x, u, e, r => by
    unfold rp at e
    subst e
    obtain rfl : u = Value.bool b := r
    exact ⟨rfl, _, .bool b⟩
  | .int i, x, u, e, r => by
    unfold rp at e
    subst e
    obtain ⟨t, rfl⟩ : ∃ t, u = Value.int i t := r
    exact ⟨rfl, _, .int i t⟩
  | .str z, x, u, e, r => by
    unfold rp at e
    subst e
    obtain ⟨t, rfl⟩ : ∃ t, u = Value.str z t := r
    exact ⟨rfl, _, .str z t⟩
  | .list ds, x, u, e, r => by
    unfold rp at e
    obtain ⟨a, xs, rfl, ea, q⟩ := e
    obtain rfl : u = Value.ref a := r
    obtain ⟨_, its, n, rv, g⟩ := (show ObjOk P w H h a (.lst xs) from ok a _ ea)
    obtain ⟨nd, as, R⟩ := rpAll_reads ok ds xs its q rv
    exact ⟨by simpa only [PyData.hasDict] using nd, _, .list g rfl rfl (by simpa using R)⟩
  | .tuple ds, x, u, e, r => by
    unfold rp at e
    obtain ⟨a, xs, rfl, ea, q⟩ := e
    obtain rfl : u = Value.ref a := r
    obtain ⟨_, its, rv, o, g, c, n, dd⟩ := (show ObjOk P w H h a (.tup xs) from ok a _ ea)
    obtain ⟨nd, as, R⟩ := rpAll_reads ok ds xs its q rv
    exact ⟨by simpa only [PyData.hasDict] using nd, _, .tuple g c dd (by simpa using R)⟩
  | .dict _, x, u, e, r => by
    unfold rp at e
    exact e.elim
theorem rpAll_reads (ok : HOk P w H h) : ∀ (ds : List PyData) (xs : List V) (us : List Value), rpAll H ds xs → Vals xs us → PyData.hasDictAll ds = false ∧ ∃ as, ReadsAll h us ds as
  | [], xs, us, e, r => by
    unfold rpAll at e
    subst e
    cases r
    exact ⟨rfl, _, .nil⟩
  | d :: ds, xs, us, e, r => by
    unfold rpAll at e
    obtain ⟨y, ys, rfl, e1, e2⟩ := e
    cases r with
    | cons r1 r2 =>
      obtain ⟨n1, as, R1⟩ := rp_reads ok d y _ e1 r1
      obtain ⟨n2, bs, R2⟩ := rpAll_reads ok ds ys _ e2 r2
      exact ⟨by simp only [PyData.hasDictAll, n1, n2, Bool.or_self], _, .cons R1 R2⟩
end
/-- a key of a dict as a datum -/
def kdat0 : Key → PyData
  | .inl i => .int i
  | .inr z => .str z
/-- a dict whose values are flat -/
def rpD (H : Hp) (d : PyData) (x : V) : Prop := ∃ (a : Addr) (kvs : List (Key × V)) (ds : List (PyData × PyData)), x = .ref a ∧ H a = some (.dK kvs) ∧ d = .dict ds ∧
  Paired (fun (p : Key × V) (q : PyData × PyData) => q.1 = kdat0 p.1 ∧ rp (fun _ => none) q.2 p.2) kvs ds
theorem key_reads {k : Key} {v : Value} (e : keyIs k v = true) : Reads h v (kdat0 k) [] := by
  rcases keyIs_shape e with ⟨i, t, rfl, rfl⟩ | ⟨z, t, rfl, rfl⟩
  · exact .int i t
  · exact .str z t
theorem nothing_ok : HOk P w (fun _ => none) h := fun a o e => by cases e
/-- flat data stand nowhere -/
theorem flat_reads {d : PyData} {x : V} {u : Value} (e : rp (fun _ => none) d x) (r : RelV x u) : Reads h u d [] := by
  cases d with
  | none =>
    unfold rp at e
    subst e
    obtain rfl : u = Value.none := r
    exact .none
  | bool b =>
    unfold rp at e
    subst e
    obtain rfl : u = Value.bool b := r
    exact .bool b
  | int i =>
    unfold rp at e
    subst e
    obtain ⟨t, rfl⟩ : ∃ t, u = Value.int i t := r
    exact .int i t
  | str z =>
    unfold rp at e
    subst e
    obtain ⟨t, rfl⟩ : ∃ t, u = Value.str z t := r
    exact .str z t
  | list ds =>
    unfold rp at e
    obtain ⟨a, xs, _, q, _⟩ := e
    cases q
  | tuple ds =>
    unfold rp at e
    obtain ⟨a, xs, _, q, _⟩ := e
    cases q
  | dict ds =>
    unfold rp at e
    exact e.elim
theorem rpD_reads (ok : HOk P w H h) {d : PyData} {x : V} {u : Value} (e : rpD H d x) (r : RelV x u) : ∃ as, sysModules ∉ as ∧ Reads h u d as := by
  obtain ⟨a, kvs, ds, rfl, ea, rfl, q⟩ := e
  obtain rfl : u = Value.ref a := r
  obtain ⟨_, sys, vs, kv, o, es, ep, g, ex, dd, _, prs, _⟩ := (show ObjOk P w H h a (.dK kvs) from ok a _ ea)
  have hc : o.cls = .type "dict" := ex.1
  have both : ∀ {l : List (Key × V)} {m : List (Key × Value)} {c : List (PyData × PyData)} {el : List DictEntry}, KV l m → Pairs (mixKind P w) el m →
      Paired (fun (p : Key × V) (q : PyData × PyData) => q.1 = kdat0 p.1 ∧ rp (fun _ => none) q.2 p.2) l c →
      ReadsAll h (el.map (·.key)) (c.map (·.1)) [] ∧ ReadsAll h (el.map (·.val)) (c.map (·.2)) [] := by
    intro l
    induction l with
    | nil =>
      intro m c el k1 k2 k3
      cases k1
      cases k2
      cases k3
      exact ⟨.nil, .nil⟩
    | cons p l ih =>
      intro m c el k1 k2 k3
      cases k1 with
      | cons ka kb =>
        cases k2 with
        | cons ia ib ic =>
          cases k3 with
          | cons ja jb =>
            obtain ⟨i1, i2⟩ := ih kb ic jb
            obtain ⟨k0, kr⟩ := ka
            obtain ⟨j0, jr⟩ := ja
            rw [← k0] at ia
            refine ⟨?_, ?_⟩
            · have z := ReadsAll.cons (j0 ▸ key_reads ia) i1
              simpa using z
            · have z := ReadsAll.cons (flat_reads jr (ib ▸ kr)) i2
              simpa using z
  obtain ⟨r1, r2⟩ := both kv prs q
  refine ⟨_, ?_, .dict g hc dd r1 r2⟩
  simp only [List.append_nil, List.mem_singleton]
  intro z
  rw [z, beq_self_eq_true] at sys
  cases sys
end
section
variable {X : Cx}
/-- repr(x), x data -/
def rRepr : List V → Hp → VK → Prop := fun xs H Q => ∃ (x : V) (d : PyData), xs = [x] ∧ (rp H d x ∨ rpD H d x) ∧ d.showable = true ∧ d.depth ≤ 100 ∧ d.shown.length ≤ sizeLine ∧ Q (.str d.shown) H
theorem call_repr_data (hg : X.A.guards = some []) (hu : X.A.units + 150 < cLine) : CallR X (.builtin "repr") rRepr := by
  intro pins s σ H xs us Q I r h
  obtain ⟨x, d, rfl, hd, sh, dp, sz, q⟩ := h
  obtain ⟨u, rfl, ru⟩ : ∃ u, us = [u] ∧ RelV x u := by
    cases r with
    | cons r1 r2 =>
      cases r2
      exact ⟨_, rfl, r1⟩
  obtain ⟨as, hs, R⟩ : ∃ as, (d.hasDict = true → sysModules ∉ as) ∧ Reads s.heap u d as := by
    rcases hd with hd | hd
    · obtain ⟨nd, as, R⟩ := rp_reads I.hok d x u hd ru
      exact ⟨as, PyData.noDict_hsm nd, R⟩
    · obtain ⟨as, nm, R⟩ := rpD_reads I.hok hd ru
      exact ⟨as, fun _ => nm, R⟩
  have byRef : ∀ {a : Addr}, u = .ref a → wpAny (model X.prog X.w) X.A (call (.builtin "repr") [u]) (EP X pins σ Q) X.xe s := fun {a} e => by
    subst e
    exact repr_of_reads' R sh hs hg (by omega) (fun _ _ z => z) (fun h1 v tk k => ⟨.str d.shown, H, I.kept (t' := tk) k, ⟨_, rfl⟩, q⟩) sz
  cases R with
  | none => exact PySem.P.repr_of_none ⟨.str _, H, I.tok _, ⟨_, rfl⟩, q⟩
  | bool b => exact PySem.P.repr_of_bool ⟨.str _, H, I.tok _, ⟨_, rfl⟩, q⟩
  | int i t => exact PySem.P.repr_of_int (by simpa only [PyData.showable, decide_eq_true_eq] using sh) ⟨.str _, H, I.tok _, ⟨_, rfl⟩, q⟩
  | str z t => exact PySem.P.repr_of_str ⟨.str _, H, I.tok _, ⟨_, rfl⟩, q⟩ sz
  | list => exact byRef rfl
  | tuple => exact byRef rfl
  | dict => exact byRef rfl
end
end L2
set_option Elab.async false
set_option linter.all false
set_option maxRecDepth 100000
set_option maxHeartbeats 4000000
/-! Defs that are called where no repr is under way (so that repr of lists and dicts may be asked in them). -/
namespace L2
open PySem PySem.Spec PyProof.Rows
/-- the def at f keeps the promise sp wherever it is called with no guard standing; nothing is raised out of it -/
structure FnG (P : Program) (w : World) (K : PySem.W.Frag) (mg : Str → Option Value) (base : Heap) (k : Nat) (f : Addr) (fd : FuncData) (ps : List Str) (sp : Sp) : Prop where
  len : ∀ vs H Q E, sp vs H Q E → vs.length = ps.length
  run : ∀ (A : Around) (outer : List Env) (s : Shared) (H : Hp) (args : Args) (us : List Value) (vs : List V) (Q : VK), A.guards = some [] → Room k A →
    Env0 P w K mg base A outer s H → BindsTo s fd args (ps.zip us) → Vals vs us → sp vs H Q E0 → codeAny (model P w) A (.call (.ref f) args) (CR CX0 outer P w H s Q E0) s
section
variable {P : Program} {w : World} {K : PySem.W.Frag} {mg : Str → Option Value} {base : Heap} {k : Nat} {f : Addr} {fd : FuncData} {N ps : List Str} {sp : Sp}
theorem FnOk.toG (F : FnOk P w K mg base CX0 k f fd ps sp) : FnG P w K mg base k f fd ps sp :=
  ⟨F.len, fun A outer s H args us vs Q _ hr e0 hb r h => F.run A outer s H args us vs Q E0 hr e0 hb r h⟩
theorem Fun.okG {x qual : Str} {st : Stmt} (F : Fun K x qual st f fd) (S : FnScope N ps (defScope st)) (len : ∀ vs H Q E, sp vs H Q E → vs.length = ps.length)
    (hbody : ∀ (cdv : Value) (A : Around) (outer : List Env) (s : Shared) (H : Hp) (vs : List V) (Q : VK), A.guards = some [] → Room k (A.deeper (envOfC qual (defScope st) s.heap.objs.size f cdv)) → sp vs H Q E0 →
      ∃ t, PSs (cxOf CX0 P w K mg base N qual (defScope st) f cdv A outer s H E0).nox (defBody st) t ∧ t { nx := fun _ H1 => Q .non H1, rt := Q } (start N vs) H) :
    FnG P w K mg base (k + 1) f fd ps sp := by
  obtain ⟨oc, od, kV, doc, pm, an, cdv, ct, osl, rfl, lk, hcd⟩ := F.ex
  refine ⟨len, fun A outer s H args us vs Q hg hr e0 hb r hsp => ?_⟩
  have hl := len _ _ _ _ hsp
  have up : ∀ b o, base.get? b = some o → s.heap.get? b = some o := fun b o e => (e0.bs b o e).1
  have X1 : K.In s.heap := e0.mod.kin.keeps up
  have nl : s.heap.NoLimit := e0.mod.nolimit.keeps up
  have slots : ∀ y ∈ ps.zip us, (defScope st).names.lookup y.1 = some .local ∨
      ((defScope st).names.lookup y.1 = some .cell ∧ ((cellsFrom (s.heap.objs.size + 1) (defScope st).names []).lookup y.1).isSome = true) := fun ⟨n, v⟩ hy =>
    (S.par n (List.of_mem_zip hy).1).elim (fun q => .inl q) fun q => .inr ⟨q, PySem.W.cellsFrom_some _ _ _ (.inl q)⟩
  refine codeAny_call_function hr.depth (X1 _ _ lk) rfl S.co S.gen rfl (PySem.W.codeRec_of X1 hcd) (hb _ _ _ _ ?_)
  refine wpAny_newFunctionEnv_cells S.kind slots fun env he s1 x1 => ?_
  subst he
  refine ⟨nl.keeps x1.toInCall.keep, codeAny_func ?_⟩
  obtain ⟨t, ht, hq⟩ := hbody cdv A outer s H vs Q hg (hr.deeper _) hsp
  have J : Inv (cxOf CX0 P w K mg base N qual (defScope st) f cdv A outer s H E0) [] (start N vs) H s1 := inv_start S hr.hd e0 hl r x1
  refine wpAny_mono (ht.nox.run [] s1 (start N vs) H _ J hq) (fun fl s2 hs => ?_) fun e s2 hs => hs
  cases fl with
  | ret u =>
    obtain ⟨v, σ1, H1, I1, rv, q⟩ := hs
    exact ⟨v, H1, I1.os, I1.bare, I1.base, I1.hok, rv, q⟩
  | next =>
    obtain ⟨σ1, H1, I1, q⟩ := hs
    exact ⟨.non, H1, I1.os, I1.bare, I1.base, I1.hok, rfl, q⟩
  | brk =>
    obtain ⟨_, _, _, q⟩ := hs
    exact q.elim
  | cont =>
    obtain ⟨_, _, _, q⟩ := hs
    exact q.elim
end
section
variable {X : Cx} {k : Nat} {f : Addr} {fd : FuncData} {ps : List Str} {sp : Sp} {x : Str} {p pos : Pos} {e : Expr} {es : List Expr} {t : TA}
theorem run_g {pins : List (Addr × Obj)} {σ : St} {H : Hp} {s : Shared} {Q : VK} {us : List Value} {vs : List V} (F : FnG X.prog X.w X.K X.mg X.base k f fd ps sp) (hg : X.A.guards = some []) (hr : Room k X.A) (hb : Binds X.K fd ps [])
    (I : Inv X pins σ H s) (r : Vals vs us) (h : sp vs H Q E0) : wpAny (model X.prog X.w) X.A (call (.ref f) us) (EP X pins σ Q) X.xe s := by
  have hl : us.length = ps.length := by
    rw [← r.length]
    exact F.len _ _ _ _ h
  have b := hb s us I.kIn (by rw [List.append_nil]; exact hl)
  rw [List.append_nil] at b
  refine wpAny_call (codeAny_mono (F.run X.A X.stack s H ⟨us, []⟩ us vs Q hg hr I.env0 b r h) fun r1 s1 hq => ?_)
  cases r1 with
  | error er => exact hq.elim
  | ok fl =>
    cases fl with
    | ret u => exact I.after hq
    | next => exact False.elim hq
    | brk => exact False.elim hq
    | cont => exact False.elim hq
/-- f(e, ..) of such a def -/
theorem pe_callNG (F : FnG X.prog X.w X.K X.mg X.base k f fd ps sp) (hgd : X.A.guards = some []) (hr : Room k X.A) (hg : Gl X x) (hm : X.mg x = some (.ref f)) (hk : PySem.W.keepIn X.K (.ref f) = true) (hb : Binds X.K fd ps [])
    (ha : PA X (e :: es) t) (hdb : (x == ("__debug__" : Str)) = false := by decide) (he : starEach (e :: es) X.env = (false, eval e X.env) :: starEach es X.env := by rfl)
    (hpl : (backTo pos (starEach es X.env)).any (·.1) = false := by rfl) : PE X (.Call (.Name x p) (e :: es) [] pos) (fun σ H Q => t σ H fun vs H1 => sp vs H1 Q E0) := by
  refine ⟨fun pins s σ H Q I h => ?_⟩
  refine wpAny_Call_Name_kw (ld_glob I hg hm ?_ hdb)
  exact PySem.W.callWith_K (h₀ := X.base) I.ok.mod.kin hk (thn (ha.run pos pins s σ H _ I h) fun us s1 ⟨vs, H1, I1, r, q⟩ => ⟨I1.kIn, run_g F hgd hr hb I1 r q⟩) he hpl
end
/-! ### the law's own call -/
section
variable {P : Program} {w : World} {K : PySem.W.Frag} {mg mb : Str → Option Value} {k : Nat} {fa a : Addr} {fd : FuncData} {x : Str} {sp : Sp} {s1 : Shared} {vs : List Value} {ns : List Int}
theorem law_callG_at (KX : K.In s1.heap) (hns : s1.heap.Ns mainGlobals mg) (hb : s1.heap.Ns builtinsNs mb) (hbb : ∀ y : Str, y ≠ "__name__" → mb y = bootBuiltins y) (hlim : s1.heap.NoLimit) (hgn : s1.gens = #[])
    (ha : s1.heap.get? a = some { cls := .type "list", data := .seq vs.toArray }) (hr : Room k callerA)
    (F : ∀ base : Heap, K.In base → base.Ns mainGlobals mg → FnG P w K mg base k fa fd [x] sp) (hbind : ∀ (s : Shared) (u : Value), BindsTo s fd ⟨[u], []⟩ [(x, u)])
    (H : Hp) (hO : Only H) (hsp : sp [.ref a] H (fun v _ => v = .bl true) E0) (hok : HOk P w H s1.heap) (hA : ∀ b, H b ≠ none → b = a) (hK : H a ≠ none → K.lookup a = none) :
    codeAny (model P w) callerA (.call (.ref fa) ⟨[.ref a], []⟩) (fun r s2 => r = .ok (.ret (.bool true)) ∧ OldK s1.heap s2.heap ∧ s2.os = s1.os ∧ AllBare s2.gens) s1 := by
  have stay : ∀ {b : Addr} {o : Obj}, s1.heap.get? b = some o → H b = none → (hidT s1.heap H).get? b = some o := fun e n => hidT_get e n
  have dictFree : ∀ {b : Addr} {o : Obj} {es : Array DictEntry} {ep : Nat}, s1.heap.get? b = some o → o.data = .dict es ep → H b = none := fun {b o es ep} e d => by
    cases q : H b with
    | none => rfl
    | some u =>
      obtain rfl : b = a := hA b (by rw [q]; simp)
      rw [ha] at e
      cases e
      exact absurd (show Data.seq vs.toArray _ = Data.dict es ep from d) (fun z => by cases z)
  have names : ∀ {b : Addr} {m : Str → Option Value}, s1.heap.Ns b m → (hidT s1.heap H).Ns b m := fun {b m} ⟨o, es, ep, e, d, r⟩ => ⟨o, es, ep, stay e (dictFree e d), d, r⟩
  have KB : K.In (hidT s1.heap H) := fun b o e => stay (KX b o e) (by
    cases q : H b with
    | none => rfl
    | some u =>
      obtain rfl : b = a := hA b (by rw [q]; simp)
      rw [hK (by rw [q]; simp)] at e
      cases e)
  have md : Mod K mg (hidT s1.heap H) := ⟨KB, names hns, ⟨mb, names hb, hbb⟩, let ⟨mc, h1, h2⟩ := hlim; ⟨mc, names h1, h2⟩⟩
  have start0 : Env0 P w K mg (hidT s1.heap H) callerA [] s1 H :=
    ⟨rfl, md, fun b o e => of_hidT e, Nat.le_of_eq (hidT_size _ _), trivial, fun b hb => absurd (show b ∈ ([] : List Addr) from hb) (by simp), hok, .of_eq hgn⟩
  refine codeAny_mono ((F _ KB (names hns)).run callerA [] s1 H ⟨[.ref a], []⟩ [.ref a] [.ref a] _ rfl hr start0 (hbind s1 (.ref a)) (.cons rfl .nil) hsp) fun r s2 h => ?_
  cases r with
  | error e => exact False.elim h
  | ok fl =>
    cases fl with
    | next => exact False.elim h
    | brk => exact False.elim h
    | cont => exact False.elim h
    | ret u =>
      obtain ⟨v, H2, os, bare, un, ok2, rv, q⟩ := h
      obtain rfl : v = .bl true := q
      obtain rfl : u = Value.bool true := rv
      refine ⟨rfl, OldK.of_keep fun b o e => ?_, os, bare⟩
      have nox : b ∉ ([] : List Addr) := by simp
      cases q : H b with
      | none => exact un.keep b o e q (fun z => absurd (show b ∈ ([] : List Addr) from z) nox) nox
      | some u =>
        rcases hO b with z | ⟨ob, xs, z⟩
        · rw [q] at z
          cases z
        · obtain ⟨e1, _⟩ := hok b _ z
          obtain ⟨e2, _⟩ := ok2 b _ (un.frzs b ob _ z)
          rw [e] at e1
          cases e1
          exact e2
theorem law_callG (KX : K.In s1.heap) (hns : s1.heap.Ns mainGlobals mg) (hb : s1.heap.Ns builtinsNs mb) (hbb : ∀ y : Str, y ≠ "__name__" → mb y = bootBuiltins y) (hlim : s1.heap.NoLimit) (hgn : s1.gens = #[])
    (ha : s1.heap.get? a = some { cls := .type "list", data := .seq vs.toArray }) (hi : IntsAre vs ns) (hl : ns.length ≤ sizeLine) (hr : Room k callerA)
    (F : ∀ base : Heap, K.In base → base.Ns mainGlobals mg → FnG P w K mg base k fa fd [x] sp) (hbind : ∀ (s : Shared) (u : Value), BindsTo s fd ⟨[u], []⟩ [(x, u)])
    (hsp : ∀ H : Hp, Only H → SqL K H a (ns.map V.int) → sp [.ref a] H (fun v _ => v = .bl true) E0) :
    codeAny (model P w) callerA (.call (.ref fa) ⟨[.ref a], []⟩) (fun r s2 => r = .ok (.ret (.bool true)) ∧ OldK s1.heap s2.heap ∧ s2.os = s1.os ∧ AllBare s2.gens) s1 := by
  have rv := vals_ints hi
  have lenV := hi.length
  cases hk : K.lookup a with
  | some o =>
    have e := KX a o hk
    rw [ha] at e
    cases e
    have only : Only (fun _ => none) := fun _ => .inl rfl
    have told : SqL K (fun _ => none) a (ns.map V.int) :=
      .inr ⟨_, vs.toArray, _, hk, rfl, rfl, rfl, by rw [List.size_toArray, lenV]; exact hl, by simpa using rv⟩
    exact law_callG_at KX hns hb hbb hlim hgn ha hr F hbind (fun _ => none) only (hsp _ only told) (fun b u z => by cases z) (fun b z => absurd rfl z) fun z => absurd rfl z
  | none =>
    let H : Hp := fun b => if b = a then some (.frz { cls := .type "list", data := .seq vs.toArray } (.lst (ns.map V.int))) else none
    have at_a : H a = some (.frz { cls := .type "list", data := .seq vs.toArray } (.lst (ns.map V.int))) := if_pos rfl
    have off : ∀ {b : Addr}, b ≠ a → H b = none := fun hb => if_neg hb
    have only : Only H := fun b => by
      by_cases hb : b = a
      · exact .inr ⟨_, _, if_pos hb⟩
      · exact .inl (off hb)
    refine law_callG_at KX hns hb hbb hlim hgn ha hr F hbind H only (hsp H only (.inl (.inr ⟨_, at_a⟩))) (fun b u z => ?_) (fun b z => ?_) fun _ => hk
    · by_cases hb : b = a
      · subst hb
        rw [at_a] at z
        cases z
        exact ⟨ha, by rw [List.length_map]; exact hl, vs, _, rv, ha⟩
      · rw [off hb] at z
        cases z
    · by_cases hb : b = a
      · exact hb
      · exact absurd (off hb) z
end
theorem walk_ofG {l : PySem.W.OpenLaw} {n k : Nat} {q : Program} {loose : List Str} {XP : (Str → Option Value) → Heap → Prop} {YP : World → Heap → Prop} {d : DefRec} {K : Params → PySem.W.Frag} {sp : PySem.W.Frag → Sp} {x : Str}
    (hn : l.most = some n) (hn2 : n ≤ sizeLine) (hdf : d.params.defaults = []) (hr : Room k callerA) (hY : ∀ (w : World) (h : Heap), YP w h → (K w.params).In h)
    (F : ∀ (w : World) (mg : Str → Option Value) (fa : Addr) (h : Heap), (K w.params).In h → h.Ns mainGlobals mg → mg d.name = some (.ref fa) →
      ∃ fd : FuncData, (∀ (s : Shared) (u : Value), BindsTo s fd ⟨[u], []⟩ [(x, u)]) ∧
        ∀ base : Heap, (K w.params).In base → base.Ns mainGlobals mg → FnG l.prog w (K w.params) mg base k fa fd [x] (sp (K w.params)))
    (hsp : ∀ (K : PySem.W.Frag) (H : Hp) (a : Addr) (ns : List Int), ns.length ≤ n → Only H → SqL K H a (ns.map V.int) → sp K [.ref a] H (fun v _ => v = .bl true) E0) :
    PySem.W.WalkO q loose XP YP l.row.toRowW d [] (fun f vs => PySem.call f vs) := by
  refine Att.attach_call hn hdf fun w s₀ s₁ mg mb fa o pm cd doc a vs ns G Y ho hd hcd hmg hobj hints hlen hgn => ?_
  have KX := hY w _ Y
  obtain ⟨fd, hb, hF⟩ := F w mg fa _ KX G.T.g hmg
  exact law_callG KX G.T.g G.T.b G.T.builtins G.T.nolimit hgn hobj hints (Nat.le_trans hlen hn2) hr hF hb fun H hO hS => hsp (K w.params) H a ns hlen hO hS
end L2
set_option Elab.async false
set_option linter.all false
set_option maxRecDepth 100000
set_option maxHeartbeats 4000000
namespace L2
open PySem PySem.Spec PyProof.Rows PySem.ErrV
section
variable {X : Cx} {C fI : Addr} {x : Str} {B nw ini : String} {bmB : List Value} {p pos : Pos}
/-- C(), no __init__ of its own -/
theorem pe_bare (F : ExcBaseFacts B nw ini bmB) (q : PySem.W.excIn X.K C bmB nw = true) (gC : X.mg x = some (.ref C)) (kC : PySem.W.keepIn X.K (.ref C) = true) (hg : Gl X x) (hdb : (x == ("__debug__" : Str)) = false := by decide) :
    PE X (.Call (.Name x p) [] [] pos) (fun σ H Q => ∀ a, H a = none → Q (.ref a) (upd H a (exo a C none))) := by
  refine ⟨fun pins s σ H Q I h => ?_⟩
  refine wpAny_Call_Name_kw (ld_glob I hg gC ?_ hdb)
  refine PySem.W.callWith_K0 I.kIn kC ?_
  show wpAny _ _ (call (.ref C) []) _ _ _
  obtain ⟨bm, N, nm, qn, bs, hdct, sn, sub, ab, col, dd, k0, k1, k2, k3, k5, mN, hC, hN, hni, T⟩ := exc_obj I.kIn q
  refine wpAny_call_exc_subT F T hC hN hni (fun h1 a hm => ?_) (by show 0 ≤ sizeLine; exact Nat.zero_le _)
  have hn : H a = none := I.hok.gone hm.new
  obtain ⟨t, ht, _, _⟩ := hm.there
  exact ⟨.ref a, upd H a (exo a C none), I.laidN hm.keeps hm.new hn (exo_ok ht), rfl, h a hn⟩
/-- C(), __init__ does nothing -/
theorem pe_pass0 (T : PassC X.K X.mg x C fI nw bmB) (Bo : BaseOk B nw ini bmB) (hr : Room 1 X.A) (hg : Gl X x) (hdb : (x == ("__debug__" : Str)) = false := by decide) :
    PE X (.Call (.Name x p) [] [] pos) (fun σ H Q => ∀ a, H a = none → Q (.ref a) (upd H a (exo a C none))) := by
  refine ⟨fun pins s σ H Q I h => ?_⟩
  refine wpAny_Call_Name_kw (ld_glob I hg T.gC ?_ hdb)
  refine PySem.W.callWith_K0 I.kIn T.kC ?_
  show wpAny _ _ (call (.ref C) []) _ _ _
  refine wpAny_call (pass_made T Bo I.kIn I.nolimit (by have := hr.dp; omega) fun h1 tk a u k big ho => ?_)
  exact ⟨.ref a, upd H a (exo a C none), I.laid (t' := tk) k big (exo_ok ho), rfl, h a (I.hok.fresh big)⟩
end
/-- ways joined: what is wanted of an expression, said in between -/
def tJoin0 (te : TE) : TE := fun σ H Q => ∃ R : VK, te σ H R ∧ ∀ v H1, R v H1 → Q v H1
theorem pe_join0 {X : Cx} {e : Expr} {te : TE} (he : PE X e te) : PE X e (tJoin0 te) := ⟨fun pins s σ H Q I h => by
  obtain ⟨R, h1, h2⟩ := h
  exact thn (he.run pins s σ H R I h1) fun u s1 ⟨v, H1, I1, r, q⟩ => ⟨v, H1, I1, r, h2 v H1 q⟩⟩
end L2
set_option Elab.async false
set_option linter.all false
set_option maxRecDepth 100000
set_option maxHeartbeats 8000000
/-! Lambdas as values: with parameters, with captured names; made anywhere, handed on, called in the def that got them. -/
namespace LamV
open PySem PySem.Spec PyProof.Rows L2
open LamX (CodeO ExtN TabB)
open NdefX (NF NTab TabN TabsN CellsAt NScope startF ncx envF)
/-- there stands a lambda with the words of F and this body -/
def Stands (f : Addr) (F : NF) (body : Expr) (h : Heap) : Prop :=
  ∃ (d : Option Addr) (z : Array (Option Value)) (m t : Value), h.get? f = some ⟨.type "function", d, .func (PySem.W.kla_fn F.name F.qual F.params body F.scope F.cl m (.ref F.c) t), z⟩
def LnO (f : Addr) (F : NF) (body : Expr) : HO := .ext (Stands f F body)
theorem stands {P : Program} {w : World} {H : Hp} {h : Heap} {f : Addr} {F : NF} {body : Expr} (k : HOk P w H h) (e : H f = some (LnO f F body)) : Stands f F body h := (k f _ e).1
theorem LnO.tbl {f : Addr} {F : NF} {body : Expr} {ps : Array Value} : LnO f F body ≠ .tbl ps := fun z => nomatch (show HO.ext _ = HO.tbl _ from z)
theorem CodeO.tbl {c : Addr} {q : Str} {ps : Array Value} : CodeO c q ≠ .tbl ps := fun z => nomatch (show HO.ext _ = HO.tbl _ from z)
theorem Gone.upd {H : Hp} {a b : Addr} {o : HO} (e : L2.upd H a o b = none) : H b = none := by
  by_cases z : b = a
  · rw [z, upd_same] at e
    cases e
  · rwa [upd_ne z] at e
/-- the table of a def tells one code object more -/
theorem tabs_more {T : List NTab} {H H1 : Hp} {P c1 : Addr} {nm : Nat → Nat → Str} {ps : Array Value} {pos : Pos} (hT : TabsN T H) (me : H P = some (.tbl ps)) (ok : TriplesOk ps.toList) (only : ∀ r ∈ T, r.1 = P → r.2 = nm) (new : H c1 = none)
    (e1 : H1 = L2.upd (L2.upd H P (.tbl (ps ++ #[rawInt pos.line, rawInt pos.col, .ref c1]))) c1 (CodeO c1 (nm pos.line pos.col))) : TabsN T H1 ∧ ExtN H H1 := by
  have ext : ExtN H H1 := by
    intro b o eb nb
    have x1 : b ≠ c1 := ne_of_none eb new
    have x2 : b ≠ P := by
      rintro rfl
      exact nb ps (Option.some.inj (eb.symm.trans me))
    rw [e1, upd_ne x1, upd_ne x2, eb]
  have atC : H1 c1 = some (CodeO c1 (nm pos.line pos.col)) := by rw [e1, upd_same]
  refine ⟨fun r hr => ?_, ext⟩
  obtain ⟨qs, a1, a2, a3⟩ := hT r hr
  have old : ∀ {p2 : Pos} {v : Value}, codeAmong p2 qs.toList = some v → ∃ c, v = .ref c ∧ H1 c = some (CodeO c (r.2 p2.line p2.col)) := fun {p2 v} hv => by
    obtain ⟨c, ev, ec⟩ := a3 p2 v hv
    exact ⟨c, ev, ext c _ ec fun _ => CodeO.tbl⟩
  by_cases z : r.1 = P
  · have ep : qs = ps := by
      rw [z, me] at a1
      exact (HO.tbl.inj (Option.some.inj a1)).symm
    have lt : (ps ++ #[rawInt pos.line, rawInt pos.col, .ref c1]).toList = ps.toList ++ [rawInt pos.line, rawInt pos.col, .ref c1] := by simp
    refine ⟨ps ++ #[rawInt pos.line, rawInt pos.col, .ref c1], ?_, ?_, fun p2 v hv => ?_⟩
    · rw [e1, z, upd_ne (ne_of_none me new), upd_same]
    · rw [lt]
      exact TriplesOk_snoc _ _ _ _ ok
    · rw [lt] at hv
      rcases NdefX.among_app2 _ ok hv with w1 | ⟨w1, w2, w3⟩
      · rw [← ep] at w1
        exact old w1
      · refine ⟨c1, w1, ?_⟩
        rw [only r hr z, ← w2, ← w3]
        exact atC
  · have nC : r.1 ≠ c1 := ne_of_none a1 new
    refine ⟨qs, ?_, a2, fun p2 v hv => old hv⟩
    rw [e1, upd_ne nC, upd_ne z, a1]
/-- the words of a lambda of X's def -/
def lamF (X : Cx) (params : Arguments) (scope : Scope) (c1 : Addr) : NF where
  name := "<lambda>"
  qual := X.env.qual ++ "<lambda>"
  params := params
  body := []
  scope := scope
  cl := cloFrom X.env.cells scope.names []
  c := c1
/-- a lambda was made: the new function at f, its code object at c1 -/
structure Born (X : Cx) (pins : List (Addr × Obj)) (σ : L2.St) (T : List NTab) (H : Hp) (F : NF) (body : Expr) (f : Addr) (H1 : Hp) (s1 : Shared) : Prop where
  inv : Inv X pins σ H1 s1
  ext : ExtN H H1
  gone : ∀ b, H1 b = none → H b = none
  tabs : TabsN T H1
  was : H f = none
  fn : H1 f = some (LnO f F body)
  code : H1 F.c = some (CodeO F.c F.qual)
section
variable {X : Cx} {pins : List (Addr × Obj)} {σ : L2.St} {H H1 : Hp} {s s1 : Shared} {T : List NTab}
/-- the push of the function object, behind the code object's making -/
theorem Born.push {F : NF} {body : Expr} {m t : Value} {k : Nat} (I : Inv X pins σ H1 s1) (x : ExtN H H1) (g : ∀ b, H1 b = none → H b = none) (hT : TabsN T H1) (hc : H1 F.c = some (CodeO F.c F.qual)) :
    Born X pins σ T H F body s1.heap.objs.size (L2.upd H1 s1.heap.objs.size (LnO s1.heap.objs.size F body))
      { s1 with heap := s1.heap.push (PySem.W.kla_obj F.name F.qual F.params body F.scope F.cl m F.c t), toks := k } := by
  have free : H1 s1.heap.objs.size = none := I.hok.fresh (Nat.le_refl _)
  have up : ∀ b o, H1 b = some o → L2.upd H1 s1.heap.objs.size (LnO s1.heap.objs.size F body) b = some o := fun b o e => by
    rw [upd_ne (ne_of_none e free), e]
  have here : Stands s1.heap.objs.size F body (s1.heap.push (PySem.W.kla_obj F.name F.qual F.params body F.scope F.cl m F.c t)) := ⟨_, _, m, t, Heap.get?_push_size _ rfl⟩
  refine ⟨I.laid (fun b u e => Heap.get?_push_of_some _ e) (Nat.le_refl _) ⟨here, ?_, ?_⟩, fun b o e n => up b o (x b o e n), fun b e => g b (Gone.upd e), hT.ext up, g _ free, upd_same, up _ _ hc⟩
  · obtain ⟨_, _, _, _, e⟩ := here
    exact ⟨_, e⟩
  · rintro g1 g2 ⟨d, z, m1, t1, e⟩ keep
    exact ⟨d, z, m1, t1, keep _ e⟩
theorem lam_born {nm : Nat → Nat → Str} {c P : Addr} {params : Arguments} {body : Expr} {scope : Scope} {pos : Pos} {E : Value → Shared → Prop} {Q : Value → Shared → Prop} (I : Inv X pins σ H s) (B : TabB X.base X.mg c P) (ec : X.env.code = .ref c)
    (inT : (P, nm) ∈ T) (name : nm pos.line pos.col = X.env.qual ++ "<lambda>") (only : ∀ r ∈ T, r.1 = P → r.2 = nm) (hT : TabsN T H) (nodef : defaultsOf params X.env = ([], [])) (caps : ∀ y ∈ scope.names, y.2 = .free → ∃ c, X.env.cells.lookup y.1 = some c)
    (k : ∀ (f c1 : Addr) (H1 : Hp) (s1 : Shared), Born X pins σ T H (lamF X params scope c1) body f H1 s1 → Q (.ref f) s1) :
    wpAny (model X.prog X.w) X.A (eval (.Lambda params body scope pos) X.env) Q E s := by
  have tn : TabN H P nm := hT _ inT
  obtain ⟨ps, tb, ok, told⟩ := tn
  have real := I.hok P _ tb
  have mods := I.mod.glob.keeps I.bk
  have bl := B.bm.keeps I.bk
  have hd := B.code.keeps I.bk
  apply PySem.W.kla_eval nodef
  match hc : codeAmong pos ps.toList with
  | some v =>
    obtain ⟨c1, rfl, e1⟩ := told pos v hc
    rw [name] at e1
    exact PySem.W.kla_makeFunctionHit (closure_ok caps) I.ok.glob mods ec hd real ok hc bl fun t h1 k1 up _ =>
      k _ c1 _ _ (Born.push (F := lamF X params scope c1) (I.kept (t' := k1) up) (ExtN.refl H) (fun _ e => e) hT e1)
  | none =>
    refine PySem.W.kla_makeFunction (closure_ok caps) I.ok.glob mods ec hd real ok hc B.gP bl fun c1 t h1 k1 up lo hi rec tab => ?_
    obtain ⟨_, o, vs, n, ce, q1, q2, q3⟩ := rec
    cases ce
    have new : H c1 = none := I.hok.fresh lo
    have J := LamX.inv_table (t' := k1) I tb (fun b o nb e => up b o nb e) tab lo ⟨o, vs, n, q1, q2, q3⟩
    obtain ⟨t1, x1⟩ := tabs_more (pos := pos) hT tb ok only new rfl
    rw [name] at t1 x1
    exact k _ c1 _ _ (Born.push (F := lamF X params scope c1) J x1 (fun b e => Gone.upd (Gone.upd e)) t1 upd_same)
end
/-- a lambda's reading -/
def tLamE (T : List NTab) (mk : Addr → NF) (body : Expr) : TE := fun _ H Q => TabsN T H ∧ ∀ (f c1 : Addr) (H1 : Hp), ExtN H H1 → (∀ b, H1 b = none → H b = none) → TabsN T H1 → H f = none → H1 f = some (LnO f (mk c1) body) →
  H1 (mk c1).c = some (CodeO (mk c1).c (mk c1).qual) → Q (.ref f) H1
theorem pe_lam {X : Cx} {T : List NTab} {nm : Nat → Nat → Str} {c P : Addr} {params : Arguments} {body : Expr} {scope : Scope} {pos : Pos} (B : TabB X.base X.mg c P) (ec : X.env.code = .ref c) (inT : (P, nm) ∈ T) (name : nm pos.line pos.col = X.env.qual ++ "<lambda>")
    (only : ∀ r ∈ T, r.1 = P → r.2 = nm) (nodef : defaultsOf params X.env = ([], [])) (caps : ∀ y ∈ scope.names, y.2 = .free → X.env.scope.names.lookup y.1 = some .cell ∨ X.env.scope.names.lookup y.1 = some .free) :
    PE X (.Lambda params body scope pos) (tLamE T (lamF X params scope) body) where
  run _ _ _ _ _ I h := lam_born I B ec inT name only h.1 nodef (fun y hy e => I.ok.has _ (caps y hy e)) fun f c1 H1 _ b => ⟨.ref f, H1, b.inv, rfl, h.2 f c1 H1 b.ext b.gone b.tabs b.was b.fn b.code⟩
/-! ### its promise -/
/-- the lambda stands at f, its captured names hold ws -/
structure Ready (f : Addr) (F : NF) (body : Expr) (fr : List Str) (ws : List (Option V)) (h : Heap) (H : Hp) : Prop where
  fn : H f = some (LnO f F body)
  code : H F.c = some (CodeO F.c F.qual)
  cells : CellsAt F.cl fr ws h H
structure LOk (P : Program) (w : World) (K : PySem.W.Frag) (mg : Str → Option Value) (base : Heap) (CX : CXT) (k : Nat) (f : Addr) (F : NF) (body : Expr) (n : Nat) (fr : List Str) (sp : List (Option V) → Sp) : Prop where
  many : ∀ {ws vs H Q E}, sp ws vs H Q E → vs.length = n
  call : ∀ {A : Around} {outer : List Env} {s : Shared} {H : Hp} {us : List Value} {vs : List V} {ws : List (Option V)} {Q : VK} {E : XK}, Room k A → Env0 P w K mg base A outer s H → Ready f F body fr ws s.heap H → Vals vs us →
    sp ws vs H Q E → codeAny (model P w) A (.call (.ref f) ⟨us, []⟩) (CR CX outer P w H s Q E) s
section
variable {CX : CXT} {P : Program} {w : World} {K : PySem.W.Frag} {mg : Str → Option Value} {base : Heap} {N ps fr : List Str} {F : NF} {body : Expr} {f : Addr} {j k : Nat} {sp : List (Option V) → Sp}
theorem LOk.less {n : Nat} (o : LOk P w K mg base CX j f F body n fr sp) (h : j ≤ k) : LOk P w K mg base CX k f F body n fr sp := ⟨o.many, fun r => o.call (r.mono h)⟩
/-- by its body -/
theorem LOk.by_body (S : NScope N ps fr F.scope) (bind : ∀ (m t : Value) (us : List Value), us.length = ps.length → bindArgs (PySem.W.kla_fn F.name F.qual F.params body F.scope F.cl m (.ref F.c) t) ⟨us, []⟩ = pure (ps.zip us))
    (many : ∀ {ws vs H Q E}, sp ws vs H Q E → vs.length = ps.length)
    (hbody : ∀ (A : Around) (outer : List Env) (s : Shared) (H : Hp) (vs : List V) (ws : List (Option V)) (Q : VK) (E : XK), Room k (A.deeper (envF F f s.heap.objs.size)) → Ready f F body fr ws s.heap H → sp ws vs H Q E →
      ∃ t, PE (ncx CX P w K mg base N F f A outer s H E) body t ∧ t (startF N vs ws) H Q) :
    LOk P w K mg base CX (k + 1) f F body ps.length fr sp where
  many := many
  call := by
    intro A outer s H us vs ws Q E room e0 L r h
    have lv := many h
    have lu : us.length = ps.length := r.length ▸ lv
    obtain ⟨d, z, m, t, real⟩ := stands e0.hok L.fn
    obtain ⟨tb, hp, hq⟩ := hbody A outer s H vs ws Q E (room.deeper _) L h
    apply PySem.W.kla_callFunE room.depth real rfl S.co S.gen rfl (NdefX.codeO_at e0.hok L.code)
    rw [bind m t us lu]
    refine wpAny_pure (wpAny_newFunctionEnv S.nocell (fun y hy => S.par _ (List.of_mem_zip hy).1) (fun h1 ns same => ?_) S.kind)
    have kept : ∀ b o, s.heap.get? b = some o → h1.get? b = some o := fun b o e => same.extBut b o (Nat.ne_of_lt (Heap.lt_size e)) (Heap.get?_push_of_some _ e)
    refine ⟨(e0.mod.nolimit.keeps fun b o e => (e0.bs b o e).1).fresh _ same, ?_⟩
    have I := NdefX.inv_startN (CX := CX) (f := f) (E := E) (tk := s.toks + (ps.zip us).length) S room.hd e0 lv r L.cells ns kept
    exact PySem.W.kla_codeExpr (wpAny_mono (hp.run _ _ _ _ _ I hq) (fun u s1 ⟨v, H1, J, rv, q⟩ => ⟨v, H1, J.os, J.bare, J.base, J.hok, rv, q⟩) fun _ _ x => x)
end
/-! ### its call, in the def that got it -/
section
variable {Y : Cx} {pins : List (Addr × Obj)} {σ : L2.St} {H : Hp} {s : Shared} {f : Addr} {F : NF} {body : Expr} {fr : List Str} {ws : List (Option V)}
/-- captured cells are no objects of the frames between -/
theorem cells_stay {cl : List (Str × Addr)} (C : CellsAt cl fr ws Y.s_0.heap Y.H_0) (ex : Y.ex = []) (I : Inv Y pins σ H s) : CellsAt cl fr ws s.heap H := by
  have out : ∀ b : Addr, b ∉ Y.ex := fun b => by
    rw [ex]
    exact List.not_mem_nil
  have same : ∀ {y c v}, cl.lookup y = some c → Y.s_0.heap.IsCell c v → s.heap.IsCell c v := by
    rintro y c v e ⟨o, ho, hv⟩
    obtain ⟨_, q⟩ := I.base.any ho (C.all y c e).1 (out c)
    exact ⟨_, q, hv⟩
  constructor
  · exact C.len
  · intro y c e
    obtain ⟨free, v, o, ho, hv⟩ := C.all y c e
    exact ⟨I.base.free c o ho free (out c), v, same e ⟨o, ho, hv⟩⟩
  · exact C.inj
  · intro i y e
    obtain ⟨c, ec, hold⟩ := C.has i y e
    refine ⟨c, ec, fun v ev => ?_⟩
    obtain ⟨u, ru, cu⟩ := hold v ev
    exact ⟨u, ru, same ec cu⟩
/-- the reading: slot i holds the lambda; sp its promise with what it captured -/
def tCallL (f : Addr) (F : NF) (body : Expr) (i : Nat) (ws : List (Option V)) (sp : List (Option V) → Sp) (E : XK) (t : TA) : TE := fun σ H Q =>
  (σ[i]? = some (some (.ref f)) ∧ H f = some (LnO f F body)) ∧ t σ H fun vs H1 => (H1 f = some (LnO f F body) ∧ H1 F.c = some (CodeO F.c F.qual)) ∧ sp ws vs H1 Q E
variable {CX : CXT} {n i j k : Nat} {x : Str} {sp : List (Option V) → Sp} {E : XK} {t : TA} {e : Expr} {es : List Expr} {p pos : Pos}
theorem LOk.runs {us : List Value} {vs : List V} {Q : VK} (G : LOk Y.prog Y.w Y.K Y.mg Y.base CX k f F body n fr sp) (room : Room j Y.A) (le : k ≤ j) (out : Passes CX Y E) (I : Inv Y pins σ H s) (L : Ready f F body fr ws s.heap H) (r : Vals vs us) (h : sp ws vs H Q E) :
    wpAny (model Y.prog Y.w) Y.A (PySem.call (.ref f) us) (EP Y pins σ Q) Y.xe s := by
  refine wpAny_call (codeAny_mono (G.call (room.mono le) I.env0 L r h) ?_)
  rintro (u | fl) s1 hq
  · exact out _ _ _ _ _ _ I hq
  · cases fl with
    | ret u => exact I.after hq
    | _ => exact (hq : False).elim
theorem fnAt (I : Inv Y pins σ H s) (h : H f = some (LnO f F body)) : PySem.W.FnAt f s.heap := by
  obtain ⟨d, z, m, q, real⟩ := stands I.hok h
  exact ⟨_, d, _, z, real⟩
theorem pe_lact (G : LOk Y.prog Y.w Y.K Y.mg Y.base CX k f F body n fr sp) (C : CellsAt F.cl fr ws Y.s_0.heap Y.H_0) (ex : Y.ex = []) (room : Room j Y.A) (le : k ≤ j) (out : Passes CX Y E) (slot : Y.N[i]? = some x) (vis : Vis Y.env.scope x) (args : PA Y (e :: es) t)
    (d1 : (x == ("__debug__" : Str)) = false := by decide) (d2 : (x == ("__classdict__" : Str)) = false := by decide)
    (p1 : starEach (e :: es) Y.env = (false, eval e Y.env) :: starEach es Y.env := by rfl) (p2 : (backTo pos (starEach es Y.env)).any (·.1) = false := by rfl) :
    PE Y (.Call (.Name x p) (e :: es) [] pos) (tCallL f F body i ws sp E t) := by
  constructor
  rintro pins s σ H Q I ⟨⟨hs, hf⟩, ht⟩
  apply wpAny_Call_Name_kw
  refine thn ((pe_var slot vis d1 d2).run pins s σ H (fun v H1 => v = .ref f ∧ H1 = H) I ⟨_, hs, rfl, rfl⟩) ?_
  rintro u s1 ⟨_, _, I1, ru, rfl, rfl⟩
  cases (show u = Value.ref f from ru)
  refine PySem.W.callWith_F (first := []) (fnAt I1 hf) (thn (args.run pos pins s1 σ _ _ I1 ht) ?_) p1 p2
  rintro us s2 ⟨vs, H2, I2, r, ⟨h1, h2⟩, q⟩
  exact ⟨fnAt I2 h1, G.runs room le out I2 ⟨h1, h2, cells_stay C ex I2⟩ r q⟩
theorem pe_lact0 (G : LOk Y.prog Y.w Y.K Y.mg Y.base CX k f F body n fr sp) (C : CellsAt F.cl fr ws Y.s_0.heap Y.H_0) (ex : Y.ex = []) (room : Room j Y.A) (le : k ≤ j) (out : Passes CX Y E) (slot : Y.N[i]? = some x) (vis : Vis Y.env.scope x)
    (d1 : (x == ("__debug__" : Str)) = false := by decide) (d2 : (x == ("__classdict__" : Str)) = false := by decide) :
    PE Y (.Call (.Name x p) [] [] pos) (tCallL f F body i ws sp E tNil) := by
  constructor
  rintro pins s σ H Q I ⟨⟨hs, hf⟩, ⟨h1, h2⟩, q⟩
  apply wpAny_Call_Name_kw
  refine thn ((pe_var slot vis d1 d2).run pins s σ H (fun v H1 => v = .ref f ∧ H1 = H) I ⟨_, hs, rfl, rfl⟩) ?_
  rintro u s1 ⟨_, _, I1, ru, rfl, rfl⟩
  cases (show u = Value.ref f from ru)
  exact PySem.W.callWith_F0 (first := []) (fnAt I1 hf) (G.runs room le out I1 ⟨h1, h2, cells_stay C ex I1⟩ .nil q)
end
/-! ### a def called, its body walked at the very state -/
section
variable {X : Cx} {x qual : Str} {st : Stmt} {f : Addr} {fd : FuncData} {N ps : List Str} {k : Nat} {e : Expr} {es : List Expr} {t : TA} {p pos : Pos}
/-- what the callee's body has to show when it is entered from X at s -/
abbrev Walks (X : Cx) (qual : Str) (st : Stmt) (f : Addr) (N : List Str) (cdv : Value) (s : Shared) (H : Hp) (vs : List V) (Q : VK) : Prop :=
  ∃ t, PSs (cxOf CX0 X.prog X.w X.K X.mg X.base N qual (defScope st) f cdv X.A X.stack s H E0).nox (defBody st) t ∧ t { nx := fun _ H1 => Q .non H1, rt := Q } (start N vs) H
theorem pe_in {TT : L2.St → List V → Hp → VK → Prop} (D : Fun X.K x qual st f fd) (S : FnScope N ps (defScope st)) (room : Room (k + 1) X.A) (gl : Gl X x) (is : X.mg x = some (.ref f)) (kp : PySem.W.keepIn X.K (.ref f) = true) (bd : Binds X.K fd ps [])
    (many : ∀ {σ vs H Q}, TT σ vs H Q → vs.length = ps.length)
    (go : ∀ (cdv : Value) (pins : List (Addr × Obj)) (σ : L2.St) (H : Hp) (s : Shared) (vs : List V) (Q : VK), Inv X pins σ H s → Room k (X.A.deeper (envOfC qual (defScope st) s.heap.objs.size f cdv)) → TT σ vs H Q → Walks X qual st f N cdv s H vs Q)
    (args : PA X (e :: es) t) (d1 : (x == ("__debug__" : Str)) = false := by decide) (p1 : starEach (e :: es) X.env = (false, eval e X.env) :: starEach es X.env := by rfl) (p2 : (backTo pos (starEach es X.env)).any (·.1) = false := by rfl) :
    PE X (.Call (.Name x p) (e :: es) [] pos) (fun σ H Q => t σ H fun vs H1 => TT σ vs H1 Q) := by
  obtain ⟨_, _, _, _, _, _, cdv, _, _, rfl, lk, cd⟩ := D.ex
  constructor
  intro pins s σ H Q I h
  apply wpAny_Call_Name_kw
  refine ld_glob I gl is (PySem.W.callWith_K (h₀ := X.base) I.ok.mod.kin kp (thn (args.run pos pins s σ H _ I h) ?_) p1 p2) d1
  rintro us s1 ⟨vs, H1, I1, r, q⟩
  have lv := many q
  have b := bd s1 us I1.kIn (by rw [List.append_nil, ← r.length]; exact lv)
  rw [List.append_nil] at b
  refine ⟨I1.kIn, wpAny_call (codeAny_mono (LamX.run_ofS (CX := CX0) (E := E0) (Q := Q) lk cd S room I1.env0 b r lv fun deep => ?_) ?_)⟩
  · obtain ⟨t1, w1, w2⟩ := go cdv pins σ H1 s1 vs Q I1 deep q
    exact ⟨t1, w1.nox, w2⟩
  · rintro (u | fl) s2 hq
    · exact (hq : False).elim
    · cases fl with
      | ret u => exact I1.after hq
      | _ => exact (hq : False).elim
end
end LamV
set_option Elab.async false
set_option linter.all false
set_option maxRecDepth 100000
set_option maxHeartbeats 4000000
/-! for i, x in enumerate(t), t a tuple. -/
namespace EnT
open PySem PySem.Spec PyProof.Rows L2
section
variable {prog : Program} {w : World} {A : Around} {E : Value → Shared → Prop} {s : Shared}
theorem meets_en (a : Addr) (items : Array Value) :
    Meets (Builtin.«enumerate.__new__» ⟨[.type "enumerate", .ref a], []⟩) (fun _ R s => s.heap.IsTuple a items ∧
      R (.ok (.ret (.ref (s.heap.push { cls := .type "tuple_iterator", data := .fields #[.ref a, .int 0 0] }).objs.size)))
        { s with heap := (s.heap.push { cls := .type "tuple_iterator", data := .fields #[.ref a, .int 0 0] }).push { cls := .type "enumerate", data := .fields #[.none, .bool false, .ref s.heap.objs.size, rawInt 0, .none, .none] } }) :=
  .of_wp fun prog w A R s h => by
    obtain ⟨hp, g, d, tk, os⟩ := s
    obtain ⟨hT, h⟩ := h
    have hs := sub_enumerate
    have q : ∀ {A' : Around} {E : Value → Shared → Prop} {Q : Value → Shared → Prop}, Q (.ref hp.objs.size) ⟨hp.push { cls := .type "tuple_iterator", data := .fields #[.ref a, .int 0 0] }, g, d, tk, os⟩ →
        wpAny (model prog w) A' (pyIter (.ref a)) Q E ⟨hp, g, d, tk, os⟩ := fun k => wpAny_pyIter_tuple hT k
    wp_walk using q
    refine wpAny_stack_any fun st => wpAny_pure ?_
    split
    · rename_i c _ _ _ _ _
      cases (c == Value.type "enumerate") <;> (wp_walk using q; exact ⟨_, rfl, h⟩)
    · wp_walk using q
      exact ⟨_, rfl, h⟩
theorem call_en {a : Addr} {items : Array Value} {Q : Value → Shared → Prop} (hT : s.heap.IsTuple a items)
    (h : ∀ h1, IsEnum h1 (s.heap.objs.size + 1) s.heap.objs.size 0 .none → h1.IsTupleIter s.heap.objs.size a 0 → (∀ b o, s.heap.get? b = some o → h1.get? b = some o) → Q (.ref (s.heap.objs.size + 1)) { s with heap := h1 }) :
    wpAny (model prog w) A (call (.type "enumerate") [.ref a]) Q E s := by
  refine callType_new F.called_enumerate (by decide) (F.typeCall_enumerate_1 _) (F.newCall_enumerate_1 _) (fun obj => F.args_object_init_2 obj _) F.entry_enumerate_new (meets_en a items) ⟨hT, ?_⟩
  generalize hq : s.heap.push { cls := .type "tuple_iterator", data := .fields #[.ref a, .int 0 0] } = q
  have sz : q.objs.size = s.heap.objs.size + 1 := by rw [← hq]; exact Heap.size_push ..
  have it : q.get? s.heap.objs.size = some { cls := .type "tuple_iterator", data := .fields #[.ref a, .int 0 0] } := by rw [← hq]; exact Heap.get?_push_size _ rfl
  have en := Heap.get?_push_size q (o := { cls := .type "enumerate", data := .fields #[.none, .bool false, .ref s.heap.objs.size, rawInt 0, .none, .none] }) rfl
  rw [sz] at en
  show _ ∧ _
  rw [sz]
  refine ⟨⟨_, en, rfl⟩, h _ en ⟨_, Heap.get?_push_of_some _ it, rfl, rfl⟩ fun b o x => ?_⟩
  refine Heap.get?_push_of_some _ ?_
  rw [← hq]
  exact Heap.get?_push_of_some _ x
end
/-- the tuple at a, each item in a new pair -/
def Itn (K : PySem.W.Frag) (a : Addr) : It where
  go := fun i H => ∃ (xs : List V) (x : V), SqT K H a xs ∧ xs[i]? = some x
  yld := fun i H v H' => ∃ T x, v = .ref T ∧ H T = none ∧ H' = upd H T (.tup [.int (i : Nat), x]) ∧ ∀ xs, SqT K H a xs → xs[i]? = some x
  stop := fun i H => ∃ xs : List V, SqT K H a xs ∧ xs.length = i
theorem turn_en {P : Program} {w : World} {K : PySem.W.Frag} {elts : List Expr} {kk : Nat} {tpos : Pos} (a e it : Addr) :
    Turn P w K (.Tuple elts kk tpos) (Itn K a) [e, it] e (fun i h => (∃ old, IsEnum h e it ((i : Nat) : Int) old) ∧ h.IsTupleIter it a i ∧ e ≠ it) where
  mem := List.mem_cons_self ..
  self := by
    rintro A i s Q E ⟨⟨_, q⟩, _⟩ h
    exact wpAny_pyIter_enum q h
  keep := by
    rintro i h h1 ⟨⟨old, q⟩, r, ne⟩ k
    exact ⟨⟨old, k e (List.mem_cons_self ..) _ q⟩, r.at fun o q => k it (by simp) o q, ne⟩
  obj := by
    rintro i h ⟨⟨old, q⟩, ⟨o, r1, _, r2⟩, _⟩ b hb
    rcases List.mem_cons.mp hb with rfl | hb
    · exact ⟨_, q, fun _ z => nomatch z⟩
    · obtain rfl := List.mem_singleton.mp hb
      exact ⟨o, r1, fun _ z => nomatch (r2.symm.trans z)⟩
  item := by
    intro X hP hw hK calm i pins s σ H E I free st hg
    subst hP hw hK
    obtain ⟨⟨old, en⟩, ti, ne⟩ := st
    obtain ⟨xs, x, sq, hx⟩ := hg
    obtain ⟨its, vals, tup, _⟩ := I.tuple sq
    have T1 : s.heap.IsTuple a its.toArray := tup
    obtain ⟨u, hu, ru⟩ := vals.get hx
    have hu2 : its.toArray[i]? = some u := by rw [List.getElem?_toArray, hu]
    have lt : i < its.toArray.size := (Array.getElem?_eq_some_iff.mp hu2).1
    have nI : a ≠ it := by
      rintro rfl
      obtain ⟨o1, g1, c1, _⟩ := T1
      obtain ⟨o2, g2, c2, _⟩ := ti
      cases g1.symm.trans g2
      exact absurd (c1.symm.trans c2) (by decide)
    have nE : e ≠ a := by
      rintro rfl
      obtain ⟨o1, g1, c1, _⟩ := T1
      cases g1.symm.trans en
      exact absurd (show Value.type "enumerate" = Value.type "tuple" from c1) (by decide)
    have l1 := Heap.lt_size en
    have l2 : it < s.heap.objs.size := Heap.lt_size ti.choose_spec.1
    refine wpAny_pyNext_enum_itemD (Draws.tuple (A := X.A.in1) (I.ok.hd calm) it a nI its.toArray) en ⟨ti, T1⟩ lt ne (by simp [ne, nE]) fun y h1 tk hy out st1 new1 _ hk => ?_
    obtain rfl : y = u := Option.some.inj (hy.symm.trans hu2)
    refine ⟨_, rfl, wpAny_letOwnedTupleGo_enum (s := { s with heap := h1, toks := tk + 1 }) out fun h2 en2 same => ?_⟩
    have new2 := (same.2 _ (Nat.ne_of_gt l1)).trans new1
    have O : ObjOk X.prog X.w (upd H s.heap.objs.size (.tup [.int (i : Nat), x])) h2 s.heap.objs.size (.tup [.int (i : Nat), x]) := by
      refine ⟨?_, [.int i tk, y], .cons ⟨_, rfl⟩ (.cons ru .nil), _, new2, rfl, _, rfl⟩
      show 2 ≤ sizeLine
      decide
    have old1 : ∀ b o, b ∉ [e, it] → s.heap.get? b = some o → h2.get? b = some o := fun b o nb q => by
      simp only [List.mem_cons, List.not_mem_nil, or_false, not_or] at nb
      exact (same.2 b nb.1).trans (hk b o nb.1 nb.2 q)
    have J := I.turnedNew (t' := tk + 1) (ch := [e, it]) old1 free (Nat.le_refl _) O
    refine ⟨.ref s.heap.objs.size, _, J, rfl, ⟨_, x, rfl, I.hok.fresh (Nat.le_refl _), rfl, fun ys hy => ?_⟩, ⟨⟨y, ?_⟩, st1.1.at fun o q => (same.2 it ne.symm).trans q, ne⟩, fun b hb => ?_⟩
    · rw [I.tuple_inj hy sq, hx]
    · rw [show ((i + 1 : Nat) : Int) = (i : Int) + 1 from rfl]
      exact en2
    · have lb : b ≠ s.heap.objs.size := by
        rcases List.mem_cons.mp hb with rfl | hb
        · exact Nat.ne_of_lt l1
        · exact Nat.ne_of_lt (List.mem_singleton.mp hb ▸ l2)
      rw [upd_ne lb]
      exact (free b hb).1
  done := by
    intro X hP hw hK calm i pins s σ H E I free st hg
    subst hP hw hK
    obtain ⟨⟨old, en⟩, ti, ne⟩ := st
    obtain ⟨xs, sq, rfl⟩ := hg
    obtain ⟨its, vals, tup, _⟩ := I.tuple sq
    have T1 : s.heap.IsTuple a its.toArray := tup
    have nI : a ≠ it := by
      rintro rfl
      obtain ⟨o1, g1, c1, _⟩ := T1
      obtain ⟨o2, g2, c2, _⟩ := ti
      cases g1.symm.trans g2
      exact absurd (c1.symm.trans c2) (by decide)
    have sz : its.toArray.size = xs.length := by
      rw [List.size_toArray]
      exact vals.length.symm
    obtain ⟨f0, f1, f2, f3, f4, f5⟩ := free it (by simp)
    refine wpAny_pyNext_enum_endD (Draws.tuple (A := X.A.in1) (I.ok.hd calm) it a nI its.toArray) en (by rw [sz]; exact ⟨ti, T1⟩) fun h1 but => ⟨rfl, ?_⟩
    exact I.turned (t' := s.toks) (fun b o nb q => but b o nb q) f0 f1 f3 f4 f5
def iEnT (K : PySem.W.Frag) (ta : TA) : TI := fun σ H R => ta σ H fun vs H1 => ∃ a xs, vs = [.ref a] ∧ SqT K H1 a xs ∧ R (Itn K a) H1
theorem pi_enT {X : Cx} {e : Expr} {ta : TA} {p pos tpos : Pos} {elts : List Expr} {kk : Nat} (gl : Gl X "enumerate") (no : X.mg "enumerate" = none) (args : PA X [e] ta) (p1 : starEach [e] X.env = [(false, eval e X.env)] := by rfl) :
    PI X (.Tuple elts kk tpos) (.Call (.Name "enumerate" p) [e] [] pos) (iEnT X.K ta) := by
  constructor
  intro pins s σ H R I h
  refine Call_ (ld_blt I gl no boot_enumerate (PyProof.Rows.callWith_type1 (thn (args.run pos pins s σ H _ I h) ?_) p1 rfl))
  rintro us s1 ⟨vs, H1, I1, rv, a, xs, rfl, sq, q⟩
  obtain ⟨u, rfl⟩ : ∃ u, us = [u] := by
    cases rv with
    | cons _ t => cases t; exact ⟨_, rfl⟩
  cases rv with
  | cons ru _ =>
    cases (show u = Value.ref a from ru)
    obtain ⟨its, vals, tup, _⟩ := I1.tuple sq
    refine call_en (show s1.heap.IsTuple a its.toArray from tup) fun h1 en ti up => wpAny_pyIter_enum en ?_
    have J : Inv X pins σ H1 { s1 with heap := h1 } := I1.kept (t' := s1.toks) up
    refine ⟨_, [s1.heap.objs.size + 1, s1.heap.objs.size], _, _, H1, rfl, J, turn_en a (s1.heap.objs.size + 1) s1.heap.objs.size, ⟨⟨.none, en⟩, ti, Nat.succ_ne_self _⟩, fun b hb => ?_, q⟩
    have lo : s1.heap.objs.size ≤ b := by
      rcases List.mem_cons.mp hb with z | z
      · rw [z]
        exact Nat.le_succ _
      · rw [List.mem_singleton.mp z]
        exact Nat.le_refl _
    exact I1.fpOk lo (I1.hok.fresh lo)
end EnT
set_option Elab.async false
set_option linter.all false
set_option maxRecDepth 100000
set_option maxHeartbeats 4000000
namespace LJ
open PySem L2
def top (i : Nat) : Stmt := PySem.Challenge.pw_tracebounds_k03_whole_texts_of_works.main.body.getD i (.Pass ⟨0, 0, 0, 0⟩)
abbrev sDip : Stmt := top 39
abbrev sOne : Stmt := top 40
abbrev sJar : Stmt := top 45
/-- where draws come from: a list of three numbers, the middle one small -/
def JarAt (H : Hp) (j : Addr) : Prop := ∃ (d m c : Int), H j = some (.lst [.int d, .int m, .int c]) ∧ 0 ≤ m ∧ m < 2147483249
/-- all but j stays -/
def But (j : Addr) (H H1 : Hp) : Prop := ∀ b o, b ≠ j → H b = some o → H1 b = some o
def spDip : Sp := fun vs H Q _ => ∃ (j : Addr) (t : Int), vs = [.ref j, .int t] ∧ JarAt H j ∧ 0 < t ∧ t < 1073741824 ∧
  ∀ (r : Int) (H1 : Hp), 0 ≤ r → r < t → JarAt H1 j → But j H H1 → Q (.int r) H1
/-- built-ins that are still what they were -/
structure Blt (mg : Str → Option Value) : Prop where
  divmod : mg "divmod" = none
  int : mg "int" = none
  len : mg "len" = none
  abs : mg "abs" = none
section
variable {P : Program} {w : World} {K : PySem.W.Frag} {mg : Str → Option Value} {base : Heap}
theorem scDip : FnScope ["_law_jar_here", "_law_top", "_law_digit"] ["_law_jar_here", "_law_top"] (defScope sDip) := ⟨rfl, rfl, rfl, by decide +kernel, rfl, by decide +kernel, by decide +kernel⟩
theorem ok_dip {f : Addr} {fd : FuncData} (F : Fun K "_law_dip" "_law_dip" sDip f fd) (T : Blt mg) : FnOk P w K mg base CX0 1 f fd ["_law_jar_here", "_law_top"] spDip := by
  refine F.ok scDip (fun vs H Q E h => ?_) (fun cdv A outer s H vs Q E hr h => ?_)
  · obtain ⟨j, t, rfl, _⟩ := h
    rfl
  · obtain ⟨j, t, rfl, ⟨d, m, c, hj, m0, m1⟩, t0, t1, k⟩ := h
    refine ⟨_, pss_cons (ps_asg (pe_op op_add (pe_ix ix_list (pv 0) pe_int (fun _ _ => rfl)) pe_int) (pg_sub (pv 0) pe_int set_list))
      (pss_cons (ps_if (pt_cmpR op_gt (pe_ix ix_list (pv 0) pe_int (fun _ _ => rfl)) pe_int (nomark _))
        (pss_cons (ps_asg (pe_callB call_divmod (by rfl) T.divmod (by decide +kernel) (pa_cons (pe_ix ix_list (pv 0) pe_int (fun _ _ => rfl)) (pa_cons (pv 1) pa_nil)))
          (pg_tup (by rfl) (pgs_cons (pg_sub (pv 0) pe_int set_list) (pgs_cons (pg_name (i := 2) scDip.nd rfl (Or.inl rfl)) pgs_nil))))
        (pss_one (ps_ret (pv 2)))) pss_nil)
      (pss_cons (ps_asg (pe_op op_mod (pe_callTy call_int1 (by rfl) T.int (by decide +kernel) (pa_cons (pe_op op_add (pe_op op_mul (pe_ix ix_list (pv 0) pe_int (fun _ _ => rfl)) pe_int) (pe_op op_mul pe_int (pe_ix ix_list (pv 0) pe_int (fun _ _ => rfl)))) pa_nil)) pe_int)
          (pg_sub (pv 0) pe_int set_list))
      (pss_one (ps_ret (pe_op op_mod (pe_callTy call_int1 (by rfl) T.int (by decide +kernel) (pa_cons (pe_op op_fdiv (pe_ix ix_list (pv 0) pe_int (fun _ _ => rfl)) pe_int) pa_nil)) (pv 1)))))), ?_⟩
    refine ⟨_, rfl, j, _, 2, .int c, rfl, rfl, SqL.of hj, rfl, _, _, rfl, rfl, _, rfl, j, _, 2, 2, rfl, rfl, hj, rfl, ?_⟩
    have h1 : ∀ v, (upd H j (.lst [.int d, .int m, v])) j = some (.lst [.int d, .int m, v]) := fun v => upd_same
    have b1 : ∀ o, But j H (upd H j o) := fun o b z hb hz => by
      rw [upd_ne hb]
      exact hz
    refine ⟨_, rfl, j, _, 0, .int d, rfl, rfl, SqL.of (h1 _), rfl, _, _, rfl, rfl, _, rfl, ?_⟩
    refine ite2 (fun c0 => ?_) (fun c0 => ?_)
    · refine ⟨_, rfl, j, _, 0, .int d, rfl, rfl, SqL.of (h1 _), rfl, _, rfl, _, _, rfl, ⟨t0, t1⟩, fun p hp => ?_⟩
      have jp : j ≠ p := ne_of_none (h1 _) hp
      refine ⟨p, _, rfl, SqT.of upd_same, rfl, ?_⟩
      refine ⟨_, _, rfl, _, rfl, j, _, 0, 0, rfl, rfl, (by rw [upd_ne jp]; exact h1 _), rfl, ?_⟩
      refine ⟨_, _, rfl, rfl, ?_⟩
      refine ⟨_, rfl, ?_⟩
      refine k (d % t) _ (Int.emod_nonneg _ (by omega)) (Int.emod_lt_of_pos _ t0) ⟨d / t, m, c + 1, upd_same, m0, m1⟩ fun b o hb hz => ?_
      rw [upd_ne hb, upd_ne (ne_of_none (b1 _ b o hb hz) hp), upd_ne hb]
      exact hz
    · refine ⟨_, rfl, j, _, 1, .int m, rfl, rfl, SqL.of (h1 _), rfl, _, _, rfl, rfl, .inl ⟨by omega, by omega⟩, _, rfl, j, _, 2, .int (c + 1), rfl, rfl, SqL.of (h1 _), rfl, _, _, rfl, rfl, .inl ⟨by omega, by omega⟩, _, _, rfl, rfl, .inl ⟨_, rfl, ?_⟩⟩
      refine ⟨_, _, rfl, rfl, (by show (0 : Int) < 2147483249; decide), _, rfl, j, _, 1, 1, rfl, rfl, h1 _, rfl, ?_⟩
      refine ⟨_, rfl, j, _, 1, _, rfl, rfl, SqL.of upd_same, rfl, _, _, rfl, rfl, ⟨by decide, by decide⟩, .inl ⟨_, rfl, ?_⟩⟩
      refine ⟨_, rfl, _, _, rfl, rfl, t0, ?_⟩
      refine k _ _ (Int.emod_nonneg _ (by omega)) (Int.emod_lt_of_pos _ t0) ⟨d, _, c + 1, upd_same, Int.emod_nonneg _ (by decide), Int.emod_lt_of_pos _ (by decide)⟩ fun b o hb hz => ?_
      rw [upd_ne hb, upd_ne hb]
      exact hz
theorem But.seq {j l : Addr} {H H1 : Hp} {o : HO} (b : But j H H1) (h : H l = some o) (n : l ≠ j) : H1 l = some o := b l o n h
def spOne : Sp := fun vs H Q _ => ∃ (j l : Addr) (xs : List V), vs = [.ref j, .ref l] ∧ JarAt H j ∧ H l = some (.lst xs) ∧ l ≠ j ∧ 0 < xs.length ∧ xs.length < 100000 ∧
  ∀ (n : Nat) (v : V) (H1 : Hp), xs[n]? = some v → JarAt H1 j → But j H H1 → Q v H1
theorem scOne : FnScope ["_law_jar_here", "_law_some"] ["_law_jar_here", "_law_some"] (defScope sOne) := ⟨rfl, rfl, rfl, by decide +kernel, rfl, by decide +kernel, by decide +kernel⟩
theorem ok_one {f fD : Addr} {fd fdD : FuncData} (F : Fun K "_law_one_of" "_law_one_of" sOne f fd) (T : Blt mg) (FD : Fun K "_law_dip" "_law_dip" sDip fD fdD) (bD : Binds K fdD ["_law_jar_here", "_law_top"] []) (mD : mg "_law_dip" = some (.ref fD)) :
    FnOk P w K mg base CX0 2 f fd ["_law_jar_here", "_law_some"] spOne := by
  have GD : FnOk P w K mg base CX0 1 fD fdD ["_law_jar_here", "_law_top"] spDip := ok_dip FD T
  refine F.ok scOne (fun vs H Q E h => ?_) (fun cdv A outer s H vs Q E hr h => ?_)
  · obtain ⟨j, l, xs, rfl, _⟩ := h
    rfl
  · obtain ⟨j, l, xs, rfl, J, hl, nl, p0, p1, k⟩ := h
    refine ⟨_, pss_one (ps_ret (pe_ix ix_list (pv 1) (pe_call GD hr (by rfl) mD FD.kp bD .nil pass0 (pa_cons (pv 0) (pa_cons (pe_callB call_len_seq (by rfl) T.len PySem.boot_len (pa_cons (pv 1) pa_nil)) pa_nil))) (fun _ _ => rfl))), ?_⟩
    refine ⟨_, rfl, _, rfl, _, rfl, l, _, rfl, .inl (SqL.of hl), j, (xs.length : Int), rfl, J, by omega, by omega, fun r H1 r0 r1 J1 bt => ?_⟩
    obtain ⟨v, hv⟩ : ∃ v, xs[r.toNat]? = some v := ⟨xs[r.toNat]'(by omega), List.getElem?_eq_getElem (by omega)⟩
    refine ⟨l, xs, r, v, rfl, rfl, SqL.of (bt.seq hl nl), ?_, k r.toNat v H1 hv J1 bt⟩
    unfold atI ixN
    rw [if_pos r0, if_pos r1]
    exact hv
theorem same_new {H H1 : Hp} {p : Addr} {o : HO} (s : Same H H1) (n : H1 p = none) : Same H (upd H1 p o) := fun b z e => by
  rw [upd_ne (ne_of_none (s b z e) n)]
  exact s b z e
def spJar (K : PySem.W.Frag) : Sp := fun vs H Q _ => ∃ (a : Addr) (ns : List Int) (t : Int), vs = [.ref a, .int t] ∧ SqL K H a (ns.map V.int) ∧ ns.length ≤ 63 ∧ 0 ≤ t ∧ t ≤ 100 ∧
  ∀ (j : Addr) (H1 : Hp), H j = none → Same H H1 → JarAt H1 j → Q (.ref j) H1
theorem scJar : FnScope ["_law_cells", "_law_turn", "_law_cell", "_law_mixed", "_law_each"] ["_law_cells", "_law_turn"] (defScope sJar) := ⟨rfl, rfl, rfl, by decide +kernel, rfl, by decide +kernel, by decide +kernel⟩
theorem ok_jar {f : Addr} {fd : FuncData} (F : Fun K "_law_jar" "_law_jar" sJar f fd) (T : Blt mg) : FnOk P w K mg base CX0 1 f fd ["_law_cells", "_law_turn"] (spJar K) := by
  refine F.ok scJar (fun vs H Q E h => ?_) (fun cdv A outer s H vs Q E hr h => ?_)
  · obtain ⟨j, l, xs, rfl, _⟩ := h
    rfl
  · obtain ⟨a, ns, t, rfl, hS, hn, t0, t1, k⟩ := h
    refine ⟨_, pss_cons (ps_set (i := 2) scJar.nd rfl (Or.inl rfl) (pe_join0 (pe_ifExp (pt_cmpR op_lt (pv 1) (pe_callB call_len_seq (by rfl) T.len PySem.boot_len (pa_cons (pv 0) pa_nil)) (nomark _))
        (pe_ix ix_list (pv 0) (pv 1) (fun _ _ => rfl)) (pe_op op_add (pe_op op_mul pe_int (pv 1)) pe_int))))
      (pss_cons (ps_set (i := 3) scJar.nd rfl (Or.inl rfl) (pe_op op_add pe_int (pe_op op_mul pe_int (pv 1))))
      (pss_cons (ps_for PassesOwn.never rfl (pi_list (pe_op op_cat (pe_slice sl_list (pv 0) po_none (po_some pe_int)) (pe_lst (pa_cons (pv 2) pa_nil)))) (pg_name (i := 4) scJar.nd rfl (Or.inl rfl))
        (pss_one (ps_set (i := 3) scJar.nd rfl (Or.inl rfl) (pe_op op_mod (pe_callTy call_int1 (by rfl) T.int (by decide +kernel) (pa_cons (pe_op op_add (pe_op op_mul (pv 3) pe_int) (pv 4)) pa_nil)) pe_int))))
      (pss_one (ps_ret (pe_lst (pa_cons (pe_join0 (pe_ifExp (PW.pt (pw_or (pt_cmpR op_lt (pv 2) pe_int (nomark _)) (pw_or1 (pt_cmpR op_ge (pv 2) (pe_op op_pow pe_int pe_int) (nomark _)))))
        (pe_callB call_abs (by rfl) T.abs (by decide +kernel) (pa_cons (pv 2) pa_nil)) pe_int)) (pa_cons (pv 3) (pa_cons pe_int pa_nil)))))))), ?_⟩
    refine ⟨fun v H1 => (∃ z : Int, v = .int z) ∧ H1 = H, ?_, ?_⟩
    · refine ⟨_, rfl, _, rfl, a, _, rfl, .inl hS, _, _, rfl, rfl, _, rfl, ?_⟩
      refine ite2 (fun c => ?_) (fun c => ?_)
      · have c1 : t < (ns.length : Int) := by
          have z := of_decide_eq_true c
          rw [List.length_map] at z
          exact z
        obtain ⟨z, hz⟩ : ∃ z, ns[t.toNat]? = some z := ⟨ns[t.toNat]'(by omega), List.getElem?_eq_getElem (by omega)⟩
        refine ⟨_, rfl, _, rfl, a, _, t, .int z, rfl, rfl, hS, ?_, ⟨z, rfl⟩, rfl⟩
        unfold atI ixN
        rw [if_pos t0, if_pos (by rw [List.length_map]; exact c1), Option.bind_some, List.getElem?_map, hz]
        rfl
      · exact ⟨_, rfl, _, _, rfl, rfl, .inl ⟨by omega, by omega⟩, _, _, rfl, rfl, ⟨_, rfl⟩, rfl⟩
    · rintro v H1 ⟨⟨z, rfl⟩, rfl⟩
      refine ⟨_, rfl, _, _, rfl, rfl, .inl ⟨by omega, by omega⟩, _, _, rfl, rfl, ?_⟩
      refine ⟨_, rfl, 5, rfl, a, _, rfl, hS, fun p hp => ?_⟩
      refine ⟨_, rfl, (by show 1 ≤ sizeLine; rw [sizeLine_eq]; decide), fun l hl => ?_⟩
      have pl : p ≠ l := ne_of_none upd_same hl
      have cl : (cutV (ns.map V.int) none (some 5)).length ≤ 63 := by
        have z1 := cutV_length (ns.map V.int) none (some 5)
        rw [List.length_map] at z1
        omega
      refine ⟨p, l, _, _, rfl, rfl, (by rw [upd_ne pl]; exact upd_same), upd_same, (by rw [sizeLine_eq]; show (cutV (ns.map V.int) none (some 5)).length + 1 ≤ 16777216; omega), fun q hq => ?_⟩
      have allI : ∀ (i : Nat) (y : V), (cutV (ns.map V.int) none (some 5) ++ [V.int z])[i]? = some y → ∃ e : Int, y = .int e := by
        intro i y hy
        have hm := List.mem_of_getElem? hy
        rcases List.mem_append.mp hm with hm | hm
        · have h2 := List.mem_of_mem_drop (List.mem_of_mem_take hm)
          obtain ⟨e, _, he⟩ := List.mem_map.mp h2
          exact ⟨e, he.symm⟩
        · exact ⟨z, List.mem_singleton.mp hm⟩
      have s1 : ∀ o, Same H1 (upd _ q o) := fun o => same_new (same_new (same_new (fun _ _ z => z) hp) hl) hq
      refine ⟨q, rfl, ⟨_, SqL.of upd_same⟩, for_list (K := K) (a := q) (xs := cutV (ns.map V.int) none (some 5) ++ [V.int z]) (fun i σ H2 => ∃ (m : Int) (v : Option V),
        σ = [some (.ref a), some (.int t), some (.int z), some (.int m), v] ∧ 0 ≤ m ∧ m < 2147483249 ∧ Same H1 H2 ∧ H2 q = some (.lst (cutV (ns.map V.int) none (some 5) ++ [V.int z])))
        ⟨_, none, rfl, by omega, by omega, s1 _, upd_same⟩ (fun i σ H2 _ ⟨_, _, _, _, _, _, h⟩ => SqL.of h) ?_ ?_⟩
      · rintro i y σ H2 hi ⟨m, v, rfl, m0, m1, s2, hq2⟩
        obtain ⟨e, rfl⟩ := allI i y hi
        refine ⟨_, rfl, _, _, rfl, rfl, .inl ⟨by omega, by omega⟩, _, rfl, _, _, rfl, rfl, .inl ⟨_, rfl, ?_⟩⟩
        refine ⟨_, _, rfl, rfl, (by show (0 : Int) < 2147483249; decide), ?_⟩
        exact ⟨_, _, rfl, Int.emod_nonneg _ (by decide), Int.emod_lt_of_pos _ (by decide), s2, hq2⟩
      · rintro σ H2 ⟨m, v, rfl, m0, m1, s2, hq2⟩
        refine ⟨fun v H3 => (∃ d : Int, v = .int d) ∧ H3 = H2, ?_, ?_⟩
        · refine ⟨_, rfl, _, _, rfl, rfl, _, rfl, ?_⟩
          refine ite2 (fun c => ⟨_, rfl, _, rfl, ⟨_, rfl⟩, rfl⟩) (fun c => ?_)
          refine ⟨_, rfl, _, _, rfl, rfl, ⟨by decide, by decide, by decide⟩, _, _, rfl, rfl, _, rfl, ?_⟩
          exact ite2 (fun c => ⟨_, rfl, _, rfl, ⟨_, rfl⟩, rfl⟩) (fun c => ⟨⟨_, rfl⟩, rfl⟩)
        · rintro v H3 ⟨⟨d, rfl⟩, rfl⟩
          refine ⟨_, rfl, (by show 3 ≤ sizeLine; rw [sizeLine_eq]; decide), fun j hj => ?_⟩
          have nj : H1 j = none := by
            cases e : H1 j with
            | none => rfl
            | some o =>
              rw [s2 j o e] at hj
              cases hj
          exact k j _ nj (same_new s2 hj) ⟨d, m, 0, upd_same, m0, m1⟩
end
end LJ
set_option Elab.async false
set_option linter.all false
set_option maxRecDepth 100000
set_option maxHeartbeats 4000000
/-! The small tests of works: is_integer, is_name, _is_named, _are_bounds; over any known value. -/
namespace LJ
open PySem PySem.Spec L2
/-- a op1 b op2 c op3 d -/
def tChain3 (r1 r2 r3 : R2) (ta tb tc td : TE) : TE := fun σ H Q => ta σ H fun x H1 => tb σ H1 fun y H2 => r1 x y H2 fun u H3 => ∃ k, u = .bl k ∧
  if k = true then tc σ H3 fun z H4 => r2 y z H4 fun v H5 => ∃ l, v = .bl l ∧ (if l = true then td σ H5 fun w H6 => r3 z w H6 Q else Q (.bl false) H5) else Q (.bl false) H3
theorem pe_chain3 {X : Cx} {o1 o2 o3 : CmpOp} {r1 r2 r3 : R2} {a b c d : Expr} {ta tb tc td : TE} {pos : Pos} (h1 : OpR X (compareOp o1) r1) (h2 : OpR X (compareOp o2) r2) (h3 : OpR X (compareOp o3) r3) (ea : PE X a ta) (eb : PE X b tb) (ec : PE X c tc) (ed : PE X d td)
    (hm : lastMarks [o1, o2, o3] [b, c, d] = false := by with_unfolding_all rfl) : PE X (.Compare a [o1, o2, o3] [b, c, d] pos) (tChain3 r1 r2 r3 ta tb tc td) := by
  constructor
  intro pins s σ H Q I h
  refine PyProof.Rows.Compare_chain (thn (ea.run pins s σ H _ I h) ?_) hm
  rintro ua s1 ⟨x, H1, I1, rx, q1⟩
  refine PyProof.Rows.chain_link (thn (eb.run pins s1 σ H1 _ I1 q1) ?_)
  rintro ub s2 ⟨y, H2, I2, ry, q2⟩
  refine thn (h1 pins s2 σ H2 x y ua ub _ I2 rx ry q2) ?_
  rintro u1 s3 ⟨_, H3, I3, ru, k, rfl, q3⟩
  cases ru
  refine wpAny_truthy_bool ?_
  cases k
  · exact ⟨.bl false, H3, I3, rfl, q3⟩
  refine PyProof.Rows.chain_link (thn (ec.run pins s3 σ H3 _ I3 q3) ?_)
  rintro uc s4 ⟨z, H4, I4, rz, q4⟩
  refine thn (h2 pins s4 σ H4 y z ub uc _ I4 ry rz q4) ?_
  rintro u2 s5 ⟨_, H5, I5, rv, l, rfl, q5⟩
  cases rv
  refine wpAny_truthy_bool ?_
  cases l
  · exact ⟨.bl false, H5, I5, rfl, q5⟩
  refine PyProof.Rows.chain_last (thn (ed.run pins s5 σ H5 _ I5 q5) ?_)
  rintro ud s6 ⟨w, H6, I6, rw, q6⟩
  exact h3 pins s6 σ H6 z w uc ud Q I6 rz rw q6
/-! ### known values -/
/-- all that stood stands -/
def Ex (H H1 : Hp) : Prop := ∀ b o, H b = some o → H1 b = some o
theorem Ex.refl {H : Hp} : Ex H H := fun _ _ e => e
theorem Ex.trans {H H1 H2 : Hp} (s : Ex H H1) (t : Ex H1 H2) : Ex H H2 := fun b o e => t b o (s b o e)
theorem Ex.new {H H1 : Hp} {p : Addr} {o : HO} (s : Ex H H1) (n : H1 p = none) : Ex H (upd H1 p o) := fun b u e => by
  rw [upd_ne (ne_of_none (s b u e) n)]
  exact s b u e
theorem Ex.put {H H1 : Hp} {p : Addr} {o : HO} (s : Ex H H1) (n : H p = none) : Ex H (upd H1 p o) := fun b u e => by
  rw [upd_ne (ne_of_none e n)]
  exact s b u e
theorem Ex.gone {H H1 : Hp} {p : Addr} (s : Ex H H1) (n : H1 p = none) : H p = none := by
  cases e : H p with
  | none => rfl
  | some o =>
    rw [s p o e] at n
    cases n
def isI : V → Bool
  | .int _ => true
  | _ => false
def tupOf (H : Hp) : V → Option (List V)
  | .ref a => match H a with
    | some (.tup xs) => some xs
    | _ => none
  | _ => none
/-- is this a string of one to eight letters from a to z -/
def isW (s : Str) : Bool := decide (1 ≤ s.length) && (decide (s.length ≤ 8) && s.cps.toList.all fun c => decide (97 ≤ c) && decide (c ≤ 122))
def isN : V → Bool
  | .str s => isW s
  | _ => false
inductive Kn (K : PySem.W.Frag) (H : Hp) : V → Prop
  | int (i : Int) : Kn K H (.int i)
  | str (s : Str) (le : s.length ≤ sizeLine) : Kn K H (.str s)
  | tup {a : Addr} {xs : List V} (e : H a = some (.tup xs)) (le : xs.length ≤ sizeLine) : Kn K H (.ref a)
  | oth {x : V} {t : Value} {b : Bool} (ty : ∀ H1, LamX.ExtN H H1 → TyX K H1 x t) (i : PySem.W.kitOne K t (.type "int") = some b) (l : PySem.W.kitOne K t (.type "bool") = some b) (s : PySem.W.kitOne K t (.type "str") = some false)
      (u : PySem.W.kitOne K t (.type "tuple") = some false) (ni : isI x = false) (nn : isN x = false) (nt : ∀ H1, LamX.ExtN H H1 → tupOf H1 x = none) : Kn K H x
theorem Ex.n {H H1 : Hp} (e : Ex H H1) : LamX.ExtN H H1 := LamX.ExtN.of e
theorem tup_n {H H1 : Hp} {a : Addr} {xs : List V} (e : LamX.ExtN H H1) (h : H a = some (.tup xs)) : H1 a = some (.tup xs) := e _ _ h fun _ z => nomatch z
theorem Kn.exN {K : PySem.W.Frag} {H H1 : Hp} {x : V} (k : Kn K H x) (e : LamX.ExtN H H1) : Kn K H1 x := by
  cases k with
  | int i => exact .int i
  | str s le => exact .str s le
  | tup h le => exact .tup (tup_n e h) le
  | oth ty i l s u ni nn nt => exact .oth (fun H2 e2 => ty H2 (e.trans e2)) i l s u ni nn fun H2 e2 => nt H2 (e.trans e2)
theorem Kn.ex {K : PySem.W.Frag} {H H1 : Hp} {x : V} (k : Kn K H x) (e : Ex H H1) : Kn K H1 x := k.exN e.n
theorem Kn.tupsN {K : PySem.W.Frag} {H H1 : Hp} {x : V} (k : Kn K H x) (e : LamX.ExtN H H1) : tupOf H1 x = tupOf H x := by
  cases k with
  | int i => rfl
  | str s le => rfl
  | @tup a xs h le =>
    show (match H1 a with
      | some (.tup ys) => some ys
      | _ => none) = (match H a with
      | some (.tup ys) => some ys
      | _ => none)
    rw [h, tup_n e h]
  | oth ty i l s u ni nn nt => rw [nt H1 e, nt H (LamX.ExtN.refl _)]
theorem Kn.tups {K : PySem.W.Frag} {H H1 : Hp} {x : V} (k : Kn K H x) (e : Ex H H1) : tupOf H1 x = tupOf H x := k.tupsN e.n
theorem Kn.le {K : PySem.W.Frag} {H : Hp} {x : V} {xs : List V} (k : Kn K H x) (h : tupOf H x = some xs) : xs.length ≤ sizeLine := by
  cases k with
  | int i => cases h
  | str s le => cases h
  | @tup a ys e le =>
    have z : (match H a with
      | some (.tup ys) => some ys
      | _ => none) = some xs := h
    rw [e] at z
    cases z
    exact le
  | oth ty i l s u ni nn nt =>
    rw [nt H (LamX.ExtN.refl _)] at h
    cases h
/-- known to this depth -/
def Deep (K : PySem.W.Frag) (H : Hp) : Nat → V → Prop
  | 0, x => Kn K H x
  | n + 1, x => Kn K H x ∧ ∀ xs, tupOf H x = some xs → ∀ y ∈ xs, Deep K H n y
theorem Deep.kn {K : PySem.W.Frag} {H : Hp} : ∀ {n : Nat} {x : V}, Deep K H n x → Kn K H x
  | 0, _, d => d
  | _ + 1, _, d => d.1
theorem Deep.exN {K : PySem.W.Frag} {H H1 : Hp} (e : LamX.ExtN H H1) : ∀ {n : Nat} {x : V}, Deep K H n x → Deep K H1 n x
  | 0, _, d => Kn.exN d e
  | n + 1, x, d => ⟨d.1.exN e, fun xs h y hy => Deep.exN e (d.2 xs (by rw [← d.1.tupsN e]; exact h) y hy)⟩
theorem Deep.ex {K : PySem.W.Frag} {H H1 : Hp} (e : Ex H H1) {n : Nat} {x : V} (d : Deep K H n x) : Deep K H1 n x := d.exN e.n
structure BltI (mg : Str → Option Value) : Prop where
  isinstance : mg "isinstance" = none
  int : mg "int" = none
  bool : mg "bool" = none
  str : mg "str" = none
  tuple : mg "tuple" = none
  len : mg "len" = none
  all : mg "all" = none
  enumerate : mg "enumerate" = none
/-- the answer of is_integer -/
theorem rd_int {K : PySem.W.Frag} {H : Hp} {x : V} (k : Kn K H x) {Q : VK} (q : Q (.bl (isI x)) H) : rIsi K [x, .ty "int"] H fun v H1 => ∃ c, v = .bl c ∧ if c = true then rIsi K [x, .ty "bool"] H1 fun w H2 => ∃ d, w = .bl d ∧ Q (.bl (!d)) H2 else Q (.bl false) H1 := by
  cases k with
  | int i =>
    refine ⟨_, _, _, _, true, rfl, .ty "int", .base (.int i), kit_ty (by decide +kernel), true, rfl, ?_⟩
    rw [if_pos rfl]
    exact ⟨_, _, _, _, false, rfl, .ty "bool", .base (.int i), kit_ty (by decide +kernel), false, rfl, q⟩
  | str s le =>
    refine ⟨_, _, _, _, false, rfl, .ty "int", .base (.str s), kit_ty (by decide +kernel), false, rfl, ?_⟩
    rw [if_neg (by decide)]
    exact q
  | tup e le =>
    refine ⟨_, _, _, _, false, rfl, .ty "int", .base (.tup e), kit_ty (by decide +kernel), false, rfl, ?_⟩
    rw [if_neg (by decide)]
    exact q
  | @oth _ t b ty i l s u ni nn nt =>
    rw [ni] at q
    refine ⟨_, _, _, _, b, rfl, .ty "int", ty _ (LamX.ExtN.refl _), i, b, rfl, ?_⟩
    cases b with
    | false =>
      rw [if_neg (by decide)]
      exact q
    | true =>
      rw [if_pos rfl]
      exact ⟨_, _, _, _, true, rfl, .ty "bool", ty _ (LamX.ExtN.refl _), l, true, rfl, q⟩
abbrev sInt : Stmt := top 4
abbrev sName : Stmt := top 5
def spInt (K : PySem.W.Frag) : Sp := fun vs H Q _ => ∃ x, vs = [x] ∧ Kn K H x ∧ Q (.bl (isI x)) H
section
variable {P : Program} {w : World} {K : PySem.W.Frag} {mg : Str → Option Value} {base : Heap}
theorem scInt : FnScope ["value"] ["value"] (defScope sInt) := ⟨rfl, rfl, rfl, by decide +kernel, rfl, by decide +kernel, by decide +kernel⟩
theorem ok_int {f : Addr} {fd : FuncData} (F : Fun K "is_integer" "is_integer" sInt f fd) (B : BltI mg) : FnOk P w K mg base CX0 1 f fd ["value"] (spInt K) := by
  refine F.ok scInt (fun vs H Q E h => ?_) (fun cdv A outer s H vs Q E hr h => ?_)
  · obtain ⟨x, rfl, _⟩ := h
    rfl
  · obtain ⟨x, rfl, k, q⟩ := h
    refine ⟨_, pss_one (ps_ret (pe_and (pe_callB call_isi (by rfl) B.isinstance (by decide +kernel) (pa_cons (pv 0) (pa_cons (pe_bltn (by rfl) B.int (by decide +kernel) (v := .ty "int") rfl) pa_nil)))
      (pe_one (pe_not (pe_callB call_isi (by rfl) B.isinstance (by decide +kernel) (pa_cons (pv 0) (pa_cons (pe_bltn (by rfl) B.bool (by decide +kernel) (v := .ty "bool") rfl) pa_nil))))))), ?_⟩
    have z := rd_int k q
    obtain ⟨_, c, t, u, b, e1, e2, e3, e4, c1, e5, z⟩ := z
    cases e1
    refine ⟨_, rfl, _, _, t, u, b, rfl, e2, e3, e4, c1, e5, ?_⟩
    cases c1 with
    | false => exact z
    | true =>
      obtain ⟨_, c, t, u, b, e1, e2, e3, e4, z⟩ := z
      cases e1
      exact ⟨_, rfl, _, _, t, u, b, rfl, e2, e3, e4, z⟩
end
end LJ
set_option Elab.async false
set_option linter.all false
set_option maxRecDepth 100000
set_option maxHeartbeats 4000000
namespace LJ
open PySem PySem.Spec L2
/-- the answer is b, whatever new stands beside -/
def Says (Q : VK) (H : Hp) (b : Bool) : Prop := ∀ H1, Ex H H1 → Q (.bl b) H1
def spName (K : PySem.W.Frag) : Sp := fun vs H Q _ => ∃ x, vs = [x] ∧ Kn K H x ∧ Says Q H (isN x)
theorem Kn.atStr {K : PySem.W.Frag} {H : Hp} {x : V} (k : Kn K H x) : ∃ t b, TyX K H x t ∧ PySem.W.kitOne K t (.type "str") = some b ∧ ((b = true ∧ ∃ s, x = .str s ∧ s.length ≤ sizeLine) ∨ (b = false ∧ isN x = false)) := by
  cases k with
  | int i => exact ⟨_, false, .base (.int i), kit_ty (by decide +kernel), .inr ⟨rfl, rfl⟩⟩
  | str s le => exact ⟨_, true, .base (.str s), kit_ty (by decide +kernel), .inl ⟨rfl, s, rfl, le⟩⟩
  | tup e le => exact ⟨_, false, .base (.tup e), kit_ty (by decide +kernel), .inr ⟨rfl, rfl⟩⟩
  | @oth _ t b ty i l s u ni nn nt => exact ⟨t, false, ty _ (LamX.ExtN.refl _), s, .inr ⟨rfl, nn⟩⟩
theorem Kn.atTup {K : PySem.W.Frag} {H : Hp} {x : V} (k : Kn K H x) : ∃ t b, TyX K H x t ∧ PySem.W.kitOne K t (.type "tuple") = some b ∧ ((b = true ∧ ∃ a xs, x = .ref a ∧ H a = some (.tup xs) ∧ tupOf H x = some xs) ∨ (b = false ∧ tupOf H x = none)) := by
  cases k with
  | int i => exact ⟨_, false, .base (.int i), kit_ty (by decide +kernel), .inr ⟨rfl, rfl⟩⟩
  | str s le => exact ⟨_, false, .base (.str s), kit_ty (by decide +kernel), .inr ⟨rfl, rfl⟩⟩
  | @tup a xs e le =>
    refine ⟨_, true, .base (.tup e), kit_ty (by decide +kernel), .inl ⟨rfl, a, xs, rfl, e, ?_⟩⟩
    show (match H a with
      | some (.tup ys) => some ys
      | _ => none) = some xs
    rw [e]
  | @oth _ t b ty i l s u ni nn nt => exact ⟨t, false, ty _ (LamX.ExtN.refl _), u, .inr ⟨rfl, nt _ (LamX.ExtN.refl _)⟩⟩
def low (c : Nat) : Bool := decide (97 ≤ c) && decide (c ≤ 122)
/-- one sign between two -/
theorem le_one (a b : Nat) : (!decide ((⟨#[b]⟩ : Str).cps.toList < (⟨#[a]⟩ : Str).cps.toList)) = decide (a ≤ b) := by
  have e : ((⟨#[b]⟩ : Str).cps.toList < (⟨#[a]⟩ : Str).cps.toList) ↔ b < a := by
    show [b] < [a] ↔ _
    simp [List.cons_lt_cons_iff]
  by_cases h : a ≤ b
  · rw [decide_eq_true h, decide_eq_false (fun z => by have := e.mp z; omega)]
    rfl
  · rw [decide_eq_false h, decide_eq_true (e.mpr (by omega))]
    rfl
section
variable {P : Program} {w : World} {K : PySem.W.Frag} {mg : Str → Option Value} {base : Heap}
theorem scName : FnScope ["value", "letter"] ["value"] (defScope sName) := ⟨rfl, rfl, rfl, by decide +kernel, rfl, by decide +kernel, by decide +kernel⟩
theorem ok_name {f : Addr} {fd : FuncData} {uL : Value} (F : Fun K "is_name" "is_name" sName f fd) (B : BltI mg) (mL : mg "_MOST_LETTERS" = some uL) (rL : RelV (.int 8) uL) : FnOk P w K mg base CX0 1 f fd ["value"] (spName K) := by
  refine F.ok scName (fun vs H Q E h => ?_) (fun cdv A outer s H vs Q E hr h => ?_)
  · obtain ⟨x, rfl, _⟩ := h
    rfl
  · obtain ⟨x, rfl, k, q⟩ := h
    refine ⟨_, pss_cons (ps_if (PW.pt (pw_or (pt_not (pt_truth (pe_callB call_isi (by rfl) B.isinstance (by decide +kernel) (pa_cons (pv 0) (pa_cons (pe_bltn (by rfl) B.str (by decide +kernel) (v := .ty "str") rfl) pa_nil))) (fun _ => rfl)))
        (pw_or1 (pt_not (pt_chain op_le op_le pe_int (pe_callB call_len_str (by rfl) B.len (by decide +kernel) (pa_cons (pv 0) pa_nil)) (pe_glob (by rfl) mL rL)))))) (pss_one (ps_ret pe_bl)) pss_nil)
      (pss_one (ps_ret (pe_callB (cr_all (by rfl)) (by rfl) B.all (by decide +kernel) (pa_cons (pe_lc (own := [("letter", 1)]) (g := gName 1) (by rfl) scName.nd (pi_str (pv 0)) (blkOk_by (own := [("letter", 1)]) (N := ["value", "letter"]) (sc := defScope sName) (by decide +kernel)) (fun _ _ _ _ _ => pg_name scName.nd rfl (Or.inl rfl)) (fun _ _ _ _ _ => pts_nil) (fun _ _ _ _ _ => pe_chain op_le_str op_le_str pe_str (pv 1) pe_str)) pa_nil)))), ?_⟩
    obtain ⟨t, b, ty, e, hb⟩ := k.atStr
    refine ⟨_, rfl, _, _, t, _, b, rfl, .ty "str", ty, e, b, rfl, ?_⟩
    rcases hb with ⟨rfl, s, rfl, le⟩ | ⟨rfl, n⟩
    · have out : ∀ c : Bool, c = false → isN (.str s) = c → Q (.bl false) H := fun c e1 e2 => by
        have z := q H Ex.refl
        rw [e2, e1] at z
        exact z
      refine ⟨_, rfl, s, rfl, le, 1, s.length, rfl, rfl, _, rfl, ?_⟩
      refine ite2 (fun c1 => ?_) (fun c1 => ?_)
      · refine ⟨_, _, rfl, rfl, _, rfl, ?_⟩
        have l1 : (1 : Int) ≤ s.length := of_decide_eq_true c1
        by_cases c2 : (s.length : Int) ≤ 8
        · rw [decide_eq_true c2]
          have l2 : s.length ≤ 8 := by omega
          have sz : s.cps.toList.length ≤ 8 := l2
          have big : (8 : Nat) < sizeLine := by
            rw [sizeLine_eq]
            decide
          refine ⟨_, rfl, s, rfl, fun D hD => lc_it walk_str (fun n H2 => Ex H H2 ∧ H2 D = some (.lst (((s.cps.toList.take n).map low).map V.bl))) ⟨Ex.refl.new hD, upd_same⟩ (fun _ _ _ _ => True.intro) ?_ ?_⟩
          · rintro i y _ H2 hi ⟨x2, e2⟩ ⟨rfl, c, hc, rfl⟩
            refine ⟨rfl, ?_⟩
            have hc2 : s.cps.toList[i]? = some c := by rw [Array.getElem?_toList]; exact hc
            have done : ∃ acc, H2 D = some (.lst acc) ∧ acc.length < sizeLine ∧ Ex H (upd H2 D (.lst (acc ++ [.bl (low c)]))) ∧ (upd H2 D (.lst (acc ++ [.bl (low c)]))) D = some (.lst (((s.cps.toList.take (i + 1)).map low).map V.bl)) := by
              refine ⟨_, e2, ?_, x2.put hD, ?_⟩
              · rw [List.length_map, List.length_map, List.length_take]
                omega
              · rw [upd_same, List.take_succ, hc2, List.map_append, List.map_append]
                rfl
            refine ⟨_, rfl, _, _, rfl, rfl, _, rfl, ?_⟩
            rw [show (!decide ((⟨#[c]⟩ : Str).cps.toList < (Str.ofString "a").cps.toList)) = decide (97 ≤ c) from le_one 97 c]
            refine ite2 (fun k1 => ?_) (fun k1 => ?_)
            · refine ⟨_, _, rfl, rfl, ?_⟩
              rw [show (!decide ((Str.ofString "z").cps.toList < (⟨#[c]⟩ : Str).cps.toList)) = decide (c ≤ 122) from le_one c 122]
              have e : low c = decide (c ≤ 122) := by
                unfold low
                rw [k1, Bool.true_and]
              rw [← e]
              exact done
            · have e : low c = false := by
                unfold low
                rw [Bool.eq_false_iff.mpr k1, Bool.false_and]
              rw [e] at done
              exact done
          · rintro H2 ⟨x2, e2⟩
            refine ⟨D, _, rfl, SqL.of e2, ?_⟩
            have z := q H2 x2
            have e : isN (.str s) = ((s.cps.toList.take s.cps.size).map low).all id := by
              show isW s = _
              unfold isW
              rw [decide_eq_true (p := 1 ≤ s.length) (by omega), decide_eq_true l2, Bool.true_and, Bool.true_and, List.take_of_length_le (by rw [Array.length_toList]; exact Nat.le_refl _), List.all_map]
              rfl
            rw [e] at z
            exact z
        · rw [decide_eq_false c2]
          refine out _ rfl ?_
          show isW s = false
          unfold isW
          rw [decide_eq_false (p := s.length ≤ 8) (by omega)]
          simp
      · have l1 : ¬ (1 : Int) ≤ s.length := fun z => c1 (decide_eq_true z)
        refine ⟨_, rfl, ?_⟩
        refine out _ rfl ?_
        show isW s = false
        unfold isW
        rw [decide_eq_false (p := 1 ≤ s.length) (by omega)]
        simp
    · rw [n] at q
      exact q H Ex.refl
end
end LJ
set_option Elab.async false
set_option linter.all false
set_option maxRecDepth 100000
set_option maxHeartbeats 4000000
namespace LJ
open PySem PySem.Spec L2
abbrev sShar : Stmt := top 28
abbrev sLim : Stmt := top 29
abbrev sCont : Stmt := top 30
abbrev sNamed : Stmt := top 31
abbrev sBnds : Stmt := top 32
/-- a tuple of this length that begins with a name -/
def isRow (H : Hp) (x : V) (n : Int) : Bool := match tupOf H x with
  | some xs => decide ((xs.length : Int) = n) && match xs with
    | y :: _ => isN y
    | [] => false
  | none => false
/-- a pair of bounds up to m -/
def bndOf (m : Int) : List V → Bool
  | [.int i, .int j] => decide (0 ≤ i) && (decide (i ≤ j) && decide (j ≤ m))
  | _ => false
def isBnd (H : Hp) (x : V) (m : Int) : Bool := match tupOf H x with
  | some xs => bndOf m xs
  | none => false
theorem isI_int : ∀ {y : V}, isI y = true → ∃ i, y = .int i
  | .int i, _ => ⟨i, rfl⟩
theorem bnd_two {m : Int} {xs : List V} (h : xs.length ≠ 2) : bndOf m xs = false := by
  match xs, h with
  | [], _ => rfl
  | [y], _ => cases y <;> rfl
  | [_, _], h => exact absurd rfl h
  | y :: z :: _ :: _, _ => cases y <;> cases z <;> rfl
theorem bnd_fst {m : Int} {y z : V} (h : isI y ≠ true) : bndOf m [y, z] = false := by
  cases y <;> first | exact absurd rfl h | rfl
theorem bnd_snd {m : Int} {i : Int} {z : V} (h : isI z ≠ true) : bndOf m [.int i, z] = false := by
  cases z <;> first | exact absurd rfl h | rfl
def spNamed (K : PySem.W.Frag) : Sp := fun vs H Q _ => ∃ (x : V) (n : Int), vs = [x, .int n] ∧ 1 ≤ n ∧ Deep K H 1 x ∧ Says Q H (isRow H x n)
def spBnd (K : PySem.W.Frag) : Sp := fun vs H Q _ => ∃ (x : V) (m : Int), vs = [x, .int m] ∧ Deep K H 1 x ∧ Says Q H (isBnd H x m)
section
variable {P : Program} {w : World} {K : PySem.W.Frag} {mg : Str → Option Value} {base : Heap}
theorem scNamed : FnScope ["row", "length"] ["row", "length"] (defScope sNamed) := ⟨rfl, rfl, rfl, by decide +kernel, rfl, by decide +kernel, by decide +kernel⟩
theorem ok_named {f fN : Addr} {fd fdN : FuncData} (F : Fun K "_is_named" "_is_named" sNamed f fd) (B : BltI mg)
    (GN : FnOk P w K mg base CX0 1 fN fdN ["value"] (spName K)) (mN : mg "is_name" = some (.ref fN)) (kN : PySem.W.keepIn K (.ref fN) = true) (bN : Binds K fdN ["value"] []) :
    FnOk P w K mg base CX0 2 f fd ["row", "length"] (spNamed K) := by
  refine F.ok scNamed (fun vs H Q E h => ?_) (fun cdv A outer s H vs Q E hr h => ?_)
  · obtain ⟨x, n, rfl, _⟩ := h
    rfl
  · obtain ⟨x, n, rfl, n1, k, q⟩ := h
    refine ⟨_, pss_one (ps_ret (pe_and (pe_callB call_isi (by rfl) B.isinstance (by decide +kernel) (pa_cons (pv 0) (pa_cons (pe_bltn (by rfl) B.tuple (by decide +kernel) (v := .ty "tuple") rfl) pa_nil)))
      (pe_and (pe_cmpR op_eq (pe_callB call_len_seq (by rfl) B.len (by decide +kernel) (pa_cons (pv 0) pa_nil)) (pv 1) (nomark _))
        (pe_one (pe_call GN hr (by rfl) mN kN bN .nil pass0 (pa_cons (pe_ix ix_tup (pv 0) pe_int (fun _ _ => rfl)) pa_nil)))))), ?_⟩
    obtain ⟨t, b, ty, e, hb⟩ := k.1.atTup
    refine ⟨_, rfl, _, _, t, _, b, rfl, .ty "tuple", ty, e, b, rfl, ?_⟩
    rcases hb with ⟨rfl, a, xs, rfl, ha, hx⟩ | ⟨rfl, hx⟩
    · refine ⟨_, rfl, a, xs, rfl, .inr (SqT.of ha), _, rfl, rfl, _, rfl, ?_⟩
      have z := q H Ex.refl
      by_cases c : (xs.length : Int) = n
      · have c1 : (V.int (xs.length : Int) = V.int n) := by rw [c]
        rw [decide_eq_true c1]
        show _
        match xs, hx, ha, c with
        | y :: r, hx, ha, c =>
          refine ⟨_, rfl, a, y :: r, 0, y, rfl, rfl, SqT.of ha, atI_nat (j := 0) rfl, y, rfl, k.2 _ hx y (List.mem_cons_self ..), fun H1 e1 => ?_⟩
          have z1 := q H1 e1
          unfold isRow at z1
          rw [hx] at z1
          simp only [c, decide_true, Bool.true_and] at z1
          exact z1
        | [], hx, ha, c =>
          simp at c
          omega
      · have c1 : ¬ (V.int (xs.length : Int) = V.int n) := fun z => c (V.int.inj z)
        rw [decide_eq_false c1]
        unfold isRow at z
        rw [hx] at z
        simp only [c, decide_false, Bool.false_and] at z
        exact z
    · have z := q H Ex.refl
      unfold isRow at z
      rw [hx] at z
      exact z
theorem scBnds : FnScope ["pair", "most", "low", "high"] ["pair", "most"] (defScope sBnds) := ⟨rfl, rfl, rfl, by decide +kernel, rfl, by decide +kernel, by decide +kernel⟩
theorem ok_bnds {f fI : Addr} {fd fdI : FuncData} (F : Fun K "_are_bounds" "_are_bounds" sBnds f fd) (B : BltI mg)
    (GI : FnOk P w K mg base CX0 1 fI fdI ["value"] (spInt K)) (mI : mg "is_integer" = some (.ref fI)) (kI : PySem.W.keepIn K (.ref fI) = true) (bI : Binds K fdI ["value"] []) :
    FnOk P w K mg base CX0 2 f fd ["pair", "most"] (spBnd K) := by
  refine F.ok scBnds (fun vs H Q E h => ?_) (fun cdv A outer s H vs Q E hr h => ?_)
  · obtain ⟨x, n, rfl, _⟩ := h
    rfl
  · obtain ⟨x, m, rfl, k, q⟩ := h
    refine ⟨_, pss_cons (ps_if (PW.pt (pw_or (pt_not (pt_truth (pe_callB call_isi (by rfl) B.isinstance (by decide +kernel) (pa_cons (pv 0) (pa_cons (pe_bltn (by rfl) B.tuple (by decide +kernel) (v := .ty "tuple") rfl) pa_nil))) (fun _ => rfl)))
        (pw_or1 (pt_cmpR op_ne (pe_callB call_len_seq (by rfl) B.len (by decide +kernel) (pa_cons (pv 0) pa_nil)) pe_int (nomark _))))) (pss_one (ps_ret pe_bl)) pss_nil)
      (pss_cons (ps_asg (pv 0) (pg_tup (by rfl) (pgs_cons (pg_name (i := 2) scBnds.nd rfl (Or.inl rfl)) (pgs_cons (pg_name (i := 3) scBnds.nd rfl (Or.inl rfl)) pgs_nil))))
      (pss_one (ps_ret (pe_and (pe_call GI hr (by rfl) mI kI bI .nil pass0 (pa_cons (pv 2) pa_nil)) (pe_and (pe_call GI hr (by rfl) mI kI bI .nil pass0 (pa_cons (pv 3) pa_nil))
        (pe_one (pe_chain3 op_le op_le op_le pe_int (pv 2) (pv 3) (pv 1)))))))), ?_⟩
    obtain ⟨t, b, ty, e, hb⟩ := k.1.atTup
    have z := q H Ex.refl
    refine ⟨_, rfl, _, _, t, _, b, rfl, .ty "tuple", ty, e, b, rfl, ?_⟩
    rcases hb with ⟨rfl, a, xs, rfl, ha, hx⟩ | ⟨rfl, hx⟩
    · refine ⟨_, rfl, a, xs, rfl, .inr (SqT.of ha), rfl, _, rfl, ?_⟩
      have kk := k.2 xs hx
      unfold isBnd at z
      rw [hx] at z
      by_cases c : xs.length = 2
      · obtain ⟨y1, y2, rfl⟩ : ∃ y1 y2, xs = [y1, y2] := by
          match xs, c with
          | [y1, y2], _ => exact ⟨y1, y2, rfl⟩
        refine ⟨_, rfl, a, _, rfl, SqT.of ha, rfl, ?_⟩
        have k1 : Kn K H y1 := kk y1 (by simp)
        have k2 : Kn K H y2 := kk y2 (by simp)
        refine ⟨_, _, rfl, _, _, rfl, rfl, _, rfl, y1, rfl, k1, _, rfl, ?_⟩
        by_cases e1 : isI y1 = true
        · obtain ⟨i, rfl⟩ := isI_int e1
          refine ⟨_, rfl, y2, rfl, k2, _, rfl, ?_⟩
          by_cases e2 : isI y2 = true
          · obtain ⟨j, rfl⟩ := isI_int e2
            have z : Q (.bl (decide (0 ≤ i) && (decide (i ≤ j) && decide (j ≤ m)))) H := z
            refine ⟨_, rfl, _, _, rfl, rfl, _, rfl, ?_⟩
            refine ite2 (fun c1 => ?_) (fun c1 => ?_)
            · rw [c1] at z
              refine ⟨_, rfl, _, _, rfl, rfl, _, rfl, ?_⟩
              refine ite2 (fun c2 => ?_) (fun c2 => ?_)
              · rw [c2] at z
                exact ⟨_, rfl, _, _, rfl, rfl, z⟩
              · rw [Bool.eq_false_iff.mpr c2] at z
                exact z
            · rw [Bool.eq_false_iff.mpr c1] at z
              exact z
          · rw [if_neg e2]
            have z : Q (.bl (bndOf m [.int i, y2])) H := z
            rw [bnd_snd e2] at z
            exact z
        · rw [if_neg e1]
          have z : Q (.bl (bndOf m [y1, y2])) H := z
          rw [bnd_fst e1] at z
          exact z
      · have c1 : ¬ (V.int (xs.length : Int) = V.int 2) := fun q1 => c (by have := V.int.inj q1; omega)
        rw [decide_eq_false c1]
        have z : Q (.bl (bndOf m xs)) H := z
        rw [bnd_two c] at z
        exact z
    · unfold isBnd at z
      rw [hx] at z
      exact z
end
end LJ
set_option Elab.async false
set_option linter.all false
set_option maxRecDepth 100000
set_option maxHeartbeats 4000000
namespace LJ
open PySem PySem.Spec L2
def top12 : Int := 1000000000000
def sharesOf : List V → Bool
  | [n, a, b] => isN n && bndOf 1000 [a, b]
  | _ => false
def limOf : List V → Bool
  | [n, .int i] => isN n && (decide (0 ≤ i) && decide (i ≤ top12))
  | _ => false
def pairsOf (H : Hp) (m : Int) : Option (List V) → Bool
  | some ps => decide ((ps.length : Int) = m) && ps.all fun y => isBnd H y top12
  | none => false
def contOf (H : Hp) (m : Int) : List V → Bool
  | [n, t] => isN n && pairsOf H m (tupOf H t)
  | _ => false
def onTup (f : List V → Bool) (H : Hp) (x : V) : Bool := match tupOf H x with
  | some xs => f xs
  | none => false
def spTest (K : PySem.W.Frag) (d : Nat) (f : Hp → V → Bool) : Sp := fun vs H Q _ => ∃ x : V, vs = [x] ∧ Deep K H d x ∧ Says Q H (f H x)
def spCont (K : PySem.W.Frag) : Sp := fun vs H Q _ => ∃ (x : V) (m : Int), vs = [x, .int m] ∧ Deep K H 3 x ∧ Says Q H (onTup (contOf H m) H x)
theorem tup_ref {H : Hp} {x : V} {xs : List V} (h : tupOf H x = some xs) : ∃ a, x = .ref a ∧ H a = some (.tup xs) := by
  unfold tupOf at h
  split at h
  · rename_i a
    refine ⟨a, rfl, ?_⟩
    split at h
    · rename_i e
      rw [e]
      cases h
      rfl
    · cases h
  · cases h
theorem tup_at {H : Hp} {a : Addr} {xs : List V} (e : H a = some (.tup xs)) : tupOf H (.ref a) = some xs := by
  show (match H a with
    | some (.tup ys) => some ys
    | _ => none) = some xs
  rw [e]
theorem row_yes {H : Hp} {x : V} {n : Int} (h : isRow H x n = true) : ∃ y ys, tupOf H x = some (y :: ys) ∧ (((y :: ys).length : Nat) : Int) = n ∧ isN y = true := by
  unfold isRow at h
  split at h
  · rename_i xs e
    rw [Bool.and_eq_true] at h
    obtain ⟨h1, h2⟩ := h
    match xs, h1, h2, e with
    | y :: ys, h1, h2, e => exact ⟨y, ys, e, of_decide_eq_true h1, h2⟩
    | [], _, h2, _ => cases h2
  · cases h
theorem row_no {H : Hp} {x : V} {n : Nat} {f : List V → Bool} (h : isRow H x n = false) (hf : ∀ xs, f xs = true → ∃ y ys, xs = y :: ys ∧ xs.length = n ∧ isN y = true) : onTup f H x = false := by
  unfold isRow at h
  unfold onTup
  split at h
  · rename_i xs e
    try rw [e]
    refine Bool.eq_false_iff.mpr fun z => ?_
    obtain ⟨y, ys, rfl, e2, e3⟩ := hf xs z
    simp only [e2, e3, decide_true, Bool.and_self] at h
    cases h
  · rename_i e
    first
      | rw [e]
      | rfl
theorem Deep.down {K : PySem.W.Frag} {H : Hp} : ∀ {n : Nat} {x : V}, Deep K H (n + 1) x → Deep K H n x
  | 0, _, d => d.1
  | n + 1, _, d => ⟨d.1, fun xs h y hy => Deep.down (d.2 xs h y hy)⟩
section
variable {P : Program} {w : World} {K : PySem.W.Frag} {mg : Str → Option Value} {base : Heap}
theorem scShar : FnScope ["row"] ["row"] (defScope sShar) := ⟨rfl, rfl, rfl, by decide +kernel, rfl, by decide +kernel, by decide +kernel⟩
theorem ok_shar {f fN fB : Addr} {fd fdN fdB : FuncData} {u : Value} (F : Fun K "_has_shares" "_has_shares" sShar f fd)
    (GN : FnOk P w K mg base CX0 2 fN fdN ["row", "length"] (spNamed K)) (mN : mg "_is_named" = some (.ref fN)) (kN : PySem.W.keepIn K (.ref fN) = true) (bN : Binds K fdN ["row", "length"] [])
    (GB : FnOk P w K mg base CX0 2 fB fdB ["pair", "most"] (spBnd K)) (mB : mg "_are_bounds" = some (.ref fB)) (kB : PySem.W.keepIn K (.ref fB) = true) (bB : Binds K fdB ["pair", "most"] [])
    (mM : mg "MOST_SHARE" = some u) (rM : RelV (.int 1000) u) :
    FnOk P w K mg base CX0 3 f fd ["row"] (spTest K 1 (onTup sharesOf)) := by
  refine F.ok scShar (fun vs H Q E h => ?_) (fun cdv A outer s H vs Q E hr h => ?_)
  · obtain ⟨x, rfl, _⟩ := h
    rfl
  · obtain ⟨x, rfl, k, q⟩ := h
    refine ⟨_, pss_one (ps_ret (pe_and (pe_call GN hr (by rfl) mN kN bN .nil pass0 (pa_cons (pv 0) (pa_cons pe_int pa_nil)))
      (pe_one (pe_call GB hr (by rfl) mB kB bB .nil pass0 (pa_cons (pe_slice sl_tup (pv 0) (po_some pe_int) po_none) (pa_cons (pe_glob (by rfl) mM rM) pa_nil)))))), ?_⟩
    refine ⟨_, rfl, x, 3, rfl, by decide, k, fun H1 e1 => ⟨_, rfl, ?_⟩⟩
    have z := q H1 e1
    cases hr3 : isRow H x 3 with
    | false =>
      rw [row_no (n := 3) hr3 fun xs hx => ?_] at z
      · exact z
      · match xs, hx with
        | [y, a, b], hx =>
          unfold sharesOf at hx
          exact ⟨y, _, rfl, rfl, (Bool.and_eq_true _ _ ▸ hx).1⟩
    | true =>
      obtain ⟨y, ys, ht, hl, hy⟩ := row_yes hr3
      obtain ⟨a, b, rfl⟩ : ∃ a b, ys = [a, b] := by
        match ys, hl with
        | [a, b], _ => exact ⟨a, b, rfl⟩
        | [], hl => simp at hl
        | [_], hl => simp at hl
        | _ :: _ :: _ :: _, hl => simp at hl; omega
      obtain ⟨p, rfl, hp⟩ := tup_ref ht
      rw [if_pos rfl]
      refine ⟨_, rfl, _, rfl, p, _, rfl, SqT.of (e1 _ _ hp), ?_, fun t nt => ?_⟩
      · rintro ⟨c, _⟩
        exact absurd (show (1 : Nat) = 0 from c) (by decide)
      · have cut : cutV [y, a, b] (some 1) none = [a, b] := rfl
        rw [cut]
        have up : Ex H1 (upd H1 t (.tup [a, b])) := Ex.refl.new nt
        have tt : tupOf (upd H1 t (.tup [a, b])) (.ref t) = some [a, b] := tup_at upd_same
        refine ⟨.ref t, 1000, rfl, ⟨.tup upd_same (by rw [sizeLine_eq]; exact (by decide : 2 ≤ 16777216)), fun xs hx v hv => ?_⟩, fun H2 e2 => ?_⟩
        · rw [tt] at hx
          cases hx
          exact Kn.ex (k.2 _ ht v (List.mem_cons_of_mem _ hv)) (e1.trans up)
        · have z2 := q H2 (e1.trans (up.trans e2))
          have e : isBnd (upd H1 t (.tup [a, b])) (.ref t) 1000 = onTup sharesOf H (.ref p) := by
            unfold isBnd onTup
            rw [tt, ht]
            show bndOf 1000 [a, b] = (isN y && bndOf 1000 [a, b])
            rw [hy, Bool.true_and]
          show Q (.bl (isBnd (upd H1 t (.tup [a, b])) (.ref t) 1000)) H2
          rw [e]
          exact z2
theorem scLim : FnScope ["row"] ["row"] (defScope sLim) := ⟨rfl, rfl, rfl, by decide +kernel, rfl, by decide +kernel, by decide +kernel⟩
theorem ok_lim {f fN fI : Addr} {fd fdN fdI : FuncData} {u : Value} (F : Fun K "_has_limit" "_has_limit" sLim f fd)
    (GN : FnOk P w K mg base CX0 2 fN fdN ["row", "length"] (spNamed K)) (mN : mg "_is_named" = some (.ref fN)) (kN : PySem.W.keepIn K (.ref fN) = true) (bN : Binds K fdN ["row", "length"] [])
    (GI : FnOk P w K mg base CX0 1 fI fdI ["value"] (spInt K)) (mI : mg "is_integer" = some (.ref fI)) (kI : PySem.W.keepIn K (.ref fI) = true) (bI : Binds K fdI ["value"] [])
    (mM : mg "MOST_AMOUNT" = some u) (rM : RelV (.int top12) u) :
    FnOk P w K mg base CX0 3 f fd ["row"] (spTest K 1 (onTup limOf)) := by
  refine F.ok scLim (fun vs H Q E h => ?_) (fun cdv A outer s H vs Q E hr h => ?_)
  · obtain ⟨x, rfl, _⟩ := h
    rfl
  · obtain ⟨x, rfl, k, q⟩ := h
    have hr1 : Room 1 _ := hr.mono (by decide)
    refine ⟨_, pss_one (ps_ret (pe_and (pe_call GN hr (by rfl) mN kN bN .nil pass0 (pa_cons (pv 0) (pa_cons pe_int pa_nil)))
      (pe_and (pe_call GI hr1 (by rfl) mI kI bI .nil pass0 (pa_cons (pe_ix ix_tup (pv 0) pe_int (fun _ _ => rfl)) pa_nil))
        (pe_one (pe_chain op_le op_le pe_int (pe_ix ix_tup (pv 0) pe_int (fun _ _ => rfl)) (pe_glob (by rfl) mM rM)))))), ?_⟩
    refine ⟨_, rfl, x, 2, rfl, by decide, k, fun H1 e1 => ⟨_, rfl, ?_⟩⟩
    have z := q H1 e1
    cases hr3 : isRow H x 2 with
    | false =>
      rw [row_no (n := 2) hr3 fun xs hx => ?_] at z
      · exact z
      · match xs, hx with
        | [y, .int i], hx =>
          unfold limOf at hx
          exact ⟨y, _, rfl, rfl, (Bool.and_eq_true _ _ ▸ hx).1⟩
    | true =>
      obtain ⟨y, ys, ht, hl, hy⟩ := row_yes hr3
      obtain ⟨a, rfl⟩ : ∃ a, ys = [a] := by
        match ys, hl with
        | [a], _ => exact ⟨a, rfl⟩
        | [], hl => simp at hl
        | _ :: _ :: _, hl => simp at hl; omega
      obtain ⟨p, rfl, hp⟩ := tup_ref ht
      rw [if_pos rfl]
      have at1 : atI [y, a] 1 = some a := atI_nat (j := 1) rfl
      refine ⟨_, rfl, p, _, 1, a, rfl, rfl, SqT.of (e1 _ _ hp), at1, a, rfl, Kn.ex (k.2 _ ht a (by simp)) e1, _, rfl, ?_⟩
      have z : Q (.bl (onTup limOf H (.ref p))) H1 := z
      unfold onTup at z
      rw [ht] at z
      have z : Q (.bl (limOf [y, a])) H1 := z
      by_cases ci : isI a = true
      · obtain ⟨i, rfl⟩ := isI_int ci
        rw [if_pos ci]
        refine ⟨_, rfl, p, _, 1, .int i, rfl, rfl, SqT.of (e1 _ _ hp), at1, _, _, rfl, rfl, _, rfl, ?_⟩
        have z : Q (.bl (isN y && (decide (0 ≤ i) && decide (i ≤ top12)))) H1 := z
        rw [hy, Bool.true_and] at z
        refine ite2 (fun c1 => ?_) (fun c1 => ?_)
        · rw [c1, Bool.true_and] at z
          exact ⟨_, _, rfl, rfl, z⟩
        · rw [Bool.eq_false_iff.mpr c1, Bool.false_and] at z
          exact z
      · rw [if_neg ci]
        have e : limOf [y, a] = false := by
          cases a <;> first | exact absurd rfl ci | rfl
        rw [e] at z
        exact z
end
end LJ
set_option Elab.async false
set_option linter.all false
set_option maxRecDepth 100000
set_option maxHeartbeats 4000000
namespace LJ
open PySem PySem.Spec L2
theorem isBnd_ex {K : PySem.W.Frag} {H H1 : Hp} {y : V} {m : Int} (k : Kn K H y) (e : Ex H H1) : isBnd H1 y m = isBnd H y m := by
  unfold isBnd
  rw [k.tups e]
section
variable {P : Program} {w : World} {K : PySem.W.Frag} {mg : Str → Option Value} {base : Heap}
theorem scCont : FnScope ["row", "many", "pair"] ["row", "many"] (defScope sCont) := ⟨rfl, rfl, rfl, by decide +kernel, rfl, by decide +kernel, by decide +kernel⟩
theorem ok_cont {f fN fB : Addr} {fd fdN fdB : FuncData} {u : Value} (F : Fun K "_has_contents" "_has_contents" sCont f fd) (B : BltI mg)
    (GN : FnOk P w K mg base CX0 2 fN fdN ["row", "length"] (spNamed K)) (mN : mg "_is_named" = some (.ref fN)) (kN : PySem.W.keepIn K (.ref fN) = true) (bN : Binds K fdN ["row", "length"] [])
    (GB : FnOk P w K mg base CX0 2 fB fdB ["pair", "most"] (spBnd K)) (mB : mg "_are_bounds" = some (.ref fB)) (kB : PySem.W.keepIn K (.ref fB) = true) (bB : Binds K fdB ["pair", "most"] [])
    (mM : mg "MOST_AMOUNT" = some u) (rM : RelV (.int top12) u) :
    FnOk P w K mg base CX0 3 f fd ["row", "many"] (spCont K) := by
  refine F.ok scCont (fun vs H Q E h => ?_) (fun cdv A outer s H vs Q E hr h => ?_)
  · obtain ⟨x, m, rfl, _⟩ := h
    rfl
  · obtain ⟨x, m, rfl, k, q⟩ := h
    refine ⟨_, pss_cons (ps_if (PW.pt (pw_or (pt_not (pt_truth (pe_call GN hr (by rfl) mN kN bN .nil pass0 (pa_cons (pv 0) (pa_cons pe_int pa_nil))) (fun _ => rfl)))
        (pw_or (pt_not (pt_truth (pe_callB call_isi (by rfl) B.isinstance (by decide +kernel) (pa_cons (pe_ix ix_tup (pv 0) pe_int (fun _ _ => rfl)) (pa_cons (pe_bltn (by rfl) B.tuple (by decide +kernel) (v := .ty "tuple") rfl) pa_nil))) (fun _ => rfl)))
        (pw_or1 (pt_cmpR op_ne (pe_callB call_len_seq (by rfl) B.len (by decide +kernel) (pa_cons (pe_ix ix_tup (pv 0) pe_int (fun _ _ => rfl)) pa_nil)) (pv 1) (nomark _)))))) (pss_one (ps_ret pe_bl)) pss_nil)
      (pss_one (ps_ret (pe_callB (cr_all (by rfl)) (by rfl) B.all (by decide +kernel) (pa_cons (pe_lc (own := [("pair", 2)]) (g := gName 2) (by rfl) scCont.nd (pi_tup (pe_ix ix_tup (pv 0) pe_int (fun _ _ => rfl))) (blkOk_by (own := [("pair", 2)]) (N := ["row", "many", "pair"]) (sc := defScope sCont) (by decide +kernel))
        (fun _ _ _ _ _ => pg_name scCont.nd rfl (Or.inl rfl)) (fun _ _ _ _ _ => pts_nil) (fun _ _ _ _ _ => pe_call GB hr (by rfl) mB kB bB .nil pass0 (pa_cons (pv 2) (pa_cons (pe_glob (by rfl) mM rM) pa_nil)))) pa_nil)))), ?_⟩
    have k1 : Deep K H 1 x := k.down.down
    refine ⟨_, rfl, x, 2, rfl, by decide, k1, fun H1 e1 => ⟨_, rfl, ?_⟩⟩
    have z := q H1 e1
    cases hr3 : isRow H x 2 with
    | false =>
      rw [row_no (n := 2) hr3 fun xs hx => ?_] at z
      · exact z
      · match xs, hx with
        | [y, t], hx =>
          unfold contOf at hx
          exact ⟨y, _, rfl, rfl, (Bool.and_eq_true _ _ ▸ hx).1⟩
    | true =>
      obtain ⟨y, ys, ht, hl, hy⟩ := row_yes hr3
      obtain ⟨t, rfl⟩ : ∃ a, ys = [a] := by
        match ys, hl with
        | [a], _ => exact ⟨a, rfl⟩
        | [], hl => simp at hl
        | _ :: _ :: _, hl => simp at hl; omega
      obtain ⟨p, rfl, hp⟩ := tup_ref ht
      have at1 : atI [y, t] 1 = some t := atI_nat (j := 1) rfl
      have kt : Deep K H 2 t := k.2 _ ht t (by simp)
      have kt1 : Kn K H1 t := kt.1.ex e1
      have ez : onTup (contOf H m) H (.ref p) = pairsOf H m (tupOf H t) := by
        unfold onTup
        rw [ht]
        show (isN y && _) = _
        rw [hy, Bool.true_and]
      rw [ez] at z q
      obtain ⟨ty1, b, ty, e, hb⟩ := kt1.atTup
      refine ⟨_, rfl, p, _, 1, t, rfl, rfl, SqT.of (e1 _ _ hp), at1, t, _, ty1, _, b, rfl, .ty "tuple", ty, e, b, rfl, ?_⟩
      rcases hb with ⟨rfl, a, ps, rfl, ha, hx⟩ | ⟨rfl, hx⟩
      · refine ⟨_, rfl, p, _, 1, .ref a, rfl, rfl, SqT.of (e1 _ _ hp), at1, a, ps, rfl, .inr (SqT.of ha), _, rfl, rfl, _, rfl, ?_⟩
        have h0 : tupOf H (.ref a) = some ps := by
          rw [← kt.1.tups e1]
          exact hx
        rw [h0] at z q
        have z : Q (.bl (decide ((ps.length : Int) = m) && ps.all fun y => isBnd H y top12)) H1 := z
        have sz : ps.length ≤ sizeLine := kt.1.le h0
        by_cases c : (ps.length : Int) = m
        · have c1 : (V.int (ps.length : Int) = V.int m) := by rw [c]
          rw [decide_eq_true c1]
          refine ⟨_, rfl, p, _, 1, .ref a, rfl, rfl, SqT.of (e1 _ _ hp), at1, a, rfl, ⟨ps, SqT.of ha⟩, fun D hD => lc_it walk_tup (fun n H2 => Ex H1 H2 ∧ H2 D = some (.lst ((ps.take n).map fun y => V.bl (isBnd H y top12)))) ⟨Ex.refl.new hD, upd_same⟩ (fun i H2 _ h => SqT.of (h.1 _ _ ha)) ?_ ?_⟩
          · rintro i v _ H2 hi ⟨x2, e2⟩ ⟨rfl, hv⟩
            have kv : Deep K H 1 v := kt.2 _ h0 v (List.mem_of_getElem? hv)
            refine ⟨rfl, ?_⟩
            refine ⟨_, rfl, v, top12, rfl, Deep.ex (e1.trans x2) kv, fun H3 e3 => ?_⟩
            refine ⟨_, e3 _ _ e2, ?_, (x2.trans e3).put hD, ?_⟩
            · rw [List.length_map, List.length_take]
              omega
            · rw [upd_same, List.take_succ, hv, List.map_append, isBnd_ex kv.1 (e1.trans x2)]
              rfl
          · rintro H2 ⟨x2, e2⟩
            have e3 : H2 D = some (.lst ((ps.map fun y => isBnd H y top12).map V.bl)) := by
              rw [e2, List.take_of_length_le (Nat.le_refl _), List.map_map]
              rfl
            refine ⟨D, _, rfl, SqL.of e3, ?_⟩
            have z2 := q H2 (e1.trans x2)
            have z2 : Q (.bl (decide ((ps.length : Int) = m) && ps.all fun y => isBnd H y top12)) H2 := z2
            rw [decide_eq_true c, Bool.true_and] at z2
            rw [List.all_map]
            exact z2
        · have c1 : ¬ (V.int (ps.length : Int) = V.int m) := fun z => c (V.int.inj z)
          rw [decide_eq_false c1]
          rw [decide_eq_false c, Bool.false_and] at z
          exact z
      · rw [← kt.1.tups e1, hx] at z
        exact z
end
end LJ
set_option Elab.async false
set_option linter.all false
set_option maxRecDepth 100000
set_option maxHeartbeats 8000000
namespace LJ
open PySem PySem.Spec L2
abbrev sFirst : Stmt := top 27
abbrev nFirst : List Str := ["rows", "earlier", "fewest", "most", "is_right", "taken", "at", "row"]
abbrev pFirst : List Str := ["rows", "earlier", "fewest", "most", "is_right"]
/-- the place of the first row that is none: too many, not right, or its name is taken -/
def fwAt (R : V → Bool) (nm : V → Str) (most : Int) : List Str → Nat → List V → Option Nat
  | _, _, [] => none
  | tk, i, v :: r => if (i : Int) = most then some i else if R v = false then some i else if nm v ∈ tk then some i else fwAt R nm most (tk ++ [nm v]) (i + 1) r
def fwOut (R : V → Bool) (nm : V → Str) (few most : Int) (tk : List Str) : Option (List V) → List V
  | none => [.non]
  | some xs => if (xs.length : Int) < few then [.non] else match fwAt R nm most tk 0 xs with
    | none => []
    | some i => [.int i]
/-- a row that begins with this name -/
def Named (H : Hp) (v : V) (n : Str) : Prop := ∃ (a : Addr) (r : List V), v = .ref a ∧ H a = some (.tup (.str n :: r))
theorem Named.ex {H H1 : Hp} {v : V} {n : Str} (h : Named H v n) (e : Ex H H1) : Named H1 v n := by
  obtain ⟨a, r, e1, e2⟩ := h
  exact ⟨a, r, e1, e _ _ e2⟩
theorem walk_en {K : PySem.W.Frag} {a : Addr} {xs : List V} : Walk (EnT.Itn K a) xs.length (fun H => SqT K H a xs) (YPair (fun i => some (.int (i : Nat))) (fun i => xs[i]?)) where
  goes i _ hi q := ⟨xs, xs[i], q, by simp [hi]⟩
  stops _ q := ⟨xs, q, rfl⟩
  yields i H v H1 _ q y := by
    obtain ⟨T, x, h1, h2, h3, h4⟩ := y
    exact ⟨T, .int (i : Nat), x, h1, h2, h3, rfl, h4 xs q⟩
theorem strs_in {n : Str} {tk : List Str} : inV (.str n) (tk.map V.str) = decide (n ∈ tk) := by
  unfold inV
  rw [List.any_map]
  have e : (fun y => eqV y (V.str n)) ∘ V.str = fun y => decide (y = n) := by
    funext y
    show eqV (.str y) (.str n) = _
    unfold eqV
    rfl
  rw [e]
  by_cases h : n ∈ tk
  · rw [decide_eq_true h, List.any_eq_true]
    exact ⟨n, h, by simp⟩
  · rw [decide_eq_false h, List.any_eq_false]
    intro y hy z
    exact h (of_decide_eq_true z ▸ hy)
theorem Paired.spot {α β : Type} {F : α → β → Prop} : ∀ {xs : List α} {ys : List β} {i : Nat} {x : α}, Paired F xs ys → xs[i]? = some x → ∃ y, ys[i]? = some y ∧ F x y
  | _, _, 0, _, .cons f _, h => by
    cases h
    exact ⟨_, rfl, f⟩
  | _, _, i + 1, _, .cons _ t, h => Paired.spot (i := i) t h
  | _, _, _, _, .nil, h => by simp at h
theorem Paired.size {α β : Type} {F : α → β → Prop} : ∀ {xs : List α} {ys : List β}, Paired F xs ys → xs.length = ys.length
  | _, _, .nil => rfl
  | _, _, .cons _ t => by rw [List.length_cons, List.length_cons, Paired.size t]
section
variable {P : Program} {w : World} {K : PySem.W.Frag} {mg : Str → Option Value} {base : Heap}
theorem scFirst : FnScope nFirst pFirst (defScope sFirst) := ⟨rfl, rfl, rfl, by decide +kernel, rfl, by decide +kernel, by decide +kernel⟩
theorem walk_fw {f : Addr} {cdv : Value} {A : Around} {outer : List Env} {s : Shared} {H : Hp} {E : XK} {Q : VK} {tc : TE} {R : V → Bool} {nm : V → Str} {x cal : V} {ae : Addr} {ers : List V} {names : List Str} {few most : Int} (B : BltI mg)
    (hcall : ∀ p1 p2 p3, PE (cxOf CX0 P w K mg base nFirst "_first_wrong" (defScope sFirst) f cdv A outer s H E).nox (.Call (.Name "is_right" p1) [.Name "row" p2] [] p3) tc)
    (kx : Kn K H x) (ke : H ae = some (.tup ers)) (ken : Paired (Named H) ers names) (few0 : 0 ≤ few) (most0 : 0 ≤ most) (most1 : most ≤ 100) (el : ers.length ≤ 1000)
    (hR : ∀ xs, tupOf H x = some xs → ∀ v ∈ xs, ∀ (σ : St) (H1 : Hp) (Q1 : VK), Ex H H1 → σ[4]? = some (some cal) → σ[7]? = some (some v) → Says Q1 H1 (R v) → tc σ H1 Q1)
    (hN : ∀ xs, tupOf H x = some xs → ∀ v ∈ xs, R v = true → Named H v (nm v))
    (q : ∀ (p : Addr) (H1 : Hp), Ex H H1 → H p = none → H1 p = some (.tup (fwOut R nm few most names (tupOf H x))) → Q (.ref p) H1) :
    ∃ t, PSs (cxOf CX0 P w K mg base nFirst "_first_wrong" (defScope sFirst) f cdv A outer s H E).nox (defBody sFirst) t ∧ t { nx := fun _ H1 => Q .non H1, rt := Q } (start nFirst [x, .ref ae, .int few, .int most, cal]) H := by
  refine ⟨_, pss_cons (ps_if (PW.pt (pw_or (pt_not (pt_truth (pe_callB call_isi (by rfl) B.isinstance (by decide +kernel) (pa_cons (pv 0) (pa_cons (pe_bltn (by rfl) B.tuple (by decide +kernel) (v := .ty "tuple") rfl) pa_nil))) (fun _ => rfl)))
        (pw_or1 (pt_cmpR op_lt (pe_callB call_len_seq (by rfl) B.len (by decide +kernel) (pa_cons (pv 0) pa_nil)) (pv 2) (nomark _))))) (pss_one (ps_ret (pe_tup (pa_cons pe_non pa_nil)))) pss_nil)
    (pss_cons (ps_setLc (i := 5) (own := [("row", 7)]) (g := gName 7) (by rfl) scFirst.nd rfl rfl (sw_true rfl rfl rfl (by decide +kernel)) (pi_tup (pv 1)) (blkOk_by (own := [("row", 7)]) (N := nFirst) (sc := defScope sFirst) (by decide +kernel))
        (fun _ _ _ _ _ => pg_name scFirst.nd rfl (Or.inl rfl)) (fun _ _ _ _ _ => pts_nil) (fun _ _ _ _ _ => pe_ix (show IxR _ (rIxT K) from ix_tup) (pv 7) pe_int (fun _ _ => rfl)))
    (pss_cons (ps_for PassesOwn.never rfl (EnT.pi_enT (by rfl) B.enumerate (pa_cons (pv 0) pa_nil)) (pg_tup (by rfl) (pgs_cons (pg_name (i := 6) scFirst.nd rfl (Or.inl rfl)) (pgs_cons (pg_name (i := 7) scFirst.nd rfl (Or.inl rfl)) pgs_nil)))
        (pss_cons (ps_if (PW.pt (pw_or (pt_cmpR op_eq (pv 6) (pv 3) (nomark _)) (pw_or (pt_not (pt_truth (hcall _ _ _) (fun _ => rfl))) (pw_or1 (pt_cmpR op_in_seq (pe_ix ix_tup (pv 7) pe_int (fun _ _ => rfl)) (pv 5) (by with_unfolding_all rfl)))))) (pss_one (ps_ret (pe_tup (pa_cons (pv 6) pa_nil)))) pss_nil)
        (pss_one (ps_expr (pe_bm PySem.F.plainAttrs_list PySem.F.slot_list_append PySem.F.type_list_append mt_append (pv 5) (pa_cons (pe_ix ix_tup (pv 7) pe_int (fun _ _ => rfl)) pa_nil))))))
    (pss_one (ps_ret (pe_tup pa_nil))))), ?_⟩
  obtain ⟨t, b, ty, e, hb⟩ := kx.atTup
  have one : 1 ≤ sizeLine := by
    rw [sizeLine_eq]
    decide
  have big : (2000 : Nat) < sizeLine := by
    rw [sizeLine_eq]
    decide
  have nl : ers.length = names.length := Paired.size ken
  refine ⟨_, rfl, _, _, t, _, b, rfl, .ty "tuple", ty, e, b, rfl, ?_⟩
  rcases hb with ⟨rfl, a, xs, rfl, ha, hx⟩ | ⟨rfl, hx⟩
  · rw [hx] at q
    refine ⟨_, rfl, a, xs, rfl, .inr (SqT.of ha), _, rfl, _, _, rfl, rfl, _, rfl, ?_⟩
    refine ite2 (fun c => ?_) (fun c => ?_)
    · refine ⟨one, fun p np => q p _ (Ex.refl.new np) np ?_⟩
      rw [upd_same]
      unfold fwOut
      simp only
      rw [if_pos (of_decide_eq_true c)]
    · have c' : ¬ (xs.length : Int) < few := fun z => c (decide_eq_true z)
      have q : ∀ (p : Addr) (H1 : Hp) (o : Option Nat), Ex H H1 → H p = none → fwAt R nm most names 0 xs = o → H1 p = some (.tup (match o with | none => [] | some i => [.int i])) → Q (.ref p) H1 := fun p H1 o e1 e2 e3 e4 => by
        refine q p H1 e1 e2 ?_
        unfold fwOut
        simp only
        rw [if_neg c', e3, e4]
      clear c
      refine ⟨_, rfl, ae, rfl, ⟨ers, SqT.of ke⟩, fun D hD => lc_it walk_tup (fun n H2 => Ex H H2 ∧ H2 D = some (.lst ((names.take n).map V.str))) ⟨Ex.refl.new hD, upd_same⟩ (fun i H2 _ h => SqT.of (h.1 _ _ ke)) ?_ ?_⟩
      · rintro i v _ H2 hi ⟨x2, e2⟩ ⟨rfl, hv⟩
        obtain ⟨n, hn, b, r, rfl, hb⟩ := Paired.spot ken hv
        refine ⟨rfl, ?_⟩
        refine ⟨_, rfl, b, _, 0, .str n, rfl, rfl, SqT.of (x2 _ _ hb), atI_nat (j := 0) rfl, ?_⟩
        refine ⟨_, e2, ?_, x2.put hD, ?_⟩
        · rw [List.length_map, List.length_take]
          omega
        · rw [upd_same, List.take_succ, hn, List.map_append]
          rfl
      · rintro H2 ⟨x2, e2⟩
        rw [nl, List.take_length] at e2
        refine ⟨_, rfl, a, xs, rfl, SqT.of (x2 _ _ ha), for_it walk_en (fun n σ G => ∃ (tk : List Str) (v6 v7 : Option V), σ = [some (.ref a), some (.ref ae), some (.int few), some (.int most), some cal, some (.ref D), v6, v7] ∧ Ex H G ∧ G D = some (.lst (tk.map V.str)) ∧
            tk.length = names.length + n ∧ (n : Int) ≤ most ∧ fwAt R nm most names 0 xs = fwAt R nm most tk n (xs.drop n))
          ⟨names, _, _, rfl, x2, e2, rfl, by omega, by rw [List.drop_zero]⟩ (fun n σ G _ ⟨_, _, _, _, h, _⟩ => SqT.of (h _ _ ha)) ?_ ?_⟩
        · rintro i v σ G G1 hi ⟨tk, v6, v7, rfl, xG, eD, tl, im, ef⟩ ⟨T, y1, y2, rfl, nT, rfl, h1, h2⟩
          cases h1
          have h2 : xs[i]? = some y2 := h2
          have hi2 : i < xs.length := hi
          have dr : xs.drop i = y2 :: xs.drop (i + 1) := by
            have z := h2
            rw [List.getElem?_eq_getElem hi2] at z
            rw [List.drop_eq_getElem_cons hi2, Option.some.inj z]
          rw [dr] at ef
          have mem : y2 ∈ xs := List.mem_of_getElem? h2
          have xT : Ex H (upd G T (.tup [.int (i : Nat), y2])) := xG.new nT
          have dT : D ≠ T := ne_of_none eD nT
          have eD1 : (upd G T (.tup [.int (i : Nat), y2])) D = some (.lst (tk.map V.str)) := by
            rw [upd_ne dT]
            exact eD
          have eT : (upd G T (.tup [.int (i : Nat), y2])) T = some (.tup [.int (i : Nat), y2]) := upd_same
          generalize upd G T (.tup [.int (i : Nat), y2]) = G1 at xT eD1 eT ⊢
          refine ⟨T, _, rfl, SqT.of eT, rfl, _, _, rfl, _, _, rfl, rfl, ?_⟩
          refine ⟨_, rfl, _, rfl, rfl, _, rfl, ?_⟩
          have stop : fwAt R nm most tk i (y2 :: xs.drop (i + 1)) = some i → ∀ (G2 : Hp), Ex H G2 → ∀ p, G2 p = none → Q (.ref p) (upd G2 p (.tup [.int (i : Nat)])) := fun z G2 x3 p np =>
            q p _ (some i) (x3.new np) (x3.gone np) (ef.trans z) upd_same
          by_cases c1 : (i : Int) = most
          · rw [decide_eq_true (show V.int ((i : Nat) : Int) = V.int most by rw [c1])]
            refine ⟨_, rfl, one, fun p np => stop ?_ G1 xT p np⟩
            unfold fwAt
            rw [if_pos c1]
          · rw [decide_eq_false (fun z : V.int ((i : Nat) : Int) = V.int most => c1 (V.int.inj z))]
            refine hR xs hx y2 mem _ _ _ xT rfl rfl fun G2 x4 => ⟨_, rfl, ?_⟩
            have xT2 := xT.trans x4
            cases hRv : R y2 with
            | false =>
              refine ⟨_, rfl, one, fun p np => stop ?_ G2 xT2 p np⟩
              unfold fwAt
              rw [if_neg c1, if_pos hRv]
            | true =>
              obtain ⟨bb, r, rfl, hbb⟩ := hN xs hx y2 mem hRv
              have eD2 := x4 _ _ eD1
              have fl : (tk.map V.str).all flatV = true := by
                rw [List.all_map]
                exact List.all_eq_true.mpr fun _ _ => rfl
              refine ⟨_, rfl, bb, _, 0, .str (nm (.ref bb)), rfl, rfl, SqT.of (xT2 _ _ hbb), atI_nat (j := 0) rfl, _, rfl, D, _, rfl, .inl (SqL.of eD2), rfl, fl, _, rfl, ?_⟩
              rw [show (if false = true then !inV (V.str (nm (V.ref bb))) (tk.map V.str) else inV (V.str (nm (V.ref bb))) (tk.map V.str)) = decide (nm (V.ref bb) ∈ tk) from strs_in]
              refine ite2 (fun c2 => ?_) (fun c2 => ?_)
              · refine ⟨_, rfl, one, fun p np => stop ?_ G2 xT2 p np⟩
                unfold fwAt
                rw [if_neg c1, if_neg (by rw [hRv]; decide), if_pos (of_decide_eq_true c2)]
              · have c3 : ¬ nm (V.ref bb) ∈ tk := fun z => c2 (decide_eq_true z)
                refine ⟨_, rfl, .inl ⟨rfl, _, SqL.of eD2⟩, _, rfl, bb, _, 0, .str (nm (.ref bb)), rfl, rfl, SqT.of (xT2 _ _ hbb), atI_nat (j := 0) rfl, D, _, _, rfl, rfl, eD2, ?_, tk ++ [nm (.ref bb)], _, _, rfl, xT2.put hD, ?_, ?_, ?_, ?_⟩
                · rw [List.length_map, tl]
                  omega
                · rw [upd_same, List.map_append]
                  rfl
                · rw [List.length_append, tl]
                  rfl
                · omega
                · rw [ef]
                  conv => lhs; unfold fwAt
                  rw [if_neg c1, if_neg (by rw [hRv]; decide), if_neg c3]
        · rintro σ G ⟨tk, v6, v7, rfl, xG, eD, tl, im, ef⟩
          rw [List.drop_length] at ef
          exact ⟨Nat.zero_le _, fun p np => q p _ none (xG.new np) (xG.gone np) ef upd_same⟩
  · rw [hx] at q
    exact ⟨one, fun p np => q p _ (Ex.refl.new np) np upd_same⟩
end
end LJ
set_option Elab.async false
set_option linter.all false
set_option maxRecDepth 100000
set_option maxHeartbeats 8000000
namespace LJ
open PySem PySem.Spec L2
def nameOf (H : Hp) (v : V) : Str := match tupOf H v with
  | some (.str n :: _) => n
  | _ => Str.empty
/-- what a test lets has a name ahead -/
def Heads (g : List V → Bool) : Prop := ∀ xs, g xs = true → ∃ y ys, xs = y :: ys ∧ isN y = true
theorem heads_shares : Heads sharesOf := fun xs h => by
  match xs, h with
  | [y, a, b], h =>
    unfold sharesOf at h
    exact ⟨y, _, rfl, (Bool.and_eq_true _ _ ▸ h).1⟩
theorem heads_lim : Heads limOf := fun xs h => by
  match xs, h with
  | [y, .int i], h =>
    unfold limOf at h
    exact ⟨y, _, rfl, (Bool.and_eq_true _ _ ▸ h).1⟩
theorem heads_cont {H : Hp} {m : Int} : Heads (contOf H m) := fun xs h => by
  match xs, h with
  | [y, t], h =>
    unfold contOf at h
    exact ⟨y, _, rfl, (Bool.and_eq_true _ _ ▸ h).1⟩
theorem named_of {g : List V → Bool} {H : Hp} {v : V} (hg : Heads g) (h : onTup g H v = true) : Named H v (nameOf H v) := by
  unfold onTup at h
  split at h
  · rename_i xs e
    obtain ⟨y, ys, rfl, hy⟩ := hg xs h
    obtain ⟨a, rfl, ha⟩ := tup_ref e
    match y, hy with
    | .str n, _ =>
      refine ⟨a, ys, rfl, ?_⟩
      unfold nameOf
      rw [e]
      exact ha
  · cases h
theorem onTup_ex {K : PySem.W.Frag} {g : List V → Bool} {H H1 : Hp} {v : V} (k : Kn K H v) (e : Ex H H1) : onTup g H1 v = onTup g H v := by
  unfold onTup
  rw [k.tups e]
/-- what the call of _first_wrong asks of its first four arguments -/
structure FwPre (K : PySem.W.Frag) (H : Hp) (x : V) (ae : Addr) (ers : List V) (names : List Str) (few most : Int) : Prop where
  ke : H ae = some (.tup ers)
  ken : Paired (Named H) ers names
  few0 : 0 ≤ few
  most0 : 0 ≤ most
  most1 : most ≤ 100
  el : ers.length ≤ 1000
def spFw (K : PySem.W.Frag) (fS fL : Addr) : Sp := fun vs H Q _ => ∃ (x : V) (ae : Addr) (ers : List V) (names : List Str) (few most : Int) (cf : Addr) (g : List V → Bool), vs = [x, .ref ae, .int few, .int most, .ref cf] ∧ FwPre K H x ae ers names few most ∧ Deep K H 2 x ∧
  ((cf = fS ∧ g = sharesOf) ∨ (cf = fL ∧ g = limOf)) ∧ ∀ (p : Addr) (H1 : Hp), Ex H H1 → H p = none → H1 p = some (.tup (fwOut (onTup g H) (nameOf H) few most names (tupOf H x))) → Q (.ref p) H1
section
variable {P : Program} {w : World} {K : PySem.W.Frag} {mg : Str → Option Value} {base : Heap}
theorem ok_first {f fS fL : Addr} {fd fdS fdL : FuncData} (F : Fun K "_first_wrong" "_first_wrong" sFirst f fd) (B : BltI mg)
    (GS : FnOk P w K mg base CX0 3 fS fdS ["row"] (spTest K 1 (onTup sharesOf))) (kS : PySem.W.keepIn K (.ref fS) = true) (bS : Binds K fdS ["row"] [])
    (GL : FnOk P w K mg base CX0 3 fL fdL ["row"] (spTest K 1 (onTup limOf))) (kL : PySem.W.keepIn K (.ref fL) = true) (bL : Binds K fdL ["row"] []) :
    FnOk P w K mg base CX0 4 f fd pFirst (spFw K fS fL) := by
  refine F.ok scFirst (fun vs H Q E h => ?_) (fun cdv A outer s H vs Q E hr h => ?_)
  · obtain ⟨x, ae, ers, names, few, most, cf, g, rfl, _⟩ := h
    rfl
  · obtain ⟨x, ae, ers, names, few, most, cf, g, rfl, pre, dx, hc, q⟩ := h
    refine walk_fw (cal := .ref cf) (R := onTup g H) (nm := nameOf H) B (fun p1 p2 p3 => C8.pe_cv (i := 4) (k1 := 3) (k2 := 3) ⟨⟨_, _, GS, kS, bS⟩⟩ ⟨⟨_, _, GL, kL, bL⟩⟩ hr (by decide) (by decide) (by rfl) (by exact Or.inl rfl) (pa_cons (pv 7) pa_nil))
      dx.1 pre.ke pre.ken pre.few0 pre.most0 pre.most1 pre.el ?_ ?_ q
    · intro xs hx v hv σ H1 Q1 e1 h4 h7 says
      have dv : Deep K H 1 v := dx.2 xs hx v hv
      rcases hc with ⟨rfl, rfl⟩ | ⟨rfl, rfl⟩
      · exact .inl ⟨h4, v, h7, v, rfl, Deep.ex e1 dv, by rw [onTup_ex dv.1 e1]; exact says⟩
      · exact .inr ⟨h4, v, h7, v, rfl, Deep.ex e1 dv, by rw [onTup_ex dv.1 e1]; exact says⟩
    · intro xs hx v hv hR
      rcases hc with ⟨_, rfl⟩ | ⟨_, rfl⟩
      · exact named_of heads_shares hR
      · exact named_of heads_lim hR
end
end LJ
set_option Elab.async false
set_option linter.all false
set_option maxRecDepth 100000
set_option maxHeartbeats 8000000
namespace LJ
open PySem PySem.Spec L2
open LamX (ExtN)
abbrev sCheck : Stmt := top 26
abbrev nCheck : List Str := ["machines", "cleanings", "stuffs", "products", "wrong", "many"]
abbrev pCheck : List Str := ["machines", "cleanings", "stuffs", "products"]
theorem onTup_exN {K : PySem.W.Frag} {g : List V → Bool} {H H1 : Hp} {v : V} (k : Kn K H v) (e : ExtN H H1) : onTup g H1 v = onTup g H v := by
  unfold onTup
  rw [k.tupsN e]
theorem nameOf_exN {K : PySem.W.Frag} {H H1 : Hp} {v : V} (k : Kn K H v) (e : ExtN H H1) : nameOf H1 v = nameOf H v := by
  unfold nameOf
  rw [k.tupsN e]
theorem isBnd_exN {K : PySem.W.Frag} {H H1 : Hp} {y : V} {m : Int} (k : Kn K H y) (e : ExtN H H1) : isBnd H1 y m = isBnd H y m := by
  unfold isBnd
  rw [k.tupsN e]
theorem all_same {α : Type} {p q : α → Bool} : ∀ {xs : List α}, (∀ x ∈ xs, p x = q x) → xs.all p = xs.all q
  | [], _ => rfl
  | x :: xs, h => by rw [List.all_cons, List.all_cons, h x (List.mem_cons_self ..), all_same fun y hy => h y (List.mem_cons_of_mem _ hy)]
theorem cont_exN {K : PySem.W.Frag} {H H1 : Hp} {m : Int} {v : V} (d : Deep K H 3 v) (e : ExtN H H1) : onTup (contOf H1 m) H1 v = onTup (contOf H m) H v := by
  unfold onTup
  rw [d.1.tupsN e]
  cases hx : tupOf H v with
  | none => rfl
  | some xs =>
    show contOf H1 m xs = contOf H m xs
    match xs, hx with
    | [], _ => rfl
    | [_], _ => rfl
    | _ :: _ :: _ :: _, _ => rfl
    | [n, t], hx =>
      have dt : Deep K H 2 t := d.2 _ hx t (by simp)
      show (isN n && pairsOf H1 m (tupOf H1 t)) = (isN n && pairsOf H m (tupOf H t))
      rw [dt.1.tupsN e]
      cases ht : tupOf H t with
      | none => rfl
      | some ps =>
        show (isN n && (decide ((ps.length : Int) = m) && ps.all fun y => isBnd H1 y top12)) = (isN n && (decide ((ps.length : Int) = m) && ps.all fun y => isBnd H y top12))
        rw [all_same fun y hy => isBnd_exN (m := top12) (dt.2 _ ht y hy).1 e]
theorem fwAt_same {R R1 : V → Bool} {nm nm1 : V → Str} {most : Int} : ∀ {xs : List V} {tk : List Str} {i : Nat}, (∀ v ∈ xs, R v = R1 v ∧ nm v = nm1 v) → fwAt R nm most tk i xs = fwAt R1 nm1 most tk i xs
  | [], _, _, _ => by
    unfold fwAt
    rfl
  | v :: xs, tk, i, h => by
    have h1 := h v (List.mem_cons_self ..)
    have t := fwAt_same (tk := tk ++ [nm1 v]) (i := i + 1) (most := most) fun y hy => h y (List.mem_cons_of_mem _ hy)
    unfold fwAt
    rw [h1.1, h1.2, t]
/-- all rows are right, and there are no more than so many -/
theorem fwAt_all {R : V → Bool} {nm : V → Str} {most : Int} : ∀ {xs : List V} {tk : List Str} {i : Nat}, (i : Int) ≤ most → fwAt R nm most tk i xs = none → (∀ v ∈ xs, R v = true) ∧ (i : Int) + xs.length ≤ most
  | [], _, i, h0, _ => ⟨(fun _ z => nomatch z), by simpa using h0⟩
  | v :: xs, tk, i, h0, h => by
    unfold fwAt at h
    split at h
    · cases h
    · split at h
      · cases h
      · split at h
        · cases h
        · rename_i c1 c2 c3
          obtain ⟨a, b⟩ := fwAt_all (i := i + 1) (by omega) h
          refine ⟨fun y hy => ?_, ?_⟩
          · rcases List.mem_cons.mp hy with rfl | hy
            · exact Bool.of_not_eq_false c2
            · exact a y hy
          · rw [List.length_cons]
            omega
theorem fw_nil {R : V → Bool} {nm : V → Str} {few most : Int} {tk : List Str} {H : Hp} {x : V} {xs : List V} (e : tupOf H x = some xs) (l : few ≤ xs.length) (h : fwAt R nm most tk 0 xs = none) : fwOut R nm few most tk (tupOf H x) = [] := by
  rw [e]
  unfold fwOut
  simp only
  rw [if_neg (by omega), h]
/-- four tuples that the check lets -/
structure Fit (K : PySem.W.Frag) (H : Hp) (am ac as ap : Addr) (xm xc xs xp : List V) : Prop where
  m : H am = some (.tup xm)
  c : H ac = some (.tup xc)
  s : H as = some (.tup xs)
  p : H ap = some (.tup xp)
  dm : Deep K H 2 (.ref am)
  dc : Deep K H 2 (.ref ac)
  ds : Deep K H 2 (.ref as)
  dp : Deep K H 4 (.ref ap)
  lm : 1 ≤ xm.length
  ls : 1 ≤ xs.length
  lp : 1 ≤ xp.length
  fm : fwAt (onTup sharesOf H) (nameOf H) 6 [] 0 xm = none
  fc : fwAt (onTup sharesOf H) (nameOf H) 6 (xm.map (nameOf H)) 0 xc = none
  fs : fwAt (onTup limOf H) (nameOf H) 3 ((xm ++ xc).map (nameOf H)) 0 xs = none
  fp : fwAt (onTup (contOf H xs.length) H) (nameOf H) 8 ((xm ++ xc ++ xs).map (nameOf H)) 0 xp = none
theorem Deep.rows {K : PySem.W.Frag} {H : Hp} {n : Nat} {a : Addr} {xs : List V} (d : Deep K H (n + 1) (.ref a)) (h : H a = some (.tup xs)) : ∀ v ∈ xs, Deep K H n v := d.2 xs (tup_at h)
theorem names_exN {K : PySem.W.Frag} {H H1 : Hp} (e : ExtN H H1) : ∀ {xs : List V}, (∀ v ∈ xs, Kn K H v) → xs.map (nameOf H1) = xs.map (nameOf H)
  | [], _ => rfl
  | x :: xs, h => by rw [List.map_cons, List.map_cons, nameOf_exN (h x (List.mem_cons_self ..)) e, names_exN e fun y hy => h y (List.mem_cons_of_mem _ hy)]
theorem Fit.exN {K : PySem.W.Frag} {H H1 : Hp} {am ac as ap : Addr} {xm xc xs xp : List V} (F : Fit K H am ac as ap xm xc xs xp) (e : ExtN H H1) : Fit K H1 am ac as ap xm xc xs xp := by
  have km : ∀ v ∈ xm, Kn K H v := fun v hv => (F.dm.rows F.m v hv).kn
  have kc : ∀ v ∈ xc, Kn K H v := fun v hv => (F.dc.rows F.c v hv).kn
  have ks : ∀ v ∈ xs, Kn K H v := fun v hv => (F.ds.rows F.s v hv).kn
  have kp : ∀ v ∈ xp, Kn K H v := fun v hv => (F.dp.rows F.p v hv).kn
  have kmc : ∀ v ∈ xm ++ xc, Kn K H v := fun v hv => (List.mem_append.mp hv).elim (km v) (kc v)
  have kmcs : ∀ v ∈ xm ++ xc ++ xs, Kn K H v := fun v hv => (List.mem_append.mp hv).elim (kmc v) (ks v)
  refine ⟨tup_n e F.m, tup_n e F.c, tup_n e F.s, tup_n e F.p, F.dm.exN e, F.dc.exN e, F.ds.exN e, F.dp.exN e, F.lm, F.ls, F.lp, ?_, ?_, ?_, ?_⟩
  · rw [← F.fm]
    exact fwAt_same fun v hv => ⟨onTup_exN (km v hv) e, nameOf_exN (km v hv) e⟩
  · rw [← F.fc, names_exN e km]
    exact fwAt_same fun v hv => ⟨onTup_exN (kc v hv) e, nameOf_exN (kc v hv) e⟩
  · rw [← F.fs, names_exN e kmc]
    exact fwAt_same fun v hv => ⟨onTup_exN (ks v hv) e, nameOf_exN (ks v hv) e⟩
  · rw [← F.fp, names_exN e kmcs]
    exact fwAt_same fun v hv => ⟨cont_exN (F.dp.rows F.p v hv) e, nameOf_exN (kp v hv) e⟩
theorem paired_names {H : Hp} : ∀ {xs : List V}, (∀ v ∈ xs, Named H v (nameOf H v)) → Paired (Named H) xs (xs.map (nameOf H))
  | [], _ => .nil
  | x :: xs, h => .cons (h x (List.mem_cons_self ..)) (paired_names fun y hy => h y (List.mem_cons_of_mem _ hy))
theorem Fit.named {K : PySem.W.Frag} {H : Hp} {am ac as ap : Addr} {xm xc xs xp : List V} (F : Fit K H am ac as ap xm xc xs xp) :
    (∀ v ∈ xm, Named H v (nameOf H v)) ∧ (∀ v ∈ xc, Named H v (nameOf H v)) ∧ (∀ v ∈ xs, Named H v (nameOf H v)) ∧ xm.length ≤ 6 ∧ xc.length ≤ 6 ∧ xs.length ≤ 3 := by
  obtain ⟨a1, b1⟩ := fwAt_all (by decide) F.fm
  obtain ⟨a2, b2⟩ := fwAt_all (by decide) F.fc
  obtain ⟨a3, b3⟩ := fwAt_all (by decide) F.fs
  exact ⟨fun v hv => named_of heads_shares (a1 v hv), fun v hv => named_of heads_shares (a2 v hv), fun v hv => named_of heads_lim (a3 v hv), by omega, by omega, by omega⟩
/-- a + b, two tuples, the first one not empty -/
theorem rd_cat {K : PySem.W.Frag} {H : Hp} {a b : Addr} {xs ys : List V} {Q : VK} (ha : H a = some (.tup xs)) (hb : H b = some (.tup ys)) (ne : xs ≠ []) (l : xs.length + ys.length ≤ 1000)
    (q : ∀ (c : Addr) (H1 : Hp), Ex H H1 → H1 c = some (.tup (xs ++ ys)) → Q (.ref c) H1) : rCatT K (.ref a) (.ref b) H Q := by
  refine ⟨a, b, xs, ys, rfl, rfl, SqT.of ha, SqT.of hb, ne, ?_, fun e => ?_, fun _ p np => ?_⟩
  · rw [sizeLine_eq]
    omega
  · subst e
    exact q a H Ex.refl (by rw [List.append_nil]; exact ha)
  · exact q p _ (Ex.refl.new np) upd_same
end LJ
set_option Elab.async false
set_option linter.all false
set_option maxRecDepth 100000
set_option maxHeartbeats 8000000
namespace LJ
open PySem PySem.Spec L2
open LamX (ExtN TabB)
open NdefX (NTab TabsN)
/-- a def with the code object at c, by its body -/
theorem Fun.okC {K : PySem.W.Frag} {P : Program} {w : World} {mg : Str → Option Value} {base : Heap} {x qual : Str} {st : Stmt} {f c : Addr} {fd : FuncData} {N ps : List Str} {k : Nat} {sp : Sp} (F : Fun K x qual st f fd) (hc : fd.code = .ref c) (S : FnScope N ps (defScope st)) (len : ∀ vs H Q E, sp vs H Q E → vs.length = ps.length)
    (hbody : ∀ (A : Around) (outer : List Env) (s : Shared) (H : Hp) (vs : List V) (Q : VK) (E : XK), Room k (A.deeper (PyProof.Rows.envOfC qual (defScope st) s.heap.objs.size f (.ref c))) → sp vs H Q E →
      ∃ t, PSs (cxOf CX0 P w K mg base N qual (defScope st) f (.ref c) A outer s H E).nox (defBody st) t ∧ t { nx := fun _ H1 => Q .non H1, rt := Q } (start N vs) H) : FnOk P w K mg base CX0 (k + 1) f fd ps sp := by
  obtain ⟨oc, od, kV, doc, pm, an, cdv, ct, osl, rfl, lk, hcd⟩ := F.ex
  obtain rfl : cdv = .ref c := hc
  refine fn_of lk hcd S len fun A outer s H vs Q E hr hsp => ?_
  obtain ⟨t, h, q⟩ := hbody A outer s H vs Q E hr hsp
  exact ⟨t, h.nox, q⟩
/-! ### _first_wrong(.., lambda row: _has_contents(row, many)) -/
def spRow (K : PySem.W.Frag) : List (Option V) → Sp := fun ws vs H Q _ => ∃ (v : V) (m : Int), ws = [some (.int m)] ∧ vs = [v] ∧ Deep K H 3 v ∧ Says Q H (onTup (contOf H m) H v)
/-- what the arguments are: the lambda stands, many is m -/
def AskL (X : Cx) (params : Arguments) (body : Expr) (scope : Scope) : St → List V → Hp → VK → Prop := fun σ vs H Q => ∃ (x : V) (ae : Addr) (ers : List V) (names : List Str) (few most m : Int) (fl c1 : Addr),
  vs = [x, .ref ae, .int few, .int most, .ref fl] ∧ FwPre X.K H x ae ers names few most ∧ Deep X.K H 4 x ∧ σ[5]? = some (some (.int m)) ∧ H fl = some (LamV.LnO fl (LamV.lamF X params scope c1) body) ∧
  H (LamV.lamF X params scope c1).c = some (LamX.CodeO (LamV.lamF X params scope c1).c (LamV.lamF X params scope c1).qual) ∧
  ∀ (p : Addr) (H1 : Hp), Ex H H1 → H p = none → H1 p = some (.tup (fwOut (onTup (contOf H m) H) (nameOf H) few most names (tupOf H x))) → Q (.ref p) H1
theorem pe_fwl {X : Cx} {f fC : Addr} {fd fdC : FuncData} {params : Arguments} {body : Expr} {scope : Scope} {p pos : Pos} {e : Expr} {es : List Expr} {t : TA} {q1 q2 q3 q4 : Pos} (F : Fun X.K "_first_wrong" "_first_wrong" sFirst f fd) (B : BltI X.mg) (room : Room 5 X.A) (gl : Gl X "_first_wrong")
    (is : X.mg "_first_wrong" = some (.ref f)) (kp : PySem.W.keepIn X.K (.ref f) = true) (bd : Binds X.K fd pFirst [])
    (GC : FnOk X.prog X.w X.K X.mg X.base CX0 3 fC fdC ["row", "many"] (spCont X.K)) (mC : X.mg "_has_contents" = some (.ref fC)) (kC : PySem.W.keepIn X.K (.ref fC) = true) (bC : Binds X.K fdC ["row", "many"] [])
    (is5 : X.N[5]? = some ("many" : Str)) (caps : ∀ y ∈ scope.names, y.2 = .free → X.env.scope.names.lookup y.1 = some .cell ∨ X.env.scope.names.lookup y.1 = some .free) (frees : ∀ y ∈ (["many"] : List Str), (y, NameKind.free) ∈ scope.names) (hb : body = .Call (.Name "_has_contents" q1) [.Name "row" q2, .Name "many" q3] [] q4)
    (NS : NdefX.NScope ["row", "many"] ["row"] ["many"] scope) (glC : scope.names.lookup ("_has_contents" : Str) = some .globalImplicit)
    (hbind : ∀ (nm q : Str) (cl : List (Str × Addr)) (m t cv : Value) (us : List Value), us.length = 1 → bindArgs (PySem.W.kla_fn nm q params body scope cl m cv t) ⟨us, []⟩ = pure ((["row"] : List Str).zip us))
    (args : PA X (e :: es) t) (p1 : starEach (e :: es) X.env = (false, eval e X.env) :: starEach es X.env := by rfl) (p2 : (backTo pos (starEach es X.env)).any (·.1) = false := by rfl) :
    PE X (.Call (.Name "_first_wrong" p) (e :: es) [] pos) (fun σ H Q => t σ H fun vs H1 => AskL X params body scope σ vs H1 Q) := by
  refine LamV.pe_in (N := nFirst) (ps := pFirst) (k := 4) F scFirst room gl is kp bd (fun {σ vs H Q} h => ?_) (fun cdv pins σ H s vs Q I deep h => ?_) args (by decide) p1 p2
  · obtain ⟨x, ae, ers, names, few, most, m, fl, c1, rfl, _⟩ := h
    rfl
  · obtain ⟨x, ae, ers, names, few, most, m, fl, c1, rfl, pre, dx, hm, hfl, hc1, q⟩ := h
    have L : LamV.LOk X.prog X.w X.K X.mg X.base CX0 4 fl (LamV.lamF X params scope c1) body 1 ["many"] (spRow X.K) := by
      refine LamV.LOk.by_body (N := ["row", "many"]) (ps := ["row"]) NS (fun m t us hl => hbind _ _ _ _ _ _ us hl) (fun {ws vs H Q E} h => ?_) fun A outer s H vs ws Q E hr rdy h => ?_
      · obtain ⟨v, m, _, rfl, _⟩ := h
        rfl
      · obtain ⟨v, m, rfl, rfl, dv, says⟩ := h
        subst hb
        refine ⟨_, pe_call GC hr (show Gl _ _ from glC) mC kC bC .nil pass0 (pa_cons (pe_var (i := 0) rfl (.inl (NS.par _ (List.mem_cons_self ..)))) (pa_cons (pe_var (i := 1) rfl (.inr (.inr (NS.frk _ (List.mem_cons_self ..))))) pa_nil)), ?_⟩
        exact ⟨v, rfl, .int m, rfl, v, m, rfl, dv, says⟩
    have C : NdefX.CellsAt (LamV.lamF X params scope c1).cl ["many"] ([5].map (NdefX.slotAt σ)) s.heap H := by
      refine NdefX.cells_of I (NdefX.Caps.made (fr := ["many"]) (js := [5]) I.ok caps frees ?_)
      show [X.N[5]?] = [some ("many" : Str)]
      rw [is5]
    have w5 : [5].map (NdefX.slotAt σ) = [some (.int m)] := by
      show [NdefX.slotAt σ 5] = _
      rw [NdefX.slotAt_of hm]
    rw [w5] at C
    have deep' : Room 4 (X.A.deeper (PyProof.Rows.envOfC "_first_wrong" (defScope sFirst) s.heap.objs.size f cdv)) := deep
    refine walk_fw (cal := .ref fl) (R := onTup (contOf H m) H) (nm := nameOf H) B (fun q1 q2 q3 => LamV.pe_lact (i := 4) L C rfl deep' (Nat.le_refl _) pass0 rfl (Or.inl rfl) (pa_cons (pv 7) pa_nil)) dx.1 pre.ke pre.ken pre.few0 pre.most0 pre.most1 pre.el ?_ ?_ q
    · intro xs hx v hv σ1 H1 Q1 e1 h4 h7 says
      have dv : Deep X.K H 3 v := dx.2 xs hx v hv
      refine ⟨⟨h4, e1 _ _ hfl⟩, v, h7, ⟨e1 _ _ hfl, e1 _ _ hc1⟩, v, m, rfl, rfl, Deep.ex e1 dv, ?_⟩
      rw [cont_exN dv e1.n]
      exact says
    · intro xs hx v hv hR
      exact named_of heads_cont hR
end LJ
set_option Elab.async false
set_option linter.all false
set_option maxRecDepth 100000
set_option maxHeartbeats 8000000
namespace LJ
open PySem PySem.Spec L2
open LamX (ExtN TabB)
open NdefX (NTab TabsN)
/-- the lambda that the check hands on -/
def lamE : Expr := match (defBody sCheck).getD 7 (.Pass ⟨0, 0, 0, 0⟩) with
  | .Assign _ (.Call _ args _ _) _ => args.getD 4 (.Constant .none 0 ⟨0, 0, 0, 0⟩)
  | _ => .Constant .none 0 ⟨0, 0, 0, 0⟩
def lamParams : Expr → Arguments
  | .Lambda a _ _ _ => a
  | _ => ⟨[], [], none, [], [], none, []⟩
def lamBody : Expr → Expr
  | .Lambda _ b _ _ => b
  | e => e
def lamScope : Expr → Scope
  | .Lambda _ _ s _ => s
  | _ => defScope sCheck
def lamName : Nat → Nat → Str := fun _ _ => "_check.<locals>.<lambda>"
def spCheck (K : PySem.W.Frag) (T : List NTab) : Sp := fun vs H Q _ => ∃ (am ac as ap : Addr) (xm xc xs xp : List V), vs = [.ref am, .ref ac, .ref as, .ref ap] ∧ Fit K H am ac as ap xm xc xs xp ∧ TabsN T H ∧ ∀ H1, ExtN H H1 → TabsN T H1 → Q .non H1
theorem TabsN.exs {T : List NTab} {H H1 : Hp} (t : TabsN T H) (e : Ex H H1) : TabsN T H1 := t.ext e
section
variable {P : Program} {w : World} {K : PySem.W.Frag} {mg : Str → Option Value} {base : Heap}
theorem scCheck : FnScope nCheck pCheck (defScope sCheck) := ⟨rfl, rfl, rfl, by decide +kernel, rfl, by decide +kernel, by decide +kernel⟩
theorem ok_check {f fF fS fL fC c Pt : Addr} {fd fdF fdC : FuncData} {u1 u2 u3 u4 : Value} {T : List NTab} (F : Fun K "_check" "_check" sCheck f fd) (hcode : fd.code = .ref c) (TB : TabB base mg c Pt) (inT : (Pt, lamName) ∈ T) (only : ∀ r ∈ T, r.1 = Pt → r.2 = lamName) (B : BltI mg)
    (FF : Fun K "_first_wrong" "_first_wrong" sFirst fF fdF) (GF : FnOk P w K mg base CX0 4 fF fdF pFirst (spFw K fS fL)) (mF : mg "_first_wrong" = some (.ref fF)) (kF : PySem.W.keepIn K (.ref fF) = true) (bF : Binds K fdF pFirst [])
    (GC : FnOk P w K mg base CX0 3 fC fdC ["row", "many"] (spCont K)) (mC : mg "_has_contents" = some (.ref fC)) (kC : PySem.W.keepIn K (.ref fC) = true) (bC : Binds K fdC ["row", "many"] [])
    (mS : mg "_has_shares" = some (.ref fS)) (mL : mg "_has_limit" = some (.ref fL))
    (m1 : mg "MOST_MACHINES" = some u1) (r1 : RelV (.int 6) u1) (m2 : mg "MOST_CLEANINGS" = some u2) (r2 : RelV (.int 6) u2) (m3 : mg "MOST_STUFFS" = some u3) (r3 : RelV (.int 3) u3) (m4 : mg "MOST_PRODUCTS" = some u4) (r4 : RelV (.int 8) u4) :
    FnOk P w K mg base CX0 6 f fd pCheck (spCheck K T) := by
  refine Fun.okC F hcode scCheck (fun vs H Q E h => ?_) (fun A outer s H vs Q E hr h => ?_)
  · obtain ⟨am, ac, as, ap, xm, xc, xs, xp, rfl, _⟩ := h
    rfl
  · obtain ⟨am, ac, as, ap, xm, xc, xs, xp, rfl, fit, tabs, q⟩ := h
    have hr4 : Room 4 _ := hr.mono (by decide)
    refine ⟨_, pss_cons (ps_set (i := 4) scCheck.nd rfl (Or.inl rfl) (pe_call GF hr4 (by rfl) mF kF bF .nil pass0 (pa_cons (pv 0) (pa_cons (pe_tup pa_nil) (pa_cons pe_int (pa_cons (pe_glob (by rfl) m1 r1) (pa_cons (pe_glob (v := .ref fS) (by rfl) mS rfl) pa_nil)))))))
      (pss_cons (ps_if (pt_truth (pv 4) (fun _ => rfl)) pss_never pss_nil)
      (pss_cons (ps_set (i := 4) scCheck.nd rfl (Or.inl rfl) (pe_call GF hr4 (by rfl) mF kF bF .nil pass0 (pa_cons (pv 1) (pa_cons (pv 0) (pa_cons pe_int (pa_cons (pe_glob (by rfl) m2 r2) (pa_cons (pe_glob (v := .ref fS) (by rfl) mS rfl) pa_nil)))))))
      (pss_cons (ps_if (pt_truth (pv 4) (fun _ => rfl)) pss_never pss_nil)
      (pss_cons (ps_set (i := 4) scCheck.nd rfl (Or.inl rfl) (pe_call GF hr4 (by rfl) mF kF bF .nil pass0 (pa_cons (pv 2) (pa_cons (pe_op op_catT (pv 0) (pv 1)) (pa_cons pe_int (pa_cons (pe_glob (by rfl) m3 r3) (pa_cons (pe_glob (v := .ref fL) (by rfl) mL rfl) pa_nil)))))))
      (pss_cons (ps_if (pt_truth (pv 4) (fun _ => rfl)) pss_never pss_nil)
      (pss_cons (ps_set (i := 5) scCheck.nd rfl (Or.inr rfl) (pe_callB call_len_seq (by rfl) B.len (by decide +kernel) (pa_cons (pv 2) pa_nil)))
      (pss_cons (ps_set (i := 4) scCheck.nd rfl (Or.inl rfl) (pe_fwl (params := lamParams lamE) (body := lamBody lamE) (scope := lamScope lamE) FF B hr (by rfl) mF kF bF GC mC kC bC rfl (NdefX.ndef_free (sc := defScope sCheck) (fr := ["many"]) (by decide +kernel)) (NdefX.ndef_fr (sc := defScope sCheck) (by decide +kernel)) rfl (NdefX.nscope_by (by decide +kernel)) rfl
          (fun _ _ _ _ _ _ us hl => match us, hl with | [_], _ => rfl)
          (pa_cons (pv 3) (pa_cons (pe_op op_catT (pe_op op_catT (pv 0) (pv 1)) (pv 2)) (pa_cons pe_int (pa_cons (pe_glob (by rfl) m4 r4) (pa_cons (LamV.pe_lam TB rfl inT rfl only rfl (NdefX.ndef_free (sc := defScope sCheck) (fr := ["many"]) (by decide +kernel))) pa_nil)))))))
      (pss_one (ps_if (pt_truth (pv 4) (fun _ => rfl)) pss_never pss_nil))))))))), ?_⟩
    have le0 : ([] : List V).length ≤ sizeLine := Nat.zero_le _
    refine ⟨_, rfl, le0, fun p0 np0 => ?_⟩
    have x0 : Ex H (upd H p0 (.tup [])) := Ex.refl.new np0
    have F0 := fit.exN x0.n
    have T0 := TabsN.exs tabs x0
    have e0 : (upd H p0 (.tup [])) p0 = some (.tup []) := upd_same
    generalize upd H p0 (.tup []) = H0 at x0 F0 T0 e0 ⊢
    refine ⟨.ref am, p0, [], [], 1, 6, fS, sharesOf, rfl, ⟨e0, .nil, by decide, by decide, by decide, by decide⟩, F0.dm, .inl ⟨rfl, rfl⟩, fun p1 H1 x1 np1 e1 => ?_⟩
    rw [fw_nil (tup_at F0.m) (by have := fit.lm; omega) F0.fm] at e1
    refine ⟨_, rfl, false, .inr (.inl ⟨[], SqT.of e1, rfl⟩), ?_⟩
    have F1 := F0.exN x1.n
    have T1 := TabsN.exs T0 x1
    obtain ⟨nm1, nc1, ns1, lm1, lc1, ls1⟩ := F1.named
    refine ⟨_, rfl, _, rfl, .ref ac, am, xm, xm.map (nameOf H1), 0, 6, fS, sharesOf, rfl, ⟨F1.m, paired_names nm1, by decide, by decide, by decide, by omega⟩, F1.dc, .inl ⟨rfl, rfl⟩, fun p2 H2 x2 np2 e2 => ?_⟩
    rw [fw_nil (tup_at F1.c) (by omega) F1.fc] at e2
    refine ⟨_, rfl, false, .inr (.inl ⟨[], SqT.of e2, rfl⟩), ?_⟩
    have F2 := F1.exN x2.n
    have T2 := TabsN.exs T1 x2
    have ne : xm ≠ [] := fun z => by
      have l := fit.lm
      rw [z] at l
      exact absurd l (by decide)
    refine ⟨_, rfl, _, rfl, _, rfl, rd_cat F2.m F2.c ne (by omega) fun pc H3 x3 e3 => ?_⟩
    have F3 := F2.exN x3.n
    have T3 := TabsN.exs T2 x3
    obtain ⟨nm3, nc3, ns3, _⟩ := F3.named
    have nmc3 : ∀ v ∈ xm ++ xc, Named H3 v (nameOf H3 v) := fun v hv => (List.mem_append.mp hv).elim (nm3 v) (nc3 v)
    refine ⟨.ref as, pc, xm ++ xc, (xm ++ xc).map (nameOf H3), 1, 3, fL, limOf, rfl, ⟨e3, paired_names nmc3, by decide, by decide, by decide, by rw [List.length_append]; omega⟩, F3.ds, .inr ⟨rfl, rfl⟩, fun p4 H4 x4 np4 e4 => ?_⟩
    rw [fw_nil (tup_at F3.s) (by have := fit.ls; omega) F3.fs] at e4
    refine ⟨_, rfl, false, .inr (.inl ⟨[], SqT.of e4, rfl⟩), ?_⟩
    have F4 := F3.exN x4.n
    have T4 := TabsN.exs T3 x4
    refine ⟨_, rfl, as, xs, rfl, .inr (SqT.of F4.s), ?_⟩
    refine ⟨_, rfl, _, rfl, _, rfl, rd_cat F4.m F4.c ne (by omega) fun pd H5 x5 e5 => ?_⟩
    have F5 := F4.exN x5.n
    have T5 := TabsN.exs T4 x5
    have ne2 : xm ++ xc ≠ [] := fun z => ne (List.append_eq_nil_iff.mp z).1
    refine ⟨_, rfl, rd_cat e5 F5.s ne2 (by rw [List.length_append]; omega) fun pe H6 x6 e6 => ?_⟩
    have F6 := F5.exN x6.n
    have T6 := TabsN.exs T5 x6
    refine ⟨T6, fun fl c1 H7 x7 _ T7 _ efl ec1 => ?_⟩
    have F7 := F6.exN x7
    obtain ⟨nm7, nc7, ns7, _⟩ := F7.named
    have n7 : ∀ v ∈ xm ++ xc ++ xs, Named H7 v (nameOf H7 v) := fun v hv => (List.mem_append.mp hv).elim (fun hv => (List.mem_append.mp hv).elim (nm7 v) (nc7 v)) (ns7 v)
    refine ⟨.ref ap, pe, xm ++ xc ++ xs, (xm ++ xc ++ xs).map (nameOf H7), 1, 8, xs.length, fl, c1, rfl, ⟨tup_n x7 e6, paired_names n7, by decide, by decide, by decide, by rw [List.length_append, List.length_append]; omega⟩, F7.dp, rfl, efl, ec1, fun p8 H8 x8 np8 e8 => ?_⟩
    rw [fw_nil (tup_at F7.p) (by have := fit.lp; omega) F7.fp] at e8
    refine ⟨_, rfl, false, .inr (.inl ⟨[], SqT.of e8, rfl⟩), ?_⟩
    exact q H8 ((x0.trans (x1.trans (x2.trans (x3.trans (x4.trans (x5.trans x6)))))).n.trans (x7.trans x8.n)) (TabsN.exs T7 x8)
end
end LJ
set_option Elab.async false
set_option linter.all false
set_option maxRecDepth 100000
set_option maxHeartbeats 8000000
namespace LJ
open PySem PySem.Spec L2
open LamX (ExtN TabB)
open NdefX (NTab TabsN)
open RZ (ItzT pi_zipA iZipA)
abbrev sBy : Stmt := top 25
/-- a dict comprehension over any walk -/
theorem dc_it {J : It} {n : Nat} {G : Hp → Prop} {Y : Nat → Hp → V → Hp → Prop} (w : Walk J n G Y) {g : TG} {tt : TT} {tk tv : TE} {vs : List Nat} {σ : St} {H1 : Hp} {D : Addr} {Qd : Hp → Prop} (Pv : Nat → Hp → Prop) (start : Pv 0 (upd H1 D (.dK []))) (hG : ∀ i H, i ≤ n → Pv i H → G H)
    (turn : ∀ i x H H2, i < n → Pv i H → Y i H x H2 → g x (wipe σ vs) H2 fun σ3 H3 => wipe σ3 vs = wipe σ vs ∧ tt σ3 H3 fun b H4 =>
      if b = true then tk σ3 H4 fun y H5 => tv σ3 H5 fun z H6 => ∃ kvs k, y = kV k ∧ H6 D = some (.dK kvs) ∧ kvs.length < sizeLine ∧ Pv (i + 1) (upd H6 D (.dK (putK kvs k z))) else Pv (i + 1) H4) (stop : ∀ H, Pv n H → Qd H) :
    ∃ W : Nat → Nat → Hp → Prop, (∃ m, W 0 m (upd H1 D (.dK []))) ∧ ∀ i m H, W i m H →
      (J.stop i H ∧ Qd H) ∨ (J.go i H ∧ ∃ Nx : Hp → Prop, (∀ H2, Nx H2 → ∃ m2, m2 < m ∧ W (i + 1) m2 H2) ∧ ∀ x H2, J.yld i H x H2 → g x (wipe σ vs) H2 fun σ3 H3 => wipe σ3 vs = wipe σ vs ∧ tt σ3 H3 fun b H4 =>
        if b = true then tk σ3 H4 fun y H5 => tv σ3 H5 fun z H6 => ∃ kvs k, y = kV k ∧ H6 D = some (.dK kvs) ∧ kvs.length < sizeLine ∧ Nx (upd H6 D (.dK (putK kvs k z))) else Nx H4) := by
  refine ⟨fun i m H => i + m = n ∧ Pv i H, ⟨n, Nat.zero_add n, start⟩, ?_⟩
  rintro i m H ⟨im, p⟩
  have gH := hG i H (by omega) p
  cases m with
  | zero =>
    obtain rfl : i = n := by omega
    exact .inl ⟨w.stops H gH, stop H p⟩
  | succ m =>
    have lt : i < n := by omega
    exact .inr ⟨w.goes i H lt gH, Pv (i + 1), fun H2 p2 => ⟨m, Nat.lt_succ_self m, by omega, p2⟩, fun x H2 y => turn i x H H2 lt p (w.yields i H x H2 lt gH y)⟩
theorem walk_zt {K : PySem.W.Frag} {a b : Addr} {xs ys : List V} (l : xs.length = ys.length) : Walk (ItzT K a b) xs.length (fun H => SqT K H a xs ∧ SqT K H b ys) (YPair (fun i => xs[i]?) (fun i => ys[i]?)) where
  goes i _ hi q := ⟨xs, ys, xs[i], ys[i]'(l ▸ hi), q.1, q.2, List.getElem?_eq_getElem hi, List.getElem?_eq_getElem (l ▸ hi)⟩
  stops _ q := ⟨xs, ys, q.1, q.2, .inl (Nat.le_refl _)⟩
  yields i H v H1 _ q y := by
    obtain ⟨T, x, z, h1, h2, h3, h4, h5⟩ := y
    exact ⟨T, x, z, h1, h2, h3, h4 xs q.1, h5 ys q.2⟩
theorem merge_snoc {kvs more : List (Key × V)} {p : Key × V} : mergeK kvs (more ++ [p]) = putK (mergeK kvs more) p.1 p.2 := by
  unfold mergeK
  rw [List.foldl_append]
  rfl
theorem merge_len : ∀ {more kvs : List (Key × V)}, (mergeK kvs more).length ≤ kvs.length + more.length
  | [], kvs => Nat.le_refl _
  | p :: r, kvs => by
    have h := merge_len (more := r) (kvs := putK kvs p.1 p.2)
    have l : (putK kvs p.1 p.2).length ≤ kvs.length + 1 := by
      unfold putK
      split
      · rw [List.length_map]
        omega
      · rw [List.length_append]
        exact Nat.le_refl _
    have e : mergeK kvs (p :: r) = mergeK (putK kvs p.1 p.2) r := rfl
    rw [e, List.length_cons]
    omega
/-- names and what stands under them -/
def under (ns : List Str) (ys : List V) : List (Key × V) := (ns.zip ys).map fun p => (.inr p.1, p.2)
def dictOf (ns : List Str) (ys : List V) : List (Key × V) := mergeK [] (under ns ys)
theorem under_at {ns : List Str} {ys : List V} {i : Nat} {n : Str} {y : V} (h1 : ns[i]? = some n) (h2 : ys[i]? = some y) : (under ns ys)[i]? = some (.inr n, y) := by
  unfold under
  rw [List.getElem?_map, (List.getElem?_zip_eq_some (z := (n, y))).mpr ⟨h1, h2⟩]
  rfl
theorem under_len {ns : List Str} {ys : List V} (h : ns.length = ys.length) : (under ns ys).length = ys.length := by
  unfold under
  rw [List.length_map, List.length_zip, h, Nat.min_self]
def spBy : Sp := fun vs H Q _ => ∃ (a b : Addr) (xs ys : List V) (ns : List Str), vs = [.ref a, .ref b] ∧ H a = some (.tup xs) ∧ H b = some (.tup ys) ∧ Paired (Named H) xs ns ∧ xs.length = ys.length ∧ xs.length ≤ 100 ∧
  ∀ (D : Addr) (H1 : Hp), Ex H H1 → H D = none → H1 D = some (.dK (dictOf ns ys)) → Q (.ref D) H1
structure BltZ (mg : Str → Option Value) : Prop where
  zip : mg "zip" = none
section
variable {P : Program} {w : World} {K : PySem.W.Frag} {mg : Str → Option Value} {base : Heap}
theorem scBy : FnScope ["stuffs", "contents", "stuff", "content"] ["stuffs", "contents"] (defScope sBy) := ⟨rfl, rfl, rfl, by decide +kernel, rfl, by decide +kernel, by decide +kernel⟩
theorem ok_by {f : Addr} {fd : FuncData} (F : Fun K "_by_stuff" "_by_stuff" sBy f fd) (Z : BltZ mg) : FnOk P w K mg base CX0 1 f fd ["stuffs", "contents"] spBy := by
  refine F.ok scBy (fun vs H Q E h => ?_) (fun cdv A outer s H vs Q E hr h => ?_)
  · obtain ⟨a, b, xs, ys, ns, rfl, _⟩ := h
    rfl
  · obtain ⟨a, b, xs, ys, ns, rfl, ha, hb, pn, l, le, q⟩ := h
    refine ⟨_, pss_one (ps_ret (pe_dc (own := [("stuff", 2), ("content", 3)]) (g := gTup K 2 (gCons (gName 2) (gCons (gName 3) gNil))) (by rfl) scBy.nd (pi_zipA (by rfl) Z.zip (pa_cons (pv 0) (pa_cons (pv 1) pa_nil))) (blkOk_by (own := [("stuff", 2), ("content", 3)]) (N := ["stuffs", "contents", "stuff", "content"]) (sc := defScope sBy) (by decide +kernel))
      (fun _ _ _ _ _ => pg_tup (by rfl) (pgs_cons (pg_name (i := 2) scBy.nd rfl (Or.inl rfl)) (pgs_cons (pg_name (i := 3) scBy.nd rfl (Or.inl rfl)) pgs_nil))) (fun _ _ _ _ _ => pts_nil)
      (fun _ _ _ _ _ => pe_ix (show IxR _ (rIxT K) from ix_tup) (pv 2) pe_int (fun _ _ => rfl)) (fun _ _ _ _ _ => pv 3))), ?_⟩
    have nl : ns.length = ys.length := by rw [← Paired.size pn, l]
    refine ⟨_, rfl, _, rfl, a, b, xs, ys, rfl, .inr ⟨SqT.of ha, SqT.of hb, fun D hD => dc_it (walk_zt l) (fun n H2 => Ex H H2 ∧ H2 D = some (.dK (mergeK [] ((under ns ys).take n)))) ⟨Ex.refl.new hD, upd_same⟩ (fun i H2 _ h => ⟨SqT.of (h.1 _ _ ha), SqT.of (h.1 _ _ hb)⟩) ?_ ?_⟩⟩
    · rintro i v H2 H3 hi ⟨x2, e2⟩ ⟨T, v1, v2, rfl, nT, rfl, h1, h2⟩
      have h1 : xs[i]? = some v1 := h1
      have h2 : ys[i]? = some v2 := h2
      obtain ⟨n, hn, bb, r, rfl, hbb⟩ := Paired.spot pn h1
      have eT : (upd H2 T (.tup [.ref bb, v2])) T = some (.tup [.ref bb, v2]) := upd_same
      have x3 : Ex H (upd H2 T (.tup [.ref bb, v2])) := x2.new nT
      have e3 : (upd H2 T (.tup [.ref bb, v2])) D = some (.dK (mergeK [] ((under ns ys).take i))) := by
        rw [upd_ne (ne_of_none e2 nT)]
        exact e2
      refine ⟨T, _, rfl, SqT.of eT, rfl, _, _, rfl, _, _, rfl, rfl, rfl, ?_⟩
      refine ⟨_, rfl, bb, _, 0, .str n, rfl, rfl, SqT.of (x3 _ _ hbb), atI_nat (j := 0) rfl, _, rfl, _, .inr n, rfl, e3, ?_, x3.put hD, ?_⟩
      · have m := merge_len (more := (under ns ys).take i) (kvs := [])
        rw [List.length_take, List.length_nil] at m
        rw [sizeLine_eq]
        omega
      · rw [upd_same, List.take_succ, under_at hn h2]
        show _ = some (HO.dK (mergeK [] ((under ns ys).take i ++ [(.inr n, v2)])))
        rw [merge_snoc]
    · rintro H2 ⟨x2, e2⟩
      rw [List.take_of_length_le (by rw [under_len nl, l]; exact Nat.le_refl _)] at e2
      exact q D H2 x2 hD e2
end
end LJ
set_option Elab.async false
set_option linter.all false
set_option maxRecDepth 100000
set_option maxHeartbeats 4000000
namespace LJ
open PySem L2
abbrev sLabels : Stmt := top 41
abbrev sShares : Stmt := top 42
abbrev sInside : Stmt := top 43
theorem But.refl {j : Addr} {H : Hp} : But j H H := fun _ _ _ z => z
theorem But.trans {j : Addr} {H H1 H2 : Hp} (b : But j H H1) (d : But j H1 H2) : But j H H2 := fun a o n e => d a o n (b a o n e)
theorem But.new {j p : Addr} {H H1 : Hp} {o : HO} (b : But j H H1) (n : H1 p = none) : But j H (upd H1 p o) := fun a u m e => by
  rw [upd_ne (ne_of_none (b a u m e) n)]
  exact b a u m e
/-- a change of what was none when we began -/
theorem But.put {j p : Addr} {H H1 : Hp} {o : HO} (b : But j H H1) (n : H p = none) : But j H (upd H1 p o) := fun a u m e => by
  rw [upd_ne (ne_of_none e n)]
  exact b a u m e
theorem But.gone {j p : Addr} {H H1 : Hp} (b : But j H H1) (m : p ≠ j) (n : H1 p = none) : H p = none := by
  cases e : H p with
  | none => rfl
  | some o =>
    rw [b p o m e] at n
    cases n
theorem JarAt.ne {j p : Addr} {H : Hp} (h : JarAt H j) (n : H p = none) : p ≠ j := fun z => by
  obtain ⟨d, m, c, e, _⟩ := h
  rw [z, e] at n
  cases n
theorem JarAt.new {j p : Addr} {H : Hp} {o : HO} (h : JarAt H j) (n : H p = none) : JarAt (upd H p o) j := by
  have m := h.ne n
  obtain ⟨d, m1, c, e, r⟩ := h
  exact ⟨d, m1, c, by rw [upd_ne m.symm]; exact e, r⟩
theorem JarAt.put {j p : Addr} {H : Hp} {o : HO} (h : JarAt H j) (m : p ≠ j) : JarAt (upd H p o) j := by
  obtain ⟨d, m1, c, e, r⟩ := h
  exact ⟨d, m1, c, by rw [upd_ne m.symm]; exact e, r⟩
/-- a pair of bounds up to top -/
def spBounds (top : Int) : Sp := fun vs H Q _ => ∃ j : Addr, vs = [.ref j] ∧ JarAt H j ∧ ∀ (p : Addr) (lo hi : Int) (H1 : Hp), 0 ≤ lo → lo ≤ hi → hi ≤ top → JarAt H1 j → But j H H1 → H p = none → p ≠ j → H1 p = some (.tup [.int lo, .int hi]) → Q (.ref p) H1
structure BltD (mg : Str → Option Value) : Prop where
  sorted : mg "sorted" = none
  range : mg "range" = none
theorem two_sorted {a b : Int} {ns : List Int} (hp : ns.Perm [a, b]) (hs : ns.Pairwise (· ≤ ·)) : ∃ lo hi, ns = [lo, hi] ∧ lo ≤ hi ∧ (lo = a ∨ lo = b) ∧ (hi = a ∨ hi = b) := by
  have hl := hp.length_eq
  match ns, hl with
  | [x, y], _ =>
    refine ⟨x, y, rfl, ?_, ?_, ?_⟩
    · simpa using hs
    · have h := hp.mem_iff (a := x)
      simpa using h
    · have h := hp.mem_iff (a := y)
      simpa using h
section
variable {P : Program} {w : World} {K : PySem.W.Frag} {mg : Str → Option Value} {base : Heap}
theorem scShares : FnScope ["_law_jar_here", "_law_some", "_law_k"] ["_law_jar_here"] (defScope sShares) := ⟨rfl, rfl, rfl, by decide +kernel, rfl, by decide +kernel, by decide +kernel⟩
theorem scInside : FnScope ["_law_jar_here", "_law_some", "_law_k"] ["_law_jar_here"] (defScope sInside) := ⟨rfl, rfl, rfl, by decide +kernel, rfl, by decide +kernel, by decide +kernel⟩
/-- the end of both: the same bound twice, or both -/
theorem rd_ends {n : Int} {σ : St} {D : Ends} {H H2 : Hp} {j L : Addr} {lo hi top : Int} (hn0 : 0 < n) (hn1 : n < 1073741824) (h0 : σ[0]? = some (some (.ref j))) (h1 : σ[1]? = some (some (.ref L))) (J : JarAt H2 j) (b : But j H H2) (hL : H2 L = some (.lst [.int lo, .int hi])) (nL : L ≠ j)
    (l0 : 0 ≤ lo) (l1 : lo ≤ hi) (l2 : hi ≤ top) (k : ∀ (p : Addr) (lo hi : Int) (H1 : Hp), 0 ≤ lo → lo ≤ hi → hi ≤ top → JarAt H1 j → But j H H1 → H p = none → p ≠ j → H1 p = some (.tup [.int lo, .int hi]) → D.rt (.ref p) H1) :
    tRet (tIf (tTest (tOp rEq (tCall spDip [] E0 (tCons (tVar 0) (tCons (tC (.int n)) tNil))) (tC (.int 0))))
      (tTup (tCons (tOp (rIxL K) (tVar 1) (tC (.int 0))) (tCons (tOp (rIxL K) (tVar 1) (tC (.int 0))) tNil)))
      (tTup (tCons (tOp (rIxL K) (tVar 1) (tC (.int 0))) (tCons (tOp (rIxL K) (tVar 1) (tC (.int 1))) tNil)))) D σ H2 := by
  have two : 2 ≤ sizeLine := by
    rw [sizeLine_eq]
    decide
  refine ⟨_, h0, j, n, rfl, J, hn0, hn1, fun r H3 r0 r1 J3 b3 => ?_⟩
  have hL3 := b3 _ _ nL hL
  have bb := But.trans b b3
  refine ⟨rfl, _, rfl, ?_⟩
  refine ite2 (fun _ => ?_) (fun _ => ?_)
  · refine ⟨_, h1, L, _, 0, .int lo, rfl, rfl, SqL.of hL3, rfl, _, h1, L, _, 0, .int lo, rfl, rfl, SqL.of hL3, rfl, two, fun p np => ?_⟩
    have m := J3.ne np
    exact k p lo lo _ l0 (Int.le_refl _) (by omega) (J3.new np) (bb.new np) (bb.gone m np) m upd_same
  · refine ⟨_, h1, L, _, 0, .int lo, rfl, rfl, SqL.of hL3, rfl, _, h1, L, _, 1, .int hi, rfl, rfl, SqL.of hL3, rfl, two, fun p np => ?_⟩
    have m := J3.ne np
    exact k p lo hi _ l0 l1 l2 (J3.new np) (bb.new np) (bb.gone m np) m upd_same
theorem ok_shares {f fD fO : Addr} {fd fdD fdO : FuncData} (F : Fun K "_law_shares" "_law_shares" sShares f fd) (T : BltD mg)
    (GD : FnOk P w K mg base CX0 1 fD fdD ["_law_jar_here", "_law_top"] spDip) (mD : mg "_law_dip" = some (.ref fD)) (kD : PySem.W.keepIn K (.ref fD) = true) (bD : Binds K fdD ["_law_jar_here", "_law_top"] [])
    (GO : FnOk P w K mg base CX0 2 fO fdO ["_law_jar_here", "_law_some"] spOne) (mO : mg "_law_one_of" = some (.ref fO)) (kO : PySem.W.keepIn K (.ref fO) = true) (bO : Binds K fdO ["_law_jar_here", "_law_some"] []) :
    FnOk P w K mg base CX0 3 f fd ["_law_jar_here"] (spBounds 1000) := by
  refine F.ok scShares (fun vs H Q E h => ?_) (fun cdv A outer s H vs Q E hr h => ?_)
  · obtain ⟨j, rfl, _⟩ := h
    rfl
  · obtain ⟨j, rfl, J, k⟩ := h
    have hr1 : Room 1 _ := hr.mono (by decide)
    refine ⟨_, pss_cons (ps_set (i := 1) scShares.nd rfl (Or.inl rfl) (pe_callB cr_sorted (by rfl) T.sorted (by decide +kernel) (pa_cons (pe_lc (own := [("_law_k", 2)]) (g := gName 2) (by rfl) scShares.nd (pi_range1 (by rfl) T.range (pa_cons pe_int pa_nil)) (blkOk_by (own := [("_law_k", 2)]) (N := ["_law_jar_here", "_law_some", "_law_k"]) (sc := defScope sShares) (by decide +kernel)) (fun _ _ _ _ _ => pg_name (i := 2) scShares.nd rfl (Or.inl rfl)) (fun _ _ _ _ _ => pts_nil) (fun _ _ _ _ _ => pe_call GO hr (by rfl) mO kO bO .nil pass0 (pa_cons (pv 0) (pa_cons (pe_lst (pa_cons pe_int (pa_cons pe_int (pa_cons pe_int (pa_cons pe_int (pa_cons pe_int (pa_cons pe_int (pa_cons pe_int (pa_cons (pe_call GD hr1 (by rfl) mD kD bD .nil pass0 (pa_cons (pv 0) (pa_cons pe_int pa_nil))) pa_nil))))))))) pa_nil)))) pa_nil)))
      (pss_one (ps_ret (pe_ifExp (pt_cmpR op_eq (pe_call GD hr1 (by rfl) mD kD bD .nil pass0 (pa_cons (pv 0) (pa_cons pe_int pa_nil))) pe_int (nomark _)) (pe_tup (pa_cons (pe_ix ix_list (pv 1) pe_int (fun _ _ => rfl)) (pa_cons (pe_ix ix_list (pv 1) pe_int (fun _ _ => rfl)) pa_nil))) (pe_tup (pa_cons (pe_ix ix_list (pv 1) pe_int (fun _ _ => rfl)) (pa_cons (pe_ix ix_list (pv 1) pe_int (fun _ _ => rfl)) pa_nil)))))), ?_⟩
    have J0 := J
    have b0 : But j H H := But.refl
    have big : ∀ {n : Nat}, n ≤ 100 → n ≤ sizeLine := fun h => by rw [sizeLine_eq]; omega
    refine ⟨2, rfl, by decide, by decide, fun D hD => lc_range (lo := 0) (n := 2) (fun n H2 => JarAt H2 j ∧ But j H H2 ∧ ∃ zs : List Int, zs.length = n ∧ n ≤ 2 ∧ H2 D = some (.lst (zs.map V.int)) ∧ ∀ z ∈ zs, 0 ≤ z ∧ z ≤ 1000)
      ⟨J0.new hD, b0.new hD, [], rfl, by decide, upd_same, fun z hz => nomatch hz⟩ ?_ ?_⟩
    · rintro n H2 hn ⟨J2, b2, zs, hz, hz2, hDl, hb⟩
      refine ⟨rfl, ?_⟩
      refine ⟨_, rfl, _, rfl, j, 1001, rfl, J2, by decide, by decide, fun r H3 r0 r1 J3 b3 => ?_⟩
      refine ⟨big (Nat.le_of_ble_eq_true rfl), fun l nl => ?_⟩
      have ml := J3.ne nl
      refine ⟨j, l, _, rfl, J3.new nl, upd_same, ml, by exact (by decide : 0 < 8), by exact (by decide : 8 < 100000), fun m v H4 hv J4 b4 => ?_⟩
      have hm := List.mem_of_getElem? hv
      obtain ⟨z, rfl, z0, z1⟩ : ∃ z : Int, v = V.int z ∧ 0 ≤ z ∧ z ≤ 1000 := by
        simp only [List.mem_cons, List.not_mem_nil, or_false] at hm
        rcases hm with rfl | rfl | rfl | rfl | rfl | rfl | rfl | rfl <;> exact ⟨_, rfl, by omega, by omega⟩
      have dj : D ≠ j := J0.ne hD
      have e4 : H4 D = some (.lst (zs.map V.int)) := b4 _ _ dj (by rw [upd_ne (ne_of_none (b3 _ _ dj hDl) nl)]; exact b3 _ _ dj hDl)
      have bb : But j H H4 := But.trans ((But.trans b2 b3).new nl) b4
      refine ⟨_, e4, ?_, J4.put dj, bb.put (b0.gone dj hD), zs ++ [z], ?_, by omega, ?_, ?_⟩
      · rw [sizeLine_eq, List.length_map]
        omega
      · rw [List.length_append, hz]
        rfl
      · rw [List.map_append]
        exact upd_same
      · intro y hy
        rcases List.mem_append.mp hy with h | h
        · exact hb y h
        · obtain rfl := List.mem_singleton.mp h
          exact ⟨z0, z1⟩
    · rintro H2 ⟨J2, b2, zs, hz, hz2, hDl, hb⟩
      refine ⟨D, zs, rfl, SqL.of hDl, by omega, fun ns L hp hs nL => ?_⟩
      obtain ⟨a, b, rfl⟩ : ∃ a b, zs = [a, b] := by
        match zs, hz with
        | [a, b], _ => exact ⟨a, b, rfl⟩
      obtain ⟨lo, hi, rfl, hle, hlo, hhi⟩ := two_sorted hp hs
      have ba := hb a (by simp)
      have bb := hb b (by simp)
      have mL := J2.ne nL
      refine rd_ends (n := 4) (top := 1000) (j := j) (L := L) (lo := lo) (hi := hi) (by decide) (by decide) rfl rfl (J2.new nL) (b2.new nL) upd_same mL ?_ hle ?_ k
      · rcases hlo with h | h <;> omega
      · rcases hhi with h | h <;> omega
theorem ok_inside {f fD fO : Addr} {fd fdD fdO : FuncData} (F : Fun K "_law_inside" "_law_inside" sInside f fd) (T : BltD mg)
    (GD : FnOk P w K mg base CX0 1 fD fdD ["_law_jar_here", "_law_top"] spDip) (mD : mg "_law_dip" = some (.ref fD)) (kD : PySem.W.keepIn K (.ref fD) = true) (bD : Binds K fdD ["_law_jar_here", "_law_top"] [])
    (GO : FnOk P w K mg base CX0 2 fO fdO ["_law_jar_here", "_law_some"] spOne) (mO : mg "_law_one_of" = some (.ref fO)) (kO : PySem.W.keepIn K (.ref fO) = true) (bO : Binds K fdO ["_law_jar_here", "_law_some"] []) :
    FnOk P w K mg base CX0 3 f fd ["_law_jar_here"] (spBounds 1000000000000) := by
  refine F.ok scInside (fun vs H Q E h => ?_) (fun cdv A outer s H vs Q E hr h => ?_)
  · obtain ⟨j, rfl, _⟩ := h
    rfl
  · obtain ⟨j, rfl, J, k⟩ := h
    have hr1 : Room 1 _ := hr.mono (by decide)
    refine ⟨_, pss_cons (ps_if (pt_cmpR op_eq (pe_call GD hr1 (by rfl) mD kD bD .nil pass0 (pa_cons (pv 0) (pa_cons pe_int pa_nil))) pe_int (nomark _)) (pss_one (ps_ret (pe_tup (pa_cons pe_int (pa_cons pe_int pa_nil))))) pss_nil)
      (pss_cons (ps_set (i := 1) scInside.nd rfl (Or.inl rfl) (pe_callB cr_sorted (by rfl) T.sorted (by decide +kernel) (pa_cons (pe_lc (own := [("_law_k", 2)]) (g := gName 2) (by rfl) scInside.nd (pi_range1 (by rfl) T.range (pa_cons pe_int pa_nil)) (blkOk_by (own := [("_law_k", 2)]) (N := ["_law_jar_here", "_law_some", "_law_k"]) (sc := defScope sInside) (by decide +kernel)) (fun _ _ _ _ _ => pg_name (i := 2) scInside.nd rfl (Or.inl rfl)) (fun _ _ _ _ _ => pts_nil) (fun _ _ _ _ _ => pe_call GO hr (by rfl) mO kO bO .nil pass0 (pa_cons (pv 0) (pa_cons (pe_lst (pa_cons pe_int (pa_cons pe_int (pa_cons pe_int (pa_cons pe_int (pa_cons pe_int (pa_cons pe_int (pa_cons (pe_op op_sub (pe_op op_pow pe_int pe_int) (pe_call GD hr1 (by rfl) mD kD bD .nil pass0 (pa_cons (pv 0) (pa_cons pe_int pa_nil)))) pa_nil)))))))) pa_nil)))) pa_nil)))
      (pss_one (ps_ret (pe_ifExp (pt_cmpR op_eq (pe_call GD hr1 (by rfl) mD kD bD .nil pass0 (pa_cons (pv 0) (pa_cons pe_int pa_nil))) pe_int (nomark _)) (pe_tup (pa_cons (pe_ix ix_list (pv 1) pe_int (fun _ _ => rfl)) (pa_cons (pe_ix ix_list (pv 1) pe_int (fun _ _ => rfl)) pa_nil))) (pe_tup (pa_cons (pe_ix ix_list (pv 1) pe_int (fun _ _ => rfl)) (pa_cons (pe_ix ix_list (pv 1) pe_int (fun _ _ => rfl)) pa_nil))))))), ?_⟩
    refine ⟨_, rfl, j, 3, rfl, J, by decide, by decide, fun r H0 r0 r1 J0 b0 => ?_⟩
    refine ⟨rfl, _, rfl, ?_⟩
    refine ite2 (fun _ => ?_) (fun _ => ?_)
    · refine ⟨by rw [sizeLine_eq]; exact Nat.le_of_ble_eq_true rfl, fun p np => ?_⟩
      have m := J0.ne np
      exact k p 0 0 _ (by decide) (by decide) (by decide) (J0.new np) (b0.new np) (b0.gone m np) m upd_same
    · have big : ∀ {n : Nat}, n ≤ 100 → n ≤ sizeLine := fun h => by rw [sizeLine_eq]; omega
      refine ⟨2, rfl, by decide, by decide, fun D hD => lc_range (lo := 0) (n := 2) (fun n H2 => JarAt H2 j ∧ But j H H2 ∧ ∃ zs : List Int, zs.length = n ∧ n ≤ 2 ∧ H2 D = some (.lst (zs.map V.int)) ∧ ∀ z ∈ zs, 0 ≤ z ∧ z ≤ 1000000000000)
        ⟨J0.new hD, b0.new hD, [], rfl, by decide, upd_same, fun z hz => nomatch hz⟩ ?_ ?_⟩
      · rintro n H2 hn ⟨J2, b2, zs, hz, hz2, hDl, hb⟩
        refine ⟨rfl, ?_⟩
        refine ⟨_, rfl, _, _, rfl, rfl, ⟨by decide, by decide, by decide⟩, _, rfl, j, 3, rfl, J2, by decide, by decide, fun r H3 r0 r1 J3 b3 => ?_⟩
        refine ⟨_, _, rfl, rfl, ?_⟩
        refine ⟨big (Nat.le_of_ble_eq_true rfl), fun l nl => ?_⟩
        have ml := J3.ne nl
        refine ⟨j, l, _, rfl, J3.new nl, upd_same, ml, by exact (by decide : 0 < 7), by exact (by decide : 7 < 100000), fun m v H4 hv J4 b4 => ?_⟩
        have hm := List.mem_of_getElem? hv
        obtain ⟨z, rfl, z0, z1⟩ : ∃ z : Int, v = V.int z ∧ 0 ≤ z ∧ z ≤ 1000000000000 := by
          have p12 : (10 : Int) ^ ((12 : Int).toNat) = 1000000000000 := by decide
          simp only [List.mem_cons, List.not_mem_nil, or_false, p12] at hm
          rcases hm with rfl | rfl | rfl | rfl | rfl | rfl | rfl <;> exact ⟨_, rfl, by omega, by omega⟩
        have dj : D ≠ j := J0.ne hD
        have e4 : H4 D = some (.lst (zs.map V.int)) := b4 _ _ dj (by rw [upd_ne (ne_of_none (b3 _ _ dj hDl) nl)]; exact b3 _ _ dj hDl)
        have bb : But j H H4 := But.trans ((But.trans b2 b3).new nl) b4
        refine ⟨_, e4, ?_, J4.put dj, bb.put (b0.gone dj hD), zs ++ [z], ?_, by omega, ?_, ?_⟩
        · rw [sizeLine_eq, List.length_map]
          omega
        · rw [List.length_append, hz]
          rfl
        · rw [List.map_append]
          exact upd_same
        · intro y hy
          rcases List.mem_append.mp hy with h | h
          · exact hb y h
          · obtain rfl := List.mem_singleton.mp h
            exact ⟨z0, z1⟩
      · rintro H2 ⟨J2, b2, zs, hz, hz2, hDl, hb⟩
        refine ⟨D, zs, rfl, SqL.of hDl, by omega, fun ns L hp hs nL => ?_⟩
        obtain ⟨a, b, rfl⟩ : ∃ a b, zs = [a, b] := by
          match zs, hz with
          | [a, b], _ => exact ⟨a, b, rfl⟩
        obtain ⟨lo, hi, rfl, hle, hlo, hhi⟩ := two_sorted hp hs
        have ba := hb a (by simp)
        have bb := hb b (by simp)
        have mL := J2.ne nL
        refine rd_ends (n := 3) (top := 1000000000000) (j := j) (L := L) (lo := lo) (hi := hi) (by decide) (by decide) rfl rfl (J2.new nL) (b2.new nL) upd_same mL ?_ hle ?_ k
        · rcases hlo with h | h <;> omega
        · rcases hhi with h | h <;> omega
end
end LJ
set_option Elab.async false
set_option linter.all false
set_option maxRecDepth 100000
set_option maxHeartbeats 4000000
namespace LJ
open PySem L2
def menu : List Str := ["mixer", "oven", "belt", "run", "clean", "machine", "stuff", "rinse", "wash", "nuts", "milk", "a", "bar", "cake", "roll", "product", "zzzzzzzz", "rule"]
/-- the eighteen names from s on, g apart -/
def lab (s g : Int) (n : Nat) : List Str := (List.range n).map fun (k : Nat) => menu.getD ((s + g * (k : Int)) % 18).toNat Str.empty
def gaps : List Int := [1, 5, 7, 11, 13, 17]
theorem lab_nodup : ∀ s : Fin 18, ∀ g ∈ gaps, (lab (s.val : Int) g 18).Nodup := by decide +kernel
theorem lab_in (s g : Int) (n : Nat) : ∀ x ∈ lab s g n, x ∈ menu := fun x hx => by
  unfold lab at hx
  obtain ⟨k, _, rfl⟩ := List.mem_map.mp hx
  have h0 : 0 ≤ (s + g * (k : Int)) % 18 := Int.emod_nonneg _ (by decide)
  have h1 : (s + g * (k : Int)) % 18 < 18 := Int.emod_lt_of_pos _ (by decide)
  have hl : ((s + g * (k : Int)) % 18).toNat < menu.length := by
    show _ < 18
    omega
  rw [List.getD_eq_getElem?_getD, List.getElem?_eq_getElem hl]
  exact List.getElem_mem hl
theorem lab_succ (s g : Int) (n : Nat) : lab s g (n + 1) = lab s g n ++ [menu.getD ((s + g * (n : Int)) % 18).toNat Str.empty] := by
  unfold lab
  rw [List.range_succ, List.map_append]
  rfl
theorem lab_len (s g : Int) (n : Nat) : (lab s g n).length = n := by
  unfold lab
  rw [List.length_map, List.length_range]
theorem menu_at {i : Int} (h0 : 0 ≤ i) (h1 : i < 18) : atI (menu.map V.str) i = some (.str (menu.getD i.toNat Str.empty)) := by
  have hl : i.toNat < menu.length := by
    show _ < 18
    omega
  have e : atI (menu.map V.str) (i.toNat : Int) = some (.str (menu.getD i.toNat Str.empty)) := by
    refine atI_nat ?_
    rw [List.getElem?_map, List.getD_eq_getElem?_getD, List.getElem?_eq_getElem hl]
    rfl
  rwa [Int.toNat_of_nonneg h0] at e
def spLabels : Sp := fun vs H Q _ => ∃ j : Addr, vs = [.ref j] ∧ JarAt H j ∧ ∀ (p : Addr) (ls : List Str) (H1 : Hp), ls.length = 18 → ls.Nodup → (∀ x ∈ ls, x ∈ menu) → JarAt H1 j → But j H H1 → H p = none → p ≠ j → H1 p = some (.lst (ls.map V.str)) → Q (.ref p) H1
structure BltL (mg : Str → Option Value) : Prop where
  range : mg "range" = none
  int : mg "int" = none
section
variable {P : Program} {w : World} {K : PySem.W.Frag} {mg : Str → Option Value} {base : Heap}
theorem scLabels : FnScope ["_law_jar_here", "_law_menu", "_law_found", "_law_start", "_law_gap", "_law_k"] ["_law_jar_here"] (defScope sLabels) := ⟨rfl, rfl, rfl, by decide +kernel, rfl, by decide +kernel, by decide +kernel⟩
theorem ok_labels {f fD fO : Addr} {fd fdD fdO : FuncData} (F : Fun K "_law_labels" "_law_labels" sLabels f fd) (T : BltL mg)
    (GD : FnOk P w K mg base CX0 1 fD fdD ["_law_jar_here", "_law_top"] spDip) (mD : mg "_law_dip" = some (.ref fD)) (kD : PySem.W.keepIn K (.ref fD) = true) (bD : Binds K fdD ["_law_jar_here", "_law_top"] [])
    (GO : FnOk P w K mg base CX0 2 fO fdO ["_law_jar_here", "_law_some"] spOne) (mO : mg "_law_one_of" = some (.ref fO)) (kO : PySem.W.keepIn K (.ref fO) = true) (bO : Binds K fdO ["_law_jar_here", "_law_some"] []) :
    FnOk P w K mg base CX0 3 f fd ["_law_jar_here"] spLabels := by
  refine F.ok scLabels (fun vs H Q E h => ?_) (fun cdv A outer s H vs Q E hr h => ?_)
  · obtain ⟨j, rfl, _⟩ := h
    rfl
  · obtain ⟨j, rfl, J, k⟩ := h
    have hr1 : Room 1 _ := hr.mono (by decide)
    have big : ∀ {n : Nat}, n ≤ 100 → n ≤ sizeLine := fun h => by rw [sizeLine_eq]; omega
    refine ⟨_, pss_cons (ps_par (i := 1) (j := 2) (by rfl) scLabels.nd rfl rfl (by decide) rfl rfl (pa_cons (pe_lst (pa_cons pe_str (pa_cons pe_str (pa_cons pe_str (pa_cons pe_str (pa_cons pe_str (pa_cons pe_str (pa_cons pe_str (pa_cons pe_str (pa_cons pe_str (pa_cons pe_str (pa_cons pe_str pa_nil)))))))))))) (pa_cons (pe_lst pa_nil) pa_nil)) (by rfl))
      (pss_cons (ps_set (i := 1) scLabels.nd rfl (Or.inl rfl) (pe_op op_cat (pv 1) (pe_lst (pa_cons pe_str (pa_cons pe_str (pa_cons pe_str (pa_cons pe_str (pa_cons pe_str (pa_cons pe_str (pa_cons pe_str pa_nil)))))))))
      )
      (pss_cons (ps_par (i := 3) (j := 4) (by rfl) scLabels.nd rfl rfl (by decide) rfl rfl (pa_cons (pe_call GD hr1 (by rfl) mD kD bD .nil pass0 (pa_cons (pv 0) (pa_cons pe_int pa_nil))) (pa_cons (pe_call GO hr (by rfl) mO kO bO .nil pass0 (pa_cons (pv 0) (pa_cons (pe_lst (pa_cons pe_int (pa_cons pe_int (pa_cons pe_int (pa_cons pe_int (pa_cons pe_int (pa_cons pe_int pa_nil))))))) pa_nil))) pa_nil)) (by rfl))
      (pss_cons (ps_for PassesOwn.never rfl (pi_range1 (by rfl) T.range (pa_cons pe_int pa_nil)) (pg_name (i := 5) scLabels.nd rfl (Or.inl rfl))
        (pss_one (ps_expr (pe_bm PySem.F.plainAttrs_list PySem.F.slot_list_append PySem.F.type_list_append mt_append (pv 2) (pa_cons (pe_ix ix_list (pv 1) (pe_op op_mod (pe_callTy call_int1 (by rfl) T.int (by decide +kernel) (pa_cons (pe_op op_add (pv 3) (pe_op op_mul (pv 4) (pv 5))) pa_nil)) pe_int) (fun _ _ => rfl)) pa_nil)))))
      (pss_one (ps_ret (pv 2)))))), ?_⟩
    refine ⟨big (Nat.le_of_ble_eq_true rfl), fun p1 n1 => ⟨big (Nat.le_of_ble_eq_true rfl), fun p2 n2 => ?_⟩⟩
    refine ⟨_, _, rfl, ?_⟩
    refine ⟨_, rfl, big (Nat.le_of_ble_eq_true rfl), fun p3 n3 => ?_⟩
    refine ⟨p1, p3, _, _, rfl, rfl, (by rw [upd_ne (ne_of_none (by rw [upd_ne (ne_of_none upd_same n2)]; exact upd_same) n3), upd_ne (ne_of_none upd_same n2)]; exact upd_same), upd_same, big (Nat.le_of_ble_eq_true rfl), fun p4 n4 => ?_⟩
    obtain ⟨H4, s4, e2, e4, N2, ne24, hG⟩ : ∃ H4 : Hp, Same H H4 ∧ H4 p2 = some (.lst []) ∧ H4 p4 = some (.lst (menu.map V.str)) ∧ H p2 = none ∧ p2 ≠ p4 ∧ H4 = upd (upd (upd (upd H p1 (.lst [.str "mixer", .str "oven", .str "belt", .str "run", .str "clean", .str "machine", .str "stuff", .str "rinse", .str "wash", .str "nuts", .str "milk"])) p2 (.lst [])) p3 (.lst [.str "a", .str "bar", .str "cake", .str "roll", .str "product", .str "zzzzzzzz", .str "rule"])) p4
        (.lst ([.str "mixer", .str "oven", .str "belt", .str "run", .str "clean", .str "machine", .str "stuff", .str "rinse", .str "wash", .str "nuts", .str "milk"] ++ [.str "a", .str "bar", .str "cake", .str "roll", .str "product", .str "zzzzzzzz", .str "rule"])) := by
      have N2 : H p2 = none := by
        cases e : H p2 with
        | none => rfl
        | some o =>
          rw [upd_ne (ne_of_none e n1), e] at n2
          cases n2
      have S1 := fun (b : Addr) (o : HO) (e : H b = some o) => (show (upd H p1 (.lst [.str "mixer", .str "oven", .str "belt", .str "run", .str "clean", .str "machine", .str "stuff", .str "rinse", .str "wash", .str "nuts", .str "milk"])) b = some o by rw [upd_ne (ne_of_none e n1)]; exact e)
      have S2 : Same H (upd (upd H p1 (.lst [.str "mixer", .str "oven", .str "belt", .str "run", .str "clean", .str "machine", .str "stuff", .str "rinse", .str "wash", .str "nuts", .str "milk"])) p2 (.lst [])) := fun b o e => by
        rw [upd_ne (ne_of_none (S1 b o e) n2)]
        exact S1 b o e
      have S3 := fun (b : Addr) (o : HO) (e : H b = some o) => ne_of_none (S2 b o e) n3
      have X2 : (upd (upd (upd H p1 (.lst [.str "mixer", .str "oven", .str "belt", .str "run", .str "clean", .str "machine", .str "stuff", .str "rinse", .str "wash", .str "nuts", .str "milk"])) p2 (.lst [])) p3 (.lst [.str "a", .str "bar", .str "cake", .str "roll", .str "product", .str "zzzzzzzz", .str "rule"])) p2 = some (.lst []) := by
        rw [upd_ne (ne_of_none upd_same n3)]
        exact upd_same
      refine ⟨_, fun b o e => ?_, ?_, upd_same, N2, ne_of_none X2 n4, rfl⟩
      · have z : (upd (upd (upd H p1 (.lst [.str "mixer", .str "oven", .str "belt", .str "run", .str "clean", .str "machine", .str "stuff", .str "rinse", .str "wash", .str "nuts", .str "milk"])) p2 (.lst [])) p3 (.lst [.str "a", .str "bar", .str "cake", .str "roll", .str "product", .str "zzzzzzzz", .str "rule"])) b = some o := by
          rw [upd_ne (S3 b o e)]
          exact S2 b o e
        rw [upd_ne (ne_of_none z n4)]
        exact z
      · rw [upd_ne (ne_of_none X2 n4)]
        exact X2
    rw [← hG]
    clear hG n1 n2 n3 n4
    have J4 : JarAt H4 j := by
      obtain ⟨d0, m0, c0, hj0, r0⟩ := J
      exact ⟨d0, m0, c0, s4 _ _ hj0, r0⟩
    have m2 : p2 ≠ j := J.ne N2
    have m4 : p4 ≠ j := by
      intro z
      obtain ⟨d0, m0, c0, hj0, _⟩ := J4
      rw [z, hj0] at e4
      cases e4
    refine ⟨_, rfl, j, 18, rfl, J4, by decide, by decide, fun s H5 s0 s1 J5 b5 => ⟨_, rfl, big (Nat.le_of_ble_eq_true rfl), fun l nl => ?_⟩⟩
    have ml := J5.ne nl
    refine ⟨j, l, _, rfl, J5.new nl, upd_same, ml, by exact (by decide : 0 < 6), by exact (by decide : 6 < 100000), fun n v H6 hv J6 b6 => ?_⟩
    obtain ⟨g, hg, rfl⟩ : ∃ g, g ∈ gaps ∧ v = V.int g := by
      have hm : v ∈ gaps.map V.int := List.mem_of_getElem? hv
      obtain ⟨g, h1, h2⟩ := List.mem_map.mp hm
      exact ⟨g, h1, h2.symm⟩
    have b56 : But j H4 H6 := But.trans (b5.new nl) b6
    have f2 := b56 _ _ m2 e2
    have f4 := b56 _ _ m4 e4
    have bH : But j H H6 := fun b o n e => b56 b o n (s4 b o e)
    have gb : -(2 ^ 64) < g ∧ g < 2 ^ 64 := by
      simp only [gaps, List.mem_cons, List.not_mem_nil, or_false] at hg
      omega
    refine ⟨_, _, rfl, ?_⟩
    refine ⟨18, rfl, by decide, by decide, for_range (lo := 0) (n := 18) (fun n σ H7 => ∃ v5 : Option V, σ = [some (.ref j), some (.ref p4), some (.ref p2), some (.int s), some (.int g), v5] ∧ JarAt H7 j ∧ But j H H7 ∧ H7 p4 = some (.lst (menu.map V.str)) ∧ H7 p2 = some (.lst ((lab s g n).map V.str)))
      ⟨_, rfl, J6, bH, f4, f2⟩ ?_ ?_⟩
    · rintro n σ H7 hn ⟨v5, rfl, J7, b7, g4, g2⟩
      have e0 : (0 : Int) + (n : Int) = (n : Int) := by omega
      rw [e0]
      refine ⟨_, rfl, .inl ⟨rfl, _, SqL.of g2⟩, _, rfl, _, rfl, _, rfl, _, rfl, _, _, rfl, rfl, .inl gb, _, _, rfl, rfl, .inl ⟨_, rfl, ?_⟩⟩
      have i0 : 0 ≤ (s + g * (n : Int)) % 18 := Int.emod_nonneg _ (by decide)
      have i1 : (s + g * (n : Int)) % 18 < 18 := Int.emod_lt_of_pos _ (by decide)
      refine ⟨_, _, rfl, rfl, (by show (0 : Int) < 18; decide), p4, _, _, _, rfl, rfl, SqL.of g4, menu_at i0 i1, p2, _, _, rfl, rfl, g2, ?_, ?_⟩
      · rw [sizeLine_eq, List.length_map, lab_len]
        omega
      · refine ⟨_, rfl, J7.put m2, b7.put N2, ?_, ?_⟩
        · rw [upd_ne ne24.symm]
          exact g4
        · rw [lab_succ, List.map_append]
          exact upd_same
    · rintro σ H7 ⟨v5, rfl, J7, b7, g4, g2⟩
      refine ⟨_, rfl, ?_⟩
      have hs : (lab s g 18).Nodup := by
        have z := lab_nodup ⟨s.toNat, by omega⟩ g hg
        have e : ((s.toNat : Nat) : Int) = s := Int.toNat_of_nonneg s0
        simpa only [e] using z
      exact k p2 (lab s g 18) H7 (lab_len s g 18) hs (lab_in s g 18) J7 b7 N2 m2 g2
end
end LJ
set_option Elab.async false
set_option linter.all false
set_option maxRecDepth 100000
set_option maxHeartbeats 4000000
namespace LJ
open PySem L2
abbrev sWorld : Stmt := top 44
/-- drawn works, as data -/
structure Wd where
  ms : List (Str × Int × Int)
  cs : List (Str × Int × Int)
  ss : List (Str × Int)
  ps : List (Str × List (Int × Int))
def Row3 (H : Hp) (v : V) (r : Str × Int × Int) : Prop := ∃ a : Addr, v = .ref a ∧ H a = some (.tup [.str r.1, .int r.2.1, .int r.2.2])
def Row2 (H : Hp) (v : V) (r : Str × Int) : Prop := ∃ a : Addr, v = .ref a ∧ H a = some (.tup [.str r.1, .int r.2])
def Bnd (H : Hp) (v : V) (r : Int × Int) : Prop := ∃ a : Addr, v = .ref a ∧ H a = some (.tup [.int r.1, .int r.2])
def RowP (H : Hp) (v : V) (r : Str × List (Int × Int)) : Prop := ∃ (a t : Addr) (vs : List V), v = .ref a ∧ H a = some (.tup [.str r.1, .ref t]) ∧ H t = some (.tup vs) ∧ Paired (Bnd H) vs r.2
/-- all tuples stay -/
def Tup (H H1 : Hp) : Prop := ∀ b xs, H b = some (.tup xs) → H1 b = some (.tup xs)
theorem Tup.of {j : Addr} {H H1 : Hp} (J : JarAt H j) (b : But j H H1) : Tup H H1 := fun a xs e => b a _ (fun z => by
  obtain ⟨d, m, c, q, _⟩ := J
  rw [z, q] at e
  cases e) e
theorem Tup.new {H : Hp} {p : Addr} {o : HO} (n : H p = none) : Tup H (upd H p o) := fun a xs e => by
  rw [upd_ne (ne_of_none e n)]
  exact e
theorem Tup.put {H : Hp} {p : Addr} {o : HO} {ys : List V} (n : H p = some (.lst ys)) : Tup H (upd H p o) := fun a xs e => by
  have m : a ≠ p := fun z => by
    rw [z, n] at e
    cases e
  rw [upd_ne m]
  exact e
theorem Tup.trans {H H1 H2 : Hp} (s : Tup H H1) (t : Tup H1 H2) : Tup H H2 := fun a xs e => t a xs (s a xs e)
theorem Row3.seq {H H1 : Hp} {v : V} {r : Str × Int × Int} (t : Tup H H1) (h : Row3 H v r) : Row3 H1 v r := by
  obtain ⟨a, e, q⟩ := h
  exact ⟨a, e, t _ _ q⟩
theorem Row2.seq {H H1 : Hp} {v : V} {r : Str × Int} (t : Tup H H1) (h : Row2 H v r) : Row2 H1 v r := by
  obtain ⟨a, e, q⟩ := h
  exact ⟨a, e, t _ _ q⟩
theorem Bnd.seq {H H1 : Hp} {v : V} {r : Int × Int} (t : Tup H H1) (h : Bnd H v r) : Bnd H1 v r := by
  obtain ⟨a, e, q⟩ := h
  exact ⟨a, e, t _ _ q⟩
theorem RowP.seq {H H1 : Hp} {v : V} {r : Str × List (Int × Int)} (t : Tup H H1) (h : RowP H v r) : RowP H1 v r := by
  obtain ⟨a, b, vs, e, q, s, p⟩ := h
  exact ⟨a, b, vs, e, t _ _ q, t _ _ s, L2.Paired.mapP p fun x y z => Bnd.seq t z⟩
theorem Paired.snoc {α β : Type} {F : α → β → Prop} : ∀ {xs : List α} {ys : List β} {x : α} {y : β}, Paired F xs ys → F x y → Paired F (xs ++ [x]) (ys ++ [y])
  | _, _, _, _, .nil, h => .cons h .nil
  | _, _, _, _, .cons r t, h => .cons r (Paired.snoc t h)
/-- so many rows: the names one behind another from a place on -/
def Rows3 (H : Hp) (p : Addr) (ls : List Str) (off n : Nat) (ms : List (Str × Int × Int)) : Prop := (∃ vs, H p = some (.lst vs) ∧ vs.length = n ∧ Paired (Row3 H) vs ms) ∧ ms.map (·.1) = (ls.drop off).take n ∧ ∀ r ∈ ms, 0 ≤ r.2.1 ∧ r.2.1 ≤ r.2.2 ∧ r.2.2 ≤ 1000
def Rows2 (H : Hp) (p : Addr) (ls : List Str) (off n : Nat) (ss : List (Str × Int)) : Prop := (∃ vs, H p = some (.lst vs) ∧ vs.length = n ∧ Paired (Row2 H) vs ss) ∧ ss.map (·.1) = (ls.drop off).take n ∧ ∀ r ∈ ss, 0 ≤ r.2 ∧ r.2 ≤ 1000000000000
def RowsP (H : Hp) (p : Addr) (ls : List Str) (off n many : Nat) (ps : List (Str × List (Int × Int))) : Prop := (∃ vs, H p = some (.lst vs) ∧ vs.length = n ∧ Paired (RowP H) vs ps) ∧ ps.map (·.1) = (ls.drop off).take n ∧
  ∀ r ∈ ps, r.2.length = many ∧ ∀ b ∈ r.2, 0 ≤ b.1 ∧ b.1 ≤ b.2 ∧ b.2 ≤ 1000000000000
theorem names_succ {ls : List Str} {off n : Nat} {x : Str} (h : ls[off + n]? = some x) : (ls.drop off).take (n + 1) = (ls.drop off).take n ++ [x] := by
  rw [List.take_succ, List.getElem?_drop, h]
  rfl
theorem lab_at {ls : List Str} {i : Int} {n : Nat} {x : Str} (e : i = (n : Int)) (h : ls[n]? = some x) : atI (ls.map V.str) i = some (.str x) := by
  rw [e]
  refine atI_nat ?_
  rw [List.getElem?_map, h]
  rfl
theorem Rows3.but {j : Addr} {H H1 : Hp} {p : Addr} {ls : List Str} {off n : Nat} {ms : List (Str × Int × Int)} (J : JarAt H j) (b : But j H H1) (m : p ≠ j) (h : Rows3 H p ls off n ms) : Rows3 H1 p ls off n ms := by
  obtain ⟨⟨vs, h1, h2, h3⟩, h4⟩ := h
  exact ⟨⟨vs, b _ _ m h1, h2, L2.Paired.mapP h3 fun x y z => Row3.seq (Tup.of J b) z⟩, h4⟩
theorem Rows2.but {j : Addr} {H H1 : Hp} {p : Addr} {ls : List Str} {off n : Nat} {ms : List (Str × Int)} (J : JarAt H j) (b : But j H H1) (m : p ≠ j) (h : Rows2 H p ls off n ms) : Rows2 H1 p ls off n ms := by
  obtain ⟨⟨vs, h1, h2, h3⟩, h4⟩ := h
  exact ⟨⟨vs, b _ _ m h1, h2, L2.Paired.mapP h3 fun x y z => Row2.seq (Tup.of J b) z⟩, h4⟩
theorem RowsP.but {j : Addr} {H H1 : Hp} {p : Addr} {ls : List Str} {off n many : Nat} {ms : List (Str × List (Int × Int))} (J : JarAt H j) (b : But j H H1) (m : p ≠ j) (h : RowsP H p ls off n many ms) : RowsP H1 p ls off n many ms := by
  obtain ⟨⟨vs, h1, h2, h3⟩, h4⟩ := h
  exact ⟨⟨vs, b _ _ m h1, h2, L2.Paired.mapP h3 fun x y z => RowP.seq (Tup.of J b) z⟩, h4⟩
def WorldAt (H : Hp) (p : Addr) (W : Wd) : Prop := ∃ (a b c d : Addr) (va vb vc vd : List V), H p = some (.lst [.ref a, .ref b, .ref c, .ref d]) ∧ H a = some (.lst va) ∧ Paired (Row3 H) va W.ms ∧ H b = some (.lst vb) ∧ Paired (Row3 H) vb W.cs ∧
  H c = some (.lst vc) ∧ Paired (Row2 H) vc W.ss ∧ H d = some (.lst vd) ∧ Paired (RowP H) vd W.ps
structure Good (W : Wd) : Prop where
  m1 : 1 ≤ W.ms.length
  m2 : W.ms.length ≤ 6
  c2 : W.cs.length ≤ 3
  s1 : 1 ≤ W.ss.length
  s2 : W.ss.length ≤ 2
  p1 : 1 ≤ W.ps.length
  p2 : W.ps.length ≤ 4
  mb : ∀ r ∈ W.ms, 0 ≤ r.2.1 ∧ r.2.1 ≤ r.2.2 ∧ r.2.2 ≤ 1000
  cb : ∀ r ∈ W.cs, 0 ≤ r.2.1 ∧ r.2.1 ≤ r.2.2 ∧ r.2.2 ≤ 1000
  sb : ∀ r ∈ W.ss, 0 ≤ r.2 ∧ r.2 ≤ 1000000000000
  pb : ∀ r ∈ W.ps, r.2.length = W.ss.length ∧ ∀ b ∈ r.2, 0 ≤ b.1 ∧ b.1 ≤ b.2 ∧ b.2 ≤ 1000000000000
  nd : (W.ms.map (·.1) ++ (W.cs.map (·.1) ++ (W.ss.map (·.1) ++ W.ps.map (·.1)))).Nodup
  nm : ∀ x ∈ W.ms.map (·.1) ++ (W.cs.map (·.1) ++ (W.ss.map (·.1) ++ W.ps.map (·.1))), x ∈ menu
theorem Paired.len {α β : Type} {F : α → β → Prop} : ∀ {xs : List α} {ys : List β}, Paired F xs ys → xs.length = ys.length
  | _, _, .nil => rfl
  | _, _, .cons _ t => by rw [List.length_cons, List.length_cons, Paired.len t]
/-- names from four stretches of one row without doubles -/
theorem four_nodup {ls : List Str} (hl : ls.length = 18) (nd : ls.Nodup) {n1 n2 n3 n4 : Nat} (h1 : n1 ≤ 6) (h2 : n2 ≤ 3) (h3 : n3 ≤ 3) (h4 : n4 ≤ 6) :
    (ls.take n1 ++ ((ls.drop 6).take n2 ++ ((ls.drop 9).take n3 ++ (ls.drop 12).take n4))).Sublist ls := by
  have e1 : ls = ls.take 6 ++ ls.drop 6 := (List.take_append_drop 6 ls).symm
  have e2 : ls.drop 6 = (ls.drop 6).take 3 ++ ls.drop 9 := by
    have z := (List.take_append_drop 3 (ls.drop 6)).symm
    rw [List.drop_drop] at z
    exact z
  have e3 : ls.drop 9 = (ls.drop 9).take 3 ++ ls.drop 12 := by
    have z := (List.take_append_drop 3 (ls.drop 9)).symm
    rw [List.drop_drop] at z
    exact z
  have t : ∀ {xs : List Str} {a b : Nat}, a ≤ b → (xs.take a).Sublist (xs.take b) := fun {xs a b} h => by
    have z : xs.take a = (xs.take b).take a := by rw [List.take_take, Nat.min_eq_left h]
    rw [z]
    exact List.take_sublist _ _
  have s3 : ((ls.drop 9).take n3 ++ (ls.drop 12).take n4).Sublist (ls.drop 9) := by
    conv => rhs; rw [e3]
    exact (t h3).append (List.take_sublist _ _)
  have s2 : ((ls.drop 6).take n2 ++ ((ls.drop 9).take n3 ++ (ls.drop 12).take n4)).Sublist (ls.drop 6) := by
    conv => rhs; rw [e2]
    exact (t h2).append s3
  conv => rhs; rw [e1]
  exact (t h1).append s2
def spWorld : Sp := fun vs H Q _ => ∃ (j : Addr) (m : Int), vs = [.ref j, .int m] ∧ JarAt H j ∧ 0 < m ∧ m ≤ 6 ∧ ∀ (p : Addr) (W : Wd) (H1 : Hp), WorldAt H1 p W → Good W → JarAt H1 j → But j H H1 → H p = none → p ≠ j → Q (.ref p) H1
structure BltW (mg : Str → Option Value) : Prop where
  range : mg "range" = none
  tuple : mg "tuple" = none
section
variable {P : Program} {w : World} {K : PySem.W.Frag} {mg : Str → Option Value} {base : Heap}
theorem scWorld : FnScope ["_law_jar_here", "_law_most", "_law_labels_here", "_law_many", "_law_k", "_law_machines_here", "_law_cleanings_here", "_law_stuffs_here", "_law_goods", "_law_each"] ["_law_jar_here", "_law_most"] (defScope sWorld) := ⟨rfl, rfl, rfl, by decide +kernel, rfl, by decide +kernel, by decide +kernel⟩

theorem ok_world {f fD fO fL fS fN : Addr} {fd fdD fdO fdL fdS fdN : FuncData} (F : Fun K "_law_world" "_law_world" sWorld f fd) (T : BltW mg)
    (GD : FnOk P w K mg base CX0 1 fD fdD ["_law_jar_here", "_law_top"] spDip) (mD : mg "_law_dip" = some (.ref fD)) (kD : PySem.W.keepIn K (.ref fD) = true) (bD : Binds K fdD ["_law_jar_here", "_law_top"] [])
    (GO : FnOk P w K mg base CX0 2 fO fdO ["_law_jar_here", "_law_some"] spOne) (mO : mg "_law_one_of" = some (.ref fO)) (kO : PySem.W.keepIn K (.ref fO) = true) (bO : Binds K fdO ["_law_jar_here", "_law_some"] [])
    (GL : FnOk P w K mg base CX0 3 fL fdL ["_law_jar_here"] spLabels) (mL : mg "_law_labels" = some (.ref fL)) (kL : PySem.W.keepIn K (.ref fL) = true) (bL : Binds K fdL ["_law_jar_here"] [])
    (GS : FnOk P w K mg base CX0 3 fS fdS ["_law_jar_here"] (spBounds 1000)) (mS : mg "_law_shares" = some (.ref fS)) (kS : PySem.W.keepIn K (.ref fS) = true) (bS : Binds K fdS ["_law_jar_here"] [])
    (GN : FnOk P w K mg base CX0 3 fN fdN ["_law_jar_here"] (spBounds 1000000000000)) (mN : mg "_law_inside" = some (.ref fN)) (kN : PySem.W.keepIn K (.ref fN) = true) (bN : Binds K fdN ["_law_jar_here"] []) :
    FnOk P w K mg base CX0 4 f fd ["_law_jar_here", "_law_most"] spWorld := by
  refine F.ok scWorld (fun vs H Q E h => ?_) (fun cdv A outer s H vs Q E hr h => ?_)
  · obtain ⟨j, m, rfl, _⟩ := h
    rfl
  · obtain ⟨j, m, rfl, J, m0, m6, k⟩ := h
    have hr1 : Room 1 _ := hr.mono (by decide)
    have hr2 : Room 2 _ := hr.mono (by decide)
    have big : ∀ {n : Nat}, n ≤ 100 → n ≤ sizeLine := fun h => by rw [sizeLine_eq]; omega
    refine ⟨_, pss_cons (ps_asg (pe_tup (pa_cons (pe_call GL hr (by rfl) mL kL bL .nil pass0 (pa_cons (pv 0) pa_nil)) (pa_cons (pe_op op_add pe_int (pe_call GD hr1 (by rfl) mD kD bD .nil pass0 (pa_cons (pv 0) (pa_cons (pv 1) pa_nil)))) pa_nil))) (pg_tup (by rfl) (pgs_cons (pg_name (i := 2) scWorld.nd rfl (Or.inr rfl)) (pgs_cons (pg_name (i := 3) scWorld.nd rfl (Or.inl rfl)) pgs_nil))))
      (pss_cons (ps_setLc (i := 5) (own := [("_law_k", 4)]) (g := gName 4) (by rfl) scWorld.nd rfl rfl (sw_true rfl rfl rfl (by decide +kernel)) (pi_range1 (by rfl) T.range (pa_cons (pv 3) pa_nil)) (blkOk_by (own := [("_law_k", 4)]) (N := ["_law_jar_here", "_law_most", "_law_labels_here", "_law_many", "_law_k", "_law_machines_here", "_law_cleanings_here", "_law_stuffs_here", "_law_goods", "_law_each"]) (sc := defScope sWorld) (by decide +kernel)) (fun _ _ _ _ _ => pg_name (i := 4) scWorld.nd rfl (Or.inl rfl)) (fun _ _ _ _ _ => pts_nil) (fun _ _ _ _ _ => pe_op (show OpR _ _ (rCatT K) from op_catT) (pe_tup (pa_cons (pe_ix (show IxR _ (rIxL K) from ix_list) (pv 2) (pv 4) (fun _ _ => rfl)) pa_nil)) (pe_call GS hr (by rfl) mS kS bS .nil pass0 (pa_cons (pv 0) pa_nil))))
      (pss_cons (ps_setLc (i := 6) (own := [("_law_k", 4)]) (g := gName 4) (by rfl) scWorld.nd rfl rfl (sw_true rfl rfl rfl (by decide +kernel)) (pi_range1 (by rfl) T.range (pa_cons (pe_call GD hr1 (by rfl) mD kD bD .nil pass0 (pa_cons (pv 0) (pa_cons pe_int pa_nil))) pa_nil)) (blkOk_by (own := [("_law_k", 4)]) (N := ["_law_jar_here", "_law_most", "_law_labels_here", "_law_many", "_law_k", "_law_machines_here", "_law_cleanings_here", "_law_stuffs_here", "_law_goods", "_law_each"]) (sc := defScope sWorld) (by decide +kernel)) (fun _ _ _ _ _ => pg_name (i := 4) scWorld.nd rfl (Or.inl rfl)) (fun _ _ _ _ _ => pts_nil) (fun _ _ _ _ _ => pe_op (show OpR _ _ (rCatT K) from op_catT) (pe_tup (pa_cons (pe_ix (show IxR _ (rIxL K) from ix_list) (pv 2) (pe_op op_add pe_int (pv 4)) (fun _ _ => rfl)) pa_nil)) (pe_call GS hr (by rfl) mS kS bS .nil pass0 (pa_cons (pv 0) pa_nil))))
      (pss_cons (ps_par (i := 7) (j := 8) (by rfl) scWorld.nd rfl rfl (by decide) rfl rfl (pa_cons (pe_lst pa_nil) (pa_cons (pe_lst pa_nil) pa_nil)) (by rfl))
      (pss_cons (ps_for PassesOwn.never rfl (pi_range1 (by rfl) T.range (pa_cons (pe_op op_add pe_int (pe_call GD hr1 (by rfl) mD kD bD .nil pass0 (pa_cons (pv 0) (pa_cons pe_int pa_nil)))) pa_nil)) (pg_name (i := 4) scWorld.nd rfl (Or.inl rfl)) (pss_one (ps_expr (pe_bm PySem.F.plainAttrs_list PySem.F.slot_list_append PySem.F.type_list_append mt_append (pv 7) (pa_cons (pe_tup (pa_cons (pe_ix (show IxR _ (rIxL K) from ix_list) (pv 2) (pe_op op_add pe_int (pv 4)) (fun _ _ => rfl)) (pa_cons (pe_call GO hr2 (by rfl) mO kO bO .nil pass0 (pa_cons (pv 0) (pa_cons (pe_lst (pa_cons pe_int (pa_cons pe_int (pa_cons pe_int (pa_cons pe_int (pa_cons (pe_op op_pow pe_int pe_int) pa_nil)))))) pa_nil))) pa_nil))) pa_nil)))))
      (pss_cons (ps_for PassesOwn.never rfl (pi_range1 (by rfl) T.range (pa_cons (pe_op op_add pe_int (pe_call GD hr1 (by rfl) mD kD bD .nil pass0 (pa_cons (pv 0) (pa_cons pe_int pa_nil)))) pa_nil)) (pg_name (i := 4) scWorld.nd rfl (Or.inl rfl)) (pss_one (ps_expr (pe_bm PySem.F.plainAttrs_list PySem.F.slot_list_append PySem.F.type_list_append mt_append (pv 8) (pa_cons (pe_tup (pa_cons (pe_ix (show IxR _ (rIxL K) from ix_list) (pv 2) (pe_op op_add pe_int (pv 4)) (fun _ _ => rfl)) (pa_cons (pe_callTy call_tuple_of (by rfl) T.tuple (by decide +kernel) (pa_cons (pe_lc (own := [("_law_each", 9)]) (g := gName 9) (by rfl) scWorld.nd (pi_list (pv 7)) (blkOk_by (own := [("_law_each", 9)]) (N := ["_law_jar_here", "_law_most", "_law_labels_here", "_law_many", "_law_k", "_law_machines_here", "_law_cleanings_here", "_law_stuffs_here", "_law_goods", "_law_each"]) (sc := defScope sWorld) (by decide +kernel)) (fun _ _ _ _ _ => pg_name (i := 9) scWorld.nd rfl (Or.inl rfl)) (fun _ _ _ _ _ => pts_nil) (fun _ _ _ _ _ => pe_call GN hr (by rfl) mN kN bN .nil pass0 (pa_cons (pv 0) pa_nil))) pa_nil)) pa_nil))) pa_nil)))))
      (pss_one (ps_ret (pe_lst (pa_cons (pv 5) (pa_cons (pv 6) (pa_cons (pv 7) (pa_cons (pv 8) pa_nil)))))))))))), ?_⟩
    refine ⟨_, rfl, j, rfl, J, fun pl ls H1 hls hnd hin J1 b1 npl nl eL1 => ?_⟩
    refine ⟨_, rfl, _, rfl, j, m, rfl, J1, m0, by omega, fun r H2 r0 r1 J2 b2 => ⟨_, _, rfl, rfl, big (Nat.le_of_ble_eq_true rfl), fun t nt => ?_⟩⟩
    have eL2 := b2 _ _ nl eL1
    have eL3 : (upd H2 t (.tup [.ref pl, .int (1 + r)])) pl = some (.lst (ls.map V.str)) := by
      rw [upd_ne (ne_of_none eL2 nt)]
      exact eL2
    have B3 : But j H (upd H2 t (.tup [.ref pl, .int (1 + r)])) := (But.trans b1 b2).new nt
    have J3 : JarAt (upd H2 t (.tup [.ref pl, .int (1 + r)])) j := J2.new nt
    refine ⟨t, _, rfl, SqT.of upd_same, rfl, _, _, rfl, _, _, rfl, rfl, ?_⟩
    generalize upd H2 t (.tup [.ref pl, .int (1 + r)]) = H3 at eL3 B3 J3 ⊢
    refine ⟨_, rfl, _, rfl, by omega, by omega, fun D hD => lc_range (lo := 0) (fun n H2 => JarAt H2 j ∧ But j H3 H2 ∧ ∃ ms, Rows3 H2 D ls 0 n ms)
      ⟨J3.new hD, But.refl.new hD, [], ⟨⟨[], upd_same, rfl, .nil⟩, rfl, fun r hr => nomatch hr⟩⟩ ?_ ?_⟩
    · rintro n H2 hn ⟨J2, b2, ms, ⟨vs, hv, hvl, hpr⟩, hnm, hbd⟩
      have nle : 0 + n < 18 := by omega
      obtain ⟨x, hx⟩ : ∃ x, ls[0 + n]? = some x := ⟨ls[0 + n]'(by omega), List.getElem?_eq_getElem (by omega)⟩
      have dD : D ≠ j := J3.ne hD
      have eL := b2 _ _ nl eL3
      refine ⟨rfl, ?_⟩
      refine ⟨_, rfl, _, rfl, pl, _, _, _, rfl, rfl, SqL.of eL, lab_at (by omega) hx, big (Nat.le_of_ble_eq_true rfl), fun t1 nt1 => ?_⟩
      have mt1 := J2.ne nt1
      refine ⟨_, rfl, j, rfl, J2.new nt1, fun p lo hi G3 l0 l1 l2 JG bG np mp e3 => ?_⟩
      have e1 := bG _ _ mt1 upd_same
      refine ⟨t1, p, _, _, rfl, rfl, SqT.of e1, SqT.of e3, (by simp), big (Nat.le_of_ble_eq_true rfl), (fun z => by cases z), fun _ q nq => ?_⟩
      have mq := JG.ne nq
      have bb : But j H3 (upd G3 q (.tup [.str x, .int lo, .int hi])) := (But.trans (b2.new nt1) bG).new nq
      have eD : (upd G3 q (.tup [.str x, .int lo, .int hi])) D = some (.lst vs) := by
        have z := bG _ _ dD (show (upd H2 t1 (.tup [.str x])) D = some (.lst vs) by rw [upd_ne (ne_of_none hv nt1)]; exact hv)
        rw [upd_ne (ne_of_none z nq)]
        exact z
      have tt : Tup H2 (upd G3 q (.tup [.str x, .int lo, .int hi])) := Tup.trans (Tup.new nt1) (Tup.trans (Tup.of (J2.new nt1) bG) (Tup.new nq))
      have hq : (upd G3 q (.tup [.str x, .int lo, .int hi])) q = some (.tup [.str x, .int lo, .int hi]) := upd_same
      have J4 := JG.new nq (o := .tup [.str x, .int lo, .int hi])
      refine ⟨vs, eD, ?_, J4.put dD, bb.put hD, ms ++ [(x, lo, hi)], ⟨⟨vs ++ [.ref q], upd_same, by rw [List.length_append, hvl]; rfl, ?_⟩, ?_, ?_⟩⟩
      · rw [sizeLine_eq, hvl]
        omega
      · have t5 : Tup (upd G3 q (.tup [.str x, .int lo, .int hi])) (upd (upd G3 q (.tup [.str x, .int lo, .int hi])) D (.lst (vs ++ [.ref q]))) := Tup.put eD
        exact Paired.snoc (L2.Paired.mapP hpr fun a b z => Row3.seq (Tup.trans tt t5) z) ⟨q, rfl, t5 _ _ hq⟩
      · rw [List.map_append, hnm, names_succ hx]
        rfl
      · intro r hr
        rcases List.mem_append.mp hr with h | h
        · exact hbd r h
        · obtain rfl := List.mem_singleton.mp h
          exact ⟨l0, l1, l2⟩
    · rintro H4 ⟨J4, b4, ms, R4⟩
      have dD : D ≠ j := J3.ne hD
      have eL4 := b4 _ _ nl eL3
      refine ⟨_, rfl, j, 4, rfl, J4, by decide, by decide, fun r2 H5 q0 q1 J5 b5 => ⟨_, rfl, by omega, by omega, fun D2 hD2 => lc_range (lo := 0) (fun n H2 => JarAt H2 j ∧ But j H5 H2 ∧ ∃ ms, Rows3 H2 D2 ls 6 n ms)
      ⟨J5.new hD2, But.refl.new hD2, [], ⟨⟨[], upd_same, rfl, .nil⟩, rfl, fun r hr => nomatch hr⟩⟩ ?_ ?_⟩⟩
      · rintro n H2 hn ⟨J2, b2, ms, ⟨vs, hv, hvl, hpr⟩, hnm, hbd⟩
        have nle : 6 + n < 18 := by omega
        obtain ⟨x, hx⟩ : ∃ x, ls[6 + n]? = some x := ⟨ls[6 + n]'(by omega), List.getElem?_eq_getElem (by omega)⟩
        have dD2 : D2 ≠ j := J5.ne hD2
        have eL := b2 _ _ nl (b5 _ _ nl eL4)
        refine ⟨rfl, ?_⟩
        refine ⟨_, rfl, _, rfl, _, _, rfl, rfl, pl, _, _, _, rfl, rfl, SqL.of eL, lab_at (by omega) hx, big (Nat.le_of_ble_eq_true rfl), fun t1 nt1 => ?_⟩
        have mt1 := J2.ne nt1
        refine ⟨_, rfl, j, rfl, J2.new nt1, fun p lo hi G3 l0 l1 l2 JG bG np mp e3 => ?_⟩
        have e1 := bG _ _ mt1 upd_same
        refine ⟨t1, p, _, _, rfl, rfl, SqT.of e1, SqT.of e3, (by simp), big (Nat.le_of_ble_eq_true rfl), (fun z => by cases z), fun _ q nq => ?_⟩
        have mq := JG.ne nq
        have bb : But j H5 (upd G3 q (.tup [.str x, .int lo, .int hi])) := (But.trans (b2.new nt1) bG).new nq
        have eD : (upd G3 q (.tup [.str x, .int lo, .int hi])) D2 = some (.lst vs) := by
          have z := bG _ _ dD2 (show (upd H2 t1 (.tup [.str x])) D2 = some (.lst vs) by rw [upd_ne (ne_of_none hv nt1)]; exact hv)
          rw [upd_ne (ne_of_none z nq)]
          exact z
        have tt : Tup H2 (upd G3 q (.tup [.str x, .int lo, .int hi])) := Tup.trans (Tup.new nt1) (Tup.trans (Tup.of (J2.new nt1) bG) (Tup.new nq))
        have hq : (upd G3 q (.tup [.str x, .int lo, .int hi])) q = some (.tup [.str x, .int lo, .int hi]) := upd_same
        have J4 := JG.new nq (o := .tup [.str x, .int lo, .int hi])
        refine ⟨vs, eD, ?_, J4.put dD2, bb.put hD2, ms ++ [(x, lo, hi)], ⟨⟨vs ++ [.ref q], upd_same, by rw [List.length_append, hvl]; rfl, ?_⟩, ?_, ?_⟩⟩
        · rw [sizeLine_eq, hvl]
          omega
        · have t5 : Tup (upd G3 q (.tup [.str x, .int lo, .int hi])) (upd (upd G3 q (.tup [.str x, .int lo, .int hi])) D2 (.lst (vs ++ [.ref q]))) := Tup.put eD
          exact Paired.snoc (L2.Paired.mapP hpr fun a b z => Row3.seq (Tup.trans tt t5) z) ⟨q, rfl, t5 _ _ hq⟩
        · rw [List.map_append, hnm, names_succ hx]
          rfl
        · intro r hr
          rcases List.mem_append.mp hr with h | h
          · exact hbd r h
          · obtain rfl := List.mem_singleton.mp h
            exact ⟨l0, l1, l2⟩
      · rintro H6 ⟨J6, b6, cs, R6⟩
        have dD2 : D2 ≠ j := J5.ne hD2
        have bH6 : But j H H6 := But.trans B3 (But.trans b4 (But.trans b5 b6))
        have eL5 := b5 _ _ nl eL4
        have eL6 := b6 _ _ nl eL5
        have M6 : Rows3 H6 D ls 0 (1 + r).toNat ms := (R4.but J4 b5 dD).but J5 b6 dD
        clear R4 eL5 eL4 eL3
        refine ⟨big (Nat.le_of_ble_eq_true rfl), fun p7 n7 => ⟨big (Nat.le_of_ble_eq_true rfl), fun p8 n8 => ?_⟩⟩
        have m7 : p7 ≠ j := J6.ne n7
        have n86 : H6 p8 = none := by
          cases e : H6 p8 with
          | none => rfl
          | some o =>
            rw [upd_ne (ne_of_none e n7), e] at n8
            cases n8
        have m8 : p8 ≠ j := J6.ne n86
        have n78 : p7 ≠ p8 := ne_of_none upd_same n8
        have e7 : (upd (upd H6 p7 (.lst [])) p8 (.lst [])) p7 = some (.lst []) := by
          rw [upd_ne n78]
          exact upd_same
        have e8 : (upd (upd H6 p7 (.lst [])) p8 (.lst [])) p8 = some (.lst []) := upd_same
        have J8 : JarAt (upd (upd H6 p7 (.lst [])) p8 (.lst [])) j := (J6.new n7).put m8
        have b8 : But j H6 (upd (upd H6 p7 (.lst [])) p8 (.lst [])) := (But.refl.new n7).put n86
        refine ⟨_, _, rfl, ?_⟩
        generalize upd (upd H6 p7 (.lst [])) p8 (.lst []) = H8 at e7 e8 J8 b8 ⊢
        refine ⟨_, rfl, j, 2, rfl, J8, by decide, by decide, fun r3 H9 u0 u1 J9 b9 => ⟨_, _, rfl, rfl, _, rfl, by omega, by omega, for_range (lo := 0) (fun n σ G => (∃ v4 v9 : Option V, σ = [some (.ref j), some (.int m), some (.ref pl), some (.int (1 + r)), v4, some (.ref D), some (.ref D2), some (.ref p7), some (.ref p8), v9]) ∧ JarAt G j ∧ But j H6 G ∧ G p8 = some (.lst []) ∧ ∃ ss, Rows2 G p7 ls 9 n ss)
          ⟨⟨_, _, rfl⟩, J9, But.trans b8 b9, b9 _ _ m8 e8, [], ⟨⟨[], b9 _ _ m7 e7, rfl, .nil⟩, rfl, fun r hr => nomatch hr⟩⟩ ?_ ?_⟩⟩
        · rintro n σ G hn ⟨⟨v4, v9, rfl⟩, JG, bG, g8, ss, ⟨vs, hv, hvl, hpr⟩, hnm, hbd⟩
          have nle : 9 + n < 18 := by omega
          obtain ⟨x, hx⟩ : ∃ x, ls[9 + n]? = some x := ⟨ls[9 + n]'(by omega), List.getElem?_eq_getElem (by omega)⟩
          have gL := bG _ _ nl eL6
          refine ⟨_, rfl, .inl ⟨rfl, _, SqL.of hv⟩, _, rfl, _, rfl, _, _, rfl, rfl, pl, _, _, _, rfl, rfl, SqL.of gL, lab_at (by omega) hx, _, rfl, _, _, rfl, rfl, ⟨by decide, by decide, by decide⟩, big (Nat.le_of_ble_eq_true rfl), fun l nl2 => ?_⟩
          have ml := JG.ne nl2
          refine ⟨j, l, _, rfl, JG.new nl2, upd_same, ml, by exact (by decide : 0 < 5), by exact (by decide : 5 < 100000), fun i v G2 hvv JG2 bG2 => ?_⟩
          obtain ⟨z, rfl, z0, z1⟩ : ∃ z : Int, v = V.int z ∧ 0 ≤ z ∧ z ≤ 1000000000000 := by
            have hm := List.mem_of_getElem? hvv
            have p12 : (10 : Int) ^ ((12 : Int).toNat) = 1000000000000 := by decide
            simp only [List.mem_cons, List.not_mem_nil, or_false, p12] at hm
            rcases hm with rfl | rfl | rfl | rfl | rfl <;> exact ⟨_, rfl, by omega, by omega⟩
          have bb : But j G G2 := But.trans (But.refl.new nl2) bG2
          have gv := bb _ _ m7 hv
          have gg8 := bb _ _ m8 g8
          refine ⟨big (Nat.le_of_ble_eq_true rfl), fun q nq => ?_⟩
          have gv2 : (upd G2 q (.tup [.str x, .int z])) p7 = some (.lst vs) := by
            rw [upd_ne (ne_of_none gv nq)]
            exact gv
          have gg9 : (upd G2 q (.tup [.str x, .int z])) p8 = some (.lst []) := by
            rw [upd_ne (ne_of_none gg8 nq)]
            exact gg8
          have hq : (upd G2 q (.tup [.str x, .int z])) q = some (.tup [.str x, .int z]) := upd_same
          have tt : Tup G (upd G2 q (.tup [.str x, .int z])) := Tup.trans (Tup.of JG bb) (Tup.new nq)
          have J4' := JG2.new nq (o := .tup [.str x, .int z])
          have bb2 : But j H6 (upd G2 q (.tup [.str x, .int z])) := But.trans bG (bb.new nq)
          refine ⟨p7, _, _, rfl, rfl, gv2, by rw [sizeLine_eq, hvl]; omega, ⟨⟨_, _, rfl⟩, J4'.put m7, bb2.put n7, ?_, ss ++ [(x, z)], ⟨⟨vs ++ [.ref q], upd_same, by rw [List.length_append, hvl]; rfl, ?_⟩, ?_, ?_⟩⟩⟩
          · rw [upd_ne n78.symm]
            exact gg9
          · have t5 : Tup (upd G2 q (.tup [.str x, .int z])) (upd (upd G2 q (.tup [.str x, .int z])) p7 (.lst (vs ++ [.ref q]))) := Tup.put gv2
            exact Paired.snoc (L2.Paired.mapP hpr fun a b z => Row2.seq (Tup.trans tt t5) z) ⟨q, rfl, t5 _ _ hq⟩
          · rw [List.map_append, hnm, names_succ hx]
            rfl
          · intro r hr
            rcases List.mem_append.mp hr with h | h
            · exact hbd r h
            · obtain rfl := List.mem_singleton.mp h
              exact ⟨z0, z1⟩
        · rintro σ Ha ⟨⟨v4, v9, rfl⟩, Ja, ba, a8, ss, Ra⟩
          refine ⟨_, rfl, j, 4, rfl, Ja, by decide, by decide, fun r4 Hb w0 w1 Jb bb => ⟨_, _, rfl, rfl, _, rfl, by omega, by omega, ?_⟩⟩
          have eLb := bb _ _ nl (ba _ _ nl eL6)
          have Sb : Rows2 Hb p7 ls 9 (1 + r3).toNat ss := Ra.but Ja bb m7
          have b8b := bb _ _ m8 a8
          have bHb : But j H6 Hb := But.trans ba bb
          clear Ra a8
          refine for_range (lo := 0) (fun n σ G => (∃ v4 v9 : Option V, σ = [some (.ref j), some (.int m), some (.ref pl), some (.int (1 + r)), v4, some (.ref D), some (.ref D2), some (.ref p7), some (.ref p8), v9]) ∧ JarAt G j ∧ But j H6 G ∧ Rows2 G p7 ls 9 (1 + r3).toNat ss ∧ ∃ ps, RowsP G p8 ls 12 n (1 + r3).toNat ps)
            ⟨⟨_, _, rfl⟩, Jb, bHb, Sb, [], ⟨⟨[], b8b, rfl, .nil⟩, rfl, fun r hr => nomatch hr⟩⟩ ?_ ?_
          · rintro n σ G hn ⟨⟨v4, v9, rfl⟩, JG, bG, SG, ps, ⟨vs, hv, hvl, hpr⟩, hnm, hbd⟩
            have nle : 12 + n < 18 := by omega
            obtain ⟨x, hx⟩ : ∃ x, ls[12 + n]? = some x := ⟨ls[12 + n]'(by omega), List.getElem?_eq_getElem (by omega)⟩
            have gL := bG _ _ nl eL6
            obtain ⟨⟨v7, h7, l7, _⟩, _⟩ := id SG
            refine ⟨_, rfl, .inl ⟨rfl, _, SqL.of hv⟩, _, rfl, _, rfl, _, _, rfl, rfl, pl, _, _, _, rfl, rfl, SqL.of gL, lab_at (by omega) hx, ?_⟩
            refine ⟨_, rfl, p7, rfl, ⟨_, SqL.of h7⟩, fun E9 hE => lc_list (K := K) (a := p7) (xs := v7) (fun i G2 => JarAt G2 j ∧ But j G G2 ∧ ∃ (ws : List V) (bs : List (Int × Int)), G2 E9 = some (.lst ws) ∧ ws.length = i ∧ Paired (Bnd G2) ws bs ∧ ∀ b ∈ bs, 0 ≤ b.1 ∧ b.1 ≤ b.2 ∧ b.2 ≤ 1000000000000)
              ⟨JG.new hE, But.refl.new hE, [], [], upd_same, rfl, .nil, fun b hb => nomatch hb⟩ (fun i G2 _ ⟨_, b2, _⟩ => SqL.of (b2 _ _ m7 h7)) ?_ ?_⟩
            · rintro i y G2 hy ⟨JG2, bG2, ws, bs, hw, hwl, hwp, hwb⟩
              have il : i < v7.length := (List.getElem?_eq_some_iff.mp hy).1
              have dE : E9 ≠ j := JG.ne hE
              refine ⟨rfl, ?_⟩
              refine ⟨_, rfl, j, rfl, JG2, fun p lo hi G3 l0 l1 l2 JG3 bG3 np mp e3 => ?_⟩
              have hw3 := bG3 _ _ dE hw
              refine ⟨ws, hw3, ?_, JG3.put dE, (But.trans bG2 bG3).put hE, ws ++ [.ref p], bs ++ [(lo, hi)], upd_same, by rw [List.length_append, hwl]; rfl, ?_, ?_⟩
              · rw [sizeLine_eq, hwl]
                omega
              · have t5 : Tup G3 (upd G3 E9 (.lst (ws ++ [.ref p]))) := Tup.put hw3
                exact Paired.snoc (L2.Paired.mapP hwp fun a b z => Bnd.seq (Tup.trans (Tup.of JG2 bG3) t5) z) ⟨p, rfl, t5 _ _ e3⟩
              · intro b hb
                rcases List.mem_append.mp hb with h | h
                · exact hwb b h
                · obtain rfl := List.mem_singleton.mp h
                  exact ⟨l0, l1, l2⟩
            · rintro G2 ⟨JG2, bG2, ws, bs, hw, hwl, hwp, hwb⟩
              refine ⟨E9, ws, rfl, .inl ⟨SqL.of hw, fun t nt => ?_⟩⟩
              refine ⟨big (Nat.le_of_ble_eq_true rfl), fun q nq => ?_⟩
              have f1 : (upd (upd G2 t (.tup ws)) q (.tup [.str x, .ref t])) q = some (.tup [.str x, .ref t]) := upd_same
              have f2 : (upd (upd G2 t (.tup ws)) q (.tup [.str x, .ref t])) t = some (.tup ws) := by
                rw [upd_ne (ne_of_none upd_same nq)]
                exact upd_same
              have T1 : Tup G2 (upd (upd G2 t (.tup ws)) q (.tup [.str x, .ref t])) := Tup.trans (Tup.new nt) (Tup.new nq)
              have B1 : But j G (upd (upd G2 t (.tup ws)) q (.tup [.str x, .ref t])) := (bG2.new nt).new nq
              have JX : JarAt (upd (upd G2 t (.tup ws)) q (.tup [.str x, .ref t])) j := (JG2.new nt).new nq
              generalize upd (upd G2 t (.tup ws)) q (.tup [.str x, .ref t]) = G4 at f1 f2 T1 B1 JX ⊢
              have hv4 := B1 _ _ m8 hv
              have t5 : Tup G4 (upd G4 p8 (.lst (vs ++ [.ref q]))) := Tup.put hv4
              have tG : Tup G (upd G4 p8 (.lst (vs ++ [.ref q]))) := Tup.trans (Tup.of JG B1) t5
              refine ⟨p8, _, _, rfl, rfl, hv4, by rw [sizeLine_eq, hvl]; omega, ⟨⟨_, _, rfl⟩, JX.put m8, (But.trans bG B1).put n86, ?_, ps ++ [(x, bs)], ⟨⟨vs ++ [.ref q], upd_same, by rw [List.length_append, hvl]; rfl, ?_⟩, ?_, ?_⟩⟩⟩
              · obtain ⟨⟨v7, h7, l7, p7r⟩, rest⟩ := SG
                exact ⟨⟨v7, by rw [upd_ne n78]; exact B1 _ _ m7 h7, l7, L2.Paired.mapP p7r fun a b z => Row2.seq tG z⟩, rest⟩
              · exact Paired.snoc (L2.Paired.mapP hpr fun a b z => RowP.seq tG z) ⟨q, t, ws, rfl, t5 _ _ f1, t5 _ _ f2, L2.Paired.mapP hwp fun a b z => Bnd.seq (Tup.trans T1 t5) z⟩
              · rw [List.map_append, hnm, names_succ hx]
                rfl
              · intro r hr
                rcases List.mem_append.mp hr with h | h
                · exact hbd r h
                · obtain rfl := List.mem_singleton.mp h
                  exact ⟨by rw [← Paired.len hwp, hwl, l7], hwb⟩
          · rintro σ Hc ⟨⟨v4, v9, rfl⟩, Jc, bc, Sc, ps, Pc⟩
            refine ⟨_, rfl, _, rfl, _, rfl, _, rfl, big (Nat.le_of_ble_eq_true rfl), fun p np => ?_⟩
            have mp := Jc.ne np
            have Mc := M6.but J6 bc dD
            have Cc := R6.but J6 bc dD2
            have bn : But j Hc (upd Hc p (.lst [.ref D, .ref D2, .ref p7, .ref p8])) := But.refl.new np
            obtain ⟨⟨va, ha, la, pa⟩, na, ba'⟩ := Mc.but Jc bn dD
            obtain ⟨⟨vb, hb, lb, pb⟩, nb, bb'⟩ := Cc.but Jc bn dD2
            obtain ⟨⟨vc, hc, lc, pc⟩, nc, bc'⟩ := Sc.but Jc bn m7
            obtain ⟨⟨vd, hd, ld, pd⟩, nd', bd'⟩ := Pc.but Jc bn m8
            have sub := four_nodup hls hnd (n1 := (1 + r).toNat) (n2 := r2.toNat) (n3 := (1 + r3).toNat) (n4 := (1 + r4).toNat) (by omega) (by omega) (by omega) (by omega)
            have xa := Paired.len pa
            have xb := Paired.len pb
            have xc := Paired.len pc
            have xd := Paired.len pd
            refine k p ⟨ms, cs, ss, ps⟩ _ ⟨D, D2, p7, p8, va, vb, vc, vd, upd_same, ha, pa, hb, pb, hc, pc, hd, pd⟩ ?_ (Jc.new np) ((But.trans bH6 bc).new np) ((But.trans bH6 bc).gone mp np) mp
            refine ⟨?_, ?_, ?_, ?_, ?_, ?_, ?_, ba', bb', bc', ?_, ?_, ?_⟩
            · show 1 ≤ ms.length
              omega
            · show ms.length ≤ 6
              omega
            · show cs.length ≤ 3
              omega
            · show 1 ≤ ss.length
              omega
            · show ss.length ≤ 2
              omega
            · show 1 ≤ ps.length
              omega
            · show ps.length ≤ 4
              omega
            · intro r hr
              obtain ⟨h1, h2⟩ := bd' r hr
              exact ⟨by show _ = ss.length; omega, h2⟩
            · show (ms.map (·.1) ++ (cs.map (·.1) ++ (ss.map (·.1) ++ ps.map (·.1)))).Nodup
              rw [na, nb, nc, nd', List.drop_zero]
              exact List.Sublist.nodup sub hnd
            · show ∀ x ∈ ms.map (·.1) ++ (cs.map (·.1) ++ (ss.map (·.1) ++ ps.map (·.1))), x ∈ menu
              rw [na, nb, nc, nd', List.drop_zero]
              exact fun x hx => hin x (sub.subset hx)
end
end LJ
set_option Elab.async false
set_option linter.all false
set_option maxRecDepth 100000
set_option maxHeartbeats 8000000
namespace LJ
open PySem PySem.Spec L2
abbrev sLine : Stmt := top 34
/-- a number's digits -/
def num (i : Int) : Str := Str.ofString (toString i)
theorem num_len {i : Int} (h0 : 0 ≤ i) (h1 : i ≤ 1000000000000) : (num i).length ≤ 14 := by
  unfold num
  rw [ofString_length]
  exact int_text_length_le10 (k := 13) (by decide) (by have : (10 : Nat) ^ 13 = 10000000000000 := by decide
                                                       omega)
theorem num_log {i : Int} (h0 : 0 ≤ i) (h1 : i ≤ 1000000000000) : i.natAbs.log2 < 1920 := by
  by_cases z : i.natAbs = 0
  · rw [z]
    decide
  · have l : i.natAbs < 2 ^ 40 := by
      have : (2 : Nat) ^ 40 = 1099511627776 := by decide
      omega
    have := (Nat.log2_lt z).mpr l
    omega
def bline (b : Int × Int) : Str := Str.empty ++ Str.ofString " " ++ num b.1 ++ Str.ofString "-" ++ num b.2
def pline (n : Str) (bs : List (Int × Int)) : Str := (Str.empty ++ Str.ofString "product " ++ n) ++ Txt.join (Str.ofString "") (bs.map bline)
def Small (b : Int × Int) : Prop := 0 ≤ b.1 ∧ b.1 ≤ b.2 ∧ b.2 ≤ 1000000000000
theorem bl_len {b : Int × Int} (h : Small b) : (bline b).length ≤ 30 := by
  obtain ⟨s1, s2, s3⟩ := h
  have l1 := num_len s1 (Int.le_trans s2 s3)
  have l2 := num_len (Int.le_trans s1 s2) s3
  unfold bline
  rw [Str.length_append, Str.length_append, Str.length_append, Str.length_append, show Str.empty.length = 0 from rfl, show (Str.ofString " ").length = 1 by decide +kernel, show (Str.ofString "-").length = 1 by decide +kernel]
  omega
theorem sum_most {α : Type} {f : α → Nat} {B : Nat} : ∀ {xs : List α}, (∀ x ∈ xs, f x ≤ B) → (xs.map f).sum ≤ xs.length * B
  | [], _ => Nat.zero_le _
  | x :: xs, h => by
    have h1 := h x (List.mem_cons_self ..)
    have h2 := sum_most (B := B) fun y hy => h y (List.mem_cons_of_mem _ hy)
    rw [List.map_cons, List.sum_cons, List.length_cons, Nat.add_mul]
    omega
theorem blines_sum {bs : List (Int × Int)} (h : ∀ r ∈ bs, Small r) : ((bs.map bline).map (·.length)).sum ≤ bs.length * 30 := by
  rw [List.map_map]
  exact sum_most fun x hx => bl_len (h x hx)
theorem join_len {sep : Str} {ys : List Str} : (Txt.join sep ys).length = (ys.map (·.length)).sum + (ys.length - 1) * sep.length := size_glued sep ys
theorem pline_len {n : Str} {bs : List (Int × Int)} (hn : n.length ≤ 8) (hb : bs.length ≤ 10) (h : ∀ r ∈ bs, Small r) : (pline n bs).length ≤ 316 := by
  have s1 := blines_sum h
  unfold pline
  rw [Str.length_append, Str.length_append, join_len, show (Str.ofString "").length = 0 from rfl, Nat.mul_zero, Str.length_append, show Str.empty.length = 0 from rfl, show (Str.ofString "product ").length = 8 by decide +kernel]
  omega
def spLine : Sp := fun vs H Q _ => ∃ (n : Str) (b : Addr) (ys : List V) (bs : List (Int × Int)), vs = [.str n, .ref b] ∧ n.length ≤ 8 ∧ H b = some (.tup ys) ∧ Paired (Bnd H) ys bs ∧ (∀ r ∈ bs, Small r) ∧ bs.length ≤ 10 ∧ ∀ H1, Ex H H1 → Q (.str (pline n bs)) H1
section
variable {P : Program} {w : World} {K : PySem.W.Frag} {mg : Str → Option Value} {base : Heap}
theorem scLine : FnScope ["name", "contents", "low", "high"] ["name", "contents"] (defScope sLine) := ⟨rfl, rfl, rfl, by decide +kernel, rfl, by decide +kernel, by decide +kernel⟩
theorem ok_line {f : Addr} {fd : FuncData} (F : Fun K "_product_line" "_product_line" sLine f fd) : FnOk P w K mg base CX0 1 f fd ["name", "contents"] spLine := by
  refine F.ok scLine (fun vs H Q E h => ?_) (fun cdv A outer s H vs Q E hr h => ?_)
  · obtain ⟨n, b, ys, bs, rfl, _⟩ := h
    rfl
  · obtain ⟨n, b, ys, bs, rfl, nl, hb, pb, sm, bl, q⟩ := h
    refine ⟨_, pss_one (ps_ret (pe_op op_add_str (pe_joined (.cons pe_str (.cons (pe_fmt (pv 0)) .nil)))
      (pe_join pe_str (pe_lc (own := [("low", 2), ("high", 3)]) (g := gTup K 2 (gCons (gName 2) (gCons (gName 3) gNil))) (by rfl) scLine.nd (pi_tup (pv 1)) (blkOk_by (own := [("low", 2), ("high", 3)]) (N := ["name", "contents", "low", "high"]) (sc := defScope sLine) (by decide +kernel))
        (fun _ _ _ _ _ => pg_tup (by rfl) (pgs_cons (pg_name (i := 2) scLine.nd rfl (Or.inl rfl)) (pgs_cons (pg_name (i := 3) scLine.nd rfl (Or.inl rfl)) pgs_nil))) (fun _ _ _ _ _ => pts_nil)
        (fun _ _ _ _ _ => pe_joined (.cons pe_str (.cons (pe_fmt (pv 2)) (.cons pe_str (.cons (pe_fmt (pv 3)) .nil)))))))))  , ?_⟩
    have yl : ys.length = bs.length := Paired.size pb
    have sz : sizeLine = 16777216 := sizeLine_eq
    have hl : (Str.empty ++ Str.ofString "product ").length = 8 := by decide +kernel
    have hl2 : (Str.empty ++ Str.ofString "product " ++ n).length ≤ 16 := by
      rw [Str.length_append, hl]
      omega
    refine ⟨_, rfl, by rw [hl, sz]; decide, _, rfl, .inl ⟨n, rfl, by omega, n, rfl, by omega, ?_⟩⟩
    refine ⟨⟨_, rfl⟩, _, rfl, b, rfl, ⟨ys, SqT.of hb⟩, fun D hD => lc_it (te := fun σ H Q => tJs [tC (.str (Str.ofString " ")), tFmt (tVar 2), tC (.str (Str.ofString "-")), tFmt (tVar 3)] Str.empty σ H fun out H1 => Q (.str out) H1) walk_tup (fun i H2 => Ex H H2 ∧ H2 D = some (.lst (((bs.take i).map bline).map V.str))) ⟨Ex.refl.new hD, upd_same⟩ (fun i H2 _ h => SqT.of (h.1 _ _ hb)) ?_ ?_⟩
    · rintro i v _ H2 hi ⟨x2, e2⟩ ⟨rfl, hv⟩
      obtain ⟨⟨lo, hi2⟩, hr, a, rfl, ha⟩ := Paired.spot pb hv
      obtain ⟨s1, s2, s3⟩ := sm _ (List.mem_of_getElem? hr)
      have s1 : 0 ≤ lo := s1
      have s2 : lo ≤ hi2 := s2
      have s3 : hi2 ≤ 1000000000000 := s3
      have l1 := num_len s1 (Int.le_trans s2 s3)
      have l2 := num_len (Int.le_trans s1 s2) s3
      have k1 : (Str.empty ++ Str.ofString " ").length = 1 := by decide +kernel
      have k2 : (Str.empty ++ Str.ofString " " ++ num lo).length ≤ 15 := by
        rw [Str.length_append, k1]
        omega
      have k3 : (Str.empty ++ Str.ofString " " ++ num lo ++ Str.ofString "-").length ≤ 16 := by
        rw [Str.length_append, show (Str.ofString "-").length = 1 by decide +kernel]
        omega
      have k4 : (bline (lo, hi2)).length ≤ 30 := by
        show (Str.empty ++ Str.ofString " " ++ num lo ++ Str.ofString "-" ++ num hi2).length ≤ 30
        rw [Str.length_append]
        omega
      refine ⟨_, _, rfl, SqT.of (x2 _ _ ha), rfl, _, _, rfl, _, _, rfl, rfl, rfl, ?_⟩
      refine ⟨_, rfl, by omega, _, rfl, .inr ⟨lo, rfl, num_log s1 (Int.le_trans s2 s3), num lo, rfl, by omega, _, rfl, by omega, _, rfl, .inr ⟨hi2, rfl, num_log (Int.le_trans s1 s2) s3, num hi2, rfl, ?_, ?_⟩⟩⟩
      · exact Nat.le_trans k4 (by omega)
      · refine ⟨_, e2, ?_, x2.put hD, ?_⟩
        · rw [List.length_map, List.length_map, List.length_take]
          omega
        · rw [upd_same, List.take_succ, hr, List.map_append, List.map_append]
          rfl
    · rintro H2 ⟨x2, e2⟩
      rw [List.take_of_length_le (by omega)] at e2
      refine ⟨_, D, bs.map bline, rfl, rfl, .inl (SqL.of e2), ?_, _, _, rfl, rfl, ?_, q H2 x2⟩
      · have s1 := blines_sum sm
        rw [show (Str.ofString "").length = 0 from rfl, Nat.mul_zero]
        omega
      · have l := pline_len nl bl sm
        unfold pline at l
        rw [Str.length_append] at l
        omega
end
end LJ
set_option Elab.async false
set_option linter.all false
set_option maxRecDepth 100000
set_option maxHeartbeats 8000000
namespace LJ
open PySem PySem.Spec L2
abbrev sText : Stmt := top 33
abbrev nText : List Str := ["machines", "cleanings", "stuffs", "products", "lines", "name", "low", "high", "most", "contents"]
abbrev sp1 : Str := Str.ofString " "
def line3 (pre : Str) (r : Str × Int × Int) : Str := Str.empty ++ pre ++ r.1 ++ sp1 ++ num r.2.1 ++ sp1 ++ num r.2.2
def line2 (pre : Str) (r : Str × Int) : Str := Str.empty ++ pre ++ r.1 ++ sp1 ++ num r.2
def Fit3 (r : Str × Int × Int) : Prop := r.1.length ≤ 8 ∧ 0 ≤ r.2.1 ∧ r.2.1 ≤ r.2.2 ∧ r.2.2 ≤ 1000000000000
def Fit2 (r : Str × Int) : Prop := r.1.length ≤ 8 ∧ 0 ≤ r.2 ∧ r.2 ≤ 1000000000000
theorem sp1_len : sp1.length = 1 := by decide +kernel
theorem empty_len : Str.empty.length = 0 := rfl
theorem rd3 {pre n : Str} {lo hi : Int} {σ : St} {H : Hp} {Q : Str → Hp → Prop} (h5 : σ[5]? = some (some (.str n))) (h6 : σ[6]? = some (some (.int lo))) (h7 : σ[7]? = some (some (.int hi))) (pl : pre.length ≤ 20) (f : Fit3 (n, lo, hi)) (q : (line3 pre (n, lo, hi)).length ≤ 80 → Q (line3 pre (n, lo, hi)) H) :
    tJs [tC (.str pre), tFmt (tVar 5), tC (.str sp1), tFmt (tVar 6), tC (.str sp1), tFmt (tVar 7)] Str.empty σ H Q := by
  obtain ⟨f1, f2, f3, f4⟩ := f
  have f1 : n.length ≤ 8 := f1
  have f2 : 0 ≤ lo := f2
  have f3 : lo ≤ hi := f3
  have f4 : hi ≤ 1000000000000 := f4
  have l1 := num_len f2 (Int.le_trans f3 f4)
  have l2 := num_len (Int.le_trans f2 f3) f4
  have sz := sizeLine_eq
  have k1 : (Str.empty ++ pre).length ≤ 20 := by
    rw [Str.length_append, empty_len]
    omega
  have k2 : (Str.empty ++ pre ++ n).length ≤ 28 := by
    rw [Str.length_append]
    omega
  have k3 : (Str.empty ++ pre ++ n ++ sp1).length ≤ 29 := by
    rw [Str.length_append, sp1_len]
    omega
  have k4 : (Str.empty ++ pre ++ n ++ sp1 ++ num lo).length ≤ 43 := by
    rw [Str.length_append]
    omega
  have k5 : (Str.empty ++ pre ++ n ++ sp1 ++ num lo ++ sp1).length ≤ 44 := by
    rw [Str.length_append, sp1_len]
    omega
  have k6 : (Str.empty ++ pre ++ n ++ sp1 ++ num lo ++ sp1 ++ num hi).length ≤ 58 := by
    rw [Str.length_append]
    omega
  have b : ∀ {m : Nat}, m ≤ 80 → m ≤ sizeLine := fun h => by omega
  exact ⟨_, rfl, b (by omega), _, h5, .inl ⟨n, rfl, b (by omega), n, rfl, b (by omega), _, rfl, b (by omega), _, h6, .inr ⟨lo, rfl, num_log f2 (Int.le_trans f3 f4), num lo, rfl, b (by omega), _, rfl, b (by omega), _, h7, .inr ⟨hi, rfl, num_log (Int.le_trans f2 f3) f4, num hi, rfl, b (Nat.le_trans k6 (by omega)), q (Nat.le_trans k6 (by omega))⟩⟩⟩⟩
theorem rd2 {pre n : Str} {m : Int} {σ : St} {H : Hp} {Q : Str → Hp → Prop} (h5 : σ[5]? = some (some (.str n))) (h8 : σ[8]? = some (some (.int m))) (pl : pre.length ≤ 20) (f : Fit2 (n, m)) (q : Q (line2 pre (n, m)) H) :
    tJs [tC (.str pre), tFmt (tVar 5), tC (.str sp1), tFmt (tVar 8)] Str.empty σ H Q := by
  obtain ⟨f1, f2, f4⟩ := f
  have f1 : n.length ≤ 8 := f1
  have f2 : 0 ≤ m := f2
  have f4 : m ≤ 1000000000000 := f4
  have l1 := num_len f2 f4
  have sz := sizeLine_eq
  have k1 : (Str.empty ++ pre).length ≤ 20 := by
    rw [Str.length_append, empty_len]
    omega
  have k2 : (Str.empty ++ pre ++ n).length ≤ 28 := by
    rw [Str.length_append]
    omega
  have k3 : (Str.empty ++ pre ++ n ++ sp1).length ≤ 29 := by
    rw [Str.length_append, sp1_len]
    omega
  have k4 : (Str.empty ++ pre ++ n ++ sp1 ++ num m).length ≤ 43 := by
    rw [Str.length_append]
    omega
  have b : ∀ {m : Nat}, m ≤ 80 → m ≤ sizeLine := fun h => by omega
  exact ⟨_, rfl, b (by omega), _, h5, .inl ⟨n, rfl, b (by omega), n, rfl, b (by omega), _, rfl, b (by omega), _, h8, .inr ⟨m, rfl, num_log f2 f4, num m, rfl, b (Nat.le_trans k4 (by omega)), q⟩⟩⟩
theorem line3_len {pre : Str} {r : Str × Int × Int} (pl : pre.length ≤ 20) (f : Fit3 r) : (line3 pre r).length ≤ 400 := by
  obtain ⟨f1, f2, f3, f4⟩ := f
  have l1 := num_len f2 (Int.le_trans f3 f4)
  have l2 := num_len (Int.le_trans f2 f3) f4
  unfold line3
  rw [Str.length_append, Str.length_append, Str.length_append, Str.length_append, Str.length_append, Str.length_append, empty_len, sp1_len]
  omega
theorem line2_len {pre : Str} {r : Str × Int} (pl : pre.length ≤ 20) (f : Fit2 r) : (line2 pre r).length ≤ 400 := by
  obtain ⟨f1, f2, f4⟩ := f
  have l1 := num_len f2 f4
  unfold line2
  rw [Str.length_append, Str.length_append, Str.length_append, Str.length_append, empty_len, sp1_len]
  omega
def wlines (W : Wd) : List Str := W.ms.map (line3 (Str.ofString "machine ")) ++ W.cs.map (line3 (Str.ofString "cleaning ")) ++ W.ss.map (line2 (Str.ofString "stuff ")) ++ W.ps.map fun p => pline p.1 p.2
def wtext (W : Wd) : Str := Txt.join (Str.ofString "\n") (wlines W)
/-- works small enough to be told in a text -/
structure Told (W : Wd) : Prop where
  lm : W.ms.length ≤ 10
  lc : W.cs.length ≤ 10
  ls : W.ss.length ≤ 10
  lp : W.ps.length ≤ 10
  fm : ∀ r ∈ W.ms, Fit3 r
  fc : ∀ r ∈ W.cs, Fit3 r
  fs : ∀ r ∈ W.ss, Fit2 r
  fp : ∀ r ∈ W.ps, r.1.length ≤ 8 ∧ r.2.length ≤ 10 ∧ ∀ b ∈ r.2, Small b
def spText : Sp := fun vs H Q _ => ∃ (am ac as ap : Addr) (vm vc vs2 vp : List V) (W : Wd), vs = [.ref am, .ref ac, .ref as, .ref ap] ∧ H am = some (.tup vm) ∧ H ac = some (.tup vc) ∧ H as = some (.tup vs2) ∧ H ap = some (.tup vp) ∧
  Paired (Row3 H) vm W.ms ∧ Paired (Row3 H) vc W.cs ∧ Paired (Row2 H) vs2 W.ss ∧ Paired (RowP H) vp W.ps ∧ Told W ∧ ∀ H1, Ex H H1 → Q (.str (wtext W)) H1
section
variable {P : Program} {w : World} {K : PySem.W.Frag} {mg : Str → Option Value} {base : Heap}
theorem scText : FnScope nText ["machines", "cleanings", "stuffs", "products"] (defScope sText) := ⟨rfl, rfl, rfl, by decide +kernel, rfl, by decide +kernel, by decide +kernel⟩
theorem ok_text {f fP : Addr} {fd fdP : FuncData} (F : Fun K "_text_of" "_text_of" sText f fd) (GP : FnOk P w K mg base CX0 1 fP fdP ["name", "contents"] spLine) (mP : mg "_product_line" = some (.ref fP)) (kP : PySem.W.keepIn K (.ref fP) = true) (bP : Binds K fdP ["name", "contents"] []) :
    FnOk P w K mg base CX0 2 f fd ["machines", "cleanings", "stuffs", "products"] spText := by
  refine F.ok scText (fun vs H Q E h => ?_) (fun cdv A outer s H vs Q E hr h => ?_)
  · obtain ⟨am, ac, as, ap, vm, vc, vs2, vp, W, rfl, _⟩ := h
    rfl
  · obtain ⟨am, ac, as, ap, vm, vc, vs2, vp, W, rfl, hm, hc, hs, hp, pm, pc, ps, pp, T, q⟩ := h
    refine ⟨_, pss_cons (ps_setLc (i := 4) (own := [("name", 5), ("low", 6), ("high", 7)]) (g := gTup K 3 (gCons (gName 5) (gCons (gName 6) (gCons (gName 7) gNil)))) (by rfl) scText.nd rfl rfl (sw_true rfl rfl rfl (by decide +kernel)) (pi_tup (pv 0)) (blkOk_by (own := [("name", 5), ("low", 6), ("high", 7)]) (N := nText) (sc := defScope sText) (by decide +kernel))
        (fun _ _ _ _ _ => pg_tup (by rfl) (pgs_cons (pg_name (i := 5) scText.nd rfl (Or.inl rfl)) (pgs_cons (pg_name (i := 6) scText.nd rfl (Or.inl rfl)) (pgs_cons (pg_name (i := 7) scText.nd rfl (Or.inl rfl)) pgs_nil)))) (fun _ _ _ _ _ => pts_nil)
        (fun _ _ _ _ _ => pe_joined (.cons pe_str (.cons (pe_fmt (pv 5)) (.cons pe_str (.cons (pe_fmt (pv 6)) (.cons pe_str (.cons (pe_fmt (pv 7)) .nil))))))))
      (pss_cons (ps_expr (pe_bm PySem.F.plainAttrs_list PySem.F.slot_list_extend PySem.F.type_list_extend mt_extend (pv 4) (pa_cons (pe_lc (own := [("name", 5), ("low", 6), ("high", 7)]) (g := gTup K 3 (gCons (gName 5) (gCons (gName 6) (gCons (gName 7) gNil)))) (by rfl) scText.nd (pi_tup (pv 1)) (blkOk_by (own := [("name", 5), ("low", 6), ("high", 7)]) (N := nText) (sc := defScope sText) (by decide +kernel))
        (fun _ _ _ _ _ => pg_tup (by rfl) (pgs_cons (pg_name (i := 5) scText.nd rfl (Or.inl rfl)) (pgs_cons (pg_name (i := 6) scText.nd rfl (Or.inl rfl)) (pgs_cons (pg_name (i := 7) scText.nd rfl (Or.inl rfl)) pgs_nil)))) (fun _ _ _ _ _ => pts_nil)
        (fun _ _ _ _ _ => pe_joined (.cons pe_str (.cons (pe_fmt (pv 5)) (.cons pe_str (.cons (pe_fmt (pv 6)) (.cons pe_str (.cons (pe_fmt (pv 7)) .nil)))))))) pa_nil)))
      (pss_cons (ps_expr (pe_bm PySem.F.plainAttrs_list PySem.F.slot_list_extend PySem.F.type_list_extend mt_extend (pv 4) (pa_cons (pe_lc (own := [("name", 5), ("most", 8)]) (g := gTup K 2 (gCons (gName 5) (gCons (gName 8) gNil))) (by rfl) scText.nd (pi_tup (pv 2)) (blkOk_by (own := [("name", 5), ("most", 8)]) (N := nText) (sc := defScope sText) (by decide +kernel))
        (fun _ _ _ _ _ => pg_tup (by rfl) (pgs_cons (pg_name (i := 5) scText.nd rfl (Or.inl rfl)) (pgs_cons (pg_name (i := 8) scText.nd rfl (Or.inl rfl)) pgs_nil))) (fun _ _ _ _ _ => pts_nil)
        (fun _ _ _ _ _ => pe_joined (.cons pe_str (.cons (pe_fmt (pv 5)) (.cons pe_str (.cons (pe_fmt (pv 8)) .nil)))))) pa_nil)))
      (pss_cons (ps_expr (pe_bm PySem.F.plainAttrs_list PySem.F.slot_list_extend PySem.F.type_list_extend mt_extend (pv 4) (pa_cons (pe_lc (own := [("name", 5), ("contents", 9)]) (g := gTup K 2 (gCons (gName 5) (gCons (gName 9) gNil))) (by rfl) scText.nd (pi_tup (pv 3)) (blkOk_by (own := [("name", 5), ("contents", 9)]) (N := nText) (sc := defScope sText) (by decide +kernel))
        (fun _ _ _ _ _ => pg_tup (by rfl) (pgs_cons (pg_name (i := 5) scText.nd rfl (Or.inl rfl)) (pgs_cons (pg_name (i := 9) scText.nd rfl (Or.inl rfl)) pgs_nil))) (fun _ _ _ _ _ => pts_nil)
        (fun _ _ _ _ _ => pe_call GP hr (by rfl) mP kP bP .nil pass0 (pa_cons (pv 5) (pa_cons (pv 9) pa_nil)))) pa_nil)))
      (pss_one (ps_ret (pe_join pe_str (pv 4))))))), ?_⟩
    have sz := sizeLine_eq
    obtain ⟨t1, t2, t3, t4, f1, f2, f3, f4⟩ := T
    have n1 : vm.length = W.ms.length := Paired.size pm
    have n2 : vc.length = W.cs.length := Paired.size pc
    have n3 : vs2.length = W.ss.length := Paired.size ps
    have n4 : vp.length = W.ps.length := Paired.size pp
    refine ⟨_, rfl, am, rfl, ⟨vm, SqT.of hm⟩, fun D hD => lc_it (te := fun σ H Q => tJs [tC (.str (Str.ofString "machine ")), tFmt (tVar 5), tC (.str sp1), tFmt (tVar 6), tC (.str sp1), tFmt (tVar 7)] Str.empty σ H fun out H1 => Q (.str out) H1) walk_tup (fun i G => Ex H G ∧ G D = some (.lst (((W.ms.take i).map (line3 (Str.ofString "machine "))).map V.str))) ⟨Ex.refl.new hD, upd_same⟩ (fun i G _ h => SqT.of (h.1 _ _ hm)) ?_ ?_⟩
    · rintro i v _ G hi ⟨xG, eG⟩ ⟨rfl, hv⟩
      obtain ⟨⟨n, lo, up⟩, hr, a, rfl, ha⟩ := Paired.spot pm hv
      have f := f1 _ (List.mem_of_getElem? hr)
      have e : G a = some (.tup [.str n, .int lo, .int up]) := xG _ _ (Ex.refl _ _ ha)
      refine ⟨a, _, rfl, SqT.of e, rfl, _, _, rfl, _, _, rfl, _, _, rfl, rfl, rfl, ?_⟩
      refine rd3 rfl rfl rfl (by decide +kernel) f fun _ => ⟨_, eG, ?_, xG.put hD, ?_⟩
      · rw [List.length_map, List.length_map, List.length_take]
        omega
      · rw [upd_same, List.take_succ, hr, List.map_append, List.map_append]
        rfl
    rintro H1 ⟨x1, e1⟩
    rw [List.take_of_length_le (by omega)] at e1
    generalize hls1 : W.ms.map (line3 (Str.ofString "machine ")) = ls1 at e1
    have k1 : ls1.length ≤ 10 := by
      rw [← hls1, List.length_map]
      exact t1
    have nD := hD
    clear hD
    refine ⟨_, rfl, .inl ⟨rfl, _, SqL.of e1⟩, _, rfl, ac, rfl, ⟨vc, SqT.of (x1 _ _ hc)⟩, fun D2 hD => lc_it (te := fun σ H Q => tJs [tC (.str (Str.ofString "cleaning ")), tFmt (tVar 5), tC (.str sp1), tFmt (tVar 6), tC (.str sp1), tFmt (tVar 7)] Str.empty σ H fun out H1 => Q (.str out) H1) walk_tup (fun i G => Ex H1 G ∧ G D2 = some (.lst (((W.cs.take i).map (line3 (Str.ofString "cleaning "))).map V.str))) ⟨Ex.refl.new hD, upd_same⟩ (fun i G _ h => SqT.of (h.1 _ _ (x1 _ _ hc))) ?_ ?_⟩
    · rintro i v _ G hi ⟨xG, eG⟩ ⟨rfl, hv⟩
      obtain ⟨⟨n, lo, up⟩, hr, a, rfl, ha⟩ := Paired.spot pc hv
      have f := f2 _ (List.mem_of_getElem? hr)
      have e : G a = some (.tup [.str n, .int lo, .int up]) := xG _ _ (x1 _ _ ha)
      refine ⟨a, _, rfl, SqT.of e, rfl, _, _, rfl, _, _, rfl, _, _, rfl, rfl, rfl, ?_⟩
      refine rd3 rfl rfl rfl (by decide +kernel) f fun _ => ⟨_, eG, ?_, xG.put hD, ?_⟩
      · rw [List.length_map, List.length_map, List.length_take]
        omega
      · rw [upd_same, List.take_succ, hr, List.map_append, List.map_append]
        rfl
    rintro H2 ⟨x2, e2⟩
    rw [List.take_of_length_le (by omega)] at e2
    generalize hls2 : W.cs.map (line3 (Str.ofString "cleaning ")) = ls2 at e2
    have k2 : ls2.length ≤ 10 := by
      rw [← hls2, List.length_map]
      exact t2
    refine ⟨D, D2, _, _, rfl, rfl, x2 _ _ e1, e2, by rw [List.length_map, List.length_map]; omega, ?_⟩
    rw [← List.map_append]
    have x3 : Ex H (upd H2 D (.lst ((ls1 ++ ls2).map V.str))) := (x1.trans x2).put nD
    have e3 : (upd H2 D (.lst ((ls1 ++ ls2).map V.str))) D = some (.lst ((ls1 ++ ls2).map V.str)) := upd_same
    clear hD e2
    generalize upd H2 D (.lst ((ls1 ++ ls2).map V.str)) = H3 at x3 e3 ⊢
    refine ⟨_, rfl, .inl ⟨rfl, _, SqL.of e3⟩, _, rfl, as, rfl, ⟨vs2, SqT.of (x3 _ _ hs)⟩, fun D3 hD => lc_it (te := fun σ H Q => tJs [tC (.str (Str.ofString "stuff ")), tFmt (tVar 5), tC (.str sp1), tFmt (tVar 8)] Str.empty σ H fun out H1 => Q (.str out) H1) walk_tup (fun i G => Ex H3 G ∧ G D3 = some (.lst (((W.ss.take i).map (line2 (Str.ofString "stuff "))).map V.str))) ⟨Ex.refl.new hD, upd_same⟩ (fun i G _ h => SqT.of (h.1 _ _ (x3 _ _ hs))) ?_ ?_⟩
    · rintro i v _ G hi ⟨xG, eG⟩ ⟨rfl, hv⟩
      obtain ⟨⟨n, m⟩, hr, a, rfl, ha⟩ := Paired.spot ps hv
      have f := f3 _ (List.mem_of_getElem? hr)
      have e : G a = some (.tup [.str n, .int m]) := xG _ _ (x3 _ _ ha)
      refine ⟨a, _, rfl, SqT.of e, rfl, _, _, rfl, _, _, rfl, rfl, rfl, ?_⟩
      refine rd2 rfl rfl (by decide +kernel) f ⟨_, eG, ?_, xG.put hD, ?_⟩
      · rw [List.length_map, List.length_map, List.length_take]
        omega
      · rw [upd_same, List.take_succ, hr, List.map_append, List.map_append]
        rfl
    rintro H4 ⟨x4, e4⟩
    rw [List.take_of_length_le (by omega)] at e4
    generalize hls3 : W.ss.map (line2 (Str.ofString "stuff ")) = ls3 at e4
    have k3 : ls3.length ≤ 10 := by
      rw [← hls3, List.length_map]
      exact t3
    refine ⟨D, D3, _, _, rfl, rfl, x4 _ _ e3, e4, by rw [List.length_map, List.length_map, List.length_append]; omega, ?_⟩
    rw [← List.map_append]
    have x5 : Ex H (upd H4 D (.lst ((ls1 ++ ls2 ++ ls3).map V.str))) := (x3.trans x4).put nD
    have e5 : (upd H4 D (.lst ((ls1 ++ ls2 ++ ls3).map V.str))) D = some (.lst ((ls1 ++ ls2 ++ ls3).map V.str)) := upd_same
    clear hD e4
    generalize upd H4 D (.lst ((ls1 ++ ls2 ++ ls3).map V.str)) = H5 at x5 e5 ⊢
    refine ⟨_, rfl, .inl ⟨rfl, _, SqL.of e5⟩, _, rfl, ap, rfl, ⟨vp, SqT.of (x5 _ _ hp)⟩, fun D4 hD => lc_it walk_tup (fun i G => Ex H5 G ∧ G D4 = some (.lst (((W.ps.take i).map fun p => pline p.1 p.2).map V.str))) ⟨Ex.refl.new hD, upd_same⟩ (fun i G _ h => SqT.of (h.1 _ _ (x5 _ _ hp))) ?_ ?_⟩
    · rintro i v _ G hi ⟨xG, eG⟩ ⟨rfl, hv⟩
      obtain ⟨⟨n, bs⟩, hr, a, t, vb, rfl, ha, ht, pb⟩ := Paired.spot pp hv
      obtain ⟨g1, g2, g3⟩ := f4 _ (List.mem_of_getElem? hr)
      have xx := x5.trans xG
      refine ⟨a, _, rfl, SqT.of (xx _ _ ha), rfl, _, _, rfl, _, _, rfl, rfl, rfl, ?_⟩
      refine ⟨_, rfl, _, rfl, n, t, vb, bs, rfl, g1, xx _ _ ht, L2.Paired.mapP pb fun x y z => Bnd.seq (fun b xs e => xx b _ e) z, g3, g2, fun G2 xG2 => ⟨_, xG2 _ _ eG, ?_, (xG.trans xG2).put hD, ?_⟩⟩
      · rw [List.length_map, List.length_map, List.length_take]
        omega
      · rw [upd_same, List.take_succ, hr, List.map_append, List.map_append]
        rfl
    rintro H6 ⟨x6, e6⟩
    rw [List.take_of_length_le (by omega)] at e6
    refine ⟨D, D4, _, _, rfl, rfl, x6 _ _ e5, e6, by rw [List.length_map, List.length_map, List.length_map, List.length_append, List.length_append]; omega, ?_⟩
    rw [← List.map_append]
    have x7 : Ex H (upd H6 D (.lst ((ls1 ++ ls2 ++ ls3 ++ W.ps.map fun p => pline p.1 p.2).map V.str))) := (x5.trans x6).put nD
    refine ⟨⟨_, rfl⟩, _, rfl, _, D, ls1 ++ ls2 ++ ls3 ++ W.ps.map fun p => pline p.1 p.2, rfl, rfl, .inl (SqL.of upd_same), ?_, ?_⟩
    · have most : ∀ x ∈ ls1 ++ ls2 ++ ls3 ++ W.ps.map fun p => pline p.1 p.2, x.length ≤ 400 := fun x hx => by
        rcases List.mem_append.mp hx with h | h
        · rcases List.mem_append.mp h with h | h
          · rcases List.mem_append.mp h with h | h
            · rw [← hls1] at h
              obtain ⟨r, hr, rfl⟩ := List.mem_map.mp h
              exact line3_len (by decide +kernel) (f1 r hr)
            · rw [← hls2] at h
              obtain ⟨r, hr, rfl⟩ := List.mem_map.mp h
              exact line3_len (by decide +kernel) (f2 r hr)
          · rw [← hls3] at h
            obtain ⟨r, hr, rfl⟩ := List.mem_map.mp h
            exact line2_len (by decide +kernel) (f3 r hr)
        · obtain ⟨r, hr, rfl⟩ := List.mem_map.mp h
          obtain ⟨g1, g2, g3⟩ := f4 r hr
          exact Nat.le_trans (pline_len g1 g2 g3) (by decide)
      have sm := sum_most (f := fun x : Str => x.length) most
      have ll : (ls1 ++ ls2 ++ ls3 ++ W.ps.map fun p => pline p.1 p.2).length ≤ 40 := by
        rw [List.length_append, List.length_append, List.length_append, List.length_map]
        omega
      rw [show (Str.ofString "\n").length = 1 by decide +kernel]
      have sm : ((ls1 ++ ls2 ++ ls3 ++ W.ps.map fun p => pline p.1 p.2).map fun x => x.length).sum ≤ (ls1 ++ ls2 ++ ls3 ++ W.ps.map fun p => pline p.1 p.2).length * 400 := sm
      omega
    · have z := q _ x7
      unfold wtext wlines at z
      rw [hls1, hls2, hls3] at z
      exact z
end
end LJ
set_option Elab.async false
set_option linter.all false
set_option maxRecDepth 100000
set_option maxHeartbeats 8000000
namespace LJ
open PySem PySem.Spec L2
/-! read_number: the number that a word writes. -/
abbrev sNum : Stmt := top 6
def dgt (c : Nat) : Bool := decide (48 ≤ c) && decide (c ≤ 57)
/-- digits without needless zeros -/
def rdOk (z : Str) : Bool := decide (1 ≤ z.length) && (!(decide (z.cps.toList[0]? = some 48) && !decide (z = Str.ofString "0")) && z.cps.toList.all dgt)
def rdN (z : Str) : Option Int := if rdOk z = true then some (NumText.digitsVal z.cps.toList : Nat) else none
def optI : Option Int → V
  | some i => .int i
  | none => .non
def spNum : Sp := fun vs H Q _ => ∃ z : Str, vs = [.str z] ∧ z.length ≤ 600 ∧ ∀ H1, Ex H H1 → Q (optI (rdN z)) H1
theorem str1_eq {c : Nat} {z : Str} (h : z = ⟨#[c]⟩) (d : Nat) : (V.str z = V.str ⟨#[d]⟩) ↔ c = d := by
  subst h
  constructor
  · intro e
    cases e
    rfl
  · rintro rfl
    rfl
theorem rd_first {σ : L2.St} {H : Hp} {Qb : Bool → Hp → Prop} {z : Str} (h : σ[0]? = some (some (.str z))) (l1 : 1 ≤ z.length) (l : z.length ≤ 600) (q : Qb (decide (z.cps.toList[0]? = some 48) && !decide (z = Str.ofString "0")) H) :
    tAnd (tTest (tOp rEq (tOp rIxS (tVar 0) (tC (V.int 0))) (tC (V.str (Str.ofString "0"))))) (tTest (tOp rNe (tVar 0) (tC (V.str (Str.ofString "0"))))) σ H Qb := by
  have zsz : z.cps.toList.length = z.length := rfl
  obtain ⟨c, hc⟩ : ∃ c, z.cps.toList[0]? = some c := ⟨_, List.getElem?_eq_getElem (by omega)⟩
  refine ⟨_, h, z, 0, c, rfl, rfl, by rw [sizeLine_eq]; omega, atI_nat (j := 0) hc, rfl, _, rfl, ?_⟩
  have e : decide (V.str ⟨#[c]⟩ = V.str (Str.ofString "0")) = decide (z.cps.toList[0]? = some 48) := by
    have e1 : Str.ofString "0" = ⟨#[48]⟩ := by decide +kernel
    rw [hc, e1]
    exact decide_eq_decide.mpr ((str1_eq rfl 48).trans ⟨fun z => by rw [z], fun z => Option.some.inj z⟩)
  rw [e]
  refine ite2 (fun k1 => ?_) (fun k1 => ?_)
  · refine ⟨_, h, rfl, _, rfl, ?_⟩
    rw [k1, Bool.true_and] at q
    have e2 : decide (V.str z = V.str (Str.ofString "0")) = decide (z = Str.ofString "0") := decide_eq_decide.mpr ⟨fun e => V.str.inj e, fun e => by rw [e]⟩
    rw [e2]
    exact q
  · rw [Bool.eq_false_iff.mpr k1, Bool.false_and] at q
    exact q
section
variable {P : Program} {w : World} {K : PySem.W.Frag} {mg : Str → Option Value} {base : Heap}
theorem scNum : FnScope ["word", "digit"] ["word"] (defScope sNum) := ⟨rfl, rfl, rfl, by decide +kernel, rfl, by decide +kernel, by decide +kernel⟩
theorem ok_num {f : Addr} {fd : FuncData} {uL : Value} (F : Fun K "read_number" "read_number" sNum f fd) (B : BltI mg) (mL : mg "_MOST_DIGITS" = some uL) (rL : RelV (.int 4000) uL) : FnOk P w K mg base CX0 1 f fd ["word"] spNum := by
  refine F.ok scNum (fun vs H Q E h => ?_) (fun cdv A outer s H vs Q E hr h => ?_)
  · obtain ⟨z, rfl, _⟩ := h
    rfl
  · obtain ⟨z, rfl, zl, q⟩ := h
    refine ⟨_, pss_cons (ps_if (PW.pt (pw_or (pt_not (pt_chain op_le op_le pe_int (pe_callB call_len_str (by rfl) B.len (by decide +kernel) (pa_cons (pv 0) pa_nil)) (pe_glob (by rfl) mL rL)))
        (pw_or1 (PW.pt (pw_and (pt_cmpR op_eq (pe_ix ix_str (pv 0) pe_int (fun _ _ => rfl)) pe_str (nomark _)) (pw_and1 (pt_cmpR op_ne (pv 0) pe_str (nomark _)))))))) (pss_one (ps_ret pe_non)) pss_nil)
      (pss_cons (ps_if (pt_not (pt_truth (pe_callB (cr_all (by rfl)) (by rfl) B.all (by decide +kernel) (pa_cons (pe_lc (own := [("digit", 1)]) (g := gName 1) (by rfl) scNum.nd (pi_str (pv 0)) (blkOk_by (own := [("digit", 1)]) (N := ["word", "digit"]) (sc := defScope sNum) (by decide +kernel)) (fun _ _ _ _ _ => pg_name scNum.nd rfl (Or.inl rfl)) (fun _ _ _ _ _ => pts_nil) (fun _ _ _ _ _ => pe_chain op_le_str op_le_str pe_str (pv 1) pe_str)) pa_nil)) (fun _ => rfl))) (pss_one (ps_ret pe_non)) pss_nil)
      (pss_one (ps_ret (pe_callTy call_int_str (by rfl) B.int (by decide +kernel) (pa_cons (pv 0) pa_nil))))), ?_⟩
    have big : (600 : Nat) < sizeLine := by
      rw [sizeLine_eq]
      decide
    have zsz : z.cps.toList.length = z.length := rfl
    have none_ : rdOk z = false → Q .non H := fun e => by
      have h := q H Ex.refl
      unfold rdN at h
      rw [if_neg (by rw [e]; decide)] at h
      exact h
    refine ⟨_, rfl, z, rfl, by omega, 1, z.length, rfl, rfl, _, rfl, ?_⟩
    refine ite2 (fun c1 => ?_) (fun c1 => ?_)
    · have l1 : (1 : Int) ≤ z.length := of_decide_eq_true c1
      refine ⟨_, _, rfl, rfl, _, rfl, ?_⟩
      rw [decide_eq_true (show (z.length : Int) ≤ 4000 by omega)]
      refine rd_first (z := z) rfl (by omega) zl ?_
      refine ite2 (fun k1 => ?_) (fun k1 => ?_)
      · refine none_ ?_
        unfold rdOk
        rw [k1]
        simp
      · have k2 := Bool.eq_false_iff.mpr k1
        refine ⟨_, rfl, z, rfl, fun D hD => lc_it walk_str (fun n H2 => Ex H H2 ∧ H2 D = some (.lst (((z.cps.toList.take n).map dgt).map V.bl))) ⟨Ex.refl.new hD, upd_same⟩ (fun _ _ _ _ => True.intro) ?_ ?_⟩
        · rintro i y _ H2 hi ⟨x2, e2⟩ ⟨rfl, c, hc, rfl⟩
          refine ⟨rfl, ?_⟩
          have hc2 : z.cps.toList[i]? = some c := by rw [Array.getElem?_toList]; exact hc
          have done : ∃ acc, H2 D = some (.lst acc) ∧ acc.length < sizeLine ∧ Ex H (upd H2 D (.lst (acc ++ [.bl (dgt c)]))) ∧ (upd H2 D (.lst (acc ++ [.bl (dgt c)]))) D = some (.lst (((z.cps.toList.take (i + 1)).map dgt).map V.bl)) := by
            refine ⟨_, e2, ?_, x2.put hD, ?_⟩
            · rw [List.length_map, List.length_map, List.length_take]
              omega
            · rw [upd_same, List.take_succ, hc2, List.map_append, List.map_append]
              rfl
          refine ⟨_, rfl, _, _, rfl, rfl, _, rfl, ?_⟩
          rw [show (!decide ((⟨#[c]⟩ : Str).cps.toList < (Str.ofString "0").cps.toList)) = decide (48 ≤ c) from le_one 48 c]
          refine ite2 (fun k1 => ?_) (fun k1 => ?_)
          · refine ⟨_, _, rfl, rfl, ?_⟩
            rw [show (!decide ((Str.ofString "9").cps.toList < (⟨#[c]⟩ : Str).cps.toList)) = decide (c ≤ 57) from le_one c 57]
            have e : dgt c = decide (c ≤ 57) := by
              unfold dgt
              rw [k1, Bool.true_and]
            rw [← e]
            exact done
          · have e : dgt c = false := by
              unfold dgt
              rw [Bool.eq_false_iff.mpr k1, Bool.false_and]
            rw [e] at done
            exact done
        · rintro H2 ⟨x2, e2⟩
          refine ⟨D, _, rfl, SqL.of e2, _, rfl, ?_⟩
          have ea : (((z.cps.toList.take z.cps.size).map dgt).all id) = z.cps.toList.all dgt := by
            rw [List.take_of_length_le (by rw [Array.length_toList]; exact Nat.le_refl _), List.all_map]
            rfl
          rw [ea]
          have re : rdOk z = z.cps.toList.all dgt := by
            unfold rdOk
            rw [k2, decide_eq_true (p := 1 ≤ z.length) (by omega)]
            simp
          refine ite2 (fun k3 => ?_) (fun k3 => ?_)
          · have h := q H2 x2
            unfold rdN at h
            rw [re, if_neg (by intro y; rw [y] at k3; cases k3)] at h
            exact h
          · have k4 : z.cps.toList.all dgt = true := by
              cases e : z.cps.toList.all dgt with
              | true => rfl
              | false => rw [e] at k3; exact absurd rfl k3
            have h := q H2 x2
            unfold rdN at h
            rw [re, if_pos k4] at h
            refine ⟨_, rfl, z, _, rfl, intText_digits (fun c hc => ?_) (fun y => ?_) (by omega), by omega, h⟩
            · have := List.all_eq_true.mp k4 c hc
              unfold dgt at this
              rw [Bool.and_eq_true, decide_eq_true_eq, decide_eq_true_eq] at this
              exact this
            · rw [y] at zsz
              simp at zsz
              omega
    · have l1 : ¬ (1 : Int) ≤ z.length := fun w => c1 (decide_eq_true w)
      refine ⟨_, rfl, ?_⟩
      refine none_ ?_
      unfold rdOk
      rw [decide_eq_false (p := 1 ≤ z.length) (by omega)]
      rfl
end
end LJ
set_option Elab.async false
set_option linter.all false
set_option maxRecDepth 100000
set_option maxHeartbeats 8000000
namespace LJ
open PySem PySem.Spec L2
/-! What lines and words of told works are. -/
theorem tl_num {i : Int} (h0 : 0 ≤ i) : TL.tl (num i) = TL.numL i.toNat := by
  obtain ⟨n, rfl⟩ := Int.eq_ofNat_of_zero_le h0
  unfold num TL.numL
  rw [TL.tl_ofString]
  congr 1
  show (toString (n : Int)).toList = _
  have e : (toString (n : Int)) = Nat.repr n := rfl
  rw [e]
  unfold Nat.repr
  simp
theorem num_head {n : Nat} (h : 1 ≤ n) : (TL.numL n)[0]? ≠ some 48 := by
  induction n using Nat.strongRecOn with
  | _ n ih =>
    by_cases lt : n < 10
    · rw [TL.numL_lt lt]
      intro z
      have z := Option.some.inj z
      omega
    · rw [TL.numL_step (by omega)]
      have h2 := ih (n / 10) (by omega) (by omega)
      have ne := TL.numL_ne (n / 10)
      rw [List.getElem?_append_left (by cases e : TL.numL (n / 10) with
        | nil => exact absurd e ne
        | cons _ _ => exact Nat.zero_lt_succ _)]
      exact h2
theorem rdN_num {i : Int} (h0 : 0 ≤ i) : rdN (num i) = some i := by
  have tl := tl_num h0
  have tl2 : (num i).cps.toList = TL.numL i.toNat := tl
  have ok : rdOk (num i) = true := by
    unfold rdOk
    have l1 : 1 ≤ (num i).length := by
      have : (num i).cps.toList.length = (num i).length := rfl
      rw [tl2] at this
      cases e : TL.numL i.toNat with
      | nil => exact absurd e (TL.numL_ne _)
      | cons a b =>
        rw [e] at this
        simp at this
        omega
    rw [decide_eq_true l1, Bool.true_and, tl2]
    have dg : (TL.numL i.toNat).all dgt = true := List.all_eq_true.mpr fun c hc => by
      have := TL.numL_digits i.toNat c hc
      unfold dgt
      rw [decide_eq_true this.1, decide_eq_true this.2]
      rfl
    rw [dg, Bool.and_true]
    by_cases z : i.toNat = 0
    · have : num i = Str.ofString "0" := by
        apply TL.ext_tl
        rw [tl, z]
        decide +kernel
      rw [decide_eq_true this]
      simp
    · rw [decide_eq_false (num_head (by omega))]
      rfl
  unfold rdN
  rw [if_pos ok, tl2, TL.numL_val]
  congr 1
  omega
/-- signs of a text -/
def Free (c : Nat) (z : Str) : Prop := c ∉ TL.tl z
theorem free_num {i : Int} (h0 : 0 ≤ i) {c : Nat} (h : c < 48 ∨ 57 < c) : Free c (num i) := by
  unfold Free
  rw [tl_num h0]
  exact TL.numL_free h
theorem free_name {z : Str} (h : isW z = true) {c : Nat} (hc : c < 97 ∨ 122 < c) : Free c z := by
  unfold isW at h
  rw [Bool.and_eq_true, Bool.and_eq_true] at h
  intro m
  have := List.all_eq_true.mp h.2.2 c m
  rw [Bool.and_eq_true, decide_eq_true_eq, decide_eq_true_eq] at this
  omega
theorem free_app {c : Nat} {x y : Str} (hx : Free c x) (hy : Free c y) : Free c (x ++ y) := by
  unfold Free
  rw [TL.tl_append]
  exact fun m => (List.mem_append.mp m).elim hx hy
theorem split_at {c : Nat} {sep : Str} (hs : TL.tl sep = [c]) (h256 : c < 256) {ys : List Str} (ne : ys ≠ []) (h : ∀ y ∈ ys, Free c y) : Txt.split (Txt.join sep ys) sep = ys :=
  TL.split_join hs (by
    have e : sep = ⟨#[c]⟩ := TL.ext_tl hs
    rw [e]
    simpa using h256) ne h
theorem tl_join2 (sep : Str) : ∀ (ys : List Str), TL.tl (Txt.join sep ys) = TL.joinL (TL.tl sep) (ys.map TL.tl) := fun ys => by
  rw [TL.join_eq, TL.tl_join]
theorem tl_sp1 : TL.tl sp1 = [32] := by decide +kernel
theorem tl_nl : TL.tl (Str.ofString "\n") = [10] := by decide +kernel
theorem tl_hy : TL.tl (Str.ofString "-") = [45] := by decide +kernel
def kM : Str := Str.ofString "machine"
def kC : Str := Str.ofString "cleaning"
def kS : Str := Str.ofString "stuff"
def kP : Str := Str.ofString "product"
theorem tl_empty : TL.tl Str.empty = [] := rfl
theorem line3_join {pre k : Str} (h : TL.tl pre = TL.tl k ++ [32]) (r : Str × Int × Int) : line3 pre r = Txt.join sp1 [k, r.1, num r.2.1, num r.2.2] := by
  apply TL.ext_tl
  rw [tl_join2]
  unfold line3
  simp only [TL.tl_append, h, tl_sp1, tl_empty, List.map, TL.joinL, List.nil_append, List.append_assoc, List.cons_append]
theorem line2_join {pre k : Str} (h : TL.tl pre = TL.tl k ++ [32]) (r : Str × Int) : line2 pre r = Txt.join sp1 [k, r.1, num r.2] := by
  apply TL.ext_tl
  rw [tl_join2]
  unfold line2
  simp only [TL.tl_append, h, tl_sp1, tl_empty, List.map, TL.joinL, List.nil_append, List.append_assoc, List.cons_append]
/-- the word of a pair of bounds -/
def bword (b : Int × Int) : Str := num b.1 ++ Str.ofString "-" ++ num b.2
theorem bword_join (b : Int × Int) : bword b = Txt.join (Str.ofString "-") [num b.1, num b.2] := by
  apply TL.ext_tl
  rw [tl_join2]
  unfold bword
  simp only [TL.tl_append, List.map, TL.joinL, List.nil_append, List.append_assoc, List.cons_append]
theorem join_nil_sep : ∀ ys : List Str, TL.tl (Txt.join (Str.ofString "") ys) = (ys.map TL.tl).flatten
  | [] => by decide +kernel
  | [y] => by
    rw [tl_join2]
    simp only [List.map, TL.joinL]
    simp
  | y :: z :: r => by
    have ih := join_nil_sep (z :: r)
    rw [tl_join2] at ih ⊢
    simp only [List.map, TL.joinL] at ih ⊢
    rw [ih, show TL.tl (Str.ofString "") = [] from by decide +kernel]
    simp
theorem joinL_sp : ∀ (x : List Nat) (ys : List (List Nat)), TL.joinL [32] (x :: ys) = x ++ (ys.map fun y => 32 :: y).flatten
  | x, [] => by simp [TL.joinL]
  | x, y :: r => by
    have ih := joinL_sp y r
    simp only [TL.joinL] at ih ⊢
    rw [ih]
    simp
theorem pline_join (n : Str) (bs : List (Int × Int)) : pline n bs = Txt.join sp1 (kP :: n :: bs.map bword) := by
  apply TL.ext_tl
  rw [tl_join2]
  unfold pline
  rw [TL.tl_append, TL.tl_append, TL.tl_append, join_nil_sep, tl_empty, tl_sp1, List.map_cons, joinL_sp, List.map_cons, List.map_cons, List.flatten_cons,
    show TL.tl (Str.ofString "product ") = TL.tl kP ++ [32] from by decide +kernel]
  rw [List.map_map, List.map_map, List.map_map]
  have e : (bs.map (TL.tl ∘ bline)) = bs.map ((fun y => 32 :: y) ∘ (TL.tl ∘ bword)) := by
    apply List.map_congr_left
    intro b _
    show TL.tl (bline b) = 32 :: TL.tl (bword b)
    unfold bline bword
    simp only [TL.tl_append, tl_empty, show TL.tl (Str.ofString " ") = [32] from by decide +kernel, List.nil_append, List.append_assoc, List.cons_append]
  rw [e]
  simp
  rfl
/-- works as they may be, of any size that is let -/
structure GoodF (W : Wd) : Prop where
  m1 : 1 ≤ W.ms.length
  m2 : W.ms.length ≤ 6
  c2 : W.cs.length ≤ 6
  s1 : 1 ≤ W.ss.length
  s2 : W.ss.length ≤ 3
  p1 : 1 ≤ W.ps.length
  p2 : W.ps.length ≤ 8
  mb : ∀ r ∈ W.ms, 0 ≤ r.2.1 ∧ r.2.1 ≤ r.2.2 ∧ r.2.2 ≤ 1000
  cb : ∀ r ∈ W.cs, 0 ≤ r.2.1 ∧ r.2.1 ≤ r.2.2 ∧ r.2.2 ≤ 1000
  sb : ∀ r ∈ W.ss, 0 ≤ r.2 ∧ r.2 ≤ 1000000000000
  pb : ∀ r ∈ W.ps, r.2.length = W.ss.length ∧ ∀ b ∈ r.2, 0 ≤ b.1 ∧ b.1 ≤ b.2 ∧ b.2 ≤ 1000000000000
  nd : (W.ms.map (·.1) ++ (W.cs.map (·.1) ++ (W.ss.map (·.1) ++ W.ps.map (·.1)))).Nodup
  nm : ∀ x ∈ W.ms.map (·.1) ++ (W.cs.map (·.1) ++ (W.ss.map (·.1) ++ W.ps.map (·.1))), isW x = true
theorem isW_8 {x : Str} (h : isW x = true) : x.length ≤ 8 := by
  unfold isW at h
  rw [Bool.and_eq_true, Bool.and_eq_true, decide_eq_true_eq, decide_eq_true_eq] at h
  exact h.2.1
namespace GoodF
variable {W : Wd} (g : GoodF W)
include g
theorem wm {r : Str × Int × Int} (h : r ∈ W.ms) : isW r.1 = true := g.nm _ (List.mem_append_left _ (List.mem_map_of_mem h))
theorem wc {r : Str × Int × Int} (h : r ∈ W.cs) : isW r.1 = true := g.nm _ (List.mem_append_right _ (List.mem_append_left _ (List.mem_map_of_mem h)))
theorem ws {r : Str × Int} (h : r ∈ W.ss) : isW r.1 = true := g.nm _ (List.mem_append_right _ (List.mem_append_right _ (List.mem_append_left _ (List.mem_map_of_mem h))))
theorem wp {r : Str × List (Int × Int)} (h : r ∈ W.ps) : isW r.1 = true := g.nm _ (List.mem_append_right _ (List.mem_append_right _ (List.mem_append_right _ (List.mem_map_of_mem h))))
end GoodF
theorem free_join {c : Nat} {sep : Str} (hs : Free c sep) : ∀ {ys : List Str}, (∀ y ∈ ys, Free c y) → Free c (Txt.join sep ys)
  | [], _ => by
    unfold Free
    rw [tl_join2]
    simp [TL.joinL]
  | [y], h => by
    have := h y (List.mem_cons_self ..)
    unfold Free at this ⊢
    rw [tl_join2]
    simpa [TL.joinL] using this
  | y :: z :: r, h => by
    have ih := free_join hs (ys := z :: r) fun x hx => h x (List.mem_cons_of_mem _ hx)
    have hy := h y (List.mem_cons_self ..)
    unfold Free at ih hy hs ⊢
    rw [tl_join2] at ih ⊢
    simp only [List.map, TL.joinL] at ih ⊢
    intro m
    rcases List.mem_append.mp m with m | m
    · exact hy m
    · rcases List.mem_append.mp m with m | m
      · exact hs m
      · exact ih m
theorem kM_pre : TL.tl (Str.ofString "machine ") = TL.tl kM ++ [32] := by decide +kernel
theorem kC_pre : TL.tl (Str.ofString "cleaning ") = TL.tl kC ++ [32] := by decide +kernel
theorem kS_pre : TL.tl (Str.ofString "stuff ") = TL.tl kS ++ [32] := by decide +kernel
theorem k_free {c : Nat} (h : c < 97 ∨ 122 < c) {k : Str} (hk : k = kM ∨ k = kC ∨ k = kS ∨ k = kP) : Free c k := by
  rcases hk with rfl | rfl | rfl | rfl <;> exact free_name (by decide +kernel) h
/-- the words of the lines -/
def wordsM (k : Str) (r : Str × Int × Int) : List Str := [r.1, num r.2.1, num r.2.2]
def wordsS (r : Str × Int) : List Str := [r.1, num r.2]
def wordsP (r : Str × List (Int × Int)) : List Str := r.1 :: r.2.map bword
theorem bword_free {b : Int × Int} (h : Small b) {c : Nat} (hc : c < 45 ∨ 57 < c) : Free c (bword b) := by
  obtain ⟨s1, s2, s3⟩ := h
  refine free_app (free_app (free_num s1 (by omega)) ?_) (free_num (Int.le_trans s1 s2) (by omega))
  unfold Free
  rw [tl_hy]
  intro m
  have := List.mem_singleton.mp m
  omega
theorem wordsM_free {k : Str} {r : Str × Int × Int} (w : isW r.1 = true) (b : 0 ≤ r.2.1 ∧ r.2.1 ≤ r.2.2 ∧ r.2.2 ≤ 1000) {c : Nat} (hc : c < 48) : ∀ y ∈ wordsM k r, Free c y := by
  intro y hy
  unfold wordsM at hy
  simp only [List.mem_cons, List.not_mem_nil, or_false] at hy
  rcases hy with rfl | rfl | rfl
  · exact free_name w (by omega)
  · exact free_num b.1 (by omega)
  · exact free_num (by omega) (by omega)
theorem wordsS_free {r : Str × Int} (w : isW r.1 = true) (b : 0 ≤ r.2) {c : Nat} (hc : c < 48) : ∀ y ∈ wordsS r, Free c y := by
  intro y hy
  unfold wordsS at hy
  simp only [List.mem_cons, List.not_mem_nil, or_false] at hy
  rcases hy with rfl | rfl
  · exact free_name w (by omega)
  · exact free_num b (by omega)
theorem wordsP_free {r : Str × List (Int × Int)} (w : isW r.1 = true) (b : ∀ x ∈ r.2, Small x) {c : Nat} (hc : c < 45) : ∀ y ∈ wordsP r, Free c y := by
  intro y hy
  unfold wordsP at hy
  rcases List.mem_cons.mp hy with rfl | hy
  · exact free_name w (by omega)
  · obtain ⟨x, hx, rfl⟩ := List.mem_map.mp hy
    exact bword_free (b x hx) (by omega)
theorem sp1_free {c : Nat} (h : c ≠ 32) : Free c sp1 := by
  unfold Free
  rw [tl_sp1]
  exact fun m => h (List.mem_singleton.mp m)
theorem free_cons {c : Nat} {k : Str} {ws : List Str} (hk : Free c k) (h : ∀ y ∈ ws, Free c y) : ∀ y ∈ k :: ws, Free c y := fun y hy => by
  rcases List.mem_cons.mp hy with rfl | hy
  · exact hk
  · exact h y hy
theorem wlines_free {W : Wd} (g : GoodF W) : ∀ y ∈ wlines W, Free 10 y := by
  intro y hy
  unfold wlines at hy
  rcases List.mem_append.mp hy with hy | hy
  · rcases List.mem_append.mp hy with hy | hy
    · rcases List.mem_append.mp hy with hy | hy
      · obtain ⟨r, hr, rfl⟩ := List.mem_map.mp hy
        rw [line3_join kM_pre]
        exact free_join (sp1_free (by decide)) (free_cons (k_free (by omega) (.inl rfl)) (wordsM_free (k := kM) (g.wm hr) (g.mb r hr) (by omega)))
      · obtain ⟨r, hr, rfl⟩ := List.mem_map.mp hy
        rw [line3_join kC_pre]
        exact free_join (sp1_free (by decide)) (free_cons (k_free (by omega) (.inr (.inl rfl))) (wordsM_free (k := kC) (g.wc hr) (g.cb r hr) (by omega)))
    · obtain ⟨r, hr, rfl⟩ := List.mem_map.mp hy
      rw [line2_join kS_pre]
      exact free_join (sp1_free (by decide)) (free_cons (k_free (by omega) (.inr (.inr (.inl rfl)))) (wordsS_free (g.ws hr) (g.sb r hr).1 (by omega)))
  · obtain ⟨r, hr, rfl⟩ := List.mem_map.mp hy
    rw [pline_join]
    exact free_join (sp1_free (by decide)) (free_cons (k_free (by omega) (.inr (.inr (.inr rfl)))) (wordsP_free (g.wp hr) (g.pb r hr).2 (by omega)))
theorem split_text {W : Wd} (g : GoodF W) : Txt.split (wtext W) (Str.ofString "\n") = wlines W := by
  unfold wtext
  refine split_at tl_nl (by decide) (fun z => ?_) (wlines_free g)
  have l := g.m1
  have e := congrArg List.length z
  unfold wlines at e
  rw [List.length_append, List.length_append, List.length_append, List.length_map, List.length_nil] at e
  omega
theorem split_line {k : Str} {ws : List Str} (hk : k = kM ∨ k = kC ∨ k = kS ∨ k = kP) (h : ∀ y ∈ ws, Free 32 y) : Txt.split (Txt.join sp1 (k :: ws)) sp1 = k :: ws :=
  split_at tl_sp1 (by decide) (by simp) (free_cons (k_free (by omega) hk) h)
theorem split_bword {b : Int × Int} (h : Small b) : Txt.split (bword b) (Str.ofString "-") = [num b.1, num b.2] := by
  obtain ⟨s1, s2, s3⟩ := h
  rw [bword_join]
  refine split_at tl_hy (by decide) (by simp) fun y hy => ?_
  simp only [List.mem_cons, List.not_mem_nil, or_false] at hy
  rcases hy with rfl | rfl
  · exact free_num s1 (by omega)
  · exact free_num (Int.le_trans s1 s2) (by omega)
end LJ
set_option Elab.async false
set_option linter.all false
set_option maxRecDepth 100000
set_option maxHeartbeats 4000000
/-! Own errors over any base: raised; methods called by keywords; a lambda called in a try. -/
namespace L2
open PySem PySem.Spec PyProof.Rows PySem.ErrV
section
variable {X : Cx} {C fI : Addr} {x f : Str} {B nw ini : String} {bmB : List Value} {a : Expr} {p pos : Pos} {ta : TA}
/-- C(e), to be raised -/
def tMkE (C : Addr) (f : Str) (ta : TA) : St → Hp → XK → Prop := fun σ H Q => ta σ H fun vs H1 => ∃ v, vs = [v] ∧ ∀ d, H1 d = none → Q (.ref C) (some d) (upd H1 d (.xd [(f, v)]))
theorem pmk_err (hf : f = "given" ∨ f = "index") (T : ErrC X.K X.mg x f C fI nw bmB) (Bo : BaseOk B nw ini bmB) (exC : PySem.W.subIn X.K (.ref C) (.type "BaseException") = some true) (tyC : PySem.W.typeIn X.K (.ref C) = some (.type "type"))
    (hr : Room 1 X.A) (ha : PA X [a] ta) (hg : Gl X x) (hdb : (x == ("__debug__" : Str)) = false := by decide)
    (he : starEach (a :: []) X.env = (false, eval a X.env) :: starEach [] X.env := by rfl) (hpl : (backTo pos (starEach [] X.env)).any (·.1) = false := by rfl) :
    PMk X (.Call (.Name x p) [a] [] pos) (tMkE C f ta) := by
  intro pins s σ H Q I h
  refine wpAny_Call_Name_kw (ld_glob I hg T.gC ?_ hdb)
  refine PySem.W.callWith_K (h₀ := X.base) I.ok.mod.kin T.kC (thn (ha.run pos pins s σ H _ I h) fun us s1 hh => ?_) he hpl
  obtain ⟨vs, H1, I1, r1, v, ev, q1⟩ := hh
  subst ev
  refine ⟨I1.kIn, ?_⟩
  cases r1 with
  | cons rv rn =>
    rename_i u us
    cases rn
    show wpAny _ _ (call (.ref C) [u]) _ _ _
    have lim := I1.nolimit
    obtain ⟨hp, g, dr, tk, os⟩ := s1
    refine wpAny_call (err_made hf T Bo (v := u) (.inl ⟨rfl, rfl⟩) I1.kIn lim (by have := hr.dp; omega) fun h1 tk1 e d M => ?_)
    show MkP X pins σ Q (.ref e) ⟨h1, g, dr, tk1, os⟩
    obtain ⟨uo, hoe⟩ := M.obj
    have hns := M.ns
    obtain ⟨G1, g1, g2⟩ := restrict h1 fun b => decide (b ≠ e)
    have gk : ∀ b, b ≠ e → G1.get? b = h1.get? b := fun b hb => g1 b (decide_eq_true hb)
    have ge : G1.get? e = none := g2 e (by simp)
    have old : ∀ b o, hp.get? b = some o → G1.get? b = some o := fun b o q => (gk b (Nat.ne_of_lt (Nat.lt_of_lt_of_le (Heap.lt_size q) M.big))).trans (M.keep b o q)
    have ob : ObjOk X.prog X.w (upd H1 d (.xd [(f, v)])) G1 d (.xd [(f, v)]) :=
      ⟨_, hns.at (fun o q => (gk d M.ne).trans q), relO_put (fs := []) rv fun g => True.intro⟩
    have J : Inv X pins σ (upd H1 d (.xd [(f, v)])) ⟨G1, g, dr, tk1, os⟩ := I1.laid (t' := tk1) old M.dbig ob
    refine ⟨e, _, _, ⟨G1, g, dr, tk1, os⟩, _, .ref C, some d, rfl, J, fun b o q => ?_, ge, hoe, ⟨rfl, rfl⟩, rfl, rfl, ?_, rfl, I1.bare, raises_own exC tyC, q1 d (I1.hok.fresh M.dbig)⟩
    · by_cases hb : b = e
      · have q2 : G1.get? b = some o := q
        rw [hb, ge] at q2
        cases q2
      · exact (gk b hb).symm.trans q
    · rw [upd_ne (Ne.symm M.ne)]
      exact I1.hok.fresh M.big
/-- raise C(e) -/
theorem ps_raiseE {W : WX} {pos2 : Pos} (hc : X.calm = true) (hf : f = "given" ∨ f = "index") (T : ErrC X.K X.mg x f C fI nw bmB) (Bo : BaseOk B nw ini bmB) (exC : PySem.W.subIn X.K (.ref C) (.type "BaseException") = some true) (tyC : PySem.W.typeIn X.K (.ref C) = some (.type "type"))
    (hr : Room 1 X.A) (tk : Takes X W) (ha : PA X [a] ta) (hg : Gl X x) (hdb : (x == ("__debug__" : Str)) = false := by decide)
    (he : starEach (a :: []) X.env = (false, eval a X.env) :: starEach [] X.env := by rfl) (hpl : (backTo pos (starEach [] X.env)).any (·.1) = false := by rfl) :
    PS X (.Raise (some (.Call (.Name x p) [a] [] pos)) none pos2) (fun _ σ H => tMkE C f ta σ H fun cls d H1 => W cls d σ H1) := ps_raise hc tk (pmk_err hf T Bo exC tyC hr ha hg hdb he hpl)
end
/-! ### o.m(k = v, ..) -/
/-- by keywords alone: gV tells how the parameters behind the object are filled from the keywords' values -/
def tMethK (C : Addr) (m : Str) (sp : Sp) (n : Nat) (gV : List V → List V → List V) (E : XK) (ta : TE) (t : TA) : TE := fun σ H Q => ta σ H fun x H1 => ∃ a dx fs, x = .ref a ∧ H1 a = some (.ins C dx fs) ∧ fs.lookup m = none ∧
  t σ H1 fun zs H2 => zs.length = n ∧ sp (gV [x] zs) H2 Q E
section
variable {X : Cx} {CX : CXT} {k : Nat} {f C : Addr} {fd : FuncData} {ps ks : List Str} {sp : Sp} {E : XK} {m : Str} {pos apos : Pos} {o : Expr} {kws : List Keyword} {ta : TE} {tk : TA} {g : List Value → List Value → List Value} {gV : List V → List V → List V}
theorem pe_methK {pl : Sem Bool} (he : PE X o ta) (c : Cls X.K C) (hm : Meth X.K C m f) (F : FnOk X.prog X.w X.K X.mg X.base CX k f fd ps sp) (hr : Room k X.A) (hb : KBn X.K fd ps 1 ks g gV) (hx : Passes CX X E) (hkw : PK X kws tk)
    (hall : (backToKw pos (keywordEach kws X.env)).all (·.1.isSome) = true := by rfl) (hks : (backToKw pos (keywordEach kws X.env)).filterMap (·.1) = ks := by rfl)
    (hpl : ((backTo pos (starEach [] X.env)).any (·.1) || (backToKw pos (keywordEach kws X.env)).any (·.1.isNone)) = false := by rfl)
    (ht : eval (.Call (.Attribute o m apos) [] kws pos) X.env = (do
      let ov ← eval o X.env
      standAt apos.atName
      let (f, first) ← holding [ov] (getMethod ov m pl)
      callWith pos f first (backTo pos (starEach [] X.env)) (backToKw pos (keywordEach kws X.env))) := by rfl) :
    PE X (.Call (.Attribute o m apos) [] kws pos) (tMethK C m sp ks.length gV E ta tk) := by
  refine ⟨fun pins s σ H Q I h => ?_⟩
  refine PySem.W.methodCall_KW (pl := pl) (thn (he.run pins s σ H _ I h) fun u s1 ⟨x, H1, I1, rx, a, dx, fs, ex, ea, l, q⟩ => ?_) ht
  subst ex
  obtain rfl : u = Value.ref a := rx
  refine getmeth_ok I1 ea c hm l ?_
  refine PySem.W.callWith_KW0 (first := [.ref a]) (h₀ := X.base) I.ok.mod.kin hm.kp hall ?_ hpl
  refine thn (hkw.run pos pins s1 σ H1 _ I1 q) fun ws s2 ⟨zs, H2, I2, rz, l2, q2⟩ => ⟨I2.kIn, ?_⟩
  rw [hks]
  show wpAny _ _ (call (.ref f) [.ref a] (ks.zip ws)) _ _ _
  have e2 : ws.length = ks.length := rz.length.symm.trans l2
  have r1 : Vals [V.ref a] [Value.ref a] := .cons rfl .nil
  refine wpAny_call (codeAny_mono (F.run X.A X.stack s2 H2 ⟨[.ref a], ks.zip ws⟩ (g [.ref a] ws) (gV [.ref a] zs) Q E hr I2.env0 (hb.to s2 [.ref a] ws I2.kIn rfl e2) (hb.rel r1 rz) q2) fun r s3 hq => ?_)
  cases r with
  | error e => exact hx pins σ H2 s2 e s3 I2 hq
  | ok fl =>
    cases fl with
    | ret u => exact I2.after hq
    | next => exact False.elim hq
    | brk => exact False.elim hq
    | cont => exact False.elim hq
end
end L2
namespace LamV
open PySem PySem.Spec PyProof.Rows L2
open LamX (CodeO ExtN TabB)
open NdefX (NF NTab TabN TabsN CellsAt NScope startF ncx envF)
section
variable {Y : Cx} {pins : List (Addr × Obj)} {σ : L2.St} {H : Hp} {s : Shared} {f : Addr} {F : NF} {body : Expr} {fr : List Str} {ws : List (Option V)}
variable {CX : CXT} {n i j k : Nat} {x : Str} {sp : List (Option V) → Sp} {E : L2.St → XK} {t : TA} {e : Expr} {es : List Expr} {p pos : Pos}
/-- the reading: slot i holds the lambda without parameters; what it raises is wished for at the slots -/
def tCallL0S (f : Addr) (F : NF) (body : Expr) (i : Nat) (ws : List (Option V)) (sp : List (Option V) → Sp) (E : L2.St → XK) : TE := fun σ H Q =>
  (σ[i]? = some (some (.ref f)) ∧ H f = some (LnO f F body)) ∧ H F.c = some (CodeO F.c F.qual) ∧ sp ws [] H Q (E σ)
theorem pe_lact0S (G : LOk Y.prog Y.w Y.K Y.mg Y.base CX k f F body n fr sp) (C : CellsAt F.cl fr ws Y.s_0.heap Y.H_0) (ex : Y.ex = []) (room : Room j Y.A) (le : k ≤ j) (out : ∀ σ, PassesAt CX Y σ (E σ)) (slot : Y.N[i]? = some x) (vis : Vis Y.env.scope x)
    (d1 : (x == ("__debug__" : Str)) = false := by decide) (d2 : (x == ("__classdict__" : Str)) = false := by decide) :
    PE Y (.Call (.Name x p) [] [] pos) (tCallL0S f F body i ws sp E) := by
  constructor
  rintro pins s σ H Q I ⟨⟨hs, hf⟩, h2, q⟩
  apply wpAny_Call_Name_kw
  refine thn ((pe_var slot vis d1 d2).run pins s σ H (fun v H1 => v = .ref f ∧ H1 = H) I ⟨_, hs, rfl, rfl⟩) ?_
  rintro u s1 ⟨_, _, I1, ru, rfl, rfl⟩
  cases (show u = Value.ref f from ru)
  refine PySem.W.callWith_F0 (first := []) (fnAt I1 hf) ?_
  refine wpAny_call (codeAny_mono (G.call (room.mono le) I1.env0 ⟨hf, h2, cells_stay C ex I1⟩ .nil q) ?_)
  rintro (u | fl) s2 hq
  · exact out σ _ _ _ _ _ I1 hq
  · cases fl with
    | ret u => exact I1.after hq
    | _ => exact (hq : False).elim
end
end LamV
set_option Elab.async false
set_option linter.all false
set_option maxRecDepth 100000
set_option maxHeartbeats 8000000
namespace LJ
open PySem PySem.Spec L2
open LamX (ExtN TabB)
open NdefX (NTab TabsN)
def clsBody : Stmt → List Stmt
  | .ClassDef (body := b) .. => b
  | _ => []
def meth (i : Nat) : Stmt := (clsBody (top 23)).getD i (.Pass ⟨0, 0, 0, 0⟩)
abbrev sInit : Stmt := meth 0
abbrev nInit : List Str := ["self", "machines", "cleanings", "stuffs", "products", "name", "low", "high", "most", "contents"]
abbrev pInit : List Str := ["self", "machines", "cleanings", "stuffs", "products"]
/-- Works' own class -/
structure WCls (K : PySem.W.Frag) (C : Addr) : Prop where
  cl : Cls K C
  n1 : NoAttr K C "_machines"
  n2 : NoAttr K C "_cleanings"
  n3 : NoAttr K C "_stuffs"
  n4 : NoAttr K C "_products"
  n5 : NoAttr K C "_holds"
  n6 : NoAttr K C "_keeps"
  n7 : NoAttr K C "_limits"
  n8 : NoAttr K C "_contents"
  n9 : NoAttr K C "_text"
section
variable {P : Program} {w : World} {K : PySem.W.Frag} {mg : Str → Option Value} {base : Heap}
theorem scInit : FnScope nInit pInit (defScope sInit) := ⟨rfl, rfl, rfl, by decide +kernel, rfl, by decide +kernel, by decide +kernel⟩
/-- one name more -/
theorem under_snoc {ns : List Str} {vals : List V} {i : Nat} {n : Str} {v : V} (h : ns[i]? = some n) (l : vals.length = i) : under (ns.take (i + 1)) (vals ++ [v]) = under (ns.take i) vals ++ [(.inr n, v)] := by
  have li : i < ns.length := (List.getElem?_eq_some_iff.mp h).1
  unfold under
  rw [List.take_succ, h]
  show ((ns.take i ++ [n]).zip (vals ++ [v])).map _ = _
  rw [List.zip_append (by rw [List.length_take, l]; omega), List.map_append]
  rfl
/-- what a made object of Works holds -/
def WorksAt (C : Addr) (H : Hp) (x am ac as ap : Addr) (W : Wd) : Prop := ∃ (dx D1 D2 D3 D4 : Addr) (b1 b2 v4 : List V),
  H x = some (.ins C dx [("_machines", .ref am), ("_cleanings", .ref ac), ("_stuffs", .ref as), ("_products", .ref ap), ("_holds", .ref D1), ("_keeps", .ref D2), ("_limits", .ref D3), ("_contents", .ref D4), ("_text", .str (wtext W))]) ∧
  (H D1 = some (.dK (dictOf (W.ms.map (·.1)) b1)) ∧ Paired (Bnd H) b1 (W.ms.map (·.2))) ∧ (H D2 = some (.dK (dictOf (W.cs.map (·.1)) b2)) ∧ Paired (Bnd H) b2 (W.cs.map (·.2))) ∧ H D3 = some (.dK (dictOf (W.ss.map (·.1)) (W.ss.map fun r => .int r.2))) ∧
  H D4 = some (.dK (dictOf (W.ps.map (·.1)) v4)) ∧ Paired (fun v p => ∃ (Dp : Addr) (ys : List V), v = .ref Dp ∧ H Dp = some (.dK (dictOf (W.ss.map (·.1)) ys)) ∧ Paired (Bnd H) ys p.2) v4 W.ps
def spInit (K : PySem.W.Frag) (C : Addr) (T : List NTab) : Sp := fun vs H Q _ => ∃ (x dx am ac as ap : Addr) (vm vc vs2 vp : List V) (W : Wd), vs = [.ref x, .ref am, .ref ac, .ref as, .ref ap] ∧ H x = some (.ins C dx []) ∧ Fit K H am ac as ap vm vc vs2 vp ∧
  Paired (Row3 H) vm W.ms ∧ Paired (Row3 H) vc W.cs ∧ Paired (Row2 H) vs2 W.ss ∧ Paired (RowP H) vp W.ps ∧ Told W ∧ (∀ p ∈ W.ps, p.2.length = W.ss.length) ∧ TabsN T H ∧
  ∀ H1, (∀ b o, b ≠ x → H b = some o → (∀ ps, o ≠ .tbl ps) → H1 b = some o) → TabsN T H1 → WorksAt C H1 x am ac as ap W → Q .non H1
/-- all but the instance at x stays: so do tuples and tables -/
theorem But.tup {x C dx : Addr} {fs : List (Str × V)} {H H1 : Hp} (hx : H x = some (.ins C dx fs)) (b : But x H H1) : Tup H H1 := fun a xs e => b a _ (ne_of e hx fun z => nomatch z) e
theorem TabsN.but {T : List NTab} {x C dx : Addr} {fs : List (Str × V)} {H H1 : Hp} (hx : H x = some (.ins C dx fs)) (b : But x H H1) (t : TabsN T H) : TabsN T H1 := fun r hr => by
  obtain ⟨ps, h1, h2, h3⟩ := t r hr
  refine ⟨ps, b _ _ (ne_of h1 hx fun z => nomatch z) h1, h2, fun pos v hv => ?_⟩
  obtain ⟨c, e1, e2⟩ := h3 pos v hv
  exact ⟨c, e1, b _ _ (ne_of e2 hx fun z => nomatch (show HO.ext _ = HO.ins _ _ _ from z)) e2⟩
theorem But.ex {x : Addr} {H H1 : Hp} (e : Ex H H1) : But x H H1 := fun b o _ h => e b o h
theorem But.self {x : Addr} {H : Hp} {o : HO} : But x H (upd H x o) := fun b u n e => by
  rw [upd_ne n]
  exact e
theorem Ex.tup {H H1 : Hp} (e : Ex H H1) : Tup H H1 := fun a xs h => e a _ h
theorem rows3 {H H1 : Hp} (t : Tup H H1) {vs : List V} {rs : List (Str × Int × Int)} (p : Paired (Row3 H) vs rs) : Paired (Row3 H1) vs rs := L2.Paired.mapP p fun _ _ z => Row3.seq t z
theorem rows2 {H H1 : Hp} (t : Tup H H1) {vs : List V} {rs : List (Str × Int)} (p : Paired (Row2 H) vs rs) : Paired (Row2 H1) vs rs := L2.Paired.mapP p fun _ _ z => Row2.seq t z
theorem rowsP {H H1 : Hp} (t : Tup H H1) {vs : List V} {rs : List (Str × List (Int × Int))} (p : Paired (RowP H) vs rs) : Paired (RowP H1) vs rs := L2.Paired.mapP p fun _ _ z => RowP.seq t z
theorem bnds {H H1 : Hp} (t : Tup H H1) {vs : List V} {rs : List (Int × Int)} (p : Paired (Bnd H) vs rs) : Paired (Bnd H1) vs rs := L2.Paired.mapP p fun _ _ z => Bnd.seq t z
theorem paired_map {α β γ : Type} {F : α → γ → Prop} {g : β → γ} : ∀ {xs : List α} {ys : List β}, Paired (fun x y => F x (g y)) xs ys → Paired F xs (ys.map g)
  | _, _, .nil => .nil
  | _, _, .cons h t => .cons h (paired_map t)
/-- the contents of one product, by stuff; not the dict at D4 -/
def CBn (W : Wd) (D4 : Addr) (H : Hp) (v : V) (p : Str × List (Int × Int)) : Prop := ∃ (Dp : Addr) (ys : List V), v = .ref Dp ∧ Dp ≠ D4 ∧ H Dp = some (.dK (dictOf (W.ss.map (·.1)) ys)) ∧ Paired (Bnd H) ys p.2
theorem CBn.but {W : Wd} {D4 x C dx : Addr} {fs : List (Str × V)} {H H1 : Hp} {v : V} {p : Str × List (Int × Int)} (hx : H x = some (.ins C dx fs)) (b : But x H H1) (h : CBn W D4 H v p) : CBn W D4 H1 v p := by
  obtain ⟨D0, ys, e1, e2, e3, e4⟩ := h
  exact ⟨D0, ys, e1, e2, b _ _ (ne_of e3 hx fun z => nomatch z) e3, bnds (But.tup hx b) e4⟩
theorem ok_init {f fC fB fT C : Addr} {fd fdC fdB fdT : FuncData} {T : List NTab} (F : Fun K "__init__" "Works.__init__" sInit f fd) (c : WCls K C)
    (GC : FnOk P w K mg base CX0 6 fC fdC pCheck (spCheck K T)) (mC : mg "_check" = some (.ref fC)) (kC : PySem.W.keepIn K (.ref fC) = true) (bC : Binds K fdC pCheck [])
    (GB : FnOk P w K mg base CX0 1 fB fdB ["stuffs", "contents"] spBy) (mB : mg "_by_stuff" = some (.ref fB)) (kB : PySem.W.keepIn K (.ref fB) = true) (bB : Binds K fdB ["stuffs", "contents"] [])
    (GT : FnOk P w K mg base CX0 2 fT fdT ["machines", "cleanings", "stuffs", "products"] spText) (mT : mg "_text_of" = some (.ref fT)) (kT : PySem.W.keepIn K (.ref fT) = true) (bT : Binds K fdT ["machines", "cleanings", "stuffs", "products"] []) :
    FnOk P w K mg base CX0 7 f fd pInit (spInit K C T) := by
  refine F.ok scInit (fun vs H Q E h => ?_) (fun cdv A outer s H vs Q E hr h => ?_)
  · obtain ⟨x, dx, am, ac, as, ap, vm, vc, vs2, vp, W, rfl, _⟩ := h
    rfl
  · obtain ⟨x, dx, am, ac, as, ap, vm, vc, vs2, vp, W, rfl, hx, fit, pm, pc, ps, pp, T1, same, tabs, q⟩ := h
    have hr1 : Room 1 _ := hr.mono (by decide)
    have hr2 : Room 2 _ := hr.mono (by decide)
    refine ⟨_, pss_cons (ps_expr (pe_call GC hr (by rfl) mC kC bC .nil pass0 (pa_cons (pv 1) (pa_cons (pv 2) (pa_cons (pv 3) (pa_cons (pv 4) pa_nil))))))
      (pss_cons (ps_fld (pv 0) (pv 1) rfl)
      (pss_cons (ps_fld (pv 0) (pv 2) rfl)
      (pss_cons (ps_fld (pv 0) (pv 3) rfl)
      (pss_cons (ps_fld (pv 0) (pv 4) rfl)
      (pss_cons (ps_fld (pv 0) (pe_dc (own := [("name", 5), ("low", 6), ("high", 7)]) (g := gTup K 3 (gCons (gName 5) (gCons (gName 6) (gCons (gName 7) gNil)))) (by rfl) scInit.nd (pi_tup (pv 1)) (blkOk_by (own := [("name", 5), ("low", 6), ("high", 7)]) (N := nInit) (sc := defScope sInit) (by decide +kernel))
          (fun _ _ _ _ _ => pg_tup (by rfl) (pgs_cons (pg_name (i := 5) scInit.nd rfl (Or.inl rfl)) (pgs_cons (pg_name (i := 6) scInit.nd rfl (Or.inl rfl)) (pgs_cons (pg_name (i := 7) scInit.nd rfl (Or.inl rfl)) pgs_nil)))) (fun _ _ _ _ _ => pts_nil)
          (fun _ _ _ _ _ => pv 5) (fun _ _ _ _ _ => pe_tup (pa_cons (pv 6) (pa_cons (pv 7) pa_nil)))) rfl)
      (pss_cons (ps_fld (pv 0) (pe_dc (own := [("name", 5), ("low", 6), ("high", 7)]) (g := gTup K 3 (gCons (gName 5) (gCons (gName 6) (gCons (gName 7) gNil)))) (by rfl) scInit.nd (pi_tup (pv 2)) (blkOk_by (own := [("name", 5), ("low", 6), ("high", 7)]) (N := nInit) (sc := defScope sInit) (by decide +kernel))
          (fun _ _ _ _ _ => pg_tup (by rfl) (pgs_cons (pg_name (i := 5) scInit.nd rfl (Or.inl rfl)) (pgs_cons (pg_name (i := 6) scInit.nd rfl (Or.inl rfl)) (pgs_cons (pg_name (i := 7) scInit.nd rfl (Or.inl rfl)) pgs_nil)))) (fun _ _ _ _ _ => pts_nil)
          (fun _ _ _ _ _ => pv 5) (fun _ _ _ _ _ => pe_tup (pa_cons (pv 6) (pa_cons (pv 7) pa_nil)))) rfl)
      (pss_cons (ps_fld (pv 0) (pe_dc (own := [("name", 5), ("most", 8)]) (g := gTup K 2 (gCons (gName 5) (gCons (gName 8) gNil))) (by rfl) scInit.nd (pi_tup (pv 3)) (blkOk_by (own := [("name", 5), ("most", 8)]) (N := nInit) (sc := defScope sInit) (by decide +kernel))
          (fun _ _ _ _ _ => pg_tup (by rfl) (pgs_cons (pg_name (i := 5) scInit.nd rfl (Or.inl rfl)) (pgs_cons (pg_name (i := 8) scInit.nd rfl (Or.inl rfl)) pgs_nil))) (fun _ _ _ _ _ => pts_nil)
          (fun _ _ _ _ _ => pv 5) (fun _ _ _ _ _ => pv 8)) rfl)
      (pss_cons (ps_fld (pv 0) (pe_dc (own := [("name", 5), ("contents", 9)]) (g := gTup K 2 (gCons (gName 5) (gCons (gName 9) gNil))) (by rfl) scInit.nd (pi_tup (pv 4)) (blkOk_by (own := [("name", 5), ("contents", 9)]) (N := nInit) (sc := defScope sInit) (by decide +kernel))
          (fun _ _ _ _ _ => pg_tup (by rfl) (pgs_cons (pg_name (i := 5) scInit.nd rfl (Or.inl rfl)) (pgs_cons (pg_name (i := 9) scInit.nd rfl (Or.inl rfl)) pgs_nil))) (fun _ _ _ _ _ => pts_nil)
          (fun _ _ _ _ _ => pv 5) (fun _ _ _ _ _ => pe_call GB hr1 (by rfl) mB kB bB .nil pass0 (pa_cons (pv 3) (pa_cons (pv 9) pa_nil)))) rfl)
      (pss_one (ps_fld (pv 0) (pe_call GT hr2 (by rfl) mT kT bT .nil pass0 (pa_cons (pv 1) (pa_cons (pv 2) (pa_cons (pv 3) (pa_cons (pv 4) pa_nil))))) rfl)))))))))), ?_⟩
    have two : 2 ≤ sizeLine := by
      rw [sizeLine_eq]
      decide
    have few : ∀ {n : Nat}, n < 100 → n < 1000 := fun h => by omega
    have l1 : vm.length = W.ms.length := Paired.size pm
    have l2 : vc.length = W.cs.length := Paired.size pc
    have l3 : vs2.length = W.ss.length := Paired.size ps
    have l4 : vp.length = W.ps.length := Paired.size pp
    have w1 := T1.lm
    have w2 := T1.lc
    have w3 := T1.ls
    have w4 := T1.lp
    refine ⟨_, rfl, _, rfl, _, rfl, _, rfl, am, ac, as, ap, vm, vc, vs2, vp, rfl, fit, tabs, fun H1 x1 tabs1 => ?_⟩
    have hx1 : H1 x = some (.ins C dx []) := x1 _ _ hx fun _ z => nomatch z
    have fit1 := fit.exN x1
    have tt1 : Tup H H1 := fun a xs e => tup_n x1 e
    have pm1 := rows3 tt1 pm
    have pc1 := rows3 tt1 pc
    have ps1 := rows2 tt1 ps
    have pp1 := rowsP tt1 pp
    refine ⟨_, rfl, _, rfl, x, C, dx, _, rfl, hx1, c.cl, c.n1, few (by decide), ?_⟩
    refine ⟨_, rfl, _, rfl, x, C, dx, _, rfl, upd_same, c.cl, c.n2, (by decide : (1 : Nat) < 1000), ?_⟩
    refine ⟨_, rfl, _, rfl, x, C, dx, _, rfl, upd_same, c.cl, c.n3, (by decide : (2 : Nat) < 1000), ?_⟩
    refine ⟨_, rfl, _, rfl, x, C, dx, _, rfl, upd_same, c.cl, c.n4, (by decide : (3 : Nat) < 1000), ?_⟩
    rw [upd_upd, upd_upd, upd_upd]
    show tSeq _ _ _ _ (upd H1 x (.ins C dx [("_machines", .ref am), ("_cleanings", .ref ac), ("_stuffs", .ref as), ("_products", .ref ap)]))
    have B4 : But x H1 (upd H1 x (.ins C dx [("_machines", .ref am), ("_cleanings", .ref ac), ("_stuffs", .ref as), ("_products", .ref ap)])) := But.self
    have X4 : (upd H1 x (.ins C dx [("_machines", .ref am), ("_cleanings", .ref ac), ("_stuffs", .ref as), ("_products", .ref ap)])) x = some (.ins C dx [("_machines", .ref am), ("_cleanings", .ref ac), ("_stuffs", .ref as), ("_products", .ref ap)]) := upd_same
    generalize upd H1 x (.ins C dx [("_machines", .ref am), ("_cleanings", .ref ac), ("_stuffs", .ref as), ("_products", .ref ap)]) = H4 at B4 X4 ⊢
    have t4 := But.tup hx1 B4
    have pm4 := rows3 t4 pm1
    have hm4 := t4 _ _ fit1.m
    refine ⟨_, rfl, am, rfl, ⟨vm, SqT.of hm4⟩, fun D1 n1 => dc_it walk_tup (fun i G => Ex H4 G ∧ ∃ vals : List V, vals.length = i ∧ Paired (Bnd G) vals ((W.ms.map (·.2)).take i) ∧ G D1 = some (.dK (mergeK [] (under ((W.ms.map (·.1)).take i) vals)))) ⟨Ex.refl.new n1, [], rfl, .nil, upd_same⟩ (fun i G _ h => SqT.of (h.1 _ _ hm4)) ?_ ?_⟩
    · rintro i v _ G hi ⟨xG, vals, vl, pv, eG⟩ ⟨rfl, hv⟩
      obtain ⟨⟨n, lo, up⟩, hr, a, rfl, ha⟩ := Paired.spot pm4 hv
      have e : G a = some (.tup [.str n, .int lo, .int up]) := xG _ _ ha
      have hn : (W.ms.map (·.1))[i]? = some n := by
        rw [List.getElem?_map, hr]
        rfl
      have hb : (W.ms.map (·.2))[i]? = some (lo, up) := by
        rw [List.getElem?_map, hr]
        rfl
      refine ⟨a, _, rfl, SqT.of e, rfl, _, _, rfl, _, _, rfl, _, _, rfl, rfl, rfl, ?_⟩
      refine ⟨_, rfl, _, rfl, _, rfl, two, fun p np => ?_⟩
      have nDp : D1 ≠ p := ne_of_none eG np
      have eD : (upd G p (.tup [.int lo, .int up])) D1 = some (.dK (mergeK [] (under ((W.ms.map (·.1)).take i) vals))) := by
        rw [upd_ne nDp]
        exact eG
      refine ⟨_, .inr n, rfl, eD, ?_, (xG.new np).put n1, vals ++ [.ref p], by rw [List.length_append, vl]; rfl, ?_, ?_⟩
      · have m := merge_len (more := under ((W.ms.map (·.1)).take i) vals) (kvs := [])
        have m2 : (under ((W.ms.map (·.1)).take i) vals).length ≤ i := by
          unfold under
          rw [List.length_map, List.length_zip, vl]
          exact Nat.min_le_right _ _
        rw [List.length_nil] at m
        rw [sizeLine_eq]
        omega
      · have tt : Tup G (upd (upd G p (.tup [.int lo, .int up])) D1 (.dK (putK (mergeK [] (under ((W.ms.map (·.1)).take i) vals)) (.inr n) (.ref p)))) := fun b xs h => by
          rw [upd_ne (ne_of h eG fun z => nomatch z), upd_ne (ne_of_none h np)]
          exact h
        rw [List.take_succ, hb]
        exact Paired.snoc (bnds tt pv) ⟨p, rfl, by rw [upd_ne nDp.symm]; exact upd_same⟩
      · rw [upd_same, under_snoc hn vl, merge_snoc]
    rintro G1 ⟨xG1, b1, bl1, pb1, eG1⟩
    rw [List.take_of_length_le (by rw [List.length_map]; omega), ] at pb1
    rw [List.take_of_length_le (by rw [List.length_map]; omega)] at eG1
    refine ⟨_, rfl, x, C, dx, _, rfl, xG1 _ _ X4, c.cl, c.n5, (by decide : (4 : Nat) < 1000), ?_⟩
    show tSeq _ _ _ _ (upd G1 x (.ins C dx [("_machines", .ref am), ("_cleanings", .ref ac), ("_stuffs", .ref as), ("_products", .ref ap), ("_holds", .ref D1)]))
    have S5 : But x H4 (upd G1 x (.ins C dx [("_machines", .ref am), ("_cleanings", .ref ac), ("_stuffs", .ref as), ("_products", .ref ap), ("_holds", .ref D1)])) := But.trans (But.ex xG1) But.self
    have V5 : But x G1 (upd G1 x (.ins C dx [("_machines", .ref am), ("_cleanings", .ref ac), ("_stuffs", .ref as), ("_products", .ref ap), ("_holds", .ref D1)])) := But.self
    have X5 : (upd G1 x (.ins C dx [("_machines", .ref am), ("_cleanings", .ref ac), ("_stuffs", .ref as), ("_products", .ref ap), ("_holds", .ref D1)])) x = some (.ins C dx [("_machines", .ref am), ("_cleanings", .ref ac), ("_stuffs", .ref as), ("_products", .ref ap), ("_holds", .ref D1)]) := upd_same
    have XG5 := xG1 _ _ X4
    generalize upd G1 x (.ins C dx [("_machines", .ref am), ("_cleanings", .ref ac), ("_stuffs", .ref as), ("_products", .ref ap), ("_holds", .ref D1)]) = H5 at S5 V5 X5 ⊢
    have B5 : But x H1 H5 := But.trans B4 S5
    have t5 := But.tup hx1 B5
    have d1_5 := V5 _ _ (ne_of eG1 XG5 fun z => nomatch z) eG1
    have p1_5 := bnds (But.tup XG5 V5) pb1
    have pc5 := rows3 t5 pc1
    have hc5 := t5 _ _ fit1.c
    refine ⟨_, rfl, ac, rfl, ⟨vc, SqT.of hc5⟩, fun D2 n2 => dc_it walk_tup (fun i G => Ex H5 G ∧ ∃ vals : List V, vals.length = i ∧ Paired (Bnd G) vals ((W.cs.map (·.2)).take i) ∧ G D2 = some (.dK (mergeK [] (under ((W.cs.map (·.1)).take i) vals)))) ⟨Ex.refl.new n2, [], rfl, .nil, upd_same⟩ (fun i G _ h => SqT.of (h.1 _ _ hc5)) ?_ ?_⟩
    · rintro i v _ G hi ⟨xG, vals, vl, pv, eG⟩ ⟨rfl, hv⟩
      obtain ⟨⟨n, lo, up⟩, hr, a, rfl, ha⟩ := Paired.spot pc5 hv
      have e : G a = some (.tup [.str n, .int lo, .int up]) := xG _ _ ha
      have hn : (W.cs.map (·.1))[i]? = some n := by
        rw [List.getElem?_map, hr]
        rfl
      have hb : (W.cs.map (·.2))[i]? = some (lo, up) := by
        rw [List.getElem?_map, hr]
        rfl
      refine ⟨a, _, rfl, SqT.of e, rfl, _, _, rfl, _, _, rfl, _, _, rfl, rfl, rfl, ?_⟩
      refine ⟨_, rfl, _, rfl, _, rfl, two, fun p np => ?_⟩
      have nDp : D2 ≠ p := ne_of_none eG np
      have eD : (upd G p (.tup [.int lo, .int up])) D2 = some (.dK (mergeK [] (under ((W.cs.map (·.1)).take i) vals))) := by
        rw [upd_ne nDp]
        exact eG
      refine ⟨_, .inr n, rfl, eD, ?_, (xG.new np).put n2, vals ++ [.ref p], by rw [List.length_append, vl]; rfl, ?_, ?_⟩
      · have m := merge_len (more := under ((W.cs.map (·.1)).take i) vals) (kvs := [])
        have m2 : (under ((W.cs.map (·.1)).take i) vals).length ≤ i := by
          unfold under
          rw [List.length_map, List.length_zip, vl]
          exact Nat.min_le_right _ _
        rw [List.length_nil] at m
        rw [sizeLine_eq]
        omega
      · have tt : Tup G (upd (upd G p (.tup [.int lo, .int up])) D2 (.dK (putK (mergeK [] (under ((W.cs.map (·.1)).take i) vals)) (.inr n) (.ref p)))) := fun b xs h => by
          rw [upd_ne (ne_of h eG fun z => nomatch z), upd_ne (ne_of_none h np)]
          exact h
        rw [List.take_succ, hb]
        exact Paired.snoc (bnds tt pv) ⟨p, rfl, by rw [upd_ne nDp.symm]; exact upd_same⟩
      · rw [upd_same, under_snoc hn vl, merge_snoc]
    rintro G2 ⟨xG2, b2, bl2, pb2, eG2⟩
    rw [List.take_of_length_le (by rw [List.length_map]; omega), ] at pb2
    rw [List.take_of_length_le (by rw [List.length_map]; omega)] at eG2
    refine ⟨_, rfl, x, C, dx, _, rfl, xG2 _ _ X5, c.cl, c.n6, (by decide : (5 : Nat) < 1000), ?_⟩
    show tSeq _ _ _ _ (upd G2 x (.ins C dx [("_machines", .ref am), ("_cleanings", .ref ac), ("_stuffs", .ref as), ("_products", .ref ap), ("_holds", .ref D1), ("_keeps", .ref D2)]))
    have S6 : But x H5 (upd G2 x (.ins C dx [("_machines", .ref am), ("_cleanings", .ref ac), ("_stuffs", .ref as), ("_products", .ref ap), ("_holds", .ref D1), ("_keeps", .ref D2)])) := But.trans (But.ex xG2) But.self
    have V6 : But x G2 (upd G2 x (.ins C dx [("_machines", .ref am), ("_cleanings", .ref ac), ("_stuffs", .ref as), ("_products", .ref ap), ("_holds", .ref D1), ("_keeps", .ref D2)])) := But.self
    have X6 : (upd G2 x (.ins C dx [("_machines", .ref am), ("_cleanings", .ref ac), ("_stuffs", .ref as), ("_products", .ref ap), ("_holds", .ref D1), ("_keeps", .ref D2)])) x = some (.ins C dx [("_machines", .ref am), ("_cleanings", .ref ac), ("_stuffs", .ref as), ("_products", .ref ap), ("_holds", .ref D1), ("_keeps", .ref D2)]) := upd_same
    have XG6 := xG2 _ _ X5
    generalize upd G2 x (.ins C dx [("_machines", .ref am), ("_cleanings", .ref ac), ("_stuffs", .ref as), ("_products", .ref ap), ("_holds", .ref D1), ("_keeps", .ref D2)]) = H6 at S6 V6 X6 ⊢
    have B6 : But x H1 H6 := But.trans B5 S6
    have t6 := But.tup hx1 B6
    have d2_6 := V6 _ _ (ne_of eG2 XG6 fun z => nomatch z) eG2
    have p2_6 := bnds (But.tup XG6 V6) pb2
    have d1_6 := S6 _ _ (ne_of d1_5 X5 fun z => nomatch z) d1_5
    have p1_6 := bnds (But.tup X5 S6) p1_5
    have ps6 := rows2 t6 ps1
    have hs6 := t6 _ _ fit1.s
    refine ⟨_, rfl, as, rfl, ⟨vs2, SqT.of hs6⟩, fun D3 n3 => dc_it walk_tup (fun i G => Ex H6 G ∧ G D3 = some (.dK (mergeK [] (under ((W.ss.map (·.1)).take i) ((W.ss.map fun r => V.int r.2).take i))))) ⟨Ex.refl.new n3, upd_same⟩ (fun i G _ h => SqT.of (h.1 _ _ hs6)) ?_ ?_⟩
    · rintro i v _ G hi ⟨xG, eG⟩ ⟨rfl, hv⟩
      obtain ⟨⟨n, m⟩, hr, a, rfl, ha⟩ := Paired.spot ps6 hv
      have e : G a = some (.tup [.str n, .int m]) := xG _ _ ha
      have hn : (W.ss.map (·.1))[i]? = some n := by
        rw [List.getElem?_map, hr]
        rfl
      have hb : (W.ss.map fun r => V.int r.2)[i]? = some (.int m) := by
        rw [List.getElem?_map, hr]
        rfl
      have il : i < W.ss.length := (List.getElem?_eq_some_iff.mp hr).1
      have vl : ((W.ss.map fun r => V.int r.2).take i).length = i := by
        rw [List.length_take, List.length_map]
        omega
      refine ⟨a, _, rfl, SqT.of e, rfl, _, _, rfl, _, _, rfl, rfl, rfl, ?_⟩
      refine ⟨_, rfl, _, rfl, _, .inr n, rfl, eG, ?_, xG.put n3, ?_⟩
      · have m := merge_len (more := under ((W.ss.map (·.1)).take i) ((W.ss.map fun r => V.int r.2).take i)) (kvs := [])
        have m2 : (under ((W.ss.map (·.1)).take i) ((W.ss.map fun r => V.int r.2).take i)).length ≤ i := by
          unfold under
          rw [List.length_map, List.length_zip, vl]
          exact Nat.min_le_right _ _
        rw [List.length_nil] at m
        rw [sizeLine_eq]
        omega
      · rw [upd_same, List.take_succ (l := W.ss.map fun r => V.int r.2), hb]
        show _ = some (HO.dK (mergeK [] (under ((W.ss.map (·.1)).take (i + 1)) ((W.ss.map fun r => V.int r.2).take i ++ [.int m]))))
        rw [under_snoc hn vl, merge_snoc]
    rintro G3 ⟨xG3, eG3⟩
    rw [List.take_of_length_le (by rw [List.length_map]; omega), List.take_of_length_le (by rw [List.length_map]; omega)] at eG3
    refine ⟨_, rfl, x, C, dx, _, rfl, xG3 _ _ X6, c.cl, c.n7, (by decide : (6 : Nat) < 1000), ?_⟩
    show tSeq _ _ _ _ (upd G3 x (.ins C dx [("_machines", .ref am), ("_cleanings", .ref ac), ("_stuffs", .ref as), ("_products", .ref ap), ("_holds", .ref D1), ("_keeps", .ref D2), ("_limits", .ref D3)]))
    have S7 : But x H6 (upd G3 x (.ins C dx [("_machines", .ref am), ("_cleanings", .ref ac), ("_stuffs", .ref as), ("_products", .ref ap), ("_holds", .ref D1), ("_keeps", .ref D2), ("_limits", .ref D3)])) := But.trans (But.ex xG3) But.self
    have V7 : But x G3 (upd G3 x (.ins C dx [("_machines", .ref am), ("_cleanings", .ref ac), ("_stuffs", .ref as), ("_products", .ref ap), ("_holds", .ref D1), ("_keeps", .ref D2), ("_limits", .ref D3)])) := But.self
    have X7 : (upd G3 x (.ins C dx [("_machines", .ref am), ("_cleanings", .ref ac), ("_stuffs", .ref as), ("_products", .ref ap), ("_holds", .ref D1), ("_keeps", .ref D2), ("_limits", .ref D3)])) x = some (.ins C dx [("_machines", .ref am), ("_cleanings", .ref ac), ("_stuffs", .ref as), ("_products", .ref ap), ("_holds", .ref D1), ("_keeps", .ref D2), ("_limits", .ref D3)]) := upd_same
    have XG7 := xG3 _ _ X6
    generalize upd G3 x (.ins C dx [("_machines", .ref am), ("_cleanings", .ref ac), ("_stuffs", .ref as), ("_products", .ref ap), ("_holds", .ref D1), ("_keeps", .ref D2), ("_limits", .ref D3)]) = H7 at S7 V7 X7 ⊢
    have B7 : But x H1 H7 := But.trans B6 S7
    have t7 := But.tup hx1 B7
    have d3_7 := V7 _ _ (ne_of eG3 XG7 fun z => nomatch z) eG3
    have d1_7 := S7 _ _ (ne_of d1_6 X6 fun z => nomatch z) d1_6
    have p1_7 := bnds (But.tup X6 S7) p1_6
    have d2_7 := S7 _ _ (ne_of d2_6 X6 fun z => nomatch z) d2_6
    have p2_7 := bnds (But.tup X6 S7) p2_6
    have pp7 := rowsP t7 pp1
    have ps7 := rows2 t7 ps1
    have hs7 := t7 _ _ fit1.s
    have hp7 := t7 _ _ fit1.p
    have nm7 : ∀ {G : Hp}, Ex H7 G → Paired (Named G) vs2 (W.ss.map (·.1)) := fun {G} e => paired_map (L2.Paired.mapP ps7 fun v r z => by
      obtain ⟨a, e1, e2⟩ := z
      exact ⟨a, _, e1, e _ _ e2⟩)
    refine ⟨_, rfl, ap, rfl, ⟨vp, SqT.of hp7⟩, fun D4 n4 => dc_it walk_tup (fun i G => Ex H7 G ∧ ∃ vals : List V, vals.length = i ∧ Paired (CBn W D4 G) vals (W.ps.take i) ∧ G D4 = some (.dK (mergeK [] (under ((W.ps.map (·.1)).take i) vals)))) ⟨Ex.refl.new n4, [], rfl, .nil, upd_same⟩ (fun i G _ h => SqT.of (h.1 _ _ hp7)) ?_ ?_⟩
    · rintro i v _ G hi ⟨xG, vals, vl, pv, eG⟩ ⟨rfl, hv⟩
      obtain ⟨⟨n, bs⟩, hr, a, t, vb, rfl, ha, ht, pb⟩ := Paired.spot pp7 hv
      have hn : (W.ps.map (·.1))[i]? = some n := by
        rw [List.getElem?_map, hr]
        rfl
      have sm : bs.length = W.ss.length := same _ (List.mem_of_getElem? hr)
      have vbl : vb.length = bs.length := Paired.size pb
      refine ⟨a, _, rfl, SqT.of (xG _ _ ha), rfl, _, _, rfl, _, _, rfl, rfl, rfl, ?_⟩
      refine ⟨_, rfl, _, rfl, _, rfl, as, t, vs2, vb, W.ss.map (·.1), rfl, xG _ _ hs7, xG _ _ ht, nm7 xG, by omega, by omega, fun Dp G2 x2 nDp eDp => ?_⟩
      have eG2 := x2 _ _ eG
      have nD : Dp ≠ D4 := (ne_of_none eG nDp).symm
      refine ⟨_, .inr n, rfl, eG2, ?_, (xG.trans x2).put n4, vals ++ [.ref Dp], by rw [List.length_append, vl]; rfl, ?_, ?_⟩
      · have m := merge_len (more := under ((W.ps.map (·.1)).take i) vals) (kvs := [])
        have m2 : (under ((W.ps.map (·.1)).take i) vals).length ≤ i := by
          unfold under
          rw [List.length_map, List.length_zip, vl]
          exact Nat.min_le_right _ _
        rw [List.length_nil] at m
        rw [sizeLine_eq]
        omega
      · have tt : Tup G2 (upd G2 D4 (.dK (putK (mergeK [] (under ((W.ps.map (·.1)).take i) vals)) (.inr n) (.ref Dp)))) := fun b xs h => by
          rw [upd_ne (ne_of h eG2 fun z => nomatch z)]
          exact h
        rw [List.take_succ, hr]
        refine Paired.snoc (L2.Paired.mapP pv fun v p z => ?_) ⟨Dp, vb, rfl, nD, by rw [upd_ne nD]; exact eDp, bnds tt (bnds (Ex.tup (xG.trans x2)) pb)⟩
        obtain ⟨D0, ys, e1, e2, e3, e4⟩ := z
        exact ⟨D0, ys, e1, e2, by rw [upd_ne e2]; exact x2 _ _ e3, bnds tt (bnds (Ex.tup x2) e4)⟩
      · rw [upd_same, under_snoc hn vl, merge_snoc]
    rintro G4 ⟨xG4, b4, bl4, pb4, eG4⟩
    rw [List.take_of_length_le (by omega)] at pb4
    rw [List.take_of_length_le (by rw [List.length_map]; omega)] at eG4
    refine ⟨_, rfl, x, C, dx, _, rfl, xG4 _ _ X7, c.cl, c.n8, (by decide : (7 : Nat) < 1000), ?_⟩
    show tSeq _ _ _ _ (upd G4 x (.ins C dx [("_machines", .ref am), ("_cleanings", .ref ac), ("_stuffs", .ref as), ("_products", .ref ap), ("_holds", .ref D1), ("_keeps", .ref D2), ("_limits", .ref D3), ("_contents", .ref D4)]))
    have S8 : But x H7 (upd G4 x (.ins C dx [("_machines", .ref am), ("_cleanings", .ref ac), ("_stuffs", .ref as), ("_products", .ref ap), ("_holds", .ref D1), ("_keeps", .ref D2), ("_limits", .ref D3), ("_contents", .ref D4)])) := But.trans (But.ex xG4) But.self
    have V8 : But x G4 (upd G4 x (.ins C dx [("_machines", .ref am), ("_cleanings", .ref ac), ("_stuffs", .ref as), ("_products", .ref ap), ("_holds", .ref D1), ("_keeps", .ref D2), ("_limits", .ref D3), ("_contents", .ref D4)])) := But.self
    have X8 : (upd G4 x (.ins C dx [("_machines", .ref am), ("_cleanings", .ref ac), ("_stuffs", .ref as), ("_products", .ref ap), ("_holds", .ref D1), ("_keeps", .ref D2), ("_limits", .ref D3), ("_contents", .ref D4)])) x = some (.ins C dx [("_machines", .ref am), ("_cleanings", .ref ac), ("_stuffs", .ref as), ("_products", .ref ap), ("_holds", .ref D1), ("_keeps", .ref D2), ("_limits", .ref D3), ("_contents", .ref D4)]) := upd_same
    have XG8 := xG4 _ _ X7
    generalize upd G4 x (.ins C dx [("_machines", .ref am), ("_cleanings", .ref ac), ("_stuffs", .ref as), ("_products", .ref ap), ("_holds", .ref D1), ("_keeps", .ref D2), ("_limits", .ref D3), ("_contents", .ref D4)]) = H8 at S8 V8 X8 ⊢
    have B8 : But x H1 H8 := But.trans B7 S8
    have t8 := But.tup hx1 B8
    have d4_8 := V8 _ _ (ne_of eG4 XG8 fun z => nomatch z) eG4
    have p4_8 : Paired (CBn W D4 H8) b4 W.ps := L2.Paired.mapP pb4 fun v p z => CBn.but XG8 V8 z
    have d3_8 := S8 _ _ (ne_of d3_7 X7 fun z => nomatch z) d3_7
    have d1_8 := S8 _ _ (ne_of d1_7 X7 fun z => nomatch z) d1_7
    have p1_8 := bnds (But.tup X7 S8) p1_7
    have d2_8 := S8 _ _ (ne_of d2_7 X7 fun z => nomatch z) d2_7
    have p2_8 := bnds (But.tup X7 S8) p2_7
    refine ⟨_, rfl, _, rfl, _, rfl, _, rfl, am, ac, as, ap, vm, vc, vs2, vp, W, rfl, t8 _ _ fit1.m, t8 _ _ fit1.c, t8 _ _ fit1.s, t8 _ _ fit1.p, rows3 t8 pm1, rows3 t8 pc1, rows2 t8 ps1, rowsP t8 pp1, T1, fun G5 xG5 => ?_⟩
    refine ⟨_, rfl, x, C, dx, _, rfl, xG5 _ _ X8, c.cl, c.n9, (by decide : (8 : Nat) < 1000), ?_⟩
    show Q .non (upd G5 x (.ins C dx [("_machines", .ref am), ("_cleanings", .ref ac), ("_stuffs", .ref as), ("_products", .ref ap), ("_holds", .ref D1), ("_keeps", .ref D2), ("_limits", .ref D3), ("_contents", .ref D4), ("_text", .str (wtext W))]))
    have S9 : But x H8 (upd G5 x (.ins C dx [("_machines", .ref am), ("_cleanings", .ref ac), ("_stuffs", .ref as), ("_products", .ref ap), ("_holds", .ref D1), ("_keeps", .ref D2), ("_limits", .ref D3), ("_contents", .ref D4), ("_text", .str (wtext W))])) := But.trans (But.ex xG5) But.self
    have V9 : But x G5 (upd G5 x (.ins C dx [("_machines", .ref am), ("_cleanings", .ref ac), ("_stuffs", .ref as), ("_products", .ref ap), ("_holds", .ref D1), ("_keeps", .ref D2), ("_limits", .ref D3), ("_contents", .ref D4), ("_text", .str (wtext W))])) := But.self
    have X9 : (upd G5 x (.ins C dx [("_machines", .ref am), ("_cleanings", .ref ac), ("_stuffs", .ref as), ("_products", .ref ap), ("_holds", .ref D1), ("_keeps", .ref D2), ("_limits", .ref D3), ("_contents", .ref D4), ("_text", .str (wtext W))])) x = some (.ins C dx [("_machines", .ref am), ("_cleanings", .ref ac), ("_stuffs", .ref as), ("_products", .ref ap), ("_holds", .ref D1), ("_keeps", .ref D2), ("_limits", .ref D3), ("_contents", .ref D4), ("_text", .str (wtext W))]) := upd_same
    have XG9 := xG5 _ _ X8
    generalize upd G5 x (.ins C dx [("_machines", .ref am), ("_cleanings", .ref ac), ("_stuffs", .ref as), ("_products", .ref ap), ("_holds", .ref D1), ("_keeps", .ref D2), ("_limits", .ref D3), ("_contents", .ref D4), ("_text", .str (wtext W))]) = H9 at S9 V9 X9 ⊢
    have B9 : But x H1 H9 := But.trans B8 S9
    have t9 := But.tup hx1 B9
    have d4_9 := S9 _ _ (ne_of d4_8 X8 fun z => nomatch z) d4_8
    have p4_9 : Paired (CBn W D4 H9) b4 W.ps := L2.Paired.mapP p4_8 fun v p z => CBn.but X8 S9 z
    have d3_9 := S9 _ _ (ne_of d3_8 X8 fun z => nomatch z) d3_8
    have d1_9 := S9 _ _ (ne_of d1_8 X8 fun z => nomatch z) d1_8
    have p1_9 := bnds (But.tup X8 S9) p1_8
    have d2_9 := S9 _ _ (ne_of d2_8 X8 fun z => nomatch z) d2_8
    have p2_9 := bnds (But.tup X8 S9) p2_8
    exact q H9 (fun b o n e nt => B9 b o n (x1 b o e nt)) (TabsN.but hx1 B9 tabs1) ⟨dx, D1, D2, D3, D4, b1, b2, b4, X9, ⟨d1_9, p1_9⟩, ⟨d2_9, p2_9⟩, d3_9, d4_9, L2.Paired.mapP p4_9 fun v p z => by
      obtain ⟨D0, ys, e1, _, e3, e4⟩ := z
      exact ⟨D0, ys, e1, e3, e4⟩⟩
end
end LJ
set_option Elab.async false
set_option linter.all false
set_option maxRecDepth 100000
set_option maxHeartbeats 8000000
namespace LJ
open PySem PySem.Spec L2
/-! A drawn world fits. -/
theorem menu_w : ∀ x ∈ menu, isW x = true := by decide +kernel
theorem menu_8 : ∀ x ∈ menu, x.length ≤ 8 := by decide +kernel
theorem fwAt_none {R : V → Bool} {nm : V → Str} {most : Int} : ∀ {xs : List V} {tk : List Str} {i : Nat}, (∀ v ∈ xs, R v = true) → (i : Int) + xs.length ≤ most → (tk ++ xs.map nm).Nodup → fwAt R nm most tk i xs = none
  | [], _, _, _, _, _ => by
    unfold fwAt
    rfl
  | v :: xs, tk, i, hR, l, nd => by
    rw [List.length_cons] at l
    have nin : nm v ∉ tk := fun z => by
      rw [List.map_cons] at nd
      exact (List.nodup_append.mp nd).2.2 _ z _ (List.mem_cons_self ..) rfl
    have t := fwAt_none (R := R) (nm := nm) (most := most) (xs := xs) (tk := tk ++ [nm v]) (i := i + 1) (fun y hy => hR y (List.mem_cons_of_mem _ hy)) (by omega) (by rw [List.append_assoc]; exact nd)
    unfold fwAt
    rw [if_neg (by omega), if_neg (by rw [hR v (List.mem_cons_self ..)]; decide), if_neg nin, t]
theorem paired_mem {α β : Type} {F : α → β → Prop} : ∀ {xs : List α} {ys : List β}, Paired F xs ys → ∀ x ∈ xs, ∃ y ∈ ys, F x y
  | _, _, .nil, _, h => nomatch h
  | _, _, .cons f t, x, h => by
    rcases List.mem_cons.mp h with rfl | h
    · exact ⟨_, List.mem_cons_self .., f⟩
    · obtain ⟨y, hy, g⟩ := paired_mem t x h
      exact ⟨y, List.mem_cons_of_mem _ hy, g⟩
theorem paired_nm {α : Type} {F : V → α → Prop} {nm : V → Str} {g : α → Str} (h : ∀ v r, F v r → nm v = g r) : ∀ {xs : List V} {ys : List α}, Paired F xs ys → xs.map nm = ys.map g
  | _, _, .nil => rfl
  | _, _, .cons f t => by rw [List.map_cons, List.map_cons, h _ _ f, paired_nm h t]
section
variable {K : PySem.W.Frag} {H : Hp}
theorem kn_tup {a : Addr} {xs : List V} (h : H a = some (.tup xs)) (l : xs.length ≤ 1000) : Kn K H (.ref a) := .tup h (by rw [sizeLine_eq]; omega)
theorem kn_str {n : Str} (l : n.length ≤ 8) : Kn K H (.str n) := .str n (by rw [sizeLine_eq]; omega)
theorem deep_tup {n : Nat} {a : Addr} {xs : List V} (h : H a = some (.tup xs)) (l : xs.length ≤ 1000) (d : ∀ y ∈ xs, Deep K H n y) : Deep K H (n + 1) (.ref a) := ⟨kn_tup h l, fun ys e y hy => by
  rw [tup_at h] at e
  cases e
  exact d y hy⟩
theorem row3_deep {v : V} {r : Str × Int × Int} (h : Row3 H v r) (l : r.1.length ≤ 8) : Deep K H 1 v := by
  obtain ⟨a, rfl, e⟩ := h
  refine deep_tup e (by decide : 3 ≤ 1000) fun y hy => ?_
  simp only [List.mem_cons, List.not_mem_nil, or_false] at hy
  rcases hy with rfl | rfl | rfl
  · exact kn_str l
  · exact .int _
  · exact .int _
theorem row2_deep {v : V} {r : Str × Int} (h : Row2 H v r) (l : r.1.length ≤ 8) : Deep K H 1 v := by
  obtain ⟨a, rfl, e⟩ := h
  refine deep_tup e (by decide : 2 ≤ 1000) fun y hy => ?_
  simp only [List.mem_cons, List.not_mem_nil, or_false] at hy
  rcases hy with rfl | rfl
  · exact kn_str l
  · exact .int _
theorem int_deep {i : Int} : ∀ {n : Nat}, Deep K H n (.int i)
  | 0 => Kn.int i
  | n + 1 => ⟨.int i, fun _ e => nomatch e⟩
theorem str_deep {s : Str} (l : s.length ≤ 8) : ∀ {n : Nat}, Deep K H n (.str s)
  | 0 => kn_str l
  | n + 1 => ⟨kn_str l, fun _ e => nomatch e⟩
theorem bnd_deep {v : V} {b : Int × Int} (h : Bnd H v b) : Deep K H 1 v := by
  obtain ⟨a, rfl, e⟩ := h
  refine deep_tup e (by decide : 2 ≤ 1000) fun y hy => ?_
  simp only [List.mem_cons, List.not_mem_nil, or_false] at hy
  rcases hy with rfl | rfl <;> exact int_deep
theorem rowP_deep {v : V} {r : Str × List (Int × Int)} (h : RowP H v r) (l : r.1.length ≤ 8) (l2 : r.2.length ≤ 100) : Deep K H 3 v := by
  obtain ⟨a, t, vs, rfl, e, et, p⟩ := h
  have vl : vs.length = r.2.length := Paired.size p
  refine deep_tup e (by decide : 2 ≤ 1000) fun y hy => ?_
  simp only [List.mem_cons, List.not_mem_nil, or_false] at hy
  rcases hy with rfl | rfl
  · exact str_deep l
  · refine deep_tup et (by omega) fun z hz => ?_
    obtain ⟨b, _, hb⟩ := paired_mem p z hz
    exact bnd_deep hb
theorem row3_name {v : V} {r : Str × Int × Int} (h : Row3 H v r) : nameOf H v = r.1 := by
  obtain ⟨a, rfl, e⟩ := h
  unfold nameOf
  rw [tup_at e]
theorem row2_name {v : V} {r : Str × Int} (h : Row2 H v r) : nameOf H v = r.1 := by
  obtain ⟨a, rfl, e⟩ := h
  unfold nameOf
  rw [tup_at e]
theorem rowP_name {v : V} {r : Str × List (Int × Int)} (h : RowP H v r) : nameOf H v = r.1 := by
  obtain ⟨a, t, vs, rfl, e, _⟩ := h
  unfold nameOf
  rw [tup_at e]
theorem row3_right {v : V} {r : Str × Int × Int} (h : Row3 H v r) (w : isW r.1 = true) (b0 : 0 ≤ r.2.1) (b1 : r.2.1 ≤ r.2.2) (b2 : r.2.2 ≤ 1000) : onTup sharesOf H v = true := by
  obtain ⟨a, rfl, e⟩ := h
  unfold onTup
  rw [tup_at e]
  show (isW r.1 && (decide (0 ≤ r.2.1) && (decide (r.2.1 ≤ r.2.2) && decide (r.2.2 ≤ 1000)))) = true
  rw [w, decide_eq_true b0, decide_eq_true b1, decide_eq_true b2]
  rfl
theorem row2_right {v : V} {r : Str × Int} (h : Row2 H v r) (w : isW r.1 = true) (b0 : 0 ≤ r.2) (b1 : r.2 ≤ 1000000000000) : onTup limOf H v = true := by
  obtain ⟨a, rfl, e⟩ := h
  unfold onTup
  rw [tup_at e]
  show (isW r.1 && (decide (0 ≤ r.2) && decide (r.2 ≤ top12))) = true
  rw [w, decide_eq_true b0, decide_eq_true (show r.2 ≤ top12 from b1)]
  rfl
theorem rowP_right {v : V} {r : Str × List (Int × Int)} {m : Int} (h : RowP H v r) (w : isW r.1 = true) (l : (r.2.length : Int) = m) (b : ∀ x ∈ r.2, Small x) : onTup (contOf H m) H v = true := by
  obtain ⟨a, t, vs, rfl, e, et, p⟩ := h
  have vl : vs.length = r.2.length := Paired.size p
  unfold onTup
  rw [tup_at e]
  show (isW r.1 && pairsOf H m (tupOf H (.ref t))) = true
  rw [w, tup_at et]
  show (true && (decide ((vs.length : Int) = m) && vs.all fun y => isBnd H y top12)) = true
  rw [decide_eq_true (by rw [vl]; exact l), Bool.true_and, Bool.true_and, List.all_eq_true]
  intro y hy
  obtain ⟨x, hx, b1, rfl, b2⟩ := paired_mem p y hy
  obtain ⟨s1, s2, s3⟩ := b x hx
  unfold isBnd
  rw [tup_at b2]
  show (decide (0 ≤ x.1) && (decide (x.1 ≤ x.2) && decide (x.2 ≤ top12))) = true
  rw [decide_eq_true s1, decide_eq_true s2, decide_eq_true (show x.2 ≤ top12 from s3)]
  rfl
theorem good_fit {am ac as ap : Addr} {vm vc vs2 vp : List V} {W : Wd} (g : Good W) (hm : H am = some (.tup vm)) (hc : H ac = some (.tup vc)) (hs : H as = some (.tup vs2)) (hp : H ap = some (.tup vp))
    (pm : Paired (Row3 H) vm W.ms) (pc : Paired (Row3 H) vc W.cs) (ps : Paired (Row2 H) vs2 W.ss) (pp : Paired (RowP H) vp W.ps) : Fit K H am ac as ap vm vc vs2 vp := by
  have l1 : vm.length = W.ms.length := Paired.size pm
  have l2 : vc.length = W.cs.length := Paired.size pc
  have l3 : vs2.length = W.ss.length := Paired.size ps
  have l4 : vp.length = W.ps.length := Paired.size pp
  have g1 := g.m1
  have g2 := g.m2
  have g3 := g.c2
  have g4 := g.s1
  have g5 := g.s2
  have g6 := g.p1
  have g7 := g.p2
  have im : ∀ r ∈ W.ms, r.1 ∈ menu := fun r hr => g.nm _ (List.mem_append_left _ (List.mem_map_of_mem hr))
  have ic : ∀ r ∈ W.cs, r.1 ∈ menu := fun r hr => g.nm _ (List.mem_append_right _ (List.mem_append_left _ (List.mem_map_of_mem hr)))
  have is : ∀ r ∈ W.ss, r.1 ∈ menu := fun r hr => g.nm _ (List.mem_append_right _ (List.mem_append_right _ (List.mem_append_left _ (List.mem_map_of_mem hr))))
  have ip : ∀ r ∈ W.ps, r.1 ∈ menu := fun r hr => g.nm _ (List.mem_append_right _ (List.mem_append_right _ (List.mem_append_right _ (List.mem_map_of_mem hr))))
  have em : vm.map (nameOf H) = W.ms.map (·.1) := paired_nm (fun v r h => row3_name h) pm
  have ec : vc.map (nameOf H) = W.cs.map (·.1) := paired_nm (fun v r h => row3_name h) pc
  have es : vs2.map (nameOf H) = W.ss.map (·.1) := paired_nm (fun v r h => row2_name h) ps
  have ep : vp.map (nameOf H) = W.ps.map (·.1) := paired_nm (fun v r h => rowP_name h) pp
  have nd := g.nd
  have nd3 : ((W.ms.map (·.1) ++ W.cs.map (·.1)) ++ W.ss.map (·.1) ++ W.ps.map (·.1)).Nodup := by
    rw [List.append_assoc, List.append_assoc]
    exact nd
  have nd2 : ((W.ms.map (·.1) ++ W.cs.map (·.1)) ++ W.ss.map (·.1)).Nodup := (List.nodup_append.mp nd3).1
  have nd1 : (W.ms.map (·.1) ++ W.cs.map (·.1)).Nodup := (List.nodup_append.mp nd2).1
  have nd0 : (W.ms.map (·.1)).Nodup := (List.nodup_append.mp nd1).1
  refine ⟨hm, hc, hs, hp, deep_tup hm (by omega) fun v hv => ?_, deep_tup hc (by omega) fun v hv => ?_, deep_tup hs (by omega) fun v hv => ?_, deep_tup hp (by omega) fun v hv => ?_, by omega, by omega, by omega, ?_, ?_, ?_, ?_⟩
  · obtain ⟨r, hr, h⟩ := paired_mem pm v hv
    exact row3_deep h (menu_8 _ (im r hr))
  · obtain ⟨r, hr, h⟩ := paired_mem pc v hv
    exact row3_deep h (menu_8 _ (ic r hr))
  · obtain ⟨r, hr, h⟩ := paired_mem ps v hv
    exact row2_deep h (menu_8 _ (is r hr))
  · obtain ⟨r, hr, h⟩ := paired_mem pp v hv
    exact rowP_deep h (menu_8 _ (ip r hr)) (by have := (g.pb r hr).1; omega)
  · refine fwAt_none (fun v hv => ?_) (by omega) (by rw [em]; exact nd0)
    obtain ⟨r, hr, h⟩ := paired_mem pm v hv
    obtain ⟨a, b, c⟩ := g.mb r hr
    exact row3_right h (menu_w _ (im r hr)) a b c
  · refine fwAt_none (fun v hv => ?_) (by omega) (by rw [em, ec]; exact nd1)
    obtain ⟨r, hr, h⟩ := paired_mem pc v hv
    obtain ⟨a, b, c⟩ := g.cb r hr
    exact row3_right h (menu_w _ (ic r hr)) a b c
  · refine fwAt_none (fun v hv => ?_) (by omega) (by rw [List.map_append, em, ec, es]; exact nd2)
    obtain ⟨r, hr, h⟩ := paired_mem ps v hv
    obtain ⟨a, b⟩ := g.sb r hr
    exact row2_right h (menu_w _ (is r hr)) a b
  · refine fwAt_none (fun v hv => ?_) (by omega) (by rw [List.map_append, List.map_append, em, ec, es, ep]; exact nd3)
    obtain ⟨r, hr, h⟩ := paired_mem pp v hv
    obtain ⟨a, b⟩ := g.pb r hr
    exact rowP_right h (menu_w _ (ip r hr)) (by omega) b
theorem good_told {W : Wd} (g : Good W) : Told W := by
  have g2 := g.m2
  have g3 := g.c2
  have g5 := g.s2
  have g7 := g.p2
  refine ⟨by omega, by omega, by omega, by omega, fun r hr => ?_, fun r hr => ?_, fun r hr => ?_, fun r hr => ?_⟩
  · obtain ⟨a, b, c⟩ := g.mb r hr
    exact ⟨menu_8 _ (g.nm _ (List.mem_append_left _ (List.mem_map_of_mem hr))), a, b, by omega⟩
  · obtain ⟨a, b, c⟩ := g.cb r hr
    exact ⟨menu_8 _ (g.nm _ (List.mem_append_right _ (List.mem_append_left _ (List.mem_map_of_mem hr)))), a, b, by omega⟩
  · obtain ⟨a, b⟩ := g.sb r hr
    exact ⟨menu_8 _ (g.nm _ (List.mem_append_right _ (List.mem_append_right _ (List.mem_append_left _ (List.mem_map_of_mem hr))))), a, b⟩
  · obtain ⟨a, b⟩ := g.pb r hr
    exact ⟨menu_8 _ (g.nm _ (List.mem_append_right _ (List.mem_append_right _ (List.mem_append_right _ (List.mem_map_of_mem hr))))), by omega, b⟩
end
end LJ
set_option Elab.async false
set_option linter.all false
set_option maxRecDepth 100000
set_option maxHeartbeats 4000000
/-! Data that can be shown. -/
namespace LJ
open PySem L2 PySem.ErrV
open LamX (ExtN)
section
variable {H H1 : Hp}
mutual
theorem rp_seqN (s : ExtN H H1) : ∀ (d : PyData) (x : V), rp H d x → rp H1 d x
  | .none, x, e => by
    unfold rp at e ⊢
    exact e
  | .bool b, x, e => by
    unfold rp at e ⊢
    exact e
  | .int i, x, e => by
    unfold rp at e ⊢
    exact e
  | .str z, x, e => by
    unfold rp at e ⊢
    exact e
  | .list ds, x, e => by
    unfold rp at e ⊢
    obtain ⟨a, xs, h1, h2, h3⟩ := e
    exact ⟨a, xs, h1, s _ _ h2 (fun _ z => nomatch z), rpAll_seqN s ds xs h3⟩
  | .tuple ds, x, e => by
    unfold rp at e ⊢
    obtain ⟨a, xs, h1, h2, h3⟩ := e
    exact ⟨a, xs, h1, s _ _ h2 (fun _ z => nomatch z), rpAll_seqN s ds xs h3⟩
  | .dict ds, x, e => by
    unfold rp at e
    exact e.elim
theorem rpAll_seqN (s : ExtN H H1) : ∀ (ds : List PyData) (xs : List V), rpAll H ds xs → rpAll H1 ds xs
  | [], xs, e => by
    unfold rpAll at e ⊢
    exact e
  | d :: ds, xs, e => by
    unfold rpAll at e ⊢
    obtain ⟨y, ys, h1, h2, h3⟩ := e
    exact ⟨y, ys, h1, rp_seqN s d y h2, rpAll_seqN s ds ys h3⟩
end
theorem rpD_seqN (s : ExtN H H1) {d : PyData} {x : V} (e : rpD H d x) : rpD H1 d x := by
  obtain ⟨a, kvs, ds, h1, h2, h3⟩ := e
  exact ⟨a, kvs, ds, h1, s _ _ h2 (fun _ z => nomatch z), h3⟩
end
/-- x is the datum d, small enough to be shown -/
structure Dat (H : Hp) (d : PyData) (x : V) : Prop where
  at_ : rp H d x ∨ rpD H d x
  sh : d.showable = true
  dp : d.depth ≤ 100
  sz : d.shown.length ≤ sizeLine
  ok : PyData.strOk d.shown = true
theorem Dat.exN {H H1 : Hp} {d : PyData} {x : V} (h : Dat H d x) (s : ExtN H H1) : Dat H1 d x :=
  ⟨h.at_.elim (fun e => .inl (rp_seqN s d x e)) fun e => .inr (rpD_seqN s e), h.sh, h.dp, h.sz, h.ok⟩
end LJ
set_option Elab.async false
set_option linter.all false
set_option maxRecDepth 100000
set_option maxHeartbeats 8000000
namespace LJ
open PySem PySem.Spec L2 PySem.ErrV
/-! Works as data. -/
/-- data that can be shown and compared -/
structure Shw (dep wt : Nat) (d : PyData) : Prop where
  lay : d.canLay0 = true
  dp : d.depth ≤ dep
  wt : d.weight ≤ wt
  ish : PyData.intsShort 13 d = true
  sh : d.showable = true
theorem num_len13 {i : Int} (h0 : 0 ≤ i) (h1 : i ≤ 1000000000000) : (num i).length ≤ 13 := by
  show (TL.tl (num i)).length ≤ 13
  rw [tl_num h0]
  refine TL.numL_len (by decide) ?_
  have : (10 : Nat) ^ 13 = 10000000000000 := by decide
  omega
theorem shw_int {i : Int} (h0 : 0 ≤ i) (h1 : i ≤ 1000000000000) : Shw 0 60 (.int i) where
  lay := rfl
  dp := Nat.le_refl _
  wt := by
    unfold PyData.weight
    split
    · omega
    · rename_i z
      have l : i.natAbs < 2 ^ 41 := by
        have : (2 : Nat) ^ 41 = 2199023255552 := by decide
        omega
      by_cases e : i.natAbs = 0
      · rw [e]
        decide
      · have := (Nat.log2_lt e).mpr l
        omega
  ish := decide_eq_true (num_len13 h0 h1)
  sh := decide_eq_true (num_log h0 h1)
theorem shw_str {z : Str} (h : isW z = true) : Shw 0 60 (.str z) where
  lay := by
    show PyData.strOk z = true
    unfold PyData.strOk
    rw [← Array.all_toList, List.all_eq_true]
    intro c hc
    unfold isW at h
    rw [Bool.and_eq_true, Bool.and_eq_true] at h
    have := List.all_eq_true.mp h.2.2 c hc
    rw [Bool.and_eq_true, decide_eq_true_eq, decide_eq_true_eq] at this
    exact decide_eq_true (by omega)
  dp := Nat.le_refl _
  wt := by
    show z.length ≤ 60
    have := isW_8 h
    omega
  ish := rfl
  sh := rfl
theorem Shw.mono {a b n m : Nat} {d : PyData} (h : Shw a n d) (x : a ≤ b) (y : n ≤ m) : Shw b m d := ⟨h.lay, Nat.le_trans h.dp x, Nat.le_trans h.wt y, h.ish, h.sh⟩
theorem shw_all {a n : Nat} : ∀ {ds : List PyData}, (∀ d ∈ ds, Shw a n d) → PyData.canLayAll0 ds = true ∧ PyData.depthAll ds ≤ a ∧ PyData.weightAll ds ≤ ds.length * (n + 1) ∧ PyData.intsShortAll 13 ds = true ∧ PyData.showableAll ds = true
  | [], _ => ⟨rfl, Nat.zero_le _, Nat.zero_le _, rfl, rfl⟩
  | d :: ds, h => by
    obtain ⟨h1, h2, h3, h4, h5⟩ := shw_all (ds := ds) fun x hx => h x (List.mem_cons_of_mem _ hx)
    obtain ⟨k1, k2, k3, k4, k5⟩ := h d (List.mem_cons_self ..)
    refine ⟨?_, ?_, ?_, ?_, ?_⟩
    · unfold PyData.canLayAll0
      rw [k1, h1]
      rfl
    · unfold PyData.depthAll
      omega
    · unfold PyData.weightAll
      rw [List.length_cons, Nat.add_mul]
      omega
    · unfold PyData.intsShortAll
      rw [k4, h4]
      rfl
    · unfold PyData.showableAll
      rw [k5, h5]
      rfl
theorem shw_tuple {a n m : Nat} {ds : List PyData} (h : ∀ d ∈ ds, Shw a n d) (l : ds.length ≤ m) : Shw (a + 1) (m * (n + 1)) (.tuple ds) := by
  obtain ⟨h1, h2, h3, h4, h5⟩ := shw_all h
  have l2 : ds.length * (n + 1) ≤ m * (n + 1) := Nat.mul_le_mul_right _ l
  refine ⟨h1, ?_, ?_, h4, h5⟩
  · unfold PyData.depth
    omega
  · unfold PyData.weight
    omega
theorem shw_list {a n m : Nat} {ds : List PyData} (h : ∀ d ∈ ds, Shw a n d) (l : ds.length ≤ m) : Shw (a + 1) (m * (n + 1)) (.list ds) := by
  obtain ⟨h1, h2, h3, h4, h5⟩ := shw_all h
  have l2 : ds.length * (n + 1) ≤ m * (n + 1) := Nat.mul_le_mul_right _ l
  refine ⟨h1, ?_, ?_, h4, h5⟩
  · unfold PyData.depth
    omega
  · unfold PyData.weight
    omega
theorem Shw.len {a n : Nat} {d : PyData} (h : Shw a n d) (x : a ≤ 64) (y : n ≤ 1000000) : d.shown.length ≤ sizeLine := by
  have z : d.layable0 = true := by
    unfold PyData.layable0
    rw [h.lay, decide_eq_true (p := d.depth ≤ 64) (Nat.le_trans h.dp x), decide_eq_true (p := d.weight ≤ 2 ^ 20) (Nat.le_trans h.wt (Nat.le_trans y (by decide)))]
    rfl
  have := PyData.shown_le_of_layable0 z h.ish
  rw [sizeLine_eq]
  omega
theorem Shw.shaped {a n : Nat} {d : PyData} (h : Shw a n d) (x : a ≤ 64) : SeqAt.shaped d = true := by
  unfold SeqAt.shaped
  rw [h.lay, decide_eq_true (p := d.depth ≤ 64) (Nat.le_trans h.dp x)]
  rfl
def dB (b : Int × Int) : PyData := .tuple [.int b.1, .int b.2]
def d3 (r : Str × Int × Int) : PyData := .tuple [.str r.1, .int r.2.1, .int r.2.2]
def d2 (r : Str × Int) : PyData := .tuple [.str r.1, .int r.2]
def dP (r : Str × List (Int × Int)) : PyData := .tuple [.str r.1, .tuple (r.2.map dB)]
def dW (W : Wd) : List PyData := [.tuple (W.ms.map d3), .tuple (W.cs.map d3), .tuple (W.ss.map d2), .tuple (W.ps.map dP)]
theorem shw_B {b : Int × Int} (s : Small b) : Shw 1 122 (dB b) := by
  obtain ⟨s1, s2, s3⟩ := s
  refine shw_tuple (a := 0) (n := 60) (ds := [.int b.1, .int b.2]) (m := 2) (fun d hd => ?_) (Nat.le_refl 2)
  simp only [List.mem_cons, List.not_mem_nil, or_false] at hd
  rcases hd with rfl | rfl
  · exact shw_int s1 (Int.le_trans s2 s3)
  · exact shw_int (Int.le_trans s1 s2) s3
theorem shw_3 {r : Str × Int × Int} (w : isW r.1 = true) (b : 0 ≤ r.2.1 ∧ r.2.1 ≤ r.2.2 ∧ r.2.2 ≤ 1000) : Shw 1 183 (d3 r) := by
  refine shw_tuple (a := 0) (n := 60) (ds := [.str r.1, .int r.2.1, .int r.2.2]) (m := 3) (fun d hd => ?_) (Nat.le_refl 3)
  simp only [List.mem_cons, List.not_mem_nil, or_false] at hd
  rcases hd with rfl | rfl | rfl
  · exact shw_str w
  · exact shw_int (by omega) (by omega)
  · exact shw_int (by omega) (by omega)
theorem shw_2 {r : Str × Int} (w : isW r.1 = true) (b : 0 ≤ r.2 ∧ r.2 ≤ 1000000000000) : Shw 1 122 (d2 r) := by
  refine shw_tuple (a := 0) (n := 60) (ds := [.str r.1, .int r.2]) (m := 2) (fun d hd => ?_) (Nat.le_refl 2)
  simp only [List.mem_cons, List.not_mem_nil, or_false] at hd
  rcases hd with rfl | rfl
  · exact shw_str w
  · exact shw_int b.1 b.2
theorem shw_P {r : Str × List (Int × Int)} (w : isW r.1 = true) (l : r.2.length ≤ 3) (b : ∀ x ∈ r.2, Small x) : Shw 3 1000 (dP r) := by
  have h1 : Shw 2 369 (.tuple (r.2.map dB)) := shw_tuple (m := 3) (fun d hd => by
    obtain ⟨x, hx, rfl⟩ := List.mem_map.mp hd
    exact shw_B (b x hx)) (by rw [List.length_map]; exact l)
  refine (shw_tuple (ds := [.str r.1, .tuple (r.2.map dB)]) (a := 2) (n := 369) (m := 2) (fun d hd => ?_) (Nat.le_refl 2)).mono (Nat.le_refl _) (by decide)
  simp only [List.mem_cons, List.not_mem_nil, or_false] at hd
  rcases hd with rfl | rfl
  · exact (shw_str w).mono (by decide) (by decide)
  · exact h1
theorem shw_W {W : Wd} (g : GoodF W) : Shw 5 100000 (.list (dW W)) := by
  have g1 := g.m2
  have g2 := g.c2
  have g3 := g.s2
  have g4 := g.p2
  refine (shw_list (ds := dW W) (a := 4) (n := 8008) (m := 4) (fun d hd => ?_) (Nat.le_refl 4)).mono (Nat.le_refl _) (by decide)
  unfold dW at hd
  simp only [List.mem_cons, List.not_mem_nil, or_false] at hd
  rcases hd with rfl | rfl | rfl | rfl
  · exact (shw_tuple (a := 1) (n := 183) (m := 8) (fun d hd => by
      obtain ⟨x, hx, rfl⟩ := List.mem_map.mp hd
      exact shw_3 (g.wm hx) (g.mb x hx)) (by rw [List.length_map]; omega)).mono (by decide) (by decide)
  · exact (shw_tuple (a := 1) (n := 183) (m := 8) (fun d hd => by
      obtain ⟨x, hx, rfl⟩ := List.mem_map.mp hd
      exact shw_3 (g.wc hx) (g.cb x hx)) (by rw [List.length_map]; omega)).mono (by decide) (by decide)
  · exact (shw_tuple (a := 1) (n := 122) (m := 8) (fun d hd => by
      obtain ⟨x, hx, rfl⟩ := List.mem_map.mp hd
      exact shw_2 (g.ws hx) (g.sb x hx)) (by rw [List.length_map]; omega)).mono (by decide) (by decide)
  · exact (shw_tuple (a := 3) (n := 1000) (m := 8) (fun d hd => by
      obtain ⟨x, hx, rfl⟩ := List.mem_map.mp hd
      have h := g.pb x hx
      exact shw_P (g.wp hx) (by omega) h.2) (by rw [List.length_map]; omega)).mono (by decide) (by decide)
/-! as what is shown -/
theorem rpAll_of {α : Type} {H : Hp} {f : α → PyData} : ∀ {vs : List V} {rs : List α}, Paired (fun v r => rp H (f r) v) vs rs → rpAll H (rs.map f) vs
  | _, _, .nil => by
    unfold rpAll
    rfl
  | v :: vs, r :: rs, .cons a t => by
    show rpAll H (f r :: rs.map f) (v :: vs)
    unfold rpAll
    exact ⟨v, vs, rfl, a, rpAll_of t⟩
theorem rp_B {H : Hp} {v : V} {b : Int × Int} (h : Bnd H v b) : rp H (dB b) v := by
  obtain ⟨a, rfl, e⟩ := h
  unfold dB rp
  exact ⟨a, _, rfl, e, by simp [rpAll, rp]⟩
theorem rp_3 {H : Hp} {v : V} {r : Str × Int × Int} (h : Row3 H v r) : rp H (d3 r) v := by
  obtain ⟨a, rfl, e⟩ := h
  unfold d3 rp
  exact ⟨a, _, rfl, e, by simp [rpAll, rp]⟩
theorem rp_2 {H : Hp} {v : V} {r : Str × Int} (h : Row2 H v r) : rp H (d2 r) v := by
  obtain ⟨a, rfl, e⟩ := h
  unfold d2 rp
  exact ⟨a, _, rfl, e, by simp [rpAll, rp]⟩
theorem rp_tup {α : Type} {H : Hp} {f : α → PyData} {a : Addr} {vs : List V} {rs : List α} (e : H a = some (.tup vs)) (h : Paired (fun v r => rp H (f r) v) vs rs) : rp H (.tuple (rs.map f)) (.ref a) := by
  unfold rp
  exact ⟨a, vs, rfl, e, rpAll_of h⟩
theorem rp_P {H : Hp} {v : V} {r : Str × List (Int × Int)} (h : RowP H v r) : rp H (dP r) v := by
  obtain ⟨a, t, vs, rfl, e, et, p⟩ := h
  have h1 : rp H (.tuple (r.2.map dB)) (.ref t) := rp_tup et (L2.Paired.mapP p fun _ _ z => rp_B z)
  unfold dP
  unfold rp
  refine ⟨a, _, rfl, e, ?_⟩
  unfold rpAll
  refine ⟨_, _, rfl, by unfold rp; rfl, ?_⟩
  unfold rpAll
  exact ⟨_, _, rfl, h1, by unfold rpAll; rfl⟩
end LJ
set_option Elab.async false
set_option linter.all false
set_option maxRecDepth 100000
set_option maxHeartbeats 4000000
/-! Values of a bounded size and depth; what stands beside the jar; a tuple beside the empty one. -/
namespace LJ
open PySem PySem.Spec L2
open LamX (ExtN TabB)
open NdefX (NTab TabsN)
/-- known, to this depth, and no tuple longer than B -/
def Bd (K : PySem.W.Frag) (H : Hp) (B : Nat) : Nat → V → Prop
  | 0, x => Kn K H x ∧ ∀ xs, tupOf H x = some xs → xs.length ≤ B
  | n + 1, x => Kn K H x ∧ ∀ xs, tupOf H x = some xs → xs.length ≤ B ∧ ∀ y ∈ xs, Bd K H B n y
section
variable {K : PySem.W.Frag} {H H1 : Hp} {B B1 : Nat}
theorem Bd.kn : ∀ {n : Nat} {x : V}, Bd K H B n x → Kn K H x
  | 0, _, d => d.1
  | _ + 1, _, d => d.1
theorem Bd.len : ∀ {n : Nat} {x : V} {xs : List V}, Bd K H B n x → tupOf H x = some xs → xs.length ≤ B
  | 0, _, _, d, e => d.2 _ e
  | _ + 1, _, _, d, e => (d.2 _ e).1
theorem Bd.deep : ∀ {n : Nat} {x : V}, Bd K H B n x → Deep K H n x
  | 0, _, d => d.1
  | _ + 1, _, d => ⟨d.1, fun xs e y hy => Bd.deep ((d.2 xs e).2 y hy)⟩
theorem Bd.exN (e : ExtN H H1) : ∀ {n : Nat} {x : V}, Bd K H B n x → Bd K H1 B n x
  | 0, x, d => ⟨d.1.exN e, fun xs h => d.2 xs (by rw [← d.1.tupsN e]; exact h)⟩
  | n + 1, x, d => ⟨d.1.exN e, fun xs h => ⟨(d.2 xs (by rw [← d.1.tupsN e]; exact h)).1, fun y hy => Bd.exN e ((d.2 xs (by rw [← d.1.tupsN e]; exact h)).2 y hy)⟩⟩
theorem Bd.more (l : B ≤ B1) : ∀ {n : Nat} {x : V}, Bd K H B n x → Bd K H B1 n x
  | 0, x, d => ⟨d.1, fun xs h => Nat.le_trans (d.2 xs h) l⟩
  | n + 1, x, d => ⟨d.1, fun xs h => ⟨Nat.le_trans (d.2 xs h).1 l, fun y hy => Bd.more l ((d.2 xs h).2 y hy)⟩⟩
theorem Bd.down : ∀ {n : Nat} {x : V}, Bd K H B (n + 1) x → Bd K H B n x
  | 0, _, d => ⟨d.1, fun xs h => (d.2 xs h).1⟩
  | n + 1, _, d => ⟨d.1, fun xs h => ⟨(d.2 xs h).1, fun y hy => Bd.down ((d.2 xs h).2 y hy)⟩⟩
theorem Bd.flat {x : V} (k : Kn K H x) (n : tupOf H x = none) : ∀ {m : Nat}, Bd K H B m x
  | 0 => ⟨k, fun xs e => by rw [n] at e; cases e⟩
  | _ + 1 => ⟨k, fun xs e => by rw [n] at e; cases e⟩
theorem Bd.int {i : Int} {m : Nat} : Bd K H B m (.int i) := .flat (.int i) rfl
theorem Bd.str {s : Str} {m : Nat} (l : s.length ≤ 1000) : Bd K H B m (.str s) := .flat (.str s (by rw [sizeLine_eq]; omega)) rfl
theorem Bd.non {m : Nat} : Bd K H B m .non := .flat (.oth (t := .type "NoneType") (b := false) (fun _ _ => .base .non) (kit_ty (by decide +kernel)) (kit_ty (by decide +kernel)) (kit_ty (by decide +kernel)) (kit_ty (by decide +kernel)) rfl rfl fun _ _ => rfl) rfl
theorem Bd.bl {b : Bool} {m : Nat} : Bd K H B m (.bl b) := .flat (.oth (t := .type "bool") (b := true) (fun _ _ => .base (.bl b)) (kit_ty (by decide +kernel)) (kit_ty (by decide +kernel)) (kit_ty (by decide +kernel)) (kit_ty (by decide +kernel)) rfl rfl fun _ _ => rfl) rfl
theorem no_tup {a : Addr} {o : HO} (h : H a = some o) (n : ∀ xs, o ≠ .tup xs) : tupOf H (.ref a) = none := by
  show (match H a with
    | some (.tup ys) => some ys
    | _ => none) = none
  rw [h]
  cases o <;> first | rfl | exact absurd rfl (n _)
theorem Bd.lst {a : Addr} {xs : List V} {m : Nat} (h : H a = some (.lst xs)) : Bd K H B m (.ref a) :=
  .flat (.oth (t := .type "list") (b := false) (fun H1 e => .base (.lst (e _ _ h fun _ z => nomatch z))) (kit_ty (by decide +kernel)) (kit_ty (by decide +kernel)) (kit_ty (by decide +kernel)) (kit_ty (by decide +kernel)) rfl rfl
    fun H1 e => no_tup (e _ _ h fun _ z => nomatch z) fun _ z => nomatch z) (no_tup h fun _ z => nomatch z)
theorem Bd.dct {a : Addr} {kvs : List (Key × V)} {m : Nat} (h : H a = some (.dK kvs)) : Bd K H B m (.ref a) :=
  .flat (.oth (t := .type "dict") (b := false) (fun H1 e => .base (.dK (e _ _ h fun _ z => nomatch z))) (kit_ty (by decide +kernel)) (kit_ty (by decide +kernel)) (kit_ty (by decide +kernel)) (kit_ty (by decide +kernel)) rfl rfl
    fun H1 e => no_tup (e _ _ h fun _ z => nomatch z) fun _ z => nomatch z) (no_tup h fun _ z => nomatch z)
theorem Bd.tup {a : Addr} {xs : List V} {n : Nat} (h : H a = some (.tup xs)) (l : xs.length ≤ B) (b : B ≤ 100000) (d : ∀ y ∈ xs, Bd K H B n y) : Bd K H B (n + 1) (.ref a) :=
  ⟨.tup h (by rw [sizeLine_eq]; omega), fun ys e => by
    rw [tup_at h] at e
    cases e
    exact ⟨l, d⟩⟩
theorem Bd.at {a : Addr} {xs : List V} {n : Nat} (d : Bd K H B (n + 1) (.ref a)) (h : H a = some (.tup xs)) : xs.length ≤ B ∧ ∀ y ∈ xs, Bd K H B n y := d.2 xs (tup_at h)
theorem Bd.tup0 {a : Addr} {n : Nat} (h : H a = some (.tup [])) : Bd K H B n (.ref a) := by
  cases n with
  | zero => exact ⟨.tup h (Nat.zero_le _), fun ys e => by
      rw [tup_at h] at e
      cases e
      exact Nat.zero_le _⟩
  | succ n => exact ⟨.tup h (Nat.zero_le _), fun ys e => by
      rw [tup_at h] at e
      cases e
      exact ⟨Nat.zero_le _, fun _ z => nomatch z⟩⟩
end
/-! beside the jar, and what else is still changed -/
def cut (js : List Addr) (H : Hp) : Hp := fun b => if b ∈ js then none else H b
theorem cut_ne {js : List Addr} {b : Addr} {H : Hp} (h : b ∉ js) : cut js H b = H b := if_neg h
theorem cut_same {js : List Addr} {b : Addr} {H : Hp} (h : b ∈ js) : cut js H b = none := if_pos h
/-- all these stand -/
def Held (js : List Addr) (H : Hp) : Prop := ∀ a ∈ js, H a ≠ none
theorem Held.ne {js : List Addr} {H : Hp} {p : Addr} (h : Held js H) (n : H p = none) : p ∉ js := fun m => h p m n
/-- all but j and the tables stays -/
def Kp (j : Addr) (H H1 : Hp) : Prop := ∀ b o, b ≠ j → H b = some o → (∀ ps, o ≠ .tbl ps) → H1 b = some o
theorem Kp.of_but {j : Addr} {H H1 : Hp} (b : But j H H1) : Kp j H H1 := fun a o n e _ => b a o n e
theorem Kp.of_ext {j : Addr} {H H1 : Hp} (e : ExtN H H1) : Kp j H H1 := fun a o _ h n => e a o h n
theorem Kp.of_ex {j : Addr} {H H1 : Hp} (e : Ex H H1) : Kp j H H1 := fun a o _ h _ => e a o h
theorem Kp.trans {j : Addr} {H H1 H2 : Hp} (a : Kp j H H1) (b : Kp j H1 H2) : Kp j H H2 := fun c o n e t => b c o n (a c o n e t) t
theorem Kp.refl {j : Addr} {H : Hp} : Kp j H H := fun _ _ _ e _ => e
theorem tabs_but {j : Addr} {T : List NTab} {H H1 : Hp} (J : JarAt H j) (b : But j H H1) (t : TabsN T H) : TabsN T H1 := fun r hr => by
  obtain ⟨d, m, c, e, _⟩ := J
  obtain ⟨ps, h1, h2, h3⟩ := t r hr
  refine ⟨ps, b _ _ (ne_of h1 e fun z => nomatch z) h1, h2, fun pos v hv => ?_⟩
  obtain ⟨c, e1, e2⟩ := h3 pos v hv
  exact ⟨c, e1, b _ _ (ne_of e2 e fun z => nomatch (show HO.ext _ = HO.lst _ from z)) e2⟩
theorem Ex.jar {j : Addr} {H H1 : Hp} (e : Ex H H1) (h : JarAt H j) : JarAt H1 j := by
  obtain ⟨d, m, c, z, r⟩ := h
  exact ⟨d, m, c, e _ _ z, r⟩
theorem ExtN.jar {j : Addr} {H H1 : Hp} (e : ExtN H H1) (h : JarAt H j) : JarAt H1 j := by
  obtain ⟨d, m, c, z, r⟩ := h
  exact ⟨d, m, c, e _ _ z (fun _ q => nomatch q), r⟩
theorem But.cut {j : Addr} {js : List Addr} {H H1 : Hp} (b : But j H H1) (m : j ∈ js) : ExtN (cut js H) (cut js H1) := fun a o e _ => by
  by_cases z : a ∈ js
  · rw [cut_same z] at e
    cases e
  · rw [cut_ne z] at e ⊢
    exact b a o (fun y => z (y ▸ m)) e
theorem Ex.cut {js : List Addr} {H H1 : Hp} (b : Ex H H1) : ExtN (cut js H) (cut js H1) := fun a o e _ => by
  by_cases z : a ∈ js
  · rw [cut_same z] at e
    cases e
  · rw [cut_ne z] at e ⊢
    exact b a o e
theorem cut_up {js : List Addr} {H : Hp} : ExtN (cut js H) H := fun a o e _ => by
  by_cases z : a ∈ js
  · rw [cut_same z] at e
    cases e
  · rw [cut_ne z] at e
    exact e
theorem cut_at {js : List Addr} {a : Addr} {H : Hp} {o : HO} (e : cut js H a = some o) : H a = some o ∧ a ∉ js := by
  by_cases z : a ∈ js
  · rw [cut_same z] at e
    cases e
  · exact ⟨by rw [cut_ne z] at e; exact e, z⟩
theorem cut_of {js : List Addr} {a : Addr} {H : Hp} {o : HO} (e : H a = some o) (n : a ∉ js) : cut js H a = some o := by
  rw [cut_ne n]
  exact e
theorem Held.ex {js : List Addr} {H H1 : Hp} (e : Ex H H1) (h : Held js H) : Held js H1 := fun a m z => by
  cases q : H a with
  | none => exact h a m q
  | some o =>
    rw [e a o q] at z
    cases z
theorem Held.but {j : Addr} {js : List Addr} {H H1 : Hp} (b : But j H H1) (J : JarAt H1 j) (h : Held js H) : Held js H1 := fun a m z => by
  by_cases y : a = j
  · obtain ⟨d, m, c, e, _⟩ := J
    rw [y, e] at z
    cases z
  · cases q : H a with
    | none => exact h a m q
    | some o =>
      rw [b a o y q] at z
      cases z
end LJ
set_option Elab.async false
set_option linter.all false
set_option maxRecDepth 100000
set_option maxHeartbeats 8000000
namespace LJ
open PySem PySem.Spec L2
theorem spl_ne (S : List Nat) : ∀ (L : List Nat) (k : Nat) (acc : List Nat), TL.spl S k acc L ≠ []
  | [], k, acc => by
    rw [TL.spl.eq_1]
    exact List.cons_ne_nil _ _
  | c :: r, 0, acc => by
    rw [TL.spl.eq_2]
    split
    · exact List.cons_ne_nil _ _
    · exact spl_ne S r 0 _
  | c :: r, k + 1, acc => by
    rw [show k + 1 = k.succ from rfl, TL.spl.eq_3]
    exact spl_ne S r k acc
theorem spl_sum (S : List Nat) : ∀ (L : List Nat) (k : Nat) (acc : List Nat), ((TL.spl S k acc L).map List.length).sum ≤ acc.length + L.length ∧ (TL.spl S k acc L).length ≤ L.length + 1
  | [], k, acc => by
    rw [TL.spl.eq_1]
    simp
  | c :: r, 0, acc => by
    rw [TL.spl.eq_2]
    split
    · have h := spl_sum S r (S.length - 1) []
      simp only [List.map_cons, List.sum_cons, List.length_cons, List.length_nil] at h ⊢
      omega
    · have h := spl_sum S r 0 (acc ++ [c])
      simp only [List.length_append, List.length_cons, List.length_nil] at h ⊢
      omega
  | c :: r, k + 1, acc => by
    rw [show k + 1 = k.succ from rfl, TL.spl.eq_3]
    have h := spl_sum S r k acc
    simp only [List.length_cons]
    omega
theorem mem_sum {xs : List Nat} {n : Nat} (h : n ∈ xs) : n ≤ xs.sum := by
  induction xs with
  | nil => cases h
  | cons m r ih =>
    rw [List.sum_cons]
    rcases List.mem_cons.mp h with rfl | h
    · omega
    · have := ih h
      omega
theorem kind_1 {y : Str} {c : Nat} (hy : TL.tl y = [c]) (h : c < 256) (x : Str) : ¬ Builtin.Str.strKind x < Builtin.Str.strKind y := by
  have e : y = ⟨#[c]⟩ := TL.ext_tl hy
  have k1 : Builtin.Str.strKind y = 1 := by
    rw [e]
    unfold Builtin.Str.strKind
    rw [if_pos (by simpa using h)]
  rw [k1]
  unfold Builtin.Str.strKind
  split
  · decide
  · split <;> decide
section
variable {x y : Str} {c : Nat} (hy : TL.tl y = [c]) (h : c < 256)
include hy h
theorem split_spl1 : (Txt.split x y).map TL.tl = TL.spl [c] 0 [] (TL.tl x) := by
  rw [← hy]
  exact TL.split_spl x y (by rw [hy]; exact List.cons_ne_nil _ _) (kind_1 hy h x)
theorem split_ne : Txt.split x y ≠ [] := fun z => by
  have e := split_spl1 (x := x) hy h
  rw [z] at e
  exact spl_ne _ _ _ _ e.symm
theorem split_sum : ((Txt.split x y).map Str.length).sum ≤ x.length ∧ (Txt.split x y).length ≤ x.length + 1 := by
  have e := split_spl1 (x := x) hy h
  have s := spl_sum [c] (TL.tl x) 0 []
  rw [← e, List.map_map, List.length_map] at s
  have e2 : (List.length ∘ TL.tl : Str → Nat) = Str.length := by
    funext z
    show z.cps.toList.length = z.length
    rw [Array.length_toList]
    rfl
  rw [e2] at s
  have e3 : (TL.tl x).length = x.length := congrFun e2 x
  rw [e3] at s
  simpa using s
theorem split_le {p : Str} (hp : p ∈ Txt.split x y) : p.length ≤ x.length := by
  have s := (split_sum (x := x) hy h).1
  have := mem_sum (List.mem_map_of_mem (f := Str.length) hp)
  omega
end
theorem spl_mem (S : List Nat) : ∀ (L : List Nat) (k : Nat) (acc : List Nat), ∀ p ∈ TL.spl S k acc L, ∀ c ∈ p, c ∈ acc ∨ c ∈ L
  | [], k, acc, p, hp, c, hc => by
    rw [TL.spl.eq_1] at hp
    obtain rfl := List.mem_singleton.mp hp
    exact .inl hc
  | d :: r, 0, acc, p, hp, c, hc => by
    rw [TL.spl.eq_2] at hp
    split at hp
    · rcases List.mem_cons.mp hp with rfl | hp
      · exact .inl hc
      · rcases spl_mem S r _ [] p hp c hc with z | z
        · cases z
        · exact .inr (List.mem_cons_of_mem _ z)
    · rcases spl_mem S r 0 (acc ++ [d]) p hp c hc with z | z
      · rcases List.mem_append.mp z with z | z
        · exact .inl z
        · obtain rfl := List.mem_singleton.mp z
          exact .inr (List.mem_cons_self ..)
      · exact .inr (List.mem_cons_of_mem _ z)
  | d :: r, k + 1, acc, p, hp, c, hc => by
    rw [show k + 1 = k.succ from rfl, TL.spl.eq_3] at hp
    rcases spl_mem S r k acc p hp c hc with z | z
    · exact .inl z
    · exact .inr (List.mem_cons_of_mem _ z)
theorem ok_iff {z : Str} : PyData.strOk z = true ↔ ∀ c ∈ TL.tl z, c < 1114112 := by
  unfold PyData.strOk
  rw [← Array.all_toList, List.all_eq_true]
  exact forall_congr' fun c => forall_congr' fun _ => ⟨of_decide_eq_true, decide_eq_true⟩
theorem split_mem {x y : Str} {c : Nat} (hy : TL.tl y = [c]) (h : c < 256) {p : Str} (hp : p ∈ Txt.split x y) : ∀ d ∈ TL.tl p, d ∈ TL.tl x := fun d hd => by
  have e := split_spl1 (x := x) hy h
  have m : TL.tl p ∈ TL.spl [c] 0 [] (TL.tl x) := e ▸ List.mem_map_of_mem (f := TL.tl) hp
  rcases spl_mem _ _ _ _ _ m d hd with z | z
  · cases z
  · exact z
theorem split_ok {x y : Str} {c : Nat} (hy : TL.tl y = [c]) (h : c < 256) (ok : PyData.strOk x = true) {p : Str} (hp : p ∈ Txt.split x y) : PyData.strOk p = true :=
  ok_iff.mpr fun d hd => ok_iff.mp ok d (split_mem hy h hp d hd)
open LamX (ExtN)
inductive St (K : PySem.W.Frag) (H : Hp) : V → Prop
  | str (s : Str) (le : s.length ≤ sizeLine) : St K H (.str s)
  | oth {x : V} {t : Value} (ty : ∀ H1, ExtN H H1 → TyX K H1 x t) (s : PySem.W.kitOne K t (.type "str") = some false) (ns : ∀ z, x ≠ .str z) : St K H x
theorem St.exN {K : PySem.W.Frag} {H H1 : Hp} {x : V} (k : St K H x) (e : ExtN H H1) : St K H1 x := by
  cases k with
  | str s le => exact .str s le
  | oth ty s ns => exact .oth (fun H2 e2 => ty H2 (e.trans e2)) s ns
theorem St.ty {K : PySem.W.Frag} {H : Hp} {x : V} (k : St K H x) : ∃ t b, TyX K H x t ∧ PySem.W.kitOne K t (.type "str") = some b ∧ ((b = true ∧ ∃ s, x = .str s) ∨ (b = false ∧ ∀ z, x ≠ .str z)) := by
  cases k with
  | str s le => exact ⟨_, true, .base (.str s), kit_ty (by decide +kernel), .inl ⟨rfl, s, rfl⟩⟩
  | @oth _ t ty s ns => exact ⟨t, false, ty _ (ExtN.refl _), s, .inr ⟨rfl, ns⟩⟩
theorem Kn.st {K : PySem.W.Frag} {H : Hp} {x : V} (k : Kn K H x) : St K H x := by
  cases k with
  | int i => exact .oth (t := .type "int") (fun _ _ => .base (.int i)) (kit_ty (by decide +kernel)) fun z e => nomatch e
  | str s le => exact .str s le
  | @tup a xs e le => exact .oth (t := .type "tuple") (fun H1 e1 => .base (.tup (tup_n e1 e))) (kit_ty (by decide +kernel)) fun z e => nomatch e
  | @oth _ t b ty i l s u ni nn nt =>
    refine .oth ty s fun z e => ?_
    subst e
    have h := ty H (ExtN.refl _)
    cases h with
    | base h =>
      cases h with
      | str _ =>
        have : PySem.W.kitOne K (.type "str") (.type "str") = some true := kit_ty (by decide +kernel)
        rw [this] at s
        cases s
end LJ
/-! list(s) of a text. -/
namespace SetX
open PySem PySem.Spec L2
theorem vals_of : ∀ {xs : List V} {us : List Value}, xs.length = us.length → (∀ (i : Nat) (x : V) (u : Value), xs[i]? = some x → us[i]? = some u → RelV x u) → Vals xs us
  | [], [], _, _ => .nil
  | [], _ :: _, h, _ => nomatch h
  | _ :: _, [], h, _ => nomatch h
  | x :: xs, u :: us, h, r => .cons (r 0 x u rfl rfl) (vals_of (Nat.succ.inj h) fun i y v hy hv => r (i + 1) y v hy hv)
/-- the signs of a text -/
def signs (z : Str) : List Str := z.cps.toList.map fun c => ⟨#[c]⟩
theorem call_listS {X : Cx} (hc : X.calm = true) : CallR X (.type "list") fun xs H Q => ∃ z : Str, xs = [.str z] ∧ z.length ≤ sizeLine ∧ ∀ l, H l = none → Q (.ref l) (upd H l (.lst ((signs z).map V.str))) := by
  intro pins s σ H xs us Q I r ⟨z, e, lz, q⟩
  subst e
  obtain ⟨u, rfl, t, rfl⟩ := vals1 r
  refine call_list_str (I.ok.hd hc) z t (fun h' tk acc' c' k e it => ?_) lz
  obtain ⟨sz, at_⟩ := it
  have ll : ((signs z).map V.str).length = z.cps.size := by
    unfold signs
    rw [List.length_map, List.length_map, Array.length_toList]
  refine ⟨.ref s.heap.objs.size, upd H s.heap.objs.size (.lst ((signs z).map V.str)), I.laid k (Nat.le_refl _) (show ObjOk X.prog X.w _ h' _ (HO.lst ((signs z).map V.str)) from ⟨by rw [ll]; exact lz, acc'.toList, c', vals_of (by rw [ll, Array.length_toList, sz]) fun i x u hx hu => ?_, e⟩), rfl, q _ (HOk.fresh I.hok (Nat.le_refl _))⟩
  rw [Array.getElem?_toList] at hu
  obtain ⟨c, t2, hc2, rfl⟩ := at_ i u hu
  unfold signs at hx
  rw [List.map_map, List.getElem?_map, Array.getElem?_toList, hc2] at hx
  cases hx
  exact ⟨t2, rfl⟩
end SetX
/-! Texts cut and joined: their signs and lengths. -/
namespace LJ
open PySem PySem.Spec L2
/-- signs below 128 alone -/
abbrev Tk (z : Str) : Prop := (TL.tl z).all (fun c => decide (c < 128)) = true
theorem tk_iff {z : Str} : Tk z ↔ ∀ c ∈ TL.tl z, c < 128 := by
  unfold Tk
  rw [List.all_eq_true]
  exact forall_congr' fun c => forall_congr' fun _ => ⟨of_decide_eq_true, decide_eq_true⟩
theorem tk_free {z : Str} : Tk z ↔ ∀ c, 128 ≤ c → Free c z := by
  rw [tk_iff]
  exact ⟨fun h c hc hm => by have := h c hm; omega, fun h c hc => Decidable.byContradiction fun n => h c (by omega) hc⟩
theorem tk_str {z : Str} (h : Tk z) : PyData.strOk z = true := by
  rw [ok_iff]
  exact fun c hc => Nat.lt_of_lt_of_le (tk_iff.mp h c hc) (by decide)
theorem tk_app {a b : Str} (ha : Tk a) (hb : Tk b) : Tk (a ++ b) := by
  rw [tk_iff] at *
  intro c hc
  rw [TL.tl_append] at hc
  rcases List.mem_append.mp hc with h | h
  · exact ha c h
  · exact hb c h
theorem tk_join {sep : Str} {ys : List Str} (hs : Tk sep) (h : ∀ y ∈ ys, Tk y) : Tk (Txt.join sep ys) :=
  tk_free.mpr fun c hc => free_join (tk_free.mp hs c hc) fun y hy => tk_free.mp (h y hy) c hc
theorem tk_cut {z : Str} {lo hi : Option Int} (h : Tk z) : Tk (cutS z lo hi) := by
  rw [tk_iff] at *
  intro c hc
  unfold cutS at hc
  exact h c (List.mem_of_mem_drop (List.mem_of_mem_take hc))
theorem tk_split {x y : Str} {c : Nat} (hy : TL.tl y = [c]) (h : c < 256) (ok : Tk x) {p : Str} (hp : p ∈ Txt.split x y) : Tk p :=
  tk_iff.mpr fun d hd => tk_iff.mp ok d (split_mem hy h hp d hd)
theorem len_app (a b : Str) : (a ++ b).length = a.length + b.length := by
  show (a ++ b).cps.size = a.cps.size + b.cps.size
  rw [← Array.length_toList, ← Array.length_toList, ← Array.length_toList, ← List.length_append]
  exact congrArg List.length (TL.tl_append a b)
theorem len_tl (z : Str) : z.cps.toList.length = z.length := Array.length_toList
theorem cut_lo {z : Str} {i : Int} (h0 : 0 ≤ i) : (cutS z none (some i)).length ≤ i.toNat := by
  unfold cutS HT.sIx
  show (List.toArray _).size ≤ _
  rw [List.size_toArray, List.length_take]
  simp only
  rw [if_neg (by omega)]
  omega
theorem cut_hi {z : Str} {i : Int} (h0 : 0 ≤ i) : (cutS z (some i) none).length + i.toNat ≤ z.length + (i.toNat - z.length) := by
  unfold cutS HT.sIx
  show (List.toArray _).size + _ ≤ _
  rw [List.size_toArray, List.length_take, List.length_drop, len_tl]
  simp only
  rw [if_neg (by omega)]
  omega
theorem split_tot {x y : Str} {c : Nat} (hy : TL.tl y = [c]) (h : c < 256) : ((Txt.split x y).map Str.length).sum + (Txt.split x y).length = x.length + 1 := by
  have e := split_spl1 (x := x) hy h
  have go : ∀ (L acc : List Nat), ((TL.spl [c] 0 acc L).map List.length).sum + (TL.spl [c] 0 acc L).length = acc.length + L.length + 1 := by
    intro L
    induction L with
    | nil =>
      intro acc
      rw [TL.spl.eq_1]
      simp
    | cons d r ih =>
      intro acc
      rw [TL.spl.eq_2]
      split
      · have := ih []
        show ((acc :: TL.spl [c] 0 [] r).map List.length).sum + (acc :: TL.spl [c] 0 [] r).length = _
        simp only [List.map_cons, List.sum_cons, List.length_cons, List.length_nil] at this ⊢
        omega
      · have := ih (acc ++ [d])
        simp only [List.length_append, List.length_cons, List.length_nil] at this ⊢
        omega
  have s := go (TL.tl x) []
  rw [← e, List.map_map, List.length_map] at s
  have e2 : (List.length ∘ TL.tl : Str → Nat) = Str.length := by
    funext z
    exact len_tl z
  rw [e2] at s
  have e3 : (TL.tl x).length = x.length := len_tl x
  rw [e3] at s
  simpa using s
theorem sum_at {xs : List Nat} : ∀ {i : Nat} (h : i < xs.length), (xs.take i).sum + xs[i] + (xs.drop (i + 1)).sum = xs.sum := fun {i} h => by
  have e : xs = xs.take i ++ xs[i] :: xs.drop (i + 1) := by rw [List.getElem_cons_drop, List.take_append_drop]
  have := congrArg List.sum e
  rw [List.sum_append, List.sum_cons] at this
  omega
/-- a thing in a list exchanged for some -/
def edit (ys : List Str) (i : Nat) (ms : List Str) : List Str := ys.take i ++ ms ++ ys.drop (i + 1)
theorem edit_mem {ys ms : List Str} {i : Nat} {p : Str} (h : p ∈ edit ys i ms) : p ∈ ys ∨ p ∈ ms := by
  unfold edit at h
  rcases List.mem_append.mp h with h | h
  · rcases List.mem_append.mp h with h | h
    · exact .inl (List.mem_of_mem_take h)
    · exact .inr h
  · exact .inl (List.mem_of_mem_drop h)
theorem edit_n {ys ms : List Str} {i : Nat} (lt : i < ys.length) : (edit ys i ms).length + 1 = ys.length + ms.length := by
  unfold edit
  rw [List.length_append, List.length_append, List.length_take, List.length_drop]
  omega
theorem edit_sum {ys ms : List Str} {i : Nat} (lt : i < ys.length) : ((edit ys i ms).map Str.length).sum + ys[i].length = (ys.map Str.length).sum + (ms.map Str.length).sum := by
  have := sum_at (xs := ys.map Str.length) (i := i) (by rw [List.length_map]; exact lt)
  unfold edit
  rw [List.map_append, List.map_append, List.sum_append, List.sum_append, List.map_take, List.map_drop]
  rw [List.getElem_map] at this
  omega
theorem edit_len {sep : Str} (hs : sep.length = 1) {ys ms : List Str} {i L : Nat} (lt : i < ys.length) (hS : (ys.map Str.length).sum + ys.length ≤ L + 1) : (Txt.join sep (edit ys i ms)).length + ys[i].length ≤ L + (ms.map Str.length).sum + ms.length := by
  have h1 := edit_n (ms := ms) lt
  have h2 := edit_sum (ms := ms) lt
  rw [join_len, hs, Nat.mul_one]
  have h3 : ((edit ys i ms).map (·.length)).sum = ((edit ys i ms).map Str.length).sum := rfl
  rw [h3]
  generalize ((edit ys i ms).map Str.length).sum = S at *
  cases hn : (edit ys i ms).length with
  | zero => 
    have : edit ys i ms = [] := List.length_eq_zero_iff.mp hn
    omega
  | succ n => omega
theorem shw_txt {z : Str} {n : Nat} (ok : Tk z) (l : z.length ≤ n) : Shw 0 n (.str z) := ⟨tk_str ok, Nat.le_refl _, l, rfl, rfl⟩
end LJ
/-! Data of texts can be shown, and what is shown is a text. -/
namespace LJ
open PySem PySem.Spec L2 PySem.ErrV
open Builtin.Str in
theorem rc_ok : ∀ c : Fin 128, (reprChar 34 c.val).all (fun x => decide (x < 1114112)) = true ∧ (reprChar 39 c.val).all (fun x => decide (x < 1114112)) = true := by decide +kernel
open Builtin.Str in
theorem fold_ok {q : Nat} (hq : ∀ c, c < 128 → ∀ x ∈ reprChar q c, x < 1114112) : ∀ (l : List Nat) (acc : Array Nat), (∀ c ∈ l, c < 128) → (∀ x ∈ acc.toList, x < 1114112) → ∀ x ∈ (l.foldl (fun out c => out ++ (reprChar q c).toArray) acc).toList, x < 1114112
  | [], _, _, h => h
  | c :: l, acc, hl, h => by
    rw [List.foldl_cons]
    refine fold_ok hq l _ (fun d hd => hl d (List.mem_cons_of_mem _ hd)) fun x hx => ?_
    rw [Array.toList_append] at hx
    rcases List.mem_append.mp hx with hx | hx
    · exact h x hx
    · exact hq c (hl c (List.mem_cons_self ..)) x (by simpa using hx)
open Builtin.Str in
theorem repr_tk {z : Str} (h : Tk z) : PyData.strOk (reprText z) = true := by
  have quote : reprQuote z = 34 ∨ reprQuote z = 39 := by
    unfold reprQuote
    split <;> simp
  have hq : ∀ c, c < 128 → ∀ x ∈ reprChar (reprQuote z) c, x < 1114112 := fun c hc x hx => by
    have r := rc_ok ⟨c, hc⟩
    rcases quote with e | e
    · rw [e] at hx
      exact of_decide_eq_true (List.all_eq_true.mp r.1 x hx)
    · rw [e] at hx
      exact of_decide_eq_true (List.all_eq_true.mp r.2 x hx)
  have cs : ∀ c ∈ z.cps.toList, c < 128 := tk_iff.mp h
  unfold PyData.strOk reprText
  rw [← Array.all_toList, List.all_eq_true]
  intro x hx
  refine decide_eq_true ?_
  rw [Array.toList_push, List.mem_append] at hx
  rcases hx with hx | hx
  · rw [← Array.foldl_toList] at hx
    exact fold_ok hq _ _ cs (fun y hy => by
      simp only [List.mem_cons, List.not_mem_nil, or_false] at hy
      rcases quote with e | e <;> rw [hy, e] <;> decide) x hx
  · simp only [List.mem_cons, List.not_mem_nil, or_false] at hx
    rcases quote with e | e <;> rw [hx, e] <;> decide
theorem so_app {a b : Str} (ha : PyData.strOk a = true) (hb : PyData.strOk b = true) : PyData.strOk (a ++ b) = true := by
  rw [ok_iff] at *
  intro c hc
  rw [TL.tl_append] at hc
  rcases List.mem_append.mp hc with h | h
  · exact ha c h
  · exact hb c h
theorem so_from : ∀ (ts : List Str) (k : Nat) (acc : Str), PyData.strOk acc = true → (∀ t ∈ ts, PyData.strOk t = true) → PyData.strOk (textFrom k acc ts) = true
  | [], _, _, h, _ => h
  | t :: ts, k, acc, h, ht => by
    show PyData.strOk (textFrom (k + 1) _ ts) = true
    refine so_from ts (k + 1) _ (so_app (so_app h ?_) (ht t (List.mem_cons_self ..))) fun u hu => ht u (List.mem_cons_of_mem _ hu)
    split <;> decide +kernel
theorem so_join : ∀ (ts : List Str), (∀ t ∈ ts, PyData.strOk t = true) → PyData.strOk (Str.join (Str.ofString ", ") ts) = true
  | [], _ => by decide +kernel
  | [x], h => h x (List.mem_cons_self ..)
  | x :: y :: r, h => by
    show PyData.strOk (x ++ Str.ofString ", " ++ Str.join (Str.ofString ", ") (y :: r)) = true
    exact so_app (so_app (h x (List.mem_cons_self ..)) (by decide +kernel)) (so_join (y :: r) fun t ht => h t (List.mem_cons_of_mem _ ht))
theorem all_shown : ∀ (ds : List PyData), PyData.shownAll ds = ds.map PyData.shown
  | [] => PyData.shownAll.eq_1
  | d :: ds => by rw [PyData.shownAll.eq_2, all_shown ds, List.map_cons]
/-- data of texts -/
inductive Nice : PyData → Prop
  | flat {d : PyData} (h : PyData.strOk d.shown = true) : Nice d
  | str {z : Str} (h : Tk z) : Nice (.str z)
  | list {ds : List PyData} (h : ∀ d ∈ ds, Nice d) : Nice (.list ds)
  | tuple {ds : List PyData} (h : ∀ d ∈ ds, Nice d) : Nice (.tuple ds)
theorem Nice.shown {d : PyData} (h : Nice d) : PyData.strOk d.shown = true := by
  induction h with
  | flat h => exact h
  | str h =>
    rw [PyData.shown.eq_4]
    exact repr_tk h
  | @list ds h ih =>
    rw [PyData.shown.eq_5, all_shown]
    unfold listText
    refine so_app (so_from _ _ _ (by decide +kernel) fun t ht => ?_) (by decide +kernel)
    obtain ⟨d, hd, rfl⟩ := List.mem_map.mp ht
    exact ih d hd
  | @tuple ds h ih =>
    rw [PyData.shown.eq_6, all_shown]
    unfold tupleText
    refine so_app (so_app (by decide +kernel) (so_join _ fun t ht => ?_)) ?_
    · obtain ⟨d, hd, rfl⟩ := List.mem_map.mp ht
      exact ih d hd
    · split <;> decide +kernel
theorem dat_nice {H : Hp} {v : V} {d : PyData} {a n : Nat} (r : rp H d v) (s : Shw a n d) (x : a ≤ 64) (y : n ≤ 1000000) (k : Nice d) : Dat H d v := ⟨.inl r, s.sh, by have := s.dp; omega, s.len x y, k.shown⟩
theorem tk_name {z : Str} (h : isW z = true) : Tk z := tk_free.mpr fun c hc => free_name h (by omega)
theorem dat_str {H : Hp} {z : Str} (h : Tk z) (l : z.length ≤ 1000000) : Dat H (.str z) (.str z) := dat_nice (by unfold rp; rfl) (shw_txt h l) (by decide) (Nat.le_refl _) (.str h)
end LJ
set_option Elab.async false
set_option linter.all false
set_option maxRecDepth 100000
set_option maxHeartbeats 8000000
/-! xs.count(y) of texts. -/
namespace SetX
open PySem PySem.Spec PyProof.Rows L2
section
variable {X : Cx}
def rCntS (K : PySem.W.Frag) : V → List V → Hp → VK → Prop := fun x xs H Q => ∃ (p : Addr) (ns : List Str) (k : Str), x = .ref p ∧ xs = [.str k] ∧ SqL K H p (ns.map V.str) ∧ Q (.int (ns.count k : Nat)) H
theorem count_sum (k : Str) : ∀ ns : List Str, countIn (.str k) (ns.map PyData.str) = (ns.count k : Nat) := fun ns => by
  rw [countIn_strs_sum]
  induction ns with
  | nil => rfl
  | cons a r ih =>
    rw [List.map_cons, List.sum_cons, ih, List.count_cons]
    split
    · push_cast
      omega
    · push_cast
      omega
theorem mt_lcountS : MtR X "list.count" (rCntS X.K) := by
  intro pins s σ H x xs v us Q I rx rxs h
  obtain ⟨p, ns, k, rfl, rfl, hs, q⟩ := h
  cases rx
  obtain ⟨u, rfl, ru⟩ := rxs.one
  obtain ⟨t, rfl⟩ := ru
  obtain ⟨its, rv, ⟨o, n, ho, hc, hdn, hd⟩, hlen⟩ := I.list hs
  refine count_list_strs ⟨o, ho, hc, n, hd⟩ (strs_of_vals rv) ?_
  rw [count_sum]
  exact ⟨.int (ns.count k : Nat), H, I.tok _, ⟨s.toks, rfl⟩, q⟩
end
end SetX
set_option Elab.async false
set_option linter.all false
set_option maxRecDepth 100000
set_option maxHeartbeats 8000000
namespace LJ
open PySem PySem.Spec L2
abbrev sPair : Stmt := top 37
abbrev hy : Str := Str.ofString "-"
def spPair : Sp := fun vs H Q _ => ∃ z : Str, vs = [.str z] ∧ z.length ≤ 600 ∧ (∀ p ∈ Txt.split z hy, p.length ≤ 600) ∧ ∀ p H1, Ex H H1 → H p = none → H1 p = some (.tup ((Txt.split z hy).map fun w => optI (rdN w))) → Q (.ref p) H1
theorem split_len2 (z y : Str) : (Txt.split z y).length ≤ z.length + 2 := PyProof.Rows.split_le z y
section
variable {P : Program} {w : World} {K : PySem.W.Frag} {mg : Str → Option Value} {base : Heap}
theorem scPair : FnScope ["word", "part"] ["word"] (defScope sPair) := ⟨rfl, rfl, rfl, by decide +kernel, rfl, by decide +kernel, by decide +kernel⟩
theorem ok_pair {f fN : Addr} {fd fdN : FuncData} (F : Fun K "_read_pair" "_read_pair" sPair f fd) (BT : mg "tuple" = none)
    (GN : FnOk P w K mg base CX0 1 fN fdN ["word"] spNum) (mN : mg "read_number" = some (.ref fN)) (kN : PySem.W.keepIn K (.ref fN) = true) (bN : Binds K fdN ["word"] []) : FnOk P w K mg base CX0 2 f fd ["word"] spPair := by
  refine F.ok scPair (fun vs H Q E h => ?_) (fun cdv A outer s H vs Q E hr h => ?_)
  · obtain ⟨z, rfl, _⟩ := h
    rfl
  · obtain ⟨z, rfl, zl, pl, q⟩ := h
    refine ⟨_, pss_one (ps_ret (pe_tupleOf (by rfl) BT (pe_lc (own := [("part", 1)]) (g := gName 1) (te := tCall spNum [] E0 (tCons (tVar 1) tNil)) (by rfl) scPair.nd (pi_list (pe_split (pv 0) pe_str)) (blkOk_by (own := [("part", 1)]) (N := ["word", "part"]) (sc := defScope sPair) (by decide +kernel))
      (fun _ _ _ _ _ => pg_name (i := 1) scPair.nd rfl (Or.inl rfl)) (fun _ _ _ _ _ => pts_nil) (fun _ _ _ _ _ => pe_call GN hr (by rfl) mN kN bN .nil pass0 (pa_cons (pv 1) pa_nil))))), ?_⟩
    have sz := sizeLine_eq
    have sl := split_len2 z hy
    refine ⟨_, rfl, ⟨_, rfl⟩, _, _, rfl, rfl, by decide +kernel, by omega, fun L nL => ?_⟩
    have x1 : Ex H (upd H L (.lst ((Txt.split z hy).map V.str))) := Ex.refl.new nL
    have e1 : (upd H L (.lst ((Txt.split z hy).map V.str))) L = some (.lst ((Txt.split z hy).map V.str)) := upd_same
    show _
    generalize upd H L (.lst ((Txt.split z hy).map V.str)) = H1 at x1 e1 ⊢
    refine ⟨L, rfl, ⟨_, SqL.of e1⟩, fun D hD => lc_list (K := K) (a := L) (xs := (Txt.split z hy).map V.str) (fun i G => Ex H1 G ∧ G D = some (.lst (((Txt.split z hy).take i).map fun w => optI (rdN w)))) ⟨Ex.refl.new hD, upd_same⟩ (fun i G _ h => SqL.of (h.1 _ _ e1)) ?_ ?_⟩
    · rintro i v G hv ⟨xG, eG⟩
      rw [List.getElem?_map] at hv
      obtain ⟨p, hp, rfl⟩ := Option.map_eq_some_iff.mp hv
      have hm := List.mem_of_getElem? hp
      have li : i < (Txt.split z hy).length := (List.getElem?_eq_some_iff.mp hp).1
      refine ⟨rfl, _, rfl, p, rfl, pl p hm, fun G2 x2 => ⟨_, x2 _ _ eG, ?_, (xG.trans x2).put hD, ?_⟩⟩
      · rw [List.length_map, List.length_take]
        omega
      · rw [upd_same, List.take_succ, hp, List.map_append]
        rfl
    · rintro G ⟨xG, eG⟩
      rw [List.length_map, List.take_of_length_le (Nat.le_refl _)] at eG
      refine .inl ⟨D, _, rfl, SqL.of eG, fun t nt => ?_⟩
      have hn : H t = none := x1.gone (xG.gone nt)
      exact q t _ (x1.trans (xG.trans (Ex.refl.new nt))) hn upd_same
end
end LJ
set_option Elab.async false
set_option linter.all false
set_option maxRecDepth 100000
set_option maxHeartbeats 8000000
namespace LJ
open PySem PySem.Spec L2
abbrev sRow : Stmt := top 36
theorem cut_take1 (xs : List V) : cutV xs none (some 1) = xs.take 1 := by
  unfold cutV HT.sIx
  cases xs with
  | nil => rfl
  | cons a r =>
    show List.take (min (1 : Int).toNat (r.length + 1) - 0) (List.drop 0 (a :: r)) = _
    rw [show (1 : Int).toNat = 1 from rfl, Nat.min_eq_left (by omega)]
    rfl
theorem cut_drop1 (xs : List V) : cutV xs (some 1) none = xs.drop 1 := by
  unfold cutV HT.sIx
  cases xs with
  | nil => rfl
  | cons a r =>
    show List.take (r.length + 1 - min (1 : Int).toNat (r.length + 1)) (List.drop (min (1 : Int).toNat (r.length + 1)) (a :: r)) = _
    rw [show (1 : Int).toNat = 1 from rfl, Nat.min_eq_left (by omega)]
    show List.take (r.length + 1 - 1) r = r
    exact List.take_of_length_le (by omega)
def PairAt (H : Hp) (v : V) (z : Str) : Prop := ∃ a, v = .ref a ∧ H a = some (.tup ((Txt.split z hy).map fun p => optI (rdN p)))
theorem PairAt.ex {H H1 : Hp} {v : V} {z : Str} (e : Ex H H1) (h : PairAt H v z) : PairAt H1 v z := by
  obtain ⟨a, h1, h2⟩ := h
  exact ⟨a, h1, e _ _ h2⟩
def numsOf (zs : List Str) : List V := zs.map fun p => optI (rdN p)
/-- words that are short, with their parts -/
def Short (z : Str) : Prop := z.length ≤ 600 ∧ ∀ p ∈ Txt.split z hy, p.length ≤ 600
def spRd : Sp := fun vs H Q _ => ∃ (k : Str) (a : Addr) (zs : List Str), vs = [.str k, .ref a] ∧ H a = some (.lst (zs.map V.str)) ∧ zs.length ≤ 100000 ∧ (∀ z ∈ zs, Short z) ∧
  (k = kP → ∀ (t b : Addr) (vals : List V) (H1 : Hp), Ex H H1 → H b = none → H1 b = some (.tup ((zs.take 1).map V.str ++ [.ref t])) → H1 t = some (.tup vals) → Paired (PairAt H1) vals (zs.drop 1) → Q (.ref b) H1) ∧
  (k ≠ kP → ∀ (b : Addr) (H1 : Hp), Ex H H1 → H b = none → H1 b = some (.tup ((zs.take 1).map V.str ++ numsOf (zs.drop 1))) → Q (.ref b) H1)
section
variable {P : Program} {w : World} {K : PySem.W.Frag} {mg : Str → Option Value} {base : Heap}
theorem scRd : FnScope ["kind", "words", "word"] ["kind", "words"] (defScope sRow) := ⟨rfl, rfl, rfl, by decide +kernel, rfl, by decide +kernel, by decide +kernel⟩
theorem ok_row {f fN fP : Addr} {fd fdN fdP : FuncData} (F : Fun K "_read_row" "_read_row" sRow f fd) (BT : mg "tuple" = none)
    (GN : FnOk P w K mg base CX0 1 fN fdN ["word"] spNum) (mN : mg "read_number" = some (.ref fN)) (kN : PySem.W.keepIn K (.ref fN) = true) (bN : Binds K fdN ["word"] [])
    (GP : FnOk P w K mg base CX0 2 fP fdP ["word"] spPair) (mP : mg "_read_pair" = some (.ref fP)) (kPP : PySem.W.keepIn K (.ref fP) = true) (bP : Binds K fdP ["word"] []) : FnOk P w K mg base CX0 3 f fd ["kind", "words"] spRd := by
  refine F.ok scRd (fun vs H Q E h => ?_) (fun cdv A outer s H vs Q E hr h => ?_)
  · obtain ⟨k, a, zs, rfl, _⟩ := h
    rfl
  · obtain ⟨k, a, zs, rfl, ha, zl, sh, q1, q2⟩ := h
    have hr1 : Room 1 _ := hr.mono (by decide)
    refine ⟨_, pss_cons (ps_if (pt_cmpR op_eq (pv 0) pe_str (nomark _)) (pss_one (ps_ret (pe_tupleOf (by rfl) BT (pe_op op_cat (pe_slice sl_list (pv 1) po_none (po_some pe_int)) (pe_lst (pa_cons (pe_tupleOf (by rfl) BT
        (pe_lc (own := [("word", 2)]) (g := gName 2) (te := tCall spPair [] E0 (tCons (tVar 2) tNil)) (by rfl) scRd.nd (pi_list (pe_slice sl_list (pv 1) (po_some pe_int) po_none)) (blkOk_by (own := [("word", 2)]) (N := ["kind", "words", "word"]) (sc := defScope sRow) (by decide +kernel))
      (fun _ _ _ _ _ => pg_name (i := 2) scRd.nd rfl (Or.inl rfl)) (fun _ _ _ _ _ => pts_nil) (fun _ _ _ _ _ => pe_call GP hr (by rfl) mP kPP bP .nil pass0 (pa_cons (pv 2) pa_nil)))) pa_nil)))))) pss_nil)
      (pss_one (ps_ret (pe_tupleOf (by rfl) BT (pe_op op_cat (pe_slice sl_list (pv 1) po_none (po_some pe_int))
        (pe_lc (own := [("word", 2)]) (g := gName 2) (te := tCall spNum [] E0 (tCons (tVar 2) tNil)) (by rfl) scRd.nd (pi_list (pe_slice sl_list (pv 1) (po_some pe_int) po_none)) (blkOk_by (own := [("word", 2)]) (N := ["kind", "words", "word"]) (sc := defScope sRow) (by decide +kernel))
      (fun _ _ _ _ _ => pg_name (i := 2) scRd.nd rfl (Or.inl rfl)) (fun _ _ _ _ _ => pts_nil) (fun _ _ _ _ _ => pe_call GN hr1 (by rfl) mN kN bN .nil pass0 (pa_cons (pv 2) pa_nil))))))), ?_⟩
    have sz := sizeLine_eq
    refine ⟨_, rfl, rfl, _, rfl, ?_⟩
    have dm : ∀ z ∈ zs.drop 1, z ∈ zs := fun z hz => List.mem_of_mem_drop hz
    have dl : (zs.drop 1).length ≤ 100000 := by rw [List.length_drop]; omega
    refine ite2 (fun c1 => ?_) (fun c1 => ?_)
    · have ek : k = kP := V.str.inj (of_decide_eq_true c1)
      refine ⟨_, rfl, 1, rfl, a, _, rfl, SqL.of ha, fun p1 n1 => ?_⟩
      rw [cut_take1, ← List.map_take]
      have x1 : Ex H (upd H p1 (.lst ((zs.take 1).map V.str))) := Ex.refl.new n1
      have e1 : (upd H p1 (.lst ((zs.take 1).map V.str))) p1 = some (.lst ((zs.take 1).map V.str)) := upd_same
      generalize upd H p1 (.lst ((zs.take 1).map V.str)) = H1 at x1 e1 ⊢
      refine ⟨_, rfl, 1, rfl, a, _, rfl, SqL.of (x1 _ _ ha), fun p2 n2 => ?_⟩
      rw [cut_drop1, ← List.map_drop]
      have x2 : Ex H1 (upd H1 p2 (.lst ((zs.drop 1).map V.str))) := Ex.refl.new n2
      have e2 : (upd H1 p2 (.lst ((zs.drop 1).map V.str))) p2 = some (.lst ((zs.drop 1).map V.str)) := upd_same
      generalize upd H1 p2 (.lst ((zs.drop 1).map V.str)) = H2 at x2 e2 ⊢
      refine ⟨p2, rfl, ⟨_, SqL.of e2⟩, fun D hD => lc_list (K := K) (a := p2) (xs := (zs.drop 1).map V.str) (fun i G => Ex H2 G ∧ ∃ vals, G D = some (.lst vals) ∧ Paired (PairAt G) vals ((zs.drop 1).take i)) ⟨Ex.refl.new hD, [], upd_same, .nil⟩ (fun i G _ h => SqL.of (h.1 _ _ e2)) ?_ ?_⟩
      · rintro i v G hv ⟨xG, vals, eG, pG⟩
        rw [List.getElem?_map] at hv
        obtain ⟨z, hz, rfl⟩ := Option.map_eq_some_iff.mp hv
        have hm := dm z (List.mem_of_getElem? hz)
        have li : i < (zs.drop 1).length := (List.getElem?_eq_some_iff.mp hz).1
        have vl := Paired.size pG
        rw [List.length_take] at vl
        refine ⟨rfl, _, rfl, z, rfl, (sh z hm).1, (sh z hm).2, fun p G2 xG2 np eP => ⟨_, xG2 _ _ eG, by omega, (xG.trans xG2).put hD, vals ++ [.ref p], upd_same, ?_⟩⟩
        rw [List.take_succ, hz]
        have x3 : Ex G2 (upd G2 D (.lst (vals ++ [.ref p]))) → True := fun _ => trivial
        have far : ∀ b xs, G2 b = some (.tup xs) → (upd G2 D (.lst (vals ++ [.ref p]))) b = some (.tup xs) := fun b xs e => by
          rw [upd_ne (ne_of e (xG2 _ _ eG) fun z => nomatch z)]
          exact e
        refine Paired.snoc (L2.Paired.mapP pG fun v z h => ?_) ⟨p, rfl, far _ _ eP⟩
        obtain ⟨b, h1, h2⟩ := h
        exact ⟨b, h1, far _ _ (xG2 _ _ h2)⟩
      · rintro G ⟨xG, vals, eG, pG⟩
        rw [List.length_map, List.take_of_length_le (Nat.le_refl _)] at pG
        have vl := Paired.size pG
        refine .inl ⟨D, _, rfl, SqL.of eG, fun t nt => ?_⟩
        have x3 : Ex G (upd G t (.tup vals)) := Ex.refl.new nt
        have e3 : (upd G t (.tup vals)) t = some (.tup vals) := upd_same
        generalize upd G t (.tup vals) = G1 at x3 e3 ⊢
        refine ⟨by rw [sz]; show 1 ≤ 16777216; decide, fun l nl => ?_⟩
        have x4 : Ex G1 (upd G1 l (.lst [.ref t])) := Ex.refl.new nl
        have e4 : (upd G1 l (.lst [.ref t])) l = some (.lst [.ref t]) := upd_same
        generalize upd G1 l (.lst [.ref t]) = G2 at x4 e4 ⊢
        have y4 := x2.trans (xG.trans (x3.trans x4))
        refine ⟨p1, l, _, _, rfl, rfl, y4 _ _ e1, e4, by rw [List.length_map, List.length_take, sz]; simp; omega, fun l2 nl2 => ?_⟩
        refine .inl ⟨l2, _, rfl, SqL.of upd_same, fun b nb => ?_⟩
        have x5 : Ex G2 (upd (upd G2 l2 (.lst ((zs.take 1).map V.str ++ [.ref t]))) b (.tup ((zs.take 1).map V.str ++ [.ref t]))) := (Ex.refl.new nl2).trans (Ex.refl.new nb)
        have e5 : (upd (upd G2 l2 (.lst ((zs.take 1).map V.str ++ [.ref t]))) b (.tup ((zs.take 1).map V.str ++ [.ref t]))) b = some (.tup ((zs.take 1).map V.str ++ [.ref t])) := upd_same
        have hb : H b = none := x1.gone (y4.gone ((Ex.refl.new nl2).gone nb))
        generalize upd (upd G2 l2 (.lst ((zs.take 1).map V.str ++ [.ref t]))) b (.tup ((zs.take 1).map V.str ++ [.ref t])) = G3 at x5 e5 ⊢
        exact q1 ek t b vals G3 (x1.trans (y4.trans x5)) hb e5 (x5 _ _ (x4 _ _ e3)) (L2.Paired.mapP pG fun v z h => h.ex (x3.trans (x4.trans x5)))
    · have ek : k ≠ kP := fun z => c1 (decide_eq_true (by rw [z]; rfl))
      refine ⟨_, rfl, 1, rfl, a, _, rfl, SqL.of ha, fun p1 n1 => ?_⟩
      rw [cut_take1, ← List.map_take]
      have x1 : Ex H (upd H p1 (.lst ((zs.take 1).map V.str))) := Ex.refl.new n1
      have e1 : (upd H p1 (.lst ((zs.take 1).map V.str))) p1 = some (.lst ((zs.take 1).map V.str)) := upd_same
      generalize upd H p1 (.lst ((zs.take 1).map V.str)) = H1 at x1 e1 ⊢
      refine ⟨_, rfl, 1, rfl, a, _, rfl, SqL.of (x1 _ _ ha), fun p2 n2 => ?_⟩
      rw [cut_drop1, ← List.map_drop]
      have x2 : Ex H1 (upd H1 p2 (.lst ((zs.drop 1).map V.str))) := Ex.refl.new n2
      have e2 : (upd H1 p2 (.lst ((zs.drop 1).map V.str))) p2 = some (.lst ((zs.drop 1).map V.str)) := upd_same
      generalize upd H1 p2 (.lst ((zs.drop 1).map V.str)) = H2 at x2 e2 ⊢
      refine ⟨p2, rfl, ⟨_, SqL.of e2⟩, fun D hD => lc_list (K := K) (a := p2) (xs := (zs.drop 1).map V.str) (fun i G => Ex H2 G ∧ G D = some (.lst (numsOf ((zs.drop 1).take i)))) ⟨Ex.refl.new hD, upd_same⟩ (fun i G _ h => SqL.of (h.1 _ _ e2)) ?_ ?_⟩
      · rintro i v G hv ⟨xG, eG⟩
        rw [List.getElem?_map] at hv
        obtain ⟨z, hz, rfl⟩ := Option.map_eq_some_iff.mp hv
        have hm := dm z (List.mem_of_getElem? hz)
        have li : i < (zs.drop 1).length := (List.getElem?_eq_some_iff.mp hz).1
        refine ⟨rfl, _, rfl, z, rfl, (sh z hm).1, fun G2 xG2 => ⟨_, xG2 _ _ eG, ?_, (xG.trans xG2).put hD, ?_⟩⟩
        · unfold numsOf
          rw [List.length_map, List.length_take]
          omega
        · unfold numsOf
          rw [upd_same, List.take_succ, hz, List.map_append]
          rfl
      · rintro G ⟨xG, eG⟩
        rw [List.length_map, List.take_of_length_le (Nat.le_refl _)] at eG
        have y4 := x2.trans xG
        refine ⟨p1, D, _, _, rfl, rfl, y4 _ _ e1, eG, by unfold numsOf; rw [List.length_map, List.length_take, List.length_map, sz]; omega, fun l2 nl2 => ?_⟩
        refine .inl ⟨l2, _, rfl, SqL.of upd_same, fun b nb => ?_⟩
        have x5 : Ex G (upd (upd G l2 (.lst ((zs.take 1).map V.str ++ numsOf (zs.drop 1)))) b (.tup ((zs.take 1).map V.str ++ numsOf (zs.drop 1)))) := (Ex.refl.new nl2).trans (Ex.refl.new nb)
        have hb : H b = none := x1.gone (y4.gone ((Ex.refl.new nl2).gone nb))
        exact q2 ek b _ (x1.trans (y4.trans x5)) hb upd_same
end
end LJ
set_option Elab.async false
set_option linter.all false
set_option maxRecDepth 100000
set_option maxHeartbeats 8000000
namespace LJ
open PySem PySem.Spec L2
/-! All works that may be fit. -/
theorem Good.F {W : Wd} (g : Good W) : GoodF W := ⟨g.m1, g.m2, by have := g.c2; omega, g.s1, by have := g.s2; omega, g.p1, by have := g.p2; omega, g.mb, g.cb, g.sb, g.pb, g.nd, fun x hx => menu_w x (g.nm x hx)⟩
section
variable {K : PySem.W.Frag} {H : Hp}
theorem goodF_fit {am ac as ap : Addr} {vm vc vs2 vp : List V} {W : Wd} (g : GoodF W) (hm : H am = some (.tup vm)) (hc : H ac = some (.tup vc)) (hs : H as = some (.tup vs2)) (hp : H ap = some (.tup vp))
    (pm : Paired (Row3 H) vm W.ms) (pc : Paired (Row3 H) vc W.cs) (ps : Paired (Row2 H) vs2 W.ss) (pp : Paired (RowP H) vp W.ps) : Fit K H am ac as ap vm vc vs2 vp := by
  have l1 : vm.length = W.ms.length := Paired.size pm
  have l2 : vc.length = W.cs.length := Paired.size pc
  have l3 : vs2.length = W.ss.length := Paired.size ps
  have l4 : vp.length = W.ps.length := Paired.size pp
  have g1 := g.m1
  have g2 := g.m2
  have g3 := g.c2
  have g4 := g.s1
  have g5 := g.s2
  have g6 := g.p1
  have g7 := g.p2
  have im : ∀ r ∈ W.ms, isW r.1 = true := fun r hr => g.wm hr
  have ic : ∀ r ∈ W.cs, isW r.1 = true := fun r hr => g.wc hr
  have is : ∀ r ∈ W.ss, isW r.1 = true := fun r hr => g.ws hr
  have ip : ∀ r ∈ W.ps, isW r.1 = true := fun r hr => g.wp hr
  have em : vm.map (nameOf H) = W.ms.map (·.1) := paired_nm (fun v r h => row3_name h) pm
  have ec : vc.map (nameOf H) = W.cs.map (·.1) := paired_nm (fun v r h => row3_name h) pc
  have es : vs2.map (nameOf H) = W.ss.map (·.1) := paired_nm (fun v r h => row2_name h) ps
  have ep : vp.map (nameOf H) = W.ps.map (·.1) := paired_nm (fun v r h => rowP_name h) pp
  have nd := g.nd
  have nd3 : ((W.ms.map (·.1) ++ W.cs.map (·.1)) ++ W.ss.map (·.1) ++ W.ps.map (·.1)).Nodup := by
    rw [List.append_assoc, List.append_assoc]
    exact nd
  have nd2 : ((W.ms.map (·.1) ++ W.cs.map (·.1)) ++ W.ss.map (·.1)).Nodup := (List.nodup_append.mp nd3).1
  have nd1 : (W.ms.map (·.1) ++ W.cs.map (·.1)).Nodup := (List.nodup_append.mp nd2).1
  have nd0 : (W.ms.map (·.1)).Nodup := (List.nodup_append.mp nd1).1
  refine ⟨hm, hc, hs, hp, deep_tup hm (by omega) fun v hv => ?_, deep_tup hc (by omega) fun v hv => ?_, deep_tup hs (by omega) fun v hv => ?_, deep_tup hp (by omega) fun v hv => ?_, by omega, by omega, by omega, ?_, ?_, ?_, ?_⟩
  · obtain ⟨r, hr, h⟩ := paired_mem pm v hv
    exact row3_deep h (isW_8 (im r hr))
  · obtain ⟨r, hr, h⟩ := paired_mem pc v hv
    exact row3_deep h (isW_8 (ic r hr))
  · obtain ⟨r, hr, h⟩ := paired_mem ps v hv
    exact row2_deep h (isW_8 (is r hr))
  · obtain ⟨r, hr, h⟩ := paired_mem pp v hv
    exact rowP_deep h (isW_8 (ip r hr)) (by have := (g.pb r hr).1; omega)
  · refine fwAt_none (fun v hv => ?_) (by omega) (by rw [em]; exact nd0)
    obtain ⟨r, hr, h⟩ := paired_mem pm v hv
    obtain ⟨a, b, c⟩ := g.mb r hr
    exact row3_right h (im r hr) a b c
  · refine fwAt_none (fun v hv => ?_) (by omega) (by rw [em, ec]; exact nd1)
    obtain ⟨r, hr, h⟩ := paired_mem pc v hv
    obtain ⟨a, b, c⟩ := g.cb r hr
    exact row3_right h (ic r hr) a b c
  · refine fwAt_none (fun v hv => ?_) (by omega) (by rw [List.map_append, em, ec, es]; exact nd2)
    obtain ⟨r, hr, h⟩ := paired_mem ps v hv
    obtain ⟨a, b⟩ := g.sb r hr
    exact row2_right h (is r hr) a b
  · refine fwAt_none (fun v hv => ?_) (by omega) (by rw [List.map_append, List.map_append, em, ec, es, ep]; exact nd3)
    obtain ⟨r, hr, h⟩ := paired_mem pp v hv
    obtain ⟨a, b⟩ := g.pb r hr
    exact rowP_right h (ip r hr) (by omega) b
theorem goodF_told {W : Wd} (g : GoodF W) : Told W := by
  have g2 := g.m2
  have g3 := g.c2
  have g5 := g.s2
  have g7 := g.p2
  refine ⟨by omega, by omega, by omega, by omega, fun r hr => ?_, fun r hr => ?_, fun r hr => ?_, fun r hr => ?_⟩
  · obtain ⟨a, b, c⟩ := g.mb r hr
    exact ⟨isW_8 (g.wm hr), a, b, by omega⟩
  · obtain ⟨a, b, c⟩ := g.cb r hr
    exact ⟨isW_8 (g.wc hr), a, b, by omega⟩
  · obtain ⟨a, b⟩ := g.sb r hr
    exact ⟨isW_8 (g.ws hr), a, b⟩
  · obtain ⟨a, b⟩ := g.pb r hr
    exact ⟨isW_8 (g.wp hr), by omega, b⟩
end
end LJ
set_option Elab.async false
set_option linter.all false
set_option maxRecDepth 100000
set_option maxHeartbeats 4000000
/-! Static methods called by their class; own ==, != with both answers; str, repr and truth of own objects. -/
namespace OwnX
open PySem PySem.Spec PyProof.Rows L2
/-- m is a static method of C, the def at g -/
structure SMet (K : PySem.W.Frag) (C : Addr) (mc : Value) (m : Str) (p g : Addr) : Prop where
  ty : PySem.W.typeIn K (.ref C) = some mc
  at_ : PySem.W.findCls K (.ref C) mc m = some (.get (.builtin "staticmethod.__get__") (.ref p) .none (.ref C))
  rc : ∃ rest, PySem.W.recIn K p "staticmethod" = some (.ref g :: rest)
  kp : PySem.W.keepIn K (.ref g) = true
def tSMeth (C : Addr) (sp : Sp) (dvs : List V) (E : XK) (ta : TE) (t : TA) : TE := fun σ H Q => ta σ H fun x H1 => x = .ref C ∧ t σ H1 fun vs H2 => sp (vs ++ dvs) H2 Q E
def tSMethK (C : Addr) (sp : Sp) (n : Nat) (gV : List V → List V → List V) (E : XK) (ta : TE) (t : TA) : TE := fun σ H Q => ta σ H fun x H1 => x = .ref C ∧ t σ H1 fun zs H2 => zs.length = n ∧ sp (gV [] zs) H2 Q E
section
variable {X : Cx} {CX : CXT} {k : Nat} {p C g : Addr} {fd : FuncData} {ps ks : List Str} {sp : Sp} {dvs : List V} {ds : List Value} {mc : Value} {E : XK} {m : Str} {pos apos : Pos} {o e : Expr} {es : List Expr} {ta : TE} {t tk : TA} {kws : List Keyword} {gg : List Value → List Value → List Value} {gV : List V → List V → List V}
theorem getmeth_sm {pins : List (Addr × Obj)} {σ : L2.St} {H : Hp} {s : Shared} {A : Around} {E : Value → Shared → Prop} {pl : Sem Bool} {Q : Value × List Value → Shared → Prop}
    (I : Inv X pins σ H s) (r : ClX.CRead X.K C mc) (c : SMet X.K C mc m p g) (q : Q (.ref g, []) { s with toks := s.toks + 1 }) : wpAny (model X.prog X.w) A (getMethod (.ref C) m pl) Q E s := by
  obtain ⟨m1, fr⟩ := I.fr
  obtain ⟨rest, hrc⟩ := c.rc
  unfold getMethod
  refine wpAny_bind ((PySem.W.looks_specialIn I.kIn r.ga).at ?_)
  show wpAny _ _ (if (Manifest.canonical "type.__getattribute__" != "object.__getattribute__") = true then _ else _) _ _ _
  rw [if_pos (by decide +kernel)]
  refine wpAny_bind (PySem.W.cls_sm fr I.ok.mod.kin c.ty r.rd c.at_ hrc rfl ?_)
  exact wpAny_pure q
/-- C.m(e, ..) -/
theorem pe_smeth {pl : Sem Bool} (he : PE X o ta) (r : ClX.CRead X.K C mc) (c : SMet X.K C mc m p g) (F : FnOk X.prog X.w X.K X.mg X.base CX k g fd ps sp) (hr : Room k X.A) (hb : Binds X.K fd ps ds) (hd : Vals dvs ds) (hx : Passes CX X E) (ha : PA X (e :: es) t)
    (hs : starEach (e :: es) X.env = (false, eval e X.env) :: starEach es X.env := by rfl) (hp : (backTo pos (starEach es X.env)).any (·.1) = false := by rfl)
    (ht : eval (.Call (.Attribute o m apos) (e :: es) [] pos) X.env = (do
      let ov ← eval o X.env
      standAt apos.atName
      let (f, first) ← holding [ov] (getMethod ov m pl)
      callWith pos f first (backTo pos (starEach (e :: es) X.env)) (backToKw pos (keywordEach [] X.env))) := by rfl) :
    PE X (.Call (.Attribute o m apos) (e :: es) [] pos) (tSMeth C sp dvs E ta t) := by
  refine ⟨fun pins s σ H Q I h => ?_⟩
  refine PySem.W.methodCall_KW (pl := pl) (thn (he.run pins s σ H _ I h) fun u s1 ⟨x, H1, I1, rx, ex, q⟩ => ?_) ht
  subst ex
  obtain rfl : u = Value.ref C := rx
  refine getmeth_sm I1 r c ?_
  refine PySem.W.callWith_K (first := []) (h₀ := X.base) I.ok.mod.kin c.kp ?_ hs hp
  refine thn (ha.run pos pins _ σ H1 _ (I1.tok _) q) fun us s2 ⟨vs, H2, I2, rz, q2⟩ => ⟨I2.kIn, ?_⟩
  have r2 : Vals (vs ++ dvs) (us ++ ds) := Vals.append rz hd
  have l2 : (us ++ ds).length = ps.length := r2.length.symm.trans (F.len _ _ _ _ q2)
  refine wpAny_call (codeAny_mono (F.run X.A X.stack s2 H2 ⟨us, []⟩ (us ++ ds) (vs ++ dvs) Q E hr I2.env0 (hb s2 us I2.kIn l2) r2 q2) fun r s3 hq => ?_)
  cases r with
  | error e => exact hx pins σ H2 s2 e s3 I2 hq
  | ok fl =>
    cases fl with
    | ret u => exact I2.after hq
    | next => exact False.elim hq
    | brk => exact False.elim hq
    | cont => exact False.elim hq
/-- C.m(k = v, ..) -/
theorem pe_smethK {pl : Sem Bool} (he : PE X o ta) (r : ClX.CRead X.K C mc) (c : SMet X.K C mc m p g) (F : FnOk X.prog X.w X.K X.mg X.base CX k g fd ps sp) (hr : Room k X.A) (hb : KBn X.K fd ps 0 ks gg gV) (hx : Passes CX X E) (hkw : PK X kws tk)
    (hall : (backToKw pos (keywordEach kws X.env)).all (·.1.isSome) = true := by rfl) (hks : (backToKw pos (keywordEach kws X.env)).filterMap (·.1) = ks := by rfl)
    (hpl : ((backTo pos (starEach [] X.env)).any (·.1) || (backToKw pos (keywordEach kws X.env)).any (·.1.isNone)) = false := by rfl)
    (ht : eval (.Call (.Attribute o m apos) [] kws pos) X.env = (do
      let ov ← eval o X.env
      standAt apos.atName
      let (f, first) ← holding [ov] (getMethod ov m pl)
      callWith pos f first (backTo pos (starEach [] X.env)) (backToKw pos (keywordEach kws X.env))) := by rfl) :
    PE X (.Call (.Attribute o m apos) [] kws pos) (tSMethK C sp ks.length gV E ta tk) := by
  refine ⟨fun pins s σ H Q I h => ?_⟩
  refine PySem.W.methodCall_KW (pl := pl) (thn (he.run pins s σ H _ I h) fun u s1 ⟨x, H1, I1, rx, ex, q⟩ => ?_) ht
  subst ex
  obtain rfl : u = Value.ref C := rx
  refine getmeth_sm I1 r c ?_
  refine PySem.W.callWith_KW0 (first := []) (h₀ := X.base) I.ok.mod.kin c.kp hall ?_ hpl
  refine thn (hkw.run pos pins _ σ H1 _ (I1.tok _) q) fun ws s2 ⟨zs, H2, I2, rz, l2, q2⟩ => ⟨I2.kIn, ?_⟩
  rw [hks]
  show wpAny _ _ (call (.ref g) [] (ks.zip ws)) _ _ _
  have e2 : ws.length = ks.length := rz.length.symm.trans l2
  have r1 : Vals ([] : List V) ([] : List Value) := .nil
  refine wpAny_call (codeAny_mono (F.run X.A X.stack s2 H2 ⟨[], ks.zip ws⟩ (gg [] ws) (gV [] zs) Q E hr I2.env0 (hb.to s2 [] ws I2.kIn rfl e2) (hb.rel r1 rz) q2) fun r s3 hq => ?_)
  cases r with
  | error e => exact hx pins σ H2 s2 e s3 I2 hq
  | ok fl =>
    cases fl with
    | ret u => exact I2.after hq
    | next => exact False.elim hq
    | brk => exact False.elim hq
    | cont => exact False.elim hq
end
end OwnX
set_option Elab.async false
set_option linter.all false
set_option maxRecDepth 100000
set_option maxHeartbeats 4000000
namespace OwnX
open PySem PySem.Spec PyProof.Rows L2
section
variable {X : Cx} {CX : CXT} {k : Nat} {C f : Addr} {fd : FuncData} {sp : Sp} {E : XK} {pins : List (Addr × Obj)} {s : Shared} {σ : L2.St} {H : Hp}
/-- the instance as the machine sees it -/
theorem inst_of (I : Inv X pins σ H s) {a dx : Addr} {fs : List (Str × V)} (h : H a = some (.ins C dx fs)) : ∃ od, PySem.W.InstAt s.heap a (PySem.W.instObj C dx) C (some od) := by
  have z := I.hok a _ h
  unfold ObjOk at z
  obtain ⟨h1, h2, h3, h4, mA, h5, h6, h7⟩ := z
  obtain ⟨od, h8, _⟩ := ObjM.look ⟨h4, h5, h3⟩
  exact ⟨od, h8⟩
/-- the other side: of the same class, or a text -/
def OSide (K : PySem.W.Frag) (C : Addr) (H : Hp) (y : V) : Prop := (∃ a2 dx2 fs2, y = .ref a2 ∧ H a2 = some (.ins C dx2 fs2)) ∨ (∃ z, y = .str z) ∧ PySem.W.subIn K (.type "str") (.ref C) = some false
def rEqO (K : PySem.W.Frag) (C : Addr) (sp : Sp) (E : XK) : R2 := fun x y H Q => ∃ a dx fs, x = .ref a ∧ H a = some (.ins C dx fs) ∧ OSide K C H y ∧ sp [x, y] H (fun v H1 => ∃ b, v = .bl b ∧ Q (.bl b) H1) E
theorem op_eqO (c : Meth X.K C "__eq__" f) (F : FnOk X.prog X.w X.K X.mg X.base CX k f fd ["self", "other"] sp) (hr : Room k X.A) (hu : X.A.units + 1 < cLine) (hb : Binds X.K fd ["self", "other"] []) (hx : Passes CX X E) : OpR X (compareOp .Eq) (rEqO X.K C sp E) := by
  rintro pins s σ H x y v u Q I rx ry ⟨a, dx, fs, rfl, ha, hy, q⟩
  obtain rfl : v = Value.ref a := rx
  obtain ⟨od, J⟩ := inst_of I ha
  obtain ⟨m1, fr⟩ := I.fr
  have rv : Vals [V.ref a, y] [Value.ref a, u] := .cons rfl (.cons ry .nil)
  have go : wpAny (model X.prog X.w) X.A (call (.ref f) [.ref a, u]) (PySem.W.CmpBack (EP X pins σ Q)) X.xe s := by
    refine wpAny_call (codeAny_mono (F.run X.A X.stack s H ⟨[.ref a, u], []⟩ [.ref a, u] [.ref a, y] _ E hr I.env0 (hb s [.ref a, u] I.kIn rfl) rv q) fun r s3 hq => ?_)
    cases r with
    | error e => exact hx pins σ H s e s3 I hq
    | ok fl =>
      cases fl with
      | ret u3 =>
        obtain ⟨v3, H3, I3, r3, b, rfl, q3⟩ := I.after hq
        obtain rfl : u3 = Value.bool b := r3
        exact ⟨.bl b, H3, I3, rfl, q3⟩
      | next => exact False.elim hq
      | brk => exact False.elim hq
      | cont => exact False.elim hq
  have hu1 : X.A.units < cLine := by omega
  rcases hy with ⟨a2, dx2, fs2, rfl, h2⟩ | ⟨⟨z, rfl⟩, hz⟩
  · obtain rfl : u = Value.ref a2 := ry
    obtain ⟨od2, J2⟩ := inst_of I h2
    refine PySem.W.cmp_ofEq (PySem.W.cmp_K (h₀ := X.base) (tb := .ref C) hu1 fr I.ok.mod.kin J ?_ ?_ c.at_ c.fn go)
    · intro A Q E s1 kk qq
      exact wpAny_typeOf_ref (kk _ _ J2.at_) (by rw [J2.cls]; exact qq)
    · unfold PySem.W.notFirst
      rw [show ((Value.ref C : Value) == Value.ref C) = true from by simp]
      rfl
  · obtain ⟨t, rfl⟩ : ∃ t, u = Value.str z t := ry
    refine PySem.W.cmp_ofEq (PySem.W.cmp_K (h₀ := X.base) (tb := .type "str") hu1 fr I.ok.mod.kin J ?_ ?_ c.at_ c.fn go)
    · intro A Q E s1 kk qq
      exact wpAny_of_eq rfl qq
    · unfold PySem.W.notFirst
      rw [hz]
      rfl
end
end OwnX
set_option Elab.async false
set_option linter.all false
set_option maxRecDepth 100000
set_option maxHeartbeats 4000000
namespace OwnX
open PySem PySem.Spec PyProof.Rows L2
section
variable {X : Cx} {CX : CXT} {k : Nat} {C f : Addr} {fd : FuncData} {sp : Sp} {E : XK} {pins : List (Addr × Obj)} {s : Shared} {σ : L2.St} {H : Hp}
def rNeO (C : Addr) (sp : Sp) (E : XK) : R2 := fun x y H Q => ∃ a dx fs a2 dx2 fs2, x = .ref a ∧ y = .ref a2 ∧ H a = some (.ins C dx fs) ∧ H a2 = some (.ins C dx2 fs2) ∧ sp [x, y] H (fun v H1 => ∃ b, v = .bl b ∧ Q (.bl !b) H1) E
theorem op_neO (c : Meth X.K C "__eq__" f) (hn : PySem.W.findIn X.K (.ref C) "__ne__" = some (some (.builtin "object.__ne__"))) (so : PySem.W.subIn X.K (.ref C) (.type "object") = some true) (G : FnOk X.prog X.w X.K X.mg X.base CX k f fd ["self", "other"] sp) (hr : Room (k + 1) X.A) (hb : Binds X.K fd ["self", "other"] []) (hx : Passes CX X E) : OpR X (compareOp .NotEq) (rNeO C sp E) := by
  rintro pins s σ H x y v u Q I rx ry ⟨a, dx, fs, a2, dx2, fs2, rfl, rfl, ha, h2, q⟩
  obtain rfl : v = Value.ref a := rx
  obtain rfl : u = Value.ref a2 := ry
  obtain ⟨od, J⟩ := inst_of I ha
  obtain ⟨od2, J2⟩ := inst_of I h2
  have rv : Vals [V.ref a, V.ref a2] [Value.ref a, Value.ref a2] := .cons rfl (.cons rfl .nil)
  have ty : PySem.W.Looks (model X.prog X.w) s.heap (typeOf (.ref a)) (.ref C) := fun A Q E s1 kk qq => wpAny_typeOf_ref (kk _ _ J.at_) (by rw [J.cls]; exact qq)
  have ty2 : PySem.W.Looks (model X.prog X.w) s.heap (typeOf (.ref a2)) (.ref C) := fun A Q E s1 kk qq => wpAny_typeOf_ref (kk _ _ J2.at_) (by rw [J2.cls]; exact qq)
  have hu1 : X.A.units < cLine := by have := hr.un; omega
  have go : wpAny (model X.prog X.w) X.A.in1 (call (.ref f) [.ref a, .ref a2]) (fun v s' => ∃ b, v = .bool b ∧ EP X pins σ Q (.bool !b) s') X.xe s := by
    refine wpAny_call (codeAny_mono (G.run X.A.in1 X.stack s H ⟨[.ref a, .ref a2], []⟩ [.ref a, .ref a2] [.ref a, .ref a2] _ E ?_ ?_ (hb s [.ref a, .ref a2] I.kIn rfl) rv q) fun r s3 hq => ?_)
    · exact ⟨hr.hd, by have := hr.dp; show X.A.depth + 3 * k + 5 < recursionLimit; omega, by have := hr.un; show X.A.units + 1 + 16 * k + 200 < cLine; omega⟩
    · obtain ⟨e1, e2, e3, e4, e5, e6, e7, e8⟩ := I.env0
      exact ⟨e1, e2, e3, e4, e5, e6, e7, e8⟩
    cases r with
    | error e => exact hx pins σ H s e s3 I hq
    | ok fl =>
      cases fl with
      | ret u3 =>
        obtain ⟨v3, H3, I3, r3, b, rfl, q3⟩ := I.after hq
        obtain rfl : u3 = Value.bool b := r3
        exact ⟨b, rfl, .bl !b, H3, I3, rfl, q3⟩
      | next => exact False.elim hq
      | brk => exact False.elim hq
      | cont => exact False.elim hq
  refine PySem.W.cmp_ofNotEq ?_
  unfold richCompare
  refine wpAny_holding (wpAny_bind (wpAny_cRoomFor hu1 ?_))
  show wpAny _ _ (typeOf (.ref a) >>= fun ta => typeOf (.ref a2) >>= fun tb => _) _ _ _
  refine wpAny_bind (ty.at (wpAny_bind (ty2.at ?_)))
  rw [if_neg (by simp)]
  refine wpAny_bind (wpAny_pure ?_)
  dsimp only
  rw [if_neg (by decide)]
  refine wpAny_bind ?_
  unfold tryCompare
  refine wpAny_bind ?_
  have bs : ∀ self, bindSpecial (.builtin "object.__ne__") self = pure (.builtin "object.__ne__", [self]) := fun self => by rfl
  have fnd := PySem.W.looks_findIn (M := model X.prog X.w) I.kIn hn
  unfold callSpecialIfBound? bindSpecialIfBound? specialOf
  refine wpAny_holding (wpAny_bind (wpAny_bind (wpAny_bind (ty.at (fnd.at ?_)))))
  refine wpAny_bind (wpAny_askSetting ?_)
  have both : ∀ {c : Bool} {Q1 : Option (Value × List Value) → Shared → Prop}, Q1 (some (.builtin "object.__ne__", [.ref a])) s → wpAny (model X.prog X.w) X.A (if c = true then (do
        let z ← bindSpecial (Value.builtin "object.__ne__") (Value.ref a)
        pure (some z)) else ((do
        let z ← bindSpecial (Value.builtin "object.__ne__") (Value.ref a)
        pure (some z)).tryCatch fun _ => do
          rule "special.get-raises-dropped"
          pure none)) Q1 X.xe s := by
    intro c Q1 h
    have one : ∀ E, wpAny (model X.prog X.w) X.A (do
        let z ← bindSpecial (Value.builtin "object.__ne__") (Value.ref a)
        pure (some z)) Q1 E s := fun E => by
      rw [bs]
      exact wpAny_bind (wpAny_pure (wpAny_pure h))
    cases c
    · exact wpAny_tryCatch (one _)
    · exact one _
  refine both ?_
  refine wpAny_bind ?_
  show wpAny _ _ (call (.builtin "object.__ne__") [.ref a, .ref a2]) _ _ _
  have of_obj : PySem.W.Looks (model X.prog X.w) s.heap (isInstance (.ref a) (.type "object")) true := ty.andThen (PySem.W.looks_subIn I.kIn so)
  refine wpAny_call (codeAny_call_builtin (by decide +kernel) F.entry_object_ne (PySem.W.check_slot (owner := "object") (n := "__ne__") (by decide +kernel) (by decide +kernel) of_obj (F.args_object_ne_2 _ _) ?_))
  unfold Builtin.«object.__ne__»
  refine wpAny_bind (wpAny_of_eq (a := ((Value.ref a : Value), [Value.ref a2])) (by first | rfl | (simp only [slotArgs]; rfl)) ?_)
  refine wpAny_bind (wpAny_cRoomFor (by have := hr.un; show X.A.units + 1 < cLine; omega) ?_)
  refine wpAny_bind (PySem.W.ifBound_K I.kIn J c.at_ c.fn (thn go fun v s1 h => ?_))
  obtain ⟨b, rfl, h⟩ := h
  refine wpAny_bind (wpAny_pure ?_)
  refine wpAny_pure ?_
  exact wpAny_pure (wpAny_pure (wpAny_pure h))
end
end OwnX
set_option Elab.async false
set_option linter.all false
set_option maxRecDepth 100000
set_option maxHeartbeats 4000000
namespace OwnX
open PySem PySem.Spec PyProof.Rows L2
section
variable {X : Cx} {CX : CXT} {k : Nat} {C f : Addr} {fd : FuncData} {sp : Sp} {E : XK} {pins : List (Addr × Obj)} {s : Shared} {σ : L2.St} {H : Hp}
/-- str(o), repr(o) by a def of the class -/
def rTxtO (C : Addr) (sp : Sp) (E : XK) : List V → Hp → VK → Prop := fun xs H Q => ∃ a dx fs, xs = [.ref a] ∧ H a = some (.ins C dx fs) ∧ sp [.ref a] H (fun v H1 => ∃ z, v = .str z ∧ Q (.str z) H1) E
theorem env_in (I : Inv X pins σ H s) {A : Around} (h : A.frames = X.A.frames) : Env0 X.prog X.w X.K X.mg X.base A X.stack s H := by
  obtain ⟨e1, e2, e3, e4, e5, e6, e7, e8⟩ := I.env0
  exact ⟨h.trans e1, e2, e3, e4, e5, e6, e7, e8⟩
theorem call_of (I : Inv X pins σ H s) {A : Around} {a : Addr} {Q : VK} (h : A.frames = X.A.frames) (hr : Room k A) (G : FnOk X.prog X.w X.K X.mg X.base CX k f fd ["self"] sp) (hb : Binds X.K fd ["self"] []) (hx : Passes CX X E)
    (q : sp [.ref a] H (fun v H1 => ∃ z, v = .str z ∧ Q (.str z) H1) E) : wpAny (model X.prog X.w) A (call (.ref f) [.ref a]) (PySem.W.StrBack (EP X pins σ Q)) X.xe s := by
  refine wpAny_call (codeAny_mono (G.run A X.stack s H ⟨[.ref a], []⟩ [.ref a] [.ref a] _ E hr (env_in I h) (hb s [.ref a] I.kIn rfl) (.cons rfl .nil) q) fun r s3 hq => ?_)
  cases r with
  | error e => exact hx pins σ H s e s3 I hq
  | ok fl =>
    cases fl with
    | ret u3 =>
      obtain ⟨v3, H3, I3, r3, z, rfl, q3⟩ := I.after hq
      obtain ⟨t, rfl⟩ : ∃ t, u3 = Value.str z t := r3
      exact ⟨.str z, H3, I3, ⟨t, rfl⟩, q3⟩
    | next => exact False.elim hq
    | brk => exact False.elim hq
    | cont => exact False.elim hq
theorem call_strO (c : Meth X.K C "__str__" f) (G : FnOk X.prog X.w X.K X.mg X.base CX k f fd ["self"] sp) (hr : Room (k + 1) X.A) (hb : Binds X.K fd ["self"] []) (hx : Passes CX X E) : CallR X (.type "str") (rTxtO C sp E) := by
  rintro pins s σ H xs us Q I r ⟨a, dx, fs, rfl, ha, q⟩
  obtain rfl : us = [Value.ref a] := by
    cases r with
    | cons r1 r2 =>
      cases r2
      cases (show _ = Value.ref a from r1)
      rfl
  obtain ⟨od, J⟩ := inst_of I ha
  have h1 := hr.un
  have h2 := hr.dp
  exact PySem.W.kso_call (by show X.A.units + 1 + 1 < cLine; omega) I.kIn J c.at_ c.fn (call_of I rfl ⟨hr.hd, by show X.A.depth + 3 * k + 5 < recursionLimit; omega, by show X.A.units + 1 + 1 + 16 * k + 200 < cLine; omega⟩ G hb hx q)
theorem call_reprO (c : Meth X.K C "__repr__" f) (G : FnOk X.prog X.w X.K X.mg X.base CX k f fd ["self"] sp) (hr : Room (k + 1) X.A) (hb : Binds X.K fd ["self"] []) (hx : Passes CX X E) : CallR X (.builtin "repr") (rTxtO C sp E) := by
  rintro pins s σ H xs us Q I r ⟨a, dx, fs, rfl, ha, q⟩
  obtain rfl : us = [Value.ref a] := by
    cases r with
    | cons r1 r2 =>
      cases r2
      cases (show _ = Value.ref a from r1)
      rfl
  obtain ⟨od, J⟩ := inst_of I ha
  have h1 := hr.un
  have h2 := hr.dp
  have ty : PySem.W.Looks (model X.prog X.w) s.heap (typeOf (.ref a)) (.ref C) := fun A Q E s1 kk qq => wpAny_typeOf_ref (kk _ _ J.at_) (by rw [J.cls]; exact qq)
  have fnd := PySem.W.looks_findIn (M := model X.prog X.w) I.kIn c.at_
  refine wpAny_call (codeAny_call_builtin (by decide +kernel) F.entry_repr (wpAny_of_eq (a := ()) (by rfl) ?_))
  unfold Builtin.repr
  refine wpAny_bind (wpAny_of_eq (a := (Value.ref a)) (by first | rfl | (simp only [oneArg]; rfl)) ?_)
  refine wpAny_bind (wpAny_cRoomFor (by show X.A.units + 1 < cLine; omega) ?_)
  unfold specialOf
  refine wpAny_bind (wpAny_bind (ty.at (fnd.at ?_)))
  refine wpAny_bind (PySem.W.ifBound_K I.kIn J c.at_ c.fn (thn (call_of I (A := X.A.in1) rfl ⟨hr.hd, by show X.A.depth + 3 * k + 5 < recursionLimit; omega, by show X.A.units + 1 + 16 * k + 200 < cLine; omega⟩ G hb hx q) fun v s1 h => ?_))
  cases v with
  | str z t =>
    refine wpAny_bind (wpAny_of_eq (a := true) (by rfl) ?_)
    exact wpAny_pure h
  | _ => exact False.elim h
/-- an own object is true -/
theorem pt_truthO {e : Expr} {ta : TE} (he : PE X e ta) (hb : PySem.W.findIn X.K (.ref C) "__bool__" = some none) (hl : PySem.W.findIn X.K (.ref C) "__len__" = some none)
    (ht : ∀ (whole : Sem Value), PySem.isTrue e X.env whole = do
          let v ← whole
          standAt e.pos
          holding [v] (truthy v)) : PT X e (fun σ H Q => ta σ H fun x H1 => ∃ a dx fs, x = .ref a ∧ H1 a = some (.ins C dx fs) ∧ Q true H1) := by
  refine ⟨fun pins s σ H Q I h => ?_⟩
  rw [ht]
  refine wpAny_bind (thn (he.run pins s σ H _ I h) fun u s1 ⟨x, H1, I1, rx, a, dx, fs, ex, ea, q⟩ => ?_)
  subst ex
  obtain rfl : u = Value.ref a := rx
  obtain ⟨od, J⟩ := inst_of I1 ea
  obtain ⟨m1, fr⟩ := I1.fr
  refine wpAny_bind (wpAny_standAt (wpAny_holding (PySem.W.truthy_K0 fr I1.ok.mod.kin J hb hl ⟨H1, I1, q⟩)))
end
end OwnX
set_option Elab.async false
set_option linter.all false
set_option maxRecDepth 100000
set_option maxHeartbeats 4000000
/-! a, *b = a list -/
namespace OwnX
open PySem PySem.Spec PyProof.Rows L2
def gStar (K : PySem.W.Frag) (n i : Nat) (t : TGs) : TG := fun v σ H Q => ∃ a xs, v = .ref a ∧ SqL K H a xs ∧ i < n ∧ n ≤ xs.length + 1 ∧ xs.length ≤ 16384 ∧
  ∀ D, H D = none → t (xs.take i ++ [.ref D] ++ (xs.drop i).drop (xs.length + 1 - n)) σ (upd H D (.lst ((xs.drop i).take (xs.length + 1 - n)))) Q
section
variable {X : Cx} {es es' : List Expr} {t : TGs} {n i k : Nat} {pos : Pos}
theorem pgs_same (h : PGs X es t) (e : (assignEach es' X.env).map (·.2) = (assignEach es X.env).map (·.2) := by rfl) : PGs X es' t := ⟨fun pins s σ H vs us Q I r q => by
  rw [e]
  exact h.run pins s σ H vs us Q I r q⟩
theorem pgs_star {e : Expr} {p : Pos} {g : TG} {u : TGs} (he : PG X e g) (hs : PGs X es u) : PGs X (.Starred e p :: es) (gCons g u) := ⟨fun pins s σ H vs us Q I r q => by
  obtain ⟨v, rest, rfl, q⟩ := q
  rw [arm_assignEach_Starred]
  cases r with
  | @cons _ u1 _ us r1 r2 =>
    show wpAny _ _ (do
      holding us (assign e X.env u1)
      assignInOrder ((assignEach es X.env).map (·.2)) us) _ _ _
    refine wpAny_bind (wpAny_holding (thn (he.run pins s σ H v u1 _ I r1 q) fun _ s1 ⟨σ1, H1, I1, q1⟩ => ?_))
    exact hs.run pins s1 σ1 H1 rest us Q I1 r2 q1⟩
theorem vals_take : ∀ {xs : List V} {us : List Value} (n : Nat), Vals xs us → Vals (xs.take n) (us.take n)
  | _, _, 0, _ => .nil
  | _, _, _ + 1, .nil => .nil
  | _, _, n + 1, .cons h t => .cons h (vals_take n t)
theorem vals_drop : ∀ {xs : List V} {us : List Value} (n : Nat), Vals xs us → Vals (xs.drop n) (us.drop n)
  | _, _, 0, h => h
  | _, _, _ + 1, .nil => .nil
  | _, _, n + 1, .cons h t => vals_drop n t
theorem ns_one {h : Heap} {L : Addr} {m m' : Str → Option Value} (a : h.Ns L m) (b : h.Ns L m') : m = m' := by
  obtain ⟨o, es, ep, e1, e2, _, e3⟩ := a
  obtain ⟨o', es', ep', f1, f2, _, f3⟩ := b
  rw [e1] at f1
  cases f1
  rw [e2] at f2
  cases f2
  funext x
  rw [← e3, ← f3]
theorem pg_star (hc : X.calm = true) (hts : PGs X es t) (hn : (assignEach es X.env).length = n := by rfl) (hi : List.findIdx? (·.1) (assignEach es X.env) = some i := by rfl) : PG X (.Tuple es k pos) (gStar X.K n i t) := by
  refine ⟨fun pins s σ H v u Q I rv h => ?_⟩
  obtain ⟨a, xs, rfl, hx, i1, i2, i3, q⟩ := h
  obtain rfl : u = Value.ref a := rv
  obtain ⟨its, rx, pl, _⟩ := I.list hx
  have lx : xs.length = its.length := rx.length
  obtain ⟨oa, ea, ec, na, ed⟩ := pl.isList
  have ty : s.TypeIs (.ref a) "list" := ⟨oa, ea, ec⟩
  have sz := sizeLine_eq
  have lt := Heap.lt_size ea
  rw [arm_assign_Tuple]
  refine wpAny_bind (wpAny_standAt ?_)
  unfold unpack
  rw [hn, hi]
  refine wpAny_bind (wpAny_holding ?_)
  unfold unpackItems notIterableAtAll
  refine wpAny_bind (wpAny_bind (wpAny_specialOf ty F.slot_list_iter.lookup ?_))
  refine wpAny_pure ?_
  refine wpAny_bind (wpAny_holding (wpAny_pyIter_list pl.isList ?_))
  have big : ∀ b o, s.heap.get? b = some o → (s.heap.push { cls := Value.type "list_iterator", data := Data.fields #[Value.ref a, Value.int 0 0] }).get? b = some o := fun b o e => Heap.get?_push_of_some _ e
  have itn : (s.heap.push { cls := Value.type "list_iterator", data := Data.fields #[Value.ref a, Value.int 0 0] }).get? s.heap.objs.size = some { cls := Value.type "list_iterator", data := Data.fields #[Value.ref a, Value.int 0 0] } := Heap.get?_push_size _ rfl
  have szn : (s.heap.push { cls := Value.type "list_iterator", data := Data.fields #[Value.ref a, Value.int 0 0] }).objs.size = s.heap.objs.size + 1 := Heap.size_push _ _
  generalize s.heap.push { cls := Value.type "list_iterator", data := Data.fields #[Value.ref a, Value.int 0 0] } = h1 at big itn szn ⊢
  dsimp only
  refine wpAny_bind (wpAny_holding (PySem.W.kun_draw (l := a) (items := its.toArray) (Nat.ne_of_lt lt) i 0 _ _ ⟨_, itn, rfl, rfl⟩ ⟨oa, big _ _ ea, ec, na, ed⟩ (by rw [List.size_toArray]; omega) fun h2 it2 same2 => ?_))
  have e1 : its.toArray.toList = its := by simp
  have e2 : its.toArray.size = xs.length := by rw [List.size_toArray, lx]
  have f1 : (List.take i (List.drop 0 its.toArray.toList)).length = i := by
    rw [e1, List.drop_zero, List.length_take]
    omega
  rw [if_neg (by rw [f1]; omega)]
  obtain ⟨sz2, old2⟩ := same2
  have old2 : ∀ b, b ≠ s.heap.objs.size → h2.get? b = h1.get? b := old2
  have sz2 : h2.objs.size = h1.objs.size := sz2
  have keep2 : ∀ b o, s.heap.get? b = some o → h2.get? b = some o := fun b o e => by
    rw [old2 b (Nat.ne_of_lt (Heap.lt_size e))]
    exact big b o e
  have b1 : s.heap.objs.size < h2.objs.size := by rw [sz2, szn]; exact Nat.lt_succ_self _
  have b2 : a < h2.objs.size := Nat.lt_trans lt b1
  refine wpAny_bind (wpAny_holding (PySem.W.kun_collect (I := s.heap.objs.size) (ax := a) (items := its.toArray) (k := i) (T := "list_iterator") (St := fun i h => h.IsListIter s.heap.objs.size a i ∧ h.IsList a its.toArray) (.inr (.inr (.inl rfl))) (Walks.list (A := X.A.in1) (I.ok.hd hc) _ _ (Nat.ne_of_lt lt) _) (fun j u hu => ?_) (by rw [e2]; omega) ⟨by rw [Nat.zero_add] at it2; exact it2, oa, keep2 _ _ ea, ec, na, ed⟩ b1 b2 (fun h3 tk old3 => ?_) (by rw [e2, sz]; omega)))
  · obtain ⟨o, u1, u2, _⟩ := hu.1
    exact ⟨o, u1, u2⟩
  have f2 : (List.drop i its.toArray.toList).length = xs.length - i := by rw [e1, List.length_drop, lx]
  rw [if_neg (by rw [f2]; omega)]
  have old3 : ∀ b o, b ≠ s.heap.objs.size → h2.get? b = some o → h3.get? b = some o := old3
  have keep3 : ∀ b o, s.heap.get? b = some o → h3.get? b = some o := fun b o e => old3 b o (Nat.ne_of_lt (Heap.lt_size e)) (keep2 b o e)
  have J0 := I.kept (t' := tk) keep3
  rw [f2]
  have l2 : (List.take (xs.length - i - (n - 1 - i)) (List.drop i its.toArray.toList)).length ≤ sizeLine := by
    rw [List.length_take, f2]
    omega
  have ek : xs.length - i - (n - 1 - i) = xs.length + 1 - n := by omega
  rw [ek] at l2 ⊢
  rw [e1] at l2 ⊢
  refine wpAny_bind (wpAny_newList ?_ l2)
  refine wpAny_pure ?_
  have rv2 : Vals ((xs.drop i).take (xs.length + 1 - n)) ((its.drop i).take (xs.length + 1 - n)) := vals_take _ (vals_drop _ rx)
  have J := Inv.lnew (t' := tk) J0 rv2 (by rw [rv2.length]; exact l2)
  have hD : H h3.objs.size = none := J0.hok.fresh (Nat.le_refl _)
  refine hts.run pins _ σ _ _ _ Q J ?_ (q h3.objs.size hD)
  rw [List.drop_zero]
  exact Vals.append (Vals.append (vals_take _ rx) (.cons rfl .nil)) (vals_drop _ (vals_drop _ rx))
end
end OwnX
set_option Elab.async false
set_option linter.all false
set_option maxRecDepth 100000
set_option maxHeartbeats 8000000
namespace LJ
open PySem PySem.Spec L2
/-! The lines of told works, one by one. -/
inductive Ln where
  | m (r : Str × Int × Int)
  | c (r : Str × Int × Int)
  | s (r : Str × Int)
  | p (r : Str × List (Int × Int))
def lns (W : Wd) : List Ln := W.ms.map .m ++ W.cs.map .c ++ W.ss.map .s ++ W.ps.map .p
def lnK : Ln → Str
  | .m _ => kM
  | .c _ => kC
  | .s _ => kS
  | .p _ => kP
def lnW : Ln → List Str
  | .m r => [r.1, num r.2.1, num r.2.2]
  | .c r => [r.1, num r.2.1, num r.2.2]
  | .s r => [r.1, num r.2]
  | .p r => r.1 :: r.2.map bword
def lnT (x : Ln) : Str := Txt.join sp1 (lnK x :: lnW x)
def getM : Ln → Option (Str × Int × Int)
  | .m r => some r
  | _ => none
def getC : Ln → Option (Str × Int × Int)
  | .c r => some r
  | _ => none
def getS : Ln → Option (Str × Int)
  | .s r => some r
  | _ => none
def getP : Ln → Option (Str × List (Int × Int))
  | .p r => some r
  | _ => none
theorem lns_text (W : Wd) : wlines W = (lns W).map lnT := by
  unfold wlines lns
  rw [List.map_append, List.map_append, List.map_append, List.map_map, List.map_map, List.map_map, List.map_map]
  rw [show (W.ms.map (line3 (Str.ofString "machine "))) = W.ms.map (lnT ∘ Ln.m) from List.map_congr_left fun r _ => line3_join kM_pre r,
    show (W.cs.map (line3 (Str.ofString "cleaning "))) = W.cs.map (lnT ∘ Ln.c) from List.map_congr_left fun r _ => line3_join kC_pre r,
    show (W.ss.map (line2 (Str.ofString "stuff "))) = W.ss.map (lnT ∘ Ln.s) from List.map_congr_left fun r _ => line2_join kS_pre r,
    show (W.ps.map fun p => pline p.1 p.2) = W.ps.map (lnT ∘ Ln.p) from List.map_congr_left fun r _ => pline_join r.1 r.2]
theorem fm_none {α β : Type} {f : α → Ln} {g : Ln → Option β} (h : ∀ a, g (f a) = none) : ∀ xs : List α, (xs.map f).filterMap g = []
  | [] => rfl
  | x :: xs => by rw [List.map_cons, List.filterMap_cons, h x, fm_none h xs]
theorem fm_some {α : Type} {f : α → Ln} {g : Ln → Option α} (h : ∀ a, g (f a) = some a) : ∀ xs : List α, (xs.map f).filterMap g = xs
  | [] => rfl
  | x :: xs => by rw [List.map_cons, List.filterMap_cons, h x, fm_some h xs]
theorem lns_m (W : Wd) : (lns W).filterMap getM = W.ms := by
  unfold lns
  rw [List.filterMap_append, List.filterMap_append, List.filterMap_append, fm_some (f := Ln.m) (g := getM) (fun _ => rfl), fm_none (f := Ln.c) (g := getM) (fun _ => rfl), fm_none (f := Ln.s) (g := getM) (fun _ => rfl), fm_none (f := Ln.p) (g := getM) (fun _ => rfl)]
  simp
theorem lns_c (W : Wd) : (lns W).filterMap getC = W.cs := by
  unfold lns
  rw [List.filterMap_append, List.filterMap_append, List.filterMap_append, fm_none (f := Ln.m) (g := getC) (fun _ => rfl), fm_some (f := Ln.c) (g := getC) (fun _ => rfl), fm_none (f := Ln.s) (g := getC) (fun _ => rfl), fm_none (f := Ln.p) (g := getC) (fun _ => rfl)]
  simp
theorem lns_s (W : Wd) : (lns W).filterMap getS = W.ss := by
  unfold lns
  rw [List.filterMap_append, List.filterMap_append, List.filterMap_append, fm_none (f := Ln.m) (g := getS) (fun _ => rfl), fm_none (f := Ln.c) (g := getS) (fun _ => rfl), fm_some (f := Ln.s) (g := getS) (fun _ => rfl), fm_none (f := Ln.p) (g := getS) (fun _ => rfl)]
  simp
theorem lns_p (W : Wd) : (lns W).filterMap getP = W.ps := by
  unfold lns
  rw [List.filterMap_append, List.filterMap_append, List.filterMap_append, fm_none (f := Ln.m) (g := getP) (fun _ => rfl), fm_none (f := Ln.c) (g := getP) (fun _ => rfl), fm_none (f := Ln.s) (g := getP) (fun _ => rfl), fm_some (f := Ln.p) (g := getP) (fun _ => rfl)]
  simp
/-- a line as it may be -/
def lnOk : Ln → Prop
  | .m r => isW r.1 = true ∧ 0 ≤ r.2.1 ∧ r.2.1 ≤ r.2.2 ∧ r.2.2 ≤ 1000
  | .c r => isW r.1 = true ∧ 0 ≤ r.2.1 ∧ r.2.1 ≤ r.2.2 ∧ r.2.2 ≤ 1000
  | .s r => isW r.1 = true ∧ 0 ≤ r.2 ∧ r.2 ≤ 1000000000000
  | .p r => isW r.1 = true ∧ r.2.length ≤ 3 ∧ ∀ b ∈ r.2, Small b
theorem lns_ok {W : Wd} (g : GoodF W) : ∀ x ∈ lns W, lnOk x := by
  intro x hx
  unfold lns at hx
  rcases List.mem_append.mp hx with hx | hx
  · rcases List.mem_append.mp hx with hx | hx
    · rcases List.mem_append.mp hx with hx | hx
      · obtain ⟨r, hr, rfl⟩ := List.mem_map.mp hx
        exact ⟨g.wm hr, g.mb r hr⟩
      · obtain ⟨r, hr, rfl⟩ := List.mem_map.mp hx
        exact ⟨g.wc hr, g.cb r hr⟩
    · obtain ⟨r, hr, rfl⟩ := List.mem_map.mp hx
      exact ⟨g.ws hr, g.sb r hr⟩
  · obtain ⟨r, hr, rfl⟩ := List.mem_map.mp hx
    have h := g.pb r hr
    have := g.s2
    exact ⟨g.wp hr, by omega, h.2⟩
theorem lnK_is (x : Ln) : lnK x = kM ∨ lnK x = kC ∨ lnK x = kS ∨ lnK x = kP := by
  cases x
  · exact .inl rfl
  · exact .inr (.inl rfl)
  · exact .inr (.inr (.inl rfl))
  · exact .inr (.inr (.inr rfl))
theorem lnW_free {x : Ln} (h : lnOk x) : ∀ y ∈ lnW x, Free 32 y := by
  cases x with
  | m r => exact wordsM_free (k := kM) h.1 h.2 (by omega)
  | c r => exact wordsM_free (k := kC) h.1 h.2 (by omega)
  | s r => exact wordsS_free h.1 h.2.1 (by omega)
  | p r => exact wordsP_free h.1 h.2.2 (by omega)
theorem split_ln {x : Ln} (h : lnOk x) : Txt.split (lnT x) sp1 = lnK x :: lnW x := split_line (lnK_is x) (lnW_free h)
theorem split_one {z : Str} (h : Free 45 z) : Txt.split z hy = [z] := by
  have e : z = Txt.join hy [z] := TL.ext_tl (by
    rw [tl_join2]
    rfl)
  have := split_at (sep := hy) (c := 45) tl_hy (by decide) (ys := [z]) (by simp) (fun y m => by
    rw [List.mem_singleton.mp m]
    exact h)
  rw [← e] at this
  exact this
theorem short_free {z : Str} (l : z.length ≤ 600) (h : Free 45 z) : Short z := ⟨l, fun p hp => by
  rw [split_one h] at hp
  rw [List.mem_singleton.mp hp]
  exact l⟩
theorem bword_len {b : Int × Int} (h : Small b) : (bword b).length ≤ 30 := by
  obtain ⟨s1, s2, s3⟩ := h
  have l1 := num_len s1 (Int.le_trans s2 s3)
  have l2 := num_len (Int.le_trans s1 s2) s3
  unfold bword
  rw [Str.length_append, Str.length_append, show (Str.ofString "-").length = 1 by decide +kernel]
  omega
theorem short_bword {b : Int × Int} (h : Small b) : Short (bword b) := by
  have l := bword_len h
  refine ⟨by omega, fun p hp => ?_⟩
  rw [split_bword h] at hp
  obtain ⟨s1, s2, s3⟩ := h
  have l1 := num_len s1 (Int.le_trans s2 s3)
  have l2 := num_len (Int.le_trans s1 s2) s3
  simp only [List.mem_cons, List.not_mem_nil, or_false] at hp
  rcases hp with rfl | rfl <;> omega
theorem short_name {z : Str} (h : isW z = true) : Short z := short_free (by have := isW_8 h; omega) (free_name h (by omega))
theorem short_num {i : Int} (h0 : 0 ≤ i) (h1 : i ≤ 1000000000000) : Short (num i) := short_free (by have := num_len h0 h1; omega) (free_num h0 (by omega))
theorem lnW_short {x : Ln} (h : lnOk x) : ∀ y ∈ lnW x, Short y := by
  intro y hy
  cases x with
  | m r =>
    obtain ⟨h1, h2, h3, h4⟩ := h
    simp only [lnW, List.mem_cons, List.not_mem_nil, or_false] at hy
    rcases hy with rfl | rfl | rfl
    · exact short_name h1
    · exact short_num h2 (by omega)
    · exact short_num (by omega) (by omega)
  | c r =>
    obtain ⟨h1, h2, h3, h4⟩ := h
    simp only [lnW, List.mem_cons, List.not_mem_nil, or_false] at hy
    rcases hy with rfl | rfl | rfl
    · exact short_name h1
    · exact short_num h2 (by omega)
    · exact short_num (by omega) (by omega)
  | s r =>
    obtain ⟨h1, h2, h3⟩ := h
    simp only [lnW, List.mem_cons, List.not_mem_nil, or_false] at hy
    rcases hy with rfl | rfl
    · exact short_name h1
    · exact short_num h2 h3
  | p r =>
    obtain ⟨h1, h2, h3⟩ := h
    simp only [lnW] at hy
    rcases List.mem_cons.mp hy with rfl | hy
    · exact short_name h1
    · obtain ⟨b, hb, rfl⟩ := List.mem_map.mp hy
      exact short_bword (h3 b hb)
theorem lnW_len {x : Ln} (h : lnOk x) : (lnW x).length ≤ 4 := by
  cases x with
  | m r => exact (by decide : 3 ≤ 4)
  | c r => exact (by decide : 3 ≤ 4)
  | s r => exact (by decide : 2 ≤ 4)
  | p r =>
    have := h.2.1
    show (r.1 :: r.2.map bword).length ≤ 4
    rw [List.length_cons, List.length_map]
    omega
theorem pair_bnd {H : Hp} {v : V} {b : Int × Int} (s : Small b) (h : PairAt H v (bword b)) : Bnd H v b := by
  obtain ⟨a, rfl, e⟩ := h
  obtain ⟨s1, s2, s3⟩ := s
  rw [split_bword ⟨s1, s2, s3⟩, List.map_cons, List.map_cons, List.map_nil, rdN_num s1, rdN_num (Int.le_trans s1 s2)] at e
  exact ⟨a, rfl, e⟩
theorem pairs_bnds {H : Hp} : ∀ {vs : List V} {bs : List (Int × Int)}, (∀ b ∈ bs, Small b) → Paired (PairAt H) vs (bs.map bword) → Paired (Bnd H) vs bs
  | [], [], _, _ => .nil
  | v :: vs, b :: bs, s, .cons h t => .cons (pair_bnd (s b (List.mem_cons_self ..)) h) (pairs_bnds (fun x hx => s x (List.mem_cons_of_mem _ hx)) t)
end LJ
set_option Elab.async false
set_option linter.all false
set_option maxRecDepth 100000
set_option maxHeartbeats 8000000
namespace LJ
open PySem PySem.Spec L2
open LamX (ExtN)
open NdefX (NTab TabsN)
def rowsK (l0 l1 l2 l3 : Addr) : List (Key × V) := [(.inr kM, .ref l0), (.inr kC, .ref l1), (.inr kS, .ref l2), (.inr kP, .ref l3)]
theorem rk0 {l0 l1 l2 l3 : Addr} : valV (rowsK l0 l1 l2 l3) (.inr kM) = some (.ref l0) := by
  unfold rowsK valV
  rfl
theorem rk1 {l0 l1 l2 l3 : Addr} : valV (rowsK l0 l1 l2 l3) (.inr kC) = some (.ref l1) := by
  unfold rowsK valV
  rfl
theorem rk2 {l0 l1 l2 l3 : Addr} : valV (rowsK l0 l1 l2 l3) (.inr kS) = some (.ref l2) := by
  unfold rowsK valV
  rfl
theorem rk3 {l0 l1 l2 l3 : Addr} : valV (rowsK l0 l1 l2 l3) (.inr kP) = some (.ref l3) := by
  unfold rowsK valV
  rfl
def LstOf {α : Type} (R : Hp → V → α → Prop) (G : Hp) (l : Addr) (xs : List α) : Prop := ∃ v, G l = some (.lst v) ∧ Paired (R G) v xs
/-- the rows read so far -/
structure RwS (H G : Hp) (dr l0 l1 l2 l3 : Addr) (pre : List Ln) : Prop where
  ex : Ex H G
  d : G dr = some (.dK (rowsK l0 l1 l2 l3))
  n0 : H l0 = none
  n1 : H l1 = none
  n2 : H l2 = none
  n3 : H l3 = none
  e01 : l0 ≠ l1
  e02 : l0 ≠ l2
  e03 : l0 ≠ l3
  e12 : l1 ≠ l2
  e13 : l1 ≠ l3
  e23 : l2 ≠ l3
  p0 : LstOf Row3 G l0 (pre.filterMap getM)
  p1 : LstOf Row3 G l1 (pre.filterMap getC)
  p2 : LstOf Row2 G l2 (pre.filterMap getS)
  p3 : LstOf RowP G l3 (pre.filterMap getP)
/-- a relation that tuples alone carry -/
def ByTup {α : Type} (R : Hp → V → α → Prop) : Prop := ∀ (H H1 : Hp) (v : V) (x : α), Tup H H1 → R H v x → R H1 v x
theorem bt3 : ByTup Row3 := fun _ _ _ _ t h => Row3.seq t h
theorem bt2 : ByTup Row2 := fun _ _ _ _ t h => Row2.seq t h
theorem btP : ByTup RowP := fun _ _ _ _ t h => RowP.seq t h
theorem LstOf.far {α : Type} {R : Hp → V → α → Prop} (b : ByTup R) {G : Hp} {l m : Addr} {xs : List α} {ys zs : List V} (ne : l ≠ m) (hm : G m = some (.lst ys)) (h : LstOf R G l xs) : LstOf R (upd G m (.lst zs)) l xs := by
  obtain ⟨v, h1, h2⟩ := h
  exact ⟨v, by rw [upd_ne ne]; exact h1, L2.Paired.mapP h2 fun _ _ z => b _ _ _ _ (Tup.put hm) z⟩
theorem LstOf.add {α : Type} {R : Hp → V → α → Prop} (b : ByTup R) {G : Hp} {l : Addr} {xs : List α} {v : List V} {x : V} {y : α} (h1 : G l = some (.lst v)) (h2 : Paired (R G) v xs) (hx : R G x y) : LstOf R (upd G l (.lst (v ++ [x]))) l (xs ++ [y]) :=
  ⟨v ++ [x], upd_same, Paired.snoc (L2.Paired.mapP h2 fun _ _ z => b _ _ _ _ (Tup.put h1) z) (b _ _ _ _ (Tup.put h1) hx)⟩
theorem LstOf.exx {α : Type} {R : Hp → V → α → Prop} (b : ByTup R) {G G1 : Hp} {l : Addr} {xs : List α} (e : Ex G G1) (h : LstOf R G l xs) : LstOf R G1 l xs := by
  obtain ⟨v, h1, h2⟩ := h
  exact ⟨v, e _ _ h1, L2.Paired.mapP h2 fun _ _ z => b _ _ _ _ (Ex.tup e) z⟩
theorem fm_same {β : Type} {g : Ln → Option β} {pre : List Ln} {x : Ln} (h : g x = none) : (pre ++ [x]).filterMap g = pre.filterMap g := by
  rw [List.filterMap_append, List.filterMap_cons, h]
  simp
theorem fm_more {β : Type} {g : Ln → Option β} {pre : List Ln} {x : Ln} {y : β} (h : g x = some y) : (pre ++ [x]).filterMap g = pre.filterMap g ++ [y] := by
  rw [List.filterMap_append, List.filterMap_cons, h]
  simp
namespace RwS
variable {H G G1 : Hp} {dr l0 l1 l2 l3 : Addr} {pre : List Ln}
theorem exx (s : RwS H G dr l0 l1 l2 l3 pre) (e : Ex G G1) : RwS H G1 dr l0 l1 l2 l3 pre :=
  ⟨s.ex.trans e, e _ _ s.d, s.n0, s.n1, s.n2, s.n3, s.e01, s.e02, s.e03, s.e12, s.e13, s.e23, s.p0.exx bt3 e, s.p1.exx bt3 e, s.p2.exx bt2 e, s.p3.exx btP e⟩
theorem dne (s : RwS H G dr l0 l1 l2 l3 pre) {l : Addr} {ys zs : List V} (h : G l = some (.lst ys)) : (upd G l (.lst zs)) dr = some (.dK (rowsK l0 l1 l2 l3)) := by
  rw [upd_ne (ne_of s.d h fun z => nomatch z)]
  exact s.d
theorem addM (s : RwS H G dr l0 l1 l2 l3 pre) {v : List V} {x : V} {r : Str × Int × Int} (h : G l0 = some (.lst v)) (hx : Row3 G x r) : RwS H (upd G l0 (.lst (v ++ [x]))) dr l0 l1 l2 l3 (pre ++ [.m r]) := by
  obtain ⟨v', h1, h2⟩ := s.p0
  rw [h] at h1
  cases h1
  refine ⟨s.ex.put s.n0, s.dne h, s.n0, s.n1, s.n2, s.n3, s.e01, s.e02, s.e03, s.e12, s.e13, s.e23, ?_, ?_, ?_, ?_⟩
  · rw [fm_more (y := r) rfl]
    exact LstOf.add bt3 h h2 hx
  · rw [fm_same rfl]
    exact s.p1.far bt3 s.e01.symm h
  · rw [fm_same rfl]
    exact s.p2.far bt2 s.e02.symm h
  · rw [fm_same rfl]
    exact s.p3.far btP s.e03.symm h
theorem addC (s : RwS H G dr l0 l1 l2 l3 pre) {v : List V} {x : V} {r : Str × Int × Int} (h : G l1 = some (.lst v)) (hx : Row3 G x r) : RwS H (upd G l1 (.lst (v ++ [x]))) dr l0 l1 l2 l3 (pre ++ [.c r]) := by
  obtain ⟨v', h1, h2⟩ := s.p1
  rw [h] at h1
  cases h1
  refine ⟨s.ex.put s.n1, s.dne h, s.n0, s.n1, s.n2, s.n3, s.e01, s.e02, s.e03, s.e12, s.e13, s.e23, ?_, ?_, ?_, ?_⟩
  · rw [fm_same rfl]
    exact s.p0.far bt3 s.e01 h
  · rw [fm_more (y := r) rfl]
    exact LstOf.add bt3 h h2 hx
  · rw [fm_same rfl]
    exact s.p2.far bt2 s.e12.symm h
  · rw [fm_same rfl]
    exact s.p3.far btP s.e13.symm h
theorem addS (s : RwS H G dr l0 l1 l2 l3 pre) {v : List V} {x : V} {r : Str × Int} (h : G l2 = some (.lst v)) (hx : Row2 G x r) : RwS H (upd G l2 (.lst (v ++ [x]))) dr l0 l1 l2 l3 (pre ++ [.s r]) := by
  obtain ⟨v', h1, h2⟩ := s.p2
  rw [h] at h1
  cases h1
  refine ⟨s.ex.put s.n2, s.dne h, s.n0, s.n1, s.n2, s.n3, s.e01, s.e02, s.e03, s.e12, s.e13, s.e23, ?_, ?_, ?_, ?_⟩
  · rw [fm_same rfl]
    exact s.p0.far bt3 s.e02 h
  · rw [fm_same rfl]
    exact s.p1.far bt3 s.e12 h
  · rw [fm_more (y := r) rfl]
    exact LstOf.add bt2 h h2 hx
  · rw [fm_same rfl]
    exact s.p3.far btP s.e23.symm h
theorem addP (s : RwS H G dr l0 l1 l2 l3 pre) {v : List V} {x : V} {r : Str × List (Int × Int)} (h : G l3 = some (.lst v)) (hx : RowP G x r) : RwS H (upd G l3 (.lst (v ++ [x]))) dr l0 l1 l2 l3 (pre ++ [.p r]) := by
  obtain ⟨v', h1, h2⟩ := s.p3
  rw [h] at h1
  cases h1
  refine ⟨s.ex.put s.n3, s.dne h, s.n0, s.n1, s.n2, s.n3, s.e01, s.e02, s.e03, s.e12, s.e13, s.e23, ?_, ?_, ?_, ?_⟩
  · rw [fm_same rfl]
    exact s.p0.far bt3 s.e03 h
  · rw [fm_same rfl]
    exact s.p1.far bt3 s.e13 h
  · rw [fm_same rfl]
    exact s.p2.far bt2 s.e23 h
  · rw [fm_more (y := r) rfl]
    exact LstOf.add btP h h2 hx
end RwS
end LJ
set_option Elab.async false
set_option linter.all false
set_option maxRecDepth 100000
set_option maxHeartbeats 8000000
namespace LJ
open PySem PySem.Spec L2
open LamX (ExtN)
open NdefX (NTab TabsN)
open OwnX (pg_star pgs_star)
abbrev sRW : Stmt := top 35
abbrev nRW : List Str := ["text", "rows", "line", "kind", "words"]
/-- four tuples that hold these works -/
structure Data4 (H : Hp) (am ac as ap : Addr) (W : Wd) : Prop where
  m : ∃ v, H am = some (.tup v) ∧ Paired (Row3 H) v W.ms
  c : ∃ v, H ac = some (.tup v) ∧ Paired (Row3 H) v W.cs
  s : ∃ v, H as = some (.tup v) ∧ Paired (Row2 H) v W.ss
  p : ∃ v, H ap = some (.tup v) ∧ Paired (RowP H) v W.ps
def spRW (C : Addr) (T : List NTab) : Sp := fun vs H Q _ => ∃ W : Wd, vs = [.str (wtext W)] ∧ GoodF W ∧ TabsN T H ∧
  ∀ (x am ac as ap : Addr) (H1 : Hp), ExtN H H1 → H x = none → TabsN T H1 → WorksAt C H1 x am ac as ap W → Data4 H1 am ac as ap W → Q (.ref x) H1
theorem ln_len {x : Ln} (h : lnOk x) : (lnT x).length ≤ 400 := by
  have fs : ∀ {r : Str × Int × Int}, isW r.1 = true ∧ 0 ≤ r.2.1 ∧ r.2.1 ≤ r.2.2 ∧ r.2.2 ≤ 1000 → Fit3 r := fun {r} h => ⟨isW_8 h.1, h.2.1, h.2.2.1, by have := h.2.2.2; omega⟩
  cases x with
  | m r =>
    show (Txt.join sp1 [kM, r.1, num r.2.1, num r.2.2]).length ≤ 400
    rw [← line3_join kM_pre]
    exact line3_len (by decide +kernel) (fs h)
  | c r =>
    show (Txt.join sp1 [kC, r.1, num r.2.1, num r.2.2]).length ≤ 400
    rw [← line3_join kC_pre]
    exact line3_len (by decide +kernel) (fs h)
  | s r =>
    show (Txt.join sp1 [kS, r.1, num r.2]).length ≤ 400
    rw [← line2_join kS_pre]
    exact line2_len (by decide +kernel) ⟨isW_8 h.1, h.2.1, h.2.2⟩
  | p r =>
    show (Txt.join sp1 (kP :: r.1 :: r.2.map bword)).length ≤ 400
    rw [← pline_join]
    have := pline_len (n := r.1) (bs := r.2) (isW_8 h.1) (by have := h.2.1; omega) h.2.2
    omega
theorem lns_len {W : Wd} (g : GoodF W) : (lns W).length ≤ 23 := by
  have := g.m2
  have := g.c2
  have := g.s2
  have := g.p2
  unfold lns
  simp only [List.length_append, List.length_map]
  omega
theorem wtext_len {W : Wd} (g : GoodF W) : (wtext W).length ≤ 10000 := by
  have l := lns_len g
  have h : ((wlines W).map (·.length)).sum ≤ (lns W).length * 400 := by
    rw [lns_text, List.map_map]
    exact sum_most fun x hx => ln_len (lns_ok g x hx)
  have l2 : (wlines W).length = (lns W).length := by rw [lns_text, List.length_map]
  unfold wtext
  rw [join_len, l2, show (Str.ofString "\n").length = 1 from by decide +kernel]
  have h2 : (lns W).length * 400 ≤ 23 * 400 := Nat.mul_le_mul_right _ l
  omega
theorem up_none {H : Hp} {a b : Addr} {o : HO} (h : (upd H a o) b = none) : b ≠ a ∧ H b = none := by
  by_cases e : b = a
  · rw [e, upd_same] at h
    cases h
  · rw [upd_ne e] at h
    exact ⟨e, h⟩
theorem start_rws {H : Hp} {dr l0 l1 l2 l3 : Addr} (nd : H dr = none) (n0 : (upd H dr (.dK [])) l0 = none) (n1 : (upd (upd H dr (.dK [])) l0 (.lst [])) l1 = none)
    (n2 : (upd (upd (upd H dr (.dK [])) l0 (.lst [])) l1 (.lst [])) l2 = none) (n3 : (upd (upd (upd (upd H dr (.dK [])) l0 (.lst [])) l1 (.lst [])) l2 (.lst [])) l3 = none) :
    RwS H (upd (upd (upd (upd (upd (upd H dr (.dK [])) l0 (.lst [])) l1 (.lst [])) l2 (.lst [])) l3 (.lst [])) dr (.dK (rowsK l0 l1 l2 l3))) dr l0 l1 l2 l3 [] := by
  obtain ⟨d0, m0⟩ := up_none n0
  obtain ⟨e10, m1⟩ := up_none n1
  obtain ⟨d1, m1⟩ := up_none m1
  obtain ⟨e21, m2⟩ := up_none n2
  obtain ⟨e20, m2⟩ := up_none m2
  obtain ⟨d2, m2⟩ := up_none m2
  obtain ⟨e32, m3⟩ := up_none n3
  obtain ⟨e31, m3⟩ := up_none m3
  obtain ⟨e30, m3⟩ := up_none m3
  obtain ⟨d3, m3⟩ := up_none m3
  have x0 : Ex H (upd H dr (.dK [])) := Ex.refl.new nd
  refine ⟨((((x0.trans (Ex.refl.new n0)).trans (Ex.refl.new n1)).trans (Ex.refl.new n2)).trans (Ex.refl.new n3)).put nd, upd_same, m0, m1, m2, m3, e10.symm, e20.symm, e30.symm, e21.symm, e31.symm, e32.symm, ⟨[], ?_, .nil⟩, ⟨[], ?_, .nil⟩, ⟨[], ?_, .nil⟩, ⟨[], ?_, .nil⟩⟩
  · rw [upd_ne d0, upd_ne e30.symm, upd_ne e20.symm, upd_ne e10.symm, upd_same]
  · rw [upd_ne d1, upd_ne e31.symm, upd_ne e21.symm, upd_same]
  · rw [upd_ne d2, upd_ne e32.symm, upd_same]
  · rw [upd_ne d3, upd_same]
theorem merge_rows {l0 l1 l2 l3 : Addr} : mergeK [] (rowsK l0 l1 l2 l3) = rowsK l0 l1 l2 l3 := by
  unfold rowsK mergeK
  rfl
def lkOf (l0 l1 l2 l3 : Addr) : Ln → Addr
  | .m _ => l0
  | .c _ => l1
  | .s _ => l2
  | .p _ => l3
theorem rkx {l0 l1 l2 l3 : Addr} (x : Ln) : valV (rowsK l0 l1 l2 l3) (.inr (lnK x)) = some (.ref (lkOf l0 l1 l2 l3 x)) := by
  cases x
  · exact rk0
  · exact rk1
  · exact rk2
  · exact rk3
theorem k_ne : kM ≠ kP ∧ kC ≠ kP ∧ kS ≠ kP := by decide +kernel
theorem Paired.long {α β : Type} {R : α → β → Prop} : ∀ {xs : List α} {ys : List β}, Paired R xs ys → xs.length = ys.length := fun h => Paired.size h
section
variable {P : Program} {w : World} {K : PySem.W.Frag} {mg : Str → Option Value} {base : Heap}
theorem scRW : FnScope nRW ["text"] (defScope sRW) := ⟨rfl, rfl, rfl, by decide +kernel, rfl, by decide +kernel, by decide +kernel⟩
theorem ok_rw {f fR fI C : Addr} {fd fdR fdI : FuncData} {T : List NTab} (F : Fun K "_read_works" "_read_works" sRW f fd) (BT : mg "tuple" = none)
    (GR : FnOk P w K mg base CX0 3 fR fdR ["kind", "words"] spRd) (mR : mg "_read_row" = some (.ref fR)) (kR : PySem.W.keepIn K (.ref fR) = true) (bR : Binds K fdR ["kind", "words"] [])
    (M : Mk K C fI) (mW : mg "Works" = some (.ref C)) (GI : FnOk P w K mg base CX0 7 fI fdI pInit (spInit K C T)) (bI : Binds K fdI pInit []) :
    FnOk P w K mg base CX0 9 f fd ["text"] (spRW C T) := by
  refine F.ok scRW (fun vs H Q E h => ?_) (fun cdv A outer s H vs Q E hr h => ?_)
  · obtain ⟨W, rfl, _⟩ := h
    rfl
  · obtain ⟨W, rfl, g, tabs, q⟩ := h
    have hr3 : Room 3 _ := hr.mono (by decide)
    have hu := hu_of hr
    refine ⟨_, pss_cons (ps_set (i := 1) scRW.nd rfl (Or.inl rfl) (pe_disp (pps_cons pe_str (pe_lst pa_nil) (pps_cons pe_str (pe_lst pa_nil) (pps_cons pe_str (pe_lst pa_nil) (pps_cons pe_str (pe_lst pa_nil) pps_nil)))) (by rfl) (by rfl) (fun z => by cases z) (by decide)))
      (pss_cons (ps_for PassesOwn.never rfl (pi_list (pe_split (pv 0) pe_str)) (pg_name (i := 2) scRW.nd rfl (Or.inl rfl))
        (pss_cons (ps_asg (pe_split (pv 2) pe_str) (pg_star (n := 2) (i := 1) rfl (pgs_cons (pg_name (i := 3) scRW.nd rfl (Or.inl rfl)) (pgs_star (pg_name (i := 4) scRW.nd rfl (Or.inl rfl)) pgs_nil))))
        (pss_cons (ps_if (pt_cmp (pc_dnotin hu (pv 3) (pv 1))) (pss_one ps_never) pss_nil)
        (pss_one (ps_expr (pe_bm PySem.F.plainAttrs_list PySem.F.slot_list_append PySem.F.type_list_append mt_append (pe_dget hu (pv 1) (pv 3) (fun _ _ => rfl)) (pa_cons (pe_call GR hr3 (by rfl) mR kR bR .nil pass0 (pa_cons (pv 3) (pa_cons (pv 4) pa_nil))) pa_nil)))))))
      (pss_one (ps_ret (pe_make M GI hr (by rfl) mW bI .nil pass0 (pa_cons (pe_tupleOf (by rfl) BT (pe_dget hu (pv 1) pe_str (fun _ _ => rfl))) (pa_cons (pe_tupleOf (by rfl) BT (pe_dget hu (pv 1) pe_str (fun _ _ => rfl)))
        (pa_cons (pe_tupleOf (by rfl) BT (pe_dget hu (pv 1) pe_str (fun _ _ => rfl))) (pa_cons (pe_tupleOf (by rfl) BT (pe_dget hu (pv 1) pe_str (fun _ _ => rfl))) pa_nil)))))))), ?_⟩
    have sz := sizeLine_eq
    intro dr nd
    refine ⟨Nat.zero_le _, fun l0 n0 => ⟨Nat.zero_le _, fun l1 n1 => ⟨Nat.zero_le _, fun l2 n2 => ⟨Nat.zero_le _, fun l3 n3 => ⟨?_, rowsK l0 l1 l2 l3, rfl, (by decide : 4 ≤ 15), ?_⟩⟩⟩⟩⟩
    · obtain ⟨d0, _⟩ := up_none n0
      obtain ⟨_, m1⟩ := up_none n1
      obtain ⟨d1, _⟩ := up_none m1
      obtain ⟨_, m2⟩ := up_none n2
      obtain ⟨_, m2⟩ := up_none m2
      obtain ⟨d2, _⟩ := up_none m2
      obtain ⟨_, m3⟩ := up_none n3
      obtain ⟨_, m3⟩ := up_none m3
      obtain ⟨_, m3⟩ := up_none m3
      obtain ⟨d3, _⟩ := up_none m3
      rw [upd_ne d3.symm, upd_ne d2.symm, upd_ne d1.symm, upd_ne d0.symm, upd_same]
    have st := start_rws nd n0 n1 n2 n3
    rw [merge_rows]
    generalize upd (upd (upd (upd (upd (upd H dr (.dK [])) l0 (.lst [])) l1 (.lst [])) l2 (.lst [])) l3 (.lst [])) dr (.dK (rowsK l0 l1 l2 l3)) = G0 at st ⊢
    have tl := wtext_len g
    refine ⟨_, rfl, ⟨_, rfl⟩, _, _, rfl, rfl, by decide +kernel, by omega, fun L nL => ?_⟩
    rw [split_text g, lns_text, List.map_map]
    have eL : (upd G0 L (.lst ((lns W).map (V.str ∘ lnT)))) L = some (.lst ((lns W).map (V.str ∘ lnT))) := upd_same
    have xL : Ex G0 (upd G0 L (.lst ((lns W).map (V.str ∘ lnT)))) := Ex.refl.new nL
    have stL := st.exx xL
    have nHL : H L = none := st.ex.gone nL
    have fL : L ≠ l0 ∧ L ≠ l1 ∧ L ≠ l2 ∧ L ≠ l3 := by
      obtain ⟨v0, h0, _⟩ := st.p0
      obtain ⟨v1, h1, _⟩ := st.p1
      obtain ⟨v2, h2, _⟩ := st.p2
      obtain ⟨v3, h3, _⟩ := st.p3
      refine ⟨fun z => ?_, fun z => ?_, fun z => ?_, fun z => ?_⟩
      · rw [z, h0] at nL
        cases nL
      · rw [z, h1] at nL
        cases nL
      · rw [z, h2] at nL
        cases nL
      · rw [z, h3] at nL
        cases nL
    generalize upd G0 L (.lst ((lns W).map (V.str ∘ lnT))) = G1 at eL stL xL ⊢
    have ll := lns_len g
    refine ⟨L, rfl, ⟨_, SqL.of eL⟩, for_list (K := K) (a := L) (xs := (lns W).map (V.str ∘ lnT)) (fun i σ G => (∃ v2 v3 v4, σ = [some (.str (wtext W)), some (.ref dr), v2, v3, v4]) ∧ RwS H G dr l0 l1 l2 l3 ((lns W).take i) ∧ G L = some (.lst ((lns W).map (V.str ∘ lnT)))) ⟨⟨_, _, _, rfl⟩, stL, eL⟩ (fun i σ G _ h => SqL.of h.2.2) ?_ ?_⟩
    · rintro i v σ G hv ⟨⟨v2, v3, v4, rfl⟩, sG, eG⟩
      rw [List.getElem?_map] at hv
      obtain ⟨x, hx, rfl⟩ := Option.map_eq_some_iff.mp hv
      have ok := lns_ok g x (List.mem_of_getElem? hx)
      have tk : (lns W).take (i + 1) = (lns W).take i ++ [x] := by
        rw [List.take_succ, hx]
        rfl
      have lx := ln_len ok
      refine ⟨_, rfl, ⟨_, rfl⟩, _, _, rfl, rfl, by decide +kernel, by omega, fun p np => ?_⟩
      rw [show Str.ofString " " = sp1 from rfl, split_ln ok]
      have e1 : (upd G p (.lst ((lnK x :: lnW x).map V.str))) p = some (.lst ((lnK x :: lnW x).map V.str)) := upd_same
      have x1 : Ex G (upd G p (.lst ((lnK x :: lnW x).map V.str))) := Ex.refl.new np
      generalize upd G p (.lst ((lnK x :: lnW x).map V.str)) = G2 at e1 x1 ⊢
      have wl := lnW_len ok
      refine ⟨p, _, rfl, SqL.of e1, by decide, by rw [List.length_map, List.length_cons]; omega, by rw [List.length_map, List.length_cons]; omega, fun D nD => ?_⟩
      have c1 : ((lnK x :: lnW x).map V.str).take 1 ++ [.ref D] ++ (((lnK x :: lnW x).map V.str).drop 1).drop (((lnK x :: lnW x).map V.str).length + 1 - 2) = [.str (lnK x), .ref D] := by
        simp
      have c2 : (((lnK x :: lnW x).map V.str).drop 1).take (((lnK x :: lnW x).map V.str).length + 1 - 2) = (lnW x).map V.str := by
        rw [List.map_cons, List.drop_succ_cons, List.drop_zero, List.take_of_length_le (by simp)]
      rw [c1, c2]
      have e2 : (upd G2 D (.lst ((lnW x).map V.str))) D = some (.lst ((lnW x).map V.str)) := upd_same
      have x2 : Ex G2 (upd G2 D (.lst ((lnW x).map V.str))) := Ex.refl.new nD
      generalize upd G2 D (.lst ((lnW x).map V.str)) = G3 at e2 x2 ⊢
      have s3 := sG.exx (x1.trans x2)
      have eG3 := x2 _ _ (x1 _ _ eG)
      refine ⟨_, _, rfl, _, _, rfl, rfl, ?_⟩
      have dk : DGet G3 dr (.str (lnK x)) (some (.ref (lkOf l0 l1 l2 l3 x))) := .inl ⟨rowsK l0 l1 l2 l3, .inr (lnK x), .inl s3.d, rfl, (rkx x).symm⟩
      refine ⟨_, rfl, _, rfl, dr, _, rfl, dk, _, rfl, ?_⟩
      refine ite2 (fun z => by cases z) (fun _ => ?_)
      obtain ⟨vk, hvk, lvk⟩ : ∃ vk, G3 (lkOf l0 l1 l2 l3 x) = some (.lst vk) ∧ vk.length < 24 := by
        have lt : ((lns W).take i).length ≤ 23 := by rw [List.length_take]; omega
        cases x with
        | m r =>
          obtain ⟨v, h1, h2⟩ := s3.p0
          have := Paired.size h2
          have := List.length_filterMap_le getM ((lns W).take i)
          exact ⟨v, h1, by omega⟩
        | c r =>
          obtain ⟨v, h1, h2⟩ := s3.p1
          have := Paired.size h2
          have := List.length_filterMap_le getC ((lns W).take i)
          exact ⟨v, h1, by omega⟩
        | s r =>
          obtain ⟨v, h1, h2⟩ := s3.p2
          have := Paired.size h2
          have := List.length_filterMap_le getS ((lns W).take i)
          exact ⟨v, h1, by omega⟩
        | p r =>
          obtain ⟨v, h1, h2⟩ := s3.p3
          have := Paired.size h2
          have := List.length_filterMap_le getP ((lns W).take i)
          exact ⟨v, h1, by omega⟩
      have farL : L ≠ lkOf l0 l1 l2 l3 x := by
        cases x
        · exact fL.1
        · exact fL.2.1
        · exact fL.2.2.1
        · exact fL.2.2.2
      refine ⟨_, rfl, _, rfl, dr, _, rfl, dk, .inl ⟨rfl, _, .inl (.inl hvk)⟩, _, rfl, _, rfl, lnK x, D, lnW x, rfl, e2, by omega, lnW_short ok, fun ek t b vals G4 x4 nb e4 et pv4 => ?_, fun ek b G4 x4 nb e4 => ?_⟩
      · cases x with
        | m r => exact absurd ek k_ne.1
        | c r => exact absurd ek k_ne.2.1
        | s r => exact absurd ek k_ne.2.2
        | p r =>
          refine ⟨_, _, _, rfl, rfl, x4 _ _ hvk, by omega, ⟨_, _, _, rfl⟩, ?_, ?_⟩
          · rw [tk]
            exact (s3.exx x4).addP (x4 _ _ hvk) ⟨b, t, vals, rfl, e4, et, pairs_bnds ok.2.2 pv4⟩
          · rw [upd_ne farL]
            exact x4 _ _ eG3
      · have e5 : G4 L = some (.lst ((lns W).map (V.str ∘ lnT))) := x4 _ _ eG3
        refine ⟨_, _, _, rfl, rfl, x4 _ _ hvk, by omega, ⟨_, _, _, rfl⟩, ?_, by rw [upd_ne farL]; exact e5⟩
        rw [tk]
        cases x with
        | m r =>
          obtain ⟨h1, h2, h3, h4⟩ := ok
          have e6 : G4 b = some (.tup [.str r.1, optI (rdN (num r.2.1)), optI (rdN (num r.2.2))]) := e4
          rw [rdN_num h2, rdN_num (Int.le_trans h2 h3)] at e6
          exact (s3.exx x4).addM (x4 _ _ hvk) ⟨b, rfl, e6⟩
        | c r =>
          obtain ⟨h1, h2, h3, h4⟩ := ok
          have e6 : G4 b = some (.tup [.str r.1, optI (rdN (num r.2.1)), optI (rdN (num r.2.2))]) := e4
          rw [rdN_num h2, rdN_num (Int.le_trans h2 h3)] at e6
          exact (s3.exx x4).addC (x4 _ _ hvk) ⟨b, rfl, e6⟩
        | s r =>
          obtain ⟨h1, h2, h3⟩ := ok
          have e6 : G4 b = some (.tup [.str r.1, optI (rdN (num r.2))]) := e4
          rw [rdN_num h2] at e6
          exact (s3.exx x4).addS (x4 _ _ hvk) ⟨b, rfl, e6⟩
        | p r => exact absurd rfl ek
    · rintro σ G ⟨⟨v2, v3, v4, rfl⟩, sG, eG⟩
      rw [List.length_map, List.take_of_length_le (Nat.le_refl _)] at sG
      have q0 := sG.p0
      have q1 := sG.p1
      have q2 := sG.p2
      have q3 := sG.p3
      rw [lns_m] at q0
      rw [lns_c] at q1
      rw [lns_s] at q2
      rw [lns_p] at q3
      obtain ⟨vm, hm, pm⟩ := q0
      obtain ⟨vc, hc, pc⟩ := q1
      obtain ⟨vs, hs, ps⟩ := q2
      obtain ⟨vp, hp, pp⟩ := q3
      have gd : ∀ {G' : Hp} {k : Str} {l : Addr}, Ex G G' → valV (rowsK l0 l1 l2 l3) (.inr k) = some (.ref l) → DGet G' dr (.str k) (some (.ref l)) := fun {G' k l} e h => .inl ⟨rowsK l0 l1 l2 l3, .inr k, .inl (e _ _ sG.d), rfl, h.symm⟩
      refine ⟨_, rfl, dr, _, rfl, gd Ex.refl rk0, .inl ⟨l0, vm, rfl, SqL.of hm, fun am n1 => ?_⟩⟩
      have x1 : Ex G (upd G am (.tup vm)) := Ex.refl.new n1
      have e1 : (upd G am (.tup vm)) am = some (.tup vm) := upd_same
      generalize upd G am (.tup vm) = H1 at x1 e1 ⊢
      refine ⟨_, rfl, dr, _, rfl, gd x1 rk1, .inl ⟨l1, vc, rfl, SqL.of (x1 _ _ hc), fun ac n2 => ?_⟩⟩
      have x2 : Ex H1 (upd H1 ac (.tup vc)) := Ex.refl.new n2
      have e2 : (upd H1 ac (.tup vc)) ac = some (.tup vc) := upd_same
      generalize upd H1 ac (.tup vc) = H2 at x2 e2 ⊢
      have y2 := x1.trans x2
      refine ⟨_, rfl, dr, _, rfl, gd y2 rk2, .inl ⟨l2, vs, rfl, SqL.of (y2 _ _ hs), fun as n3 => ?_⟩⟩
      have x3 : Ex H2 (upd H2 as (.tup vs)) := Ex.refl.new n3
      have e3 : (upd H2 as (.tup vs)) as = some (.tup vs) := upd_same
      generalize upd H2 as (.tup vs) = H3 at x3 e3 ⊢
      have y3 := y2.trans x3
      refine ⟨_, rfl, dr, _, rfl, gd y3 rk3, .inl ⟨l3, vp, rfl, SqL.of (y3 _ _ hp), fun ap n4 => ?_⟩⟩
      have x4 : Ex H3 (upd H3 ap (.tup vp)) := Ex.refl.new n4
      have e4 : (upd H3 ap (.tup vp)) ap = some (.tup vp) := upd_same
      generalize upd H3 ap (.tup vp) = H4 at x4 e4 ⊢
      have y4 := y3.trans x4
      intro x dx nx ndx ne
      have x5 : Ex H4 (upd (upd H4 dx (.own x)) x (.ins C dx [])) := (Ex.refl.new ndx).new (by rw [upd_ne ne.symm]; exact nx)
      have e5 : (upd (upd H4 dx (.own x)) x (.ins C dx [])) x = some (.ins C dx []) := upd_same
      generalize upd (upd H4 dx (.own x)) x (.ins C dx []) = H5 at x5 e5 ⊢
      have y5 := y4.trans x5
      have tt := Ex.tup y5
      have hm5 := x5 _ _ (x4 _ _ (x3 _ _ (x2 _ _ e1)))
      have hc5 := x5 _ _ (x4 _ _ (x3 _ _ e2))
      have hs5 := x5 _ _ (x4 _ _ e3)
      have hp5 := x5 _ _ e4
      have T5 : TabsN T H5 := TabsN.exs tabs (sG.ex.trans y5)
      refine ⟨x, dx, am, ac, as, ap, vm, vc, vs, vp, W, rfl, e5, goodF_fit g hm5 hc5 hs5 hp5 (rows3 tt pm) (rows3 tt pc) (rows2 tt ps) (rowsP tt pp), rows3 tt pm, rows3 tt pc, rows2 tt ps, rowsP tt pp, goodF_told g, fun r hr => (g.pb r hr).1, T5, fun H6 keep t6 at6 => ⟨rfl, ?_⟩⟩
      have hxn : H x = none := sG.ex.gone (y4.gone nx)
      have far : ∀ {b : Addr} {xs : List V}, H5 b = some (.tup xs) → H6 b = some (.tup xs) := fun {b xs} e => keep b _ (ne_of e e5 fun z => nomatch z) e fun _ z => nomatch z
      have t56 : Tup H5 H6 := fun a xs e => far e
      refine q x am ac as ap H6 (fun b o e nt => keep b o (fun z => ?_) (y5 _ _ (sG.ex _ _ e)) nt) hxn t6 at6 ⟨⟨vm, far hm5, rows3 t56 (rows3 tt pm)⟩, ⟨vc, far hc5, rows3 t56 (rows3 tt pc)⟩, ⟨vs, far hs5, rows2 t56 (rows2 tt ps)⟩, ⟨vp, far hp5, rowsP t56 (rowsP tt pp)⟩⟩
      rw [z, hxn] at e
      cases e
end
end LJ
set_option Elab.async false
set_option linter.all false
set_option maxRecDepth 100000
set_option maxHeartbeats 8000000
namespace LJ
open PySem PySem.Spec L2
open LamX (ExtN)
open NdefX (NTab TabsN)
open OwnX
/-! Works: its other methods. -/
abbrev sStr : Stmt := meth 12
abbrev sRepr : Stmt := meth 13
abbrev sEq : Stmt := meth 11
abbrev sRead : Stmt := meth 1
/-- an object of Works that has these words as its text -/
def TextOf (C : Addr) (H : Hp) (x : Addr) (z : Str) : Prop := ∃ dx fs, H x = some (.ins C dx fs) ∧ fs.lookup ("_text" : Str) = some (.str z)
def spStrW (C : Addr) : Sp := fun vs H Q _ => ∃ x z, vs = [.ref x] ∧ TextOf C H x z ∧ Q (.str z) H
def spEqW (C : Addr) : Sp := fun vs H Q _ => ∃ x z y, vs = [.ref x, y] ∧ TextOf C H x z ∧ ((∃ a z2, y = .ref a ∧ TextOf C H a z2 ∧ Q (.bl (decide (z = z2))) H) ∨ (∃ z2, y = .str z2 ∧ Q (.bl false) H))
def reprW (m p : Int) : Str := Str.empty ++ Str.ofString "Works of " ++ num m ++ Str.ofString " machines and " ++ num p ++ Str.ofString " products"
def spReprW (C : Addr) : Sp := fun vs H Q _ => ∃ x dx fs am ap vm vp, vs = [.ref x] ∧ H x = some (.ins C dx fs) ∧ fs.lookup ("_machines" : Str) = some (.ref am) ∧ fs.lookup ("_products" : Str) = some (.ref ap) ∧ H am = some (.tup vm) ∧ H ap = some (.tup vp) ∧ vm.length ≤ 100 ∧ vp.length ≤ 100 ∧ Q (.str (reprW vm.length vp.length)) H
/-- what isinstance asks of Works -/
structure WIns (K : PySem.W.Frag) (C : Addr) : Prop where
  c1 : PySem.W.findIn K (.ref C) "__class__" = some (some (.builtin "object.__class__"))
  c2 : PySem.W.specialIn K (.builtin "object.__class__") "__get__" = some (some (.builtin "getset_descriptor.__get__"))
  c3 : PySem.W.takesIn K (.builtin "object.__class__") = some true
  c4 : PySem.W.mroIn K C (.type "object") = some true
  kt : PySem.W.kitOne K (.ref C) (.ref C) = some true
  kf : PySem.W.kitOne K (.type "str") (.ref C) = some false
structure BltS (mg : Str → Option Value) : Prop where
  str : mg "str" = none
  len : mg "len" = none
  isi : mg "isinstance" = none
section
variable {P : Program} {w : World} {K : PySem.W.Frag} {mg : Str → Option Value} {base : Heap} {C : Addr}
theorem scStr : FnScope ["self"] ["self"] (defScope sStr) := ⟨rfl, rfl, rfl, by decide +kernel, rfl, by decide +kernel, by decide +kernel⟩
theorem ok_str {f : Addr} {fd : FuncData} (F : Fun K "__str__" "Works.__str__" sStr f fd) (c : WCls K C) (B : BltS mg) : FnOk P w K mg base CX0 1 f fd ["self"] (spStrW C) := by
  refine F.ok scStr (fun vs H Q E h => ?_) (fun cdv A outer s H vs Q E hr h => ?_)
  · obtain ⟨x, z, rfl, _⟩ := h
    rfl
  · obtain ⟨x, z, rfl, ⟨dx, fs, hx, hf⟩, q⟩ := h
    refine ⟨_, pss_one (ps_ret (pe_callTy SkE.call_str_str (by rfl) B.str (by decide +kernel) (pa_cons (pe_fld (pv 0) rfl) pa_nil))), ?_⟩
    exact ⟨_, rfl, x, C, dx, fs, _, rfl, hx, c.cl, c.n9, hf, z, rfl, q⟩
theorem scRepr : FnScope ["self"] ["self"] (defScope sRepr) := ⟨rfl, rfl, rfl, by decide +kernel, rfl, by decide +kernel, by decide +kernel⟩
theorem ok_repr {f : Addr} {fd : FuncData} (F : Fun K "__repr__" "Works.__repr__" sRepr f fd) (c : WCls K C) (B : BltS mg) : FnOk P w K mg base CX0 1 f fd ["self"] (spReprW C) := by
  refine F.ok scRepr (fun vs H Q E h => ?_) (fun cdv A outer s H vs Q E hr h => ?_)
  · obtain ⟨x, dx, fs, am, ap, vm, vp, rfl, _⟩ := h
    rfl
  · obtain ⟨x, dx, fs, am, ap, vm, vp, rfl, hx, f1, f2, hm, hp, lm, lp, q⟩ := h
    refine ⟨_, pss_one (ps_ret (pe_joined (.cons pe_str (.cons (pe_fmt (pe_callB call_len_seq (by rfl) B.len (by decide +kernel) (pa_cons (pe_fld (pv 0) rfl) pa_nil))) (.cons pe_str (.cons (pe_fmt (pe_callB call_len_seq (by rfl) B.len (by decide +kernel) (pa_cons (pe_fld (pv 0) rfl) pa_nil))) (.cons pe_str .nil))))))), ?_⟩
    have sz := sizeLine_eq
    have l1 := num_len (i := (vm.length : Int)) (by omega) (by omega)
    have l2 := num_len (i := (vp.length : Int)) (by omega) (by omega)
    have k1 : (Str.empty ++ Str.ofString "Works of ").length = 9 := by decide +kernel
    have k2 : (Str.empty ++ Str.ofString "Works of " ++ num vm.length).length ≤ 23 := by
      rw [Str.length_append]
      omega
    have k3 : (Str.empty ++ Str.ofString "Works of " ++ num vm.length ++ Str.ofString " machines and ").length ≤ 37 := by
      rw [Str.length_append, show (Str.ofString " machines and ").length = 14 by decide +kernel]
      omega
    have k4 : (Str.empty ++ Str.ofString "Works of " ++ num vm.length ++ Str.ofString " machines and " ++ num vp.length).length ≤ 51 := by
      rw [Str.length_append]
      omega
    have k5 : (reprW vm.length vp.length).length ≤ 60 := by
      unfold reprW
      rw [Str.length_append, show (Str.ofString " products").length = 9 by decide +kernel]
      omega
    have b : ∀ {m : Nat}, m ≤ 80 → m ≤ sizeLine := fun h => by omega
    refine ⟨_, rfl, b (by omega), _, rfl, x, C, dx, fs, _, rfl, hx, c.cl, c.n1, f1, am, vm, rfl, .inr (SqT.of hm), .inr ⟨_, rfl, num_log (by omega) (by omega), num vm.length, rfl, b (by omega), _, rfl, b (by omega), _, rfl, x, C, dx, fs, _, rfl, hx, c.cl, c.n4, f2, ap, vp, rfl, .inr (SqT.of hp), .inr ⟨_, rfl, num_log (by omega) (by omega), num vp.length, rfl, b (by omega), _, rfl, b (Nat.le_trans k5 (by omega)), q⟩⟩⟩
theorem scEq : FnScope ["self", "other"] ["self", "other"] (defScope sEq) := ⟨rfl, rfl, rfl, by decide +kernel, rfl, by decide +kernel, by decide +kernel⟩
theorem ok_eq {f : Addr} {fd : FuncData} (F : Fun K "__eq__" "Works.__eq__" sEq f fd) (c : WCls K C) (B : BltS mg) (mW : mg "Works" = some (.ref C)) (I : WIns K C) : FnOk P w K mg base CX0 1 f fd ["self", "other"] (spEqW C) := by
  refine F.ok scEq (fun vs H Q E h => ?_) (fun cdv A outer s H vs Q E hr h => ?_)
  · obtain ⟨x, z, y, rfl, _⟩ := h
    rfl
  · obtain ⟨x, z, y, rfl, ⟨dx, fs, hx, hf⟩, hy⟩ := h
    refine ⟨_, pss_one (ps_ret (pe_and (pe_callB call_isi (by rfl) B.isi (by decide +kernel) (pa_cons (pv 1) (pa_cons (pe_glob (v := .ref C) (by rfl) mW rfl) pa_nil))) (pe_one (pe_cmpR op_eq (pe_fld (pv 0) rfl) (pe_fld (pv 1) rfl) (nomark _))))), ?_⟩
    rcases hy with ⟨a, z2, rfl, ⟨dx2, fs2, ha, hf2⟩, q⟩ | ⟨z2, rfl, q⟩
    · refine ⟨_, rfl, _, _, _, _, true, rfl, .own C, .base (.ins ha c.cl I.c1 I.c2 I.c3 I.c4), I.kt, true, rfl, ?_⟩
      refine ⟨_, rfl, x, C, dx, fs, _, rfl, hx, c.cl, c.n9, hf, _, rfl, a, C, dx2, fs2, _, rfl, ha, c.cl, c.n9, hf2, rfl, ?_⟩
      have e2 : decide (V.str z = V.str z2) = decide (z = z2) := decide_eq_decide.mpr ⟨fun e => V.str.inj e, fun e => by rw [e]⟩
      rw [e2]
      exact q
    · refine ⟨_, rfl, _, _, _, _, false, rfl, .own C, .base (.str z2), I.kf, false, rfl, ?_⟩
      exact q
end
end LJ
set_option Elab.async false
set_option linter.all false
set_option maxRecDepth 100000
set_option maxHeartbeats 8000000
namespace LJ
open PySem PySem.Spec L2
open LamX (ExtN)
open NdefX (NTab TabsN)
open OwnX
/-! Works.read over told texts; the properties. -/
section
variable {P : Program} {w : World} {K : PySem.W.Frag} {mg : Str → Option Value} {base : Heap} {C : Addr} {T : List NTab}
theorem scRead : FnScope ["text", "works"] ["text"] (defScope sRead) := ⟨rfl, rfl, rfl, by decide +kernel, rfl, by decide +kernel, by decide +kernel⟩
theorem works_text {H : Hp} {x am ac as ap : Addr} {W : Wd} (h : WorksAt C H x am ac as ap W) : TextOf C H x (wtext W) := by
  obtain ⟨dx, D1, D2, D3, D4, b1, b2, v4, hx, _⟩ := h
  exact ⟨dx, _, hx, rfl⟩
theorem ok_read {f fR fS : Addr} {fd fdR fdS : FuncData} (F : Fun K "read" "Works.read" sRead f fd) (B : BltS mg)
    (GR : FnOk P w K mg base CX0 9 fR fdR ["text"] (spRW C T)) (mR : mg "_read_works" = some (.ref fR)) (kR : PySem.W.keepIn K (.ref fR) = true) (bR : Binds K fdR ["text"] [])
    (cS : Meth K C "__str__" fS) (GS : FnOk P w K mg base CX0 1 fS fdS ["self"] (spStrW C)) (bS : Binds K fdS ["self"] []) :
    FnOk P w K mg base CX0 10 f fd ["text"] (spRW C T) := by
  refine F.ok scRead (fun vs H Q E h => ?_) (fun cdv A outer s H vs Q E hr h => ?_)
  · obtain ⟨W, rfl, _⟩ := h
    rfl
  · obtain ⟨W, rfl, g, tabs, q⟩ := h
    have hr2 : Room 2 _ := hr.mono (by decide)
    refine ⟨_, pss_cons (ps_if (pt_not (pt_truth (pe_callB call_isi (by rfl) B.isi (by decide +kernel) (pa_cons (pv 0) (pa_cons (pe_bltn (by rfl) B.str (by decide +kernel) (v := .ty "str") rfl) pa_nil))) (fun _ => rfl))) (pss_one ps_never) pss_nil)
      (pss_cons (ps_try_thru0 (pss_one (ps_set (i := 1) scRead.nd rfl (Or.inl rfl) (pe_call GR hr (by rfl) mR kR bR .nil pass0 (pa_cons (pv 0) pa_nil)))))
      (pss_cons (ps_if (pt_cmpR op_ne (pe_callTy (call_strO cS GS hr2 bS pass0) (by rfl) B.str (by decide +kernel) (pa_cons (pv 1) pa_nil)) (pv 0) (nomark _)) (pss_one ps_never) pss_nil)
      (pss_one (ps_ret (pv 1))))), ?_⟩
    refine ⟨_, rfl, _, _, _, _, true, rfl, .ty "str", .base (.str _), kit_ty (by decide +kernel), true, rfl, ?_⟩
    refine ite2 (fun z => by cases z) (fun _ => ?_)
    refine ⟨_, rfl, W, rfl, g, tabs, fun x am ac as ap H1 e1 nx t1 at1 d1 => ?_⟩
    obtain ⟨dx, fs, hx, hf⟩ := works_text at1
    refine ⟨_, rfl, x, dx, fs, rfl, hx, x, wtext W, rfl, ⟨dx, fs, hx, hf⟩, _, rfl, _, rfl, rfl, _, rfl, ?_⟩
    refine ite2 (fun z => ?_) (fun _ => ?_)
    · rw [decide_eq_true rfl] at z
      cases z
    · exact ⟨_, rfl, q x am ac as ap H1 e1 nx t1 at1 d1⟩
end
end LJ
set_option Elab.async false
set_option linter.all false
set_option maxRecDepth 100000
set_option maxHeartbeats 8000000
/-! The law's small tests of words: names, figures, pairs. -/
namespace LJ
open PySem PySem.Spec L2
open LamX (ExtN)
abbrev sNm3 : Stmt := top 46
abbrev sFg : Stmt := top 47
abbrev sPr3 : Stmt := top 48
def rNis : R2 := fun x y H Q => ∃ (c : Nat) (z : Str), x = .str ⟨#[c]⟩ ∧ y = .str z ∧ Q (.bl (!decide (c ∈ z.cps.toList))) H
def spNm3 : Sp := fun vs H Q _ => ∃ z : Str, vs = [.str z] ∧ Tk z ∧ z.length ≤ 20000 ∧ ∀ H1, Ex H H1 → Q (.bl (isW z)) H1
/-- the number that a word writes, or -1 -/
def fig (z : Str) (m : Int) : Int := match rdN z with
  | some n => if z.length ≤ 14 ∧ n ≤ m then n else -1
  | none => -1
def spFg : Sp := fun vs H Q _ => ∃ (z : Str) (m : Int), vs = [.str z, .int m] ∧ Tk z ∧ z.length ≤ 20000 ∧ ∀ H1, Ex H H1 → Q (.int (fig z m)) H1
def prB (ws : List Str) (m : Int) : Bool := match ws with
  | [a, b] => decide (0 ≤ fig a m) && decide (fig a m ≤ fig b m)
  | _ => false
def spPr3 : Sp := fun vs H Q _ => ∃ (l : Addr) (ws : List Str) (m : Int), vs = [.ref l, .int m] ∧ H l = some (.lst (ws.map V.str)) ∧ ws.length ≤ 20000 ∧ (∀ w ∈ ws, Tk w ∧ w.length ≤ 20000) ∧ ∀ H1, Ex H H1 → Q (.bl (prB ws m)) H1
theorem rd_seqU3 {a b : TS} {D : Ends} {σ : L2.St} {H : Hp} (h : a { D with nx := b D } σ H) : tSeq a b D σ H := h
theorem rd_asgU3 {te : TE} {g : TG} {D : Ends} {σ : L2.St} {H : Hp} (h : te σ H fun v H1 => g v σ H1 D.nx) : tAsg te g D σ H := h
theorem rd_nameU3 {i : Nat} {v : V} {σ : L2.St} {H : Hp} {Q : L2.St → Hp → Prop} (h : Q (σ.set i (some v)) H) : gName i v σ H Q := h
theorem rd_nextU3 {D : Ends} {σ : L2.St} {H : Hp} (h : D.nx σ H) : tNext D σ H := h
theorem rd_cbU3 {r : List V → Hp → VK → Prop} {t : TA} {σ : L2.St} {H : Hp} {Q : VK} (h : t σ H fun vs H1 => r vs H1 Q) : tCB r t σ H Q := h
theorem rd_consU3 {te : TE} {t : TA} {σ : L2.St} {H : Hp} {Q : List V → Hp → Prop} (h : te σ H fun v H1 => t σ H1 fun vs H2 => Q (v :: vs) H2) : tCons te t σ H Q := h
theorem rd_ifU3 {c : TT} {t u : TS} {D : Ends} {σ : L2.St} {H : Hp} (h : c σ H fun b H1 => if b = true then t D σ H1 else u D σ H1) : tIfS c t u D σ H := h
theorem rd_testU3 {t : TE} {σ : L2.St} {H : Hp} {Q : Bool → Hp → Prop} (h : t σ H fun x H1 => ∃ k, x = .bl k ∧ Q k H1) : tTest t σ H Q := h
theorem rd_opU3 {r : R2} {ta tb : TE} {σ : L2.St} {H : Hp} {Q : VK} (h : ta σ H fun x H1 => tb σ H1 fun y H2 => r x y H2 Q) : tOp r ta tb σ H Q := h
theorem mem_az {c : Nat} : decide (c ∈ (Str.ofString "abcdefghijklmnopqrstuvwxyz").cps.toList) = (decide (97 ≤ c) && decide (c ≤ 122)) := by
  have e : (Str.ofString "abcdefghijklmnopqrstuvwxyz").cps.toList = List.range' 97 26 := by decide +kernel
  rw [e, Bool.eq_iff_iff, decide_eq_true_eq, Bool.and_eq_true, decide_eq_true_eq, decide_eq_true_eq, List.mem_range'_1]
  omega
theorem mem_09 {c : Nat} : decide (c ∈ (Str.ofString "0123456789").cps.toList) = dgt c := by
  have e : (Str.ofString "0123456789").cps.toList = List.range' 48 10 := by decide +kernel
  unfold dgt
  rw [e, Bool.eq_iff_iff, decide_eq_true_eq, Bool.and_eq_true, decide_eq_true_eq, decide_eq_true_eq, List.mem_range'_1]
  omega
def badL (good : Nat → Bool) (z : Str) : List Nat := z.cps.toList.filter fun c => !good c
theorem bad_nil {good : Nat → Bool} {z : Str} : (badL good z).isEmpty = z.cps.toList.all good := by
  unfold badL
  induction z.cps.toList with
  | nil => rfl
  | cons a r ih =>
    rw [List.filter_cons, List.all_cons]
    cases good a with
    | true =>
      simp only [Bool.not_true, Bool.false_eq_true, if_false, Bool.true_and]
      exact ih
    | false => rfl
def sgD (c : Nat) : PyData := .str ⟨#[c]⟩
theorem dp_sgs {K : PySem.W.Frag} {H : Hp} {D : Addr} {cs : List Nat} (h : H D = some (.lst (cs.map fun c => V.str ⟨#[c]⟩))) : Dp K H (.ref D) (.list (cs.map sgD)) := by
  refine .lst (SqL.of h) ?_
  clear h
  induction cs with
  | nil => exact .nil
  | cons a r ih => exact .cons (.str _) ih
theorem shaped_sgs {cs : List Nat} (h : ∀ c ∈ cs, c < 1114112) : SeqAt.shaped (.list (cs.map sgD)) = true := by
  have a : ∀ {ds : List Nat}, (∀ c ∈ ds, c < 1114112) → PyData.canLayAll0 (ds.map sgD) = true ∧ PyData.depthAll (ds.map sgD) = 0 := by
    intro ds
    induction ds with
    | nil => exact fun _ => ⟨rfl, rfl⟩
    | cons a r ih =>
      intro h
      obtain ⟨h1, h2⟩ := ih fun c hc => h c (List.mem_cons_of_mem _ hc)
      have h3 : PyData.strOk ⟨#[a]⟩ = true := by
        unfold PyData.strOk
        simpa using h a (List.mem_cons_self ..)
      refine ⟨?_, ?_⟩
      · simp [PyData.canLayAll0, PyData.canLay0, sgD, h3, h1]
      · simp [PyData.depthAll, PyData.depth, sgD, h2]
  obtain ⟨h1, h2⟩ := a h
  unfold SeqAt.shaped
  simp [PyData.canLay0, PyData.depth, h1, h2]
theorem eqv_sgs {cs : List Nat} : PyData.eqv (.list (cs.map sgD)) (.list []) = cs.isEmpty := by
  cases cs with
  | nil => rfl
  | cons a r => rfl
theorem rd_sgs {σ : L2.St} {H : Hp} {Q : VK} {i k : Nat} {A z : Str} {good : Nat → Bool} (hg : ∀ c, decide (c ∈ A.cps.toList) = good c) (hz : σ[i]? = some (some (.str z))) (hk : k < σ.length) (hn : σ[k]? = some none) (lz : z.length ≤ 20000)
    (q : ∀ D H1, Ex H H1 → H1 D = some (.lst ((badL good z).map fun c => V.str ⟨#[c]⟩)) → Q (.ref D) H1) : tLc (iStr (tVar i)) (gName k) (tTest (tOp rNis (tVar k) (tC (.str A)))) (tVar k) [k] σ H Q := by
  have sz := sizeLine_eq
  have zsz : z.cps.toList.length = z.length := rfl
  refine ⟨_, hz, z, rfl, fun D hD => lc_it walk_str (fun n H2 => Ex H H2 ∧ H2 D = some (.lst (((z.cps.toList.take n).filter fun c => !good c).map fun c => V.str ⟨#[c]⟩))) ⟨Ex.refl.new hD, upd_same⟩ (fun _ _ _ _ => True.intro) ?_ ?_⟩
  · rintro n y _ H2 hi ⟨x2, e2⟩ ⟨rfl, c, hc, rfl⟩
    have hc2 : z.cps.toList[n]? = some c := by rw [Array.getElem?_toList]; exact hc
    have il := (List.getElem?_eq_some_iff.mp hc2).1
    have w0 : wipe σ [k] = σ.set k none := by
      unfold wipe
      rfl
    have s2 : (wipe σ [k]).set k (some (V.str ⟨#[c]⟩)) = σ.set k (some (V.str ⟨#[c]⟩)) := by
      rw [w0, List.set_set]
    refine ⟨?_, ?_⟩
    · rw [s2]
      unfold wipe
      show (σ.set k _).set k none = σ.set k none
      rw [List.set_set]
    · rw [s2]
      have sk : (σ.set k (some (V.str ⟨#[c]⟩)))[k]? = some (some (V.str ⟨#[c]⟩)) := List.getElem?_set_self hk
      have tk1 : (z.cps.toList.take (n + 1)).filter (fun c => !good c) = (z.cps.toList.take n).filter (fun c => !good c) ++ (if good c = true then [] else [c]) := by
        rw [List.take_succ, hc2, List.filter_append]
        cases e : good c <;> simp [e]
      refine ⟨_, sk, c, A, rfl, rfl, _, rfl, ?_⟩
      rw [hg]
      cases e : good c with
      | true =>
        refine ite2 (fun z => by cases z) (fun _ => ⟨x2, ?_⟩)
        rw [tk1, if_pos e, List.append_nil]
        exact e2
      | false =>
        refine ite2 (fun _ => ⟨_, sk, _, e2, ?_, x2.put hD, ?_⟩) (fun z => absurd rfl z)
        · rw [List.length_map]
          have := List.length_filter_le (fun c => !good c) (z.cps.toList.take n)
          rw [List.length_take] at this
          omega
        · rw [upd_same, tk1, if_neg (by rw [e]; exact Bool.false_ne_true), List.map_append]
          rfl
  · rintro H2 ⟨x2, e2⟩
    refine q D H2 x2 ?_
    rw [List.take_of_length_le (by rw [Array.length_toList]; exact Nat.le_refl _)] at e2
    exact e2
section
variable {P : Program} {w : World} {K : PySem.W.Frag} {mg : Str → Option Value} {base : Heap}
theorem scNm3 : FnScope ["_law_word", "_law_sign"] ["_law_word"] (defScope sNm3) := ⟨rfl, rfl, rfl, by decide +kernel, rfl, by decide +kernel, by decide +kernel⟩
theorem scFg : FnScope ["_law_word", "_law_most", "_law_sign"] ["_law_word", "_law_most"] (defScope sFg) := ⟨rfl, rfl, rfl, by decide +kernel, rfl, by decide +kernel, by decide +kernel⟩
theorem scPr3 : FnScope ["_law_words", "_law_most"] ["_law_words", "_law_most"] (defScope sPr3) := ⟨rfl, rfl, rfl, by decide +kernel, rfl, by decide +kernel, by decide +kernel⟩
theorem ok_nm3 {f : Addr} {fd : FuncData} (F : Fun K "_law_is_name" "_law_is_name" sNm3 f fd) (B : BltI mg) : FnOk P w K mg base CX0 1 f fd ["_law_word"] spNm3 := by
  refine F.ok scNm3 (fun vs H Q E h => ?_) (fun cdv A outer s H vs Q E hr h => ?_)
  · obtain ⟨z, rfl, _⟩ := h
    rfl
  · obtain ⟨z, rfl, tk, lz, q⟩ := h
    have hu : (A.deeper (PyProof.Rows.envOfC "_law_is_name" (defScope sNm3) s.heap.objs.size f cdv)).units + 64 < cLine := by
      have := hr.un
      omega
    refine ⟨_, pss_one (ps_ret (pe_and (pe_chain op_lt op_lt pe_int (pe_callB call_len_str (by rfl) B.len (by decide +kernel) (pa_cons (pv 0) pa_nil)) pe_int)
      (pe_one (pe_cmpR (op_eqD hu) (pe_lc (own := [("_law_sign", 1)]) (g := gName 1) (tt := tTest (tOp rNis (tVar 1) (tC (.str (Str.ofString "abcdefghijklmnopqrstuvwxyz"))))) (te := tVar 1) (by rfl) scNm3.nd (pi_str (pv 0)) (blkOk_by (own := [("_law_sign", 1)]) (N := ["_law_word", "_law_sign"]) (sc := defScope sNm3) (by decide +kernel)) (fun _ _ _ _ _ => pg_name (i := 1) scNm3.nd rfl (Or.inl rfl)) (fun _ _ _ _ _ => pts_one (pt_cmpR (show OpR _ _ rNis from op_notIn_sign) (pv 1) pe_str rfl)) (fun _ _ _ _ _ => pv 1)) (pe_lst pa_nil) (nomark _))))), ?_⟩
    have sz := sizeLine_eq
    have zsz : z.cps.toList.length = z.length := rfl
    have tkc : ∀ c ∈ badL (fun c => decide (97 ≤ c) && decide (c ≤ 122)) z, c < 1114112 := fun c hc => by
      have := tk_iff.mp tk c (List.mem_filter.mp hc).1
      omega
    refine ⟨_, rfl, z, rfl, by omega, 0, (z.length : Nat), rfl, rfl, ?_⟩
    refine ⟨_, rfl, ?_⟩
    by_cases c0 : (0 : Int) < (z.length : Nat)
    · rw [decide_eq_true c0]
      refine ite2 (fun _ => ?_) (fun z => absurd rfl z)
      refine ⟨_, _, rfl, rfl, _, rfl, ?_⟩
      by_cases c9 : ((z.length : Nat) : Int) < 9
      · rw [decide_eq_true c9]
        refine ite2 (fun _ => ?_) (fun z => absurd rfl z)
        refine rd_sgs (good := fun c => decide (97 ≤ c) && decide (c ≤ 122)) (fun c => mem_az) rfl (show 1 < 2 by decide) rfl lz fun D H1 x1 h1 => ?_
        refine ⟨by rw [sz]; exact Nat.zero_le _, fun p np => ?_⟩
        have x2 : Ex H1 (upd H1 p (.lst [])) := Ex.refl.new np
        have h2 : (upd H1 p (.lst [])) p = some (.lst []) := upd_same
        generalize upd H1 p (.lst []) = H2 at x2 h2 ⊢
        refine ⟨_, _, dp_sgs (x2 _ _ h1), .lst (SqL.of h2) .nil, shaped_sgs tkc, rfl, ?_⟩
        rw [eqv_sgs, bad_nil]
        have q := q _ (x1.trans x2)
        have e : isW z = z.cps.toList.all fun c => decide (97 ≤ c) && decide (c ≤ 122) := by
          unfold isW
          rw [decide_eq_true (p := 1 ≤ z.length) (by omega), decide_eq_true (p := z.length ≤ 8) (by omega), Bool.true_and, Bool.true_and]
        rw [e] at q
        exact q
      · rw [decide_eq_false c9]
        refine ite2 (fun z => by cases z) (fun _ => ?_)
        have q := q _ Ex.refl
        have e : isW z = false := by
          unfold isW
          rw [decide_eq_false (p := z.length ≤ 8) (by omega), Bool.false_and, Bool.and_false]
        rw [e] at q
        exact q
    · rw [decide_eq_false c0]
      refine ite2 (fun z => by cases z) (fun _ => ?_)
      refine ⟨_, rfl, ?_⟩
      refine ite2 (fun z => by cases z) (fun _ => ?_)
      have q := q _ Ex.refl
      have e : isW z = false := by
        unfold isW
        rw [decide_eq_false (p := 1 ≤ z.length) (by omega), Bool.false_and]
      rw [e] at q
      exact q
theorem ok_fg {f : Addr} {fd : FuncData} (F : Fun K "_law_figure" "_law_figure" sFg f fd) (B : BltI mg) : FnOk P w K mg base CX0 1 f fd ["_law_word", "_law_most"] spFg := by
  refine F.ok scFg (fun vs H Q E h => ?_) (fun cdv A outer s H vs Q E hr h => ?_)
  · obtain ⟨z, m, rfl, _⟩ := h
    rfl
  · obtain ⟨z, m, rfl, tk, lz, q⟩ := h
    have hu : (A.deeper (PyProof.Rows.envOfC "_law_figure" (defScope sFg) s.heap.objs.size f cdv)).units + 64 < cLine := by
      have := hr.un
      omega
    refine ⟨_, pss_cons (ps_if (PW.pt (pw_or (pt_cmpR op_eq (pv 0) pe_str (nomark _)) (pw_or (pt_cmpR op_gt (pe_callB call_len_str (by rfl) B.len (by decide +kernel) (pa_cons (pv 0) pa_nil)) pe_int (nomark _))
        (pw_or1 (pt_cmpR (op_neD hu) (pe_lc (own := [("_law_sign", 2)]) (g := gName 2) (tt := tTest (tOp rNis (tVar 2) (tC (.str (Str.ofString "0123456789"))))) (te := tVar 2) (by rfl) scFg.nd (pi_str (pv 0)) (blkOk_by (own := [("_law_sign", 2)]) (N := ["_law_word", "_law_most", "_law_sign"]) (sc := defScope sFg) (by decide +kernel)) (fun _ _ _ _ _ => pg_name (i := 2) scFg.nd rfl (Or.inl rfl)) (fun _ _ _ _ _ => pts_one (pt_cmpR (show OpR _ _ rNis from op_notIn_sign) (pv 2) pe_str rfl)) (fun _ _ _ _ _ => pv 2)) (pe_lst pa_nil) (nomark _)))))) (pss_one (ps_ret (pe_un un_neg pe_int))) pss_nil)
      (pss_cons (ps_if (PW.pt (pw_and (pt_cmpR op_eq (pe_ix ix_str (pv 0) pe_int (fun _ _ => rfl)) pe_str (nomark _)) (pw_and1 (pt_cmpR op_ne (pv 0) pe_str (nomark _))))) (pss_one (ps_ret (pe_un un_neg pe_int))) pss_nil)
      (pss_one (ps_ret (pe_ifExp (pt_cmpR op_le (pe_callTy call_int_str (by rfl) B.int (by decide +kernel) (pa_cons (pv 0) pa_nil)) (pv 1) (nomark _)) (pe_callTy call_int_str (by rfl) B.int (by decide +kernel) (pa_cons (pv 0) pa_nil)) (pe_un un_neg pe_int))))), ?_⟩
    have sz := sizeLine_eq
    have zsz : z.cps.toList.length = z.length := rfl
    have tkc : ∀ c ∈ badL dgt z, c < 1114112 := fun c hc => by
      have := tk_iff.mp tk c (List.mem_filter.mp hc).1
      omega
    have no : ∀ H1, Ex H H1 → fig z m = -1 → Q (.int (-1)) H1 := fun H1 x1 e => by
      have := q H1 x1
      rw [e] at this
      exact this
    have bad : rdOk z = false → fig z m = -1 := fun e => by
      unfold fig rdN
      rw [if_neg (by rw [e]; decide)]
    refine rd_seqU3 (rd_ifU3 ?_)
    refine ⟨_, rfl, rfl, _, rfl, ?_⟩
    by_cases ce : z = Str.ofString ""
    · subst ce
      refine ite2 (fun _ => ?_) (fun z => absurd (decide_eq_true rfl) z)
      refine ite2 (fun _ => ?_) (fun z => absurd rfl z)
      exact ⟨_, rfl, no _ Ex.refl (bad (by decide +kernel))⟩
    · refine ite2 (fun z => absurd (V.str.inj (of_decide_eq_true z)) ce) (fun _ => ?_)
      have l1 : 1 ≤ z.length := by
        rcases Nat.eq_zero_or_pos z.length with h | h
        · refine absurd ?_ ce
          obtain ⟨cs⟩ := z
          have : cs = #[] := Array.size_eq_zero_iff.mp h
          rw [this]
          rfl
        · exact h
      refine ⟨_, rfl, z, rfl, by omega, _, _, rfl, rfl, _, rfl, ?_⟩
      by_cases c14 : (14 : Int) < (z.length : Nat)
      · rw [decide_eq_true c14]
        refine ite2 (fun _ => ?_) (fun z => absurd rfl z)
        refine ite2 (fun _ => ?_) (fun z => absurd rfl z)
        refine ⟨_, rfl, no _ Ex.refl ?_⟩
        unfold fig
        split
        · rw [if_neg (fun h => by omega)]
        · rfl
      · rw [decide_eq_false c14]
        refine ite2 (fun z => by cases z) (fun _ => ?_)
        refine rd_testU3 (rd_opU3 (rd_sgs (good := dgt) (fun c => mem_09) rfl (show 2 < 3 by decide) rfl lz fun D H1 x1 h1 => ?_))
        refine ⟨by rw [sz]; exact Nat.zero_le _, fun p np => ?_⟩
        have x2 : Ex H1 (upd H1 p (.lst [])) := Ex.refl.new np
        have h2 : (upd H1 p (.lst [])) p = some (.lst []) := upd_same
        generalize upd H1 p (.lst []) = H2 at x2 h2 ⊢
        have X := x1.trans x2
        refine ⟨_, _, dp_sgs (x2 _ _ h1), .lst (SqL.of h2) .nil, shaped_sgs tkc, rfl, _, rfl, ?_⟩
        rw [eqv_sgs, bad_nil]
        cases ea : z.cps.toList.all dgt with
        | false =>
          refine ite2 (fun _ => ?_) (fun z => absurd rfl z)
          refine ⟨_, rfl, no _ X (bad ?_)⟩
          unfold rdOk
          rw [ea, Bool.and_false, Bool.and_false]
        | true =>
          refine ite2 (fun z => by cases z) (fun _ => ?_)
          refine rd_nextU3 ?_
          try dsimp only
          refine rd_seqU3 (rd_ifU3 ?_)
          refine rd_first (z := z) rfl l1 (by omega) ?_
          refine ite2 (fun k1 => ?_) (fun k1 => ?_)
          · refine ⟨_, rfl, no _ X (bad ?_)⟩
            unfold rdOk
            rw [k1]
            simp
          · have k2 := Bool.eq_false_iff.mpr k1
            refine rd_nextU3 ?_
            try dsimp only
            have ok : rdOk z = true := by
              unfold rdOk
              rw [k2, ea, decide_eq_true l1]
              rfl
            have it : PySem.intText? z = some ((NumText.digitsVal z.cps.toList : Nat) : Int) := intText_digits (fun c hc => by
              have := List.all_eq_true.mp ea c hc
              unfold dgt at this
              rw [Bool.and_eq_true, decide_eq_true_eq, decide_eq_true_eq] at this
              exact this) (fun y => by
              rw [y] at zsz
              simp at zsz
              omega) (by omega)
            have fe : fig z m = if ((NumText.digitsVal z.cps.toList : Nat) : Int) ≤ m then ((NumText.digitsVal z.cps.toList : Nat) : Int) else -1 := by
              unfold fig rdN
              rw [if_pos ok]
              show (if z.length ≤ 14 ∧ ((NumText.digitsVal z.cps.toList : Nat) : Int) ≤ m then _ else _) = _
              have : z.length ≤ 14 := by omega
              simp only [this, true_and]
            refine ⟨_, rfl, z, _, rfl, it, by omega, _, rfl, _, _, rfl, rfl, _, rfl, ?_⟩
            have q := q _ X
            rw [fe] at q
            by_cases cm : ((NumText.digitsVal z.cps.toList : Nat) : Int) ≤ m
            · rw [decide_eq_true cm]
              rw [if_pos cm] at q
              refine ite2 (fun _ => ?_) (fun z => absurd rfl z)
              exact ⟨_, rfl, z, _, rfl, it, by omega, q⟩
            · rw [decide_eq_false cm]
              rw [if_neg cm] at q
              refine ite2 (fun z => by cases z) (fun _ => ?_)
              exact ⟨_, rfl, q⟩
theorem ok_pr3 {f fG : Addr} {fd fdG : FuncData} (F : Fun K "_law_is_pair" "_law_is_pair" sPr3 f fd) (B : BltI mg)
    (GG : FnOk P w K mg base CX0 1 fG fdG ["_law_word", "_law_most"] spFg) (mG : mg "_law_figure" = some (.ref fG)) (kG : PySem.W.keepIn K (.ref fG) = true) (bG : Binds K fdG ["_law_word", "_law_most"] []) :
    FnOk P w K mg base CX0 2 f fd ["_law_words", "_law_most"] spPr3 := by
  refine F.ok scPr3 (fun vs H Q E h => ?_) (fun cdv A outer s H vs Q E hr h => ?_)
  · obtain ⟨l, ws, m, rfl, _⟩ := h
    rfl
  · obtain ⟨l, ws, m, rfl, hl, lw, hw, q⟩ := h
    refine ⟨_, pss_one (ps_ret (pe_and (pe_cmpR op_eq (pe_callB call_len_seq (by rfl) B.len (by decide +kernel) (pa_cons (pv 0) pa_nil)) pe_int (nomark _))
      (pe_one (pe_chain op_le op_le pe_int (pe_call GG hr (by rfl) mG kG bG .nil pass0 (pa_cons (pe_ix ix_list (pv 0) pe_int (fun _ _ => rfl)) (pa_cons (pv 1) pa_nil))) (pe_call GG hr (by rfl) mG kG bG .nil pass0 (pa_cons (pe_ix ix_list (pv 0) pe_int (fun _ _ => rfl)) (pa_cons (pv 1) pa_nil))))))), ?_⟩
    refine ⟨_, rfl, l, _, rfl, .inl (SqL.of hl), rfl, ?_⟩
    rw [List.length_map]
    match ws, hl, hw, q with
    | [a, b], hl, hw, q =>
      obtain ⟨ta, la⟩ := hw a (by simp)
      obtain ⟨tb, lb⟩ := hw b (by simp)
      refine ⟨_, rfl, ?_⟩
      refine ite2 (fun _ => ?_) (fun z => absurd (decide_eq_true rfl) z)
      refine ⟨_, rfl, l, _, _, _, rfl, rfl, SqL.of hl, atI_nat (j := 0) rfl, _, rfl, a, m, rfl, ta, la, fun H1 x1 => ?_⟩
      refine ⟨_, _, rfl, rfl, _, rfl, ?_⟩
      by_cases c0 : 0 ≤ fig a m
      · rw [decide_eq_true c0]
        refine ite2 (fun _ => ?_) (fun z => absurd rfl z)
        refine ⟨_, rfl, l, _, _, _, rfl, rfl, SqL.of (x1 _ _ hl), atI_nat (j := 1) rfl, _, rfl, b, m, rfl, tb, lb, fun H2 x2 => ?_⟩
        refine ⟨_, _, rfl, rfl, ?_⟩
        have q := q _ (x1.trans x2)
        have e : prB [a, b] m = decide (fig a m ≤ fig b m) := by
          show (decide (0 ≤ fig a m) && decide (fig a m ≤ fig b m)) = _
          rw [decide_eq_true c0, Bool.true_and]
        rw [e] at q
        exact q
      · rw [decide_eq_false c0]
        refine ite2 (fun z => by cases z) (fun _ => ?_)
        have q := q _ x1
        have e : prB [a, b] m = false := by
          show (decide (0 ≤ fig a m) && decide (fig a m ≤ fig b m)) = _
          rw [decide_eq_false c0, Bool.false_and]
        rw [e] at q
        exact q
    | [], hl, hw, q =>
      refine ⟨_, rfl, ?_⟩
      exact ite2 (fun z => absurd (V.int.inj (of_decide_eq_true z)) (by simp)) (fun _ => q _ Ex.refl)
    | [_], hl, hw, q =>
      refine ⟨_, rfl, ?_⟩
      exact ite2 (fun z => absurd (V.int.inj (of_decide_eq_true z)) (by simp)) (fun _ => q _ Ex.refl)
    | _ :: _ :: _ :: r, hl, hw, q =>
      refine ⟨_, rfl, ?_⟩
      refine ite2 (fun z => ?_) (fun _ => q _ Ex.refl)
      have := V.int.inj (of_decide_eq_true z)
      simp only [List.length_cons] at this
      omega
end
end LJ
set_option Elab.async false
set_option linter.all false
set_option maxRecDepth 100000
set_option maxHeartbeats 8000000
/-! _law_is_line. -/
namespace LJ
open PySem PySem.Spec L2
open LamX (ExtN)
abbrev sLn3 : Stmt := top 49
abbrev nLn3 : List Str := ["_law_words", "_law_many", "_law_parts", "_law_word", "_law_part"]
def lineB (ws : List Str) (many : Int) : Bool := match ws with
  | k :: n :: r => isW n && (if k = kM ∨ k = kC then prB r 1000 else if k = kS then (match r with | [a] => decide (0 ≤ fig a 1000000000000) | _ => false) else decide ((r.length : Int) = many) && r.all fun w => prB (Txt.split w hy) 1000000000000)
  | _ => false
def rPow : R2 := rI CPow fun i j => V.int (i ^ j.toNat)
/-- word.split('-') -/
def tSpH : TE := tM1 (fun x xs H Q => ∃ a b, x = .str a ∧ xs = [.str b] ∧ (b.length == 0) = false ∧ a.length + 2 ≤ sizeLine ∧ rNewStrs (Txt.split a b) H Q) (tVar 3) (tC (.str hy))
def tePr : TE := tCall spPr3 [] E0 (tCons (tVar 4) (tCons (tOp rPow (tC (.int 10)) (tC (.int 12))) tNil))
def spLn3 : Sp := fun vs H Q _ => ∃ (l : Addr) (ws : List Str) (m : Int), vs = [.ref l, .int m] ∧ H l = some (.lst (ws.map V.str)) ∧ ws ≠ [] ∧ ws.length ≤ 20000 ∧ (∀ w ∈ ws, Tk w ∧ w.length ≤ 20000 - 10) ∧ ∀ H1, Ex H H1 → Q (.bl (lineB ws m)) H1
theorem inV_strs (z : Str) : ∀ ns : List Str, inV (.str z) (ns.map V.str) = ns.contains z
  | [] => rfl
  | n :: ns => by
    have ih := inV_strs z ns
    unfold inV at ih ⊢
    rw [List.map_cons, List.any_cons, ih, List.contains_cons]
    show ((n == z) || _) = _
    have : (n == z) = (z == n) := by
      by_cases h : n = z
      · rw [h]
      · rw [beq_eq_false_iff_ne.mpr h, beq_eq_false_iff_ne.mpr (Ne.symm h)]
    rw [this]
theorem flat_strs : ∀ ns : List Str, (ns.map V.str).all flatV = true
  | [] => rfl
  | n :: ns => by
    rw [List.map_cons, List.all_cons, flat_strs ns]
    rfl
theorem cut2 {a b : Str} {ms : List Str} : cutV ((a :: b :: ms).map V.str) (some 2) none = ms.map V.str := by
  unfold cutV
  rw [HT.sIx_none, show (some (2 : Int)) = some ((2 : Nat) : Int) from rfl, HT.sIx_nat]
  simp only [List.map_cons, List.length_cons]
  rw [Nat.min_eq_left (by omega)]
  show List.take _ (List.map V.str ms) = _
  exact List.take_of_length_le (by omega)
theorem paired_get {α β : Type} {R : α → β → Prop} : ∀ {xs : List α} {ys : List β}, Paired R xs ys → ∀ {i : Nat} {x : α}, xs[i]? = some x → ∃ y, ys[i]? = some y ∧ R x y := fun h _ _ hx => Paired.spot h hx
/-- words cut at hyphens: all pairs -/
theorem rd_prs {K : PySem.W.Frag} {σ : L2.St} {H : Hp} {Q : VK} {D : Addr} {ps : List Addr} {zss : List (List Str)} (h2 : σ[2]? = some (some (.ref D))) (s4 : ∀ v : V, (((wipe σ [4]).set 4 (some v)))[4]? = some (some v)) (w4 : ∀ v : V, wipe ((wipe σ [4]).set 4 (some v)) [4] = wipe σ [4])
    (hD : H D = some (.lst (ps.map V.ref))) (hp : Paired (fun p zs => H p = some (.lst (zs.map V.str))) ps zss) (hz : ∀ zs ∈ zss, zs.length ≤ 20000 ∧ ∀ w ∈ zs, Tk w ∧ w.length ≤ 20000) (lz : zss.length ≤ 20000)
    (q : ∀ D2 H1, Ex H H1 → H1 D2 = some (.lst ((zss.map fun zs => prB zs 1000000000000).map V.bl)) → Q (.ref D2) H1) : tLc (iList K (tVar 2)) (gName 4) tYes tePr [4] σ H Q := by
  have sz := sizeLine_eq
  have lp : ps.length = zss.length := Paired.size hp
  refine ⟨_, h2, D, rfl, ⟨_, SqL.of hD⟩, fun D2 nD => lc_list (K := K) (a := D) (xs := ps.map V.ref) (fun n H2 => Ex H H2 ∧ H2 D2 = some (.lst (((zss.take n).map fun zs => prB zs 1000000000000).map V.bl))) ⟨Ex.refl.new nD, upd_same⟩ (fun n H2 _ ⟨e, _⟩ => SqL.of (e _ _ hD)) ?_ ?_⟩
  · rintro n v H2 hv ⟨e2, h2'⟩
    rw [List.getElem?_map] at hv
    obtain ⟨p, hp2, rfl⟩ := Option.map_eq_some_iff.mp hv
    obtain ⟨zs, hzs, hp3⟩ := Paired.spot hp hp2
    have il := (List.getElem?_eq_some_iff.mp hp2).1
    obtain ⟨l1, l2⟩ := hz zs (List.mem_of_getElem? hzs)
    refine ⟨w4 _, ?_⟩
    refine ⟨_, s4 _, _, _, rfl, rfl, ⟨by decide, by decide, by decide⟩, p, zs, 1000000000000, ?_, e2 _ _ hp3, l1, l2, fun H3 x3 => ⟨_, x3 _ _ h2', ?_, (e2.trans x3).put nD, ?_⟩⟩
    · rfl
    · rw [List.length_map, List.length_map, List.length_take]
      omega
    · rw [upd_same, List.take_succ, hzs, List.map_append, List.map_append]
      rfl
  · rintro H2 ⟨e2, h2'⟩
    rw [List.length_map, lp, List.take_length] at h2'
    exact q D2 H2 e2 h2'
section
variable {P : Program} {w : World} {K : PySem.W.Frag} {mg : Str → Option Value} {base : Heap}
theorem scLn3 : FnScope nLn3 ["_law_words", "_law_many"] (defScope sLn3) := ⟨rfl, rfl, rfl, by decide +kernel, rfl, by decide +kernel, by decide +kernel⟩
theorem ok_ln3 {f fN fG fR : Addr} {fd fdN fdG fdR : FuncData} (F : Fun K "_law_is_line" "_law_is_line" sLn3 f fd) (B : BltI mg)
    (GN : FnOk P w K mg base CX0 1 fN fdN ["_law_word"] spNm3) (mN : mg "_law_is_name" = some (.ref fN)) (kN : PySem.W.keepIn K (.ref fN) = true) (bN : Binds K fdN ["_law_word"] [])
    (GG : FnOk P w K mg base CX0 1 fG fdG ["_law_word", "_law_most"] spFg) (mG : mg "_law_figure" = some (.ref fG)) (kG : PySem.W.keepIn K (.ref fG) = true) (bG : Binds K fdG ["_law_word", "_law_most"] [])
    (GR : FnOk P w K mg base CX0 2 fR fdR ["_law_words", "_law_most"] spPr3) (mR : mg "_law_is_pair" = some (.ref fR)) (kR : PySem.W.keepIn K (.ref fR) = true) (bR : Binds K fdR ["_law_words", "_law_most"] []) :
    FnOk P w K mg base CX0 3 f fd ["_law_words", "_law_many"] spLn3 := by
  refine F.ok scLn3 (fun vs H Q E h => ?_) (fun cdv A outer s H vs Q E hr h => ?_)
  · obtain ⟨l, ws, m, rfl, _⟩ := h
    rfl
  · obtain ⟨l, ws, m, rfl, hl, ne, lw, hw, q⟩ := h
    have hr1 : Room 1 (A.deeper (PyProof.Rows.envOfC "_law_is_line" (defScope sLn3) s.heap.objs.size f cdv)) := hr.mono (by decide)
    refine ⟨_, pss_cons (ps_if (PW.pt (pw_or (pt_cmpR op_lt (pe_callB call_len_seq (by rfl) B.len (by decide +kernel) (pa_cons (pv 0) pa_nil)) pe_int (nomark _)) (pw_or1 (pt_not (pt_val (pe_call GN hr1 (by rfl) mN kN bN .nil pass0 (pa_cons (pe_ix ix_list (pv 0) pe_int (fun _ _ => rfl)) pa_nil))))))) (pss_one (ps_ret pe_bl)) pss_nil)
      (pss_cons (ps_if (pt_cmpR op_in_seq (pe_ix ix_list (pv 0) pe_int (fun _ _ => rfl)) (pe_lst (pa_cons pe_str (pa_cons pe_str pa_nil))) rfl) (pss_one (ps_ret (pe_and (pe_cmpR op_eq (pe_callB call_len_seq (by rfl) B.len (by decide +kernel) (pa_cons (pv 0) pa_nil)) pe_int (nomark _)) (pe_one (pe_call GR hr (by rfl) mR kR bR .nil pass0 (pa_cons (pe_slice sl_list (pv 0) (po_some pe_int) po_none) (pa_cons pe_int pa_nil))))))) pss_nil)
      (pss_cons (ps_if (pt_cmpR op_eq (pe_ix ix_list (pv 0) pe_int (fun _ _ => rfl)) pe_str (nomark _)) (pss_one (ps_ret (pe_and (pe_cmpR op_eq (pe_callB call_len_seq (by rfl) B.len (by decide +kernel) (pa_cons (pv 0) pa_nil)) pe_int (nomark _)) (pe_one (pe_cmpR op_ge (pe_call GG hr1 (by rfl) mG kG bG .nil pass0 (pa_cons (pe_ix ix_list (pv 0) pe_int (fun _ _ => rfl)) (pa_cons (pe_op op_pow pe_int pe_int) pa_nil))) pe_int (nomark _)))))) pss_nil)
      (pss_cons (ps_setLc (i := 2) (own := [("_law_word", 3)]) (g := gName 3) (te := tSpH) (by rfl) scLn3.nd rfl rfl (sw_true rfl rfl rfl (by decide +kernel)) (pi_list (pe_slice sl_list (pv 0) (po_some pe_int) po_none)) (blkOk_by (own := [("_law_word", 3)]) (N := nLn3) (sc := defScope sLn3) (by decide +kernel)) (fun _ _ _ _ _ => pg_name (i := 3) scLn3.nd rfl (Or.inl rfl)) (fun _ _ _ _ _ => pts_nil) (fun _ _ _ _ _ => pe_split (pv 3) pe_str))
      (pss_one (ps_ret (pe_and (pe_cmpR op_eq (pe_callB call_len_seq (by rfl) B.len (by decide +kernel) (pa_cons (pv 2) pa_nil)) (pv 1) (nomark _))
        (pe_one (pe_callB (cr_all (by rfl)) (by rfl) B.all (by decide +kernel) (pa_cons (pe_lc (own := [("_law_part", 4)]) (g := gName 4) (te := tePr) (by rfl) scLn3.nd (pi_list (pv 2)) (blkOk_by (own := [("_law_part", 4)]) (N := nLn3) (sc := defScope sLn3) (by decide +kernel)) (fun _ _ _ _ _ => pg_name (i := 4) scLn3.nd rfl (Or.inl rfl)) (fun _ _ _ _ _ => pts_nil) (fun _ _ _ _ _ => pe_call GR hr (by rfl) mR kR bR .nil pass0 (pa_cons (pv 4) (pa_cons (pe_op op_pow pe_int pe_int) pa_nil)))) pa_nil))))))))), ?_⟩
    have sz := sizeLine_eq
    have big : ∀ {n : Nat}, n ≤ 1000 → n ≤ sizeLine := fun h => by omega
    have no : ∀ H1, Ex H H1 → lineB ws m = false → Q (.bl false) H1 := fun H1 x1 e => by
      have := q H1 x1
      rw [e] at this
      exact this
    refine rd_seqU3 (rd_ifU3 ?_)
    refine ⟨_, rfl, l, _, rfl, .inl (SqL.of hl), _, _, rfl, rfl, _, rfl, ?_⟩
    rw [List.length_map]
    match ws, ne, hl, hw, lw, q, no with
    | [k], _, hl, hw, lw, q, no =>
      refine ite2 (fun _ => ?_) (fun z => absurd (decide_eq_true (show (([k].length : Nat) : Int) < 2 from by simp)) z)
      refine ite2 (fun _ => no _ Ex.refl rfl) (fun z => absurd rfl z)
    | k :: n :: r, _, hl, hw, lw, q, no =>
      refine ite2 (fun z => absurd (of_decide_eq_true z) (by simp only [List.length_cons]; omega)) (fun _ => ?_)
      obtain ⟨tn, ln⟩ := hw n (by simp)
      refine ⟨_, rfl, l, _, _, _, rfl, rfl, SqL.of hl, atI_nat (j := 1) rfl, n, rfl, tn, by omega, fun H1 x1 => ⟨_, rfl, ?_⟩⟩
      cases en : isW n with
      | false =>
        refine ite2 (fun _ => no _ x1 ?_) (fun z => absurd rfl z)
        show (isW n && _) = false
        rw [en, Bool.false_and]
      | true =>
        refine ite2 (fun z => by cases z) (fun _ => ?_)
        refine rd_nextU3 ?_
        try dsimp only
        have hl1 := x1 _ _ hl
        refine rd_seqU3 (rd_ifU3 ?_)
        refine ⟨_, rfl, l, _, _, _, rfl, rfl, SqL.of hl1, atI_nat (j := 0) rfl, big (by show 2 ≤ _; decide), fun p np => ?_⟩
        have x2 : Ex H1 (upd H1 p (.lst ([kM, kC].map V.str))) := Ex.refl.new np
        have h2 : (upd H1 p (.lst ([kM, kC].map V.str))) p = some (.lst ([kM, kC].map V.str)) := upd_same
        show rIn K false _ _ (upd H1 p (.lst ([kM, kC].map V.str))) _
        generalize upd H1 p (.lst ([kM, kC].map V.str)) = H2 at x2 h2 ⊢
        have X2 := x1.trans x2
        have hl2 := X2 _ _ hl
        refine ⟨p, _, rfl, .inl (SqL.of h2), rfl, flat_strs _, _, rfl, ?_⟩
        show if (inV (.str k) ([kM, kC].map V.str)) = true then _ else _
        rw [inV_strs]
        by_cases c1 : k = kM ∨ k = kC
        · have e1 : [kM, kC].contains k = true := by
            rcases c1 with rfl | rfl <;> decide +kernel
          have eL : lineB (k :: n :: r) m = prB r 1000 := by
            show (isW n && (if k = kM ∨ k = kC then prB r 1000 else _)) = _
            rw [en, if_pos c1, Bool.true_and]
          rw [e1]
          refine ite2 (fun _ => ?_) (fun z => absurd rfl z)
          refine ⟨_, rfl, l, _, rfl, .inl (SqL.of hl2), rfl, _, rfl, ?_⟩
          rw [List.length_map]
          by_cases c4 : (k :: n :: r).length = 4
          · refine ite2 (fun _ => ?_) (fun z => absurd (decide_eq_true (by rw [c4]; rfl)) z)
            refine ⟨_, rfl, _, rfl, l, _, rfl, SqL.of hl2, fun p3 n3 => ?_⟩
            have ec : cutV ((k :: n :: r).map V.str) (some 2) none = r.map V.str := cut2 (a := k) (b := n)
            rw [ec]
            have x3 : Ex H2 (upd H2 p3 (.lst (r.map V.str))) := Ex.refl.new n3
            refine ⟨p3, r, 1000, rfl, upd_same, by simp only [List.length_cons] at lw; omega, fun w hw2 => ?_, fun H4 x4 => ?_⟩
            · obtain ⟨a1, a2⟩ := hw w (List.mem_cons_of_mem _ (List.mem_cons_of_mem _ hw2))
              exact ⟨a1, by omega⟩
            · have q := q _ (X2.trans (x3.trans x4))
              rw [eL] at q
              exact q
          · refine ite2 (fun z => absurd (V.int.inj (of_decide_eq_true z)) (by omega)) (fun _ => ?_)
            refine no _ X2 ?_
            rw [eL]
            match r, c4 with
            | [], _ => rfl
            | [_], _ => rfl
            | [_, _], c4 => exact absurd rfl c4
            | _ :: _ :: _ :: _, _ => rfl
        · have e1 : [kM, kC].contains k = false := by
            have h1 : (k == kM) = false := beq_eq_false_iff_ne.mpr fun z => c1 (.inl z)
            have h2 : (k == kC) = false := beq_eq_false_iff_ne.mpr fun z => c1 (.inr z)
            simp only [List.contains_cons, h1, h2]
            rfl
          rw [e1]
          refine ite2 (fun z => by cases z) (fun _ => ?_)
          refine rd_nextU3 ?_
          try dsimp only
          refine rd_seqU3 (rd_ifU3 ?_)
          refine ⟨_, rfl, l, _, _, _, rfl, rfl, SqL.of hl2, atI_nat (j := 0) rfl, rfl, _, rfl, ?_⟩
          by_cases c2 : k = kS
          · refine ite2 (fun _ => ?_) (fun z => absurd (decide_eq_true (by rw [c2]; rfl)) z)
            refine ⟨_, rfl, l, _, rfl, .inl (SqL.of hl2), rfl, _, rfl, ?_⟩
            rw [List.length_map]
            match r, hl2, lw, hw, q, no with
            | [a], hl2, lw, hw, q, no =>
              have eL : lineB [k, n, a] m = decide (0 ≤ fig a 1000000000000) := by
                show (isW n && (if k = kM ∨ k = kC then _ else if k = kS then decide (0 ≤ fig a 1000000000000) else _)) = _
                rw [en, if_neg c1, if_pos c2, Bool.true_and]
              refine ite2 (fun _ => ?_) (fun z => absurd (decide_eq_true rfl) z)
              obtain ⟨ta, la⟩ := hw a (by simp)
              refine ⟨_, rfl, l, _, _, _, rfl, rfl, SqL.of hl2, atI_nat (j := 2) rfl, _, _, rfl, rfl, ⟨by decide, by decide, by decide⟩, a, 1000000000000, rfl, ta, by omega, fun H3 x3 => ⟨_, _, rfl, rfl, ?_⟩⟩
              have q := q _ (X2.trans x3)
              rw [eL] at q
              exact q
            | [], hl2, lw, hw, q, no =>
              refine ite2 (fun z => absurd (V.int.inj (of_decide_eq_true z)) (by simp)) (fun _ => no _ X2 ?_)
              show (isW n && (if k = kM ∨ k = kC then _ else if k = kS then false else _)) = false
              rw [if_neg c1, if_pos c2, Bool.and_false]
            | _ :: _ :: r, hl2, lw, hw, q, no =>
              refine ite2 (fun z => absurd (V.int.inj (of_decide_eq_true z)) (by simp only [List.length_cons]; omega)) (fun _ => no _ X2 ?_)
              show (isW n && (if k = kM ∨ k = kC then _ else if k = kS then false else _)) = false
              rw [if_neg c1, if_pos c2, Bool.and_false]
          · refine ite2 (fun z => absurd (V.str.inj (of_decide_eq_true z)) c2) (fun _ => ?_)
            refine rd_nextU3 ?_
            try dsimp only
            have eL : lineB (k :: n :: r) m = (decide ((r.length : Int) = m) && r.all fun w => prB (Txt.split w hy) 1000000000000) := by
              show (isW n && (if k = kM ∨ k = kC then _ else if k = kS then _ else _)) = _
              rw [en, if_neg c1, if_neg c2, Bool.true_and]
            have lr : r.length ≤ 20000 := by
              simp only [List.length_cons] at lw
              omega
            have hr' : ∀ w ∈ r, Tk w ∧ w.length ≤ 19990 := fun w h => hw w (List.mem_cons_of_mem _ (List.mem_cons_of_mem _ h))
            refine rd_seqU3 (rd_asgU3 ?_)
            refine ⟨_, rfl, _, rfl, l, _, rfl, SqL.of hl2, fun p3 n3 => ?_⟩
            have ec : cutV ((k :: n :: r).map V.str) (some 2) none = r.map V.str := cut2 (a := k) (b := n)
            rw [ec]
            have x3 : Ex H2 (upd H2 p3 (.lst (r.map V.str))) := Ex.refl.new n3
            have e3 : (upd H2 p3 (.lst (r.map V.str))) p3 = some (.lst (r.map V.str)) := upd_same
            generalize upd H2 p3 (.lst (r.map V.str)) = H3 at x3 e3 ⊢
            refine ⟨p3, rfl, ⟨_, SqL.of e3⟩, fun D hD => lc_list (K := K) (a := p3) (xs := r.map V.str) (fun i G => Ex H3 G ∧ ∃ ps : List Addr, G D = some (.lst (ps.map V.ref)) ∧ Paired (fun p zs => G p = some (.lst (zs.map V.str)) ∧ p ≠ D) ps ((r.take i).map fun w => Txt.split w hy)) ⟨Ex.refl.new hD, [], upd_same, .nil⟩ (fun i G _ h => SqL.of (h.1 _ _ e3)) ?_ ?_⟩
            · rintro i v G hv ⟨xG, ps, eG, pG⟩
              rw [List.getElem?_map] at hv
              obtain ⟨wd, hwd, rfl⟩ := Option.map_eq_some_iff.mp hv
              have il := (List.getElem?_eq_some_iff.mp hwd).1
              have lps := Paired.size pG
              rw [List.length_map, List.length_take] at lps
              obtain ⟨tw, lwd⟩ := hr' wd (List.mem_of_getElem? hwd)
              refine ⟨rfl, ?_⟩
              refine ⟨_, rfl, ⟨_, rfl⟩, wd, hy, rfl, rfl, by decide +kernel, by omega, fun p4 n4 => ?_⟩
              have x4 : Ex G (upd G p4 (.lst ((Txt.split wd hy).map V.str))) := Ex.refl.new n4
              have e4 : (upd G p4 (.lst ((Txt.split wd hy).map V.str))) p4 = some (.lst ((Txt.split wd hy).map V.str)) := upd_same
              have n4D : p4 ≠ D := fun z => by
                rw [z, eG] at n4
                cases n4
              generalize upd G p4 (.lst ((Txt.split wd hy).map V.str)) = G4 at x4 e4 ⊢
              refine ⟨_, x4 _ _ eG, by rw [List.length_map]; omega, (xG.trans x4).put hD, ps ++ [p4], ?_, ?_⟩
              · rw [upd_same, List.map_append]
                rfl
              · rw [List.take_succ, hwd, List.map_append]
                exact Paired.snoc (L2.Paired.mapP pG fun _ _ h => ⟨by rw [upd_ne h.2]; exact x4 _ _ h.1, h.2⟩) ⟨by rw [upd_ne n4D]; exact e4, n4D⟩
            · rintro G ⟨xG, ps, eG, pG⟩
              rw [List.length_map, List.take_length] at pG
              refine rd_nameU3 ?_
              try dsimp only
              have lps : ps.length = r.length := by
                have := Paired.size pG
                rwa [List.length_map] at this
              have XG := X2.trans (x3.trans xG)
              refine ⟨_, rfl, D, _, rfl, .inl (SqL.of eG), _, rfl, rfl, _, rfl, ?_⟩
              rw [List.length_map, lps]
              by_cases cm : ((r.length : Nat) : Int) = m
              · refine ite2 (fun _ => ?_) (fun z => absurd (decide_eq_true (by rw [cm])) z)
                refine rd_cbU3 (rd_consU3 (rd_prs (K := K) (ps := ps) (zss := r.map fun w => Txt.split w hy) (by exact rfl) (fun _ => by exact rfl) (fun _ => by exact rfl) eG (L2.Paired.mapP pG fun _ _ h => h.1) (fun zs hzs => ?_) (by rw [List.length_map]; exact lr) fun D2 H5 x5 e5 => ?_))
                · obtain ⟨wd, hwd, rfl⟩ := List.mem_map.mp hzs
                  obtain ⟨tw, lwd⟩ := hr' wd hwd
                  have := split_len2 wd hy
                  refine ⟨by omega, fun u hu => ⟨tk_split (c := 45) (by decide +kernel) (by decide) tw hu, ?_⟩⟩
                  have := split_le (c := 45) (x := wd) (y := hy) (by decide +kernel) (by decide) hu
                  omega
                · refine ⟨D2, _, rfl, SqL.of e5, ?_⟩
                  have q := q _ (XG.trans x5)
                  rw [eL, decide_eq_true cm, Bool.true_and] at q
                  have ea : (((r.map fun w => Txt.split w hy).map fun zs => prB zs 1000000000000).all id) = r.all fun w => prB (Txt.split w hy) 1000000000000 := by
                    rw [List.map_map, List.all_map]
                    rfl
                  rw [ea]
                  exact q
              · refine ite2 (fun z => absurd (V.int.inj (of_decide_eq_true z)) cm) (fun _ => no _ XG ?_)
                rw [eL, decide_eq_false cm, Bool.false_and]
end
end LJ
set_option Elab.async false
set_option linter.all false
set_option maxRecDepth 100000
set_option maxHeartbeats 4000000
/-! len(set(t)), t a tuple of a few texts, the same ones among them or not. -/
namespace SetX
open PySem PySem.Spec PyProof.Rows L2
/-- what a set knows, and how much, once these are added one behind another -/
def told (f : Str → Bool) (c : Nat) : List Str → (Str → Bool) × Nat
  | [] => (f, c)
  | x :: xs => told (fun k => f k || decide (k = x)) (if f x then c else c + 1) xs
theorem told_le : ∀ (xs : List Str) (f : Str → Bool) (c : Nat), (told f c xs).2 ≤ c + xs.length
  | [], _, _ => Nat.le_refl _
  | x :: xs, f, c => by
    have h := told_le xs (fun k => f k || decide (k = x)) (if f x then c else c + 1)
    show (told (fun k => f k || decide (k = x)) (if f x then c else c + 1) xs).2 ≤ c + (xs.length + 1)
    split at h <;> split <;> first | omega | (rename_i a b; exact absurd b (by simpa using a)) | (rename_i a b; exact absurd a (by simpa using b))
theorem told_all : ∀ (xs : List Str) (f : Str → Bool) (c : Nat), (told f c xs).2 = c + xs.length ↔ xs.Nodup ∧ ∀ x ∈ xs, f x = false
  | [], _, _ => by simp [told]
  | x :: xs, f, c => by
    show (told (fun k => f k || decide (k = x)) (if f x then c else c + 1) xs).2 = c + (xs.length + 1) ↔ _
    cases fx : f x with
    | true =>
      have h := told_le xs (fun k => f k || decide (k = x)) c
      rw [if_pos rfl]
      refine ⟨fun z => ?_, fun z => ?_⟩
      · omega
      · have := z.2 x (List.mem_cons_self ..)
        rw [fx] at this
        cases this
    | false =>
      rw [if_neg (by decide)]
      have h := told_all xs (fun k => f k || decide (k = x)) (c + 1)
      rw [show c + (xs.length + 1) = c + 1 + xs.length by omega, h, List.nodup_cons]
      refine ⟨fun z => ⟨⟨fun m => ?_, z.1⟩, fun y hy => ?_⟩, fun z => ⟨z.1.2, fun y hy => ?_⟩⟩
      · have := z.2 x m
        simp at this
      · rcases List.mem_cons.mp hy with rfl | hy
        · exact fx
        · have := z.2 y hy
          simp at this
          exact this.1
      · have h1 := z.2 y (List.mem_cons_of_mem _ hy)
        have h2 : y ≠ x := fun e => z.1.1 (e ▸ hy)
        simp [h1, h2]
/-- how many different ones there are -/
def many (xs : List Str) : Nat := (told (fun _ => false) 0 xs).2
theorem many_all (xs : List Str) : many xs = xs.length ↔ xs.Nodup := by
  have h := told_all xs (fun _ => false) 0
  unfold many
  rw [Nat.zero_add] at h
  rw [h]
  simp
theorem many_le (xs : List Str) : many xs ≤ xs.length := by
  have := told_le xs (fun _ => false) 0
  unfold many
  omega
abbrev sk (prog : Program) (w : World) := PySem.strKind prog w
section
variable {prog : Program} {w : World} {A : Around} {R : Result → Shared → Prop} {I : Addr} {fp wr : List Addr} {G : Array GenState → Array GenState → Prop} {n : Nat} {P : Nat → Value → Prop} {St : Nat → Shared → Prop}
theorem set_same {h h1 : Heap} {S : Addr} {f : Str → Bool} {c : Nat} (q : h.SetOf (sk prog w) S f c) (k : ∀ o, h.get? S = some o → h1.get? S = some o) : h1.SetOf (sk prog w) S f c := by
  obtain ⟨o, es, ep, t, ho, r⟩ := q
  exact ⟨o, es, ep, t, k o ho, r⟩
theorem add_all (W : WalksS prog w A.in1 I fp wr G n P St) (S : Addr) (out : S ∉ fp) (xs : List Str) (few : n ≤ 60) (val : ∀ i v, P i v → ∃ z t, xs[i]? = some z ∧ v = .str z t) :
    ∀ (ys : List Str) (i : Nat) (s : Shared) (f : Str → Bool) (c : Nat), xs.drop i = ys → i + ys.length = n → c ≤ i → St i s → s.heap.SetOf (sk prog w) S f c →
      (∀ s', Moved (S :: wr) G s s' → s'.heap.SetOf (sk prog w) S (told f c ys).1 (told f c ys).2 → R (.ok (.ret .none)) s') →
      codeAny (model prog w) A (.builtin "set.update.loop" ⟨[.ref S, .ref I], []⟩) R s := by
  have outw : S ∉ wr := fun h => out (W.sub _ h)
  have more : ∀ b ∈ wr, b ∈ S :: wr := fun b hb => List.mem_cons_of_mem _ hb
  intro ys
  induction ys with
  | nil =>
    intro i s f c _ ln _ st so fin_
    obtain rfl : i = n := ln
    refine codeAny_builtin PyProof.Rows.F.entry_set_update_loop ?_
    rw [Around.under_plainId PyProof.Rows.F.plain_set_update_loop _]
    refine wpAny_bind (m := pyNext (.ref I)) (W.done s _ _ st fun s1 mv => ?_)
    exact wpAny_pure (fin_ s1 (mv.mono more) (set_same so fun o e => mv.heap S o outw e))
  | cons y ys ih =>
    intro i s f c dr ln ci st so fin_
    have hi : i < n := by
      rw [List.length_cons] at ln
      omega
    refine codeAny_builtin PyProof.Rows.F.entry_set_update_loop ?_
    rw [Around.under_plainId PyProof.Rows.F.plain_set_update_loop _]
    refine wpAny_bind (m := pyNext (.ref I)) (W.item i s _ _ hi st fun v s1 pv st1 mv => ?_)
    obtain ⟨z, t, hz, rfl⟩ := val i v pv
    obtain rfl : z = y := by
      have : (xs.drop i)[0]? = some z := by rw [List.getElem?_drop]; exact hz
      rw [dr] at this
      exact (Option.some.inj this).symm
    have so1 : s1.heap.SetOf (sk prog w) S f c := set_same so fun o e => mv.heap S o outw e
    refine wpAny_bind (m := holding [Value.str z t] (setAdd S (.str z t))) (wpAny_holding ?_)
    unfold setAdd
    refine wpAny_holding (wpAny_bind ((sk prog w).pyHash (k := z) (strKind_is _ _ _ _) ?_))
    refine wpAny_setAddHashed_of (knd := sk prog w) (s := { s1 with toks := s1.toks + 1 }) (strKind_is _ _ _ _) rfl so1 (by unfold scanBound; omega) fun h2 sb so2 => ?_
    have dr2 : xs.drop (i + 1) = ys := by rw [← List.drop_drop, dr]; rfl
    refine wpAny_pure ⟨plainId_quiet PyProof.Rows.F.plain_set_update_loop _, ih (i + 1) _ _ _ dr2 (by rw [List.length_cons] at ln; omega) (by split <;> omega) (W.frame _ s1 _ _ st1 (Nat.le_succ _) fun b hb o e => ?_) so2 fun s3 mv3 so3 => ?_⟩
    · rw [sb.2 b fun z => out (z ▸ hb)]
      exact e
    · refine fin_ s3 (Moved.trans W.gtrans ((mv.mono more).then_heap (Nat.le_succ _) fun b o nb e => ?_) mv3) so3
      rw [sb.2 b fun z => nb (z ▸ List.mem_cons_self)]
      exact e
end
section
variable {prog : Program} {w : World} {A : Around} {E : Value → Shared → Prop} {s : Shared}
/-- a set that was just made -/
abbrev mt (led : Bool) : Obj := { cls := .type "set", dict := none, data := .set #[] 0 (.fresh 0 0 led) }
/-- from what the making of the set's things comes to, to the call of the class -/
theorem by_init {x : Value} {Q : Value → Shared → Prop}
    (go : ∀ led : Bool, codeAny (model prog w) A.in1 (.call (.builtin "set.__init__") ⟨[.ref s.heap.objs.size, x], []⟩) (wants (fun r s2 => r = .none ∧ Q (.ref s.heap.objs.size) s2) E) { s with heap := s.heap.push (mt led) }) :
    wpAny (model prog w) A (call (.type "set") [x]) Q E s := by
  obtain ⟨c, tl, hm⟩ := PySem.F.called_set.mro
  have f1 := PySem.F.called_set.made
  have f2 := PySem.F.called_set.sub
  have f3 := PySem.F.called_set.notType
  have f4 := PySem.F.called_set.canCreate
  have f5 := PySem.F.typeCall_set_1 x
  refine wpAny_call (codeAny_of_tree (show wpAny _ _ (callAny (.type "set") _) _ _ _ from wpAny_pure ⟨Code.quiet_builtin _ (by decide +kernel), codeAny_builtin PySem.F.entry_type_call ?_⟩))
  rw [Around.under_plain (weight_type_call_type "set" [x] []) rfl]
  repeat (any_goals (first | assumption | wp_step))
  refine codeAny_mono (code_set_new_1 x (E := E) (Q₁ := fun o s1 => ∃ led : Bool, o = .ref s.heap.objs.size ∧ s1 = { s with heap := s.heap.push (mt led) }) fun led => ⟨led, rfl, rfl⟩) fun r s1 hr => ?_
  match r, hr with
  | .error e, hr => exact hr
  | .ok .next, hr => exact hr.elim
  | .ok .brk, hr => exact hr.elim
  | .ok .cont, hr => exact hr.elim
  | .ok (.ret o), ⟨led, e1, e2⟩ =>
    subst e1
    subst e2
    have ty : Shared.TypeIs { s with heap := s.heap.push (mt led) } (.ref s.heap.objs.size) "set" := ⟨_, Heap.get?_push_size _ rfl, rfl⟩
    have f6 := PySem.F.called_set.init.lookup
    have f7 := PySem.F.called_set.init.bind (.ref s.heap.objs.size)
    repeat (any_goals (first | assumption | wp_step))
    refine codeAny_mono (go led) fun r2 s2 hr2 => ?_
    match r2, hr2 with
    | .error e, hr2 => exact hr2
    | .ok .next, hr2 => exact hr2.elim
    | .ok .brk, hr2 => exact hr2.elim
    | .ok .cont, hr2 => exact hr2.elim
    | .ok (.ret u), ⟨e3, q⟩ =>
      subst e3
      repeat (any_goals (first | assumption | wp_step))
theorem init_tup {l : Addr} {us : List Value} {xs : List Str} {Z : Shared → Prop} (hh : A.handled = none) (tup : s.heap.IsTuple l us.toArray) (rv : Vals (xs.map V.str) us) (few : xs.length ≤ 60)
    (q : ∀ (h1 : Heap) (tk : Nat), h1.SetOf (sk prog w) s.heap.objs.size (fun k => (told (fun _ => false) 0 xs).1 k) (many xs) → (∀ b o, s.heap.get? b = some o → h1.get? b = some o) → Z { s with heap := h1, toks := tk }) (led : Bool) :
    codeAny (model prog w) A.in1 (.call (.builtin "set.__init__") ⟨[.ref s.heap.objs.size, .ref l], []⟩) (wants (fun r s2 => r = .none ∧ Z s2) E) { s with heap := s.heap.push (mt led) } := by
  have at0 : (s.heap.push (mt led)).get? s.heap.objs.size = some (mt led) := Heap.get?_push_size _ rfl
  refine codeAny_call_builtin PySem.F.called_set.init.plain PySem.F.entry_set_init (check_set_init_1 ⟨_, at0, rfl⟩ ?_)
  obtain ⟨⟨tc, td, tdt, ts⟩, t1, t2, nt, t3⟩ := tup
  simp only at t2 t3
  subst t2
  subst t3
  have t4 := Heap.get?_push_of_some (mt led) t1
  have n1 := PySem.F.sub_tuple_set
  have n2 := PySem.F.sub_tuple_frozenset
  have n3 : (Value.type "tuple" == Value.type "dict") = false := by decide
  have tup1 : (s.heap.push (mt led)).IsTuple l us.toArray := ⟨_, t4, rfl, nt, rfl⟩
  unfold Builtin.«set.__init__» noKeywords Builtin.Frozenset.updateFrom
  generalize hIt : pyIter = It
  wp_walk
  subst hIt
  refine wpAny_pyIter_tuple tup1 (wpAny_bind (wpAny_runValue ?_))
  have ls : l < s.heap.objs.size := Heap.lt_size t1
  have sz2 : (s.heap.push (mt led)).objs.size = s.heap.objs.size + 1 := Heap.size_push ..
  have out1 : l ≠ (s.heap.push (mt led)).objs.size := by
    rw [sz2]
    exact Nat.ne_of_lt (Nat.lt_succ_of_lt ls)
  have out2 : s.heap.objs.size ∉ [(s.heap.push (mt led)).objs.size, l] := by
    rw [sz2]
    simp only [List.mem_cons, List.not_mem_nil, or_false, not_or]
    exact ⟨Nat.ne_of_lt (Nat.lt_succ_self _), Nat.ne_of_gt ls⟩
  have len : xs.length = us.toArray.size := by rw [List.size_toArray, ← rv.length, List.length_map]
  have val : ∀ (i : Nat) (v : Value), us.toArray[i]? = some v → ∃ z t, xs[i]? = some z ∧ v = .str z t := fun i v hv => by
    rw [List.getElem?_toArray] at hv
    have li : i < us.length := (List.getElem?_eq_some_iff.mp hv).1
    have lx : i < xs.length := by
      rw [len, List.size_toArray]
      exact li
    obtain ⟨u, hu, t, e⟩ := rv.get (i := i) (x := .str xs[i]) (by simp [lx])
    rw [hu] at hv
    cases hv
    exact ⟨xs[i], t, List.getElem?_eq_getElem lx, e⟩
  have so : ((s.heap.push (mt led)).push { cls := .type "tuple_iterator", data := .fields #[.ref l, .int 0 0] }).SetOf (sk prog w) s.heap.objs.size (fun _ => false) 0 :=
    PyProof.Rows.SetOf_congr ((PyProof.Rows.setObjOf_fresh (knd := sk prog w) led).setOf (Heap.get?_push_of_some _ at0) (by unfold scanBound; omega)) (fun _ => rfl) rfl
  refine add_all ((Walks.tuple (A := A.in1.in1.in1) (by simp [hh]) _ l out1 us.toArray).toS) s.heap.objs.size out2 xs (by rw [← len]; exact few) val xs 0 _ _ 0 rfl (by rw [Nat.zero_add]; exact len) (Nat.le_refl _)
    ⟨⟨_, Heap.get?_push_size _ rfl, rfl, rfl⟩, tup1.push _⟩ so fun s2 mv so2 => ?_
  obtain ⟨h2, g2, d2, tk2, os2⟩ := s2
  obtain rfl : g2 = s.gens := mv.gens
  obtain rfl : d2 = s.drawn := mv.drawn
  obtain rfl : os2 = s.os := mv.os
  refine wpAny_pure (wpAny_pure ⟨rfl, q h2 tk2 so2 fun b o e => ?_⟩)
  have lb := Heap.lt_size e
  refine mv.heap b o ?_ (Heap.get?_push_of_some _ (Heap.get?_push_of_some _ e))
  rw [sz2]
  simp only [List.mem_cons, List.not_mem_nil, or_false, not_or]
  exact ⟨Nat.ne_of_lt lb, Nat.ne_of_lt (Nat.lt_succ_of_lt lb)⟩
end
section
variable {X : Cx}
/-- len(set(t)) -/
def tLenSetT (K : PySem.W.Frag) (ta : TE) : TE := fun σ H Q => ta σ H fun x H1 => ∃ (l : Addr) (xs : List Str), x = .ref l ∧ SqT K H1 l (xs.map V.str) ∧ xs.length ≤ 60 ∧ Q (.int (many xs : Nat)) H1
theorem pe_lenSetT {e : Expr} {ta : TE} {p1 p2 p3 pos : Pos} (hc : X.calm = true) (g1 : Gl X "len") (m1 : X.mg "len" = none) (g2 : Gl X "set") (m2 : X.mg "set" = none) (he : PE X e ta)
    (no : starEach [e] X.env = (false, eval e X.env) :: starEach [] X.env := by rfl) : PE X (.Call (.Name "len" p1) [.Call (.Name "set" p2) [e] [] p3] [] pos) (tLenSetT X.K ta) := by
  constructor
  intro pins s σ H Q I h
  refine Call_ (ld_blt I g1 m1 boot_len (PyProof.Rows.callWith_builtin1 (PyProof.Rows.args_cons (Call_ (ld_blt I g2 m2 boot_set (PyProof.Rows.callWith_type1 (PyProof.Rows.args_cons (thn (he.run pins s σ H _ I h) ?_) no) no rfl))) rfl) rfl rfl))
  rintro v s1 ⟨x, H1, I1, rx, l, xs, rfl, hq, few, q⟩
  obtain rfl : v = Value.ref l := rx
  obtain ⟨us, rv, tup, _⟩ := I1.tuple hq
  refine PyProof.Rows.args_nil (by_init (init_tup (I1.ok.hd hc) tup rv few fun h1 tk so k => ?_))
  have I2 : Inv X pins σ H1 { s1 with heap := h1, toks := tk } := I1.kept k
  obtain ⟨o, es, ep, t, ho, ex, hd, _, _, _, hf, hn⟩ := so
  have small := many_le xs
  exact PyProof.Rows.args_nil (call_len_set ho ex hd hf (by rw [hn]; omega) ⟨.int (many xs : Nat), H1, I2.tok _, ⟨_, by rw [hn]⟩, q⟩)
end
end SetX
set_option Elab.async false
set_option linter.all false
set_option maxRecDepth 100000
set_option maxHeartbeats 4000000
/-! len(set(xs)) of a list of texts. -/
namespace SetX
open PySem PySem.Spec PyProof.Rows L2
section
variable {prog : Program} {w : World} {A : Around} {E : Value → Shared → Prop} {s : Shared}
theorem init_lst {l : Addr} {us : List Value} {xs : List Str} {Z : Shared → Prop} (hh : A.handled = none) (tup : s.heap.IsList l us.toArray) (rv : Vals (xs.map V.str) us) (few : xs.length ≤ 60)
    (q : ∀ (h1 : Heap) (tk : Nat), h1.SetOf (sk prog w) s.heap.objs.size (fun k => (told (fun _ => false) 0 xs).1 k) (many xs) → (∀ b o, s.heap.get? b = some o → h1.get? b = some o) → Z { s with heap := h1, toks := tk }) (led : Bool) :
    codeAny (model prog w) A.in1 (.call (.builtin "set.__init__") ⟨[.ref s.heap.objs.size, .ref l], []⟩) (wants (fun r s2 => r = .none ∧ Z s2) E) { s with heap := s.heap.push (mt led) } := by
  have at0 : (s.heap.push (mt led)).get? s.heap.objs.size = some (mt led) := Heap.get?_push_size _ rfl
  refine codeAny_call_builtin PySem.F.called_set.init.plain PySem.F.entry_set_init (check_set_init_1 ⟨_, at0, rfl⟩ ?_)
  obtain ⟨⟨tc, td, tdt, ts⟩, t1, t2, nt, t3⟩ := tup
  simp only at t2 t3
  subst t2
  subst t3
  have t4 := Heap.get?_push_of_some (mt led) t1
  have n1 := PySem.F.sub_list_set
  have n2 := PySem.F.sub_list_frozenset
  have n3 : (Value.type "list" == Value.type "dict") = false := by decide
  have tup1 : (s.heap.push (mt led)).IsList l us.toArray := ⟨_, t4, rfl, nt, rfl⟩
  unfold Builtin.«set.__init__» noKeywords Builtin.Frozenset.updateFrom
  generalize hIt : pyIter = It
  wp_walk
  subst hIt
  refine wpAny_pyIter_list tup1 (wpAny_bind (wpAny_runValue ?_))
  have ls : l < s.heap.objs.size := Heap.lt_size t1
  have sz2 : (s.heap.push (mt led)).objs.size = s.heap.objs.size + 1 := Heap.size_push ..
  have out1 : l ≠ (s.heap.push (mt led)).objs.size := by
    rw [sz2]
    exact Nat.ne_of_lt (Nat.lt_succ_of_lt ls)
  have out2 : s.heap.objs.size ∉ [(s.heap.push (mt led)).objs.size, l] := by
    rw [sz2]
    simp only [List.mem_cons, List.not_mem_nil, or_false, not_or]
    exact ⟨Nat.ne_of_lt (Nat.lt_succ_self _), Nat.ne_of_gt ls⟩
  have len : xs.length = us.toArray.size := by rw [List.size_toArray, ← rv.length, List.length_map]
  have val : ∀ (i : Nat) (v : Value), us.toArray[i]? = some v → ∃ z t, xs[i]? = some z ∧ v = .str z t := fun i v hv => by
    rw [List.getElem?_toArray] at hv
    have li : i < us.length := (List.getElem?_eq_some_iff.mp hv).1
    have lx : i < xs.length := by
      rw [len, List.size_toArray]
      exact li
    obtain ⟨u, hu, t, e⟩ := rv.get (i := i) (x := .str xs[i]) (by simp [lx])
    rw [hu] at hv
    cases hv
    exact ⟨xs[i], t, List.getElem?_eq_getElem lx, e⟩
  have so : ((s.heap.push (mt led)).push { cls := .type "list_iterator", data := .fields #[.ref l, .int 0 0] }).SetOf (sk prog w) s.heap.objs.size (fun _ => false) 0 :=
    PyProof.Rows.SetOf_congr ((PyProof.Rows.setObjOf_fresh (knd := sk prog w) led).setOf (Heap.get?_push_of_some _ at0) (by unfold scanBound; omega)) (fun _ => rfl) rfl
  refine add_all ((Walks.list (A := A.in1.in1.in1) (by simp [hh]) _ l out1 us.toArray).toS) s.heap.objs.size out2 xs (by rw [← len]; exact few) val xs 0 _ _ 0 rfl (by rw [Nat.zero_add]; exact len) (Nat.le_refl _)
    ⟨⟨_, Heap.get?_push_size _ rfl, rfl, rfl⟩, tup1.push _⟩ so fun s2 mv so2 => ?_
  obtain ⟨h2, g2, d2, tk2, os2⟩ := s2
  obtain rfl : g2 = s.gens := mv.gens
  obtain rfl : d2 = s.drawn := mv.drawn
  obtain rfl : os2 = s.os := mv.os
  refine wpAny_pure (wpAny_pure ⟨rfl, q h2 tk2 so2 fun b o e => ?_⟩)
  have lb := Heap.lt_size e
  refine mv.heap b o ?_ (Heap.get?_push_of_some _ (Heap.get?_push_of_some _ e))
  rw [sz2]
  simp only [List.mem_cons, List.not_mem_nil, or_false, not_or]
  exact ⟨Nat.ne_of_lt lb, Nat.ne_of_lt (Nat.lt_succ_of_lt lb)⟩
end
section
variable {X : Cx}
/-- len(set(t)) -/
def tLenSetL (K : PySem.W.Frag) (ta : TE) : TE := fun σ H Q => ta σ H fun x H1 => ∃ (l : Addr) (xs : List Str), x = .ref l ∧ SqL K H1 l (xs.map V.str) ∧ xs.length ≤ 60 ∧ Q (.int (many xs : Nat)) H1
theorem pe_lenSetL {e : Expr} {ta : TE} {p1 p2 p3 pos : Pos} (hc : X.calm = true) (g1 : Gl X "len") (m1 : X.mg "len" = none) (g2 : Gl X "set") (m2 : X.mg "set" = none) (he : PE X e ta)
    (no : starEach [e] X.env = (false, eval e X.env) :: starEach [] X.env := by rfl) : PE X (.Call (.Name "len" p1) [.Call (.Name "set" p2) [e] [] p3] [] pos) (tLenSetL X.K ta) := by
  constructor
  intro pins s σ H Q I h
  refine Call_ (ld_blt I g1 m1 boot_len (PyProof.Rows.callWith_builtin1 (PyProof.Rows.args_cons (Call_ (ld_blt I g2 m2 boot_set (PyProof.Rows.callWith_type1 (PyProof.Rows.args_cons (thn (he.run pins s σ H _ I h) ?_) no) no rfl))) rfl) rfl rfl))
  rintro v s1 ⟨x, H1, I1, rx, l, xs, rfl, hq, few, q⟩
  obtain rfl : v = Value.ref l := rx
  obtain ⟨us, rv, tup, _⟩ := I1.list hq
  refine PyProof.Rows.args_nil (by_init (init_lst (I1.ok.hd hc) (PlainL.isList tup) rv few fun h1 tk so k => ?_))
  have I2 : Inv X pins σ H1 { s1 with heap := h1, toks := tk } := I1.kept k
  obtain ⟨o, es, ep, t, ho, ex, hd, _, _, _, hf, hn⟩ := so
  have small := many_le xs
  exact PyProof.Rows.args_nil (call_len_set ho ex hd hf (by rw [hn]; omega) ⟨.int (many xs : Nat), H1, I2.tok _, ⟨_, by rw [hn]⟩, q⟩)
end
end SetX
set_option Elab.async false
set_option linter.all false
set_option maxRecDepth 100000
set_option maxHeartbeats 8000000
/-! _law_is_page. -/
namespace LJ
open PySem PySem.Spec L2
open LamX (ExtN)
abbrev sPg3 : Stmt := top 50
abbrev nPg3 : List Str := ["_law_page_here", "_law_lines", "_law_kinds", "_law_order", "_law_spots", "_law_counts", "_law_line", "_law_words", "_law_kind", "_law_k"]
def ordL : List Str := [kM, kC, kS, kP]
def ordIx (k : Str) : Nat := ordL.idxOf k
def w1 (ws : List Str) : Str := ws.getD 1 Str.empty
def wdsOf (z : Str) : List (List Str) := (Txt.split z (Str.ofString "\n")).map fun ln => Txt.split ln sp1
def kndsOf (z : Str) : List Str := (wdsOf z).map fun ws => ws.getD 0 Str.empty
def pageB (z : Str) : Bool :=
  (kndsOf z).all (fun k => ordL.contains k) && ((decide (((kndsOf z).map fun k => ((ordIx k : Nat) : Int)).Pairwise (· ≤ ·)) && (decide ((kndsOf z).count kM ≠ 0) && (decide ((kndsOf z).count kS ≠ 0) && decide ((kndsOf z).count kP ≠ 0)))) &&
    ((decide ((kndsOf z).count kM ≤ 6) && (decide ((kndsOf z).count kC ≤ 6) && (decide ((kndsOf z).count kS ≤ 3) && decide ((kndsOf z).count kP ≤ 8)))) && ((wdsOf z).all (fun ws => lineB ws ((kndsOf z).count kS : Nat)) && decide (((wdsOf z).map w1).Nodup))))
def pageV : V → Bool
  | .str z => pageB z
  | _ => false
def spPg3 (K : PySem.W.Frag) : Sp := fun vs H Q _ => ∃ v : V, vs = [v] ∧ Kn K H v ∧ (∀ z, v = .str z → Tk z ∧ z.length ≤ 15000) ∧ ∀ H1, Ex H H1 → Q (.bl (pageV v)) H1
def rSpl : V → List V → Hp → VK → Prop := fun x xs H Q => ∃ a b, x = .str a ∧ xs = [.str b] ∧ (b.length == 0) = false ∧ a.length + 2 ≤ sizeLine ∧ rNewStrs (Txt.split a b) H Q
def teWd : TE := tM1 rSpl (tVar 6) (tC (.str sp1))
def teHd (K : PySem.W.Frag) : TE := tOp (rIxL K) (tVar 7) (tC (.int 0))
def teNd (K : PySem.W.Frag) : TE := tOp (rIxL K) (tVar 7) (tC (.int 1))
def ttKo (K : PySem.W.Frag) : TT := tTest (tOp (rIn K true) (tVar 8) (tVar 3))
def teIx (K : PySem.W.Frag) : TE := tBM K "list" (rIndex K) (tVar 3) (tCons (tVar 8) tNil)
def teCn (K : PySem.W.Frag) : TE := tBM K "list" (SetX.rCntS K) (tVar 2) (tCons (tVar 8) tNil)
def ttMr (K : PySem.W.Frag) : TT := tTest (tOp (rI0 fun i j => V.bl (decide (j < i))) (tOp (rIxL K) (tVar 5) (tVar 9)) (tOp (rIxL K) (tLst (tCons (tC (.int 6)) (tCons (tC (.int 6)) (tCons (tC (.int 3)) (tCons (tC (.int 8)) tNil))))) (tVar 9)))
def teLn (K : PySem.W.Frag) : TE := tCall spLn3 [] E0 (tCons (tVar 7) (tCons (tOp (rIxL K) (tVar 5) (tC (.int 2))) tNil))
theorem rd_setU3 {K : PySem.W.Frag} {ta : TE} {σ : L2.St} {H : Hp} {Q : VK} (h : ta σ H fun x H1 => ∃ (l : Addr) (xs : List Str), x = .ref l ∧ SqL K H1 l (xs.map V.str) ∧ xs.length ≤ 60 ∧ Q (.int (SetX.many xs : Nat)) H1) : SetX.tLenSetL K ta σ H Q := h
theorem rd_tupU3 {t : TA} {σ : L2.St} {H : Hp} {Q : VK} (h : t σ H fun xs H1 => xs.length ≤ sizeLine ∧ ∀ p, H1 p = none → Q (.ref p) (upd H1 p (.tup xs))) : tTup t σ H Q := h
abbrev SG (v : V) (a b c d e : Option V) : L2.St := [some v, a, b, c, d, e, none, none, none, none]
def WAt (H : Hp) (p : Addr) (ws : List Str) : Prop := H p = some (.lst (ws.map V.str))
theorem WAt.ex {H H1 : Hp} {p : Addr} {ws : List Str} (e : Ex H H1) (h : WAt H p ws) : WAt H1 p ws := e _ _ h
theorem wds_ok {z : Str} (tz : Tk z) : ∀ ws ∈ wdsOf z, ws ≠ [] ∧ ws.length ≤ z.length + 1 ∧ ∀ u ∈ ws, Tk u ∧ u.length ≤ z.length := fun ws hw => by
  unfold wdsOf at hw
  obtain ⟨ln, hl, rfl⟩ := List.mem_map.mp hw
  have l1 := split_le tl_nl (by decide) hl
  have l2 := (split_sum (x := ln) tl_sp1 (by decide)).2
  refine ⟨split_ne tl_sp1 (by decide), by show (Txt.split ln sp1).length ≤ _; omega, fun u hu => ⟨tk_split tl_sp1 (by decide) (tk_split tl_nl (by decide) tz hl) hu, ?_⟩⟩
  have := split_le tl_sp1 (by decide) (show u ∈ Txt.split ln sp1 from hu)
  omega
theorem wds_n {z : Str} : (wdsOf z).length ≤ z.length + 1 := by
  unfold wdsOf
  rw [List.length_map]
  exact (split_sum tl_nl (by decide)).2
theorem strs_tk {ks : List Str} (h : ∀ k ∈ ks, Tk k) : SeqAt.shaped (.list (ks.map PyData.str)) = true := by
  have a : ∀ {ds : List Str}, (∀ c ∈ ds, Tk c) → PyData.canLayAll0 (ds.map PyData.str) = true ∧ PyData.depthAll (ds.map PyData.str) = 0 := by
    intro ds
    induction ds with
    | nil => exact fun _ => ⟨rfl, rfl⟩
    | cons a r ih =>
      intro h
      obtain ⟨h1, h2⟩ := ih fun c hc => h c (List.mem_cons_of_mem _ hc)
      have h3 : PyData.strOk a = true := tk_str (h a (List.mem_cons_self ..))
      refine ⟨?_, ?_⟩
      · simp [PyData.canLayAll0, PyData.canLay0, h3, h1]
      · simp [PyData.depthAll, PyData.depth, h2]
  obtain ⟨h1, h2⟩ := a h
  unfold SeqAt.shaped
  simp [PyData.canLay0, PyData.depth, h1, h2]
theorem dp_strs {K : PySem.W.Frag} {H : Hp} {D : Addr} {cs : List Str} (h : H D = some (.lst (cs.map V.str))) : Dp K H (.ref D) (.list (cs.map PyData.str)) := by
  refine .lst (SqL.of h) ?_
  clear h
  induction cs with
  | nil => exact .nil
  | cons a r ih => exact .cons (.str _) ih
theorem eqv_str0 {cs : List Str} : PyData.eqv (.list (cs.map PyData.str)) (.list []) = cs.isEmpty := by
  cases cs with
  | nil => rfl
  | cons a r => rfl
theorem dp_ints {K : PySem.W.Frag} {H : Hp} {D : Addr} {cs : List Int} (h : SqL K H D (cs.map V.int)) : Dp K H (.ref D) (.list (cs.map PyData.int)) := by
  refine .lst h ?_
  clear h
  induction cs with
  | nil => exact .nil
  | cons a r ih => exact .cons (.int _) ih
theorem ints_sh {ks : List Int} : SeqAt.shaped (.list (ks.map PyData.int)) = true := by
  have a : ∀ {ds : List Int}, PyData.canLayAll0 (ds.map PyData.int) = true ∧ PyData.depthAll (ds.map PyData.int) = 0 := by
    intro ds
    induction ds with
    | nil => exact ⟨rfl, rfl⟩
    | cons a r ih =>
      obtain ⟨h1, h2⟩ := ih
      refine ⟨?_, ?_⟩
      · simp [PyData.canLayAll0, PyData.canLay0, h1]
      · simp [PyData.depthAll, PyData.depth, h2]
  obtain ⟨h1, h2⟩ := a (ds := ks)
  unfold SeqAt.shaped
  simp [PyData.canLay0, PyData.depth, h1, h2]
theorem eqv_ints : ∀ {a b : List Int}, PyData.eqv (.list (a.map PyData.int)) (.list (b.map PyData.int)) = decide (a = b)
  | [], [] => rfl
  | [], _ :: _ => rfl
  | _ :: _, [] => rfl
  | x :: a, y :: b => by
    have ih := eqv_ints (a := a) (b := b)
    have e : ∀ {p q : List PyData}, PyData.eqv (.list p) (.list q) = PyData.eqvAll p q := fun {p q} => by unfold PyData.eqv; rfl
    rw [e] at ih ⊢
    rw [List.map_cons, List.map_cons]
    unfold PyData.eqvAll
    rw [ih]
    have : PyData.eqv (.int x) (.int y) = decide (x = y) := by
      unfold PyData.eqv
      first | rfl | (rw [Bool.eq_iff_iff]; simp)
    rw [this, Bool.eq_iff_iff, Bool.and_eq_true, decide_eq_true_eq, decide_eq_true_eq, decide_eq_true_eq, List.cons.injEq]
theorem filt_next {α : Type} (p : α → Bool) {xs : List α} {n : Nat} {x : α} (h : xs[n]? = some x) : (xs.take (n + 1)).filter p = (xs.take n).filter p ++ (if p x = true then [x] else []) := by
  rw [List.take_succ, h, List.filter_append]
  cases e : p x <;> simp [e]
section
variable {K : PySem.W.Frag} {H : Hp} {Q : VK} {Qb : Bool → Hp → Prop} {z : Str} {v0 : V} {b c d e : Option V} {D : Addr} {ps : List Addr} {wss : List (List Str)} {ks : List Str}
theorem rd_wds (lz : z.length ≤ 15000) (q : ∀ D ps H1, Ex H H1 → H1 D = some (.lst (ps.map V.ref)) → Paired (WAt H1) ps (wdsOf z) → Q (.ref D) H1) : tLc (iList K (tM1 rSpl (tVar 0) (tC (.str (Str.ofString "\n"))))) (gName 6) tYes teWd [6] (SG (.str z) none none none none none) H Q := by
  have sz := sizeLine_eq
  refine ⟨_, rfl, ⟨_, rfl⟩, z, _, rfl, rfl, by decide +kernel, by omega, fun L nL => ?_⟩
  have xL : Ex H (upd H L (.lst ((Txt.split z (Str.ofString "\n")).map V.str))) := Ex.refl.new nL
  have eL : (upd H L (.lst ((Txt.split z (Str.ofString "\n")).map V.str))) L = some (.lst ((Txt.split z (Str.ofString "\n")).map V.str)) := upd_same
  generalize upd H L (.lst ((Txt.split z (Str.ofString "\n")).map V.str)) = H1 at xL eL ⊢
  have hn : (Txt.split z (Str.ofString "\n")).length ≤ z.length + 1 := (split_sum tl_nl (by decide)).2
  refine ⟨L, rfl, ⟨_, SqL.of eL⟩, fun D hD => lc_list (K := K) (a := L) (xs := (Txt.split z (Str.ofString "\n")).map V.str) (fun i G => Ex H1 G ∧ ∃ ps : List Addr, G D = some (.lst (ps.map V.ref)) ∧ Paired (fun p ws => WAt G p ws ∧ p ≠ D) ps ((wdsOf z).take i)) ⟨Ex.refl.new hD, [], upd_same, .nil⟩ (fun i G _ h => SqL.of (h.1 _ _ eL)) ?_ ?_⟩
  · rintro i v G hv ⟨xG, ps, eG, pG⟩
    rw [List.getElem?_map] at hv
    obtain ⟨ln, hl, rfl⟩ := Option.map_eq_some_iff.mp hv
    have il := (List.getElem?_eq_some_iff.mp hl).1
    have lps := Paired.size pG
    rw [List.length_take] at lps
    have ll := split_le tl_nl (by decide) (List.mem_of_getElem? hl)
    refine ⟨rfl, ?_⟩
    refine ⟨_, rfl, ⟨_, rfl⟩, ln, sp1, rfl, rfl, by decide +kernel, by omega, fun p4 n4 => ?_⟩
    have x4 : Ex G (upd G p4 (.lst ((Txt.split ln sp1).map V.str))) := Ex.refl.new n4
    have e4 : (upd G p4 (.lst ((Txt.split ln sp1).map V.str))) p4 = some (.lst ((Txt.split ln sp1).map V.str)) := upd_same
    have n4D : p4 ≠ D := fun z => by
      rw [z, eG] at n4
      cases n4
    generalize upd G p4 (.lst ((Txt.split ln sp1).map V.str)) = G4 at x4 e4 ⊢
    have hw : (wdsOf z)[i]? = some (Txt.split ln sp1) := by
      unfold wdsOf
      rw [List.getElem?_map, hl]
      rfl
    refine ⟨_, x4 _ _ eG, by rw [List.length_map]; omega, (xG.trans x4).put hD, ps ++ [p4], ?_, ?_⟩
    · rw [upd_same, List.map_append]
      rfl
    · rw [List.take_succ, hw]
      exact Paired.snoc (L2.Paired.mapP pG fun _ _ h => ⟨by unfold WAt; rw [upd_ne h.2]; exact x4 _ _ h.1, h.2⟩) ⟨by unfold WAt; rw [upd_ne n4D]; exact e4, n4D⟩
  · rintro G ⟨xG, ps, eG, pG⟩
    have lw : (wdsOf z).length = (Txt.split z (Str.ofString "\n")).length := by
      unfold wdsOf
      rw [List.length_map]
    rw [List.length_map, ← lw, List.take_length] at pG
    exact q D ps G (xL.trans xG) eG (L2.Paired.mapP pG fun _ _ h => h.1)
theorem rd_col {n : Int} {i : Nat} (hn : n = i) (hD : H D = some (.lst (ps.map V.ref))) (hp : Paired (WAt H) ps wss) (hi : ∀ ws ∈ wss, i < ws.length) (lw : wss.length ≤ 16000)
    (q : ∀ D2 H1, Ex H H1 → H1 D2 = some (.lst ((wss.map fun ws => ws.getD i Str.empty).map V.str)) → Q (.ref D2) H1) : tLc (iList K (tVar 1)) (gName 7) tYes (tOp (rIxL K) (tVar 7) (tC (.int n))) [7] (SG v0 (some (.ref D)) b c d e) H Q := by
  have sz := sizeLine_eq
  subst hn
  have lp : ps.length = wss.length := Paired.size hp
  refine ⟨_, rfl, D, rfl, ⟨_, SqL.of hD⟩, fun D2 nD => lc_list (K := K) (a := D) (xs := ps.map V.ref) (fun n H2 => Ex H H2 ∧ H2 D2 = some (.lst (((wss.take n).map fun ws => ws.getD i Str.empty).map V.str))) ⟨Ex.refl.new nD, upd_same⟩ (fun n H2 _ ⟨e, _⟩ => SqL.of (e _ _ hD)) ?_ ?_⟩
  · rintro n v H2 hv ⟨e2, h2'⟩
    rw [List.getElem?_map] at hv
    obtain ⟨p, hp2, rfl⟩ := Option.map_eq_some_iff.mp hv
    obtain ⟨ws, hws, hp3⟩ := Paired.spot hp hp2
    have il := (List.getElem?_eq_some_iff.mp hp2).1
    have li := hi ws (List.mem_of_getElem? hws)
    have gi : (ws.map V.str)[i]? = some (.str (ws.getD i Str.empty)) := by
      rw [List.getElem?_map, List.getD_eq_getElem?_getD, List.getElem?_eq_getElem li]
      rfl
    refine ⟨rfl, ?_⟩
    refine ⟨_, rfl, p, _, _, _, rfl, rfl, SqL.of (e2 _ _ hp3), atI_nat (j := i) gi, _, h2', ?_, e2.put nD, ?_⟩
    · rw [List.length_map, List.length_map, List.length_take]
      omega
    · rw [upd_same, List.take_succ, hws, List.map_append, List.map_append]
      rfl
  · rintro H2 ⟨e2, h2'⟩
    rw [List.length_map, lp, List.take_length] at h2'
    exact q D2 H2 e2 h2'
theorem rd_ko {Do : Addr} {a : Option V} (hk : H D = some (.lst (ks.map V.str))) (ho : H Do = some (.lst (ordL.map V.str))) (tk : ∀ k ∈ ks, Tk k) (lk : ks.length ≤ 16000) (q : ∀ H1, Ex H H1 → Qb (!(ks.all fun k => ordL.contains k)) H1) :
    tTest (tOp (rNeD K) (tLc (iList K (tVar 2)) (gName 8) (ttKo K) (tVar 8) [8]) (tLst tNil)) (SG v0 a (some (.ref D)) (some (.ref Do)) d e) H Qb := by
  have sz := sizeLine_eq
  refine ⟨_, rfl, D, rfl, ⟨_, SqL.of hk⟩, fun D2 nD => lc_list (K := K) (a := D) (xs := ks.map V.str) (fun n H2 => Ex H H2 ∧ H2 D2 = some (.lst (((ks.take n).filter fun k => !ordL.contains k).map V.str))) ⟨Ex.refl.new nD, upd_same⟩ (fun n H2 _ ⟨e, _⟩ => SqL.of (e _ _ hk)) ?_ ?_⟩
  · rintro n v H2 hv ⟨e2, h2'⟩
    rw [List.getElem?_map] at hv
    obtain ⟨k, hk2, rfl⟩ := Option.map_eq_some_iff.mp hv
    have il := (List.getElem?_eq_some_iff.mp hk2).1
    refine ⟨rfl, ?_⟩
    refine ⟨_, rfl, _, rfl, Do, _, rfl, .inl (SqL.of (e2 _ _ ho)), rfl, flat_strs _, _, rfl, ?_⟩
    show if (!inV (.str k) (ordL.map V.str)) = true then _ else _
    rw [inV_strs]
    cases e1 : ordL.contains k with
    | true =>
      refine ite2 (fun z => by cases z) (fun _ => ⟨e2, ?_⟩)
      rw [filt_next _ hk2, if_neg (by rw [e1]; decide), List.append_nil]
      exact h2'
    | false =>
      refine ite2 (fun _ => ⟨_, rfl, _, h2', ?_, e2.put nD, ?_⟩) (fun z => absurd rfl z)
      · rw [List.length_map]
        have := List.length_filter_le (fun k => !ordL.contains k) (ks.take n)
        rw [List.length_take] at this
        omega
      · rw [upd_same, filt_next _ hk2, if_pos (by rw [e1]; rfl), List.map_append]
        rfl
  · rintro H2 ⟨e2, h2'⟩
    rw [List.length_map, List.take_length] at h2'
    refine ⟨by rw [sz]; exact Nat.zero_le _, fun p np => ?_⟩
    have x3 : Ex H2 (upd H2 p (.lst [])) := Ex.refl.new np
    have h3 : (upd H2 p (.lst [])) p = some (.lst []) := upd_same
    generalize upd H2 p (.lst []) = H3 at x3 h3 ⊢
    refine ⟨_, _, dp_strs (x3 _ _ h2'), .lst (SqL.of h3) .nil, strs_tk fun k hk => tk k (List.mem_filter.mp hk).1, rfl, _, rfl, ?_⟩
    rw [eqv_str0]
    have e : (ks.filter fun k => !ordL.contains k).isEmpty = ks.all fun k => ordL.contains k := by
      rw [Bool.eq_iff_iff, List.isEmpty_iff, List.filter_eq_nil_iff, List.all_eq_true]
      exact forall_congr' fun k => forall_congr' fun _ => by simp
    rw [e]
    exact q _ (e2.trans x3)
theorem contains_at {k : Str} (h : ordL.contains k = true) : ∃ j, ordL[j]? = some k ∧ ordIx k = j ∧ ∀ m x, m < j → ordL[m]? = some x → (V.str x == V.str k) = false ∧ x ≠ k := by
  have hm : k ∈ ordL := by simpa using h
  have lt : ordL.idxOf k < ordL.length := List.idxOf_lt_length_iff.mpr hm
  refine ⟨ordL.idxOf k, by rw [List.getElem?_eq_getElem lt, List.getElem_idxOf lt], rfl, fun m x hm2 hx => ?_⟩
  have ne : x ≠ k := fun e => by
    subst e
    have := List.not_of_lt_findIdx (p := (· == x)) (xs := ordL) (i := m) hm2
    have hl := (List.getElem?_eq_some_iff.mp hx)
    rw [hl.2] at this
    simp at this
  exact ⟨beq_eq_false_iff_ne.mpr fun z => ne (V.str.inj z), ne⟩
theorem rd_ix {Do : Addr} {a : Option V} (hk : H D = some (.lst (ks.map V.str))) (ho : H Do = some (.lst (ordL.map V.str))) (ok : ks.all (fun k => ordL.contains k) = true) (lk : ks.length ≤ 16000)
    (q : ∀ D2 H1, Ex H H1 → H1 D2 = some (.lst ((ks.map fun k => ((ordIx k : Nat) : Int)).map V.int)) → Q (.ref D2) H1) : tLc (iList K (tVar 2)) (gName 8) tYes (teIx K) [8] (SG v0 a (some (.ref D)) (some (.ref Do)) d e) H Q := by
  have sz := sizeLine_eq
  refine ⟨_, rfl, D, rfl, ⟨_, SqL.of hk⟩, fun D2 nD => lc_list (K := K) (a := D) (xs := ks.map V.str) (fun n H2 => Ex H H2 ∧ H2 D2 = some (.lst (((ks.take n).map fun k => ((ordIx k : Nat) : Int)).map V.int))) ⟨Ex.refl.new nD, upd_same⟩ (fun n H2 _ ⟨e, _⟩ => SqL.of (e _ _ hk)) ?_ ?_⟩
  · rintro n v H2 hv ⟨e2, h2'⟩
    rw [List.getElem?_map] at hv
    obtain ⟨k, hk2, rfl⟩ := Option.map_eq_some_iff.mp hv
    have il := (List.getElem?_eq_some_iff.mp hk2).1
    obtain ⟨j, hj, ej, bef⟩ := contains_at (List.all_eq_true.mp ok k (List.mem_of_getElem? hk2))
    refine ⟨rfl, ?_⟩
    refine ⟨_, rfl, .inl ⟨rfl, _, SqL.of (e2 _ _ ho)⟩, _, rfl, Do, _, .str k, j, .str k, rfl, rfl, SqL.of (e2 _ _ ho), rfl, flat_strs _, ?_, ?_, fun m z' hm hz => ?_, _, h2', ?_, e2.put nD, ?_⟩
    · rw [List.getElem?_map, hj]
      rfl
    · show eqV (V.str k) (V.str k) = true
      unfold eqV
      simp
    · rw [List.getElem?_map] at hz
      obtain ⟨x, hx, rfl⟩ := Option.map_eq_some_iff.mp hz
      have := (bef m x hm hx).2
      unfold eqV
      simpa using this
    · rw [List.length_map, List.length_map, List.length_take]
      omega
    · rw [upd_same, List.take_succ, hk2, List.map_append, List.map_append, ← ej]
      rfl
  · rintro H2 ⟨e2, h2'⟩
    rw [List.length_map, List.take_length] at h2'
    exact q D2 H2 e2 h2'
theorem rd_cn {Do : Addr} {a : Option V} (hk : H D = some (.lst (ks.map V.str))) (ho : H Do = some (.lst (ordL.map V.str)))
    (q : ∀ D2 H1, Ex H H1 → H1 D2 = some (.lst ((ordL.map fun k => ((ks.count k : Nat) : Int)).map V.int)) → Q (.ref D2) H1) : tLc (iList K (tVar 3)) (gName 8) tYes (teCn K) [8] (SG v0 a (some (.ref D)) (some (.ref Do)) d e) H Q := by
  have sz := sizeLine_eq
  refine ⟨_, rfl, Do, rfl, ⟨_, SqL.of ho⟩, fun D2 nD => lc_list (K := K) (a := Do) (xs := ordL.map V.str) (fun n H2 => Ex H H2 ∧ H2 D2 = some (.lst (((ordL.take n).map fun k => ((ks.count k : Nat) : Int)).map V.int))) ⟨Ex.refl.new nD, upd_same⟩ (fun n H2 _ ⟨e, _⟩ => SqL.of (e _ _ ho)) ?_ ?_⟩
  · rintro n v H2 hv ⟨e2, h2'⟩
    rw [List.getElem?_map] at hv
    obtain ⟨k, hk2, rfl⟩ := Option.map_eq_some_iff.mp hv
    have il : n < 4 := (List.getElem?_eq_some_iff.mp hk2).1
    refine ⟨rfl, ?_⟩
    refine ⟨_, rfl, .inl ⟨rfl, _, SqL.of (e2 _ _ hk)⟩, _, rfl, D, ks, k, rfl, rfl, SqL.of (e2 _ _ hk), _, h2', ?_, e2.put nD, ?_⟩
    · rw [List.length_map, List.length_map, List.length_take]
      omega
    · rw [upd_same, List.take_succ, hk2, List.map_append, List.map_append]
      rfl
  · rintro H2 ⟨e2, h2'⟩
    rw [List.length_map, List.take_length] at h2'
    exact q D2 H2 e2 h2'
/-- not in order, or a kind is not there -/
theorem rd_srt {Dc : Addr} {a b c : Option V} {sp : List Int} {c0 c1 c2 c3 : Int} (hs : H D = some (.lst (sp.map V.int))) (hc : H Dc = some (.lst ([c0, c1, c2, c3].map V.int)))
    (q : ∀ H1, Ex H H1 → Qb (!(decide (sp.Pairwise (· ≤ ·)) && (decide (c0 ≠ 0) && (decide (c2 ≠ 0) && decide (c3 ≠ 0))))) H1) :
    tOr (tTest (tOp (rNeD K) (tVar 4) (tCB (rSortedI K) (tCons (tVar 4) tNil)))) (tTest (tOp (rIn K false) (tC (.int 0)) (tLst (tCons (tOp (rIxL K) (tVar 5) (tC (.int 0))) (tCons (tOp (rIxL K) (tVar 5) (tC (.int 2))) (tCons (tOp (rIxL K) (tVar 5) (tC (.int 3))) tNil)))))) (SG v0 a b c (some (.ref D)) (some (.ref Dc))) H Qb := by
  have sz := sizeLine_eq
  refine ⟨_, rfl, _, rfl, D, sp, rfl, SqL.of hs, fun ns p perm ris new => ?_⟩
  have x1 : Ex H (upd H p (.lst (ns.map V.int))) := Ex.refl.new new
  have e1 : (upd H p (.lst (ns.map V.int))) p = some (.lst (ns.map V.int)) := upd_same
  generalize upd H p (.lst (ns.map V.int)) = H1 at x1 e1 ⊢
  refine ⟨_, _, dp_ints (SqL.of (x1 _ _ hs)), dp_ints (SqL.of e1), ints_sh, ints_sh, _, rfl, ?_⟩
  rw [eqv_ints]
  have eq : sp = ns ↔ sp.Pairwise (· ≤ ·) := ⟨fun e => by rw [e]; exact ris, fun h => List.Perm.eq_of_pairwise (fun a b _ _ h1 h2 => Int.le_antisymm h1 h2) h ris perm.symm⟩
  have q1 := q H1 x1
  by_cases ce : sp = ns
  · rw [decide_eq_true ce]
    rw [decide_eq_true (eq.mp ce), Bool.true_and] at q1
    refine ite2 (fun z => by cases z) (fun _ => ?_)
    have hc1 := x1 _ _ hc
    refine ⟨_, rfl, Dc, _, _, _, rfl, rfl, SqL.of hc1, atI_nat (j := 0) rfl, _, rfl, Dc, _, _, _, rfl, rfl, SqL.of hc1, atI_nat (j := 2) rfl, _, rfl, Dc, _, _, _, rfl, rfl, SqL.of hc1, atI_nat (j := 3) rfl, by rw [sz]; show 3 ≤ 16777216; decide, fun p2 n2 => ?_⟩
    have x2 : Ex H1 (upd H1 p2 (.lst [.int c0, .int c2, .int c3])) := Ex.refl.new n2
    have e2 : (upd H1 p2 (.lst [.int c0, .int c2, .int c3])) p2 = some (.lst [.int c0, .int c2, .int c3]) := upd_same
    have q2 := q _ (x1.trans x2)
    rw [decide_eq_true (eq.mp ce), Bool.true_and] at q2
    refine ⟨p2, _, rfl, .inl (SqL.of e2), rfl, rfl, _, rfl, ?_⟩
    have ei : inV (.int 0) [V.int c0, .int c2, .int c3] = !(decide (c0 ≠ 0) && (decide (c2 ≠ 0) && decide (c3 ≠ 0))) := by
      unfold inV
      simp only [List.any_cons, List.any_nil, Bool.or_false, eqV]
      by_cases h0 : c0 = 0 <;> by_cases h2 : c2 = 0 <;> by_cases h3 : c3 = 0 <;> simp [h0, h2, h3]
    show Qb (inV (.int 0) [V.int c0, .int c2, .int c3]) _
    rw [ei]
    exact q2
  · rw [decide_eq_false ce]
    rw [decide_eq_false fun h => ce (eq.mpr h), Bool.false_and] at q1
    exact ite2 (fun _ => q1) (fun z => absurd rfl z)
theorem eqv_int0 {cs : List Int} : PyData.eqv (.list (cs.map PyData.int)) (.list []) = cs.isEmpty := by
  cases cs with
  | nil => rfl
  | cons a r => rfl
def lims : List Int := [6, 6, 3, 8]
def mrB (cs : List Int) (k : Nat) : Bool := decide (lims.getD k 0 < cs.getD k 0)
theorem getD_at {cs : List Int} {i : Nat} (h : i < cs.length) : (cs.map V.int)[i]? = some (.int (cs.getD i 0)) := by
  rw [List.getElem?_map, List.getD_eq_getElem?_getD, List.getElem?_eq_getElem h]
  rfl
theorem range_next (p : Nat → Bool) (n : Nat) : (List.range (n + 1)).filter p = (List.range n).filter p ++ (if p n = true then [n] else []) := by
  rw [List.range_succ, List.filter_append]
  cases e : p n <;> simp [e]
theorem mr_four {c0 c1 c2 c3 : Int} : ((List.range 4).filter (mrB [c0, c1, c2, c3])).isEmpty = (decide (c0 ≤ 6) && (decide (c1 ≤ 6) && (decide (c2 ≤ 3) && decide (c3 ≤ 8)))) := by
  have e0 : mrB [c0, c1, c2, c3] 0 = decide (6 < c0) := rfl
  have e1 : mrB [c0, c1, c2, c3] 1 = decide (6 < c1) := rfl
  have e2 : mrB [c0, c1, c2, c3] 2 = decide (3 < c2) := rfl
  have e3 : mrB [c0, c1, c2, c3] 3 = decide (8 < c3) := rfl
  have r : List.range 4 = [0, 1, 2, 3] := rfl
  rw [r]
  simp only [List.filter_cons, List.filter_nil, e0, e1, e2, e3]
  by_cases h0 : 6 < c0 <;> by_cases h1 : 6 < c1 <;> by_cases h2 : 3 < c2 <;> by_cases h3 : 8 < c3 <;> simp [h0, h1, h2, h3] <;> omega
theorem rd_mr {Dc : Addr} {a b c d : Option V} {c0 c1 c2 c3 : Int} (hc : H Dc = some (.lst ([c0, c1, c2, c3].map V.int)))
    (q : ∀ H1, Ex H H1 → Qb (!(decide (c0 ≤ 6) && (decide (c1 ≤ 6) && (decide (c2 ≤ 3) && decide (c3 ≤ 8))))) H1) : tTest (tOp (rNeD K) (tLc (iRng1 (tCons (tC (.int 4)) tNil)) (gName 9) (ttMr K) (tVar 9) [9]) (tLst tNil)) (SG v0 a b c d (some (.ref Dc))) H Qb := by
  have sz := sizeLine_eq
  refine ⟨4, rfl, by decide, by decide, fun D nD => lc_range (lo := 0) (n := 4) (fun n G => Ex H G ∧ G D = some (.lst ((((List.range n).filter (mrB [c0, c1, c2, c3])).map fun k => ((k : Nat) : Int)).map V.int))) ⟨Ex.refl.new nD, upd_same⟩ ?_ ?_⟩
  · rintro n G hi ⟨xG, eG⟩
    have z0 : (0 : Int) + (n : Int) = ((n : Nat) : Int) := Int.zero_add _
    have g1 : atI ([c0, c1, c2, c3].map V.int) (0 + (n : Int)) = some (.int ([c0, c1, c2, c3].getD n 0)) := by
      rw [z0]
      exact atI_nat (getD_at hi)
    have g2 : atI (lims.map V.int) (0 + (n : Int)) = some (.int (lims.getD n 0)) := by
      rw [z0]
      exact atI_nat (getD_at hi)
    refine ⟨rfl, ?_⟩
    refine ⟨_, rfl, _, rfl, Dc, _, _, _, rfl, rfl, SqL.of (xG _ _ hc), g1, by rw [sz]; show 4 ≤ 16777216; decide, fun p np => ?_⟩
    have x2 : Ex G (upd G p (.lst (lims.map V.int))) := Ex.refl.new np
    have e2 : (upd G p (.lst (lims.map V.int))) p = some (.lst (lims.map V.int)) := upd_same
    show tVar 9 _ (upd G p (.lst (lims.map V.int))) _
    generalize upd G p (.lst (lims.map V.int)) = G2 at x2 e2 ⊢
    refine ⟨_, rfl, p, _, _, _, rfl, rfl, SqL.of e2, g2, _, _, rfl, rfl, _, rfl, ?_⟩
    have X2 := xG.trans x2
    have eG2 := x2 _ _ eG
    by_cases cb : lims.getD n 0 < [c0, c1, c2, c3].getD n 0
    · have e : mrB [c0, c1, c2, c3] n = true := decide_eq_true cb
      rw [decide_eq_true cb]
      refine ite2 (fun _ => ⟨_, rfl, _, eG2, ?_, X2.put nD, ?_⟩) (fun z => absurd rfl z)
      · rw [List.length_map, List.length_map]
        have := List.length_filter_le (mrB [c0, c1, c2, c3]) (List.range n)
        rw [List.length_range] at this
        omega
      · rw [upd_same, range_next, if_pos e, List.map_append, List.map_append, z0]
        rfl
    · have e : mrB [c0, c1, c2, c3] n = false := decide_eq_false cb
      rw [decide_eq_false cb]
      refine ite2 (fun z => by cases z) (fun _ => ⟨X2, ?_⟩)
      rw [range_next, if_neg (by rw [e]; exact Bool.false_ne_true), List.append_nil]
      exact eG2
  · rintro G ⟨xG, eG⟩
    refine ⟨by rw [sz]; exact Nat.zero_le _, fun p np => ?_⟩
    have x3 : Ex G (upd G p (.lst [])) := Ex.refl.new np
    have h3 : (upd G p (.lst [])) p = some (.lst []) := upd_same
    generalize upd G p (.lst []) = G3 at x3 h3 ⊢
    refine ⟨_, _, dp_ints (SqL.of (x3 _ _ eG)), .lst (SqL.of h3) .nil, ints_sh, rfl, _, rfl, ?_⟩
    rw [eqv_int0]
    have e : (((List.range 4).filter (mrB [c0, c1, c2, c3])).map fun k => ((k : Nat) : Int)).isEmpty = ((List.range 4).filter (mrB [c0, c1, c2, c3])).isEmpty := by
      cases (List.range 4).filter (mrB [c0, c1, c2, c3]) <;> rfl
    rw [e, mr_four]
    exact q _ (xG.trans x3)
theorem rd_lns {Dc : Addr} {b c d : Option V} {c0 c1 c2 c3 : Int} (hD : H D = some (.lst (ps.map V.ref))) (hp : Paired (WAt H) ps wss) (hc : H Dc = some (.lst ([c0, c1, c2, c3].map V.int))) (lw : wss.length ≤ 16000) (ok : ∀ ws ∈ wss, ws ≠ [] ∧ ws.length ≤ 16000 ∧ ∀ u ∈ ws, Tk u ∧ u.length ≤ 16000)
    (q : ∀ D2 H1, Ex H H1 → H1 D2 = some (.lst ((wss.map fun ws => lineB ws c2).map V.bl)) → Q (.ref D2) H1) : tLc (iList K (tVar 1)) (gName 7) tYes (teLn K) [7] (SG v0 (some (.ref D)) b c d (some (.ref Dc))) H Q := by
  have sz := sizeLine_eq
  have lp : ps.length = wss.length := Paired.size hp
  refine ⟨_, rfl, D, rfl, ⟨_, SqL.of hD⟩, fun D2 nD => lc_list (K := K) (a := D) (xs := ps.map V.ref) (fun n H2 => Ex H H2 ∧ H2 D2 = some (.lst (((wss.take n).map fun ws => lineB ws c2).map V.bl))) ⟨Ex.refl.new nD, upd_same⟩ (fun n H2 _ ⟨e, _⟩ => SqL.of (e _ _ hD)) ?_ ?_⟩
  · rintro n v H2 hv ⟨e2, h2'⟩
    rw [List.getElem?_map] at hv
    obtain ⟨p, hp2, rfl⟩ := Option.map_eq_some_iff.mp hv
    obtain ⟨ws, hws, hp3⟩ := Paired.spot hp hp2
    have il := (List.getElem?_eq_some_iff.mp hp2).1
    obtain ⟨o1, o2, o3⟩ := ok ws (List.mem_of_getElem? hws)
    refine ⟨rfl, ?_⟩
    refine ⟨_, rfl, _, rfl, Dc, _, _, _, rfl, rfl, SqL.of (e2 _ _ hc), atI_nat (j := 2) rfl, p, ws, c2, rfl, e2 _ _ hp3, o1, by omega, fun u hu => ⟨(o3 u hu).1, by have := (o3 u hu).2; omega⟩, fun H3 x3 => ⟨_, x3 _ _ h2', ?_, (e2.trans x3).put nD, ?_⟩⟩
    · rw [List.length_map, List.length_map, List.length_take]
      omega
    · rw [upd_same, List.take_succ, hws, List.map_append, List.map_append]
      rfl
  · rintro H2 ⟨e2, h2'⟩
    rw [List.length_map, lp, List.take_length] at h2'
    exact q D2 H2 e2 h2'
theorem cnt_all : ∀ {ks : List Str}, ks.all (fun k => ordL.contains k) = true → ks.length = ks.count kM + ks.count kC + ks.count kS + ks.count kP
  | [], _ => rfl
  | k :: ks, h => by
    rw [List.all_cons, Bool.and_eq_true] at h
    have ih := cnt_all h.2
    have hm : k ∈ ordL := by simpa using h.1
    have d : kM ≠ kC ∧ kM ≠ kS ∧ kM ≠ kP ∧ kC ≠ kS ∧ kC ≠ kP ∧ kS ≠ kP := by decide +kernel
    obtain ⟨d1, d2, d3, d4, d5, d6⟩ := d
    unfold ordL at hm
    simp only [List.mem_cons, List.not_mem_nil, or_false] at hm
    rcases hm with rfl | rfl | rfl | rfl
    · rw [List.count_cons_self, List.count_cons_of_ne d1, List.count_cons_of_ne d2, List.count_cons_of_ne d3, List.length_cons]
      omega
    · rw [List.count_cons_self, List.count_cons_of_ne d1.symm, List.count_cons_of_ne d4, List.count_cons_of_ne d5, List.length_cons]
      omega
    · rw [List.count_cons_self, List.count_cons_of_ne d2.symm, List.count_cons_of_ne d4.symm, List.count_cons_of_ne d6, List.length_cons]
      omega
    · rw [List.count_cons_self, List.count_cons_of_ne d3.symm, List.count_cons_of_ne d5.symm, List.count_cons_of_ne d6.symm, List.length_cons]
      omega
theorem line_two {ws : List Str} {m : Int} (h : lineB ws m = true) : 1 < ws.length := by
  match ws, h with
  | [], h => cases h
  | [_], h => cases h
  | _ :: _ :: r, _ =>
    simp only [List.length_cons]
    omega
end
section
variable {P : Program} {w : World} {K : PySem.W.Frag} {mg : Str → Option Value} {base : Heap}
theorem scPg3 : FnScope nPg3 ["_law_page_here"] (defScope sPg3) := ⟨rfl, rfl, rfl, by decide +kernel, rfl, by decide +kernel, by decide +kernel⟩
theorem ok_pg3 {f fL : Addr} {fd fdL : FuncData} (F : Fun K "_law_is_page" "_law_is_page" sPg3 f fd) (B : BltI mg) (bSo : mg "sorted" = none) (bSe : mg "set" = none) (bRg : mg "range" = none)
    (GL : FnOk P w K mg base CX0 3 fL fdL ["_law_words", "_law_many"] spLn3) (mL : mg "_law_is_line" = some (.ref fL)) (kL : PySem.W.keepIn K (.ref fL) = true) (bL : Binds K fdL ["_law_words", "_law_many"] []) :
    FnOk P w K mg base CX0 4 f fd ["_law_page_here"] (spPg3 K) := by
  refine F.ok scPg3 (fun vs H Q E h => ?_) (fun cdv A outer s H vs Q E hr h => ?_)
  · obtain ⟨v, rfl, _⟩ := h
    rfl
  · obtain ⟨v, rfl, kv, hz, q⟩ := h
    have hu : (A.deeper (PyProof.Rows.envOfC "_law_is_page" (defScope sPg3) s.heap.objs.size f cdv)).units + 64 < cLine := by
      have := hr.un
      omega
    refine ⟨_, pss_cons (ps_if (pt_not (pt_truth (pe_callB call_isi (by rfl) B.isinstance (by decide +kernel) (pa_cons (pv 0) (pa_cons (pe_bltn (by rfl) B.str (by decide +kernel) (v := .ty "str") rfl) pa_nil))) (fun _ => rfl))) (pss_one (ps_ret pe_bl)) pss_nil)
      (pss_cons (ps_setLc (i := 1) (own := [("_law_line", 6)]) (g := gName 6) (te := teWd) (by rfl) scPg3.nd rfl rfl (sw_true rfl rfl rfl (by decide +kernel)) (pi_list (pe_split (pv 0) pe_str)) (blkOk_by (own := [("_law_line", 6)]) (N := nPg3) (sc := defScope sPg3) (by decide +kernel)) (fun _ _ _ _ _ => pg_name (i := 6) scPg3.nd rfl (Or.inl rfl)) (fun _ _ _ _ _ => pts_nil) (fun _ _ _ _ _ => pe_split (pv 6) pe_str))
      (pss_cons (ps_asg (pe_tup (pa_cons (pe_lc (own := [("_law_words", 7)]) (g := gName 7) (te := teHd K) (by rfl) scPg3.nd (pi_list (pv 1)) (blkOk_by (own := [("_law_words", 7)]) (N := nPg3) (sc := defScope sPg3) (by decide +kernel)) (fun _ _ _ _ _ => pg_name (i := 7) scPg3.nd rfl (Or.inl rfl)) (fun _ _ _ _ _ => pts_nil) (fun _ _ _ _ _ => pe_ix (show IxR _ (rIxL K) from ix_list) (pv 7) pe_int (fun _ _ => rfl)))
          (pa_cons (pe_lst (pa_cons pe_str (pa_cons pe_str (pa_cons pe_str (pa_cons pe_str pa_nil))))) pa_nil))) (pg_tup (by rfl) (pgs_cons (pg_name (i := 2) scPg3.nd rfl (Or.inr rfl)) (pgs_cons (pg_name (i := 3) scPg3.nd rfl (Or.inr rfl)) pgs_nil))))
      (pss_cons (ps_if (pt_cmpR (op_neD hu) (pe_lc (own := [("_law_kind", 8)]) (g := gName 8) (tt := ttKo K) (te := tVar 8) (by rfl) scPg3.nd (pi_list (pv 2)) (blkOk_by (own := [("_law_kind", 8)]) (N := nPg3) (sc := defScope sPg3) (by decide +kernel)) (fun _ _ _ _ _ => pg_name (i := 8) scPg3.nd rfl (Or.inl rfl)) (fun _ _ _ _ _ => pts_one (pt_cmpR (show OpR _ _ (rIn K true) from op_notIn_seq) (pv 8) (pv 3) rfl)) (fun _ _ _ _ _ => pv 8)) (pe_lst pa_nil) (nomark _)) (pss_one (ps_ret pe_bl)) pss_nil)
      (pss_cons (ps_asg (pe_tup (pa_cons (pe_lc (own := [("_law_kind", 8)]) (g := gName 8) (te := teIx K) (by rfl) scPg3.nd (pi_list (pv 2)) (blkOk_by (own := [("_law_kind", 8)]) (N := nPg3) (sc := defScope sPg3) (by decide +kernel)) (fun _ _ _ _ _ => pg_name (i := 8) scPg3.nd rfl (Or.inl rfl)) (fun _ _ _ _ _ => pts_nil) (fun _ _ _ _ _ => pe_bm PySem.F.plainAttrs_list PySem.F.slot_list_index PySem.F.type_list_index (show MtR _ "list.index" (rIndex K) from mt_index) (pv 3) (pa_cons (pv 8) pa_nil)))
          (pa_cons (pe_lc (own := [("_law_kind", 8)]) (g := gName 8) (te := teCn K) (by rfl) scPg3.nd (pi_list (pv 3)) (blkOk_by (own := [("_law_kind", 8)]) (N := nPg3) (sc := defScope sPg3) (by decide +kernel)) (fun _ _ _ _ _ => pg_name (i := 8) scPg3.nd rfl (Or.inl rfl)) (fun _ _ _ _ _ => pts_nil) (fun _ _ _ _ _ => pe_bm PySem.F.plainAttrs_list PySem.F.slot_list_count PySem.F.type_list_count (show MtR _ "list.count" (SetX.rCntS K) from SetX.mt_lcountS) (pv 2) (pa_cons (pv 8) pa_nil))) pa_nil))) (pg_tup (by rfl) (pgs_cons (pg_name (i := 4) scPg3.nd rfl (Or.inl rfl)) (pgs_cons (pg_name (i := 5) scPg3.nd rfl (Or.inr rfl)) pgs_nil))))
      (pss_cons (ps_if (PW.pt (pw_or (pt_cmpR (op_neD hu) (pv 4) (pe_callB cr_sortedI (by rfl) bSo (by decide +kernel) (pa_cons (pv 4) pa_nil)) (nomark _)) (pw_or1 (pt_cmpR op_in_seq pe_int (pe_lst (pa_cons (pe_ix ix_list (pv 5) pe_int (fun _ _ => rfl)) (pa_cons (pe_ix ix_list (pv 5) pe_int (fun _ _ => rfl)) (pa_cons (pe_ix ix_list (pv 5) pe_int (fun _ _ => rfl)) pa_nil)))) rfl)))) (pss_one (ps_ret pe_bl)) pss_nil)
      (pss_cons (ps_if (pt_cmpR (op_neD hu) (pe_lc (own := [("_law_k", 9)]) (g := gName 9) (tt := ttMr K) (te := tVar 9) (by rfl) scPg3.nd (pi_range1 (by rfl) bRg (pa_cons pe_int pa_nil)) (blkOk_by (own := [("_law_k", 9)]) (N := nPg3) (sc := defScope sPg3) (by decide +kernel)) (fun _ _ _ _ _ => pg_name (i := 9) scPg3.nd rfl (Or.inl rfl)) (fun _ _ _ _ _ => pts_one (pt_cmpR op_gt (pe_ix (show IxR _ (rIxL K) from ix_list) (pv 5) (pv 9) (fun _ _ => rfl)) (pe_ix (show IxR _ (rIxL K) from ix_list) (pe_lst (pa_cons pe_int (pa_cons pe_int (pa_cons pe_int (pa_cons pe_int pa_nil))))) (pv 9) (fun _ _ => rfl)) (nomark _))) (fun _ _ _ _ _ => pv 9)) (pe_lst pa_nil) (nomark _)) (pss_one (ps_ret pe_bl)) pss_nil)
      (pss_cons (ps_if (pt_not (pt_truth (pe_callB (cr_all (by rfl)) (by rfl) B.all (by decide +kernel) (pa_cons (pe_lc (own := [("_law_words", 7)]) (g := gName 7) (te := teLn K) (by rfl) scPg3.nd (pi_list (pv 1)) (blkOk_by (own := [("_law_words", 7)]) (N := nPg3) (sc := defScope sPg3) (by decide +kernel)) (fun _ _ _ _ _ => pg_name (i := 7) scPg3.nd rfl (Or.inl rfl)) (fun _ _ _ _ _ => pts_nil) (fun _ _ _ _ _ => pe_call GL hr (by rfl) mL kL bL .nil pass0 (pa_cons (pv 7) (pa_cons (pe_ix (show IxR _ (rIxL K) from ix_list) (pv 5) pe_int (fun _ _ => rfl)) pa_nil)))) pa_nil)) (fun _ => rfl))) (pss_one (ps_ret pe_bl)) pss_nil)
      (pss_one (ps_ret (pe_cmpR op_eq (SetX.pe_lenSetL rfl (by rfl) B.len (by rfl) bSe (pe_lc (own := [("_law_words", 7)]) (g := gName 7) (te := teNd K) (by rfl) scPg3.nd (pi_list (pv 1)) (blkOk_by (own := [("_law_words", 7)]) (N := nPg3) (sc := defScope sPg3) (by decide +kernel)) (fun _ _ _ _ _ => pg_name (i := 7) scPg3.nd rfl (Or.inl rfl)) (fun _ _ _ _ _ => pts_nil) (fun _ _ _ _ _ => pe_ix (show IxR _ (rIxL K) from ix_list) (pv 7) pe_int (fun _ _ => rfl)))) (pe_callB call_len_seq (by rfl) B.len (by decide +kernel) (pa_cons (pv 1) pa_nil)) (nomark _))))))))))), ?_⟩
    have sz := sizeLine_eq
    obtain ⟨t, bs, ty, es, hb2⟩ := kv.st.ty
    refine ⟨_, rfl, _, _, t, _, bs, rfl, .ty "str", ty, es, bs, rfl, ?_⟩
    rcases hb2 with ⟨rfl, z, rfl⟩ | ⟨rfl, ns⟩
    case inr =>
      refine ite2 (fun _ => ?_) (fun q => absurd rfl q)
      have q := q _ Ex.refl
      have e : pageV v = false := by
        unfold pageV
        split
        · exact absurd rfl (ns _)
        · rfl
      rw [e] at q
      exact q
    refine ite2 (fun q => by cases q) (fun _ => ?_)
    refine rd_nextU3 ?_
    try dsimp only
    obtain ⟨tz, lz⟩ := hz z rfl
    have q : ∀ H1, Ex H H1 → Q (.bl (pageB z)) H1 := q
    have no : ∀ H1, Ex H H1 → pageB z = false → Q (.bl false) H1 := fun H1 x1 e => by
      have := q H1 x1
      rw [e] at this
      exact this
    have wok := wds_ok tz
    have wn := wds_n (z := z)
    refine rd_seqU3 (rd_asgU3 (rd_wds (K := K) lz fun D ps H1 x1 e1 p1 => ?_))
    refine rd_nameU3 ?_
    try dsimp only
    refine rd_seqU3 (rd_asgU3 ?_)
    refine rd_tupU3 (rd_consU3 (rd_col (K := K) (n := 0) (i := 0) rfl e1 p1 (fun ws hw => List.length_pos_iff.mpr (wok ws hw).1) (by omega) fun D2 H2 x2 e2 => ?_))
    have ek : ((wdsOf z).map fun ws => ws.getD 0 Str.empty) = kndsOf z := rfl
    rw [ek] at e2
    refine ⟨by rw [sz]; show 4 ≤ 16777216; decide, fun Do no2 => ?_⟩
    have x3 : Ex H2 (upd H2 Do (.lst (ordL.map V.str))) := Ex.refl.new no2
    have e3 : (upd H2 Do (.lst (ordL.map V.str))) Do = some (.lst (ordL.map V.str)) := upd_same
    show tNil _ (upd H2 Do (.lst (ordL.map V.str))) _
    generalize upd H2 Do (.lst (ordL.map V.str)) = H3 at x3 e3 ⊢
    refine ⟨by rw [sz]; show 2 ≤ 16777216; decide, fun p4 n4 => ?_⟩
    have x4 : Ex H3 (upd H3 p4 (.tup [.ref D2, .ref Do])) := Ex.refl.new n4
    have e4 : (upd H3 p4 (.tup [.ref D2, .ref Do])) p4 = some (.tup [.ref D2, .ref Do]) := upd_same
    generalize upd H3 p4 (.tup [V.ref D2, V.ref Do]) = H4 at x4 e4 ⊢
    refine ⟨p4, _, rfl, SqT.of e4, rfl, ?_⟩
    refine ⟨_, _, rfl, _, _, rfl, rfl, ?_⟩
    try dsimp only
    have y4 := x3.trans x4
    have hk4 := y4 _ _ e2
    have ho4 := x4 _ _ e3
    have tkk : ∀ k ∈ kndsOf z, Tk k := fun k hk => by
      unfold kndsOf at hk
      obtain ⟨ws, hw, rfl⟩ := List.mem_map.mp hk
      obtain ⟨n1, _, n3⟩ := wok ws hw
      cases ws with
      | nil => exact absurd rfl n1
      | cons u r => exact (n3 u (List.mem_cons_self ..)).1
    have lkk : (kndsOf z).length = (wdsOf z).length := by
      unfold kndsOf
      rw [List.length_map]
    refine rd_seqU3 (rd_ifU3 (rd_ko (K := K) hk4 ho4 tkk (by omega) fun H5 x5 => ?_))
    have X5 := x1.trans (x2.trans (y4.trans x5))
    cases ea : (kndsOf z).all fun k => ordL.contains k with
    | false =>
      refine ite2 (fun _ => no _ X5 ?_) (fun z => absurd rfl z)
      unfold pageB
      rw [ea, Bool.false_and]
    | true =>
      refine ite2 (fun z => by cases z) (fun _ => ?_)
      refine rd_nextU3 ?_
      try dsimp only
      refine rd_seqU3 (rd_asgU3 ?_)
      refine rd_tupU3 (rd_consU3 (rd_ix (K := K) (x5 _ _ hk4) (x5 _ _ ho4) ea (by omega) fun Ds H6 x6 e6 => ?_))
      refine rd_consU3 (rd_cn (K := K) ((x5.trans x6) _ _ hk4) ((x5.trans x6) _ _ ho4) fun Dc H7 x7 e7 => ?_)
      refine ⟨by rw [sz]; show 2 ≤ 16777216; decide, fun p8 n8 => ?_⟩
      have x8 : Ex H7 (upd H7 p8 (.tup [.ref Ds, .ref Dc])) := Ex.refl.new n8
      have e8 : (upd H7 p8 (.tup [.ref Ds, .ref Dc])) p8 = some (.tup [.ref Ds, .ref Dc]) := upd_same
      generalize upd H7 p8 (.tup [V.ref Ds, V.ref Dc]) = H8 at x8 e8 ⊢
      refine ⟨p8, _, rfl, SqT.of e8, rfl, ?_⟩
      refine ⟨_, _, rfl, _, _, rfl, rfl, ?_⟩
      try dsimp only
      have y8 := x6.trans (x7.trans x8)
      have X8 := X5.trans y8
      have hc8 : H8 Dc = some (.lst ([(((kndsOf z).count kM : Nat) : Int), (((kndsOf z).count kC : Nat) : Int), (((kndsOf z).count kS : Nat) : Int), (((kndsOf z).count kP : Nat) : Int)].map V.int)) := x8 _ _ e7
      have nz : ∀ n : Nat, decide ((n : Int) ≠ 0) = decide (n ≠ 0) := fun n => decide_eq_decide.mpr (by omega)
      refine rd_seqU3 (rd_ifU3 (rd_srt (K := K) ((x7.trans x8) _ _ e6) hc8 fun H9 x9 => ?_))
      rw [nz, nz, nz]
      have X9 := X8.trans x9
      cases eb : (decide (((kndsOf z).map fun k => ((ordIx k : Nat) : Int)).Pairwise (· ≤ ·)) && (decide ((kndsOf z).count kM ≠ 0) && (decide ((kndsOf z).count kS ≠ 0) && decide ((kndsOf z).count kP ≠ 0)))) with
      | false =>
        refine ite2 (fun _ => no _ X9 ?_) (fun z => absurd rfl z)
        unfold pageB
        rw [ea, eb, Bool.false_and, Bool.and_false]
      | true =>
        refine ite2 (fun z => by cases z) (fun _ => ?_)
        refine rd_nextU3 ?_
        try dsimp only
        have hc9 := x9 _ _ hc8
        have nle : ∀ n m : Nat, decide ((n : Int) ≤ (m : Int)) = decide (n ≤ m) := fun n m => decide_eq_decide.mpr (by omega)
        refine rd_seqU3 (rd_ifU3 (rd_mr (K := K) hc9 fun H10 x10 => ?_))
        have n6 : ∀ n : Nat, decide ((n : Int) ≤ 6) = decide (n ≤ 6) := fun n => nle n 6
        have n3 : ∀ n : Nat, decide ((n : Int) ≤ 3) = decide (n ≤ 3) := fun n => nle n 3
        have n8' : ∀ n : Nat, decide ((n : Int) ≤ 8) = decide (n ≤ 8) := fun n => nle n 8
        rw [n6, n6, n3, n8']
        have X10 := X9.trans x10
        cases ec : (decide ((kndsOf z).count kM ≤ 6) && (decide ((kndsOf z).count kC ≤ 6) && (decide ((kndsOf z).count kS ≤ 3) && decide ((kndsOf z).count kP ≤ 8)))) with
        | false =>
          refine ite2 (fun _ => no _ X10 ?_) (fun z => absurd rfl z)
          unfold pageB
          rw [ea, eb, ec, Bool.false_and, Bool.and_false, Bool.and_false]
        | true =>
          refine ite2 (fun z => by cases z) (fun _ => ?_)
          refine rd_nextU3 ?_
          try dsimp only
          have y10 : Ex H1 H10 := x2.trans (y4.trans (x5.trans (y8.trans (x9.trans x10))))
          have hD10 := y10 _ _ e1
          have p10 : Paired (WAt H10) ps (wdsOf z) := L2.Paired.mapP p1 fun _ _ h => h.ex y10
          have hc10 := x10 _ _ hc9
          have wok2 : ∀ ws ∈ wdsOf z, ws ≠ [] ∧ ws.length ≤ 16000 ∧ ∀ u ∈ ws, Tk u ∧ u.length ≤ 16000 := fun ws hw => by
            obtain ⟨o1, o2, o3⟩ := wok ws hw
            exact ⟨o1, by omega, fun u hu => ⟨(o3 u hu).1, by have := (o3 u hu).2; omega⟩⟩
          refine rd_seqU3 (rd_ifU3 ?_)
          refine rd_cbU3 (rd_consU3 (rd_lns (K := K) hD10 p10 hc10 (by omega) wok2 fun D11 H11 x11 e11 => ?_))
          refine ⟨D11, _, rfl, SqL.of e11, _, rfl, ?_⟩
          have X11 := X10.trans x11
          have ed0 : (((wdsOf z).map fun ws => lineB ws (((kndsOf z).count kS : Nat) : Int)).all id) = (wdsOf z).all fun ws => lineB ws ((kndsOf z).count kS : Nat) := by
            rw [List.all_map]
            rfl
          rw [ed0]
          cases ed : (wdsOf z).all fun ws => lineB ws ((kndsOf z).count kS : Nat) with
          | false =>
            refine ite2 (fun _ => no _ X11 ?_) (fun z => absurd rfl z)
            unfold pageB
            rw [ea, eb, ec, ed, Bool.false_and, Bool.and_false, Bool.and_false, Bool.and_false]
          | true =>
            refine ite2 (fun z => by cases z) (fun _ => ?_)
            refine rd_nextU3 ?_
            try dsimp only
            have y11 := y10.trans x11
            have p11 : Paired (WAt H11) ps (wdsOf z) := L2.Paired.mapP p1 fun _ _ h => h.ex y11
            refine rd_opU3 ?_
            refine rd_setU3 (rd_col (K := K) (n := 1) (i := 1) rfl (y11 _ _ e1) p11 (fun ws hw => line_two (List.all_eq_true.mp ed ws hw)) (by omega) fun D12 H12 x12 e12 => ?_)
            have few : ((wdsOf z).map w1).length ≤ 60 := by
              rw [List.length_map, ← lkk, cnt_all ea]
              simp only [Bool.and_eq_true, decide_eq_true_eq] at ec
              omega
            refine ⟨D12, (wdsOf z).map w1, rfl, SqL.of e12, few, ?_⟩
            refine ⟨_, rfl, D, _, rfl, .inl (SqL.of ((y11.trans x12) _ _ e1)), rfl, ?_⟩
            have lp : ps.length = (wdsOf z).length := Paired.size p1
            have e := SetX.many_le ((wdsOf z).map w1)
            have e2' := SetX.many_all ((wdsOf z).map w1)
            have q := q _ (X11.trans x12)
            have eP : pageB z = decide (((wdsOf z).map w1).Nodup) := by
              unfold pageB
              rw [ea, eb, ec, ed]
              simp only [Bool.true_and]
            rw [eP] at q
            have eQ : decide (V.int ((SetX.many ((wdsOf z).map w1) : Nat) : Int) = V.int (((ps.map V.ref).length : Nat) : Int)) = decide (((wdsOf z).map w1).Nodup) := by
              refine decide_eq_decide.mpr ?_
              rw [List.length_map, lp]
              rw [List.length_map] at e2'
              rw [← e2']
              exact ⟨fun h => by have := V.int.inj h; omega, fun h => by rw [h]⟩
            rw [eQ]
            exact q
end
end LJ
set_option Elab.async false
set_option linter.all false
set_option maxRecDepth 100000
set_option maxHeartbeats 8000000
/-! The law's pages are the texts of good works. -/
namespace LJ
open PySem PySem.Spec L2
/-! numbers that are written as they are read -/
theorem val_snoc (cs : List Nat) (c : Nat) : NumText.digitsVal (cs ++ [c]) = NumText.digitsVal cs * 10 + (c - 48) := by
  unfold NumText.digitsVal
  rw [List.foldl_append]
  rfl
theorem canon : ∀ (n : Nat) (cs : List Nat), cs.length = n + 1 → cs.all dgt = true → (cs[0]? ≠ some 48 ∨ cs = [48]) → TL.numL (NumText.digitsVal cs) = cs
  | 0, cs, hl, hd, _ => by
    match cs, hl, hd with
    | [c], _, hd =>
      have h : dgt c = true := by simpa using hd
      unfold dgt at h
      rw [Bool.and_eq_true, decide_eq_true_eq, decide_eq_true_eq] at h
      have e : NumText.digitsVal [c] = c - 48 := by
        show 0 * 10 + (c - 48) = _
        omega
      rw [e, TL.numL_lt (by omega), show 48 + (c - 48) = c by omega]
  | n + 1, cs, hl, hd, hz => by
    obtain ⟨ini, c, rfl⟩ : ∃ ini c, cs = ini ++ [c] := by
      rcases List.eq_nil_or_concat cs with h | ⟨i, c, h⟩
      · rw [h] at hl
        cases hl
      · exact ⟨i, c, by rw [h, List.concat_eq_append]⟩
    have li : ini.length = n + 1 := by
      rw [List.length_append] at hl
      simp only [List.length_cons, List.length_nil] at hl
      omega
    rw [List.all_append, Bool.and_eq_true] at hd
    have h : dgt c = true := by simpa using hd.2
    unfold dgt at h
    rw [Bool.and_eq_true, decide_eq_true_eq, decide_eq_true_eq] at h
    have h0 : ini[0]? ≠ some 48 := by
      rcases hz with hz | hz
      · rw [List.getElem?_append_left (by omega)] at hz
        exact hz
      · have := congrArg List.length hz
        rw [List.length_append] at this
        simp only [List.length_cons, List.length_nil] at this
        omega
    have ih := canon n ini li hd.1 (.inl h0)
    have pos : 1 ≤ NumText.digitsVal ini := by
      rcases Nat.eq_zero_or_pos (NumText.digitsVal ini) with e | e
      · rw [e, TL.numL_lt (by decide)] at ih
        rw [← ih] at h0
        exact absurd rfl h0
      · exact e
    rw [val_snoc, TL.numL_step (by omega), show (NumText.digitsVal ini * 10 + (c - 48)) / 10 = NumText.digitsVal ini by omega, ih, show 48 + (NumText.digitsVal ini * 10 + (c - 48)) % 10 = c by omega]
theorem num_rdN {z : Str} {i : Int} (h : rdN z = some i) : 0 ≤ i ∧ num i = z := by
  unfold rdN at h
  split at h
  · rename_i ok
    cases h
    refine ⟨Int.natCast_nonneg _, TL.ext_tl ?_⟩
    rw [tl_num (Int.natCast_nonneg _), Int.toNat_natCast]
    unfold rdOk at ok
    rw [Bool.and_eq_true, Bool.and_eq_true, decide_eq_true_eq] at ok
    obtain ⟨l1, z0, dg⟩ := ok
    have zsz : z.cps.toList.length = z.length := rfl
    refine canon (z.cps.toList.length - 1) z.cps.toList (by omega) dg ?_
    by_cases e0 : z.cps.toList[0]? = some 48
    · right
      rw [decide_eq_true e0, Bool.true_and] at z0
      have : z = Str.ofString "0" := by
        cases e : decide (z = Str.ofString "0") with
        | true => exact of_decide_eq_true e
        | false => rw [e] at z0; cases z0
      rw [this]
      decide +kernel
    · exact .inl e0
  · cases h
theorem fig_num {z : Str} {m : Int} (h : 0 ≤ fig z m) : num (fig z m) = z ∧ fig z m ≤ m := by
  unfold fig at h ⊢
  cases e : rdN z with
  | none =>
    rw [e] at h
    exact absurd (show (0 : Int) ≤ -1 from h) (by decide)
  | some i =>
    rw [e] at h
    have h : 0 ≤ (if z.length ≤ 14 ∧ i ≤ m then i else -1) := h
    show num (if z.length ≤ 14 ∧ i ≤ m then i else -1) = z ∧ (if z.length ≤ 14 ∧ i ≤ m then i else -1) ≤ m
    split at h
    · rename_i c
      rw [if_pos c]
      exact ⟨(num_rdN e).2, c.2⟩
    · exact absurd h (by decide)
theorem num_fig {i m : Int} (h0 : 0 ≤ i) (h1 : i ≤ m) (h2 : m ≤ 1000000000000) : fig (num i) m = i := by
  unfold fig
  rw [rdN_num h0]
  show (if (num i).length ≤ 14 ∧ i ≤ m then i else -1) = i
  have := num_len13 h0 (Int.le_trans h1 h2)
  rw [if_pos ⟨by omega, h1⟩]
/-! a split text joined again -/
theorem spl_join {c : Nat} : ∀ (L acc : List Nat), TL.joinL [c] (TL.spl [c] 0 acc L) = acc ++ L
  | [], acc => by
    rw [TL.spl.eq_1]
    simp [TL.joinL]
  | d :: r, acc => by
    rw [TL.spl.eq_2]
    split
    · rename_i hp
      have ih := spl_join (c := c) r []
      have ne := spl_ne [c] r ([c].length - 1) []
      have e : d = c := by
        unfold TL.pre at hp
        first | exact (by simpa [TL.pre] using hp : c = d).symm | exact (by simpa [TL.pre] using hp : d = c)
      have k0 : ([c].length - 1) = 0 := rfl
      rw [k0] at ne ⊢
      cases es : TL.spl [c] 0 [] r with
      | nil => exact absurd es ne
      | cons x xs =>
        rw [es] at ih
        show acc ++ ([c] ++ TL.joinL [c] (x :: xs)) = _
        rw [ih, e]
        simp
    · have ih := spl_join (c := c) r (acc ++ [d])
      rw [ih]
      simp
theorem join_split {x y : Str} {c : Nat} (hy : TL.tl y = [c]) (h : c < 256) : Txt.join y (Txt.split x y) = x := by
  apply TL.ext_tl
  rw [tl_join2, hy, split_spl1 hy h, spl_join]
  rfl
end LJ
set_option Elab.async false
set_option linter.all false
set_option maxRecDepth 100000
set_option maxHeartbeats 8000000
/-! A page is right if it is the text of good works. -/
namespace LJ
open PySem PySem.Spec L2
/-- a right line of works with so many stuffs -/
def lnOkM (m : Int) : Ln → Prop
  | .m r => isW r.1 = true ∧ 0 ≤ r.2.1 ∧ r.2.1 ≤ r.2.2 ∧ r.2.2 ≤ 1000
  | .c r => isW r.1 = true ∧ 0 ≤ r.2.1 ∧ r.2.1 ≤ r.2.2 ∧ r.2.2 ≤ 1000
  | .s r => isW r.1 = true ∧ 0 ≤ r.2 ∧ r.2 ≤ 1000000000000
  | .p r => isW r.1 = true ∧ (r.2.length : Int) = m ∧ ∀ b ∈ r.2, Small b
def lnN : Ln → Str
  | .m r => r.1
  | .c r => r.1
  | .s r => r.1
  | .p r => r.1
def rank : Ln → Nat
  | .m _ => 0
  | .c _ => 1
  | .s _ => 2
  | .p _ => 3
theorem k_ne6 : kM ≠ kC ∧ kM ≠ kS ∧ kM ≠ kP ∧ kC ≠ kS ∧ kC ≠ kP ∧ kS ≠ kP := by decide +kernel
theorem rank_ix (x : Ln) : ordIx (lnK x) = rank x := by
  cases x
  · show ordIx kM = 0
    decide +kernel
  · show ordIx kC = 1
    decide +kernel
  · show ordIx kS = 2
    decide +kernel
  · show ordIx kP = 3
    decide +kernel
theorem prB_of {ws : List Str} {m : Int} (h : prB ws m = true) : ∃ i j : Int, ws = [num i, num j] ∧ 0 ≤ i ∧ i ≤ j ∧ j ≤ m := by
  match ws, h with
  | [a, b], h =>
    have h : (decide (0 ≤ fig a m) && decide (fig a m ≤ fig b m)) = true := h
    rw [Bool.and_eq_true, decide_eq_true_eq, decide_eq_true_eq] at h
    obtain ⟨h1, h2⟩ := h
    obtain ⟨ea, la⟩ := fig_num h1
    obtain ⟨eb, lb⟩ := fig_num (Int.le_trans h1 h2)
    exact ⟨fig a m, fig b m, by rw [ea, eb], h1, h2, lb⟩
theorem prB_num {i j m : Int} (h0 : 0 ≤ i) (h1 : i ≤ j) (h2 : j ≤ m) (h3 : m ≤ 1000000000000) : prB [num i, num j] m = true := by
  show (decide (0 ≤ fig (num i) m) && decide (fig (num i) m ≤ fig (num j) m)) = true
  rw [num_fig h0 (Int.le_trans h1 h2) h3, num_fig (Int.le_trans h0 h1) h2 h3, decide_eq_true h0, decide_eq_true h1]
  rfl
theorem pairs_of : ∀ {r : List Str}, (r.all fun w => prB (Txt.split w hy) 1000000000000) = true → ∃ bs : List (Int × Int), r = bs.map bword ∧ ∀ b ∈ bs, Small b
  | [], _ => ⟨[], rfl, fun _ h => nomatch h⟩
  | w :: r, h => by
    rw [List.all_cons, Bool.and_eq_true] at h
    obtain ⟨bs, e, ok⟩ := pairs_of h.2
    obtain ⟨i, j, e2, h0, h1, h2⟩ := prB_of h.1
    refine ⟨(i, j) :: bs, ?_, fun b hb => ?_⟩
    · rw [List.map_cons, ← e]
      congr 1
      rw [bword_join, ← e2]
      exact (join_split (c := 45) tl_hy (by decide)).symm
    · rcases List.mem_cons.mp hb with rfl | hb
      · exact ⟨h0, h1, h2⟩
      · exact ok b hb
def stB : List Str → Bool
  | [a] => decide (0 ≤ fig a 1000000000000)
  | _ => false
theorem lineB_eq {k n : Str} {r : List Str} {m : Int} : lineB (k :: n :: r) m = (isW n && (if k = kM ∨ k = kC then prB r 1000 else if k = kS then stB r else decide ((r.length : Int) = m) && r.all fun w => prB (Txt.split w hy) 1000000000000)) := by
  match r with
  | [] => rfl
  | [_] => rfl
  | _ :: _ :: _ => rfl
theorem line_of {ws : List Str} {m : Int} (hk : ordL.contains (ws.getD 0 Str.empty) = true) (h : lineB ws m = true) : ∃ x : Ln, ws = lnK x :: lnW x ∧ lnOkM m x := by
  obtain ⟨d1, d2, d3, d4, d5, d6⟩ := k_ne6
  match ws, h, hk with
  | k :: n :: r, h, hk =>
    have hm : k ∈ ordL := by simpa using hk
    rw [lineB_eq] at h
    rw [Bool.and_eq_true] at h
    obtain ⟨hn, h⟩ := h
    unfold ordL at hm
    simp only [List.mem_cons, List.not_mem_nil, or_false] at hm
    rcases hm with rfl | rfl | rfl | rfl
    · rw [if_pos (.inl rfl)] at h
      obtain ⟨i, j, rfl, h0, h1, h2⟩ := prB_of h
      exact ⟨.m (n, i, j), rfl, hn, h0, h1, h2⟩
    · rw [if_pos (.inr rfl)] at h
      obtain ⟨i, j, rfl, h0, h1, h2⟩ := prB_of h
      exact ⟨.c (n, i, j), rfl, hn, h0, h1, h2⟩
    · rw [if_neg (fun z => z.elim d2.symm d4.symm), if_pos rfl] at h
      match r, h with
      | [a], h =>
        have h : 0 ≤ fig a 1000000000000 := of_decide_eq_true h
        obtain ⟨ea, la⟩ := fig_num h
        exact ⟨.s (n, fig a 1000000000000), by show [kS, n, a] = [kS, n, num _]; rw [ea], hn, h, la⟩
    · rw [if_neg (fun z => z.elim d3.symm d5.symm), if_neg d6.symm, Bool.and_eq_true, decide_eq_true_eq] at h
      obtain ⟨bs, rfl, ok⟩ := pairs_of h.2
      refine ⟨.p (n, bs), rfl, hn, ?_, ok⟩
      have := h.1
      rw [List.length_map] at this
      exact this
theorem lines_of {m : Int} : ∀ {wss : List (List Str)}, (∀ ws ∈ wss, ordL.contains (ws.getD 0 Str.empty) = true ∧ lineB ws m = true) → ∃ xs : List Ln, wss = xs.map (fun x => lnK x :: lnW x) ∧ ∀ x ∈ xs, lnOkM m x
  | [], _ => ⟨[], rfl, fun _ h => nomatch h⟩
  | ws :: wss, h => by
    obtain ⟨x, e, ok⟩ := line_of (h ws (List.mem_cons_self ..)).1 (h ws (List.mem_cons_self ..)).2
    obtain ⟨xs, e2, ok2⟩ := lines_of fun u hu => h u (List.mem_cons_of_mem _ hu)
    exact ⟨x :: xs, by rw [List.map_cons, ← e, ← e2], fun y hy => by
      rcases List.mem_cons.mp hy with rfl | hy
      · exact ok
      · exact ok2 y hy⟩
def wOf (xs : List Ln) : Wd := ⟨xs.filterMap getM, xs.filterMap getC, xs.filterMap getS, xs.filterMap getP⟩
theorem fm_nil {β : Type} {g : Ln → Option β} {xs : List Ln} (h : ∀ x ∈ xs, g x = none) : xs.filterMap g = [] := by
  induction xs with
  | nil => rfl
  | cons a r ih => rw [List.filterMap_cons, h a (List.mem_cons_self ..)]; exact ih fun x hx => h x (List.mem_cons_of_mem _ hx)
theorem sort4 : ∀ {xs : List Ln}, xs.Pairwise (fun a b => rank a ≤ rank b) → lns (wOf xs) = xs
  | [], _ => rfl
  | a :: r, h => by
    obtain ⟨ha, hr⟩ := List.pairwise_cons.mp h
    have ih := sort4 hr
    unfold lns wOf at ih ⊢
    have nM : 1 ≤ rank a → r.filterMap getM = [] := fun l => fm_nil fun x hx => by
      have := ha x hx
      cases x <;> first | rfl | (exact absurd this (by show ¬ rank a ≤ 0; omega))
    have nC : 2 ≤ rank a → r.filterMap getC = [] := fun l => fm_nil fun x hx => by
      have := ha x hx
      cases x <;> first | rfl | (exact absurd this (by show ¬ rank a ≤ 1; omega))
    have nS : 3 ≤ rank a → r.filterMap getS = [] := fun l => fm_nil fun x hx => by
      have := ha x hx
      cases x <;> first | rfl | (exact absurd this (by show ¬ rank a ≤ 2; omega))
    simp only at ih
    cases a with
    | m q =>
      show (Ln.m q) :: ((r.filterMap getM).map Ln.m) ++ (r.filterMap getC).map Ln.c ++ (r.filterMap getS).map Ln.s ++ (r.filterMap getP).map Ln.p = _
      rw [List.cons_append, List.cons_append, List.cons_append, ih]
    | c q =>
      rw [nM (Nat.le_refl 1)] at ih
      show (r.filterMap getM).map Ln.m ++ (Ln.c q :: (r.filterMap getC).map Ln.c) ++ (r.filterMap getS).map Ln.s ++ (r.filterMap getP).map Ln.p = _
      rw [nM (Nat.le_refl 1)]
      simp only [List.map_nil, List.nil_append, List.cons_append] at ih ⊢
      rw [ih]
    | s q =>
      have l : 1 ≤ rank (.s q) := by show 1 ≤ 2; decide
      rw [nM l, nC (Nat.le_refl 2)] at ih
      show (r.filterMap getM).map Ln.m ++ (r.filterMap getC).map Ln.c ++ (Ln.s q :: (r.filterMap getS).map Ln.s) ++ (r.filterMap getP).map Ln.p = _
      rw [nM l, nC (Nat.le_refl 2)]
      simp only [List.map_nil, List.nil_append, List.cons_append] at ih ⊢
      rw [ih]
    | p q =>
      have l1 : 1 ≤ rank (.p q) := by show 1 ≤ 3; decide
      have l2 : 2 ≤ rank (.p q) := by show 2 ≤ 3; decide
      rw [nM l1, nC l2, nS (Nat.le_refl 3)] at ih
      show (r.filterMap getM).map Ln.m ++ (r.filterMap getC).map Ln.c ++ (r.filterMap getS).map Ln.s ++ (Ln.p q :: (r.filterMap getP).map Ln.p) = _
      rw [nM l1, nC l2, nS (Nat.le_refl 3)]
      simp only [List.map_nil, List.nil_append, List.cons_append] at ih ⊢
      rw [ih]
theorem cnt_of : ∀ xs : List Ln, (xs.map lnK).count kM = (xs.filterMap getM).length ∧ (xs.map lnK).count kC = (xs.filterMap getC).length ∧ (xs.map lnK).count kS = (xs.filterMap getS).length ∧ (xs.map lnK).count kP = (xs.filterMap getP).length
  | [] => ⟨rfl, rfl, rfl, rfl⟩
  | a :: r => by
    obtain ⟨d1, d2, d3, d4, d5, d6⟩ := k_ne6
    obtain ⟨i1, i2, i3, i4⟩ := cnt_of r
    cases a with
    | m q => 
      show (kM :: r.map lnK).count kM = (q :: r.filterMap getM).length ∧ (kM :: r.map lnK).count kC = (r.filterMap getC).length ∧ (kM :: r.map lnK).count kS = (r.filterMap getS).length ∧ (kM :: r.map lnK).count kP = (r.filterMap getP).length
      rw [List.count_cons_self, List.count_cons_of_ne d1, List.count_cons_of_ne d2, List.count_cons_of_ne d3, i1, i2, i3, i4]
      exact ⟨rfl, rfl, rfl, rfl⟩
    | c q =>
      show (kC :: r.map lnK).count kM = (r.filterMap getM).length ∧ (kC :: r.map lnK).count kC = (q :: r.filterMap getC).length ∧ (kC :: r.map lnK).count kS = (r.filterMap getS).length ∧ (kC :: r.map lnK).count kP = (r.filterMap getP).length
      rw [List.count_cons_self, List.count_cons_of_ne d1.symm, List.count_cons_of_ne d4, List.count_cons_of_ne d5, i1, i2, i3, i4]
      exact ⟨rfl, rfl, rfl, rfl⟩
    | s q =>
      show (kS :: r.map lnK).count kM = (r.filterMap getM).length ∧ (kS :: r.map lnK).count kC = (r.filterMap getC).length ∧ (kS :: r.map lnK).count kS = (q :: r.filterMap getS).length ∧ (kS :: r.map lnK).count kP = (r.filterMap getP).length
      rw [List.count_cons_self, List.count_cons_of_ne d2.symm, List.count_cons_of_ne d4.symm, List.count_cons_of_ne d6, i1, i2, i3, i4]
      exact ⟨rfl, rfl, rfl, rfl⟩
    | p q =>
      show (kP :: r.map lnK).count kM = (r.filterMap getM).length ∧ (kP :: r.map lnK).count kC = (r.filterMap getC).length ∧ (kP :: r.map lnK).count kS = (r.filterMap getS).length ∧ (kP :: r.map lnK).count kP = (q :: r.filterMap getP).length
      rw [List.count_cons_self, List.count_cons_of_ne d3.symm, List.count_cons_of_ne d5.symm, List.count_cons_of_ne d6.symm, i1, i2, i3, i4]
      exact ⟨rfl, rfl, rfl, rfl⟩
theorem names_lns (W : Wd) : (lns W).map lnN = W.ms.map (·.1) ++ (W.cs.map (·.1) ++ (W.ss.map (·.1) ++ W.ps.map (·.1))) := by
  unfold lns
  simp only [List.map_append, List.map_map, List.append_assoc]
  rfl
theorem lnOk_of {W : Wd} (g : GoodF W) : ∀ x ∈ lns W, lnOkM (W.ss.length : Nat) x := fun x hx => by
  have ok := lns_ok g x hx
  cases x with
  | m r => exact ok
  | c r => exact ok
  | s r => exact ok
  | p r =>
    refine ⟨ok.1, ?_, ok.2.2⟩
    have : r ∈ W.ps := by
      rw [← lns_p W]
      exact List.mem_filterMap.mpr ⟨_, hx, rfl⟩
    rw [(g.pb r this).1]
theorem lineB_of {m : Int} {x : Ln} (h : lnOkM m x) : lineB (lnK x :: lnW x) m = true := by
  obtain ⟨d1, d2, d3, d4, d5, d6⟩ := k_ne6
  cases x with
  | m r =>
    obtain ⟨h1, h2, h3, h4⟩ := h
    show (isW r.1 && (if kM = kM ∨ kM = kC then prB [num r.2.1, num r.2.2] 1000 else _)) = true
    rw [h1, if_pos (.inl rfl), prB_num h2 h3 h4 (by decide)]
    rfl
  | c r =>
    obtain ⟨h1, h2, h3, h4⟩ := h
    show (isW r.1 && (if kC = kM ∨ kC = kC then prB [num r.2.1, num r.2.2] 1000 else _)) = true
    rw [h1, if_pos (.inr rfl), prB_num h2 h3 h4 (by decide)]
    rfl
  | s r =>
    obtain ⟨h1, h2, h3⟩ := h
    show (isW r.1 && (if kS = kM ∨ kS = kC then _ else if kS = kS then decide (0 ≤ fig (num r.2) 1000000000000) else _)) = true
    rw [h1, if_neg (fun z => z.elim d2.symm d4.symm), if_pos rfl, num_fig h2 h3 (Int.le_refl _), decide_eq_true h2]
    rfl
  | p r =>
    obtain ⟨h1, h2, h3⟩ := h
    show (isW r.1 && (if kP = kM ∨ kP = kC then _ else if kP = kS then _ else decide (((r.2.map bword).length : Int) = m) && (r.2.map bword).all fun w => prB (Txt.split w hy) 1000000000000)) = true
    rw [h1, if_neg (fun z => z.elim d3.symm d5.symm), if_neg d6.symm, List.length_map, decide_eq_true h2, Bool.true_and, Bool.true_and, List.all_eq_true]
    intro w hw
    obtain ⟨b, hb, rfl⟩ := List.mem_map.mp hw
    have s := h3 b hb
    rw [show Txt.split (bword b) hy = [num b.1, num b.2] from split_bword s]
    exact prB_num s.1 s.2.1 s.2.2 (Int.le_refl _)
theorem w1_ln (x : Ln) : w1 (lnK x :: lnW x) = lnN x := by
  cases x <;> rfl
theorem lns_rank (W : Wd) : (lns W).Pairwise (fun a b => rank a ≤ rank b) := by
  unfold lns
  refine List.pairwise_append.mpr ⟨List.pairwise_append.mpr ⟨List.pairwise_append.mpr ⟨?_, ?_, ?_⟩, ?_, ?_⟩, ?_, ?_⟩
  · exact List.pairwise_map.mpr (List.pairwise_iff_forall_sublist.mpr fun _ => Nat.le_refl 0)
  · exact List.pairwise_map.mpr (List.pairwise_iff_forall_sublist.mpr fun _ => Nat.le_refl 1)
  · intro a ha b hb
    obtain ⟨r, _, rfl⟩ := List.mem_map.mp ha
    exact Nat.zero_le _
  · exact List.pairwise_map.mpr (List.pairwise_iff_forall_sublist.mpr fun _ => Nat.le_refl 2)
  · intro a ha b hb
    obtain ⟨q, _, rfl⟩ := List.mem_map.mp hb
    rcases List.mem_append.mp ha with ha | ha
    · obtain ⟨r, _, rfl⟩ := List.mem_map.mp ha
      exact Nat.zero_le _
    · obtain ⟨r, _, rfl⟩ := List.mem_map.mp ha
      show 1 ≤ 2
      decide
  · exact List.pairwise_map.mpr (List.pairwise_iff_forall_sublist.mpr fun _ => Nat.le_refl 3)
  · intro a ha b hb
    obtain ⟨q, _, rfl⟩ := List.mem_map.mp hb
    show rank a ≤ 3
    cases a <;> (first | (show 0 ≤ 3; decide) | (show 1 ≤ 3; decide) | (show 2 ≤ 3; decide) | (show 3 ≤ 3; decide))
end LJ
set_option Elab.async false
set_option linter.all false
set_option maxRecDepth 100000
set_option maxHeartbeats 4000000
/-! Own errors whose context is told: none. Raised, also in an except suite from None. -/
namespace L2
open PySem PySem.Spec PyProof.Rows PySem.ErrV
section
variable {X : Cx} {C fI : Addr} {x f : Str} {B nw ini : String} {bmB : List Value} {a : Expr} {p pos : Pos} {ta : TA}
theorem pmk5_err (hf : f = "given" ∨ f = "index") (T : ErrC X.K X.mg x f C fI nw bmB) (Bo : BaseOk B nw ini bmB) (exC : PySem.W.subIn X.K (.ref C) (.type "BaseException") = some true) (tyC : PySem.W.typeIn X.K (.ref C) = some (.type "type"))
    (hr : X.A.depth + 3 * 1 + 5 < recursionLimit) (ha : PA X [a] ta) (hg : Gl X x) (hdb : (x == ("__debug__" : Str)) = false := by decide)
    (he : starEach (a :: []) X.env = (false, eval a X.env) :: starEach [] X.env := by rfl) (hpl : (backTo pos (starEach [] X.env)).any (·.1) = false := by rfl) :
    L2H.PMk5 X (.Call (.Name x p) [a] [] pos) (tMkE C f ta) := by
  intro pins s σ H Q I h
  refine wpAny_Call_Name_kw (ld_glob I hg T.gC ?_ hdb)
  refine PySem.W.callWith_K (h₀ := X.base) I.ok.mod.kin T.kC (thn (ha.run pos pins s σ H _ I h) fun us s1 hh => ?_) he hpl
  obtain ⟨vs, H1, I1, r1, v, ev, q1⟩ := hh
  subst ev
  refine ⟨I1.kIn, ?_⟩
  cases r1 with
  | cons rv rn =>
    rename_i u us
    cases rn
    show wpAny _ _ (call (.ref C) [u]) _ _ _
    have lim := I1.nolimit
    obtain ⟨hp, g, dr, tk, os⟩ := s1
    refine wpAny_call (err_made hf T Bo (v := u) (.inl ⟨rfl, rfl⟩) I1.kIn lim (by omega) fun h1 tk1 e d M => ?_)
    show L2N.MkP X pins σ Q (.ref e) ⟨h1, g, dr, tk1, os⟩ ∧ _
    obtain ⟨uo, hoe⟩ := M.obj
    have hns := M.ns
    obtain ⟨G1, g1, g2⟩ := restrict h1 fun b => decide (b ≠ e)
    have gk : ∀ b, b ≠ e → G1.get? b = h1.get? b := fun b hb => g1 b (decide_eq_true hb)
    have ge : G1.get? e = none := g2 e (by simp)
    have old : ∀ b o, hp.get? b = some o → G1.get? b = some o := fun b o q => (gk b (Nat.ne_of_lt (Nat.lt_of_lt_of_le (Heap.lt_size q) M.big))).trans (M.keep b o q)
    have ob : ObjOk X.prog X.w (upd H1 d (.xd [(f, v)])) G1 d (.xd [(f, v)]) :=
      ⟨_, hns.at (fun o q => (gk d M.ne).trans q), relO_put (fs := []) rv fun g => True.intro⟩
    have J : Inv X pins σ (upd H1 d (.xd [(f, v)])) ⟨G1, g, dr, tk1, os⟩ := I1.laid (t' := tk1) old M.dbig ob
    refine ⟨⟨e, _, _, ⟨G1, g, dr, tk1, os⟩, _, .ref C, some d, rfl, J, fun b o q => ?_, ge, hoe, ⟨rfl, rfl, fun vs hv => by cases hv; rfl⟩, rfl, rfl, ?_, rfl, I1.bare, raises_own exC tyC, q1 d (I1.hok.fresh M.dbig)⟩, fun a2 oe2 vs2 e1 e2 e3 => ?_⟩
    · by_cases hb : b = e
      · have q2 : G1.get? b = some o := q
        rw [hb, ge] at q2
        cases q2
      · exact (gk b hb).symm.trans q
    · rw [upd_ne (Ne.symm M.ne)]
      exact I1.hok.fresh M.big
    · cases e1
      have e2 : h1.get? e = some oe2 := e2
      rw [hoe] at e2
      cases e2
      cases e3
      show 4 < 6
      decide
theorem ps_raiseEN {W : WX} {pos2 : Pos} (hc : X.calm = true) (hf : f = "given" ∨ f = "index") (T : ErrC X.K X.mg x f C fI nw bmB) (Bo : BaseOk B nw ini bmB) (exC : PySem.W.subIn X.K (.ref C) (.type "BaseException") = some true) (tyC : PySem.W.typeIn X.K (.ref C) = some (.type "type"))
    (hr : Room 1 X.A) (tk : L2N.Takes X W) (ha : PA X [a] ta) (hg : Gl X x) (hdb : (x == ("__debug__" : Str)) = false := by decide)
    (he : starEach (a :: []) X.env = (false, eval a X.env) :: starEach [] X.env := by rfl) (hpl : (backTo pos (starEach [] X.env)).any (·.1) = false := by rfl) :
    PS X (.Raise (some (.Call (.Name x p) [a] [] pos)) none pos2) (fun _ σ H => tMkE C f ta σ H fun cls d H1 => W cls d σ H1) := L2N.ps_raise hc tk (pmk5_err hf T Bo exC tyC (by have := hr.dp; omega) ha hg hdb he hpl).pmk
end
theorem Fun.okC {CX : CXT} {P : Program} {w : World} {K : PySem.W.Frag} {mg : Str → Option Value} {base : Heap} {x qual : Str} {st : Stmt} {f : Addr} {fd : FuncData} {N ps : List Str} {k : Nat} {sp : Sp} (F : Fun K x qual st f fd) (S : FnScope N ps (defScope st)) (len : ∀ vs H Q E, sp vs H Q E → vs.length = ps.length)
    (hb : ∀ (cdv : Value) (A : Around) (outer : List Env) (s : Shared) (H : Hp) (vs : List V) (Q : VK) (E : XK), Room k (A.deeper (envOfC qual (defScope st) s.heap.objs.size f cdv)) → sp vs H Q E →
      ∃ t, PSs (cxOf CX P w K mg base N qual (defScope st) f cdv A outer s H E) (defBody st) t ∧ t { nx := fun _ H' => Q V.non H', rt := Q } (L2.start N vs) H) : FnOk P w K mg base CX (k + 1) f fd ps sp := by
  obtain ⟨oc, od, kV, doc, pm, an, cdv, ct, osl, rfl, lk, hcd⟩ := F.ex
  exact fn_of lk hcd S len fun A outer s H vs Q E hr h => hb cdv A outer s H vs Q E hr h
section
variable {X : Cx} {CX : CXT} {k : Nat} {f C : Addr} {fd : FuncData} {ps : List Str} {sp : Sp} {E : St → XK} {x : Str} {p pos : Pos} {e : PySem.Expr} {es : List PySem.Expr} {t : TA}
/-- C(..) whose error is passed on with what the slots hold -/
def tMakeS (C : Addr) (sp : Sp) (E : St → XK) (t : TA) : TE := fun σ H Q => t σ H fun vs H1 => ∀ (x dx : Addr), H1 x = none → H1 dx = none → dx ≠ x → sp (V.ref x :: vs) (upd (upd H1 dx (.own x)) x (.ins C dx [])) (fun v H2 => v = V.non ∧ Q (V.ref x) H2) (E σ)
theorem run_makeS {pins : List (Addr × Obj)} {σ : St} {H : Hp} {s : Shared} {Q : VK} {us : List Value} {vs : List V} {E : XK} (M : Mk X.K C f) (F : FnOk X.prog X.w X.K X.mg X.base CX k f fd ps sp) (hr : Room (k + 1) X.A) (hb : Binds X.K fd ps []) (hx : PassesAt CX X σ E) (I : Inv X pins σ H s) (r : Vals vs us)
    (h : ∀ (x dx : Addr), H x = none → H dx = none → dx ≠ x → sp (V.ref x :: vs) (upd (upd H dx (.own x)) x (.ins C dx [])) (fun v H2 => v = V.non ∧ Q (V.ref x) H2) E) : wpAny (model X.prog X.w) X.A (call (.ref C) us) (EP X pins σ Q) X.xe s := by
  have hq := h (s.heap.objs.size + 1) s.heap.objs.size (HOk.fresh I.hok (Nat.le_succ _)) (HOk.fresh I.hok (Nat.le_refl _)) (Nat.ne_of_lt (Nat.lt_succ_self _))
  have I2 := Inv.made (C := C) I
  have r2 : Vals (V.ref (s.heap.objs.size + 1) :: vs) (Value.ref (s.heap.objs.size + 1) :: us) := .cons rfl r
  have hl : (Value.ref (s.heap.objs.size + 1) :: us).length = ps.length := by
    rw [← F.len _ _ _ _ hq]
    exact (Vals.length r2).symm
  have hb2 := hb { s with heap := (s.heap.push PySem.W.emptyDict).push (PySem.W.instObj C s.heap.objs.size) } (Value.ref (s.heap.objs.size + 1) :: us) I2.kIn (by rw [List.append_nil]; exact hl)
  rw [List.append_nil] at hb2
  refine wpAny_call (make_map I.kIn M.makes M.init (beq_iff_eq.mp M.fn) (codeAny_mono (F.run (X.A.under (.builtin "type.__call__" { pos := .ref C :: us })) X.stack _ _ { pos := .ref (s.heap.objs.size + 1) :: us } (.ref (s.heap.objs.size + 1) :: us) (.ref (s.heap.objs.size + 1) :: vs) _ E (Room.make hr C us []) (Env0.make I2.env0 C us []) hb2 r2 hq) fun r s' hq' => ?_))
  cases r with
  | error e => exact hx pins _ _ e s' I2 hq'
  | ok fl =>
    cases fl with
    | ret u =>
      obtain ⟨v, H', I3, rv, ev, q3⟩ := I2.after hq'
      subst ev
      have eu : u = .none := rv
      subst eu
      exact ⟨rfl, .ref _, H', I3, rfl, q3⟩
    | next => exact False.elim hq'
    | brk => exact False.elim hq'
    | cont => exact False.elim hq'
theorem pe_makeS (M : Mk X.K C f) (F : FnOk X.prog X.w X.K X.mg X.base CX k f fd ps sp) (hr : Room (k + 1) X.A) (hg : Gl X x) (hm : X.mg x = some (.ref C)) (hb : Binds X.K fd ps []) (hx : ∀ σ, PassesAt CX X σ (E σ)) (ha : PA X (e :: es) t) (hdb : (x == ("__debug__" : Str)) = false := by decide)
    (he : starEach (e :: es) X.env = (false, eval e X.env) :: starEach es X.env := by rfl) (hpl : (backTo pos (starEach es X.env)).any (·.1) = false := by rfl) : PE X (.Call (.Name x p) (e :: es) [] pos) (tMakeS C sp E t) :=
  ⟨fun pins s σ H Q I h => wpAny_Call_Name_kw (ld_glob I hg hm (PySem.W.callWith_K I.ok.mod.kin M.kp (thn (ha.run pos pins s σ H _ I h) fun us s1 z => by
    obtain ⟨vs, H1, I1, r, q⟩ := z
    exact ⟨I1.kIn, run_makeS M F hr hb (hx σ) I1 r q⟩) he hpl) hdb)⟩
/-- an error is passed on with what the slots hold -/
theorem passesAtN {W : WX} {E : St → XK} (tk : L2N.Takes X W) (i : ∀ σ cls d H, E σ cls d H → W cls d σ H) : ∀ σ, PassesAt (L2N.CX X.prog X.w) X σ (E σ) := fun σ pins H s e s' I h => by
  exact tk e s' (L2N.XE.of_call I (fun cls d H' hh => i σ cls d H' hh) h)
end
end L2
set_option Elab.async false
set_option linter.all false
set_option maxRecDepth 100000
set_option maxHeartbeats 8000000
/-! _check of works over any known values: all its ways. -/
namespace LJ
open PySem PySem.Spec L2 PySem.ErrV
open LamX (ExtN TabB)
open NdefX (NTab TabsN)
/-- an error with an index -/
structure Er1 (K : PySem.W.Frag) (mg : Str → Option Value) (x : Str) (C : Addr) : Prop where
  c : ∃ fI bm, ErrC K mg x "index" C fI "ValueError.__new__" bm ∧ BaseOk "ValueError" "ValueError.__new__" "ValueError.__init__" bm
  exC : PySem.W.subIn K (.ref C) (.type "BaseException") = some true
  tyC : PySem.W.typeIn K (.ref C) = some (.type "type")
  xf : XfC K C
def namesOf (H : Hp) (x : V) : List Str := ((tupOf H x).getD []).map (nameOf H)
def lenOf (H : Hp) (x : V) : Int := (((tupOf H x).getD []).length : Nat)
/-- the first of the four that is wrong, and where -/
def due4 (H : Hp) (x1 x2 x3 x4 : V) : Option (Nat × V) := match fwOut (onTup sharesOf H) (nameOf H) 1 6 [] (tupOf H x1) with
  | v :: _ => some (0, v)
  | [] => match fwOut (onTup sharesOf H) (nameOf H) 0 6 (namesOf H x1) (tupOf H x2) with
    | v :: _ => some (1, v)
    | [] => match fwOut (onTup limOf H) (nameOf H) 1 3 (namesOf H x1 ++ namesOf H x2) (tupOf H x3) with
      | v :: _ => some (2, v)
      | [] => match fwOut (onTup (contOf H (lenOf H x3)) H) (nameOf H) 1 8 (namesOf H x1 ++ namesOf H x2 ++ namesOf H x3) (tupOf H x4) with
        | v :: _ => some (3, v)
        | [] => none
theorem fw_exN {K : PySem.W.Frag} {H H1 : Hp} {x : V} {R R1 : V → Bool} {few most : Int} {nms : List Str} (k : Kn K H x) (e : ExtN H H1) (h : ∀ xs, tupOf H x = some xs → ∀ v ∈ xs, R1 v = R v ∧ nameOf H1 v = nameOf H v) : fwOut R1 (nameOf H1) few most nms (tupOf H1 x) = fwOut R (nameOf H) few most nms (tupOf H x) := by
  rw [k.tupsN e]
  unfold fwOut
  cases e1 : tupOf H x with
  | none => rfl
  | some xs =>
    simp only
    rw [fwAt_same fun v hv => h xs e1 v hv]
/-- what was let: a tuple of right rows -/
theorem fw_let {R : V → Bool} {nm : V → Str} {few most : Int} {tk : List Str} {o : Option (List V)} (h : fwOut R nm few most tk o = []) : ∃ xs, o = some xs ∧ few ≤ xs.length ∧ fwAt R nm most tk 0 xs = none := by
  unfold fwOut at h
  cases o with
  | none => cases h
  | some xs =>
    simp only at h
    split at h
    · cases h
    · rename_i c
      split at h
      · rename_i e
        exact ⟨xs, rfl, by omega, e⟩
      · cases h
theorem names_of {H : Hp} {a : Addr} {xs : List V} (h : H a = some (.tup xs)) : namesOf H (.ref a) = xs.map (nameOf H) ∧ lenOf H (.ref a) = xs.length := by
  unfold namesOf lenOf
  rw [tup_at h]
  exact ⟨rfl, rfl⟩
theorem fw_two {R : V → Bool} {nm : V → Str} {few most : Int} {tk : List Str} {o : Option (List V)} : fwOut R nm few most tk o = [] ∨ ∃ v, fwOut R nm few most tk o = [v] := by
  unfold fwOut
  cases o with
  | none => exact .inr ⟨_, rfl⟩
  | some xs =>
    simp only
    split
    · exact .inr ⟨_, rfl⟩
    · split
      · exact .inl rfl
      · exact .inr ⟨_, rfl⟩
theorem tup_ref4 {H : Hp} {x : V} {xs : List V} (h : tupOf H x = some xs) : ∃ a, x = .ref a ∧ H a = some (.tup xs) := tup_ref h
theorem Named.exN {H H1 : Hp} {v : V} {n : Str} (h : Named H v n) (e : ExtN H H1) : Named H1 v n := by
  obtain ⟨a, r, e1, e2⟩ := h
  exact ⟨a, r, e1, tup_n e e2⟩
theorem paired_at {H H1 : Hp} (e : ExtN H H1) : ∀ {xs : List V}, (∀ v ∈ xs, Named H v (nameOf H v)) → Paired (Named H1) xs (xs.map (nameOf H))
  | [], _ => .nil
  | x :: xs, h => .cons ((h x (List.mem_cons_self ..)).exN e) (paired_at e fun y hy => h y (List.mem_cons_of_mem _ hy))
def spCheck4 (K : PySem.W.Frag) (ce : Nat → Addr) (T : List NTab) : Sp := fun vs H Q E => ∃ (x1 x2 x3 x4 : V), vs = [x1, x2, x3, x4] ∧ Deep K H 2 x1 ∧ Deep K H 2 x2 ∧ Deep K H 2 x3 ∧ Deep K H 4 x4 ∧ TabsN T H ∧
  (due4 H x1 x2 x3 x4 = none → ∀ am ac as ap xm xc xs xp, x1 = .ref am → x2 = .ref ac → x3 = .ref as → x4 = .ref ap → Fit K H am ac as ap xm xc xs xp → ∀ H1, ExtN H H1 → TabsN T H1 → Q .non H1) ∧
  (∀ k v, due4 H x1 x2 x3 x4 = some (k, v) → ∀ H1 d, ExtN H H1 → TabsN T H1 → H1 d = some (.xd [(("index" : Str), v)]) → E (.ref (ce k)) (some d) H1)
section
variable {P : Program} {w : World} {K : PySem.W.Frag} {mg : Str → Option Value} {base : Heap} {ce : Nat → Addr}
theorem Fun.okXC {P : Program} {w : World} {x qual : Str} {st : Stmt} {f c : Addr} {fd : FuncData} {N ps : List Str} {k : Nat} {sp : Sp} (F : Fun K x qual st f fd) (hc : fd.code = .ref c) (S : FnScope N ps (defScope st)) (len : ∀ vs H Q E, sp vs H Q E → vs.length = ps.length)
    (hbody : ∀ (A : Around) (outer : List Env) (s : Shared) (H : Hp) (vs : List V) (Q : VK) (E : XK), Room k (A.deeper (PyProof.Rows.envOfC qual (defScope st) s.heap.objs.size f (.ref c))) → sp vs H Q E →
      ∃ t, PSs (cxOf (L2.CX P w) P w K mg base N qual (defScope st) f (.ref c) A outer s H E) (defBody st) t ∧ t { nx := fun _ H1 => Q .non H1, rt := Q } (start N vs) H) : FnOk P w K mg base (L2.CX P w) (k + 1) f fd ps sp := by
  obtain ⟨oc, od, kV, doc, pm, an, cdv, ct, osl, rfl, lk, hcd⟩ := F.ex
  obtain rfl : cdv = .ref c := hc
  exact fn_of lk hcd S len fun A outer s H vs Q E hr hsp => hbody A outer s H vs Q E hr hsp
theorem ok_check4 {f fF fS fL fC c Pt : Addr} {fd fdF fdC : FuncData} {u1 u2 u3 u4 : Value} {T : List NTab} (F : Fun K "_check" "_check" sCheck f fd) (hcode : fd.code = .ref c) (TB : TabB base mg c Pt) (inT : (Pt, lamName) ∈ T) (only : ∀ r ∈ T, r.1 = Pt → r.2 = lamName) (B : BltI mg)
    (e0 : Er1 K mg "InvalidMachines" (ce 0)) (e1 : Er1 K mg "InvalidCleanings" (ce 1)) (e2 : Er1 K mg "InvalidStuffs" (ce 2)) (e3 : Er1 K mg "InvalidProducts" (ce 3))
    (FF : Fun K "_first_wrong" "_first_wrong" sFirst fF fdF) (GF : FnOk P w K mg base CX0 4 fF fdF pFirst (spFw K fS fL)) (mF : mg "_first_wrong" = some (.ref fF)) (kF : PySem.W.keepIn K (.ref fF) = true) (bF : Binds K fdF pFirst [])
    (GC : FnOk P w K mg base CX0 3 fC fdC ["row", "many"] (spCont K)) (mC : mg "_has_contents" = some (.ref fC)) (kC : PySem.W.keepIn K (.ref fC) = true) (bC : Binds K fdC ["row", "many"] [])
    (mS : mg "_has_shares" = some (.ref fS)) (mL : mg "_has_limit" = some (.ref fL))
    (m1 : mg "MOST_MACHINES" = some u1) (r1 : RelV (.int 6) u1) (m2 : mg "MOST_CLEANINGS" = some u2) (r2 : RelV (.int 6) u2) (m3 : mg "MOST_STUFFS" = some u3) (r3 : RelV (.int 3) u3) (m4 : mg "MOST_PRODUCTS" = some u4) (r4 : RelV (.int 8) u4) :
    FnOk P w K mg base (L2.CX P w) 6 f fd pCheck (spCheck4 K ce T) := by
  refine Fun.okXC F hcode scCheck (fun vs H Q E h => ?_) (fun A outer s H vs Q E hr h => ?_)
  · obtain ⟨x1, x2, x3, x4, rfl, _⟩ := h
    rfl
  · obtain ⟨x1, x2, x3, x4, rfl, d1, d2, d3, d4, tabs, good, bad⟩ := h
    have hr4 : Room 4 _ := hr.mono (by decide)
    have hr1 : Room 1 _ := hr.mono (by decide)
    obtain ⟨f0, b0, T0, B0⟩ := e0.c
    obtain ⟨f1, b1, T1, B1⟩ := e1.c
    obtain ⟨f2, b2, T2, B2⟩ := e2.c
    obtain ⟨f3, b3, T3, B3⟩ := e3.c
    refine ⟨_, pss_cons (ps_set (i := 4) scCheck.nd rfl (Or.inl rfl) (pe_call GF hr4 (by rfl) mF kF bF .nil pass0 (pa_cons (pv 0) (pa_cons (pe_tup pa_nil) (pa_cons pe_int (pa_cons (pe_glob (by rfl) m1 r1) (pa_cons (pe_glob (v := .ref fS) (by rfl) mS rfl) pa_nil)))))))
      (pss_cons (ps_if (pt_truth (pv 4) (fun _ => rfl)) (pss_one (ps_raiseE rfl (.inr rfl) T0 B0 e0.exC e0.tyC hr1 (takes_of rfl rfl rfl rfl) (pa_cons (pe_ix ix_tup (pv 4) pe_int (fun _ _ => rfl)) pa_nil) (by rfl))) pss_nil)
      (pss_cons (ps_set (i := 4) scCheck.nd rfl (Or.inl rfl) (pe_call GF hr4 (by rfl) mF kF bF .nil pass0 (pa_cons (pv 1) (pa_cons (pv 0) (pa_cons pe_int (pa_cons (pe_glob (by rfl) m2 r2) (pa_cons (pe_glob (v := .ref fS) (by rfl) mS rfl) pa_nil)))))))
      (pss_cons (ps_if (pt_truth (pv 4) (fun _ => rfl)) (pss_one (ps_raiseE rfl (.inr rfl) T1 B1 e1.exC e1.tyC hr1 (takes_of rfl rfl rfl rfl) (pa_cons (pe_ix ix_tup (pv 4) pe_int (fun _ _ => rfl)) pa_nil) (by rfl))) pss_nil)
      (pss_cons (ps_set (i := 4) scCheck.nd rfl (Or.inl rfl) (pe_call GF hr4 (by rfl) mF kF bF .nil pass0 (pa_cons (pv 2) (pa_cons (pe_op op_catT (pv 0) (pv 1)) (pa_cons pe_int (pa_cons (pe_glob (by rfl) m3 r3) (pa_cons (pe_glob (v := .ref fL) (by rfl) mL rfl) pa_nil)))))))
      (pss_cons (ps_if (pt_truth (pv 4) (fun _ => rfl)) (pss_one (ps_raiseE rfl (.inr rfl) T2 B2 e2.exC e2.tyC hr1 (takes_of rfl rfl rfl rfl) (pa_cons (pe_ix ix_tup (pv 4) pe_int (fun _ _ => rfl)) pa_nil) (by rfl))) pss_nil)
      (pss_cons (ps_set (i := 5) scCheck.nd rfl (Or.inr rfl) (pe_callB call_len_seq (by rfl) B.len (by decide +kernel) (pa_cons (pv 2) pa_nil)))
      (pss_cons (ps_set (i := 4) scCheck.nd rfl (Or.inl rfl) (pe_fwl (params := lamParams lamE) (body := lamBody lamE) (scope := lamScope lamE) FF B (hr.mono (by decide)) (by rfl) mF kF bF GC mC kC bC rfl (NdefX.ndef_free (sc := defScope sCheck) (fr := ["many"]) (by decide +kernel)) (NdefX.ndef_fr (sc := defScope sCheck) (by decide +kernel)) rfl (NdefX.nscope_by (by decide +kernel)) rfl
          (fun _ _ _ _ _ _ us hl => match us, hl with | [_], _ => rfl)
          (pa_cons (pv 3) (pa_cons (pe_op op_catT (pe_op op_catT (pv 0) (pv 1)) (pv 2)) (pa_cons pe_int (pa_cons (pe_glob (by rfl) m4 r4) (pa_cons (LamV.pe_lam TB rfl inT rfl only rfl (NdefX.ndef_free (sc := defScope sCheck) (fr := ["many"]) (by decide +kernel))) pa_nil)))))))
      (pss_one (ps_if (pt_truth (pv 4) (fun _ => rfl)) (pss_one (ps_raiseE rfl (.inr rfl) T3 B3 e3.exC e3.tyC hr1 (takes_of rfl rfl rfl rfl) (pa_cons (pe_ix ix_tup (pv 4) pe_int (fun _ _ => rfl)) pa_nil) (by rfl))) pss_nil))))))))), ?_⟩
    clear hr4 hr1 hr
    have le0 : ([] : List V).length ≤ sizeLine := Nat.zero_le _
    refine ⟨_, rfl, le0, fun p0 np0 => ?_⟩
    have x0 : Ex H (upd H p0 (.tup [])) := Ex.refl.new np0
    have t0 := TabsN.exs tabs x0
    have h0 : (upd H p0 (.tup [])) p0 = some (.tup []) := upd_same
    generalize upd H p0 (.tup []) = H0 at x0 t0 h0 ⊢
    refine ⟨x1, p0, [], [], 1, 6, fS, sharesOf, rfl, ⟨h0, .nil, by decide, by decide, by decide, by decide⟩, d1.exN x0.n, .inl ⟨rfl, rfl⟩, fun p1 H1 y1 np1 h1 => ?_⟩
    rw [fw_exN d1.kn x0.n (R := onTup sharesOf H) fun xs hx v hv => ⟨onTup_exN (d1.2 xs hx v hv).kn x0.n, nameOf_exN (d1.2 xs hx v hv).kn x0.n⟩] at h1
    have t1 := TabsN.exs t0 y1
    have n1 := x0.trans y1
    rcases fw_two (R := onTup sharesOf H) (nm := nameOf H) (few := 1) (most := 6) (tk := []) (o := tupOf H x1) with z1 | ⟨v, z1⟩
    case inr =>
      rw [z1] at h1
      refine ⟨_, rfl, true, .inr (.inl ⟨_, SqT.of h1, rfl⟩), ?_⟩
      refine ⟨_, rfl, p1, _, 0, v, rfl, rfl, SqT.of h1, atI_nat (j := 0) rfl, ?_⟩
      refine ⟨v, rfl, fun d nd => bad 0 v (by unfold due4; rw [z1]) _ d (n1.new nd).n (t1.ext (Ex.refl.new nd)) upd_same⟩
    rw [z1] at h1
    refine ⟨_, rfl, false, .inr (.inl ⟨[], SqT.of h1, rfl⟩), ?_⟩
    obtain ⟨xm, hx1, lm, w1⟩ := fw_let z1
    obtain ⟨am, rfl, ha⟩ := tup_ref hx1
    obtain ⟨rm, km⟩ := fwAt_all (by decide) w1
    have nm := fun v hv => named_of heads_shares (rm v hv)
    have m1 := (names_of ha).1
    refine ⟨_, rfl, _, rfl, x2, am, xm, xm.map (nameOf H), 0, 6, fS, sharesOf, rfl, ⟨n1 _ _ ha, paired_at n1.n nm, by decide, by decide, by decide, by omega⟩, d2.exN n1.n, .inl ⟨rfl, rfl⟩, fun p2 H2 y2 np2 h2 => ?_⟩
    rw [fw_exN d2.kn n1.n (R := onTup sharesOf H) fun xs hx v hv => ⟨onTup_exN (d2.2 xs hx v hv).kn n1.n, nameOf_exN (d2.2 xs hx v hv).kn n1.n⟩] at h2
    have t2 := TabsN.exs t1 y2
    have n2 := n1.trans y2
    rcases fw_two (R := onTup sharesOf H) (nm := nameOf H) (few := 0) (most := 6) (tk := xm.map (nameOf H)) (o := tupOf H x2) with z2 | ⟨v, z2⟩
    case inr =>
      rw [z2] at h2
      refine ⟨_, rfl, true, .inr (.inl ⟨_, SqT.of h2, rfl⟩), ?_⟩
      refine ⟨_, rfl, p2, _, 0, v, rfl, rfl, SqT.of h2, atI_nat (j := 0) rfl, ?_⟩
      refine ⟨v, rfl, fun d nd => bad 1 v (by unfold due4; rw [z1]; simp only; rw [m1, z2]) _ d (n2.new nd).n (t2.ext (Ex.refl.new nd)) upd_same⟩
    rw [z2] at h2
    refine ⟨_, rfl, false, .inr (.inl ⟨[], SqT.of h2, rfl⟩), ?_⟩
    obtain ⟨xc, hx2, lc, w2⟩ := fw_let z2
    obtain ⟨ac, rfl, hc⟩ := tup_ref hx2
    obtain ⟨rc, kc⟩ := fwAt_all (by decide) w2
    have nc := fun v hv => named_of heads_shares (rc v hv)
    have m2 := (names_of hc).1
    have ne : xm ≠ [] := fun z => by
      rw [z] at lm
      exact absurd lm (by decide)
    have nmc : ∀ v ∈ xm ++ xc, Named H v (nameOf H v) := fun v hv => (List.mem_append.mp hv).elim (nm v) (nc v)
    refine ⟨_, rfl, _, rfl, _, rfl, rd_cat (n2 _ _ ha) (n2 _ _ hc) ne (by omega) fun pc H3 y3 h3 => ?_⟩
    have t3 := TabsN.exs t2 y3
    have n3 := n2.trans y3
    refine ⟨x3, pc, xm ++ xc, (xm ++ xc).map (nameOf H), 1, 3, fL, limOf, rfl, ⟨h3, paired_at n3.n nmc, by decide, by decide, by decide, by rw [List.length_append]; omega⟩, d3.exN n3.n, .inr ⟨rfl, rfl⟩, fun p4 H4 y4 np4 h4 => ?_⟩
    rw [fw_exN d3.kn n3.n (R := onTup limOf H) fun xs hx v hv => ⟨onTup_exN (d3.2 xs hx v hv).kn n3.n, nameOf_exN (d3.2 xs hx v hv).kn n3.n⟩] at h4
    have t4 := TabsN.exs t3 y4
    have n4 := n3.trans y4
    rcases fw_two (R := onTup limOf H) (nm := nameOf H) (few := 1) (most := 3) (tk := (xm ++ xc).map (nameOf H)) (o := tupOf H x3) with z3 | ⟨v, z3⟩
    case inr =>
      rw [z3] at h4
      refine ⟨_, rfl, true, .inr (.inl ⟨_, SqT.of h4, rfl⟩), ?_⟩
      refine ⟨_, rfl, p4, _, 0, v, rfl, rfl, SqT.of h4, atI_nat (j := 0) rfl, ?_⟩
      refine ⟨v, rfl, fun d nd => bad 2 v (by unfold due4; rw [z1]; simp only; rw [m1, z2]; simp only; rw [m2, ← List.map_append, z3]) _ d (n4.new nd).n (t4.ext (Ex.refl.new nd)) upd_same⟩
    rw [z3] at h4
    refine ⟨_, rfl, false, .inr (.inl ⟨[], SqT.of h4, rfl⟩), ?_⟩
    obtain ⟨xs, hx3, ls, w3⟩ := fw_let z3
    obtain ⟨as, rfl, hs⟩ := tup_ref hx3
    obtain ⟨rs, ks⟩ := fwAt_all (by decide) w3
    have ns := fun v hv => named_of heads_lim (rs v hv)
    have m3 := (names_of hs).1
    have l3 := (names_of hs).2
    have n5 : ∀ v ∈ xm ++ xc ++ xs, Named H v (nameOf H v) := fun v hv => (List.mem_append.mp hv).elim (nmc v) (ns v)
    refine ⟨_, rfl, as, xs, rfl, .inr (SqT.of (n4 _ _ hs)), ?_⟩
    refine ⟨_, rfl, _, rfl, _, rfl, rd_cat (n4 _ _ ha) (n4 _ _ hc) ne (by omega) fun pd H5 y5 h5 => ?_⟩
    have t5 := TabsN.exs t4 y5
    have k5 := n4.trans y5
    have ne2 : xm ++ xc ≠ [] := fun z => ne (List.append_eq_nil_iff.mp z).1
    refine ⟨_, rfl, rd_cat h5 (k5 _ _ hs) ne2 (by rw [List.length_append]; omega) fun pe H6 y6 h6 => ?_⟩
    have t6 := TabsN.exs t5 y6
    have k6 := k5.trans y6
    refine ⟨t6, fun fl c1 H7 x7 _ t7 _ efl ec1 => ?_⟩
    have n7 : ExtN H H7 := k6.n.trans x7
    refine ⟨x4, pe, xm ++ xc ++ xs, (xm ++ xc ++ xs).map (nameOf H), 1, 8, xs.length, fl, c1, rfl, ⟨tup_n x7 h6, paired_at n7 n5, by decide, by decide, by decide, by rw [List.length_append, List.length_append]; omega⟩, d4.exN n7, rfl, efl, ec1, fun p8 H8 y8 np8 h8 => ?_⟩
    rw [fw_exN d4.kn n7 (R := onTup (contOf H xs.length) H) fun ys hx v hv => ⟨cont_exN (d4.2 ys hx v hv) n7, nameOf_exN (d4.2 ys hx v hv).kn n7⟩] at h8
    have t8 := TabsN.exs t7 y8
    have n8 : ExtN H H8 := n7.trans y8.n
    have m5 : xm.map (nameOf H) ++ xc.map (nameOf H) ++ xs.map (nameOf H) = (xm ++ xc ++ xs).map (nameOf H) := by
      rw [List.map_append, List.map_append]
    rcases fw_two (R := onTup (contOf H xs.length) H) (nm := nameOf H) (few := 1) (most := 8) (tk := (xm ++ xc ++ xs).map (nameOf H)) (o := tupOf H x4) with z4 | ⟨v, z4⟩
    case inr =>
      rw [z4] at h8
      refine ⟨_, rfl, true, .inr (.inl ⟨_, SqT.of h8, rfl⟩), ?_⟩
      refine ⟨_, rfl, p8, _, 0, v, rfl, rfl, SqT.of h8, atI_nat (j := 0) rfl, ?_⟩
      refine ⟨v, rfl, fun d nd => bad 3 v (by unfold due4; rw [z1]; simp only; rw [m1, z2]; simp only; rw [m2, ← List.map_append, z3]; simp only; rw [List.map_append, m3, l3, m5, z4]) _ d (n8.trans (Ex.refl.new nd).n) (t8.ext (Ex.refl.new nd)) upd_same⟩
    rw [z4] at h8
    refine ⟨_, rfl, false, .inr (.inl ⟨[], SqT.of h8, rfl⟩), ?_⟩
    obtain ⟨xp, hx4, lp, w4⟩ := fw_let z4
    obtain ⟨ap, rfl, hp⟩ := tup_ref hx4
    exact good (by unfold due4; rw [z1]; simp only; rw [m1, z2]; simp only; rw [m2, ← List.map_append, z3]; simp only; rw [List.map_append, m3, l3, m5, z4]) am ac as ap xm xc xs xp rfl rfl rfl rfl
      ⟨ha, hc, hs, hp, d1, d2, d3, d4, by omega, by omega, by omega, w1, w2, w3, w4⟩ H8 n8 t8
end
end LJ
set_option Elab.async false
set_option linter.all false
set_option maxRecDepth 100000
set_option maxHeartbeats 8000000
/-! What the check let is drawn as data. -/
namespace LJ
open PySem PySem.Spec L2
open LamX (ExtN TabB)
open NdefX (NTab TabsN)
theorem paired_of {α : Type} {F : V → α → Prop} : ∀ {xs : List V}, (∀ v ∈ xs, ∃ r, F v r) → ∃ rs, Paired F xs rs
  | [], _ => ⟨[], .nil⟩
  | x :: xs, h => by
    obtain ⟨r, hr⟩ := h x (List.mem_cons_self ..)
    obtain ⟨rs, p⟩ := paired_of fun v hv => h v (List.mem_cons_of_mem _ hv)
    exact ⟨r :: rs, .cons hr p⟩
theorem paired_all {α : Type} {F : V → α → Prop} {G : α → Prop} : ∀ {xs : List V} {rs : List α}, Paired (fun v r => F v r ∧ G r) xs rs → Paired F xs rs ∧ ∀ r ∈ rs, G r
  | _, _, .nil => ⟨.nil, fun _ z => nomatch z⟩
  | _, _, .cons h t => ⟨.cons h.1 (paired_all t).1, fun r hr => (List.mem_cons.mp hr).elim (fun e => e ▸ h.2) ((paired_all t).2 r)⟩
theorem both {a b : Bool} (h : (a && b) = true) : a = true ∧ b = true := by
  cases a <;> cases b <;> first | exact ⟨rfl, rfl⟩ | cases h
theorem w8 {s : Str} (h : isW s = true) : s.length ≤ 8 := by
  unfold isW at h
  exact of_decide_eq_true (both (both h).2).1
theorem bnd_of {m : Int} {xs : List V} (h : bndOf m xs = true) : ∃ i j, xs = [.int i, .int j] ∧ 0 ≤ i ∧ i ≤ j ∧ j ≤ m := by
  match xs, h with
  | [.int i, .int j], h =>
    have h : (decide (0 ≤ i) && (decide (i ≤ j) && decide (j ≤ m))) = true := h
    exact ⟨i, j, rfl, of_decide_eq_true (both h).1, of_decide_eq_true (both (both h).2).1, of_decide_eq_true (both (both h).2).2⟩
theorem str_of : ∀ {y : V}, isN y = true → ∃ s, y = .str s ∧ isW s = true
  | .str s, h => ⟨s, rfl, h⟩
theorem row3_of {H : Hp} {v : V} (h : onTup sharesOf H v = true) : ∃ r, Row3 H v r ∧ Fit3 r := by
  unfold onTup at h
  split at h
  · rename_i xs e
    obtain ⟨a, rfl, ha⟩ := tup_ref e
    match xs, h, ha with
    | [n, x, y], h, ha =>
      have h : (isN n && bndOf 1000 [x, y]) = true := h
      obtain ⟨s, rfl, hs⟩ := str_of (both h).1
      obtain ⟨i, j, e1, i0, ij, j1⟩ := bnd_of (both h).2
      cases e1
      exact ⟨(s, i, j), ⟨a, rfl, ha⟩, w8 hs, i0, ij, by show j ≤ _; omega⟩
  · cases h
theorem row2_of {H : Hp} {v : V} (h : onTup limOf H v = true) : ∃ r, Row2 H v r ∧ Fit2 r := by
  unfold onTup at h
  split at h
  · rename_i xs e
    obtain ⟨a, rfl, ha⟩ := tup_ref e
    match xs, h, ha with
    | [n, .int i], h, ha =>
      have h : (isN n && (decide (0 ≤ i) && decide (i ≤ top12))) = true := h
      obtain ⟨s, rfl, hs⟩ := str_of (both h).1
      exact ⟨(s, i), ⟨a, rfl, ha⟩, w8 hs, of_decide_eq_true (both (both h).2).1, of_decide_eq_true (both (both h).2).2⟩
  · cases h
theorem pair_of {H : Hp} {y : V} (h : isBnd H y top12 = true) : ∃ b, Bnd H y b ∧ Small b := by
  unfold isBnd at h
  split at h
  · rename_i xs e
    obtain ⟨a, rfl, ha⟩ := tup_ref e
    obtain ⟨i, j, rfl, i0, ij, j1⟩ := bnd_of h
    exact ⟨(i, j), ⟨a, rfl, ha⟩, i0, ij, j1⟩
  · cases h
theorem rowP_of {H : Hp} {v : V} {m : Nat} (h : onTup (contOf H m) H v = true) : ∃ r, RowP H v r ∧ r.1.length ≤ 8 ∧ r.2.length = m ∧ ∀ b ∈ r.2, Small b := by
  unfold onTup at h
  split at h
  · rename_i xs e
    obtain ⟨a, rfl, ha⟩ := tup_ref e
    match xs, h, ha with
    | [n, t], h, ha =>
      have h : (isN n && pairsOf H m (tupOf H t)) = true := h
      obtain ⟨s, rfl, hs⟩ := str_of (both h).1
      have h2 := (both h).2
      cases et : tupOf H t with
      | none =>
        rw [et] at h2
        cases h2
      | some ps =>
        rw [et] at h2
        obtain ⟨b, rfl, hb⟩ := tup_ref et
        have h2 : (decide ((ps.length : Int) = m) && ps.all fun y => isBnd H y top12) = true := h2
        have l := of_decide_eq_true (both h2).1
        obtain ⟨rs, p⟩ := paired_of fun y hy => pair_of (List.all_eq_true.mp (both h2).2 y hy)
        obtain ⟨p1, p2⟩ := paired_all p
        have z := Paired.size p1
        exact ⟨(s, rs), ⟨a, b, ps, rfl, ha, hb, p1⟩, w8 hs, by show rs.length = m; omega, p2⟩
  · cases h
/-- works that the check let, as data -/
theorem fit_data {K : PySem.W.Frag} {H : Hp} {am ac as ap : Addr} {xm xc xs xp : List V} (F : Fit K H am ac as ap xm xc xs xp) :
    ∃ W : Wd, Paired (Row3 H) xm W.ms ∧ Paired (Row3 H) xc W.cs ∧ Paired (Row2 H) xs W.ss ∧ Paired (RowP H) xp W.ps ∧ Told W ∧ ∀ p ∈ W.ps, p.2.length = W.ss.length := by
  obtain ⟨a1, b1⟩ := fwAt_all (by decide) F.fm
  obtain ⟨a2, b2⟩ := fwAt_all (by decide) F.fc
  obtain ⟨a3, b3⟩ := fwAt_all (by decide) F.fs
  obtain ⟨a4, b4⟩ := fwAt_all (by decide) F.fp
  obtain ⟨ms, pm⟩ := paired_of fun v hv => row3_of (a1 v hv)
  obtain ⟨cs, pc⟩ := paired_of fun v hv => row3_of (a2 v hv)
  obtain ⟨ss, ps⟩ := paired_of fun v hv => row2_of (a3 v hv)
  obtain ⟨pp, pq⟩ := paired_of fun v hv => rowP_of (a4 v hv)
  obtain ⟨m1, m2⟩ := paired_all pm
  obtain ⟨c1, c2⟩ := paired_all pc
  obtain ⟨s1, s2⟩ := paired_all ps
  obtain ⟨p1, p2⟩ := paired_all pq
  have l1 := Paired.size m1
  have l2 := Paired.size c1
  have l3 := Paired.size s1
  have l4 := Paired.size p1
  refine ⟨⟨ms, cs, ss, pp⟩, m1, c1, s1, p1, ⟨?_, ?_, ?_, ?_, m2, c2, s2, fun r hr => ⟨(p2 r hr).1, ?_, (p2 r hr).2.2⟩⟩, fun r hr => ?_⟩
  · show ms.length ≤ 10
    omega
  · show cs.length ≤ 10
    omega
  · show ss.length ≤ 10
    omega
  · show pp.length ≤ 10
    omega
  · have z := (p2 r hr).2.1
    omega
  · show r.2.length = ss.length
    rw [(p2 r hr).2.1, l3]
end LJ
set_option Elab.async false
set_option linter.all false
set_option maxRecDepth 100000
set_option maxHeartbeats 8000000
/-! Works.__init__ over any known values. -/
namespace LJ
open PySem PySem.Spec L2
open LamX (ExtN TabB)
open NdefX (NTab TabsN)
def spInit4 (K : PySem.W.Frag) (C : Addr) (ce : Nat → Addr) (T : List NTab) : Sp := fun vs H Q E => ∃ (x dx : Addr) (x1 x2 x3 x4 : V), vs = [.ref x, x1, x2, x3, x4] ∧ H x = some (.ins C dx []) ∧ Deep K H 2 x1 ∧ Deep K H 2 x2 ∧ Deep K H 2 x3 ∧ Deep K H 4 x4 ∧ TabsN T H ∧
  (due4 H x1 x2 x3 x4 = none → ∀ H1, (∀ b o, b ≠ x → H b = some o → (∀ ps, o ≠ .tbl ps) → H1 b = some o) → TabsN T H1 → Q .non H1) ∧
  (∀ k v, due4 H x1 x2 x3 x4 = some (k, v) → ∀ H1 d, ExtN H H1 → TabsN T H1 → H1 d = some (.xd [(("index" : Str), v)]) → E (.ref (ce k)) (some d) H1)
section
variable {P : Program} {w : World} {K : PySem.W.Frag} {mg : Str → Option Value} {base : Heap}
theorem ok_init4 {f fC fB fT C : Addr} {ce : Nat → Addr} {fd fdC fdB fdT : FuncData} {T : List NTab} (F : Fun K "__init__" "Works.__init__" sInit f fd) (c : WCls K C)
    (GC : FnOk P w K mg base (L2.CX P w) 6 fC fdC pCheck (spCheck4 K ce T)) (mC : mg "_check" = some (.ref fC)) (kC : PySem.W.keepIn K (.ref fC) = true) (bC : Binds K fdC pCheck [])
    (GB : FnOk P w K mg base CX0 1 fB fdB ["stuffs", "contents"] spBy) (mB : mg "_by_stuff" = some (.ref fB)) (kB : PySem.W.keepIn K (.ref fB) = true) (bB : Binds K fdB ["stuffs", "contents"] [])
    (GT : FnOk P w K mg base CX0 2 fT fdT ["machines", "cleanings", "stuffs", "products"] spText) (mT : mg "_text_of" = some (.ref fT)) (kT : PySem.W.keepIn K (.ref fT) = true) (bT : Binds K fdT ["machines", "cleanings", "stuffs", "products"] []) :
    FnOk P w K mg base (L2.CX P w) 7 f fd pInit (spInit4 K C ce T) := by
  refine F.okX scInit (fun vs H Q E h => ?_) (fun cdv A outer s H vs Q E hr h => ?_)
  · obtain ⟨x, dx, x1, x2, x3, x4, rfl, _⟩ := h
    rfl
  · obtain ⟨x, dx, x1, x2, x3, x4, rfl, hx, d1, d2, d3, d4, tabs, q, bad⟩ := h
    have hr1 : Room 1 _ := hr.mono (by decide)
    have hr2 : Room 2 _ := hr.mono (by decide)
    refine ⟨_, pss_cons (ps_expr (pe_call GC hr (by rfl) mC kC bC .nil (passes_call (W := fun cls d _ H => E cls d H) (takes_of rfl rfl rfl rfl) (fun _ _ _ _ z => z)) (pa_cons (pv 1) (pa_cons (pv 2) (pa_cons (pv 3) (pa_cons (pv 4) pa_nil))))))
      (pss_cons (ps_fld (pv 0) (pv 1) rfl)
      (pss_cons (ps_fld (pv 0) (pv 2) rfl)
      (pss_cons (ps_fld (pv 0) (pv 3) rfl)
      (pss_cons (ps_fld (pv 0) (pv 4) rfl)
      (pss_cons (ps_fld (pv 0) (pe_dc (own := [("name", 5), ("low", 6), ("high", 7)]) (g := gTup K 3 (gCons (gName 5) (gCons (gName 6) (gCons (gName 7) gNil)))) (by rfl) scInit.nd (pi_tup (pv 1)) (blkOk_by (own := [("name", 5), ("low", 6), ("high", 7)]) (N := nInit) (sc := defScope sInit) (by decide +kernel))
          (fun _ _ _ _ _ => pg_tup (by rfl) (pgs_cons (pg_name (i := 5) scInit.nd rfl (Or.inl rfl)) (pgs_cons (pg_name (i := 6) scInit.nd rfl (Or.inl rfl)) (pgs_cons (pg_name (i := 7) scInit.nd rfl (Or.inl rfl)) pgs_nil)))) (fun _ _ _ _ _ => pts_nil)
          (fun _ _ _ _ _ => pv 5) (fun _ _ _ _ _ => pe_tup (pa_cons (pv 6) (pa_cons (pv 7) pa_nil)))) rfl)
      (pss_cons (ps_fld (pv 0) (pe_dc (own := [("name", 5), ("low", 6), ("high", 7)]) (g := gTup K 3 (gCons (gName 5) (gCons (gName 6) (gCons (gName 7) gNil)))) (by rfl) scInit.nd (pi_tup (pv 2)) (blkOk_by (own := [("name", 5), ("low", 6), ("high", 7)]) (N := nInit) (sc := defScope sInit) (by decide +kernel))
          (fun _ _ _ _ _ => pg_tup (by rfl) (pgs_cons (pg_name (i := 5) scInit.nd rfl (Or.inl rfl)) (pgs_cons (pg_name (i := 6) scInit.nd rfl (Or.inl rfl)) (pgs_cons (pg_name (i := 7) scInit.nd rfl (Or.inl rfl)) pgs_nil)))) (fun _ _ _ _ _ => pts_nil)
          (fun _ _ _ _ _ => pv 5) (fun _ _ _ _ _ => pe_tup (pa_cons (pv 6) (pa_cons (pv 7) pa_nil)))) rfl)
      (pss_cons (ps_fld (pv 0) (pe_dc (own := [("name", 5), ("most", 8)]) (g := gTup K 2 (gCons (gName 5) (gCons (gName 8) gNil))) (by rfl) scInit.nd (pi_tup (pv 3)) (blkOk_by (own := [("name", 5), ("most", 8)]) (N := nInit) (sc := defScope sInit) (by decide +kernel))
          (fun _ _ _ _ _ => pg_tup (by rfl) (pgs_cons (pg_name (i := 5) scInit.nd rfl (Or.inl rfl)) (pgs_cons (pg_name (i := 8) scInit.nd rfl (Or.inl rfl)) pgs_nil))) (fun _ _ _ _ _ => pts_nil)
          (fun _ _ _ _ _ => pv 5) (fun _ _ _ _ _ => pv 8)) rfl)
      (pss_cons (ps_fld (pv 0) (pe_dc (own := [("name", 5), ("contents", 9)]) (g := gTup K 2 (gCons (gName 5) (gCons (gName 9) gNil))) (by rfl) scInit.nd (pi_tup (pv 4)) (blkOk_by (own := [("name", 5), ("contents", 9)]) (N := nInit) (sc := defScope sInit) (by decide +kernel))
          (fun _ _ _ _ _ => pg_tup (by rfl) (pgs_cons (pg_name (i := 5) scInit.nd rfl (Or.inl rfl)) (pgs_cons (pg_name (i := 9) scInit.nd rfl (Or.inl rfl)) pgs_nil))) (fun _ _ _ _ _ => pts_nil)
          (fun _ _ _ _ _ => pv 5) (fun _ _ _ _ _ => pe_call GB hr1 (by rfl) mB kB bB .nil pass0 (pa_cons (pv 3) (pa_cons (pv 9) pa_nil)))) rfl)
      (pss_one (ps_fld (pv 0) (pe_call GT hr2 (by rfl) mT kT bT .nil pass0 (pa_cons (pv 1) (pa_cons (pv 2) (pa_cons (pv 3) (pa_cons (pv 4) pa_nil))))) rfl)))))))))), ?_⟩
    have two : 2 ≤ sizeLine := by
      rw [sizeLine_eq]
      decide
    have few : ∀ {n : Nat}, n < 100 → n < 1000 := fun h => by omega
    refine ⟨_, rfl, _, rfl, _, rfl, _, rfl, x1, x2, x3, x4, rfl, d1, d2, d3, d4, tabs, fun hd am ac as ap vm vc vs2 vp ea eb ec ed fit H1 x1 tabs1 => ?_, bad⟩
    subst ea eb ec ed
    obtain ⟨W, pm, pc, ps, pp, T1, same⟩ := fit_data fit
    have l1 : vm.length = W.ms.length := Paired.size pm
    have l2 : vc.length = W.cs.length := Paired.size pc
    have l3 : vs2.length = W.ss.length := Paired.size ps
    have l4 : vp.length = W.ps.length := Paired.size pp
    have w1 := T1.lm
    have w2 := T1.lc
    have w3 := T1.ls
    have w4 := T1.lp
    have hx1 : H1 x = some (.ins C dx []) := x1 _ _ hx fun _ z => nomatch z
    have fit1 := fit.exN x1
    have tt1 : Tup H H1 := fun a xs e => tup_n x1 e
    have pm1 := rows3 tt1 pm
    have pc1 := rows3 tt1 pc
    have ps1 := rows2 tt1 ps
    have pp1 := rowsP tt1 pp
    refine ⟨_, rfl, _, rfl, x, C, dx, _, rfl, hx1, c.cl, c.n1, few (by decide), ?_⟩
    refine ⟨_, rfl, _, rfl, x, C, dx, _, rfl, upd_same, c.cl, c.n2, (by decide : (1 : Nat) < 1000), ?_⟩
    refine ⟨_, rfl, _, rfl, x, C, dx, _, rfl, upd_same, c.cl, c.n3, (by decide : (2 : Nat) < 1000), ?_⟩
    refine ⟨_, rfl, _, rfl, x, C, dx, _, rfl, upd_same, c.cl, c.n4, (by decide : (3 : Nat) < 1000), ?_⟩
    rw [upd_upd, upd_upd, upd_upd]
    show tSeq _ _ _ _ (upd H1 x (.ins C dx [("_machines", .ref am), ("_cleanings", .ref ac), ("_stuffs", .ref as), ("_products", .ref ap)]))
    have B4 : But x H1 (upd H1 x (.ins C dx [("_machines", .ref am), ("_cleanings", .ref ac), ("_stuffs", .ref as), ("_products", .ref ap)])) := But.self
    have X4 : (upd H1 x (.ins C dx [("_machines", .ref am), ("_cleanings", .ref ac), ("_stuffs", .ref as), ("_products", .ref ap)])) x = some (.ins C dx [("_machines", .ref am), ("_cleanings", .ref ac), ("_stuffs", .ref as), ("_products", .ref ap)]) := upd_same
    generalize upd H1 x (.ins C dx [("_machines", .ref am), ("_cleanings", .ref ac), ("_stuffs", .ref as), ("_products", .ref ap)]) = H4 at B4 X4 ⊢
    have t4 := But.tup hx1 B4
    have pm4 := rows3 t4 pm1
    have hm4 := t4 _ _ fit1.m
    refine ⟨_, rfl, am, rfl, ⟨vm, SqT.of hm4⟩, fun D1 n1 => dc_it walk_tup (fun i G => Ex H4 G ∧ ∃ vals : List V, vals.length = i ∧ Paired (Bnd G) vals ((W.ms.map (·.2)).take i) ∧ G D1 = some (.dK (mergeK [] (under ((W.ms.map (·.1)).take i) vals)))) ⟨Ex.refl.new n1, [], rfl, .nil, upd_same⟩ (fun i G _ h => SqT.of (h.1 _ _ hm4)) ?_ ?_⟩
    · rintro i v _ G hi ⟨xG, vals, vl, pv, eG⟩ ⟨rfl, hv⟩
      obtain ⟨⟨n, lo, up⟩, hr, a, rfl, ha⟩ := Paired.spot pm4 hv
      have e : G a = some (.tup [.str n, .int lo, .int up]) := xG _ _ ha
      have hn : (W.ms.map (·.1))[i]? = some n := by
        rw [List.getElem?_map, hr]
        rfl
      have hb : (W.ms.map (·.2))[i]? = some (lo, up) := by
        rw [List.getElem?_map, hr]
        rfl
      refine ⟨a, _, rfl, SqT.of e, rfl, _, _, rfl, _, _, rfl, _, _, rfl, rfl, rfl, ?_⟩
      refine ⟨_, rfl, _, rfl, _, rfl, two, fun p np => ?_⟩
      have nDp : D1 ≠ p := ne_of_none eG np
      have eD : (upd G p (.tup [.int lo, .int up])) D1 = some (.dK (mergeK [] (under ((W.ms.map (·.1)).take i) vals))) := by
        rw [upd_ne nDp]
        exact eG
      refine ⟨_, .inr n, rfl, eD, ?_, (xG.new np).put n1, vals ++ [.ref p], by rw [List.length_append, vl]; rfl, ?_, ?_⟩
      · have m := merge_len (more := under ((W.ms.map (·.1)).take i) vals) (kvs := [])
        have m2 : (under ((W.ms.map (·.1)).take i) vals).length ≤ i := by
          unfold under
          rw [List.length_map, List.length_zip, vl]
          exact Nat.min_le_right _ _
        rw [List.length_nil] at m
        rw [sizeLine_eq]
        omega
      · have tt : Tup G (upd (upd G p (.tup [.int lo, .int up])) D1 (.dK (putK (mergeK [] (under ((W.ms.map (·.1)).take i) vals)) (.inr n) (.ref p)))) := fun b xs h => by
          rw [upd_ne (ne_of h eG fun z => nomatch z), upd_ne (ne_of_none h np)]
          exact h
        rw [List.take_succ, hb]
        exact Paired.snoc (bnds tt pv) ⟨p, rfl, by rw [upd_ne nDp.symm]; exact upd_same⟩
      · rw [upd_same, under_snoc hn vl, merge_snoc]
    rintro G1 ⟨xG1, b1, bl1, pb1, eG1⟩
    rw [List.take_of_length_le (by rw [List.length_map]; omega), ] at pb1
    rw [List.take_of_length_le (by rw [List.length_map]; omega)] at eG1
    refine ⟨_, rfl, x, C, dx, _, rfl, xG1 _ _ X4, c.cl, c.n5, (by decide : (4 : Nat) < 1000), ?_⟩
    show tSeq _ _ _ _ (upd G1 x (.ins C dx [("_machines", .ref am), ("_cleanings", .ref ac), ("_stuffs", .ref as), ("_products", .ref ap), ("_holds", .ref D1)]))
    have S5 : But x H4 (upd G1 x (.ins C dx [("_machines", .ref am), ("_cleanings", .ref ac), ("_stuffs", .ref as), ("_products", .ref ap), ("_holds", .ref D1)])) := But.trans (But.ex xG1) But.self
    have V5 : But x G1 (upd G1 x (.ins C dx [("_machines", .ref am), ("_cleanings", .ref ac), ("_stuffs", .ref as), ("_products", .ref ap), ("_holds", .ref D1)])) := But.self
    have X5 : (upd G1 x (.ins C dx [("_machines", .ref am), ("_cleanings", .ref ac), ("_stuffs", .ref as), ("_products", .ref ap), ("_holds", .ref D1)])) x = some (.ins C dx [("_machines", .ref am), ("_cleanings", .ref ac), ("_stuffs", .ref as), ("_products", .ref ap), ("_holds", .ref D1)]) := upd_same
    have XG5 := xG1 _ _ X4
    generalize upd G1 x (.ins C dx [("_machines", .ref am), ("_cleanings", .ref ac), ("_stuffs", .ref as), ("_products", .ref ap), ("_holds", .ref D1)]) = H5 at S5 V5 X5 ⊢
    have B5 : But x H1 H5 := But.trans B4 S5
    have t5 := But.tup hx1 B5
    have d1_5 := V5 _ _ (ne_of eG1 XG5 fun z => nomatch z) eG1
    have p1_5 := bnds (But.tup XG5 V5) pb1
    have pc5 := rows3 t5 pc1
    have hc5 := t5 _ _ fit1.c
    refine ⟨_, rfl, ac, rfl, ⟨vc, SqT.of hc5⟩, fun D2 n2 => dc_it walk_tup (fun i G => Ex H5 G ∧ ∃ vals : List V, vals.length = i ∧ Paired (Bnd G) vals ((W.cs.map (·.2)).take i) ∧ G D2 = some (.dK (mergeK [] (under ((W.cs.map (·.1)).take i) vals)))) ⟨Ex.refl.new n2, [], rfl, .nil, upd_same⟩ (fun i G _ h => SqT.of (h.1 _ _ hc5)) ?_ ?_⟩
    · rintro i v _ G hi ⟨xG, vals, vl, pv, eG⟩ ⟨rfl, hv⟩
      obtain ⟨⟨n, lo, up⟩, hr, a, rfl, ha⟩ := Paired.spot pc5 hv
      have e : G a = some (.tup [.str n, .int lo, .int up]) := xG _ _ ha
      have hn : (W.cs.map (·.1))[i]? = some n := by
        rw [List.getElem?_map, hr]
        rfl
      have hb : (W.cs.map (·.2))[i]? = some (lo, up) := by
        rw [List.getElem?_map, hr]
        rfl
      refine ⟨a, _, rfl, SqT.of e, rfl, _, _, rfl, _, _, rfl, _, _, rfl, rfl, rfl, ?_⟩
      refine ⟨_, rfl, _, rfl, _, rfl, two, fun p np => ?_⟩
      have nDp : D2 ≠ p := ne_of_none eG np
      have eD : (upd G p (.tup [.int lo, .int up])) D2 = some (.dK (mergeK [] (under ((W.cs.map (·.1)).take i) vals))) := by
        rw [upd_ne nDp]
        exact eG
      refine ⟨_, .inr n, rfl, eD, ?_, (xG.new np).put n2, vals ++ [.ref p], by rw [List.length_append, vl]; rfl, ?_, ?_⟩
      · have m := merge_len (more := under ((W.cs.map (·.1)).take i) vals) (kvs := [])
        have m2 : (under ((W.cs.map (·.1)).take i) vals).length ≤ i := by
          unfold under
          rw [List.length_map, List.length_zip, vl]
          exact Nat.min_le_right _ _
        rw [List.length_nil] at m
        rw [sizeLine_eq]
        omega
      · have tt : Tup G (upd (upd G p (.tup [.int lo, .int up])) D2 (.dK (putK (mergeK [] (under ((W.cs.map (·.1)).take i) vals)) (.inr n) (.ref p)))) := fun b xs h => by
          rw [upd_ne (ne_of h eG fun z => nomatch z), upd_ne (ne_of_none h np)]
          exact h
        rw [List.take_succ, hb]
        exact Paired.snoc (bnds tt pv) ⟨p, rfl, by rw [upd_ne nDp.symm]; exact upd_same⟩
      · rw [upd_same, under_snoc hn vl, merge_snoc]
    rintro G2 ⟨xG2, b2, bl2, pb2, eG2⟩
    rw [List.take_of_length_le (by rw [List.length_map]; omega), ] at pb2
    rw [List.take_of_length_le (by rw [List.length_map]; omega)] at eG2
    refine ⟨_, rfl, x, C, dx, _, rfl, xG2 _ _ X5, c.cl, c.n6, (by decide : (5 : Nat) < 1000), ?_⟩
    show tSeq _ _ _ _ (upd G2 x (.ins C dx [("_machines", .ref am), ("_cleanings", .ref ac), ("_stuffs", .ref as), ("_products", .ref ap), ("_holds", .ref D1), ("_keeps", .ref D2)]))
    have S6 : But x H5 (upd G2 x (.ins C dx [("_machines", .ref am), ("_cleanings", .ref ac), ("_stuffs", .ref as), ("_products", .ref ap), ("_holds", .ref D1), ("_keeps", .ref D2)])) := But.trans (But.ex xG2) But.self
    have V6 : But x G2 (upd G2 x (.ins C dx [("_machines", .ref am), ("_cleanings", .ref ac), ("_stuffs", .ref as), ("_products", .ref ap), ("_holds", .ref D1), ("_keeps", .ref D2)])) := But.self
    have X6 : (upd G2 x (.ins C dx [("_machines", .ref am), ("_cleanings", .ref ac), ("_stuffs", .ref as), ("_products", .ref ap), ("_holds", .ref D1), ("_keeps", .ref D2)])) x = some (.ins C dx [("_machines", .ref am), ("_cleanings", .ref ac), ("_stuffs", .ref as), ("_products", .ref ap), ("_holds", .ref D1), ("_keeps", .ref D2)]) := upd_same
    have XG6 := xG2 _ _ X5
    generalize upd G2 x (.ins C dx [("_machines", .ref am), ("_cleanings", .ref ac), ("_stuffs", .ref as), ("_products", .ref ap), ("_holds", .ref D1), ("_keeps", .ref D2)]) = H6 at S6 V6 X6 ⊢
    have B6 : But x H1 H6 := But.trans B5 S6
    have t6 := But.tup hx1 B6
    have d2_6 := V6 _ _ (ne_of eG2 XG6 fun z => nomatch z) eG2
    have p2_6 := bnds (But.tup XG6 V6) pb2
    have d1_6 := S6 _ _ (ne_of d1_5 X5 fun z => nomatch z) d1_5
    have p1_6 := bnds (But.tup X5 S6) p1_5
    have ps6 := rows2 t6 ps1
    have hs6 := t6 _ _ fit1.s
    refine ⟨_, rfl, as, rfl, ⟨vs2, SqT.of hs6⟩, fun D3 n3 => dc_it walk_tup (fun i G => Ex H6 G ∧ G D3 = some (.dK (mergeK [] (under ((W.ss.map (·.1)).take i) ((W.ss.map fun r => V.int r.2).take i))))) ⟨Ex.refl.new n3, upd_same⟩ (fun i G _ h => SqT.of (h.1 _ _ hs6)) ?_ ?_⟩
    · rintro i v _ G hi ⟨xG, eG⟩ ⟨rfl, hv⟩
      obtain ⟨⟨n, m⟩, hr, a, rfl, ha⟩ := Paired.spot ps6 hv
      have e : G a = some (.tup [.str n, .int m]) := xG _ _ ha
      have hn : (W.ss.map (·.1))[i]? = some n := by
        rw [List.getElem?_map, hr]
        rfl
      have hb : (W.ss.map fun r => V.int r.2)[i]? = some (.int m) := by
        rw [List.getElem?_map, hr]
        rfl
      have il : i < W.ss.length := (List.getElem?_eq_some_iff.mp hr).1
      have vl : ((W.ss.map fun r => V.int r.2).take i).length = i := by
        rw [List.length_take, List.length_map]
        omega
      refine ⟨a, _, rfl, SqT.of e, rfl, _, _, rfl, _, _, rfl, rfl, rfl, ?_⟩
      refine ⟨_, rfl, _, rfl, _, .inr n, rfl, eG, ?_, xG.put n3, ?_⟩
      · have m := merge_len (more := under ((W.ss.map (·.1)).take i) ((W.ss.map fun r => V.int r.2).take i)) (kvs := [])
        have m2 : (under ((W.ss.map (·.1)).take i) ((W.ss.map fun r => V.int r.2).take i)).length ≤ i := by
          unfold under
          rw [List.length_map, List.length_zip, vl]
          exact Nat.min_le_right _ _
        rw [List.length_nil] at m
        rw [sizeLine_eq]
        omega
      · rw [upd_same, List.take_succ (l := W.ss.map fun r => V.int r.2), hb]
        show _ = some (HO.dK (mergeK [] (under ((W.ss.map (·.1)).take (i + 1)) ((W.ss.map fun r => V.int r.2).take i ++ [.int m]))))
        rw [under_snoc hn vl, merge_snoc]
    rintro G3 ⟨xG3, eG3⟩
    rw [List.take_of_length_le (by rw [List.length_map]; omega), List.take_of_length_le (by rw [List.length_map]; omega)] at eG3
    refine ⟨_, rfl, x, C, dx, _, rfl, xG3 _ _ X6, c.cl, c.n7, (by decide : (6 : Nat) < 1000), ?_⟩
    show tSeq _ _ _ _ (upd G3 x (.ins C dx [("_machines", .ref am), ("_cleanings", .ref ac), ("_stuffs", .ref as), ("_products", .ref ap), ("_holds", .ref D1), ("_keeps", .ref D2), ("_limits", .ref D3)]))
    have S7 : But x H6 (upd G3 x (.ins C dx [("_machines", .ref am), ("_cleanings", .ref ac), ("_stuffs", .ref as), ("_products", .ref ap), ("_holds", .ref D1), ("_keeps", .ref D2), ("_limits", .ref D3)])) := But.trans (But.ex xG3) But.self
    have V7 : But x G3 (upd G3 x (.ins C dx [("_machines", .ref am), ("_cleanings", .ref ac), ("_stuffs", .ref as), ("_products", .ref ap), ("_holds", .ref D1), ("_keeps", .ref D2), ("_limits", .ref D3)])) := But.self
    have X7 : (upd G3 x (.ins C dx [("_machines", .ref am), ("_cleanings", .ref ac), ("_stuffs", .ref as), ("_products", .ref ap), ("_holds", .ref D1), ("_keeps", .ref D2), ("_limits", .ref D3)])) x = some (.ins C dx [("_machines", .ref am), ("_cleanings", .ref ac), ("_stuffs", .ref as), ("_products", .ref ap), ("_holds", .ref D1), ("_keeps", .ref D2), ("_limits", .ref D3)]) := upd_same
    have XG7 := xG3 _ _ X6
    generalize upd G3 x (.ins C dx [("_machines", .ref am), ("_cleanings", .ref ac), ("_stuffs", .ref as), ("_products", .ref ap), ("_holds", .ref D1), ("_keeps", .ref D2), ("_limits", .ref D3)]) = H7 at S7 V7 X7 ⊢
    have B7 : But x H1 H7 := But.trans B6 S7
    have t7 := But.tup hx1 B7
    have d3_7 := V7 _ _ (ne_of eG3 XG7 fun z => nomatch z) eG3
    have d1_7 := S7 _ _ (ne_of d1_6 X6 fun z => nomatch z) d1_6
    have p1_7 := bnds (But.tup X6 S7) p1_6
    have d2_7 := S7 _ _ (ne_of d2_6 X6 fun z => nomatch z) d2_6
    have p2_7 := bnds (But.tup X6 S7) p2_6
    have pp7 := rowsP t7 pp1
    have ps7 := rows2 t7 ps1
    have hs7 := t7 _ _ fit1.s
    have hp7 := t7 _ _ fit1.p
    have nm7 : ∀ {G : Hp}, Ex H7 G → Paired (Named G) vs2 (W.ss.map (·.1)) := fun {G} e => paired_map (L2.Paired.mapP ps7 fun v r z => by
      obtain ⟨a, e1, e2⟩ := z
      exact ⟨a, _, e1, e _ _ e2⟩)
    refine ⟨_, rfl, ap, rfl, ⟨vp, SqT.of hp7⟩, fun D4 n4 => dc_it walk_tup (fun i G => Ex H7 G ∧ ∃ vals : List V, vals.length = i ∧ Paired (CBn W D4 G) vals (W.ps.take i) ∧ G D4 = some (.dK (mergeK [] (under ((W.ps.map (·.1)).take i) vals)))) ⟨Ex.refl.new n4, [], rfl, .nil, upd_same⟩ (fun i G _ h => SqT.of (h.1 _ _ hp7)) ?_ ?_⟩
    · rintro i v _ G hi ⟨xG, vals, vl, pv, eG⟩ ⟨rfl, hv⟩
      obtain ⟨⟨n, bs⟩, hr, a, t, vb, rfl, ha, ht, pb⟩ := Paired.spot pp7 hv
      have hn : (W.ps.map (·.1))[i]? = some n := by
        rw [List.getElem?_map, hr]
        rfl
      have sm : bs.length = W.ss.length := same _ (List.mem_of_getElem? hr)
      have vbl : vb.length = bs.length := Paired.size pb
      refine ⟨a, _, rfl, SqT.of (xG _ _ ha), rfl, _, _, rfl, _, _, rfl, rfl, rfl, ?_⟩
      refine ⟨_, rfl, _, rfl, _, rfl, as, t, vs2, vb, W.ss.map (·.1), rfl, xG _ _ hs7, xG _ _ ht, nm7 xG, by omega, by omega, fun Dp G2 x2 nDp eDp => ?_⟩
      have eG2 := x2 _ _ eG
      have nD : Dp ≠ D4 := (ne_of_none eG nDp).symm
      refine ⟨_, .inr n, rfl, eG2, ?_, (xG.trans x2).put n4, vals ++ [.ref Dp], by rw [List.length_append, vl]; rfl, ?_, ?_⟩
      · have m := merge_len (more := under ((W.ps.map (·.1)).take i) vals) (kvs := [])
        have m2 : (under ((W.ps.map (·.1)).take i) vals).length ≤ i := by
          unfold under
          rw [List.length_map, List.length_zip, vl]
          exact Nat.min_le_right _ _
        rw [List.length_nil] at m
        rw [sizeLine_eq]
        omega
      · have tt : Tup G2 (upd G2 D4 (.dK (putK (mergeK [] (under ((W.ps.map (·.1)).take i) vals)) (.inr n) (.ref Dp)))) := fun b xs h => by
          rw [upd_ne (ne_of h eG2 fun z => nomatch z)]
          exact h
        rw [List.take_succ, hr]
        refine Paired.snoc (L2.Paired.mapP pv fun v p z => ?_) ⟨Dp, vb, rfl, nD, by rw [upd_ne nD]; exact eDp, bnds tt (bnds (Ex.tup (xG.trans x2)) pb)⟩
        obtain ⟨D0, ys, e1, e2, e3, e4⟩ := z
        exact ⟨D0, ys, e1, e2, by rw [upd_ne e2]; exact x2 _ _ e3, bnds tt (bnds (Ex.tup x2) e4)⟩
      · rw [upd_same, under_snoc hn vl, merge_snoc]
    rintro G4 ⟨xG4, b4, bl4, pb4, eG4⟩
    rw [List.take_of_length_le (by omega)] at pb4
    rw [List.take_of_length_le (by rw [List.length_map]; omega)] at eG4
    refine ⟨_, rfl, x, C, dx, _, rfl, xG4 _ _ X7, c.cl, c.n8, (by decide : (7 : Nat) < 1000), ?_⟩
    show tSeq _ _ _ _ (upd G4 x (.ins C dx [("_machines", .ref am), ("_cleanings", .ref ac), ("_stuffs", .ref as), ("_products", .ref ap), ("_holds", .ref D1), ("_keeps", .ref D2), ("_limits", .ref D3), ("_contents", .ref D4)]))
    have S8 : But x H7 (upd G4 x (.ins C dx [("_machines", .ref am), ("_cleanings", .ref ac), ("_stuffs", .ref as), ("_products", .ref ap), ("_holds", .ref D1), ("_keeps", .ref D2), ("_limits", .ref D3), ("_contents", .ref D4)])) := But.trans (But.ex xG4) But.self
    have V8 : But x G4 (upd G4 x (.ins C dx [("_machines", .ref am), ("_cleanings", .ref ac), ("_stuffs", .ref as), ("_products", .ref ap), ("_holds", .ref D1), ("_keeps", .ref D2), ("_limits", .ref D3), ("_contents", .ref D4)])) := But.self
    have X8 : (upd G4 x (.ins C dx [("_machines", .ref am), ("_cleanings", .ref ac), ("_stuffs", .ref as), ("_products", .ref ap), ("_holds", .ref D1), ("_keeps", .ref D2), ("_limits", .ref D3), ("_contents", .ref D4)])) x = some (.ins C dx [("_machines", .ref am), ("_cleanings", .ref ac), ("_stuffs", .ref as), ("_products", .ref ap), ("_holds", .ref D1), ("_keeps", .ref D2), ("_limits", .ref D3), ("_contents", .ref D4)]) := upd_same
    have XG8 := xG4 _ _ X7
    generalize upd G4 x (.ins C dx [("_machines", .ref am), ("_cleanings", .ref ac), ("_stuffs", .ref as), ("_products", .ref ap), ("_holds", .ref D1), ("_keeps", .ref D2), ("_limits", .ref D3), ("_contents", .ref D4)]) = H8 at S8 V8 X8 ⊢
    have B8 : But x H1 H8 := But.trans B7 S8
    have t8 := But.tup hx1 B8
    have d4_8 := V8 _ _ (ne_of eG4 XG8 fun z => nomatch z) eG4
    have p4_8 : Paired (CBn W D4 H8) b4 W.ps := L2.Paired.mapP pb4 fun v p z => CBn.but XG8 V8 z
    have d3_8 := S8 _ _ (ne_of d3_7 X7 fun z => nomatch z) d3_7
    have d1_8 := S8 _ _ (ne_of d1_7 X7 fun z => nomatch z) d1_7
    have p1_8 := bnds (But.tup X7 S8) p1_7
    have d2_8 := S8 _ _ (ne_of d2_7 X7 fun z => nomatch z) d2_7
    have p2_8 := bnds (But.tup X7 S8) p2_7
    refine ⟨_, rfl, _, rfl, _, rfl, _, rfl, am, ac, as, ap, vm, vc, vs2, vp, W, rfl, t8 _ _ fit1.m, t8 _ _ fit1.c, t8 _ _ fit1.s, t8 _ _ fit1.p, rows3 t8 pm1, rows3 t8 pc1, rows2 t8 ps1, rowsP t8 pp1, T1, fun G5 xG5 => ?_⟩
    refine ⟨_, rfl, x, C, dx, _, rfl, xG5 _ _ X8, c.cl, c.n9, (by decide : (8 : Nat) < 1000), ?_⟩
    show Q .non (upd G5 x (.ins C dx [("_machines", .ref am), ("_cleanings", .ref ac), ("_stuffs", .ref as), ("_products", .ref ap), ("_holds", .ref D1), ("_keeps", .ref D2), ("_limits", .ref D3), ("_contents", .ref D4), ("_text", .str (wtext W))]))
    have S9 : But x H8 (upd G5 x (.ins C dx [("_machines", .ref am), ("_cleanings", .ref ac), ("_stuffs", .ref as), ("_products", .ref ap), ("_holds", .ref D1), ("_keeps", .ref D2), ("_limits", .ref D3), ("_contents", .ref D4), ("_text", .str (wtext W))])) := But.trans (But.ex xG5) But.self
    have V9 : But x G5 (upd G5 x (.ins C dx [("_machines", .ref am), ("_cleanings", .ref ac), ("_stuffs", .ref as), ("_products", .ref ap), ("_holds", .ref D1), ("_keeps", .ref D2), ("_limits", .ref D3), ("_contents", .ref D4), ("_text", .str (wtext W))])) := But.self
    have X9 : (upd G5 x (.ins C dx [("_machines", .ref am), ("_cleanings", .ref ac), ("_stuffs", .ref as), ("_products", .ref ap), ("_holds", .ref D1), ("_keeps", .ref D2), ("_limits", .ref D3), ("_contents", .ref D4), ("_text", .str (wtext W))])) x = some (.ins C dx [("_machines", .ref am), ("_cleanings", .ref ac), ("_stuffs", .ref as), ("_products", .ref ap), ("_holds", .ref D1), ("_keeps", .ref D2), ("_limits", .ref D3), ("_contents", .ref D4), ("_text", .str (wtext W))]) := upd_same
    have XG9 := xG5 _ _ X8
    generalize upd G5 x (.ins C dx [("_machines", .ref am), ("_cleanings", .ref ac), ("_stuffs", .ref as), ("_products", .ref ap), ("_holds", .ref D1), ("_keeps", .ref D2), ("_limits", .ref D3), ("_contents", .ref D4), ("_text", .str (wtext W))]) = H9 at S9 V9 X9 ⊢
    have B9 : But x H1 H9 := But.trans B8 S9
    have t9 := But.tup hx1 B9
    have d4_9 := S9 _ _ (ne_of d4_8 X8 fun z => nomatch z) d4_8
    have p4_9 : Paired (CBn W D4 H9) b4 W.ps := L2.Paired.mapP p4_8 fun v p z => CBn.but X8 S9 z
    have d3_9 := S9 _ _ (ne_of d3_8 X8 fun z => nomatch z) d3_8
    have d1_9 := S9 _ _ (ne_of d1_8 X8 fun z => nomatch z) d1_8
    have p1_9 := bnds (But.tup X8 S9) p1_8
    have d2_9 := S9 _ _ (ne_of d2_8 X8 fun z => nomatch z) d2_8
    have p2_9 := bnds (But.tup X8 S9) p2_8
    exact q hd H9 (fun b o n e nt => B9 b o n (x1 b o e nt)) (TabsN.but hx1 B9 tabs1)
end
end LJ
set_option Elab.async false
set_option linter.all false
set_option maxRecDepth 100000
set_option maxHeartbeats 8000000
/-! What the check let are good works. -/
namespace LJ
open PySem PySem.Spec L2
open LamX (ExtN TabB)
open NdefX (NTab TabsN)
theorem fwAt_nd {R : V → Bool} {nm : V → Str} {most : Int} : ∀ {xs : List V} {tk : List Str} {i : Nat}, fwAt R nm most tk i xs = none → (∀ v ∈ xs, nm v ∉ tk) ∧ (xs.map nm).Nodup
  | [], _, _, _ => ⟨(fun _ z => nomatch z), List.nodup_nil⟩
  | v :: xs, tk, i, h => by
    unfold fwAt at h
    split at h
    · cases h
    · split at h
      · cases h
      · split at h
        · cases h
        · rename_i c1 c2 c3
          obtain ⟨a, b⟩ := fwAt_nd h
          refine ⟨fun y hy => ?_, ?_⟩
          · rcases List.mem_cons.mp hy with rfl | hy
            · exact c3
            · exact fun z => a y hy (List.mem_append_left _ z)
          · rw [List.map_cons, List.nodup_cons]
            refine ⟨fun z => ?_, b⟩
            obtain ⟨y, hy, e⟩ := List.mem_map.mp z
            exact a y hy (List.mem_append_right _ (by rw [e]; exact List.mem_singleton.mpr rfl))
theorem row3_g {H : Hp} {v : V} (h : onTup sharesOf H v = true) : ∃ r : Str × Int × Int, Row3 H v r ∧ (isW r.1 = true ∧ 0 ≤ r.2.1 ∧ r.2.1 ≤ r.2.2 ∧ r.2.2 ≤ 1000) := by
  unfold onTup at h
  split at h
  · rename_i xs e
    obtain ⟨a, rfl, ha⟩ := tup_ref e
    match xs, h, ha with
    | [n, x, y], h, ha =>
      have h : (isN n && bndOf 1000 [x, y]) = true := h
      obtain ⟨s, rfl, hs⟩ := str_of (both h).1
      obtain ⟨i, j, e1, i0, ij, j1⟩ := bnd_of (both h).2
      cases e1
      exact ⟨(s, i, j), ⟨a, rfl, ha⟩, hs, i0, ij, j1⟩
  · cases h
theorem row2_g {H : Hp} {v : V} (h : onTup limOf H v = true) : ∃ r : Str × Int, Row2 H v r ∧ (isW r.1 = true ∧ 0 ≤ r.2 ∧ r.2 ≤ 1000000000000) := by
  unfold onTup at h
  split at h
  · rename_i xs e
    obtain ⟨a, rfl, ha⟩ := tup_ref e
    match xs, h, ha with
    | [n, .int i], h, ha =>
      have h : (isN n && (decide (0 ≤ i) && decide (i ≤ top12))) = true := h
      obtain ⟨s, rfl, hs⟩ := str_of (both h).1
      exact ⟨(s, i), ⟨a, rfl, ha⟩, hs, of_decide_eq_true (both (both h).2).1, of_decide_eq_true (both (both h).2).2⟩
  · cases h
theorem rowP_g {H : Hp} {v : V} {m : Nat} (h : onTup (contOf H m) H v = true) : ∃ r : Str × List (Int × Int), RowP H v r ∧ (isW r.1 = true ∧ r.2.length = m ∧ ∀ b ∈ r.2, Small b) := by
  unfold onTup at h
  split at h
  · rename_i xs e
    obtain ⟨a, rfl, ha⟩ := tup_ref e
    match xs, h, ha with
    | [n, t], h, ha =>
      have h : (isN n && pairsOf H m (tupOf H t)) = true := h
      obtain ⟨s, rfl, hs⟩ := str_of (both h).1
      have h2 := (both h).2
      cases et : tupOf H t with
      | none =>
        rw [et] at h2
        cases h2
      | some ps =>
        rw [et] at h2
        obtain ⟨b, rfl, hb⟩ := tup_ref et
        have h2 : (decide ((ps.length : Int) = m) && ps.all fun y => isBnd H y top12) = true := h2
        have l := of_decide_eq_true (both h2).1
        obtain ⟨rs, p⟩ := paired_of fun y hy => pair_of (List.all_eq_true.mp (both h2).2 y hy)
        obtain ⟨p1, p2⟩ := paired_all p
        have z := Paired.size p1
        exact ⟨(s, rs), ⟨a, b, ps, rfl, ha, hb, p1⟩, hs, by show rs.length = m; omega, p2⟩
  · cases h
theorem names_pd {α : Type} {H : Hp} {F : V → α → Prop} {f : α → Str} (k : ∀ v r, F v r → nameOf H v = f r) : ∀ {xs : List V} {rs : List α}, Paired F xs rs → xs.map (nameOf H) = rs.map f
  | _, _, .nil => rfl
  | _, _, .cons h t => by rw [List.map_cons, List.map_cons, k _ _ h, names_pd k t]
theorem nm_at {H : Hp} {a : Addr} {n : Str} {r : List V} (h : H a = some (.tup (.str n :: r))) : nameOf H (.ref a) = n := by
  unfold nameOf
  rw [tup_at h]
/-- works that the check let, as good data -/
theorem fit_good {K : PySem.W.Frag} {H : Hp} {am ac as ap : Addr} {xm xc xs xp : List V} (F : Fit K H am ac as ap xm xc xs xp) :
    ∃ W : Wd, Paired (Row3 H) xm W.ms ∧ Paired (Row3 H) xc W.cs ∧ Paired (Row2 H) xs W.ss ∧ Paired (RowP H) xp W.ps ∧ Told W ∧ (∀ p ∈ W.ps, p.2.length = W.ss.length) ∧ GoodF W := by
  obtain ⟨a1, b1⟩ := fwAt_all (by decide) F.fm
  obtain ⟨a2, b2⟩ := fwAt_all (by decide) F.fc
  obtain ⟨a3, b3⟩ := fwAt_all (by decide) F.fs
  obtain ⟨a4, b4⟩ := fwAt_all (by decide) F.fp
  obtain ⟨d1, n1⟩ := fwAt_nd F.fm
  obtain ⟨d2, n2⟩ := fwAt_nd F.fc
  obtain ⟨d3, n3⟩ := fwAt_nd F.fs
  obtain ⟨d4, n4⟩ := fwAt_nd F.fp
  obtain ⟨ms, pm⟩ := paired_of fun v hv => row3_g (a1 v hv)
  obtain ⟨cs, pc⟩ := paired_of fun v hv => row3_g (a2 v hv)
  obtain ⟨ss, ps⟩ := paired_of fun v hv => row2_g (a3 v hv)
  obtain ⟨pp, pq⟩ := paired_of fun v hv => rowP_g (a4 v hv)
  obtain ⟨m1, m2⟩ := paired_all pm
  obtain ⟨c1, c2⟩ := paired_all pc
  obtain ⟨s1, s2⟩ := paired_all ps
  obtain ⟨p1, p2⟩ := paired_all pq
  have l1 := Paired.size m1
  have l2 := Paired.size c1
  have l3 := Paired.size s1
  have l4 := Paired.size p1
  have k1 : xm.map (nameOf H) = ms.map (·.1) := names_pd (fun v r ⟨a, e, h⟩ => by subst e; exact nm_at h) m1
  have k2 : xc.map (nameOf H) = cs.map (·.1) := names_pd (fun v r ⟨a, e, h⟩ => by subst e; exact nm_at h) c1
  have k3 : xs.map (nameOf H) = ss.map (·.1) := names_pd (fun v r ⟨a, e, h⟩ => by subst e; exact nm_at h) s1
  have k4 : xp.map (nameOf H) = pp.map (·.1) := names_pd (fun v r ⟨a, t, us, e, h, _⟩ => by subst e; exact nm_at h) p1
  have out : ∀ {ys : List V} {tk ns : List Str}, ys.map (nameOf H) = ns → (∀ v ∈ ys, nameOf H v ∉ tk) → ∀ n ∈ ns, n ∉ tk := fun {ys tk ns} e h n hn z => by
    rw [← e] at hn
    obtain ⟨v, hv, rfl⟩ := List.mem_map.mp hn
    exact h v hv z
  have o2 := out k2 d2
  have o3 := out k3 d3
  have o4 := out k4 d4
  rw [k1] at o2
  rw [List.map_append, k1, k2] at o3
  rw [List.map_append, List.map_append, k1, k2, k3] at o4
  rw [k1] at n1
  rw [k2] at n2
  rw [k3] at n3
  rw [k4] at n4
  have w1 := F.lm
  have w3 := F.ls
  have w4 := F.lp
  refine ⟨⟨ms, cs, ss, pp⟩, m1, c1, s1, p1, ⟨?_, ?_, ?_, ?_, fun r hr => ?_, fun r hr => ?_, fun r hr => ?_, fun r hr => ⟨w8 (p2 r hr).1, ?_, (p2 r hr).2.2⟩⟩, fun r hr => ?_, ⟨?_, ?_, ?_, ?_, ?_, ?_, ?_, fun r hr => ?_, fun r hr => ?_, fun r hr => ?_, fun r hr => ⟨?_, fun b hb => ?_⟩, ?_, fun x hx => ?_⟩⟩
  · show ms.length ≤ 10
    omega
  · show cs.length ≤ 10
    omega
  · show ss.length ≤ 10
    omega
  · show pp.length ≤ 10
    omega
  · have h := m2 r hr
    exact ⟨w8 h.1, h.2.1, h.2.2.1, by have := h.2.2.2; omega⟩
  · have h := c2 r hr
    exact ⟨w8 h.1, h.2.1, h.2.2.1, by have := h.2.2.2; omega⟩
  · have h := s2 r hr
    exact ⟨w8 h.1, h.2.1, h.2.2⟩
  · have z := (p2 r hr).2.1
    omega
  · show r.2.length = ss.length
    rw [(p2 r hr).2.1, l3]
  · show 1 ≤ ms.length
    omega
  · show ms.length ≤ 6
    omega
  · show cs.length ≤ 6
    omega
  · show 1 ≤ ss.length
    omega
  · show ss.length ≤ 3
    omega
  · show 1 ≤ pp.length
    omega
  · show pp.length ≤ 8
    omega
  · exact (m2 r hr).2
  · exact (c2 r hr).2
  · exact (s2 r hr).2
  · show r.2.length = ss.length
    rw [(p2 r hr).2.1, l3]
  · exact (p2 r hr).2.2 b hb
  · show (ms.map (·.1) ++ (cs.map (·.1) ++ (ss.map (·.1) ++ pp.map (·.1)))).Nodup
    refine List.nodup_append.mpr ⟨n1, List.nodup_append.mpr ⟨n2, List.nodup_append.mpr ⟨n3, n4, fun a ha b hb e => ?_⟩, fun a ha b hb e => ?_⟩, fun a ha b hb e => ?_⟩
    · subst e
      exact o4 a hb (List.mem_append_right _ ha)
    · subst e
      rcases List.mem_append.mp hb with hb | hb
      · exact o3 a hb (List.mem_append_right _ ha)
      · exact o4 a hb (List.mem_append_left _ (List.mem_append_right _ ha))
    · subst e
      rcases List.mem_append.mp hb with hb | hb
      · exact o2 a hb ha
      · rcases List.mem_append.mp hb with hb | hb
        · exact o3 a hb (List.mem_append_left _ ha)
        · exact o4 a hb (List.mem_append_left _ (List.mem_append_left _ ha))
  · have hx : x ∈ ms.map (·.1) ++ (cs.map (·.1) ++ (ss.map (·.1) ++ pp.map (·.1))) := hx
    rcases List.mem_append.mp hx with h | h
    · obtain ⟨r, hr, rfl⟩ := List.mem_map.mp h
      exact (m2 r hr).1
    · rcases List.mem_append.mp h with h | h
      · obtain ⟨r, hr, rfl⟩ := List.mem_map.mp h
        exact (c2 r hr).1
      · rcases List.mem_append.mp h with h | h
        · obtain ⟨r, hr, rfl⟩ := List.mem_map.mp h
          exact (s2 r hr).1
        · obtain ⟨r, hr, rfl⟩ := List.mem_map.mp h
          exact (p2 r hr).1
end LJ
set_option Elab.async false
set_option linter.all false
set_option maxRecDepth 100000
set_option maxHeartbeats 8000000
namespace LJ
open PySem PySem.Spec L2 PySem.ErrV
open LamX (ExtN TabB)
open NdefX (NTab TabsN)
open OwnX
/-! _check and Works.__init__ over any values: errors with no context; the made works' text. -/
theorem Fun.okCC {CX : CXT} {P : Program} {w : World} {x qual : Str} {st : Stmt} {f c : Addr} {fd : FuncData} {N ps : List Str} {k : Nat} {sp : Sp} {K : PySem.W.Frag} {mg : Str → Option Value} {base : Heap} (F : Fun K x qual st f fd) (hc : fd.code = .ref c) (S : FnScope N ps (defScope st)) (len : ∀ vs H Q E, sp vs H Q E → vs.length = ps.length)
    (hbody : ∀ (A : Around) (outer : List Env) (s : Shared) (H : Hp) (vs : List V) (Q : VK) (E : XK), Room k (A.deeper (PyProof.Rows.envOfC qual (defScope st) s.heap.objs.size f (.ref c))) → sp vs H Q E →
      ∃ t, PSs (cxOf CX P w K mg base N qual (defScope st) f (.ref c) A outer s H E) (defBody st) t ∧ t { nx := fun _ H1 => Q .non H1, rt := Q } (start N vs) H) : FnOk P w K mg base CX (k + 1) f fd ps sp := by
  obtain ⟨oc, od, kV, doc, pm, an, cdv, ct, osl, rfl, lk, hcd⟩ := F.ex
  obtain rfl : cdv = .ref c := hc
  exact fn_of lk hcd S len fun A outer s H vs Q E hr hsp => hbody A outer s H vs Q E hr hsp
def spInitX (K : PySem.W.Frag) (C : Addr) (ce : Nat → Addr) (T : List NTab) : Sp := fun vs H Q E => ∃ (x dx : Addr) (x1 x2 x3 x4 : V), vs = [.ref x, x1, x2, x3, x4] ∧ H x = some (.ins C dx []) ∧ Deep K H 2 x1 ∧ Deep K H 2 x2 ∧ Deep K H 2 x3 ∧ Deep K H 4 x4 ∧ TabsN T H ∧
  (due4 H x1 x2 x3 x4 = none → ∀ (W : Wd) H1, (∀ b o, b ≠ x → H b = some o → (∀ ps, o ≠ .tbl ps) → H1 b = some o) → TabsN T H1 → TextOf C H1 x (wtext W) → GoodF W → Q .non H1) ∧
  (∀ k v, due4 H x1 x2 x3 x4 = some (k, v) → ∀ H1 d, ExtN H H1 → TabsN T H1 → H1 d = some (.xd [(("index" : Str), v)]) → E (.ref (ce k)) (some d) H1)
section
variable {P : Program} {w : World} {K : PySem.W.Frag} {mg : Str → Option Value} {base : Heap} {ce : Nat → Addr}
theorem ok_check4N {f fF fS fL fC c Pt : Addr} {fd fdF fdC : FuncData} {u1 u2 u3 u4 : Value} {T : List NTab} (F : Fun K "_check" "_check" sCheck f fd) (hcode : fd.code = .ref c) (TB : TabB base mg c Pt) (inT : (Pt, lamName) ∈ T) (only : ∀ r ∈ T, r.1 = Pt → r.2 = lamName) (B : BltI mg)
    (e0 : Er1 K mg "InvalidMachines" (ce 0)) (e1 : Er1 K mg "InvalidCleanings" (ce 1)) (e2 : Er1 K mg "InvalidStuffs" (ce 2)) (e3 : Er1 K mg "InvalidProducts" (ce 3))
    (FF : Fun K "_first_wrong" "_first_wrong" sFirst fF fdF) (GF : FnOk P w K mg base CX0 4 fF fdF pFirst (spFw K fS fL)) (mF : mg "_first_wrong" = some (.ref fF)) (kF : PySem.W.keepIn K (.ref fF) = true) (bF : Binds K fdF pFirst [])
    (GC : FnOk P w K mg base CX0 3 fC fdC ["row", "many"] (spCont K)) (mC : mg "_has_contents" = some (.ref fC)) (kC : PySem.W.keepIn K (.ref fC) = true) (bC : Binds K fdC ["row", "many"] [])
    (mS : mg "_has_shares" = some (.ref fS)) (mL : mg "_has_limit" = some (.ref fL))
    (m1 : mg "MOST_MACHINES" = some u1) (r1 : RelV (.int 6) u1) (m2 : mg "MOST_CLEANINGS" = some u2) (r2 : RelV (.int 6) u2) (m3 : mg "MOST_STUFFS" = some u3) (r3 : RelV (.int 3) u3) (m4 : mg "MOST_PRODUCTS" = some u4) (r4 : RelV (.int 8) u4) :
    FnOk P w K mg base (L2N.CX P w) 6 f fd pCheck (spCheck4 K ce T) := by
  refine Fun.okCC F hcode scCheck (fun vs H Q E h => ?_) (fun A outer s H vs Q E hr h => ?_)
  · obtain ⟨x1, x2, x3, x4, rfl, _⟩ := h
    rfl
  · obtain ⟨x1, x2, x3, x4, rfl, d1, d2, d3, d4, tabs, good, bad⟩ := h
    have hr4 : Room 4 _ := hr.mono (by decide)
    have hr1 : Room 1 _ := hr.mono (by decide)
    obtain ⟨f0, b0, T0, B0⟩ := e0.c
    obtain ⟨f1, b1, T1, B1⟩ := e1.c
    obtain ⟨f2, b2, T2, B2⟩ := e2.c
    obtain ⟨f3, b3, T3, B3⟩ := e3.c
    refine ⟨_, pss_cons (ps_set (i := 4) scCheck.nd rfl (Or.inl rfl) (pe_call GF hr4 (by rfl) mF kF bF .nil pass0 (pa_cons (pv 0) (pa_cons (pe_tup pa_nil) (pa_cons pe_int (pa_cons (pe_glob (by rfl) m1 r1) (pa_cons (pe_glob (v := .ref fS) (by rfl) mS rfl) pa_nil)))))))
      (pss_cons (ps_if (pt_truth (pv 4) (fun _ => rfl)) (pss_one (ps_raiseEN rfl (.inr rfl) T0 B0 e0.exC e0.tyC hr1 (L2N.takes_of rfl rfl rfl rfl) (pa_cons (pe_ix ix_tup (pv 4) pe_int (fun _ _ => rfl)) pa_nil) (by rfl))) pss_nil)
      (pss_cons (ps_set (i := 4) scCheck.nd rfl (Or.inl rfl) (pe_call GF hr4 (by rfl) mF kF bF .nil pass0 (pa_cons (pv 1) (pa_cons (pv 0) (pa_cons pe_int (pa_cons (pe_glob (by rfl) m2 r2) (pa_cons (pe_glob (v := .ref fS) (by rfl) mS rfl) pa_nil)))))))
      (pss_cons (ps_if (pt_truth (pv 4) (fun _ => rfl)) (pss_one (ps_raiseEN rfl (.inr rfl) T1 B1 e1.exC e1.tyC hr1 (L2N.takes_of rfl rfl rfl rfl) (pa_cons (pe_ix ix_tup (pv 4) pe_int (fun _ _ => rfl)) pa_nil) (by rfl))) pss_nil)
      (pss_cons (ps_set (i := 4) scCheck.nd rfl (Or.inl rfl) (pe_call GF hr4 (by rfl) mF kF bF .nil pass0 (pa_cons (pv 2) (pa_cons (pe_op op_catT (pv 0) (pv 1)) (pa_cons pe_int (pa_cons (pe_glob (by rfl) m3 r3) (pa_cons (pe_glob (v := .ref fL) (by rfl) mL rfl) pa_nil)))))))
      (pss_cons (ps_if (pt_truth (pv 4) (fun _ => rfl)) (pss_one (ps_raiseEN rfl (.inr rfl) T2 B2 e2.exC e2.tyC hr1 (L2N.takes_of rfl rfl rfl rfl) (pa_cons (pe_ix ix_tup (pv 4) pe_int (fun _ _ => rfl)) pa_nil) (by rfl))) pss_nil)
      (pss_cons (ps_set (i := 5) scCheck.nd rfl (Or.inr rfl) (pe_callB call_len_seq (by rfl) B.len (by decide +kernel) (pa_cons (pv 2) pa_nil)))
      (pss_cons (ps_set (i := 4) scCheck.nd rfl (Or.inl rfl) (pe_fwl (params := lamParams lamE) (body := lamBody lamE) (scope := lamScope lamE) FF B (hr.mono (by decide)) (by rfl) mF kF bF GC mC kC bC rfl (NdefX.ndef_free (sc := defScope sCheck) (fr := ["many"]) (by decide +kernel)) (NdefX.ndef_fr (sc := defScope sCheck) (by decide +kernel)) rfl (NdefX.nscope_by (by decide +kernel)) rfl
          (fun _ _ _ _ _ _ us hl => match us, hl with | [_], _ => rfl)
          (pa_cons (pv 3) (pa_cons (pe_op op_catT (pe_op op_catT (pv 0) (pv 1)) (pv 2)) (pa_cons pe_int (pa_cons (pe_glob (by rfl) m4 r4) (pa_cons (LamV.pe_lam TB rfl inT rfl only rfl (NdefX.ndef_free (sc := defScope sCheck) (fr := ["many"]) (by decide +kernel))) pa_nil)))))))
      (pss_one (ps_if (pt_truth (pv 4) (fun _ => rfl)) (pss_one (ps_raiseEN rfl (.inr rfl) T3 B3 e3.exC e3.tyC hr1 (L2N.takes_of rfl rfl rfl rfl) (pa_cons (pe_ix ix_tup (pv 4) pe_int (fun _ _ => rfl)) pa_nil) (by rfl))) pss_nil))))))))), ?_⟩
    clear hr4 hr1 hr
    have le0 : ([] : List V).length ≤ sizeLine := Nat.zero_le _
    refine ⟨_, rfl, le0, fun p0 np0 => ?_⟩
    have x0 : Ex H (upd H p0 (.tup [])) := Ex.refl.new np0
    have t0 := TabsN.exs tabs x0
    have h0 : (upd H p0 (.tup [])) p0 = some (.tup []) := upd_same
    generalize upd H p0 (.tup []) = H0 at x0 t0 h0 ⊢
    refine ⟨x1, p0, [], [], 1, 6, fS, sharesOf, rfl, ⟨h0, .nil, by decide, by decide, by decide, by decide⟩, d1.exN x0.n, .inl ⟨rfl, rfl⟩, fun p1 H1 y1 np1 h1 => ?_⟩
    rw [fw_exN d1.kn x0.n (R := onTup sharesOf H) fun xs hx v hv => ⟨onTup_exN (d1.2 xs hx v hv).kn x0.n, nameOf_exN (d1.2 xs hx v hv).kn x0.n⟩] at h1
    have t1 := TabsN.exs t0 y1
    have n1 := x0.trans y1
    rcases fw_two (R := onTup sharesOf H) (nm := nameOf H) (few := 1) (most := 6) (tk := []) (o := tupOf H x1) with z1 | ⟨v, z1⟩
    case inr =>
      rw [z1] at h1
      refine ⟨_, rfl, true, .inr (.inl ⟨_, SqT.of h1, rfl⟩), ?_⟩
      refine ⟨_, rfl, p1, _, 0, v, rfl, rfl, SqT.of h1, atI_nat (j := 0) rfl, ?_⟩
      refine ⟨v, rfl, fun d nd => bad 0 v (by unfold due4; rw [z1]) _ d (n1.new nd).n (t1.ext (Ex.refl.new nd)) upd_same⟩
    rw [z1] at h1
    refine ⟨_, rfl, false, .inr (.inl ⟨[], SqT.of h1, rfl⟩), ?_⟩
    obtain ⟨xm, hx1, lm, w1⟩ := fw_let z1
    obtain ⟨am, rfl, ha⟩ := tup_ref hx1
    obtain ⟨rm, km⟩ := fwAt_all (by decide) w1
    have nm := fun v hv => named_of heads_shares (rm v hv)
    have m1 := (names_of ha).1
    refine ⟨_, rfl, _, rfl, x2, am, xm, xm.map (nameOf H), 0, 6, fS, sharesOf, rfl, ⟨n1 _ _ ha, paired_at n1.n nm, by decide, by decide, by decide, by omega⟩, d2.exN n1.n, .inl ⟨rfl, rfl⟩, fun p2 H2 y2 np2 h2 => ?_⟩
    rw [fw_exN d2.kn n1.n (R := onTup sharesOf H) fun xs hx v hv => ⟨onTup_exN (d2.2 xs hx v hv).kn n1.n, nameOf_exN (d2.2 xs hx v hv).kn n1.n⟩] at h2
    have t2 := TabsN.exs t1 y2
    have n2 := n1.trans y2
    rcases fw_two (R := onTup sharesOf H) (nm := nameOf H) (few := 0) (most := 6) (tk := xm.map (nameOf H)) (o := tupOf H x2) with z2 | ⟨v, z2⟩
    case inr =>
      rw [z2] at h2
      refine ⟨_, rfl, true, .inr (.inl ⟨_, SqT.of h2, rfl⟩), ?_⟩
      refine ⟨_, rfl, p2, _, 0, v, rfl, rfl, SqT.of h2, atI_nat (j := 0) rfl, ?_⟩
      refine ⟨v, rfl, fun d nd => bad 1 v (by unfold due4; rw [z1]; simp only; rw [m1, z2]) _ d (n2.new nd).n (t2.ext (Ex.refl.new nd)) upd_same⟩
    rw [z2] at h2
    refine ⟨_, rfl, false, .inr (.inl ⟨[], SqT.of h2, rfl⟩), ?_⟩
    obtain ⟨xc, hx2, lc, w2⟩ := fw_let z2
    obtain ⟨ac, rfl, hc⟩ := tup_ref hx2
    obtain ⟨rc, kc⟩ := fwAt_all (by decide) w2
    have nc := fun v hv => named_of heads_shares (rc v hv)
    have m2 := (names_of hc).1
    have ne : xm ≠ [] := fun z => by
      rw [z] at lm
      exact absurd lm (by decide)
    have nmc : ∀ v ∈ xm ++ xc, Named H v (nameOf H v) := fun v hv => (List.mem_append.mp hv).elim (nm v) (nc v)
    refine ⟨_, rfl, _, rfl, _, rfl, rd_cat (n2 _ _ ha) (n2 _ _ hc) ne (by omega) fun pc H3 y3 h3 => ?_⟩
    have t3 := TabsN.exs t2 y3
    have n3 := n2.trans y3
    refine ⟨x3, pc, xm ++ xc, (xm ++ xc).map (nameOf H), 1, 3, fL, limOf, rfl, ⟨h3, paired_at n3.n nmc, by decide, by decide, by decide, by rw [List.length_append]; omega⟩, d3.exN n3.n, .inr ⟨rfl, rfl⟩, fun p4 H4 y4 np4 h4 => ?_⟩
    rw [fw_exN d3.kn n3.n (R := onTup limOf H) fun xs hx v hv => ⟨onTup_exN (d3.2 xs hx v hv).kn n3.n, nameOf_exN (d3.2 xs hx v hv).kn n3.n⟩] at h4
    have t4 := TabsN.exs t3 y4
    have n4 := n3.trans y4
    rcases fw_two (R := onTup limOf H) (nm := nameOf H) (few := 1) (most := 3) (tk := (xm ++ xc).map (nameOf H)) (o := tupOf H x3) with z3 | ⟨v, z3⟩
    case inr =>
      rw [z3] at h4
      refine ⟨_, rfl, true, .inr (.inl ⟨_, SqT.of h4, rfl⟩), ?_⟩
      refine ⟨_, rfl, p4, _, 0, v, rfl, rfl, SqT.of h4, atI_nat (j := 0) rfl, ?_⟩
      refine ⟨v, rfl, fun d nd => bad 2 v (by unfold due4; rw [z1]; simp only; rw [m1, z2]; simp only; rw [m2, ← List.map_append, z3]) _ d (n4.new nd).n (t4.ext (Ex.refl.new nd)) upd_same⟩
    rw [z3] at h4
    refine ⟨_, rfl, false, .inr (.inl ⟨[], SqT.of h4, rfl⟩), ?_⟩
    obtain ⟨xs, hx3, ls, w3⟩ := fw_let z3
    obtain ⟨as, rfl, hs⟩ := tup_ref hx3
    obtain ⟨rs, ks⟩ := fwAt_all (by decide) w3
    have ns := fun v hv => named_of heads_lim (rs v hv)
    have m3 := (names_of hs).1
    have l3 := (names_of hs).2
    have n5 : ∀ v ∈ xm ++ xc ++ xs, Named H v (nameOf H v) := fun v hv => (List.mem_append.mp hv).elim (nmc v) (ns v)
    refine ⟨_, rfl, as, xs, rfl, .inr (SqT.of (n4 _ _ hs)), ?_⟩
    refine ⟨_, rfl, _, rfl, _, rfl, rd_cat (n4 _ _ ha) (n4 _ _ hc) ne (by omega) fun pd H5 y5 h5 => ?_⟩
    have t5 := TabsN.exs t4 y5
    have k5 := n4.trans y5
    have ne2 : xm ++ xc ≠ [] := fun z => ne (List.append_eq_nil_iff.mp z).1
    refine ⟨_, rfl, rd_cat h5 (k5 _ _ hs) ne2 (by rw [List.length_append]; omega) fun pe H6 y6 h6 => ?_⟩
    have t6 := TabsN.exs t5 y6
    have k6 := k5.trans y6
    refine ⟨t6, fun fl c1 H7 x7 _ t7 _ efl ec1 => ?_⟩
    have n7 : ExtN H H7 := k6.n.trans x7
    refine ⟨x4, pe, xm ++ xc ++ xs, (xm ++ xc ++ xs).map (nameOf H), 1, 8, xs.length, fl, c1, rfl, ⟨tup_n x7 h6, paired_at n7 n5, by decide, by decide, by decide, by rw [List.length_append, List.length_append]; omega⟩, d4.exN n7, rfl, efl, ec1, fun p8 H8 y8 np8 h8 => ?_⟩
    rw [fw_exN d4.kn n7 (R := onTup (contOf H xs.length) H) fun ys hx v hv => ⟨cont_exN (d4.2 ys hx v hv) n7, nameOf_exN (d4.2 ys hx v hv).kn n7⟩] at h8
    have t8 := TabsN.exs t7 y8
    have n8 : ExtN H H8 := n7.trans y8.n
    have m5 : xm.map (nameOf H) ++ xc.map (nameOf H) ++ xs.map (nameOf H) = (xm ++ xc ++ xs).map (nameOf H) := by
      rw [List.map_append, List.map_append]
    rcases fw_two (R := onTup (contOf H xs.length) H) (nm := nameOf H) (few := 1) (most := 8) (tk := (xm ++ xc ++ xs).map (nameOf H)) (o := tupOf H x4) with z4 | ⟨v, z4⟩
    case inr =>
      rw [z4] at h8
      refine ⟨_, rfl, true, .inr (.inl ⟨_, SqT.of h8, rfl⟩), ?_⟩
      refine ⟨_, rfl, p8, _, 0, v, rfl, rfl, SqT.of h8, atI_nat (j := 0) rfl, ?_⟩
      refine ⟨v, rfl, fun d nd => bad 3 v (by unfold due4; rw [z1]; simp only; rw [m1, z2]; simp only; rw [m2, ← List.map_append, z3]; simp only; rw [List.map_append, m3, l3, m5, z4]) _ d (n8.trans (Ex.refl.new nd).n) (t8.ext (Ex.refl.new nd)) upd_same⟩
    rw [z4] at h8
    refine ⟨_, rfl, false, .inr (.inl ⟨[], SqT.of h8, rfl⟩), ?_⟩
    obtain ⟨xp, hx4, lp, w4⟩ := fw_let z4
    obtain ⟨ap, rfl, hp⟩ := tup_ref hx4
    exact good (by unfold due4; rw [z1]; simp only; rw [m1, z2]; simp only; rw [m2, ← List.map_append, z3]; simp only; rw [List.map_append, m3, l3, m5, z4]) am ac as ap xm xc xs xp rfl rfl rfl rfl
      ⟨ha, hc, hs, hp, d1, d2, d3, d4, by omega, by omega, by omega, w1, w2, w3, w4⟩ H8 n8 t8
theorem ok_init4N {f fC fB fT C : Addr} {fd fdC fdB fdT : FuncData} {T : List NTab} (F : Fun K "__init__" "Works.__init__" sInit f fd) (c : WCls K C)
    (GC : FnOk P w K mg base (L2N.CX P w) 6 fC fdC pCheck (spCheck4 K ce T)) (mC : mg "_check" = some (.ref fC)) (kC : PySem.W.keepIn K (.ref fC) = true) (bC : Binds K fdC pCheck [])
    (GB : FnOk P w K mg base CX0 1 fB fdB ["stuffs", "contents"] spBy) (mB : mg "_by_stuff" = some (.ref fB)) (kB : PySem.W.keepIn K (.ref fB) = true) (bB : Binds K fdB ["stuffs", "contents"] [])
    (GT : FnOk P w K mg base CX0 2 fT fdT ["machines", "cleanings", "stuffs", "products"] spText) (mT : mg "_text_of" = some (.ref fT)) (kT : PySem.W.keepIn K (.ref fT) = true) (bT : Binds K fdT ["machines", "cleanings", "stuffs", "products"] []) :
    FnOk P w K mg base (L2N.CX P w) 7 f fd pInit (spInitX K C ce T) := by
  refine F.okC scInit (fun vs H Q E h => ?_) (fun cdv A outer s H vs Q E hr h => ?_)
  · obtain ⟨x, dx, x1, x2, x3, x4, rfl, _⟩ := h
    rfl
  · obtain ⟨x, dx, x1, x2, x3, x4, rfl, hx, d1, d2, d3, d4, tabs, q, bad⟩ := h
    have hr1 : Room 1 _ := hr.mono (by decide)
    have hr2 : Room 2 _ := hr.mono (by decide)
    refine ⟨_, pss_cons (ps_expr (pe_call GC hr (by rfl) mC kC bC .nil (L2N.passes_call (W := fun cls d _ H => E cls d H) (L2N.takes_of rfl rfl rfl rfl) (fun _ _ _ _ z => z)) (pa_cons (pv 1) (pa_cons (pv 2) (pa_cons (pv 3) (pa_cons (pv 4) pa_nil))))))
      (pss_cons (ps_fld (pv 0) (pv 1) rfl)
      (pss_cons (ps_fld (pv 0) (pv 2) rfl)
      (pss_cons (ps_fld (pv 0) (pv 3) rfl)
      (pss_cons (ps_fld (pv 0) (pv 4) rfl)
      (pss_cons (ps_fld (pv 0) (pe_dc (own := [("name", 5), ("low", 6), ("high", 7)]) (g := gTup K 3 (gCons (gName 5) (gCons (gName 6) (gCons (gName 7) gNil)))) (by rfl) scInit.nd (pi_tup (pv 1)) (blkOk_by (own := [("name", 5), ("low", 6), ("high", 7)]) (N := nInit) (sc := defScope sInit) (by decide +kernel))
          (fun _ _ _ _ _ => pg_tup (by rfl) (pgs_cons (pg_name (i := 5) scInit.nd rfl (Or.inl rfl)) (pgs_cons (pg_name (i := 6) scInit.nd rfl (Or.inl rfl)) (pgs_cons (pg_name (i := 7) scInit.nd rfl (Or.inl rfl)) pgs_nil)))) (fun _ _ _ _ _ => pts_nil)
          (fun _ _ _ _ _ => pv 5) (fun _ _ _ _ _ => pe_tup (pa_cons (pv 6) (pa_cons (pv 7) pa_nil)))) rfl)
      (pss_cons (ps_fld (pv 0) (pe_dc (own := [("name", 5), ("low", 6), ("high", 7)]) (g := gTup K 3 (gCons (gName 5) (gCons (gName 6) (gCons (gName 7) gNil)))) (by rfl) scInit.nd (pi_tup (pv 2)) (blkOk_by (own := [("name", 5), ("low", 6), ("high", 7)]) (N := nInit) (sc := defScope sInit) (by decide +kernel))
          (fun _ _ _ _ _ => pg_tup (by rfl) (pgs_cons (pg_name (i := 5) scInit.nd rfl (Or.inl rfl)) (pgs_cons (pg_name (i := 6) scInit.nd rfl (Or.inl rfl)) (pgs_cons (pg_name (i := 7) scInit.nd rfl (Or.inl rfl)) pgs_nil)))) (fun _ _ _ _ _ => pts_nil)
          (fun _ _ _ _ _ => pv 5) (fun _ _ _ _ _ => pe_tup (pa_cons (pv 6) (pa_cons (pv 7) pa_nil)))) rfl)
      (pss_cons (ps_fld (pv 0) (pe_dc (own := [("name", 5), ("most", 8)]) (g := gTup K 2 (gCons (gName 5) (gCons (gName 8) gNil))) (by rfl) scInit.nd (pi_tup (pv 3)) (blkOk_by (own := [("name", 5), ("most", 8)]) (N := nInit) (sc := defScope sInit) (by decide +kernel))
          (fun _ _ _ _ _ => pg_tup (by rfl) (pgs_cons (pg_name (i := 5) scInit.nd rfl (Or.inl rfl)) (pgs_cons (pg_name (i := 8) scInit.nd rfl (Or.inl rfl)) pgs_nil))) (fun _ _ _ _ _ => pts_nil)
          (fun _ _ _ _ _ => pv 5) (fun _ _ _ _ _ => pv 8)) rfl)
      (pss_cons (ps_fld (pv 0) (pe_dc (own := [("name", 5), ("contents", 9)]) (g := gTup K 2 (gCons (gName 5) (gCons (gName 9) gNil))) (by rfl) scInit.nd (pi_tup (pv 4)) (blkOk_by (own := [("name", 5), ("contents", 9)]) (N := nInit) (sc := defScope sInit) (by decide +kernel))
          (fun _ _ _ _ _ => pg_tup (by rfl) (pgs_cons (pg_name (i := 5) scInit.nd rfl (Or.inl rfl)) (pgs_cons (pg_name (i := 9) scInit.nd rfl (Or.inl rfl)) pgs_nil))) (fun _ _ _ _ _ => pts_nil)
          (fun _ _ _ _ _ => pv 5) (fun _ _ _ _ _ => pe_call GB hr1 (by rfl) mB kB bB .nil pass0 (pa_cons (pv 3) (pa_cons (pv 9) pa_nil)))) rfl)
      (pss_one (ps_fld (pv 0) (pe_call GT hr2 (by rfl) mT kT bT .nil pass0 (pa_cons (pv 1) (pa_cons (pv 2) (pa_cons (pv 3) (pa_cons (pv 4) pa_nil))))) rfl)))))))))), ?_⟩
    have two : 2 ≤ sizeLine := by
      rw [sizeLine_eq]
      decide
    have few : ∀ {n : Nat}, n < 100 → n < 1000 := fun h => by omega
    refine ⟨_, rfl, _, rfl, _, rfl, _, rfl, x1, x2, x3, x4, rfl, d1, d2, d3, d4, tabs, fun hd am ac as ap vm vc vs2 vp ea eb ec ed fit H1 x1 tabs1 => ?_, bad⟩
    subst ea eb ec ed
    obtain ⟨W, pm, pc, ps, pp, T1, same, gd⟩ := fit_good fit
    have l1 : vm.length = W.ms.length := Paired.size pm
    have l2 : vc.length = W.cs.length := Paired.size pc
    have l3 : vs2.length = W.ss.length := Paired.size ps
    have l4 : vp.length = W.ps.length := Paired.size pp
    have w1 := T1.lm
    have w2 := T1.lc
    have w3 := T1.ls
    have w4 := T1.lp
    have hx1 : H1 x = some (.ins C dx []) := x1 _ _ hx fun _ z => nomatch z
    have fit1 := fit.exN x1
    have tt1 : Tup H H1 := fun a xs e => tup_n x1 e
    have pm1 := rows3 tt1 pm
    have pc1 := rows3 tt1 pc
    have ps1 := rows2 tt1 ps
    have pp1 := rowsP tt1 pp
    refine ⟨_, rfl, _, rfl, x, C, dx, _, rfl, hx1, c.cl, c.n1, few (by decide), ?_⟩
    refine ⟨_, rfl, _, rfl, x, C, dx, _, rfl, upd_same, c.cl, c.n2, (by decide : (1 : Nat) < 1000), ?_⟩
    refine ⟨_, rfl, _, rfl, x, C, dx, _, rfl, upd_same, c.cl, c.n3, (by decide : (2 : Nat) < 1000), ?_⟩
    refine ⟨_, rfl, _, rfl, x, C, dx, _, rfl, upd_same, c.cl, c.n4, (by decide : (3 : Nat) < 1000), ?_⟩
    rw [upd_upd, upd_upd, upd_upd]
    show tSeq _ _ _ _ (upd H1 x (.ins C dx [("_machines", .ref am), ("_cleanings", .ref ac), ("_stuffs", .ref as), ("_products", .ref ap)]))
    have B4 : But x H1 (upd H1 x (.ins C dx [("_machines", .ref am), ("_cleanings", .ref ac), ("_stuffs", .ref as), ("_products", .ref ap)])) := But.self
    have X4 : (upd H1 x (.ins C dx [("_machines", .ref am), ("_cleanings", .ref ac), ("_stuffs", .ref as), ("_products", .ref ap)])) x = some (.ins C dx [("_machines", .ref am), ("_cleanings", .ref ac), ("_stuffs", .ref as), ("_products", .ref ap)]) := upd_same
    generalize upd H1 x (.ins C dx [("_machines", .ref am), ("_cleanings", .ref ac), ("_stuffs", .ref as), ("_products", .ref ap)]) = H4 at B4 X4 ⊢
    have t4 := But.tup hx1 B4
    have pm4 := rows3 t4 pm1
    have hm4 := t4 _ _ fit1.m
    refine ⟨_, rfl, am, rfl, ⟨vm, SqT.of hm4⟩, fun D1 n1 => dc_it walk_tup (fun i G => Ex H4 G ∧ ∃ vals : List V, vals.length = i ∧ Paired (Bnd G) vals ((W.ms.map (·.2)).take i) ∧ G D1 = some (.dK (mergeK [] (under ((W.ms.map (·.1)).take i) vals)))) ⟨Ex.refl.new n1, [], rfl, .nil, upd_same⟩ (fun i G _ h => SqT.of (h.1 _ _ hm4)) ?_ ?_⟩
    · rintro i v _ G hi ⟨xG, vals, vl, pv, eG⟩ ⟨rfl, hv⟩
      obtain ⟨⟨n, lo, up⟩, hr, a, rfl, ha⟩ := Paired.spot pm4 hv
      have e : G a = some (.tup [.str n, .int lo, .int up]) := xG _ _ ha
      have hn : (W.ms.map (·.1))[i]? = some n := by
        rw [List.getElem?_map, hr]
        rfl
      have hb : (W.ms.map (·.2))[i]? = some (lo, up) := by
        rw [List.getElem?_map, hr]
        rfl
      refine ⟨a, _, rfl, SqT.of e, rfl, _, _, rfl, _, _, rfl, _, _, rfl, rfl, rfl, ?_⟩
      refine ⟨_, rfl, _, rfl, _, rfl, two, fun p np => ?_⟩
      have nDp : D1 ≠ p := ne_of_none eG np
      have eD : (upd G p (.tup [.int lo, .int up])) D1 = some (.dK (mergeK [] (under ((W.ms.map (·.1)).take i) vals))) := by
        rw [upd_ne nDp]
        exact eG
      refine ⟨_, .inr n, rfl, eD, ?_, (xG.new np).put n1, vals ++ [.ref p], by rw [List.length_append, vl]; rfl, ?_, ?_⟩
      · have m := merge_len (more := under ((W.ms.map (·.1)).take i) vals) (kvs := [])
        have m2 : (under ((W.ms.map (·.1)).take i) vals).length ≤ i := by
          unfold under
          rw [List.length_map, List.length_zip, vl]
          exact Nat.min_le_right _ _
        rw [List.length_nil] at m
        rw [sizeLine_eq]
        omega
      · have tt : Tup G (upd (upd G p (.tup [.int lo, .int up])) D1 (.dK (putK (mergeK [] (under ((W.ms.map (·.1)).take i) vals)) (.inr n) (.ref p)))) := fun b xs h => by
          rw [upd_ne (ne_of h eG fun z => nomatch z), upd_ne (ne_of_none h np)]
          exact h
        rw [List.take_succ, hb]
        exact Paired.snoc (bnds tt pv) ⟨p, rfl, by rw [upd_ne nDp.symm]; exact upd_same⟩
      · rw [upd_same, under_snoc hn vl, merge_snoc]
    rintro G1 ⟨xG1, b1, bl1, pb1, eG1⟩
    rw [List.take_of_length_le (by rw [List.length_map]; omega), ] at pb1
    rw [List.take_of_length_le (by rw [List.length_map]; omega)] at eG1
    refine ⟨_, rfl, x, C, dx, _, rfl, xG1 _ _ X4, c.cl, c.n5, (by decide : (4 : Nat) < 1000), ?_⟩
    show tSeq _ _ _ _ (upd G1 x (.ins C dx [("_machines", .ref am), ("_cleanings", .ref ac), ("_stuffs", .ref as), ("_products", .ref ap), ("_holds", .ref D1)]))
    have S5 : But x H4 (upd G1 x (.ins C dx [("_machines", .ref am), ("_cleanings", .ref ac), ("_stuffs", .ref as), ("_products", .ref ap), ("_holds", .ref D1)])) := But.trans (But.ex xG1) But.self
    have V5 : But x G1 (upd G1 x (.ins C dx [("_machines", .ref am), ("_cleanings", .ref ac), ("_stuffs", .ref as), ("_products", .ref ap), ("_holds", .ref D1)])) := But.self
    have X5 : (upd G1 x (.ins C dx [("_machines", .ref am), ("_cleanings", .ref ac), ("_stuffs", .ref as), ("_products", .ref ap), ("_holds", .ref D1)])) x = some (.ins C dx [("_machines", .ref am), ("_cleanings", .ref ac), ("_stuffs", .ref as), ("_products", .ref ap), ("_holds", .ref D1)]) := upd_same
    have XG5 := xG1 _ _ X4
    generalize upd G1 x (.ins C dx [("_machines", .ref am), ("_cleanings", .ref ac), ("_stuffs", .ref as), ("_products", .ref ap), ("_holds", .ref D1)]) = H5 at S5 V5 X5 ⊢
    have B5 : But x H1 H5 := But.trans B4 S5
    have t5 := But.tup hx1 B5
    have d1_5 := V5 _ _ (ne_of eG1 XG5 fun z => nomatch z) eG1
    have p1_5 := bnds (But.tup XG5 V5) pb1
    have pc5 := rows3 t5 pc1
    have hc5 := t5 _ _ fit1.c
    refine ⟨_, rfl, ac, rfl, ⟨vc, SqT.of hc5⟩, fun D2 n2 => dc_it walk_tup (fun i G => Ex H5 G ∧ ∃ vals : List V, vals.length = i ∧ Paired (Bnd G) vals ((W.cs.map (·.2)).take i) ∧ G D2 = some (.dK (mergeK [] (under ((W.cs.map (·.1)).take i) vals)))) ⟨Ex.refl.new n2, [], rfl, .nil, upd_same⟩ (fun i G _ h => SqT.of (h.1 _ _ hc5)) ?_ ?_⟩
    · rintro i v _ G hi ⟨xG, vals, vl, pv, eG⟩ ⟨rfl, hv⟩
      obtain ⟨⟨n, lo, up⟩, hr, a, rfl, ha⟩ := Paired.spot pc5 hv
      have e : G a = some (.tup [.str n, .int lo, .int up]) := xG _ _ ha
      have hn : (W.cs.map (·.1))[i]? = some n := by
        rw [List.getElem?_map, hr]
        rfl
      have hb : (W.cs.map (·.2))[i]? = some (lo, up) := by
        rw [List.getElem?_map, hr]
        rfl
      refine ⟨a, _, rfl, SqT.of e, rfl, _, _, rfl, _, _, rfl, _, _, rfl, rfl, rfl, ?_⟩
      refine ⟨_, rfl, _, rfl, _, rfl, two, fun p np => ?_⟩
      have nDp : D2 ≠ p := ne_of_none eG np
      have eD : (upd G p (.tup [.int lo, .int up])) D2 = some (.dK (mergeK [] (under ((W.cs.map (·.1)).take i) vals))) := by
        rw [upd_ne nDp]
        exact eG
      refine ⟨_, .inr n, rfl, eD, ?_, (xG.new np).put n2, vals ++ [.ref p], by rw [List.length_append, vl]; rfl, ?_, ?_⟩
      · have m := merge_len (more := under ((W.cs.map (·.1)).take i) vals) (kvs := [])
        have m2 : (under ((W.cs.map (·.1)).take i) vals).length ≤ i := by
          unfold under
          rw [List.length_map, List.length_zip, vl]
          exact Nat.min_le_right _ _
        rw [List.length_nil] at m
        rw [sizeLine_eq]
        omega
      · have tt : Tup G (upd (upd G p (.tup [.int lo, .int up])) D2 (.dK (putK (mergeK [] (under ((W.cs.map (·.1)).take i) vals)) (.inr n) (.ref p)))) := fun b xs h => by
          rw [upd_ne (ne_of h eG fun z => nomatch z), upd_ne (ne_of_none h np)]
          exact h
        rw [List.take_succ, hb]
        exact Paired.snoc (bnds tt pv) ⟨p, rfl, by rw [upd_ne nDp.symm]; exact upd_same⟩
      · rw [upd_same, under_snoc hn vl, merge_snoc]
    rintro G2 ⟨xG2, b2, bl2, pb2, eG2⟩
    rw [List.take_of_length_le (by rw [List.length_map]; omega), ] at pb2
    rw [List.take_of_length_le (by rw [List.length_map]; omega)] at eG2
    refine ⟨_, rfl, x, C, dx, _, rfl, xG2 _ _ X5, c.cl, c.n6, (by decide : (5 : Nat) < 1000), ?_⟩
    show tSeq _ _ _ _ (upd G2 x (.ins C dx [("_machines", .ref am), ("_cleanings", .ref ac), ("_stuffs", .ref as), ("_products", .ref ap), ("_holds", .ref D1), ("_keeps", .ref D2)]))
    have S6 : But x H5 (upd G2 x (.ins C dx [("_machines", .ref am), ("_cleanings", .ref ac), ("_stuffs", .ref as), ("_products", .ref ap), ("_holds", .ref D1), ("_keeps", .ref D2)])) := But.trans (But.ex xG2) But.self
    have V6 : But x G2 (upd G2 x (.ins C dx [("_machines", .ref am), ("_cleanings", .ref ac), ("_stuffs", .ref as), ("_products", .ref ap), ("_holds", .ref D1), ("_keeps", .ref D2)])) := But.self
    have X6 : (upd G2 x (.ins C dx [("_machines", .ref am), ("_cleanings", .ref ac), ("_stuffs", .ref as), ("_products", .ref ap), ("_holds", .ref D1), ("_keeps", .ref D2)])) x = some (.ins C dx [("_machines", .ref am), ("_cleanings", .ref ac), ("_stuffs", .ref as), ("_products", .ref ap), ("_holds", .ref D1), ("_keeps", .ref D2)]) := upd_same
    have XG6 := xG2 _ _ X5
    generalize upd G2 x (.ins C dx [("_machines", .ref am), ("_cleanings", .ref ac), ("_stuffs", .ref as), ("_products", .ref ap), ("_holds", .ref D1), ("_keeps", .ref D2)]) = H6 at S6 V6 X6 ⊢
    have B6 : But x H1 H6 := But.trans B5 S6
    have t6 := But.tup hx1 B6
    have d2_6 := V6 _ _ (ne_of eG2 XG6 fun z => nomatch z) eG2
    have p2_6 := bnds (But.tup XG6 V6) pb2
    have d1_6 := S6 _ _ (ne_of d1_5 X5 fun z => nomatch z) d1_5
    have p1_6 := bnds (But.tup X5 S6) p1_5
    have ps6 := rows2 t6 ps1
    have hs6 := t6 _ _ fit1.s
    refine ⟨_, rfl, as, rfl, ⟨vs2, SqT.of hs6⟩, fun D3 n3 => dc_it walk_tup (fun i G => Ex H6 G ∧ G D3 = some (.dK (mergeK [] (under ((W.ss.map (·.1)).take i) ((W.ss.map fun r => V.int r.2).take i))))) ⟨Ex.refl.new n3, upd_same⟩ (fun i G _ h => SqT.of (h.1 _ _ hs6)) ?_ ?_⟩
    · rintro i v _ G hi ⟨xG, eG⟩ ⟨rfl, hv⟩
      obtain ⟨⟨n, m⟩, hr, a, rfl, ha⟩ := Paired.spot ps6 hv
      have e : G a = some (.tup [.str n, .int m]) := xG _ _ ha
      have hn : (W.ss.map (·.1))[i]? = some n := by
        rw [List.getElem?_map, hr]
        rfl
      have hb : (W.ss.map fun r => V.int r.2)[i]? = some (.int m) := by
        rw [List.getElem?_map, hr]
        rfl
      have il : i < W.ss.length := (List.getElem?_eq_some_iff.mp hr).1
      have vl : ((W.ss.map fun r => V.int r.2).take i).length = i := by
        rw [List.length_take, List.length_map]
        omega
      refine ⟨a, _, rfl, SqT.of e, rfl, _, _, rfl, _, _, rfl, rfl, rfl, ?_⟩
      refine ⟨_, rfl, _, rfl, _, .inr n, rfl, eG, ?_, xG.put n3, ?_⟩
      · have m := merge_len (more := under ((W.ss.map (·.1)).take i) ((W.ss.map fun r => V.int r.2).take i)) (kvs := [])
        have m2 : (under ((W.ss.map (·.1)).take i) ((W.ss.map fun r => V.int r.2).take i)).length ≤ i := by
          unfold under
          rw [List.length_map, List.length_zip, vl]
          exact Nat.min_le_right _ _
        rw [List.length_nil] at m
        rw [sizeLine_eq]
        omega
      · rw [upd_same, List.take_succ (l := W.ss.map fun r => V.int r.2), hb]
        show _ = some (HO.dK (mergeK [] (under ((W.ss.map (·.1)).take (i + 1)) ((W.ss.map fun r => V.int r.2).take i ++ [.int m]))))
        rw [under_snoc hn vl, merge_snoc]
    rintro G3 ⟨xG3, eG3⟩
    rw [List.take_of_length_le (by rw [List.length_map]; omega), List.take_of_length_le (by rw [List.length_map]; omega)] at eG3
    refine ⟨_, rfl, x, C, dx, _, rfl, xG3 _ _ X6, c.cl, c.n7, (by decide : (6 : Nat) < 1000), ?_⟩
    show tSeq _ _ _ _ (upd G3 x (.ins C dx [("_machines", .ref am), ("_cleanings", .ref ac), ("_stuffs", .ref as), ("_products", .ref ap), ("_holds", .ref D1), ("_keeps", .ref D2), ("_limits", .ref D3)]))
    have S7 : But x H6 (upd G3 x (.ins C dx [("_machines", .ref am), ("_cleanings", .ref ac), ("_stuffs", .ref as), ("_products", .ref ap), ("_holds", .ref D1), ("_keeps", .ref D2), ("_limits", .ref D3)])) := But.trans (But.ex xG3) But.self
    have V7 : But x G3 (upd G3 x (.ins C dx [("_machines", .ref am), ("_cleanings", .ref ac), ("_stuffs", .ref as), ("_products", .ref ap), ("_holds", .ref D1), ("_keeps", .ref D2), ("_limits", .ref D3)])) := But.self
    have X7 : (upd G3 x (.ins C dx [("_machines", .ref am), ("_cleanings", .ref ac), ("_stuffs", .ref as), ("_products", .ref ap), ("_holds", .ref D1), ("_keeps", .ref D2), ("_limits", .ref D3)])) x = some (.ins C dx [("_machines", .ref am), ("_cleanings", .ref ac), ("_stuffs", .ref as), ("_products", .ref ap), ("_holds", .ref D1), ("_keeps", .ref D2), ("_limits", .ref D3)]) := upd_same
    have XG7 := xG3 _ _ X6
    generalize upd G3 x (.ins C dx [("_machines", .ref am), ("_cleanings", .ref ac), ("_stuffs", .ref as), ("_products", .ref ap), ("_holds", .ref D1), ("_keeps", .ref D2), ("_limits", .ref D3)]) = H7 at S7 V7 X7 ⊢
    have B7 : But x H1 H7 := But.trans B6 S7
    have t7 := But.tup hx1 B7
    have d3_7 := V7 _ _ (ne_of eG3 XG7 fun z => nomatch z) eG3
    have d1_7 := S7 _ _ (ne_of d1_6 X6 fun z => nomatch z) d1_6
    have p1_7 := bnds (But.tup X6 S7) p1_6
    have d2_7 := S7 _ _ (ne_of d2_6 X6 fun z => nomatch z) d2_6
    have p2_7 := bnds (But.tup X6 S7) p2_6
    have pp7 := rowsP t7 pp1
    have ps7 := rows2 t7 ps1
    have hs7 := t7 _ _ fit1.s
    have hp7 := t7 _ _ fit1.p
    have nm7 : ∀ {G : Hp}, Ex H7 G → Paired (Named G) vs2 (W.ss.map (·.1)) := fun {G} e => paired_map (L2.Paired.mapP ps7 fun v r z => by
      obtain ⟨a, e1, e2⟩ := z
      exact ⟨a, _, e1, e _ _ e2⟩)
    refine ⟨_, rfl, ap, rfl, ⟨vp, SqT.of hp7⟩, fun D4 n4 => dc_it walk_tup (fun i G => Ex H7 G ∧ ∃ vals : List V, vals.length = i ∧ Paired (CBn W D4 G) vals (W.ps.take i) ∧ G D4 = some (.dK (mergeK [] (under ((W.ps.map (·.1)).take i) vals)))) ⟨Ex.refl.new n4, [], rfl, .nil, upd_same⟩ (fun i G _ h => SqT.of (h.1 _ _ hp7)) ?_ ?_⟩
    · rintro i v _ G hi ⟨xG, vals, vl, pv, eG⟩ ⟨rfl, hv⟩
      obtain ⟨⟨n, bs⟩, hr, a, t, vb, rfl, ha, ht, pb⟩ := Paired.spot pp7 hv
      have hn : (W.ps.map (·.1))[i]? = some n := by
        rw [List.getElem?_map, hr]
        rfl
      have sm : bs.length = W.ss.length := same _ (List.mem_of_getElem? hr)
      have vbl : vb.length = bs.length := Paired.size pb
      refine ⟨a, _, rfl, SqT.of (xG _ _ ha), rfl, _, _, rfl, _, _, rfl, rfl, rfl, ?_⟩
      refine ⟨_, rfl, _, rfl, _, rfl, as, t, vs2, vb, W.ss.map (·.1), rfl, xG _ _ hs7, xG _ _ ht, nm7 xG, by omega, by omega, fun Dp G2 x2 nDp eDp => ?_⟩
      have eG2 := x2 _ _ eG
      have nD : Dp ≠ D4 := (ne_of_none eG nDp).symm
      refine ⟨_, .inr n, rfl, eG2, ?_, (xG.trans x2).put n4, vals ++ [.ref Dp], by rw [List.length_append, vl]; rfl, ?_, ?_⟩
      · have m := merge_len (more := under ((W.ps.map (·.1)).take i) vals) (kvs := [])
        have m2 : (under ((W.ps.map (·.1)).take i) vals).length ≤ i := by
          unfold under
          rw [List.length_map, List.length_zip, vl]
          exact Nat.min_le_right _ _
        rw [List.length_nil] at m
        rw [sizeLine_eq]
        omega
      · have tt : Tup G2 (upd G2 D4 (.dK (putK (mergeK [] (under ((W.ps.map (·.1)).take i) vals)) (.inr n) (.ref Dp)))) := fun b xs h => by
          rw [upd_ne (ne_of h eG2 fun z => nomatch z)]
          exact h
        rw [List.take_succ, hr]
        refine Paired.snoc (L2.Paired.mapP pv fun v p z => ?_) ⟨Dp, vb, rfl, nD, by rw [upd_ne nD]; exact eDp, bnds tt (bnds (Ex.tup (xG.trans x2)) pb)⟩
        obtain ⟨D0, ys, e1, e2, e3, e4⟩ := z
        exact ⟨D0, ys, e1, e2, by rw [upd_ne e2]; exact x2 _ _ e3, bnds tt (bnds (Ex.tup x2) e4)⟩
      · rw [upd_same, under_snoc hn vl, merge_snoc]
    rintro G4 ⟨xG4, b4, bl4, pb4, eG4⟩
    rw [List.take_of_length_le (by omega)] at pb4
    rw [List.take_of_length_le (by rw [List.length_map]; omega)] at eG4
    refine ⟨_, rfl, x, C, dx, _, rfl, xG4 _ _ X7, c.cl, c.n8, (by decide : (7 : Nat) < 1000), ?_⟩
    show tSeq _ _ _ _ (upd G4 x (.ins C dx [("_machines", .ref am), ("_cleanings", .ref ac), ("_stuffs", .ref as), ("_products", .ref ap), ("_holds", .ref D1), ("_keeps", .ref D2), ("_limits", .ref D3), ("_contents", .ref D4)]))
    have S8 : But x H7 (upd G4 x (.ins C dx [("_machines", .ref am), ("_cleanings", .ref ac), ("_stuffs", .ref as), ("_products", .ref ap), ("_holds", .ref D1), ("_keeps", .ref D2), ("_limits", .ref D3), ("_contents", .ref D4)])) := But.trans (But.ex xG4) But.self
    have V8 : But x G4 (upd G4 x (.ins C dx [("_machines", .ref am), ("_cleanings", .ref ac), ("_stuffs", .ref as), ("_products", .ref ap), ("_holds", .ref D1), ("_keeps", .ref D2), ("_limits", .ref D3), ("_contents", .ref D4)])) := But.self
    have X8 : (upd G4 x (.ins C dx [("_machines", .ref am), ("_cleanings", .ref ac), ("_stuffs", .ref as), ("_products", .ref ap), ("_holds", .ref D1), ("_keeps", .ref D2), ("_limits", .ref D3), ("_contents", .ref D4)])) x = some (.ins C dx [("_machines", .ref am), ("_cleanings", .ref ac), ("_stuffs", .ref as), ("_products", .ref ap), ("_holds", .ref D1), ("_keeps", .ref D2), ("_limits", .ref D3), ("_contents", .ref D4)]) := upd_same
    have XG8 := xG4 _ _ X7
    generalize upd G4 x (.ins C dx [("_machines", .ref am), ("_cleanings", .ref ac), ("_stuffs", .ref as), ("_products", .ref ap), ("_holds", .ref D1), ("_keeps", .ref D2), ("_limits", .ref D3), ("_contents", .ref D4)]) = H8 at S8 V8 X8 ⊢
    have B8 : But x H1 H8 := But.trans B7 S8
    have t8 := But.tup hx1 B8
    have d4_8 := V8 _ _ (ne_of eG4 XG8 fun z => nomatch z) eG4
    have p4_8 : Paired (CBn W D4 H8) b4 W.ps := L2.Paired.mapP pb4 fun v p z => CBn.but XG8 V8 z
    have d3_8 := S8 _ _ (ne_of d3_7 X7 fun z => nomatch z) d3_7
    have d1_8 := S8 _ _ (ne_of d1_7 X7 fun z => nomatch z) d1_7
    have p1_8 := bnds (But.tup X7 S8) p1_7
    have d2_8 := S8 _ _ (ne_of d2_7 X7 fun z => nomatch z) d2_7
    have p2_8 := bnds (But.tup X7 S8) p2_7
    refine ⟨_, rfl, _, rfl, _, rfl, _, rfl, am, ac, as, ap, vm, vc, vs2, vp, W, rfl, t8 _ _ fit1.m, t8 _ _ fit1.c, t8 _ _ fit1.s, t8 _ _ fit1.p, rows3 t8 pm1, rows3 t8 pc1, rows2 t8 ps1, rowsP t8 pp1, T1, fun G5 xG5 => ?_⟩
    refine ⟨_, rfl, x, C, dx, _, rfl, xG5 _ _ X8, c.cl, c.n9, (by decide : (8 : Nat) < 1000), ?_⟩
    show Q .non (upd G5 x (.ins C dx [("_machines", .ref am), ("_cleanings", .ref ac), ("_stuffs", .ref as), ("_products", .ref ap), ("_holds", .ref D1), ("_keeps", .ref D2), ("_limits", .ref D3), ("_contents", .ref D4), ("_text", .str (wtext W))]))
    have S9 : But x H8 (upd G5 x (.ins C dx [("_machines", .ref am), ("_cleanings", .ref ac), ("_stuffs", .ref as), ("_products", .ref ap), ("_holds", .ref D1), ("_keeps", .ref D2), ("_limits", .ref D3), ("_contents", .ref D4), ("_text", .str (wtext W))])) := But.trans (But.ex xG5) But.self
    have V9 : But x G5 (upd G5 x (.ins C dx [("_machines", .ref am), ("_cleanings", .ref ac), ("_stuffs", .ref as), ("_products", .ref ap), ("_holds", .ref D1), ("_keeps", .ref D2), ("_limits", .ref D3), ("_contents", .ref D4), ("_text", .str (wtext W))])) := But.self
    have X9 : (upd G5 x (.ins C dx [("_machines", .ref am), ("_cleanings", .ref ac), ("_stuffs", .ref as), ("_products", .ref ap), ("_holds", .ref D1), ("_keeps", .ref D2), ("_limits", .ref D3), ("_contents", .ref D4), ("_text", .str (wtext W))])) x = some (.ins C dx [("_machines", .ref am), ("_cleanings", .ref ac), ("_stuffs", .ref as), ("_products", .ref ap), ("_holds", .ref D1), ("_keeps", .ref D2), ("_limits", .ref D3), ("_contents", .ref D4), ("_text", .str (wtext W))]) := upd_same
    have XG9 := xG5 _ _ X8
    generalize upd G5 x (.ins C dx [("_machines", .ref am), ("_cleanings", .ref ac), ("_stuffs", .ref as), ("_products", .ref ap), ("_holds", .ref D1), ("_keeps", .ref D2), ("_limits", .ref D3), ("_contents", .ref D4), ("_text", .str (wtext W))]) = H9 at S9 V9 X9 ⊢
    have B9 : But x H1 H9 := But.trans B8 S9
    have t9 := But.tup hx1 B9
    have d4_9 := S9 _ _ (ne_of d4_8 X8 fun z => nomatch z) d4_8
    have p4_9 : Paired (CBn W D4 H9) b4 W.ps := L2.Paired.mapP p4_8 fun v p z => CBn.but X8 S9 z
    have d3_9 := S9 _ _ (ne_of d3_8 X8 fun z => nomatch z) d3_8
    have d1_9 := S9 _ _ (ne_of d1_8 X8 fun z => nomatch z) d1_8
    have p1_9 := bnds (But.tup X8 S9) p1_8
    have d2_9 := S9 _ _ (ne_of d2_8 X8 fun z => nomatch z) d2_8
    have p2_9 := bnds (But.tup X8 S9) p2_8
    exact q hd W H9 (fun b o n e nt => B9 b o n (x1 b o e nt)) (TabsN.but hx1 B9 tabs1) ⟨dx, _, X9, rfl⟩ gd
end
end LJ
set_option Elab.async false
set_option linter.all false
set_option maxRecDepth 100000
set_option maxHeartbeats 8000000
/-! _read_works of any text: works with good data, or an error. -/
namespace LJ
open PySem PySem.Spec L2 PySem.ErrV
open LamX (ExtN TabB)
open NdefX (NTab TabsN)
open OwnX
/-- an error with one field -/
structure ErG (K : PySem.W.Frag) (mg : Str → Option Value) (x f : Str) (C : Addr) : Prop where
  c : ∃ fI bm, ErrC K mg x f C fI "ValueError.__new__" bm ∧ BaseOk "ValueError" "ValueError.__new__" "ValueError.__init__" bm
  exC : PySem.W.subIn K (.ref C) (.type "BaseException") = some true
  tyC : PySem.W.typeIn K (.ref C) = some (.type "type")
  xf : XfC K C
theorem deep_s {K : PySem.W.Frag} {H : Hp} {z : Str} (h : z.length ≤ sizeLine) : ∀ {n : Nat}, Deep K H n (.str z)
  | 0 => .str z h
  | _ + 1 => ⟨.str z h, fun xs e => nomatch e⟩
theorem deep_t {K : PySem.W.Frag} {H : Hp} {n : Nat} {a : Addr} {xs : List V} (h : H a = some (.tup xs)) (l : xs.length ≤ sizeLine) (d : ∀ y ∈ xs, Deep K H n y) : Deep K H (n + 1) (.ref a) := ⟨.tup h l, fun ys e y hy => by
  rw [tup_at h] at e
  cases e
  exact d y hy⟩
theorem deep_num {K : PySem.W.Frag} {H : Hp} {o : Option Int} {n : Nat} : Deep K H n (optI o) := by
  cases o with
  | none => exact (Bd.non (B := 20)).deep
  | some i => exact (Bd.int (B := 20)).deep
theorem row_deep {K : PySem.W.Frag} {H : Hp} {b : Addr} {zs : List Str} (h : H b = some (.tup ((zs.take 1).map V.str ++ numsOf (zs.drop 1)))) (lz : zs.length ≤ 100000) (sh : ∀ z ∈ zs, z.length ≤ 600) {n : Nat} : Deep K H (n + 1) (.ref b) := by
  have sz := sizeLine_eq
  refine deep_t h ?_ fun y hy => ?_
  · unfold numsOf
    rw [List.length_append, List.length_map, List.length_map, List.length_take, List.length_drop]
    omega
  · rcases List.mem_append.mp hy with hy | hy
    · obtain ⟨z, hz, rfl⟩ := List.mem_map.mp hy
      have := sh z (List.mem_of_mem_take hz)
      exact deep_s (by omega)
    · obtain ⟨z, _, rfl⟩ := List.mem_map.mp hy
      exact deep_num
theorem pair_deep {K : PySem.W.Frag} {H : Hp} {v : V} {z : Str} (h : PairAt H v z) (sh : z.length ≤ 600) {n : Nat} : Deep K H (n + 1) v := by
  obtain ⟨a, rfl, ha⟩ := h
  have sz := sizeLine_eq
  refine deep_t ha ?_ fun y hy => ?_
  · rw [List.length_map]
    have : (Txt.split z hy).length ≤ z.length + 2 := split_len2 z hy
    omega
  · obtain ⟨p, _, rfl⟩ := List.mem_map.mp hy
    exact deep_num
/-- where the rows of a kind are gathered -/
def lk4 (l0 l1 l2 l3 : Addr) (k : Str) : Option Addr := if k = kM then some l0 else if k = kC then some l1 else if k = kS then some l2 else if k = kP then some l3 else none
theorem rk_at {l0 l1 l2 l3 : Addr} {k : Str} : valV (rowsK l0 l1 l2 l3) (.inr k) = (lk4 l0 l1 l2 l3 k).map V.ref := by
  unfold lk4
  by_cases h1 : k = kM
  · rw [if_pos h1, h1]
    exact rk0
  · rw [if_neg h1]
    by_cases h2 : k = kC
    · rw [if_pos h2, h2]
      exact rk1
    · rw [if_neg h2]
      by_cases h3 : k = kS
      · rw [if_pos h3, h3]
        exact rk2
      · rw [if_neg h3]
        by_cases h4 : k = kP
        · rw [if_pos h4, h4]
          exact rk3
        · rw [if_neg h4]
          have n : ∀ {q : Str}, k ≠ q → decide ((Sum.inr q : Key) = .inr k) = false := fun h => decide_eq_false fun z => h (Sum.inr.inj z).symm
          unfold rowsK valV
          simp only [List.find?_cons, n h1, n h2, n h3, n h4, List.find?_nil]
          rfl
theorem lk4_mem {l0 l1 l2 l3 l : Addr} {k : Str} (h : lk4 l0 l1 l2 l3 k = some l) : l ∈ [l0, l1, l2, l3] := by
  unfold lk4 at h
  split at h
  · cases h
    simp
  · split at h
    · cases h
      simp
    · split at h
      · cases h
        simp
      · split at h
        · cases h
          simp
        · cases h
/-- the rows that are gathered so far -/
structure RwG (K : PySem.W.Frag) (H G : Hp) (dr l0 l1 l2 l3 : Addr) (n : Nat) : Prop where
  ex : Ex H G
  d : G dr = some (.dK (rowsK l0 l1 l2 l3))
  nn : ∀ l ∈ [l0, l1, l2, l3], H l = none
  q : ∀ l ∈ [l0, l1, l2, l3], ∃ v, G l = some (.lst v) ∧ v.length ≤ n ∧ ∀ y ∈ v, Deep K (cut [l0, l1, l2, l3] G) 3 y
theorem cut_put {js : List Addr} {S : Addr} {H : Hp} {o : HO} (m : S ∈ js) : cut js (upd H S o) = cut js H := by
  funext a
  by_cases h : a ∈ js
  · rw [cut_same h, cut_same h]
  · rw [cut_ne h, cut_ne h, upd_ne (fun z : a = S => h (by rw [z]; exact m))]
section
variable {K : PySem.W.Frag} {H G G1 : Hp} {dr l0 l1 l2 l3 l : Addr} {n : Nat} {v : List V} {y : V}
theorem RwG.exx (h : RwG K H G dr l0 l1 l2 l3 n) (e : Ex G G1) : RwG K H G1 dr l0 l1 l2 l3 n :=
  ⟨h.ex.trans e, e _ _ h.d, h.nn, fun l hl => by
    obtain ⟨v, h1, h2, h3⟩ := h.q l hl
    exact ⟨v, e _ _ h1, h2, fun y hy => (h3 y hy).exN (Ex.cut e)⟩⟩
theorem RwG.add (h : RwG K H G dr l0 l1 l2 l3 n) (hl : l ∈ [l0, l1, l2, l3]) (e : G l = some (.lst v)) (d : Deep K (cut [l0, l1, l2, l3] G) 3 y) : RwG K H (upd G l (.lst (v ++ [y]))) dr l0 l1 l2 l3 (n + 1) := by
  refine ⟨fun b o hb => ?_, ?_, h.nn, fun m hm => ?_⟩
  · rw [upd_ne (fun z => by rw [z, h.nn l hl] at hb; cases hb)]
    exact h.ex _ _ hb
  · rw [upd_ne (fun z => by have := h.d; rw [z, e] at this; cases this)]
    exact h.d
  · rw [cut_put hl]
    by_cases z : m = l
    · subst z
      obtain ⟨w, h1, h2, h3⟩ := h.q m hm
      rw [e] at h1
      cases h1
      refine ⟨_, upd_same, by rw [List.length_append]; show v.length + 1 ≤ n + 1; omega, fun u hu => ?_⟩
      rcases List.mem_append.mp hu with hu | hu
      · exact h3 u hu
      · obtain rfl := List.mem_singleton.mp hu
        exact d
    · obtain ⟨w, h1, h2, h3⟩ := h.q m hm
      exact ⟨w, by rw [upd_ne z]; exact h1, by omega, h3⟩
end
theorem start_rwg {K : PySem.W.Frag} {H : Hp} {dr l0 l1 l2 l3 : Addr} (nd : H dr = none) (n0 : (upd H dr (.dK [])) l0 = none) (n1 : (upd (upd H dr (.dK [])) l0 (.lst [])) l1 = none)
    (n2 : (upd (upd (upd H dr (.dK [])) l0 (.lst [])) l1 (.lst [])) l2 = none) (n3 : (upd (upd (upd (upd H dr (.dK [])) l0 (.lst [])) l1 (.lst [])) l2 (.lst [])) l3 = none) :
    RwG K H (upd (upd (upd (upd (upd (upd H dr (.dK [])) l0 (.lst [])) l1 (.lst [])) l2 (.lst [])) l3 (.lst [])) dr (.dK (rowsK l0 l1 l2 l3))) dr l0 l1 l2 l3 0 := by
  have s := start_rws nd n0 n1 n2 n3
  have em : ∀ {α : Type} {R : Hp → V → α → Prop} {G : Hp} {l : Addr}, LstOf R G l [] → G l = some (.lst []) := fun ⟨v, h1, h2⟩ => by
    cases h2
    exact h1
  have q0 := em s.p0
  have q1 := em s.p1
  have q2 := em s.p2
  have q3 := em s.p3
  refine ⟨s.ex, s.d, fun l hl => ?_, fun l hl => ⟨[], ?_, Nat.le_refl _, fun _ z => nomatch z⟩⟩
  · simp only [List.mem_cons, List.not_mem_nil, or_false] at hl
    rcases hl with rfl | rfl | rfl | rfl
    · exact s.n0
    · exact s.n1
    · exact s.n2
    · exact s.n3
  · simp only [List.mem_cons, List.not_mem_nil, or_false] at hl
    rcases hl with rfl | rfl | rfl | rfl
    · exact q0
    · exact q1
    · exact q2
    · exact q3
def spRWX (C cT : Addr) (ce : Nat → Addr) (T : List NTab) : Sp := fun vs H Q E => ∃ z : Str, vs = [.str z] ∧ z.length ≤ 15000 ∧ (∀ ln ∈ Txt.split z (Str.ofString "\n"), ∀ wd ∈ Txt.split ln sp1, Short wd) ∧ TabsN T H ∧
  (∀ cls, (cls = cT ∨ ∃ k, cls = ce k) → ∀ d fs H1, ExtN H H1 → TabsN T H1 → H1 d = some (.xd fs) → E (.ref cls) (some d) H1) ∧
  (∀ (W : Wd) (x : Addr) (H1 : Hp), ExtN H H1 → H x = none → TabsN T H1 → TextOf C H1 x (wtext W) → GoodF W → Q (.ref x) H1)
section
variable {P : Program} {w : World} {K : PySem.W.Frag} {mg : Str → Option Value} {base : Heap} {ce : Nat → Addr}
theorem ok_rwX {f fR fI C cT : Addr} {fd fdR fdI : FuncData} {T : List NTab} (F : Fun K "_read_works" "_read_works" sRW f fd) (BT : mg "tuple" = none) (e0 : ErG K mg "InvalidText" "given" cT)
    (GR : FnOk P w K mg base CX0 3 fR fdR ["kind", "words"] spRd) (mR : mg "_read_row" = some (.ref fR)) (kR : PySem.W.keepIn K (.ref fR) = true) (bR : Binds K fdR ["kind", "words"] [])
    (M : Mk K C fI) (mW : mg "Works" = some (.ref C)) (GI : FnOk P w K mg base (L2N.CX P w) 7 fI fdI pInit (spInitX K C ce T)) (bI : Binds K fdI pInit []) :
    FnOk P w K mg base (L2N.CX P w) 9 f fd ["text"] (spRWX C cT ce T) := by
  refine F.okC scRW (fun vs H Q E h => ?_) (fun cdv A outer s H vs Q E hr h => ?_)
  · obtain ⟨z, rfl, _⟩ := h
    rfl
  · obtain ⟨z, rfl, lz, sh, tabs, bad, q⟩ := h
    have hr3 : Room 3 _ := hr.mono (by decide)
    have hr1 : Room 1 _ := hr.mono (by decide)
    have hu := hu_of hr
    obtain ⟨f0, b0, T0, B0⟩ := e0.c
    refine ⟨_, pss_cons (ps_set (i := 1) scRW.nd rfl (Or.inl rfl) (pe_disp (pps_cons pe_str (pe_lst pa_nil) (pps_cons pe_str (pe_lst pa_nil) (pps_cons pe_str (pe_lst pa_nil) (pps_cons pe_str (pe_lst pa_nil) pps_nil)))) (by rfl) (by rfl) (fun z => by cases z) (by decide)))
      (pss_cons (ps_for PassesOwn.leaving rfl (pi_list (pe_split (pv 0) pe_str)) (pg_name (i := 2) scRW.nd rfl (Or.inl rfl))
        (pss_cons (ps_asg (pe_split (pv 2) pe_str) (pg_star (n := 2) (i := 1) rfl (pgs_cons (pg_name (i := 3) scRW.nd rfl (Or.inl rfl)) (pgs_star (pg_name (i := 4) scRW.nd rfl (Or.inl rfl)) pgs_nil))))
        (pss_cons (ps_if (pt_cmp (pc_dnotin hu (pv 3) (pv 1))) (pss_one (ps_raiseEN rfl (.inl rfl) T0 B0 e0.exC e0.tyC hr1 (L2N.takes_of rfl rfl rfl rfl) (pa_cons (pv 0) pa_nil) (by rfl))) pss_nil)
        (pss_one (ps_expr (pe_bm PySem.F.plainAttrs_list PySem.F.slot_list_append PySem.F.type_list_append mt_append (pe_dget hu (pv 1) (pv 3) (fun _ _ => rfl)) (pa_cons (pe_call GR hr3 (by rfl) mR kR bR .nil pass0 (pa_cons (pv 3) (pa_cons (pv 4) pa_nil))) pa_nil)))))))
      (pss_one (ps_ret (pe_make M GI hr (by rfl) mW bI .nil (L2N.passes_call (W := fun cls d _ H => E cls d H) (L2N.takes_of rfl rfl rfl rfl) (fun _ _ _ _ z => z)) (pa_cons (pe_tupleOf (by rfl) BT (pe_dget hu (pv 1) pe_str (fun _ _ => rfl))) (pa_cons (pe_tupleOf (by rfl) BT (pe_dget hu (pv 1) pe_str (fun _ _ => rfl)))
        (pa_cons (pe_tupleOf (by rfl) BT (pe_dget hu (pv 1) pe_str (fun _ _ => rfl))) (pa_cons (pe_tupleOf (by rfl) BT (pe_dget hu (pv 1) pe_str (fun _ _ => rfl))) pa_nil)))))))), ?_⟩
    have sz := sizeLine_eq
    intro dr nd
    refine ⟨Nat.zero_le _, fun l0 n0 => ⟨Nat.zero_le _, fun l1 n1 => ⟨Nat.zero_le _, fun l2 n2 => ⟨Nat.zero_le _, fun l3 n3 => ⟨?_, rowsK l0 l1 l2 l3, rfl, (by decide : 4 ≤ 15), ?_⟩⟩⟩⟩⟩
    · obtain ⟨d0, _⟩ := up_none n0
      obtain ⟨_, m1⟩ := up_none n1
      obtain ⟨d1, _⟩ := up_none m1
      obtain ⟨_, m2⟩ := up_none n2
      obtain ⟨_, m2⟩ := up_none m2
      obtain ⟨d2, _⟩ := up_none m2
      obtain ⟨_, m3⟩ := up_none n3
      obtain ⟨_, m3⟩ := up_none m3
      obtain ⟨_, m3⟩ := up_none m3
      obtain ⟨d3, _⟩ := up_none m3
      rw [upd_ne d3.symm, upd_ne d2.symm, upd_ne d1.symm, upd_ne d0.symm, upd_same]
    have st : RwG K H _ dr l0 l1 l2 l3 0 := start_rwg nd n0 n1 n2 n3
    rw [merge_rows]
    generalize upd (upd (upd (upd (upd (upd H dr (.dK [])) l0 (.lst [])) l1 (.lst [])) l2 (.lst [])) l3 (.lst [])) dr (.dK (rowsK l0 l1 l2 l3)) = G0 at st ⊢
    refine ⟨_, rfl, ⟨_, rfl⟩, _, _, rfl, rfl, by decide +kernel, by omega, fun L nL => ?_⟩
    have eL : (upd G0 L (.lst ((Txt.split z (Str.ofString "\n")).map V.str))) L = some (.lst ((Txt.split z (Str.ofString "\n")).map V.str)) := upd_same
    have xL : Ex G0 (upd G0 L (.lst ((Txt.split z (Str.ofString "\n")).map V.str))) := Ex.refl.new nL
    have stL := st.exx xL
    have nHL : H L = none := st.ex.gone nL
    have fL : ∀ l ∈ [l0, l1, l2, l3], L ≠ l := fun l hl z => by
      obtain ⟨v, h0, _⟩ := st.q l hl
      rw [z, h0] at nL
      cases nL
    generalize upd G0 L (.lst ((Txt.split z (Str.ofString "\n")).map V.str)) = G1 at eL stL xL ⊢
    have hls : ∀ {ln : Str}, ln ∈ Txt.split z (Str.ofString "\n") → ln.length ≤ z.length := fun h => split_le tl_nl (by decide) h
    have hn : (Txt.split z (Str.ofString "\n")).length ≤ z.length + 1 := (split_sum tl_nl (by decide)).2
    refine ⟨L, rfl, ⟨_, SqL.of eL⟩, for_list (K := K) (a := L) (xs := (Txt.split z (Str.ofString "\n")).map V.str) (fun i σ G => (∃ v2 v3 v4, σ = [some (.str z), some (.ref dr), v2, v3, v4]) ∧ RwG K H G dr l0 l1 l2 l3 i ∧ G L = some (.lst ((Txt.split z (Str.ofString "\n")).map V.str))) ⟨⟨_, _, _, rfl⟩, stL, eL⟩ (fun i σ G _ h => SqL.of h.2.2) ?_ ?_⟩
    · rintro i v σ G hv ⟨⟨v2, v3, v4, rfl⟩, sG, eG⟩
      have il := (List.getElem?_eq_some_iff.mp hv).1
      rw [List.length_map] at il
      rw [List.getElem?_map] at hv
      obtain ⟨ln, hl, rfl⟩ := Option.map_eq_some_iff.mp hv
      have ml := List.mem_of_getElem? hl
      have lx := hls ml
      have shw := sh ln ml
      refine ⟨_, rfl, ⟨_, rfl⟩, _, _, rfl, rfl, by decide +kernel, by omega, fun p np => ?_⟩
      have nw : (Txt.split ln sp1).length ≤ ln.length + 1 := (split_sum tl_sp1 (by decide)).2
      obtain ⟨k, zs, ews⟩ := List.exists_cons_of_ne_nil (split_ne (x := ln) tl_sp1 (by decide))
      rw [show Str.ofString " " = sp1 from rfl, ews]
      rw [ews] at nw shw
      have lzs : zs.length ≤ 100000 := by
        rw [List.length_cons] at nw
        omega
      have shz : ∀ y ∈ zs, Short y := fun y hy => shw y (List.mem_cons_of_mem _ hy)
      have e1 : (upd G p (.lst ((k :: zs).map V.str))) p = some (.lst ((k :: zs).map V.str)) := upd_same
      have x1 : Ex G (upd G p (.lst ((k :: zs).map V.str))) := Ex.refl.new np
      generalize upd G p (.lst ((k :: zs).map V.str)) = G2 at e1 x1 ⊢
      have lws : ((k :: zs).map V.str).length ≤ 15001 := by
        rw [List.length_map]
        omega
      have l1s : 1 ≤ ((k :: zs).map V.str).length := by
        rw [List.length_map, List.length_cons]
        omega
      refine ⟨p, _, rfl, SqL.of e1, by omega, by omega, by omega, fun D nD => ?_⟩
      have c1 : ((k :: zs).map V.str).take 1 ++ [.ref D] ++ (((k :: zs).map V.str).drop 1).drop (((k :: zs).map V.str).length + 1 - 2) = [.str k, .ref D] := by
        simp
      have c2 : (((k :: zs).map V.str).drop 1).take (((k :: zs).map V.str).length + 1 - 2) = zs.map V.str := by
        rw [List.map_cons, List.drop_succ_cons, List.drop_zero, List.take_of_length_le (by simp)]
      rw [c1, c2]
      have e2 : (upd G2 D (.lst (zs.map V.str))) D = some (.lst (zs.map V.str)) := upd_same
      have x2 : Ex G2 (upd G2 D (.lst (zs.map V.str))) := Ex.refl.new nD
      generalize upd G2 D (.lst (zs.map V.str)) = G3 at e2 x2 ⊢
      have s3 := sG.exx (x1.trans x2)
      have eG3 := x2 _ _ (x1 _ _ eG)
      refine ⟨_, _, rfl, _, _, rfl, rfl, ?_⟩
      have dk : DGet G3 dr (.str k) ((lk4 l0 l1 l2 l3 k).map V.ref) := .inl ⟨rowsK l0 l1 l2 l3, .inr k, .inl s3.d, rfl, rk_at.symm⟩
      cases e : lk4 l0 l1 l2 l3 k with
      | none =>
        rw [e] at dk
        refine ⟨_, rfl, _, rfl, dr, _, rfl, dk, _, rfl, ?_⟩
        refine ite2 (fun _ => ?_) (fun z => absurd rfl z)
        exact ⟨_, rfl, _, rfl, fun d nd => bad cT (.inl rfl) d _ _ (s3.ex.new nd).n (TabsN.exs tabs (s3.ex.new nd)) upd_same⟩
      | some l =>
        rw [e] at dk
        have ml4 := lk4_mem e
        refine ⟨_, rfl, _, rfl, dr, _, rfl, dk, _, rfl, ?_⟩
        refine ite2 (fun z => by cases z) (fun _ => ?_)
        obtain ⟨vk, hvk, lvk, dvk⟩ := s3.q l ml4
        have farL := fL l ml4
        have inn : ∀ {G4 : Hp} {a : Addr} {xs : List V}, Ex G3 G4 → G4 a = some (.tup xs) → cut [l0, l1, l2, l3] G4 a = some (.tup xs) := fun {G4 a xs} x4 ha => cut_of ha fun m => by
          obtain ⟨u, h1, _⟩ := s3.q a m
          rw [x4 _ _ h1] at ha
          cases ha
        refine ⟨_, rfl, _, rfl, dr, _, rfl, dk, .inl ⟨rfl, _, .inl (.inl hvk)⟩, _, rfl, _, rfl, k, D, zs, rfl, e2, lzs, shz, fun ek t b vals G4 x4 nb e4 et pv4 => ?_, fun ek b G4 x4 nb e4 => ?_⟩
        · refine ⟨_, _, _, rfl, rfl, x4 _ _ hvk, by omega, ⟨_, _, _, rfl⟩, (s3.exx x4).add ml4 (x4 _ _ hvk) ?_, by rw [upd_ne farL]; exact x4 _ _ eG3⟩
          refine deep_t (inn x4 e4) ?_ fun y hy => ?_
          · rw [List.length_append, List.length_map, List.length_take]
            show _ + 1 ≤ _
            omega
          · rcases List.mem_append.mp hy with hy | hy
            · obtain ⟨u, hu, rfl⟩ := List.mem_map.mp hy
              have := (shz u (List.mem_of_mem_take hu)).1
              exact deep_s (by omega)
            · obtain rfl := List.mem_singleton.mp hy
              have lv := Paired.size pv4
              rw [List.length_drop] at lv
              refine deep_t (inn x4 et) (by omega) fun y hy => ?_
              obtain ⟨j, hj⟩ := List.mem_iff_getElem?.mp hy
              obtain ⟨u, hu, pa⟩ := Paired.spot pv4 hj
              obtain ⟨a, rfl, ha⟩ := pa
              exact pair_deep (z := u) ⟨a, rfl, inn x4 ha⟩ (shz u (List.mem_of_mem_drop (List.mem_of_getElem? hu))).1
        · refine ⟨_, _, _, rfl, rfl, x4 _ _ hvk, by omega, ⟨_, _, _, rfl⟩, (s3.exx x4).add ml4 (x4 _ _ hvk) (row_deep (inn x4 e4) lzs fun u hu => (shz u hu).1), by rw [upd_ne farL]; exact x4 _ _ eG3⟩
    · rintro σ G ⟨⟨v2, v3, v4, rfl⟩, sG, eG⟩
      rw [List.length_map] at sG
      obtain ⟨vm, hm, lvm, pm⟩ := sG.q l0 (by simp)
      obtain ⟨vc, hc, lvc, pc⟩ := sG.q l1 (by simp)
      obtain ⟨vs, hs, lvs, ps⟩ := sG.q l2 (by simp)
      obtain ⟨vp, hp, lvp, pp⟩ := sG.q l3 (by simp)
      have gd : ∀ {G' : Hp} {k : Str} {l : Addr}, Ex G G' → valV (rowsK l0 l1 l2 l3) (.inr k) = some (.ref l) → DGet G' dr (.str k) (some (.ref l)) := fun {G' k l} e h => .inl ⟨rowsK l0 l1 l2 l3, .inr k, .inl (e _ _ sG.d), rfl, h.symm⟩
      refine ⟨_, rfl, dr, _, rfl, gd Ex.refl rk0, .inl ⟨l0, vm, rfl, SqL.of hm, fun am n1 => ?_⟩⟩
      have x1 : Ex G (upd G am (.tup vm)) := Ex.refl.new n1
      have e1 : (upd G am (.tup vm)) am = some (.tup vm) := upd_same
      generalize upd G am (.tup vm) = H1 at x1 e1 ⊢
      refine ⟨_, rfl, dr, _, rfl, gd x1 rk1, .inl ⟨l1, vc, rfl, SqL.of (x1 _ _ hc), fun ac n2 => ?_⟩⟩
      have x2 : Ex H1 (upd H1 ac (.tup vc)) := Ex.refl.new n2
      have e2 : (upd H1 ac (.tup vc)) ac = some (.tup vc) := upd_same
      generalize upd H1 ac (.tup vc) = H2 at x2 e2 ⊢
      have y2 := x1.trans x2
      refine ⟨_, rfl, dr, _, rfl, gd y2 rk2, .inl ⟨l2, vs, rfl, SqL.of (y2 _ _ hs), fun as n3 => ?_⟩⟩
      have x3 : Ex H2 (upd H2 as (.tup vs)) := Ex.refl.new n3
      have e3 : (upd H2 as (.tup vs)) as = some (.tup vs) := upd_same
      generalize upd H2 as (.tup vs) = H3 at x3 e3 ⊢
      have y3 := y2.trans x3
      refine ⟨_, rfl, dr, _, rfl, gd y3 rk3, .inl ⟨l3, vp, rfl, SqL.of (y3 _ _ hp), fun ap n4 => ?_⟩⟩
      have x4 : Ex H3 (upd H3 ap (.tup vp)) := Ex.refl.new n4
      have e4 : (upd H3 ap (.tup vp)) ap = some (.tup vp) := upd_same
      generalize upd H3 ap (.tup vp) = H4 at x4 e4 ⊢
      have y4 := y3.trans x4
      intro x dx nx ndx ne
      have x5 : Ex H4 (upd (upd H4 dx (.own x)) x (.ins C dx [])) := (Ex.refl.new ndx).new (by rw [upd_ne ne.symm]; exact nx)
      have e5 : (upd (upd H4 dx (.own x)) x (.ins C dx [])) x = some (.ins C dx []) := upd_same
      generalize upd (upd H4 dx (.own x)) x (.ins C dx []) = H5 at x5 e5 ⊢
      have y5 := y4.trans x5
      have T5 : TabsN T H5 := TabsN.exs tabs (sG.ex.trans y5)
      have X5 : Ex H H5 := sG.ex.trans y5
      have up : ∀ {u : V} {m : Nat}, Deep K (cut [l0, l1, l2, l3] G) m u → Deep K H5 m u := fun d => (d.exN cut_up).exN y5.n
      have hxn : H x = none := sG.ex.gone (y4.gone nx)
      refine ⟨x, dx, .ref am, .ref ac, .ref as, .ref ap, rfl, e5, deep_t (x5 _ _ (x4 _ _ (x3 _ _ (x2 _ _ e1)))) (by omega) fun u hu => (up (pm u hu)).down.down, deep_t (x5 _ _ (x4 _ _ (x3 _ _ e2))) (by omega) fun u hu => (up (pc u hu)).down.down, deep_t (x5 _ _ (x4 _ _ e3)) (by omega) fun u hu => (up (ps u hu)).down.down, deep_t (x5 _ _ e4) (by omega) fun u hu => up (pp u hu), T5, fun _ W H6 keep t6 tx gd6 => ⟨rfl, ?_⟩, fun k v _ H6 d x6 t6 hd => bad (ce k) (.inr ⟨k, rfl⟩) d _ H6 (X5.n.trans x6) t6 hd⟩
      refine q W x H6 (fun b o e nt => keep b o (fun z => ?_) (X5 _ _ e) nt) hxn t6 tx gd6
      rw [z, hxn] at e
      cases e
end
end LJ
set_option Elab.async false
set_option linter.all false
set_option maxRecDepth 100000
set_option maxHeartbeats 8000000
/-! Works.read of any value. -/
namespace LJ
open PySem PySem.Spec L2 PySem.ErrV
open LamX (ExtN TabB)
open NdefX (NTab TabsN)
open OwnX
theorem takes_lenN {X : Cx} {W : WX} (tk : L2N.Takes X W) : L2N.Takes X (fun cls d _ H => ∀ σ, σ.length = X.N.length → W cls d σ H) := fun u s' ⟨a, B, sI, pins, σ, H, cls, d, e, I, nb, up, sky, na, os, ag, w⟩ =>
  tk u s' ⟨a, B, sI, pins, σ, H, cls, d, e, I, nb, up, sky, na, os, ag, w σ I.len⟩
/-- the text of good works -/
def Acc (v : V) : Prop := ∃ W : Wd, GoodF W ∧ v = .str (wtext W)
def RaisedT (T : List NTab) (ce : Addr) (f : Str) (u : V) (H : Hp) (E : XK) : Prop := ∀ H1 d, ExtN H H1 → TabsN T H1 → H1 d = some (.xd [(f, u)]) → E (.ref ce) (some d) H1
def spReadX (K : PySem.W.Frag) (C cT : Addr) (T : List NTab) : Sp := fun vs H Q E => ∃ tv : V, vs = [tv] ∧ Kn K H tv ∧ TabsN T H ∧ (∀ z, tv = .str z → z.length ≤ 15000 ∧ ∀ ln ∈ Txt.split z (Str.ofString "\n"), ∀ wd ∈ Txt.split ln sp1, Short wd) ∧
  (Acc tv → ∀ (x : Addr) (z : Str) (H1 : Hp), tv = .str z → ExtN H H1 → H x = none → TabsN T H1 → TextOf C H1 x z → Q (.ref x) H1) ∧ (¬ Acc tv → RaisedT T cT "given" tv H E)
section
variable {P : Program} {w : World} {K : PySem.W.Frag} {mg : Str → Option Value} {base : Heap} {C cT cV : Addr} {ce : Nat → Addr} {T : List NTab}
def tryBody : Stmt → List Stmt
  | .Try (body := b) .. => b
  | _ => []
def tbRx (C cT : Addr) (ce : Nat → Addr) (T : List NTab) (W : WX) : TS := tAsg (tCallS (spRWX C cT ce T) (fun σ cls d H => W cls d σ H) (tCons (tVar 0) tNil)) (gName 1)
theorem ok_readX {f fR fS : Addr} {fd fdR fdS : FuncData} (F : Fun K "read" "Works.read" sRead f fd) (B : BltS mg) (e0 : ErG K mg "InvalidText" "given" cT) (mV : mg "WrongValue" = some (.ref cV)) (fT : PySem.W.exmOne K (.ref cT) (.ref cV) = some true) (fC : ∀ k, PySem.W.exmOne K (.ref (ce k)) (.ref cV) = some true)
    (G0 : FnOk P w K mg base CX0 9 fR fdR ["text"] (spRW C T)) (GR : FnOk P w K mg base (L2N.CX P w) 9 fR fdR ["text"] (spRWX C cT ce T)) (mR : mg "_read_works" = some (.ref fR)) (kR : PySem.W.keepIn K (.ref fR) = true) (bR : Binds K fdR ["text"] [])
    (cS : Meth K C "__str__" fS) (GS : FnOk P w K mg base CX0 1 fS fdS ["self"] (spStrW C)) (bS : Binds K fdS ["self"] []) :
    FnOk P w K mg base (L2.CX P w) 10 f fd ["text"] (spReadX K C cT T) := by
  refine F.okX scRead (fun vs H Q E h => ?_) (fun cdv A outer s H vs Q E hr h => ?_)
  · obtain ⟨tv, rfl, _⟩ := h
    rfl
  · obtain ⟨tv, rfl, kt, tabs, hz, yes, no⟩ := h
    have hr2 : Room 2 _ := hr.mono (by decide)
    have hr1 : Room 1 _ := hr.mono (by decide)
    obtain ⟨f0, b0, T0, B0⟩ := e0.c
    have sz := sizeLine_eq
    by_cases acc : Acc tv
    · obtain ⟨W, g, rfl⟩ := id acc
      refine ⟨_, pss_cons (ps_if (pt_not (pt_truth (pe_callB call_isi (by rfl) B.isi (by decide +kernel) (pa_cons (pv 0) (pa_cons (pe_bltn (by rfl) B.str (by decide +kernel) (v := .ty "str") rfl) pa_nil))) (fun _ => rfl))) (pss_one ps_never) pss_nil)
        (pss_cons (ps_try_thru0 (pss_one (ps_set (i := 1) scRead.nd rfl (Or.inl rfl) (pe_call G0 hr (by rfl) mR kR bR .nil pass0 (pa_cons (pv 0) pa_nil)))))
        (pss_cons (ps_if (pt_cmpR op_ne (pe_callTy (call_strO cS GS hr2 bS pass0) (by rfl) B.str (by decide +kernel) (pa_cons (pv 1) pa_nil)) (pv 0) (nomark _)) (pss_one ps_never) pss_nil)
        (pss_one (ps_ret (pv 1))))), ?_⟩
      refine ⟨_, rfl, _, _, _, _, true, rfl, .ty "str", .base (.str _), kit_ty (by decide +kernel), true, rfl, ?_⟩
      refine ite2 (fun z => by cases z) (fun _ => ?_)
      refine ⟨_, rfl, W, rfl, g, tabs, fun x am ac as ap H1 e1 nx t1 at1 d1 => ?_⟩
      obtain ⟨dx, fs, hx, hf⟩ := works_text at1
      refine ⟨_, rfl, x, dx, fs, rfl, hx, x, wtext W, rfl, ⟨dx, fs, hx, hf⟩, _, rfl, _, rfl, rfl, _, rfl, ?_⟩
      refine ite2 (fun z => ?_) (fun _ => ?_)
      · rw [decide_eq_true rfl] at z
        cases z
      · exact ⟨_, rfl, yes acc x _ H1 rfl e1 nx t1 ⟨dx, fs, hx, hf⟩⟩
    · have rs := no acc
      refine ⟨_, pss_cons (ps_if (pt_not (pt_truth (pe_callB call_isi (by rfl) B.isi (by decide +kernel) (pa_cons (pv 0) (pa_cons (pe_bltn (by rfl) B.str (by decide +kernel) (v := .ty "str") rfl) pa_nil))) (fun _ => rfl))) (pss_one (ps_raiseE rfl (.inl rfl) T0 B0 e0.exC e0.tyC hr1 (takes_of rfl rfl rfl rfl) (pa_cons (pv 0) pa_nil) (by rfl))) pss_nil)
        (pss_cons (L2H.ps_try_onlyX (Wout := fun cls d _ H => E cls d H) rfl rfl ⟨rfl, by decide, .inl mV⟩ (L2H.passesAt_of rfl) (takes_of rfl rfl rfl rfl)
            (tb := tbRx C cT ce T) (fun W pn xe tk _ _ => pss_one (ps_set (i := 1) scRead.nd rfl (Or.inl rfl) (pe_callS GR hr (by rfl) mR kR bR (passesAtN (E := fun σ cls d H => W cls d σ H) tk (fun _ _ _ _ z => z)) (pa_cons (pv 0) pa_nil))))
            (fun a oe cls d pn hz hf tk hot => pss_one (L2H.ps_raiseHN hot tk (pmk5_err (.inl rfl) T0 B0 e0.exC e0.tyC (by have := hr1.dp; exact this) (pa_cons (pv 0) pa_nil) (by rfl)))))
        (pss_cons (ps_if (pt_cmpR op_ne (pe_callTy (call_strO cS GS hr2 bS pass0) (by rfl) B.str (by decide +kernel) (pa_cons (pv 1) pa_nil)) (pv 0) (nomark _)) (pss_one (ps_raiseE rfl (.inl rfl) T0 B0 e0.exC e0.tyC hr1 (takes_of rfl rfl rfl rfl) (pa_cons (pv 0) pa_nil) (by rfl))) pss_nil)
        (pss_one (ps_ret (pv 1))))), ?_⟩
      obtain ⟨t, bs, ty, es, hb2⟩ := kt.st.ty
      refine ⟨_, rfl, _, _, t, _, bs, rfl, .ty "str", ty, es, bs, rfl, ?_⟩
      rcases hb2 with ⟨rfl, z, rfl⟩ | ⟨rfl, ns⟩
      · refine ite2 (fun q => by cases q) (fun _ => ?_)
        show tSeq _ _ _ _ _
        obtain ⟨lz, sh⟩ := hz z rfl
        refine ⟨_, rfl, z, rfl, lz, sh, tabs, fun cls hc d fs H1 e1 t1 hd => ?_, fun W x H1 e1 nx t1 tx g => ?_⟩
        · have fit : PySem.W.exmOne K (.ref cls) (.ref cV) = some true := by
            rcases hc with rfl | ⟨k, rfl⟩
            · exact fT
            · exact fC k
          refine ⟨true, fit, fun _ a ha => ?_, fun q => absurd q Bool.false_ne_true.symm⟩
          exact ⟨_, rfl, _, rfl, fun d2 n2 => rs _ d2 (e1.trans (Ex.refl.new n2).n) (TabsN.exs t1 (Ex.refl.new n2)) upd_same⟩
        · obtain ⟨dx, fs, hx, hf⟩ := tx
          refine ⟨_, rfl, x, dx, fs, rfl, hx, x, wtext W, rfl, ⟨dx, fs, hx, hf⟩, _, rfl, _, rfl, rfl, _, rfl, ?_⟩
          have ne : wtext W ≠ z := fun e => acc ⟨W, g, by rw [e]⟩
          refine ite2 (fun _ => ?_) (fun q => absurd ?_ q)
          · exact ⟨_, rfl, _, rfl, fun d2 n2 => rs _ d2 (e1.trans (Ex.refl.new n2).n) (TabsN.exs t1 (Ex.refl.new n2)) upd_same⟩
          · rw [decide_eq_false (fun e => ne (V.str.inj e))]
            rfl
      · refine ite2 (fun _ => ?_) (fun q => absurd rfl q)
        exact ⟨_, rfl, _, rfl, fun d2 n2 => rs _ d2 (Ex.refl.new n2).n (TabsN.exs tabs (Ex.refl.new n2)) upd_same⟩
end
end LJ
set_option Elab.async false
set_option linter.all false
set_option maxRecDepth 100000
set_option maxHeartbeats 8000000
namespace LJ
open PySem PySem.Spec L2
theorem spots_of (xs : List Ln) : (xs.map lnK).map (fun k => ((ordIx k : Nat) : Int)) = xs.map fun x => ((rank x : Nat) : Int) := by
  rw [List.map_map]
  refine List.map_congr_left fun x _ => ?_
  show ((ordIx (lnK x) : Nat) : Int) = _
  rw [rank_ix]
theorem spots_srt (xs : List Ln) : (xs.map fun x => ((rank x : Nat) : Int)).Pairwise (· ≤ ·) ↔ xs.Pairwise (fun a b => rank a ≤ rank b) := by
  rw [List.pairwise_map]
  exact ⟨fun h => h.imp fun {a b} z => by omega, fun h => h.imp fun {a b} z => by omega⟩
theorem knds_map {z : Str} {xs : List Ln} (h : wdsOf z = xs.map (fun x => lnK x :: lnW x)) : kndsOf z = xs.map lnK := by
  unfold kndsOf
  rw [h, List.map_map]
  rfl
theorem ord_in (x : Ln) : ordL.contains (lnK x) = true := by
  rcases lnK_is x with e | e | e | e <;> rw [e] <;> decide +kernel
theorem page_of {W : Wd} (g : GoodF W) : pageB (wtext W) = true := by
  have hw : wdsOf (wtext W) = (lns W).map (fun x => lnK x :: lnW x) := by
    unfold wdsOf
    rw [split_text g, lns_text, List.map_map]
    refine List.map_congr_left fun x hx => ?_
    exact split_ln (lns_ok g x hx)
  have hk := knds_map hw
  obtain ⟨c1, c2, c3, c4⟩ := cnt_of (lns W)
  rw [lns_m] at c1
  rw [lns_c] at c2
  rw [lns_s] at c3
  rw [lns_p] at c4
  have m1 := g.m1
  have m2 := g.m2
  have m3 := g.c2
  have m4 := g.s1
  have m5 := g.s2
  have m6 := g.p1
  have m7 := g.p2
  unfold pageB
  rw [hk, c1, c2, c3, c4, hw, spots_of]
  have a1 : ((lns W).map lnK).all (fun k => ordL.contains k) = true := List.all_eq_true.mpr fun k hk => by
    obtain ⟨x, _, rfl⟩ := List.mem_map.mp hk
    exact ord_in x
  have a2 : ((lns W).map (fun x => lnK x :: lnW x)).all (fun ws => lineB ws ((W.ss.length : Nat) : Int)) = true := List.all_eq_true.mpr fun ws hws => by
    obtain ⟨x, hx, rfl⟩ := List.mem_map.mp hws
    exact lineB_of (lnOk_of g x hx)
  have a3 : (((lns W).map (fun x => lnK x :: lnW x)).map w1).Nodup := by
    rw [List.map_map]
    have : (lns W).map (w1 ∘ fun x => lnK x :: lnW x) = (lns W).map lnN := List.map_congr_left fun x _ => w1_ln x
    rw [this, names_lns]
    exact g.nd
  rw [a1, a2, decide_eq_true ((spots_srt _).mpr (lns_rank W)), decide_eq_true a3, decide_eq_true (show W.ms.length ≠ 0 by omega), decide_eq_true (show W.ss.length ≠ 0 by omega), decide_eq_true (show W.ps.length ≠ 0 by omega), decide_eq_true m2, decide_eq_true m3, decide_eq_true m5, decide_eq_true m7]
  rfl
theorem of_page {z : Str} (h : pageB z = true) : ∃ W : Wd, GoodF W ∧ z = wtext W := by
  unfold pageB at h
  simp only [Bool.and_eq_true, decide_eq_true_eq, List.all_eq_true] at h
  obtain ⟨h1, ⟨h2, h3, h4, h5⟩, ⟨h6, h7, h8, h9⟩, h10, h11⟩ := h
  obtain ⟨xs, hw, ok⟩ := lines_of (m := (((kndsOf z).count kS : Nat) : Int)) (wss := wdsOf z) fun ws hws => ⟨h1 _ (by unfold kndsOf; exact List.mem_map_of_mem (f := fun ws => ws.getD 0 Str.empty) hws), h10 ws hws⟩
  have hk := knds_map hw
  obtain ⟨c1, c2, c3, c4⟩ := cnt_of xs
  rw [hk] at h2 h3 h4 h5 h6 h7 h8 h9
  rw [hk, c3] at ok
  rw [c1] at h3 h6
  rw [c2] at h7
  rw [c3] at h4 h8
  rw [c4] at h5 h9
  rw [spots_of, spots_srt] at h2
  have srt := sort4 h2
  rw [hw, List.map_map] at h11
  have hn : xs.map (w1 ∘ fun x => lnK x :: lnW x) = xs.map lnN := List.map_congr_left fun x _ => w1_ln x
  rw [hn] at h11
  have hnames : (xs.map lnN) = (wOf xs).ms.map (·.1) ++ ((wOf xs).cs.map (·.1) ++ ((wOf xs).ss.map (·.1) ++ (wOf xs).ps.map (·.1))) := by
    rw [← names_lns, srt]
  have gm : ∀ r ∈ (wOf xs).ms, lnOkM ((xs.filterMap getS).length : Nat) (.m r) := fun r hr => by
    obtain ⟨x, hx, e⟩ := List.mem_filterMap.mp (show r ∈ xs.filterMap getM from hr)
    have := ok x hx
    cases x <;> cases e
    exact this
  have gc : ∀ r ∈ (wOf xs).cs, lnOkM ((xs.filterMap getS).length : Nat) (.c r) := fun r hr => by
    obtain ⟨x, hx, e⟩ := List.mem_filterMap.mp (show r ∈ xs.filterMap getC from hr)
    have := ok x hx
    cases x <;> cases e
    exact this
  have gs : ∀ r ∈ (wOf xs).ss, lnOkM ((xs.filterMap getS).length : Nat) (.s r) := fun r hr => by
    obtain ⟨x, hx, e⟩ := List.mem_filterMap.mp (show r ∈ xs.filterMap getS from hr)
    have := ok x hx
    cases x <;> cases e
    exact this
  have gp : ∀ r ∈ (wOf xs).ps, lnOkM ((xs.filterMap getS).length : Nat) (.p r) := fun r hr => by
    obtain ⟨x, hx, e⟩ := List.mem_filterMap.mp (show r ∈ xs.filterMap getP from hr)
    have := ok x hx
    cases x <;> cases e
    exact this
  have g : GoodF (wOf xs) := by
    refine ⟨?_, ?_, ?_, ?_, ?_, ?_, ?_, fun r hr => (gm r hr).2, fun r hr => (gc r hr).2, fun r hr => (gs r hr).2, fun r hr => ⟨?_, (gp r hr).2.2⟩, ?_, fun x hx => ?_⟩
    · show 1 ≤ (xs.filterMap getM).length
      omega
    · exact h6
    · exact h7
    · show 1 ≤ (xs.filterMap getS).length
      omega
    · exact h8
    · show 1 ≤ (xs.filterMap getP).length
      omega
    · exact h9
    · show r.2.length = (xs.filterMap getS).length
      have := (gp r hr).2.1
      omega
    · rw [← hnames]
      exact h11
    · rw [← hnames] at hx
      obtain ⟨y, hy, rfl⟩ := List.mem_map.mp hx
      have := ok y hy
      cases y <;> exact this.1
  refine ⟨wOf xs, g, ?_⟩
  have e1 : (Txt.split z (Str.ofString "\n")) = xs.map lnT := by
    have e2 : (wdsOf z).map (Txt.join sp1) = xs.map lnT := by
      rw [hw, List.map_map]
      rfl
    rw [← e2]
    unfold wdsOf
    rw [List.map_map]
    refine (List.map_id _).symm.trans (List.map_congr_left fun ln _ => ?_)
    exact (join_split tl_sp1 (by decide)).symm
  have e3 := join_split (x := z) tl_nl (by decide)
  rw [e1, ← srt, ← lns_text] at e3
  exact e3.symm
/-- a page is right if it is the text of good works -/
theorem page_acc {v : V} : pageV v = true ↔ Acc v := by
  constructor
  · intro h
    unfold pageV at h
    split at h
    · obtain ⟨W, g, e⟩ := of_page h
      exact ⟨W, g, by rw [e]⟩
    · cases h
  · rintro ⟨W, g, rfl⟩
    exact page_of g
end LJ
set_option Elab.async false
set_option linter.all false
set_option maxRecDepth 100000
set_option maxHeartbeats 8000000
namespace LJ
open PySem PySem.Spec L2
def Lw (z : Str) : Prop := ∀ c, 128 ≤ c → Free c z
theorem lw_const {z : Str} (h : (TL.tl z).all (fun c => decide (c < 128)) = true) : Lw z := fun c hc m => by
  have := List.all_eq_true.mp h c m
  have := of_decide_eq_true this
  omega
theorem lw_app {x y : Str} (a : Lw x) (b : Lw y) : Lw (x ++ y) := fun c hc => free_app (a c hc) (b c hc)
theorem lw_num {i : Int} (h : 0 ≤ i) : Lw (num i) := fun c hc => free_num h (by omega)
theorem lw_name {z : Str} (h : isW z = true) : Lw z := fun c hc => free_name h (by omega)
theorem lw_join {sep : Str} {ys : List Str} (a : Lw sep) (b : ∀ y ∈ ys, Lw y) : Lw (Txt.join sep ys) := fun c hc => free_join (a c hc) fun y hy => b y hy c hc
theorem lw_line3 {pre : Str} (p : Lw pre) {r : Str × Int × Int} (h : isW r.1 = true) (a : 0 ≤ r.2.1) (b : 0 ≤ r.2.2) : Lw (line3 pre r) := by
  unfold line3
  have s : Lw sp1 := lw_const (by decide +kernel)
  exact lw_app (lw_app (lw_app (lw_app (lw_app (lw_app (lw_const (by decide +kernel)) p) (lw_name h)) s) (lw_num a)) s) (lw_num b)
theorem lw_line2 {pre : Str} (p : Lw pre) {r : Str × Int} (h : isW r.1 = true) (a : 0 ≤ r.2) : Lw (line2 pre r) := by
  unfold line2
  have s : Lw sp1 := lw_const (by decide +kernel)
  exact lw_app (lw_app (lw_app (lw_app (lw_const (by decide +kernel)) p) (lw_name h)) s) (lw_num a)
theorem lw_text {W : Wd} (g : GoodF W) : Lw (wtext W) := by
  unfold wtext
  refine lw_join (lw_const (by decide +kernel)) fun y hy => ?_
  unfold wlines at hy
  rcases List.mem_append.mp hy with hy | hy
  · rcases List.mem_append.mp hy with hy | hy
    · rcases List.mem_append.mp hy with hy | hy
      · obtain ⟨r, hr, rfl⟩ := List.mem_map.mp hy
        have b := g.mb r hr
        exact lw_line3 (lw_const (by decide +kernel)) (g.wm hr) b.1 (Int.le_trans b.1 b.2.1)
      · obtain ⟨r, hr, rfl⟩ := List.mem_map.mp hy
        have b := g.cb r hr
        exact lw_line3 (lw_const (by decide +kernel)) (g.wc hr) b.1 (Int.le_trans b.1 b.2.1)
    · obtain ⟨r, hr, rfl⟩ := List.mem_map.mp hy
      exact lw_line2 (lw_const (by decide +kernel)) (g.ws hr) (g.sb r hr).1
  · obtain ⟨r, hr, rfl⟩ := List.mem_map.mp hy
    have b := (g.pb r hr).2
    unfold pline
    refine lw_app (lw_app (lw_app (lw_const (by decide +kernel)) (lw_const (by decide +kernel))) (lw_name (g.wp hr))) (lw_join (lw_const (by decide +kernel)) fun y hy => ?_)
    obtain ⟨x, hx, rfl⟩ := List.mem_map.mp hy
    have bx := b x hx
    unfold bline
    exact lw_app (lw_app (lw_app (lw_app (lw_const (by decide +kernel)) (lw_const (by decide +kernel))) (lw_num bx.1)) (lw_const (by decide +kernel))) (lw_num (Int.le_trans bx.1 bx.2.1))
theorem tk_wtext {W : Wd} (g : GoodF W) : Tk (wtext W) := tk_free.mpr (lw_text g)
end LJ
set_option Elab.async false
set_option linter.all false
set_option maxRecDepth 100000
set_option maxHeartbeats 8000000
/-! Runs of signs that are no blank and no end of a line: how long they are. -/
namespace LJ
open PySem PySem.Spec L2
def Sep (c : Nat) : Prop := c = 32 ∨ c = 10
def RnL (n : Nat) (L : List Nat) : Prop := ∀ i l, (∀ k, k < l → ∃ c, L[i + k]? = some c ∧ ¬ Sep c) → l ≤ n
abbrev Rn (n : Nat) (z : Str) : Prop := RnL n (TL.tl z)
theorem RnL.mono {n m : Nat} {L : List Nat} (h : RnL n L) (l : n ≤ m) : RnL m L := fun i k hk => Nat.le_trans (h i k hk) l
theorem rnl_len {n : Nat} {L : List Nat} (h : L.length ≤ n) : RnL n L := fun i l hl => by
  cases l with
  | zero => exact Nat.zero_le _
  | succ k =>
    obtain ⟨c, hc, _⟩ := hl k (Nat.lt_succ_self _)
    have := (List.getElem?_eq_some_iff.mp hc).1
    omega
theorem rn_len {n : Nat} {z : Str} (h : z.length ≤ n) : Rn n z := rnl_len (by rw [show (TL.tl z).length = z.length from len_tl z]; exact h)
theorem rnl_sub {n a : Nat} {L P : List Nat} (h : RnL n L) (s : ∀ k x, P[k]? = some x → L[a + k]? = some x) : RnL n P := fun i l hl => h (a + i) l fun k hk => by
  obtain ⟨c, hc, hs⟩ := hl k hk
  exact ⟨c, by rw [Nat.add_assoc]; exact s _ _ hc, hs⟩
theorem rnl_app {n m : Nat} {A B : List Nat} (ha : RnL n A) (hb : RnL m B) : RnL (n + m) (A ++ B) := fun i l hl => by
  by_cases c1 : A.length ≤ i
  · have := hb (i - A.length) l fun k hk => by
      obtain ⟨c, hc, hs⟩ := hl k hk
      rw [List.getElem?_append_right (by omega)] at hc
      exact ⟨c, by rw [show i - A.length + k = i + k - A.length by omega]; exact hc, hs⟩
    omega
  · by_cases c2 : i + l ≤ A.length
    · have := ha i l fun k hk => by
        obtain ⟨c, hc, hs⟩ := hl k hk
        rw [List.getElem?_append_left (by omega)] at hc
        exact ⟨c, hc, hs⟩
      omega
    · have h1 := ha i (A.length - i) fun k hk => by
        obtain ⟨c, hc, hs⟩ := hl k (by omega)
        rw [List.getElem?_append_left (by omega)] at hc
        exact ⟨c, hc, hs⟩
      have h2 := hb 0 (l - (A.length - i)) fun k hk => by
        obtain ⟨c, hc, hs⟩ := hl (A.length - i + k) (by omega)
        rw [List.getElem?_append_right (by omega)] at hc
        exact ⟨c, by rw [show 0 + k = i + (A.length - i + k) - A.length by omega]; exact hc, hs⟩
      omega
theorem rnl_sep {n s : Nat} {A B : List Nat} (ha : RnL n A) (hb : RnL n B) (hs : Sep s) : RnL n (A ++ ([s] ++ B)) := fun i l hl => by
  by_cases c1 : A.length < i
  · refine hb (i - A.length - 1) l fun k hk => ?_
    obtain ⟨c, hc, hn⟩ := hl k hk
    rw [List.getElem?_append_right (by omega), List.getElem?_append_right (by simp; omega)] at hc
    exact ⟨c, by rw [show i - A.length - 1 + k = i + k - A.length - [s].length by simp; omega]; exact hc, hn⟩
  · by_cases c2 : i + l ≤ A.length
    · refine ha i l fun k hk => ?_
      obtain ⟨c, hc, hn⟩ := hl k hk
      rw [List.getElem?_append_left (by omega)] at hc
      exact ⟨c, hc, hn⟩
    · obtain ⟨c, hc, hn⟩ := hl (A.length - i) (by omega)
      rw [List.getElem?_append_right (by omega), show i + (A.length - i) - A.length = 0 by omega] at hc
      have hc : some s = some c := hc
      cases hc
      exact absurd hs hn
theorem rn_app {n m : Nat} {a b : Str} (ha : Rn n a) (hb : Rn m b) : Rn (n + m) (a ++ b) := by
  show RnL _ (TL.tl (a ++ b))
  rw [TL.tl_append]
  exact rnl_app ha hb
theorem rn_cut {n : Nat} {z : Str} {lo hi : Option Int} (h : Rn n z) : Rn n (cutS z lo hi) := by
  refine rnl_sub (a := HT.sIx z.length 0 lo) h fun k x hx => ?_
  unfold cutS at hx
  have hx : (((TL.tl z).drop (HT.sIx z.length 0 lo)).take (HT.sIx z.length z.length hi - HT.sIx z.length 0 lo))[k]? = some x := hx
  rw [List.getElem?_take] at hx
  split at hx
  · rw [List.getElem?_drop] at hx
    exact hx
  · cases hx
theorem rnl_joinL {n s : Nat} (hs : Sep s) : ∀ {ys : List (List Nat)}, (∀ y ∈ ys, RnL n y) → RnL n (TL.joinL [s] ys)
  | [], _ => rnl_len (Nat.zero_le _)
  | [p], h => h p (List.mem_cons_self ..)
  | p :: q :: r, h => by
    show RnL n (p ++ ([s] ++ TL.joinL [s] (q :: r)))
    exact rnl_sep (h p (List.mem_cons_self ..)) (rnl_joinL hs fun y hy => h y (List.mem_cons_of_mem _ hy)) hs
theorem rn_join {n s : Nat} {sep : Str} (e : TL.tl sep = [s]) (hs : Sep s) {ys : List Str} (h : ∀ y ∈ ys, Rn n y) : Rn n (Txt.join sep ys) := by
  show RnL _ (TL.tl (Txt.join sep ys))
  rw [tl_join2, e]
  exact rnl_joinL hs fun y hy => by
    obtain ⟨z, hz, rfl⟩ := List.mem_map.mp hy
    exact h z hz
theorem spl_in {c : Nat} : ∀ (L acc : List Nat), ∀ p ∈ TL.spl [c] 0 acc L, ∃ a : Nat, ∀ (k x : Nat), p[k]? = some x → (acc ++ L)[a + k]? = some x
  | [], acc, p, hp => by
    rw [TL.spl.eq_1] at hp
    obtain rfl := List.mem_singleton.mp hp
    exact ⟨0, fun k x hx => by rw [List.append_nil, Nat.zero_add]; exact hx⟩
  | d :: r, acc, p, hp => by
    rw [TL.spl.eq_2] at hp
    split at hp
    · rcases List.mem_cons.mp hp with rfl | hp
      · refine ⟨0, fun k x hx => ?_⟩
        have := (List.getElem?_eq_some_iff.mp hx).1
        rw [Nat.zero_add, List.getElem?_append_left this]
        exact hx
      · obtain ⟨a, ha⟩ := spl_in r [] p hp
        refine ⟨acc.length + 1 + a, fun k x hx => ?_⟩
        have h1 := ha k x hx
        rw [List.nil_append] at h1
        rw [List.getElem?_append_right (by omega), show acc.length + 1 + a + k - acc.length = (a + k) + 1 by omega, List.getElem?_cons_succ]
        exact h1
    · obtain ⟨a, ha⟩ := spl_in r (acc ++ [d]) p hp
      refine ⟨a, fun k x hx => ?_⟩
      have h1 := ha k x hx
      rw [List.append_assoc] at h1
      exact h1
theorem spl_free {c : Nat} : ∀ (L acc : List Nat), c ∉ acc → ∀ p ∈ TL.spl [c] 0 acc L, c ∉ p
  | [], acc, h, p, hp => by
    rw [TL.spl.eq_1] at hp
    obtain rfl := List.mem_singleton.mp hp
    exact h
  | d :: r, acc, h, p, hp => by
    rw [TL.spl.eq_2] at hp
    split at hp
    · rcases List.mem_cons.mp hp with rfl | hp
      · exact h
      · exact spl_free r [] (by simp) p hp
    · rename_i hd
      refine spl_free r (acc ++ [d]) (fun m => ?_) p hp
      rcases List.mem_append.mp m with m | m
      · exact h m
      · obtain rfl := List.mem_singleton.mp m
        exact hd (by simp [TL.pre])
section
variable {x y p : Str} {c n : Nat} (hy : TL.tl y = [c]) (h : c < 256)
include hy h
theorem rn_split (r : Rn n x) (hp : p ∈ Txt.split x y) : Rn n p := by
  have e := split_spl1 (x := x) hy h
  have m : TL.tl p ∈ TL.spl [c] 0 [] (TL.tl x) := e ▸ List.mem_map_of_mem (f := TL.tl) hp
  obtain ⟨a, ha⟩ := spl_in _ _ _ m
  exact rnl_sub (a := a) r fun k x hx => by
    have := ha k x hx
    rw [List.nil_append] at this
    exact this
theorem free_split (hp : p ∈ Txt.split x y) : c ∉ TL.tl p := by
  have e := split_spl1 (x := x) hy h
  exact spl_free _ _ (by simp) _ (e ▸ List.mem_map_of_mem (f := TL.tl) hp)
end
/-- words of a text with short runs are short -/
theorem rn_word {n : Nat} {z ln wd : Str} (r : Rn n z) (hl : ln ∈ Txt.split z (Str.ofString "\n")) (hw : wd ∈ Txt.split ln sp1) : wd.length ≤ n := by
  have r2 := rn_split tl_sp1 (by decide) (rn_split tl_nl (by decide) r hl) hw
  have f1 := free_split tl_sp1 (by decide) hw
  have f2 : 10 ∉ TL.tl wd := fun m => free_split tl_nl (by decide) hl (split_mem tl_sp1 (by decide) hw 10 m)
  have := r2 0 wd.length fun k hk => by
    have hk' : k < (TL.tl wd).length := by
      rw [show (TL.tl wd).length = wd.length from len_tl wd]
      exact hk
    refine ⟨(TL.tl wd)[k], by rw [Nat.zero_add]; exact List.getElem?_eq_getElem hk', fun s => ?_⟩
    rcases s with s | s
    · exact f1 (by rw [← s]; exact List.getElem_mem hk')
    · exact f2 (by rw [← s]; exact List.getElem_mem hk')
  exact this
theorem rn_short {n : Nat} {z : Str} (r : Rn n z) (l : n ≤ 600) : ∀ ln ∈ Txt.split z (Str.ofString "\n"), ∀ wd ∈ Txt.split ln sp1, Short wd := fun ln hl wd hw => by
  have h := rn_word r hl hw
  refine ⟨by omega, fun p hp => ?_⟩
  have := split_le (c := 45) (x := wd) (y := hy) tl_hy (by decide) hp
  omega
/-! capitals -/
def cap (c : Nat) : Nat := if 97 ≤ c ∧ c ≤ 122 then c - 32 else c
theorem tl_upper : ∀ (L : List Nat), (∀ c ∈ L, c < 128) → TL.tl (Txt.upper ⟨L.toArray⟩) = L.map cap
  | [], _ => by decide +kernel
  | c :: r, h => by
    have ih := tl_upper r fun d hd => h d (List.mem_cons_of_mem _ hd)
    have e : (⟨(c :: r).toArray⟩ : Str) = ⟨#[c]⟩ ++ ⟨r.toArray⟩ := TL.ext_tl (by rw [TL.tl_append]; rfl)
    rw [e, PySem.W.KOpn.upper_app, PySem.W.KOpn.upper_one (h c (List.mem_cons_self ..)), TL.tl_append, ih]
    rfl
theorem upper_tl {z : Str} (h : Tk z) : TL.tl (Txt.upper z) = (TL.tl z).map cap := by
  have e : z = ⟨(TL.tl z).toArray⟩ := TL.ext_tl rfl
  have := tl_upper (TL.tl z) (tk_iff.mp h)
  rw [← e] at this
  exact this
theorem cap_ok : ∀ c : Fin 128, cap c.val < 128 ∧ (cap c.val = 32 → c.val = 32) ∧ (cap c.val = 10 → c.val = 10) := by decide +kernel
theorem upper_ok {z : Str} {n : Nat} (h : Tk z) (r : Rn n z) : Tk (Txt.upper z) ∧ (Txt.upper z).length = z.length ∧ Rn n (Txt.upper z) := by
  have e := upper_tl h
  have t := tk_iff.mp h
  refine ⟨tk_iff.mpr fun c hc => ?_, ?_, fun i l hl => r i l fun k hk => ?_⟩
  · rw [e] at hc
    obtain ⟨d, hd, rfl⟩ := List.mem_map.mp hc
    exact (cap_ok ⟨d, t d hd⟩).1
  · have := congrArg List.length e
    rw [List.length_map] at this
    rw [show (TL.tl (Txt.upper z)).length = (Txt.upper z).length from len_tl _, show (TL.tl z).length = z.length from len_tl _] at this
    exact this
  · obtain ⟨c, hc, hs⟩ := hl k hk
    rw [e, List.getElem?_map] at hc
    obtain ⟨d, hd, rfl⟩ := Option.map_eq_some_iff.mp hc
    refine ⟨d, hd, fun s => hs ?_⟩
    rcases s with rfl | rfl
    · exact .inl (by decide)
    · exact .inr (by decide)
end LJ
set_option Elab.async false
set_option linter.all false
set_option maxRecDepth 100000
set_option maxHeartbeats 8000000
namespace LJ
open PySem PySem.Spec L2
/-! The law's own page. -/
abbrev sPage : Stmt := top 52
abbrev nPage : List Str := ["_law_world_here", "_law_lines", "_law_row", "_law_part", "_law_name_here", "_law_inside_here", "_law_low", "_law_high"]
def rStrAny : List V → Hp → VK → Prop := fun xs H Q => (∃ a, xs = [.str a] ∧ Q (.str a) H) ∨ ∃ i, xs = [.int i] ∧ i.natAbs.log2 < 1920 ∧ Q (.str (num i)) H
theorem call_strAny {X : Cx} : CallR X (.type "str") rStrAny := by
  rintro pins s σ H xs us Q I r (h | h)
  · exact SkE.call_str_str pins s σ H xs us Q I r h
  · exact call_str_int pins s σ H xs us Q I r h
def strOf : V → Str
  | .str z => z
  | .int i => num i
  | _ => Str.empty
def okV : V → Bool
  | .str z => decide (z.length ≤ 20)
  | .int i => decide (0 ≤ i ∧ i ≤ 1000000000000)
  | _ => false
/-- a row of texts and numbers, with its words -/
def FlatRow (H : Hp) (v : V) (ws : List Str) : Prop := ∃ a xs, v = .ref a ∧ H a = some (.tup xs) ∧ (∀ x ∈ xs, okV x = true) ∧ xs.map strOf = ws ∧ xs.length ≤ 3
theorem FlatRow.tup {H H1 : Hp} {v : V} {ws : List Str} (t : Tup H H1) (h : FlatRow H v ws) : FlatRow H1 v ws := by
  obtain ⟨a, xs, h1, h2, h3⟩ := h
  exact ⟨a, xs, h1, t _ _ h2, h3⟩
def w3 (r : Str × Int × Int) : List Str := [r.1, num r.2.1, num r.2.2]
def w2 (r : Str × Int) : List Str := [r.1, num r.2]
theorem flat3 {H : Hp} {v : V} {r : Str × Int × Int} (w : isW r.1 = true) (b : 0 ≤ r.2.1 ∧ r.2.1 ≤ r.2.2 ∧ r.2.2 ≤ 1000) (h : Row3 H v r) : FlatRow H v (w3 r) := by
  obtain ⟨a, rfl, e⟩ := h
  have l8 := isW_8 w
  refine ⟨a, _, rfl, e, fun x hx => ?_, rfl, (by show _ ≤ 3; simp)⟩
  simp only [List.mem_cons, List.not_mem_nil, or_false] at hx
  rcases hx with rfl | rfl | rfl
  · exact decide_eq_true (by omega)
  · exact decide_eq_true (by omega)
  · exact decide_eq_true (by omega)
theorem flat2 {H : Hp} {v : V} {r : Str × Int} (w : isW r.1 = true) (b : 0 ≤ r.2 ∧ r.2 ≤ 1000000000000) (h : Row2 H v r) : FlatRow H v (w2 r) := by
  obtain ⟨a, rfl, e⟩ := h
  have l8 := isW_8 w
  refine ⟨a, _, rfl, e, fun x hx => ?_, rfl, (by show _ ≤ 3; simp)⟩
  simp only [List.mem_cons, List.not_mem_nil, or_false] at hx
  rcases hx with rfl | rfl
  · exact decide_eq_true (by omega)
  · exact decide_eq_true b
theorem okV_len {x : V} (h : okV x = true) : (strOf x).length ≤ 20 := by
  cases x with
  | str z => exact of_decide_eq_true h
  | int i =>
    have h := of_decide_eq_true h
    have := num_len h.1 h.2
    show (num i).length ≤ 20
    omega
  | _ => cases h
def rAddS : R2 := fun x y H Q => ∃ i j, x = .str i ∧ y = .str j ∧ i.length + j.length ≤ sizeLine ∧ Q (.str (i ++ j)) H
def rJoinK (K : PySem.W.Frag) : V → List V → Hp → VK → Prop := fun x xs H Q => ∃ a p, ∃ ys : List Str, x = .str a ∧ xs = [.ref p] ∧ (SqL K H p (ys.map V.str) ∨ SqT K H p (ys.map V.str)) ∧ (ys.map (·.length)).sum + ys.length * a.length ≤ 16777216 ∧ Q (.str (Txt.join a ys)) H
/-- one line: the word, then the parts of a row -/
def teL (K : PySem.W.Frag) (pre : Str) : TE := tOp rAddS (tC (.str pre)) (tM1 (rJoinK K) (tC (.str sp1)) (tLc (iTup K (tVar 2)) (gName 3) tYes (tCB rStrAny (tCons (tVar 3) tNil)) [3]))
theorem rd_seqU {a b : TS} {D : Ends} {σ : L2.St} {H : Hp} (h : a { D with nx := b D } σ H) : tSeq a b D σ H := h
theorem rd_asgU {te : TE} {g : TG} {D : Ends} {σ : L2.St} {H : Hp} (h : te σ H fun v H1 => g v σ H1 D.nx) : tAsg te g D σ H := h
def spPage : Sp := fun vs H Q _ => ∃ (p : Addr) (W : Wd), vs = [.ref p] ∧ WorldAt H p W ∧ GoodF W ∧ ∀ H1, Ex H H1 → Q (.str (wtext W)) H1
def lineOf (pre : Str) (ws : List Str) : Str := pre ++ Txt.join sp1 ws
theorem rd_lines {K : PySem.W.Frag} {p b : Addr} {v1 v2 v3 v4 v5 v6 v7 : Option V} {H : Hp} {Q : VK} {k : Int} {items vs : List V} {wss : List (List Str)} {pre : Str} (hp : H p = some (.lst items)) (hk : atI items k = some (.ref b)) (hb : H b = some (.lst vs))
    (pr : Paired (FlatRow H) vs wss) (l : wss.length ≤ 10) (lp : pre.length ≤ 20)
    (q : ∀ D H1, Ex H H1 → H D = none → H1 D = some (.lst ((wss.map (lineOf pre)).map V.str)) → Q (.ref D) H1) :
    tLc (iList K (tOp (rIxL K) (tVar 0) (tC (.int k)))) (gName 2) tYes (teL K pre) [2] [some (.ref p), v1, v2, v3, v4, v5, v6, v7] H Q := by
  have sz := sizeLine_eq
  have vl := Paired.size pr
  refine ⟨_, rfl, p, _, _, _, rfl, rfl, SqL.of hp, hk, b, rfl, ⟨_, SqL.of hb⟩, fun D hD => lc_list (K := K) (a := b) (xs := vs) (fun i G => Ex H G ∧ G D = some (.lst (((wss.take i).map (lineOf pre)).map V.str))) ⟨Ex.refl.new hD, upd_same⟩ (fun i G _ h => SqL.of (h.1 _ _ hb)) ?_ ?_⟩
  · rintro i v G hv ⟨xG, eG⟩
    obtain ⟨ws, hw, a, xs, rfl, ha, ok, rfl, lx⟩ := Paired.spot pr hv
    have li : i < wss.length := (List.getElem?_eq_some_iff.mp hw).1
    have ha1 := xG _ _ ha
    refine ⟨rfl, ?_⟩
    refine ⟨⟨_, rfl⟩, _, rfl, a, rfl, ⟨_, SqT.of ha1⟩, fun D2 nD2 => lc_tup (K := K) (a := a) (xs := xs) (fun n H2 => Ex G H2 ∧ H2 D2 = some (.lst (((xs.take n).map strOf).map V.str))) ⟨Ex.refl.new nD2, upd_same⟩ (fun n H2 _ h => SqT.of (h.1 _ _ ha1)) ?_ ?_⟩
    · rintro n x H2 hx ⟨x2, e2⟩
      have okx := ok x (List.mem_of_getElem? hx)
      have ln : n < xs.length := (List.getElem?_eq_some_iff.mp hx).1
      have done : ∃ acc, H2 D2 = some (.lst acc) ∧ acc.length < sizeLine ∧ Ex G (upd H2 D2 (.lst (acc ++ [.str (strOf x)]))) ∧ (upd H2 D2 (.lst (acc ++ [.str (strOf x)]))) D2 = some (.lst (((xs.take (n + 1)).map strOf).map V.str)) := by
        refine ⟨_, e2, ?_, x2.put nD2, ?_⟩
        · rw [List.length_map, List.length_map, List.length_take]
          omega
        · rw [upd_same, List.take_succ, hx, List.map_append, List.map_append]
          rfl
      refine ⟨rfl, _, rfl, ?_⟩
      cases x with
      | str z => exact .inl ⟨z, rfl, done⟩
      | int i =>
        have h := of_decide_eq_true okx
        exact .inr ⟨i, rfl, num_log h.1 h.2, done⟩
      | _ => cases okx
    · rintro H2 ⟨x2, e2⟩
      rw [List.take_of_length_le (Nat.le_refl _)] at e2
      have ls : ((xs.map strOf).map (·.length)).sum ≤ xs.length * 20 := by
        rw [List.map_map]
        exact sum_most fun x hx => okV_len (ok x hx)
      have jl : (Txt.join sp1 (xs.map strOf)).length ≤ 100 := by
        rw [join_len, List.length_map, sp1_len]
        have : xs.length * 20 ≤ 3 * 20 := Nat.mul_le_mul_right _ lx
        omega
      refine ⟨_, D2, xs.map strOf, rfl, rfl, .inl (SqL.of e2), ?_, _, _, rfl, rfl, by omega, _, x2 _ _ eG, ?_, (xG.trans x2).put hD, ?_⟩
      · rw [List.length_map, sp1_len]
        have : xs.length * 20 ≤ 3 * 20 := Nat.mul_le_mul_right _ lx
        omega
      · rw [List.length_map, List.length_map, List.length_take]
        omega
      · rw [upd_same, List.take_succ, hw, List.map_append, List.map_append]
        rfl
  · rintro G ⟨xG, eG⟩
    rw [vl, List.take_of_length_le (Nat.le_refl _)] at eG
    exact q D G xG hD eG
theorem page_prod (n : Str) (bs : List (Int × Int)) : Txt.join sp1 ((Str.ofString "product " ++ n) :: bs.map bword) = pline n bs := by
  rw [pline_join]
  apply TL.ext_tl
  rw [tl_join2, tl_join2, tl_sp1, List.map_cons, List.map_cons, List.map_cons, joinL_sp, joinL_sp, TL.tl_append, show TL.tl (Str.ofString "product ") = TL.tl kP ++ [32] from by decide +kernel]
  simp
theorem line_m (r : Str × Int × Int) : lineOf (Str.ofString "machine ") (w3 r) = lnT (.m r) := by
  apply TL.ext_tl
  unfold lineOf w3 lnT
  rw [TL.tl_append, tl_join2, tl_join2, tl_sp1, kM_pre, List.map_cons, joinL_sp]
  show _ = TL.joinL [32] (TL.tl kM :: [TL.tl r.1, TL.tl (num r.2.1), TL.tl (num r.2.2)])
  rw [joinL_sp]
  simp
theorem line_c (r : Str × Int × Int) : lineOf (Str.ofString "cleaning ") (w3 r) = lnT (.c r) := by
  apply TL.ext_tl
  unfold lineOf w3 lnT
  rw [TL.tl_append, tl_join2, tl_join2, tl_sp1, kC_pre, List.map_cons, joinL_sp]
  show _ = TL.joinL [32] (TL.tl kC :: [TL.tl r.1, TL.tl (num r.2.1), TL.tl (num r.2.2)])
  rw [joinL_sp]
  simp
theorem line_s (r : Str × Int) : lineOf (Str.ofString "stuff ") (w2 r) = lnT (.s r) := by
  apply TL.ext_tl
  unfold lineOf w2 lnT
  rw [TL.tl_append, tl_join2, tl_join2, tl_sp1, kS_pre, List.map_cons, joinL_sp]
  show _ = TL.joinL [32] (TL.tl kS :: [TL.tl r.1, TL.tl (num r.2)])
  rw [joinL_sp]
  simp
theorem pairs_flat3 {H : Hp} : ∀ {vs : List V} {rs : List (Str × Int × Int)}, (∀ r ∈ rs, isW r.1 = true ∧ 0 ≤ r.2.1 ∧ r.2.1 ≤ r.2.2 ∧ r.2.2 ≤ 1000) → Paired (Row3 H) vs rs → Paired (FlatRow H) vs (rs.map w3)
  | [], [], _, _ => .nil
  | _ :: _, r :: _, h, .cons a t => .cons (flat3 (h r (List.mem_cons_self ..)).1 (h r (List.mem_cons_self ..)).2 a) (pairs_flat3 (fun x hx => h x (List.mem_cons_of_mem _ hx)) t)
theorem pairs_flat2 {H : Hp} : ∀ {vs : List V} {rs : List (Str × Int)}, (∀ r ∈ rs, isW r.1 = true ∧ 0 ≤ r.2 ∧ r.2 ≤ 1000000000000) → Paired (Row2 H) vs rs → Paired (FlatRow H) vs (rs.map w2)
  | [], [], _, _ => .nil
  | _ :: _, r :: _, h, .cons a t => .cons (flat2 (h r (List.mem_cons_self ..)).1 (h r (List.mem_cons_self ..)).2 a) (pairs_flat2 (fun x hx => h x (List.mem_cons_of_mem _ hx)) t)
def part3 (W : Wd) : List Str := (W.ms.map w3).map (lineOf (Str.ofString "machine ")) ++ (W.cs.map w3).map (lineOf (Str.ofString "cleaning ")) ++ (W.ss.map w2).map (lineOf (Str.ofString "stuff "))
theorem page_lines (W : Wd) : part3 W ++ W.ps.map (fun p => pline p.1 p.2) = wlines W := by
  rw [lns_text]
  unfold part3 lns
  rw [List.map_append, List.map_append, List.map_append]
  simp only [List.map_map]
  rw [show (W.ms.map (lineOf (Str.ofString "machine ") ∘ w3)) = W.ms.map (lnT ∘ Ln.m) from List.map_congr_left fun r _ => line_m r,
    show (W.cs.map (lineOf (Str.ofString "cleaning ") ∘ w3)) = W.cs.map (lnT ∘ Ln.c) from List.map_congr_left fun r _ => line_c r,
    show (W.ss.map (lineOf (Str.ofString "stuff ") ∘ w2)) = W.ss.map (lnT ∘ Ln.s) from List.map_congr_left fun r _ => line_s r,
    show (W.ps.map fun p => pline p.1 p.2) = W.ps.map (lnT ∘ Ln.p) from List.map_congr_left fun r _ => pline_join r.1 r.2]
structure BltP (mg : Str → Option Value) : Prop where
  str : mg "str" = none
section
variable {P : Program} {w : World} {K : PySem.W.Frag} {mg : Str → Option Value} {base : Heap}
theorem scPage : FnScope nPage ["_law_world_here"] (defScope sPage) := ⟨rfl, rfl, rfl, by decide +kernel, rfl, by decide +kernel, by decide +kernel⟩
theorem ok_page {f : Addr} {fd : FuncData} (F : Fun K "_law_page" "_law_page" sPage f fd) (B : BltP mg) : FnOk P w K mg base CX0 1 f fd ["_law_world_here"] spPage := by
  refine F.ok scPage (fun vs H Q E h => ?_) (fun cdv A outer s H vs Q E hr h => ?_)
  · obtain ⟨p, W, rfl, _⟩ := h
    rfl
  · obtain ⟨p, W, rfl, ⟨a, b, c, d, va, vb, vc, vd, hp, ha, pa, hb, pb, hc, pc, hd, pd⟩, g, q⟩ := h
    refine ⟨_, pss_cons (ps_setLc (i := 1) (own := [("_law_row", 2)]) (g := gName 2) (te := teL K (Str.ofString "machine ")) (by rfl) scPage.nd rfl rfl (sw_true rfl rfl rfl (by decide +kernel)) (pi_list (pe_ix ix_list (pv 0) pe_int (fun _ _ => rfl))) (blkOk_by (own := [("_law_row", 2)]) (N := nPage) (sc := defScope sPage) (by decide +kernel))
        (fun _ _ _ _ _ => pg_name (i := 2) scPage.nd rfl (Or.inl rfl)) (fun _ _ _ _ _ => pts_nil)
        (fun _ _ _ _ _ => pe_op op_add_str pe_str (pe_join pe_str (pe_lc (own := [("_law_part", 3)]) (g := gName 3) (by rfl) scPage.nd (pi_tup (pv 2)) (blkOk_by (own := [("_law_part", 3)]) (N := nPage) (by rfl)) (fun _ _ _ _ _ => pg_name (i := 3) scPage.nd rfl (Or.inl rfl)) (fun _ _ _ _ _ => pts_nil)
          (fun _ _ _ _ _ => pe_callTy call_strAny (by rfl) B.str (by decide +kernel) (pa_cons (pv 3) pa_nil))))))
      (pss_cons (ps_set (i := 1) scPage.nd rfl (Or.inl rfl) (pe_op op_cat (pv 1) (pe_lc (own := [("_law_row", 2)]) (g := gName 2) (te := teL K (Str.ofString "cleaning ")) (by rfl) scPage.nd (pi_list (pe_ix ix_list (pv 0) pe_int (fun _ _ => rfl))) (blkOk_by (own := [("_law_row", 2)]) (N := nPage) (sc := defScope sPage) (by decide +kernel))
        (fun _ _ _ _ _ => pg_name (i := 2) scPage.nd rfl (Or.inl rfl)) (fun _ _ _ _ _ => pts_nil)
        (fun _ _ _ _ _ => pe_op op_add_str pe_str (pe_join pe_str (pe_lc (own := [("_law_part", 3)]) (g := gName 3) (by rfl) scPage.nd (pi_tup (pv 2)) (blkOk_by (own := [("_law_part", 3)]) (N := nPage) (by rfl)) (fun _ _ _ _ _ => pg_name (i := 3) scPage.nd rfl (Or.inl rfl)) (fun _ _ _ _ _ => pts_nil)
          (fun _ _ _ _ _ => pe_callTy call_strAny (by rfl) B.str (by decide +kernel) (pa_cons (pv 3) pa_nil))))))))
      (pss_cons (ps_set (i := 1) scPage.nd rfl (Or.inl rfl) (pe_op op_cat (pv 1) (pe_lc (own := [("_law_row", 2)]) (g := gName 2) (te := teL K (Str.ofString "stuff ")) (by rfl) scPage.nd (pi_list (pe_ix ix_list (pv 0) pe_int (fun _ _ => rfl))) (blkOk_by (own := [("_law_row", 2)]) (N := nPage) (sc := defScope sPage) (by decide +kernel))
        (fun _ _ _ _ _ => pg_name (i := 2) scPage.nd rfl (Or.inl rfl)) (fun _ _ _ _ _ => pts_nil)
        (fun _ _ _ _ _ => pe_op op_add_str pe_str (pe_join pe_str (pe_lc (own := [("_law_part", 3)]) (g := gName 3) (by rfl) scPage.nd (pi_tup (pv 2)) (blkOk_by (own := [("_law_part", 3)]) (N := nPage) (by rfl)) (fun _ _ _ _ _ => pg_name (i := 3) scPage.nd rfl (Or.inl rfl)) (fun _ _ _ _ _ => pts_nil)
          (fun _ _ _ _ _ => pe_callTy call_strAny (by rfl) B.str (by decide +kernel) (pa_cons (pv 3) pa_nil))))))))
      (pss_cons (ps_for PassesOwn.never rfl (pi_list (pe_ix ix_list (pv 0) pe_int (fun _ _ => rfl))) (pg_tup (by rfl) (pgs_cons (pg_name (i := 4) scPage.nd rfl (Or.inl rfl)) (pgs_cons (pg_name (i := 5) scPage.nd rfl (Or.inl rfl)) pgs_nil)))
        (pss_one (ps_expr (pe_bm PySem.F.plainAttrs_list PySem.F.slot_list_append PySem.F.type_list_append mt_append (pv 1) (pa_cons (pe_join pe_str (pe_op op_cat (pe_lst (pa_cons (pe_op op_add_str pe_str (pv 4)) pa_nil))
          (pe_lc (own := [("_law_low", 6), ("_law_high", 7)]) (g := gTup K 2 (gCons (gName 6) (gCons (gName 7) gNil))) (by rfl) scPage.nd (pi_tup (pv 5)) (blkOk_by (own := [("_law_low", 6), ("_law_high", 7)]) (N := nPage) (sc := defScope sPage) (by decide +kernel))
            (fun _ _ _ _ _ => pg_tup (by rfl) (pgs_cons (pg_name (i := 6) scPage.nd rfl (Or.inl rfl)) (pgs_cons (pg_name (i := 7) scPage.nd rfl (Or.inl rfl)) pgs_nil))) (fun _ _ _ _ _ => pts_nil)
            (fun _ _ _ _ _ => pe_op op_add_str (pe_op op_add_str (pe_callTy call_strAny (by rfl) B.str (by decide +kernel) (pa_cons (pv 6) pa_nil)) pe_str) (pe_callTy call_strAny (by rfl) B.str (by decide +kernel) (pa_cons (pv 7) pa_nil)))))) pa_nil)))))
      (pss_one (ps_ret (pe_join pe_str (pv 1))))))), ?_⟩
    have sz := sizeLine_eq
    have g1 := g.m2
    have g2 := g.c2
    have g3 := g.s2
    have g4 := g.p2
    have at0 : atI [V.ref a, .ref b, .ref c, .ref d] 0 = some (.ref a) := atI_nat (j := 0) rfl
    have at1 : atI [V.ref a, .ref b, .ref c, .ref d] 1 = some (.ref b) := atI_nat (j := 1) rfl
    have at2 : atI [V.ref a, .ref b, .ref c, .ref d] 2 = some (.ref c) := atI_nat (j := 2) rfl
    have at3 : atI [V.ref a, .ref b, .ref c, .ref d] 3 = some (.ref d) := atI_nat (j := 3) rfl
    have fm := pairs_flat3 (fun r hr => ⟨g.wm hr, g.mb r hr⟩) pa
    have fc := pairs_flat3 (fun r hr => ⟨g.wc hr, g.cb r hr⟩) pb
    have fs := pairs_flat2 (fun r hr => ⟨g.ws hr, g.sb r hr⟩) pc
    have fx : ∀ {G : Hp} {vs : List V} {wss : List (List Str)}, Ex H G → Paired (FlatRow H) vs wss → Paired (FlatRow G) vs wss := fun e h => L2.Paired.mapP h fun _ _ z => z.tup (Ex.tup e)
    refine rd_seqU (rd_asgU ?_)
    refine rd_lines (pre := Str.ofString "machine ") (vs := va) hp at0 ha fm (by rw [List.length_map]; omega) (by decide +kernel) fun D1 H1 x1 n1 e1 => ?_
    refine ⟨_, rfl, rd_lines (pre := Str.ofString "cleaning ") (vs := vb) (x1 _ _ hp) at1 (x1 _ _ hb) (fx x1 fc) (by rw [List.length_map]; omega) (by decide +kernel) fun D2 H2 x2 n2 e2 => ?_⟩
    refine ⟨D1, D2, _, _, rfl, rfl, x2 _ _ e1, e2, by simp only [List.length_map]; omega, fun D3 n3 => ?_⟩
    have y2 := x1.trans x2
    have x3 : Ex H2 (upd H2 D3 (.lst (((W.ms.map w3).map (lineOf (Str.ofString "machine "))).map V.str ++ ((W.cs.map w3).map (lineOf (Str.ofString "cleaning "))).map V.str))) := Ex.refl.new n3
    have e3 : (upd H2 D3 (.lst (((W.ms.map w3).map (lineOf (Str.ofString "machine "))).map V.str ++ ((W.cs.map w3).map (lineOf (Str.ofString "cleaning "))).map V.str))) D3 = some (.lst _) := upd_same
    generalize upd H2 D3 (.lst (((W.ms.map w3).map (lineOf (Str.ofString "machine "))).map V.str ++ ((W.cs.map w3).map (lineOf (Str.ofString "cleaning "))).map V.str)) = H3 at x3 e3 ⊢
    have y3 := y2.trans x3
    refine ⟨_, rfl, rd_lines (pre := Str.ofString "stuff ") (vs := vc) (y3 _ _ hp) at2 (y3 _ _ hc) (fx y3 fs) (by rw [List.length_map]; omega) (by decide +kernel) fun D4 H4 x4 n4 e4 => ?_⟩
    refine ⟨D3, D4, _, _, rfl, rfl, x4 _ _ e3, e4, by simp only [List.length_map, List.length_append]; omega, fun D5 n5 => ?_⟩
    have y4 := y3.trans x4
    rw [← List.map_append, ← List.map_append]
    rw [show (W.ms.map w3).map (lineOf (Str.ofString "machine ")) ++ (W.cs.map w3).map (lineOf (Str.ofString "cleaning ")) ++ (W.ss.map w2).map (lineOf (Str.ofString "stuff ")) = part3 W from rfl]
    have x5 : Ex H4 (upd H4 D5 (.lst ((part3 W).map V.str))) := Ex.refl.new n5
    have e5 : (upd H4 D5 (.lst ((part3 W).map V.str))) D5 = some (.lst ((part3 W).map V.str)) := upd_same
    have h5 : H D5 = none := y4.gone n5
    generalize upd H4 D5 (.lst ((part3 W).map V.str)) = H5 at x5 e5 ⊢
    have y5 := y4.trans x5
    have l3 : (part3 W).length ≤ 15 := by
      unfold part3
      simp only [List.length_append, List.length_map]
      omega
    have lp : vd.length = W.ps.length := Paired.size pd
    refine ⟨_, rfl, p, _, _, _, rfl, rfl, SqL.of (y5 _ _ hp), at3, d, rfl, ⟨_, SqL.of (y5 _ _ hd)⟩, for_list (K := K) (a := d) (xs := vd) (fun i σ G => (∃ v2 v3 v4 v5 v6 v7, σ = [some (.ref p), some (.ref D5), v2, v3, v4, v5, v6, v7]) ∧ Ex H G ∧ G D5 = some (.lst ((part3 W ++ (W.ps.take i).map fun x => pline x.1 x.2).map V.str))) ⟨⟨_, _, _, _, _, _, rfl⟩, y5, by rw [List.take_zero, List.map_nil, List.append_nil]; exact e5⟩ (fun i σ G _ h => SqL.of (h.2.1 _ _ hd)) ?_ ?_⟩
    · rintro i v σ G hv ⟨⟨v2, v3, v4, v5, v6, v7, rfl⟩, xG, eG⟩
      obtain ⟨⟨n, bs⟩, hr, a1, t1, ys, rfl, ea1, et1, pb1⟩ := Paired.spot pd hv
      have hm := List.mem_of_getElem? hr
      have ok := g.pb _ hm
      have w8 : n.length ≤ 8 := isW_8 (g.wp hm)
      have lb : bs.length ≤ 3 := by
        have := ok.1
        have : bs.length = W.ss.length := this
        omega
      have li : i < W.ps.length := (List.getElem?_eq_some_iff.mp hr).1
      refine ⟨a1, _, rfl, SqT.of (xG _ _ ea1), rfl, _, _, rfl, _, _, rfl, rfl, ?_⟩
      refine ⟨_, rfl, .inl ⟨rfl, _, SqL.of eG⟩, ?_⟩
      have l0 : (Str.ofString "product " ++ n).length ≤ 16 := by
        rw [Str.length_append, show (Str.ofString "product ").length = 8 by decide +kernel]
        omega
      refine ⟨⟨_, rfl⟩, _, rfl, _, _, rfl, rfl, ?_, (by rw [sz]; show 1 ≤ 16777216; decide), fun pl npl => ?_⟩
      · rw [show (Str.ofString "product ").length = 8 by decide +kernel]
        show 8 + n.length ≤ sizeLine
        omega
      have xl : Ex G (upd G pl (.lst [.str (Str.ofString "product " ++ n)])) := Ex.refl.new npl
      have el : (upd G pl (.lst [.str (Str.ofString "product " ++ n)])) pl = some (.lst [.str (Str.ofString "product " ++ n)]) := upd_same
      generalize upd G pl (.lst [.str (Str.ofString "product " ++ n)]) = G1 at xl el ⊢
      have z1 := xG.trans xl
      have et2 := z1 _ _ et1
      have pb2 := bnds (Ex.tup z1) pb1
      have yl : ys.length = bs.length := Paired.size pb1
      refine ⟨_, rfl, t1, rfl, ⟨_, SqT.of et2⟩, fun D nD => lc_tup (K := K) (a := t1) (xs := ys) (fun k G2 => Ex G1 G2 ∧ G2 D = some (.lst (((bs.take k).map bword).map V.str))) ⟨Ex.refl.new nD, upd_same⟩ (fun k G2 _ h => SqT.of (h.1 _ _ et2)) ?_ ?_⟩
      · rintro k v G2 hv ⟨x2, e2⟩
        obtain ⟨⟨lo, hi2⟩, hk, b2, rfl, hb2⟩ := Paired.spot pb2 hv
        obtain ⟨s1, s2, s3⟩ := ok.2 _ (List.mem_of_getElem? hk)
        have s1 : 0 ≤ lo := s1
        have s2 : lo ≤ hi2 := s2
        have s3 : hi2 ≤ 1000000000000 := s3
        have lk : k < bs.length := (List.getElem?_eq_some_iff.mp hk).1
        have l1 := num_len s1 (Int.le_trans s2 s3)
        have l2 := num_len (Int.le_trans s1 s2) s3
        have l4 : (Str.ofString "-").length = 1 := by decide +kernel
        refine ⟨b2, _, rfl, SqT.of (x2 _ _ hb2), rfl, _, _, rfl, _, _, rfl, rfl, rfl, ?_⟩
        refine ⟨_, rfl, .inr ⟨lo, rfl, num_log s1 (Int.le_trans s2 s3), _, _, rfl, rfl, by omega, _, rfl, .inr ⟨hi2, rfl, num_log (Int.le_trans s1 s2) s3, _, _, rfl, rfl, ?_, _, e2, ?_, x2.put nD, ?_⟩⟩⟩
        · rw [Str.length_append]
          omega
        · rw [List.length_map, List.length_map, List.length_take]
          omega
        · rw [upd_same, List.take_succ, hk, List.map_append, List.map_append]
          rfl
      · rintro G2 ⟨x2, e2⟩
        rw [yl, List.take_of_length_le (Nat.le_refl _)] at e2
        refine ⟨pl, D, _, _, rfl, rfl, x2 _ _ el, e2, by simp only [List.length_map, List.length_cons, List.length_nil]; omega, fun pj npj => ?_⟩
        have x3 : Ex G2 (upd G2 pj (.lst ([.str (Str.ofString "product " ++ n)] ++ (bs.map bword).map V.str))) := Ex.refl.new npj
        have e3 : (upd G2 pj (.lst ([.str (Str.ofString "product " ++ n)] ++ (bs.map bword).map V.str))) pj = some (.lst (((Str.ofString "product " ++ n) :: bs.map bword).map V.str)) := upd_same
        generalize upd G2 pj (.lst ([.str (Str.ofString "product " ++ n)] ++ (bs.map bword).map V.str)) = G3 at x3 e3 ⊢
        have z3 := xl.trans (x2.trans x3)
        have sb : ((bs.map bword).map (·.length)).sum ≤ bs.length * 30 := by
          rw [List.map_map]
          exact sum_most fun x hx => bword_len (ok.2 x hx)
        refine ⟨_, pj, (Str.ofString "product " ++ n) :: bs.map bword, rfl, rfl, .inl (SqL.of e3), ?_, D5, _, _, rfl, rfl, z3 _ _ eG, ?_, ⟨_, _, _, _, _, _, rfl⟩, (xG.trans z3).put h5, ?_⟩
        · rw [List.map_cons, List.sum_cons, List.length_cons, List.length_map, show (Str.ofString " ").length = 1 by decide +kernel]
          omega
        · simp only [List.length_map, List.length_append, List.length_take]
          omega
        · rw [upd_same, List.take_succ, hr]
          simp only [List.map_append, Option.toList, List.map_cons, List.map_nil, List.append_assoc]
          rw [← page_prod]
    · rintro σ G ⟨⟨v2, v3, v4, v5, v6, v7, rfl⟩, xG, eG⟩
      rw [lp, List.take_of_length_le (Nat.le_refl _), page_lines] at eG
      have tl := wtext_len g
      have sum : ((wlines W).map (·.length)).sum ≤ 10000 := by
        unfold wtext at tl
        rw [join_len] at tl
        omega
      have ll : (wlines W).length ≤ 23 := by
        rw [lns_text, List.length_map]
        exact lns_len g
      exact ⟨⟨_, rfl⟩, _, rfl, _, D5, wlines W, rfl, rfl, .inl (SqL.of eG), by rw [show (Str.ofString "\n").length = 1 by decide +kernel]; omega, q G xG⟩
end
end LJ
set_option Elab.async false
set_option linter.all false
set_option maxRecDepth 100000
set_option maxHeartbeats 8000000
namespace LJ
open PySem PySem.Spec L2
open LamX (ExtN)
/-! _law_bent: a page bent. -/
abbrev nl : Str := Str.ofString "\n"
abbrev sBe3 : Stmt := top 51
abbrev nBe3 : List Str := ["_law_jar_here", "_law_page_here", "_law_kind", "_law_lines", "_law_at", "_law_spot", "_law_sign", "_law_more", "_law_words", "_law_k", "_law_middle"]
/-- xs[:i] + mid + xs[i + 1:] -/
def tEdit (K : PySem.W.Frag) (a b : Nat) (tm : TE) : TE :=
  tOp rCat (tOp rCat (tSl (rSlL K) (tVar a) tNoPart (tPart (tVar b))) tm) (tSl (rSlL K) (tVar a) (tPart (tOp (rI0 fun i j => V.int (i + j)) (tVar b) (tC (.int 1)))) tNoPart)
theorem cutV_lo {xs : List Str} {i : Int} (h0 : 0 ≤ i) (h : i.toNat < xs.length) : cutV (xs.map V.str) none (some i) = (xs.take i.toNat).map V.str := by
  unfold cutV
  rw [HT.sIx_none]
  unfold HT.sIx
  simp only
  rw [if_neg (by omega), List.length_map, Nat.sub_zero, List.drop_zero, Nat.min_eq_left (by omega), List.map_take]
theorem cutV_hi {xs : List Str} {i : Int} (h0 : 0 ≤ i) (h : i.toNat < xs.length) : cutV (xs.map V.str) (some (i + 1)) none = (xs.drop (i.toNat + 1)).map V.str := by
  unfold cutV
  rw [HT.sIx_none]
  unfold HT.sIx
  simp only
  rw [if_neg (by omega), List.length_map, show (i + 1).toNat = i.toNat + 1 by omega, Nat.min_eq_left (by omega), List.map_drop, List.take_of_length_le (by rw [List.length_drop, List.length_map]; exact Nat.le_refl _)]
section
variable {K : PySem.W.Frag} {σ : L2.St} {H : Hp} {Q : VK} {j la : Addr} {a b : Nat} {tm : TE} {xs : List Str} {i : Int}
theorem rd_edit {Pm : List Str → Prop} (s1 : σ[a]? = some (some (.ref la))) (s2 : σ[b]? = some (some (.int i))) (J : JarAt H j) (hl : H la = some (.lst (xs.map V.str))) (nj : la ≠ j)
    (h0 : 0 ≤ i) (hi : i.toNat < xs.length) (hx : xs.length ≤ 100000)
    (mid : ∀ (H1 : Hp) (Q1 : VK), JarAt H1 j → But j H H1 → (∀ (lm : Addr) (ms : List Str) (H2 : Hp), H2 lm = some (.lst (ms.map V.str)) → ms.length ≤ 1000 → Pm ms → JarAt H2 j → But j H1 H2 → Q1 (.ref lm) H2) → tm σ H1 Q1)
    (q : ∀ (p : Addr) (ms : List Str) (H2 : Hp), Pm ms → ms.length ≤ 1000 → H2 p = some (.lst ((edit xs i.toNat ms).map V.str)) → p ≠ j → JarAt H2 j → But j H H2 → Q (.ref p) H2) : tEdit K a b tm σ H Q := by
  have sz := sizeLine_eq
  refine ⟨_, s1, _, s2, _, rfl, la, _, rfl, SqL.of hl, fun p1 n1 => ?_⟩
  rw [cutV_lo h0 hi]
  have J1 : JarAt (upd H p1 (.lst ((xs.take i.toNat).map V.str))) j := J.new n1
  have b1 : But j H (upd H p1 (.lst ((xs.take i.toNat).map V.str))) := But.refl.new n1
  have e1 : (upd H p1 (.lst ((xs.take i.toNat).map V.str))) p1 = some (.lst ((xs.take i.toNat).map V.str)) := upd_same
  have m1 := J.ne n1
  generalize upd H p1 (.lst ((xs.take i.toNat).map V.str)) = H1 at J1 b1 e1 ⊢
  refine mid H1 _ J1 b1 fun lm ms H2 e2 l2 pm J2 b2 => ?_
  refine ⟨p1, lm, _, _, rfl, rfl, b2 _ _ m1 e1, e2, by rw [List.length_map, List.length_map, List.length_take]; omega, fun p3 n3 => ?_⟩
  have J3 : JarAt (upd H2 p3 (.lst ((xs.take i.toNat).map V.str ++ ms.map V.str))) j := J2.new n3
  have b3 : But j H (upd H2 p3 (.lst ((xs.take i.toNat).map V.str ++ ms.map V.str))) := (b1.trans b2).new n3
  have e3 : (upd H2 p3 (.lst ((xs.take i.toNat).map V.str ++ ms.map V.str))) p3 = some (.lst ((xs.take i.toNat).map V.str ++ ms.map V.str)) := upd_same
  have m3 := J2.ne n3
  generalize upd H2 p3 (.lst ((xs.take i.toNat).map V.str ++ ms.map V.str)) = H3 at J3 b3 e3 ⊢
  refine ⟨_, s1, _, s2, _, _, rfl, rfl, _, rfl, la, _, rfl, SqL.of (b3 _ _ nj hl), fun p4 n4 => ?_⟩
  rw [cutV_hi h0 hi]
  have J4 : JarAt (upd H3 p4 (.lst ((xs.drop (i.toNat + 1)).map V.str))) j := J3.new n4
  have b4 : But j H3 (upd H3 p4 (.lst ((xs.drop (i.toNat + 1)).map V.str))) := But.refl.new n4
  have e4 : (upd H3 p4 (.lst ((xs.drop (i.toNat + 1)).map V.str))) p4 = some (.lst ((xs.drop (i.toNat + 1)).map V.str)) := upd_same
  generalize upd H3 p4 (.lst ((xs.drop (i.toNat + 1)).map V.str)) = H4 at J4 b4 e4 ⊢
  refine ⟨p3, p4, _, _, rfl, rfl, b4 _ _ m3 e3, e4, by rw [List.length_append, List.length_map, List.length_map, List.length_map, List.length_take, List.length_drop]; omega, fun p5 n5 => ?_⟩
  refine q p5 ms _ pm l2 ?_ (J4.ne n5) (J4.new n5) ((b3.trans b4).new n5)
  rw [upd_same, ← List.map_append, ← List.map_append]
  rfl
end
theorem strs_ne {H : Hp} {j l : Addr} {xs : List Str} (J : JarAt H j) (h : H l = some (.lst (xs.map V.str))) : l ≠ j := fun e => by
  subst e
  obtain ⟨d, m, c, hj, _⟩ := J
  rw [h] at hj
  cases xs with
  | nil => cases hj
  | cons a t => cases hj
/-- the signs that are put in -/
def more5 : List Str := [Str.ofString "00", Str.ofString " 0", Str.ofString "-1", Str.ofString "machine", Str.ofString "~"]
def sgs3 : List Str := SetX.signs (Str.ofString "0 1a-zZ\n") ++ more5
theorem sgs3_ok : ∀ s ∈ sgs3, s.length ≤ 7 ∧ Tk s := by decide +kernel
theorem k3_len {z m : Str} {i o : Int} (h0 : 0 ≤ i) (h1 : i ≤ z.length) (ho : o = 0 ∨ o = 1) (m5 : m.length ≤ 7) : (cutS z none (some i) ++ m ++ cutS z (some (i + o)) none).length ≤ z.length + 8 := by
  have l1 := cut_lo (z := z) h0
  have l2 := cut_hi (z := z) (i := i + o) (by omega)
  rw [len_app, len_app]
  omega
theorem k3_tk {z m : Str} {i o : Int} (h : Tk z) (hm : Tk m) : Tk (cutS z none (some i) ++ m ++ cutS z (some (i + o)) none) := tk_app (tk_app (tk_cut h) hm) (tk_cut h)
theorem k3_rn {z m : Str} {i o : Int} {n : Nat} (h : Rn n z) (hm : m.length ≤ 7) : Rn (2 * n + 7) (cutS z none (some i) ++ m ++ cutS z (some (i + o)) none) :=
  RnL.mono (rn_app (rn_app (rn_cut h) (rn_len hm)) (rn_cut h)) (by omega)
section
variable {K : PySem.W.Frag} {σ : L2.St} {H : Hp} {Q : VK} {j : Addr} {z sg m : Str} {i k o : Int}
theorem rd_k33 (s1 : σ[1]? = some (some (.str z))) (s3 : σ[2]? = some (some (.int k))) (s5 : σ[4]? = some (some (.int i))) (s7 : σ[6]? = some (some (.str sg))) (h0 : 0 ≤ i) (h1 : i ≤ z.length) (lz : z.length ≤ 6000) (J : JarAt H j)
    (hA : atI [V.str (Str.ofString ""), .str sg, .str sg] k = some (.str m)) (hO : atI [V.int 1, .int 0, .int 1] k = some (.int o)) (ho : o = 0 ∨ o = 1) (m5 : m.length ≤ 7) (mk : Tk m) (tk : Tk z) {n : Nat} (rz : Rn n z)
    (q : ∀ (y : Str) (H1 : Hp), Tk y → y.length ≤ z.length + 8 → Rn (2 * n + 7) y → JarAt H1 j → But j H H1 → Q (.str y) H1) :
    tOp rAddS (tOp rAddS (tSl rSlS (tVar 1) tNoPart (tPart (tVar 4))) (tOp (rIxL K) (tLst (tCons (tC (.str (Str.ofString ""))) (tCons (tVar 6) (tCons (tVar 6) tNil)))) (tVar 2)))
      (tSl rSlS (tVar 1) (tPart (tOp (rI0 fun i j => V.int (i + j)) (tVar 4) (tOp (rIxL K) (tLst (tCons (tC (.int 1)) (tCons (tC (.int 0)) (tCons (tC (.int 1)) tNil)))) (tVar 2)))) tNoPart) σ H Q := by
  have sz := sizeLine_eq
  have L := k3_len (z := z) (m := m) (o := o) h0 h1 ho m5
  have L2 := L
  rw [len_app, len_app] at L2
  refine ⟨_, s1, _, s5, _, rfl, z, rfl, by omega, ?_⟩
  refine ⟨_, s7, _, s7, by rw [sz]; show 3 ≤ 16777216; decide, fun p1 n1 => ?_⟩
  have J1 := J.new (o := .lst [V.str (Str.ofString ""), .str sg, .str sg]) n1
  have b1 := (But.refl (j := j) (H := H)).new (o := .lst [V.str (Str.ofString ""), .str sg, .str sg]) n1
  refine ⟨_, s3, p1, _, _, _, rfl, rfl, SqL.of upd_same, hA, _, _, rfl, rfl, by omega, ?_⟩
  generalize upd H p1 (.lst [V.str (Str.ofString ""), .str sg, .str sg]) = H1 at J1 b1 ⊢
  refine ⟨_, s1, _, s5, by rw [sz]; show 3 ≤ 16777216; decide, fun p2 n2 => ?_⟩
  have J2 := J1.new (o := .lst [V.int 1, .int 0, .int 1]) n2
  have b2 := b1.new (o := .lst [V.int 1, .int 0, .int 1]) n2
  refine ⟨_, s3, p2, _, _, _, rfl, rfl, SqL.of upd_same, hO, _, _, rfl, rfl, _, rfl, z, rfl, by omega, _, _, rfl, rfl, by rw [len_app]; omega, ?_⟩
  exact q _ _ (k3_tk tk mk) L (k3_rn rz m5) J2 b2
end
end LJ
set_option Elab.async false
set_option linter.all false
set_option maxRecDepth 100000
set_option maxHeartbeats 8000000
namespace LJ
open PySem PySem.Spec L2
open LamX (ExtN)
/-! _law_bent, the whole. -/
/-- what comes in a line's place -/
def PmB3 (n : Nat) (ln : Str) (ms : List Str) : Prop := (∀ m ∈ ms, Tk m ∧ Rn (2 * n + 7) m) ∧ (ms.map Str.length).sum + ms.length ≤ 2 * ln.length + 12
section
variable {K : PySem.W.Frag} {σ : L2.St} {H : Hp} {Q : VK} {j la : Addr} {tm : TE} {z ln : Str} {i : Int} {M n : Nat}
theorem rd_fin3 (s4 : σ[3]? = some (some (.ref la))) (s6 : σ[5]? = some (some (.int i))) (J : JarAt H j) (hl : H la = some (.lst ((Txt.split z nl).map V.str))) (h0 : 0 ≤ i) (hln : (Txt.split z nl)[i.toNat]? = some ln) (lz : z.length ≤ 6000) (tk : Tk z) (rz : Rn n z) (lM : ∀ ln ∈ Txt.split z nl, ln.length ≤ M)
    (mid : ∀ (H1 : Hp) (Q1 : VK), JarAt H1 j → But j H H1 → (∀ (lm : Addr) (ms : List Str) (H2 : Hp), H2 lm = some (.lst (ms.map V.str)) → ms.length ≤ 1000 → PmB3 n ln ms → JarAt H2 j → But j H1 H2 → Q1 (.ref lm) H2) → tm σ H1 Q1)
    (q : ∀ (y : Str) (H1 : Hp), Tk y → y.length ≤ z.length + M + 12 → Rn (2 * n + 7) y → JarAt H1 j → But j H H1 → Q (.str y) H1) : tM1 (rJoinK K) (tC (.str nl)) (tEdit K 3 5 tm) σ H Q := by
  have hs : ((Txt.split z nl).map Str.length).sum ≤ z.length ∧ (Txt.split z nl).length ≤ z.length + 1 := split_sum (x := z) tl_nl (by decide)
  have ht : ((Txt.split z nl).map Str.length).sum + (Txt.split z nl).length = z.length + 1 := split_tot (x := z) tl_nl (by decide)
  obtain ⟨lt, el⟩ := List.getElem?_eq_some_iff.mp hln
  have hm := List.mem_of_getElem? hln
  have l1 := split_le tl_nl (by decide) hm
  have l2 := lM ln hm
  refine ⟨⟨_, rfl⟩, rd_edit (Pm := PmB3 n ln) s4 s6 J hl (strs_ne J hl) h0 lt (by omega) mid fun p ms H2 pm lm e2 np J2 b2 => ?_⟩
  have E := edit_len (sep := nl) (by decide +kernel) (ms := ms) lt (L := z.length) (by omega)
  have en := edit_n (ms := ms) lt
  have es := edit_sum (ms := ms) lt
  rw [el] at E es
  obtain ⟨pk, pl⟩ := pm
  refine ⟨nl, p, edit (Txt.split z nl) i.toNat ms, rfl, rfl, .inl (SqL.of e2), ?_, q _ _ ?_ (by omega) ?_ J2 b2⟩
  · have h3 : ((edit (Txt.split z nl) i.toNat ms).map (·.length)).sum = ((edit (Txt.split z nl) i.toNat ms).map Str.length).sum := rfl
    rw [h3, show nl.length = 1 by decide +kernel]
    omega
  · refine tk_join (by decide +kernel) fun y hy => ?_
    rcases edit_mem hy with h | h
    · exact tk_split tl_nl (by decide) tk h
    · exact (pk y h).1
  · refine rn_join tl_nl (.inr rfl) fun y hy => ?_
    rcases edit_mem hy with h | h
    · exact (rn_split tl_nl (by decide) rz h).mono (by omega)
    · exact (pk y h).2
theorem rn_with {n : Nat} {a b : Str} (ha : Rn n a) (hb : b.length ≤ 7) : Rn (2 * n + 7) (a ++ sp1 ++ b) := by
  show RnL _ (TL.tl (a ++ sp1 ++ b))
  rw [TL.tl_append, TL.tl_append, tl_sp1, List.append_assoc]
  exact rnl_sep (ha.mono (by omega)) ((rn_len hb).mono (by omega)) (.inl rfl)
/-- [[], [line] * 2, [line + ' ' + sign]][kind - 3] -/
theorem rd_more3 {k : Int} {sg : Str} {xs : List Str} (s2 : σ[2]? = some (some (.int k))) (s3 : σ[3]? = some (some (.ref la))) (s5 : σ[5]? = some (some (.int i))) (s6 : σ[6]? = some (some (.str sg))) (k3 : 3 ≤ k) (k6 : k < 6) (J : JarAt H j) (hl : H la = some (.lst (xs.map V.str))) (atl : atI (xs.map V.str) i = some (.str ln)) (tk : Tk ln) (ll : ln.length ≤ 6000) (rl : Rn n ln) (sg7 : sg.length ≤ 7) (sgk : Tk sg)
    (q : ∀ (lm : Addr) (ms : List Str) (G : Hp), G lm = some (.lst (ms.map V.str)) → ms.length ≤ 1000 → PmB3 n ln ms → JarAt G j → But j H G → Q (.ref lm) G) :
    tOp (rIxL K) (tLst (tCons (tLst tNil) (tCons (tOp rRep (tLst (tCons (tOp (rIxL K) (tVar 3) (tVar 5)) tNil)) (tC (.int 2))) (tCons (tLst (tCons (tOp rAddS (tOp rAddS (tOp (rIxL K) (tVar 3) (tVar 5)) (tC (.str sp1))) (tVar 6)) tNil)) tNil)))) (tOp (rI0 fun i j => V.int (i - j)) (tVar 2) (tC (.int 3))) σ H Q := by
  have sz := sizeLine_eq
  have l9 : (ln ++ sp1).length = ln.length + 1 := by rw [len_app]; rfl
  refine ⟨by rw [sz]; exact Nat.zero_le _, fun p1 n1 => ?_⟩
  have J1 := J.new (o := .lst ([].map V.str)) n1
  have b1 := (But.refl (j := j) (H := H)).new (o := .lst ([].map V.str)) n1
  have e1 : (upd H p1 (.lst ([].map V.str))) p1 = some (.lst ([].map V.str)) := upd_same
  have m1 := J.ne n1
  show tCons _ _ σ (upd H p1 (.lst ([].map V.str))) _
  generalize upd H p1 (.lst ([].map V.str)) = H1 at J1 b1 e1 ⊢
  refine ⟨_, s3, _, s5, la, _, _, _, rfl, rfl, SqL.of (b1 _ _ (strs_ne J hl) hl), atl, by rw [sz]; show 1 ≤ 16777216; decide, fun p2 n2 => ?_⟩
  have J2 := J1.new (o := .lst ([ln].map V.str)) n2
  have b2 := b1.new (o := .lst ([ln].map V.str)) n2
  have e2 : (upd H1 p2 (.lst ([ln].map V.str))) p2 = some (.lst ([ln].map V.str)) := upd_same
  have e1' : (upd H1 p2 (.lst ([ln].map V.str))) p1 = some (.lst ([].map V.str)) := by rw [upd_ne (ne_of_none e1 n2)]; exact e1
  show tC _ σ (upd H1 p2 (.lst ([ln].map V.str))) _
  generalize upd H1 p2 (.lst ([ln].map V.str)) = H2 at J2 b2 e2 e1' ⊢
  refine ⟨p2, 2, _, rfl, rfl, e2, by decide, by decide, by show 1 * 2 ≤ sizeLine; omega, fun p3 n3 => ?_⟩
  have er : (List.replicate (2 : Int).toNat ([ln].map V.str)).flatten = [ln, ln].map V.str := rfl
  rw [er]
  have J3 := J2.new (o := .lst ([ln, ln].map V.str)) n3
  have b3 := b2.new (o := .lst ([ln, ln].map V.str)) n3
  have e3 : (upd H2 p3 (.lst ([ln, ln].map V.str))) p3 = some (.lst ([ln, ln].map V.str)) := upd_same
  have e1'' : (upd H2 p3 (.lst ([ln, ln].map V.str))) p1 = some (.lst ([].map V.str)) := by rw [upd_ne (ne_of_none e1' n3)]; exact e1'
  have m3 := J2.ne n3
  generalize upd H2 p3 (.lst ([ln, ln].map V.str)) = H3 at J3 b3 e3 e1'' ⊢
  refine ⟨_, s3, _, s5, la, _, _, _, rfl, rfl, SqL.of (b3 _ _ (strs_ne J hl) hl), atl, _, _, rfl, rfl, by rw [show sp1.length = 1 by decide +kernel]; omega, _, s6, _, _, rfl, rfl, by rw [l9]; omega, by rw [sz]; show 1 ≤ 16777216; decide, fun p4 n4 => ?_⟩
  have J4 := J3.new (o := .lst ([ln ++ sp1 ++ sg].map V.str)) n4
  have b4 := b3.new (o := .lst ([ln ++ sp1 ++ sg].map V.str)) n4
  have e4 : (upd H3 p4 (.lst ([ln ++ sp1 ++ sg].map V.str))) p4 = some (.lst ([ln ++ sp1 ++ sg].map V.str)) := upd_same
  have f1 : (upd H3 p4 (.lst ([ln ++ sp1 ++ sg].map V.str))) p1 = some (.lst ([].map V.str)) := by rw [upd_ne (ne_of_none e1'' n4)]; exact e1''
  have f3 : (upd H3 p4 (.lst ([ln ++ sp1 ++ sg].map V.str))) p3 = some (.lst ([ln, ln].map V.str)) := by rw [upd_ne (ne_of_none e3 n4)]; exact e3
  have m4 := J3.ne n4
  show tNil _ (upd H3 p4 (.lst ([ln ++ sp1 ++ sg].map V.str))) _
  generalize upd H3 p4 (.lst ([ln ++ sp1 ++ sg].map V.str)) = H4 at J4 b4 e4 f1 f3 ⊢
  refine ⟨by rw [sz]; show 3 ≤ 16777216; decide, fun p5 n5 => ?_⟩
  have J5 := J4.new (o := .lst [.ref p1, .ref p3, .ref p4]) n5
  have b5 := b4.new (o := .lst [.ref p1, .ref p3, .ref p4]) n5
  have e5 : (upd H4 p5 (.lst [.ref p1, .ref p3, .ref p4])) p5 = some (.lst [.ref p1, .ref p3, .ref p4]) := upd_same
  have g1 : (upd H4 p5 (.lst [.ref p1, .ref p3, .ref p4])) p1 = some (.lst ([].map V.str)) := by rw [upd_ne (ne_of_none f1 n5)]; exact f1
  have g3 : (upd H4 p5 (.lst [.ref p1, .ref p3, .ref p4])) p3 = some (.lst ([ln, ln].map V.str)) := by rw [upd_ne (ne_of_none f3 n5)]; exact f3
  have g4 : (upd H4 p5 (.lst [.ref p1, .ref p3, .ref p4])) p4 = some (.lst ([ln ++ sp1 ++ sg].map V.str)) := by rw [upd_ne (ne_of_none e4 n5)]; exact e4
  generalize upd H4 p5 (.lst [V.ref p1, V.ref p3, V.ref p4]) = H5 at J5 b5 e5 g1 g3 g4 ⊢
  have rl2 : Rn (2 * n + 7) ln := rl.mono (by omega)
  rcases (by omega : k = 3 ∨ k = 4 ∨ k = 5) with rfl | rfl | rfl
  · refine ⟨_, s2, _, _, rfl, rfl, p5, _, _, _, rfl, rfl, SqL.of e5, atI_nat (j := 0) rfl, q p1 [] H5 g1 (by decide) ⟨fun _ h => (by cases h), by show 0 + 0 ≤ _; omega⟩ J5 b5⟩
  · refine ⟨_, s2, _, _, rfl, rfl, p5, _, _, _, rfl, rfl, SqL.of e5, atI_nat (j := 1) rfl, q p3 [ln, ln] H5 g3 (by show 2 ≤ 1000; decide) ⟨fun m hm => ?_, by show ln.length + (ln.length + 0) + 2 ≤ _; omega⟩ J5 b5⟩
    simp only [List.mem_cons, List.not_mem_nil, or_false, or_self] at hm
    subst hm
    exact ⟨tk, rl2⟩
  · refine ⟨_, s2, _, _, rfl, rfl, p5, _, _, _, rfl, rfl, SqL.of e5, atI_nat (j := 2) rfl, q p4 [ln ++ sp1 ++ sg] H5 g4 (by show 1 ≤ 1000; decide) ⟨fun m hm => ?_, ?_⟩ J5 b5⟩
    · obtain rfl := List.mem_singleton.mp hm
      exact ⟨tk_app (tk_app tk (by decide +kernel)) sgk, rn_with rl sg7⟩
    · show (ln ++ sp1 ++ sg).length + 0 + 1 ≤ _
      rw [len_app, l9]
      omega
end
def w4 : List Str := [Str.ofString "0", Str.ofString "1001", Str.ofString "stuff", Str.ofString "7-3"]
theorem w4_ok : ∀ w ∈ w4, Tk w ∧ w.length ≤ 5 := by decide +kernel
theorem cutV_dropI {xs : List Str} {i : Int} (h0 : 0 ≤ i) (h : i.toNat < xs.length) : cutV (xs.map V.str) (some i) none = (xs.drop i.toNat).map V.str := by
  unfold cutV
  rw [HT.sIx_none]
  unfold HT.sIx
  simp only
  rw [if_neg (by omega), List.length_map, Nat.min_eq_left (by omega), List.map_drop, List.take_of_length_le (by rw [List.length_drop, List.length_map]; exact Nat.le_refl _)]
def spBe3 : Sp := fun vs H Q _ => ∃ (j : Addr) (z : Str) (n M : Nat), vs = [.ref j, .str z] ∧ JarAt H j ∧ Tk z ∧ z.length ≤ 6000 ∧ Rn n z ∧ (∀ ln ∈ Txt.split z nl, ln.length ≤ M) ∧
  ∀ (y : Str) (H1 : Hp), Tk y → y.length ≤ z.length + M + 12 → Rn (2 * n + 7) y → JarAt H1 j → But j H H1 → Q (.str y) H1
section
variable {P : Program} {w : World} {K : PySem.W.Frag} {mg : Str → Option Value} {base : Heap} {C : Addr}
theorem scBe3 : FnScope nBe3 ["_law_jar_here", "_law_page_here"] (defScope sBe3) := ⟨rfl, rfl, rfl, by decide +kernel, rfl, by decide +kernel, by decide +kernel⟩
theorem ok_be3 {f fD fO : Addr} {fd fdD fdO : FuncData} (F : Fun K "_law_bent" "_law_bent" sBe3 f fd) (B : BltI mg) (bL : mg "list" = none)
    (GD : FnOk P w K mg base CX0 1 fD fdD ["_law_jar_here", "_law_top"] spDip) (mD : mg "_law_dip" = some (.ref fD)) (kD : PySem.W.keepIn K (.ref fD) = true) (bD : Binds K fdD ["_law_jar_here", "_law_top"] [])
    (GO : FnOk P w K mg base CX0 2 fO fdO ["_law_jar_here", "_law_some"] spOne) (mO : mg "_law_one_of" = some (.ref fO)) (kO : PySem.W.keepIn K (.ref fO) = true) (bO : Binds K fdO ["_law_jar_here", "_law_some"] []) :
    FnOk P w K mg base CX0 3 f fd ["_law_jar_here", "_law_page_here"] spBe3 := by
  refine F.ok scBe3 (fun vs H Q E h => ?_) (fun cdv A outer s H vs Q E hr h => ?_)
  · obtain ⟨j, z, n, M, rfl, _⟩ := h
    rfl
  · obtain ⟨j, z, n, M, rfl, J, tk, lz, rz, lM, q⟩ := h
    have hr2 : Room 2 (A.deeper (PyProof.Rows.envOfC "_law_bent" (defScope sBe3) s.heap.objs.size f cdv)) := hr.mono (by decide)
    have hr1 : Room 1 (A.deeper (PyProof.Rows.envOfC "_law_bent" (defScope sBe3) s.heap.objs.size f cdv)) := hr.mono (by decide)
    refine ⟨_, pss_cons (ps_par (i := 2) (j := 3) (by rfl) scBe3.nd rfl rfl (by decide) rfl rfl (pa_cons (pe_call GD hr1 (by rfl) mD kD bD .nil pass0 (pa_cons (pv 0) (pa_cons pe_int pa_nil))) (pa_cons (pe_split (pv 1) pe_str) pa_nil)) (by rfl))
      (pss_cons (ps_par (i := 4) (j := 5) (by rfl) scBe3.nd rfl rfl (by decide) rfl rfl (pa_cons (pe_call GD hr1 (by rfl) mD kD bD .nil pass0 (pa_cons (pv 0) (pa_cons (pe_op op_add (pe_callB call_len_str (by rfl) B.len (by decide +kernel) (pa_cons (pv 1) pa_nil)) pe_int) pa_nil)))
          (pa_cons (pe_call GD hr1 (by rfl) mD kD bD .nil pass0 (pa_cons (pv 0) (pa_cons (pe_callB call_len_seq (by rfl) B.len (by decide +kernel) (pa_cons (pv 3) pa_nil)) pa_nil))) pa_nil)) (by rfl))
      (pss_cons (ps_set (i := 6) scBe3.nd rfl (Or.inl rfl) (pe_call GO hr2 (by rfl) mO kO bO .nil pass0 (pa_cons (pv 0) (pa_cons (pe_op op_cat (pe_callTy (SetX.call_listS (by rfl)) (by rfl) bL (by decide +kernel) (pa_cons pe_str pa_nil)) (pe_lst (pa_cons pe_str (pa_cons pe_str (pa_cons pe_str (pa_cons pe_str (pa_cons pe_str pa_nil))))))) pa_nil))))
      (pss_cons (ps_if (pt_cmpR op_lt (pv 2) pe_int (nomark _)) (pss_one (ps_ret (pe_op op_add_str (pe_op op_add_str (pe_slice sl_str (pv 1) po_none (po_some (pv 4))) (pe_ix ix_list (pe_lst (pa_cons pe_str (pa_cons (pv 6) (pa_cons (pv 6) pa_nil)))) (pv 2) (fun _ _ => rfl)))
          (pe_slice sl_str (pv 1) (po_some (pe_op op_add (pv 4) (pe_ix ix_list (pe_lst (pa_cons pe_int (pa_cons pe_int (pa_cons pe_int pa_nil)))) (pv 2) (fun _ _ => rfl)))) po_none)))) pss_nil)
      (pss_cons (ps_if (pt_cmpR op_lt (pv 2) pe_int (nomark _))
          (pss_cons (ps_set (i := 7) scBe3.nd rfl (Or.inl rfl) (pe_ix ix_list (pe_lst (pa_cons (pe_lst pa_nil) (pa_cons (pe_op op_rep (pe_lst (pa_cons (pe_ix ix_list (pv 3) (pv 5) (fun _ _ => rfl)) pa_nil)) pe_int) (pa_cons (pe_lst (pa_cons (pe_op op_add_str (pe_op op_add_str (pe_ix ix_list (pv 3) (pv 5) (fun _ _ => rfl)) pe_str) (pv 6)) pa_nil)) pa_nil)))) (pe_op op_sub (pv 2) pe_int) (fun _ _ => rfl)))
          (pss_one (ps_ret (pe_join pe_str (show PE _ _ (tEdit K 3 5 (tVar 7)) from pe_op op_cat (pe_op op_cat (pe_slice sl_list (pv 3) po_none (po_some (pv 5))) (pv 7)) (pe_slice sl_list (pv 3) (po_some (pe_op op_add (pv 5) pe_int)) po_none)))))) pss_nil)
      (pss_cons (ps_if (pt_cmpR op_eq (pv 2) pe_int (nomark _)) (pss_one (ps_ret (pe_join pe_str (pe_op op_cat (pe_slice sl_list (pv 3) (po_some (pv 5)) po_none) (pe_slice sl_list (pv 3) po_none (po_some (pv 5))))))) pss_nil)
      (pss_cons (ps_set (i := 8) scBe3.nd rfl (Or.inl rfl) (pe_split (pe_ix ix_list (pv 3) (pv 5) (fun _ _ => rfl)) pe_str))
      (pss_cons (ps_set (i := 9) scBe3.nd rfl (Or.inl rfl) (pe_call GD hr1 (by rfl) mD kD bD .nil pass0 (pa_cons (pv 0) (pa_cons (pe_callB call_len_seq (by rfl) B.len (by decide +kernel) (pa_cons (pv 8) pa_nil)) pa_nil))))
      (pss_cons (ps_set (i := 10) scBe3.nd rfl (Or.inl rfl) (pe_ifExp (pt_cmpR op_eq (pv 2) pe_int (nomark _)) (pe_lst pa_nil) (pe_lst (pa_cons (pe_call GO hr2 (by rfl) mO kO bO .nil pass0 (pa_cons (pv 0) (pa_cons (pe_op op_cat (pv 8) (pe_lst (pa_cons pe_str (pa_cons pe_str (pa_cons pe_str (pa_cons pe_str pa_nil)))))) pa_nil))) pa_nil))))
      (pss_one (ps_ret (pe_join pe_str (show PE _ _ (tEdit K 3 5 _) from pe_op op_cat (pe_op op_cat (pe_slice sl_list (pv 3) po_none (po_some (pv 5))) (pe_lst (pa_cons (pe_join pe_str (show PE _ _ (tEdit K 8 9 (tVar 10)) from pe_op op_cat (pe_op op_cat (pe_slice sl_list (pv 8) po_none (po_some (pv 9))) (pv 10)) (pe_slice sl_list (pv 8) (po_some (pe_op op_add (pv 9) pe_int)) po_none))) pa_nil))) (pe_slice sl_list (pv 3) (po_some (pe_op op_add (pv 5) pe_int)) po_none))))))))))))), ?_⟩
    have sz := sizeLine_eq
    have hs : ((Txt.split z nl).map Str.length).sum ≤ z.length ∧ (Txt.split z nl).length ≤ z.length + 1 := split_sum (x := z) tl_nl (by decide)
    have ht : ((Txt.split z nl).map Str.length).sum + (Txt.split z nl).length = z.length + 1 := split_tot (x := z) tl_nl (by decide)
    have hne : Txt.split z nl ≠ [] := split_ne (x := z) tl_nl (by decide)
    have hp0 : 0 < (Txt.split z nl).length := List.length_pos_iff.mpr hne
    refine rd_seqU3 ?_
    refine ⟨_, rfl, j, 9, rfl, J, by decide, by decide, fun kind H1 k0 k8 J1 b1 => ?_⟩
    refine ⟨_, rfl, ⟨_, rfl⟩, z, nl, rfl, rfl, by decide +kernel, by omega, fun l2 n2 => ?_⟩
    have J2 : JarAt (upd H1 l2 (.lst ((Txt.split z nl).map V.str))) j := J1.new n2
    have b2 : But j H (upd H1 l2 (.lst ((Txt.split z nl).map V.str))) := b1.new n2
    have e2 : (upd H1 l2 (.lst ((Txt.split z nl).map V.str))) l2 = some (.lst ((Txt.split z nl).map V.str)) := upd_same
    generalize upd H1 l2 (.lst ((Txt.split z nl).map V.str)) = H2 at J2 b2 e2 ⊢
    refine ⟨_, _, rfl, ?_⟩
    try dsimp only
    refine rd_seqU3 ?_
    refine ⟨_, rfl, _, rfl, z, rfl, by omega, _, _, rfl, rfl, j, _, rfl, J2, by omega, by omega, fun at_ H3 a0 a1 J3 b3 => ?_⟩
    have e3 := b3 _ _ (strs_ne J2 e2) e2
    refine ⟨_, rfl, _, rfl, l2, _, rfl, .inl (SqL.of e3), j, _, rfl, J3, by rw [List.length_map]; omega, by rw [List.length_map]; omega, fun spot H4 s0 s1 J4 b4 => ?_⟩
    rw [List.length_map] at s1
    have e4 := b4 _ _ (strs_ne J3 e3) e3
    have B4 : But j H H4 := (b2.trans b3).trans b4
    refine ⟨_, _, rfl, ?_⟩
    try dsimp only
    refine rd_seqU3 (rd_asgU3 ?_)
    refine ⟨_, rfl, Str.ofString "0 1a-zZ\n", rfl, by rw [sz]; decide +kernel, fun g1 m1 => ?_⟩
    have J5 : JarAt (upd H4 g1 (.lst ((SetX.signs (Str.ofString "0 1a-zZ\n")).map V.str))) j := J4.new m1
    have b5 : But j H4 (upd H4 g1 (.lst ((SetX.signs (Str.ofString "0 1a-zZ\n")).map V.str))) := But.refl.new m1
    have e5 : (upd H4 g1 (.lst ((SetX.signs (Str.ofString "0 1a-zZ\n")).map V.str))) g1 = some (.lst ((SetX.signs (Str.ofString "0 1a-zZ\n")).map V.str)) := upd_same
    generalize upd H4 g1 (.lst ((SetX.signs (Str.ofString "0 1a-zZ\n")).map V.str)) = H5 at J5 b5 e5 ⊢
    refine ⟨by rw [sz]; show 5 ≤ 16777216; decide, fun g2 m2 => ?_⟩
    have J6 := J5.new (o := .lst (more5.map V.str)) m2
    have b6 := b5.new (o := .lst (more5.map V.str)) m2
    have e6 : (upd H5 g2 (.lst (more5.map V.str))) g2 = some (.lst (more5.map V.str)) := upd_same
    have e56 : (upd H5 g2 (.lst (more5.map V.str))) g1 = some (.lst ((SetX.signs (Str.ofString "0 1a-zZ\n")).map V.str)) := by
      rw [upd_ne (ne_of_none e5 m2)]
      exact e5
    show rCat _ _ (upd H5 g2 (.lst (more5.map V.str))) _
    generalize upd H5 g2 (.lst (more5.map V.str)) = H6 at J6 b6 e6 e56 ⊢
    refine ⟨g1, g2, _, _, rfl, rfl, e56, e6, by rw [sz]; decide +kernel, fun g3 m3 => ?_⟩
    have e7 : (upd H6 g3 (.lst ((SetX.signs (Str.ofString "0 1a-zZ\n")).map V.str ++ more5.map V.str))) g3 = some (.lst (sgs3.map V.str)) := by
      rw [upd_same]
      unfold sgs3
      rw [List.map_append]
    have J7 := J6.new (o := .lst ((SetX.signs (Str.ofString "0 1a-zZ\n")).map V.str ++ more5.map V.str)) m3
    have b7 := b6.new (o := .lst ((SetX.signs (Str.ofString "0 1a-zZ\n")).map V.str ++ more5.map V.str)) m3
    generalize upd H6 g3 (.lst ((SetX.signs (Str.ofString "0 1a-zZ\n")).map V.str ++ more5.map V.str)) = H7 at J7 b7 e7 ⊢
    refine ⟨j, g3, _, rfl, J7, e7, J6.ne m3, by rw [List.length_map]; decide +kernel, by rw [List.length_map]; decide +kernel, fun n0 sv H8 hn J8 b8 => ?_⟩
    rw [List.getElem?_map] at hn
    obtain ⟨sg, hn2, rfl⟩ := Option.map_eq_some_iff.mp hn
    obtain ⟨sg5, sgk⟩ := sgs3_ok sg (List.mem_of_getElem? hn2)
    have B8 : But j H H8 := (B4.trans b7).trans b8
    have e8 : H8 l2 = some (.lst ((Txt.split z nl).map V.str)) := (b7.trans b8) _ _ (strs_ne J4 e4) e4
    clear e7 e6 e56 e5 e4 e3 e2 m1 m2 m3 n2 hn hn2 b1 b2 b3 b4 b5 b6 b7 b8 J1 J2 J3 J4 J5 J6 J7 B4
    clear H1 H2 H3 H4 H5 H6 H7
    refine rd_nameU3 ?_
    try dsimp only
    refine rd_seqU3 (rd_ifU3 ?_)
    refine ⟨_, rfl, _, _, rfl, rfl, _, rfl, ?_⟩
    refine ite2 (fun c3 => ?_) (fun c3 => ?_)
    · have c3 := of_decide_eq_true c3
      rcases (by omega : kind = 0 ∨ kind = 1 ∨ kind = 2) with rfl | rfl | rfl
      · exact rd_k33 (K := K) rfl rfl rfl rfl a0 (by omega) lz J8 (atI_nat (j := 0) rfl) (atI_nat (j := 0) rfl) (.inr rfl) (by decide +kernel) (by decide +kernel) tk rz fun y Hy ty ly ry Jy by_ => q _ _ ty (by omega) ry Jy (B8.trans by_)
      · exact rd_k33 (K := K) rfl rfl rfl rfl a0 (by omega) lz J8 (atI_nat (j := 1) rfl) (atI_nat (j := 1) rfl) (.inl rfl) sg5 sgk tk rz fun y Hy ty ly ry Jy by_ => q _ _ ty (by omega) ry Jy (B8.trans by_)
      · exact rd_k33 (K := K) rfl rfl rfl rfl a0 (by omega) lz J8 (atI_nat (j := 2) rfl) (atI_nat (j := 2) rfl) (.inr rfl) sg5 sgk tk rz fun y Hy ty ly ry Jy by_ => q _ _ ty (by omega) ry Jy (B8.trans by_)
    · have c3 : ¬ kind < 3 := fun h => c3 (decide_eq_true h)
      refine rd_nextU3 ?_
      try dsimp only
      obtain ⟨ln, hln⟩ : ∃ ln, (Txt.split z nl)[spot.toNat]? = some ln := ⟨_, List.getElem?_eq_getElem (by omega)⟩
      have tln := tk_split tl_nl (by decide) tk (List.mem_of_getElem? hln)
      have lln := split_le tl_nl (by decide) (List.mem_of_getElem? hln)
      have rln := rn_split tl_nl (by decide) rz (List.mem_of_getElem? hln)
      have atl : atI ((Txt.split z nl).map V.str) spot = some (.str ln) := by
        rw [show spot = ((spot.toNat : Nat) : Int) by omega]
        exact atI_nat (by rw [List.getElem?_map, hln]; rfl)
      refine rd_seqU3 (rd_ifU3 ?_)
      refine ⟨_, rfl, _, _, rfl, rfl, _, rfl, ?_⟩
      refine ite2 (fun c6 => ?_) (fun c6 => ?_)
      · have c6 := of_decide_eq_true c6
        refine rd_seqU3 (rd_asgU3 (rd_more3 (K := K) (xs := Txt.split z nl) (n := n) rfl rfl rfl rfl (by omega) c6 J8 e8 atl tln (by omega) rln sg5 sgk fun lm ms G eG lms pG JG bG => ?_))
        refine rd_nameU3 ?_
        try dsimp only
        have e9 := bG _ _ (strs_ne J8 e8) e8
        exact rd_fin3 (K := K) rfl rfl JG e9 s0 hln lz tk rz lM (fun G1 Q1 JG1 bG1 qq => ⟨_, rfl, qq lm ms G1 (bG1 _ _ (strs_ne JG eG) eG) lms pG JG1 But.refl⟩) fun y H12 ky ly ry J12 b12 => q y _ ky ly ry J12 ((B8.trans bG).trans b12)
      · have c6 : ¬ kind < 6 := fun h => c6 (decide_eq_true h)
        refine rd_nextU3 ?_
        try dsimp only
        refine rd_seqU3 (rd_ifU3 ?_)
        refine ⟨_, rfl, rfl, _, rfl, ?_⟩
        refine ite2 (fun c7 => ?_) (fun c7 => ?_)
        · refine ⟨⟨_, rfl⟩, _, rfl, _, rfl, _, rfl, l2, _, rfl, SqL.of e8, fun p1 n1 => ?_⟩
          have ec1 : cutV ((Txt.split z nl).map V.str) (some spot) none = ((Txt.split z nl).drop spot.toNat).map V.str := by
            have := cutV_dropI (xs := Txt.split z nl) s0 (by omega)
            exact this
          rw [ec1]
          have J9 := J8.new (o := .lst (((Txt.split z nl).drop spot.toNat).map V.str)) n1
          have b9 := (But.refl (j := j) (H := H8)).new (o := .lst (((Txt.split z nl).drop spot.toNat).map V.str)) n1
          have e9 : (upd H8 p1 (.lst (((Txt.split z nl).drop spot.toNat).map V.str))) p1 = some (.lst (((Txt.split z nl).drop spot.toNat).map V.str)) := upd_same
          have m9 := J8.ne n1
          generalize upd H8 p1 (.lst (((Txt.split z nl).drop spot.toNat).map V.str)) = H9 at J9 b9 e9 ⊢
          refine ⟨_, rfl, _, rfl, _, rfl, l2, _, rfl, SqL.of (b9 _ _ (strs_ne J8 e8) e8), fun p2 n2 => ?_⟩
          rw [cutV_lo s0 (by omega)]
          have J10 := J9.new (o := .lst (((Txt.split z nl).take spot.toNat).map V.str)) n2
          have b10 := b9.new (o := .lst (((Txt.split z nl).take spot.toNat).map V.str)) n2
          have e10 : (upd H9 p2 (.lst (((Txt.split z nl).take spot.toNat).map V.str))) p2 = some (.lst (((Txt.split z nl).take spot.toNat).map V.str)) := upd_same
          have f9 : (upd H9 p2 (.lst (((Txt.split z nl).take spot.toNat).map V.str))) p1 = some (.lst (((Txt.split z nl).drop spot.toNat).map V.str)) := by rw [upd_ne (ne_of_none e9 n2)]; exact e9
          generalize upd H9 p2 (.lst (((Txt.split z nl).take spot.toNat).map V.str)) = H10 at J10 b10 e10 f9 ⊢
          refine ⟨p1, p2, _, _, rfl, rfl, f9, e10, by rw [List.length_map, List.length_map, List.length_take, List.length_drop]; omega, fun p3 n3 => ?_⟩
          have J11 := J10.new (o := .lst (((Txt.split z nl).drop spot.toNat).map V.str ++ ((Txt.split z nl).take spot.toNat).map V.str)) n3
          have b11 := b10.new (o := .lst (((Txt.split z nl).drop spot.toNat).map V.str ++ ((Txt.split z nl).take spot.toNat).map V.str)) n3
          have e11 : (upd H10 p3 (.lst (((Txt.split z nl).drop spot.toNat).map V.str ++ ((Txt.split z nl).take spot.toNat).map V.str))) p3 = some (.lst (((Txt.split z nl).drop spot.toNat ++ (Txt.split z nl).take spot.toNat).map V.str)) := by
            rw [upd_same, List.map_append]
          have sm : (((Txt.split z nl).drop spot.toNat ++ (Txt.split z nl).take spot.toNat).map Str.length).sum = ((Txt.split z nl).map Str.length).sum := by
            have h1 := congrArg (fun l => (l.map Str.length).sum) (List.take_append_drop spot.toNat (Txt.split z nl))
            simp only [List.map_append, List.sum_append] at h1 ⊢
            omega
          have cn : ((Txt.split z nl).drop spot.toNat ++ (Txt.split z nl).take spot.toNat).length = (Txt.split z nl).length := by
            rw [List.length_append, List.length_drop, List.length_take]
            omega
          have inn : ∀ y ∈ (Txt.split z nl).drop spot.toNat ++ (Txt.split z nl).take spot.toNat, y ∈ Txt.split z nl := fun y hy => by
            rcases List.mem_append.mp hy with h | h
            · exact List.mem_of_mem_drop h
            · exact List.mem_of_mem_take h
          generalize (Txt.split z nl).drop spot.toNat ++ (Txt.split z nl).take spot.toNat = ys at e11 sm cn inn
          refine ⟨nl, p3, ys, rfl, rfl, .inl (SqL.of e11), ?_, q _ _ (tk_join (by decide +kernel) fun y hy => tk_split tl_nl (by decide) tk (inn y hy)) ?_ (rn_join tl_nl (.inr rfl) fun y hy => (rn_split tl_nl (by decide) rz (inn y hy)).mono (by omega)) J11 (B8.trans b11)⟩
          · have h3 : (ys.map (·.length)).sum = (ys.map Str.length).sum := rfl
            rw [h3, show nl.length = 1 by decide +kernel]
            omega
          · have h3 : (ys.map (·.length)).sum = (ys.map Str.length).sum := rfl
            rw [join_len, h3, show nl.length = 1 by decide +kernel]
            omega
        · refine rd_nextU3 ?_
          try dsimp only
          have hws := split_sum (x := ln) tl_sp1 (by decide)
          have htw := split_tot (x := ln) tl_sp1 (by decide)
          have hwn := split_ne (x := ln) tl_sp1 (by decide)
          have hwp : 0 < (Txt.split ln sp1).length := List.length_pos_iff.mpr hwn
          refine rd_seqU3 (rd_asgU3 ?_)
          refine ⟨_, rfl, _, rfl, l2, _, _, _, rfl, rfl, SqL.of e8, atl, ⟨_, rfl⟩, ln, sp1, rfl, rfl, by decide +kernel, by omega, fun l9 n9 => ?_⟩
          have J9 := J8.new (o := .lst ((Txt.split ln sp1).map V.str)) n9
          have b9 := (But.refl (j := j) (H := H8)).new (o := .lst ((Txt.split ln sp1).map V.str)) n9
          have e9 : (upd H8 l9 (.lst ((Txt.split ln sp1).map V.str))) l9 = some (.lst ((Txt.split ln sp1).map V.str)) := upd_same
          generalize upd H8 l9 (.lst ((Txt.split ln sp1).map V.str)) = H9 at J9 b9 e9 ⊢
          refine rd_nameU3 ?_
          try dsimp only
          refine rd_seqU3 (rd_asgU3 ?_)
          refine ⟨_, rfl, _, rfl, l9, _, rfl, .inl (SqL.of e9), j, _, rfl, J9, by rw [List.length_map]; omega, by rw [List.length_map]; omega, fun kk H10 kk0 kk1 J10 b10 => ?_⟩
          rw [List.length_map] at kk1
          refine rd_nameU3 ?_
          try dsimp only
          have e10 := b10 _ _ (strs_ne J9 e9) e9
          have b810 := b9.trans b10
          have mids : ∀ {Q1 : VK}, (∀ (lm : Addr) (ms : List Str) (G : Hp), G lm = some (.lst (ms.map V.str)) → ms.length ≤ 1 → (∀ m ∈ ms, Tk m ∧ m.length ≤ ln.length + 5 ∧ Rn (2 * n + 7) m) → JarAt G j → But j H10 G → Q1 (.ref lm) G) →
              tIf (tTest (tOp rEq (tVar 2) (tC (.int 7)))) (tLst tNil) (tLst (tCons (tCall spOne [] E0 (tCons (tVar 0) (tCons (tOp rCat (tVar 8) (tLst (tCons (tC (.str (Str.ofString "0"))) (tCons (tC (.str (Str.ofString "1001"))) (tCons (tC (.str (Str.ofString "stuff"))) (tCons (tC (.str (Str.ofString "7-3"))) tNil)))))) tNil))) tNil)) [some (.ref j), some (.str z), some (.int kind), some (.ref l2), some (.int at_), some (.int spot), some (.str sg), none, some (.ref l9), some (.int kk), none] H10 Q1 := fun {Q1} qq => by
            refine ⟨_, rfl, rfl, _, rfl, ?_⟩
            refine ite2 (fun _ => ?_) (fun _ => ?_)
            · exact ⟨by rw [sz]; exact Nat.zero_le _, fun p n => qq p [] _ upd_same (Nat.zero_le _) (fun _ h => (by cases h)) (J10.new n) (But.refl.new n)⟩
            · refine ⟨_, rfl, _, rfl, by rw [sz]; show 4 ≤ 16777216; decide, fun p1 n1 => ?_⟩
              have J11 := J10.new (o := .lst (w4.map V.str)) n1
              have b11 := (But.refl (j := j) (H := H10)).new (o := .lst (w4.map V.str)) n1
              have e11 : (upd H10 p1 (.lst (w4.map V.str))) p1 = some (.lst (w4.map V.str)) := upd_same
              have f10 : (upd H10 p1 (.lst (w4.map V.str))) l9 = some (.lst ((Txt.split ln sp1).map V.str)) := by rw [upd_ne (ne_of_none e10 n1)]; exact e10
              show rCat _ _ (upd H10 p1 (.lst (w4.map V.str))) _
              generalize upd H10 p1 (.lst (w4.map V.str)) = H11 at J11 b11 e11 f10 ⊢
              refine ⟨l9, p1, _, _, rfl, rfl, f10, e11, by rw [List.length_map, List.length_map]; show _ + 4 ≤ _; omega, fun p2 n2 => ?_⟩
              have J12 := J11.new (o := .lst ((Txt.split ln sp1).map V.str ++ w4.map V.str)) n2
              have b12 := b11.new (o := .lst ((Txt.split ln sp1).map V.str ++ w4.map V.str)) n2
              have e12 : (upd H11 p2 (.lst ((Txt.split ln sp1).map V.str ++ w4.map V.str))) p2 = some (.lst ((Txt.split ln sp1 ++ w4).map V.str)) := by
                rw [upd_same, List.map_append]
              have lc : ((Txt.split ln sp1 ++ w4).map V.str).length = (Txt.split ln sp1).length + 4 := by
                rw [List.length_map, List.length_append]
                rfl
              generalize upd H11 p2 (.lst ((Txt.split ln sp1).map V.str ++ w4.map V.str)) = H12 at J12 b12 e12 ⊢
              refine ⟨j, p2, _, rfl, J12, e12, strs_ne J12 e12, by rw [lc]; omega, by rw [lc]; omega, fun n5 v G2 hv JG2 bG2 => ?_⟩
              rw [List.getElem?_map] at hv
              obtain ⟨wd, hwd, rfl⟩ := Option.map_eq_some_iff.mp hv
              refine ⟨by rw [sz]; show 1 ≤ 16777216; decide, fun p n11 => ?_⟩
              refine qq p [wd] _ upd_same (Nat.le_refl 1) (fun m hm => ?_) (JG2.new n11) ((b12.trans bG2).new n11)
              obtain rfl := List.mem_singleton.mp hm
              rcases List.mem_append.mp (List.mem_of_getElem? hwd) with h | h
              · have := split_le tl_sp1 (by decide) h
                exact ⟨tk_split tl_sp1 (by decide) tln h, by omega, (rn_split tl_sp1 (by decide) rln h).mono (by omega)⟩
              · obtain ⟨h1, h2⟩ := w4_ok m h
                exact ⟨h1, by omega, rn_len (by omega)⟩
          refine rd_seqU3 (rd_asgU3 (mids fun lm ms G eG lms pm JG bG => ?_))
          refine rd_nameU3 ?_
          try dsimp only
          have b8G := b810.trans bG
          have e13 := b8G _ _ (strs_ne J8 e8) e8
          have e14 := bG _ _ (strs_ne J10 e10) e10
          refine rd_fin3 (K := K) rfl rfl JG e13 s0 hln lz tk rz lM (fun G1 Q1 JG1 bG1 qq => ?_) fun y H14 ky ly ry J14 b14 => q y _ ky ly ry J14 ((B8.trans b8G).trans b14)
          refine ⟨⟨_, rfl⟩, ?_⟩
          refine rd_edit (K := K) (Pm := fun us => us = ms) rfl rfl JG1 (bG1 _ _ (strs_ne JG e14) e14) (strs_ne JG1 (bG1 _ _ (strs_ne JG e14) e14)) kk0 (by omega) (by omega) (fun G2 Q2 JG2 bG2 qq2 => ⟨_, rfl, qq2 lm ms G2 ((bG1.trans bG2) _ _ (strs_ne JG eG) eG) (by omega) rfl JG2 But.refl⟩) fun p us G3 eu lus e3 np J3 b3 => ?_
          subst eu
          have lt9 : kk.toNat < (Txt.split ln sp1).length := by omega
          have E := edit_len (sep := sp1) (by decide +kernel) (ms := us) lt9 (L := ln.length) (by omega)
          have en := edit_n (ms := us) lt9
          have es := edit_sum (ms := us) lt9
          have sm : (us.map Str.length).sum ≤ ln.length + 5 := by
            match us, lms, pm with
            | [], _, _ => exact Nat.zero_le _
            | [m], _, pm =>
              have := (pm m (List.mem_singleton.mpr rfl)).2.1
              show m.length + 0 ≤ _
              omega
          have jk : Tk (Txt.join sp1 (edit (Txt.split ln sp1) kk.toNat us)) := tk_join (by decide +kernel) fun y hy => by
            rcases edit_mem hy with h | h
            · exact tk_split tl_sp1 (by decide) tln h
            · exact (pm y h).1
          have jr : Rn (2 * n + 7) (Txt.join sp1 (edit (Txt.split ln sp1) kk.toNat us)) := rn_join tl_sp1 (.inl rfl) fun y hy => by
            rcases edit_mem hy with h | h
            · exact (rn_split tl_sp1 (by decide) rln h).mono (by omega)
            · exact (pm y h).2.2
          refine ⟨sp1, p, _, rfl, rfl, .inl (SqL.of e3), ?_, by rw [sz]; show 1 ≤ 16777216; decide, fun p15 n15 => qq p15 [Txt.join sp1 (edit (Txt.split ln sp1) kk.toNat us)] _ upd_same (by show 1 ≤ 1000; decide) ⟨fun m hm => (List.mem_singleton.mp hm) ▸ ⟨jk, jr⟩, ?_⟩ (J3.new n15) (b3.new n15)⟩
          · have h3 : ((edit (Txt.split ln sp1) kk.toNat us).map (·.length)).sum = ((edit (Txt.split ln sp1) kk.toNat us).map Str.length).sum := rfl
            rw [h3, show sp1.length = 1 by decide +kernel]
            omega
          · show (Txt.join sp1 (edit (Txt.split ln sp1) kk.toNat us)).length + 0 + 1 ≤ _
            omega
end
end LJ
set_option Elab.async false
set_option linter.all false
set_option maxRecDepth 100000
/-! Several clauses «except x as n», one behind another, all with the same name n. -/
namespace ManyAs
open PySem PySem.Spec PyProof.Rows L2
/-- what the clauses wish: the first that fits is asked, at slot i the exception -/
def wish (K : PySem.W.Frag) (i : Nat) (Wout : WX) (D : Ends) : List (Value × (Addr → Value → Option Addr → TS)) → WX
  | [] => Wout
  | (c, ts) :: r => wAs K c i ts (wish K i Wout D r) D
/-- an exception that was caught: it stands at a, and its flight is over -/
structure Stands (X : Cx) (pins : List (Addr × Obj)) (σ : L2.St) (H : Hp) (cls : Value) (d : Option Addr) (a : Addr) (B : Heap) (sI s : Shared) : Prop where
  inv : Inv X pins σ H sI
  old : ∀ b o, sI.heap.get? b = some o → b ∉ frs X.stack → B.get? b = some o
  near : sI.heap.UpToSlots s.heap
  fly : HandSPX.FlyingZ B X.stack a (Zc cls d) s.heap
  new : H a = none
  os : s.os = sI.os
  bare : AllBare s.gens
section
variable {X : Cx} {pins : List (Addr × Obj)} {σ : L2.St} {H : Hp} {cls : Value} {d : Option Addr} {a : Addr} {B : Heap} {sI s : Shared} {D : Ends} {Wout : WX} {n x : Str} {i : Nat} {c : Value} {np pos pos' : Pos}
variable {ts : Addr → Value → Option Addr → TS} {b₀ : Stmt} {suite body : List Stmt}
theorem Stands.now (S : Stands X pins σ H cls d a B sI s) : Inv X pins σ H s := S.inv.landed S.old S.fly.1 S.near S.os S.bare
theorem Stands.on (S : Stands X pins σ H cls d a B sI s) {h : Heap} (f : HandSPX.FlyingZ B X.stack a (Zc cls d) h) (u : s.heap.UpToSlots h) : Stands X pins σ H cls d a B sI { s with heap := h } :=
  ⟨S.inv, S.old, S.near.trans u, f, S.new, S.os, S.bare⟩
/-- the object of the exception is no frame -/
theorem Stands.obj (S : Stands X pins σ H cls d a B sI s) (hs : X.stack = X.env :: X.outer) (hf : X.env.frame = some X.env.locals) :
    ∃ oe vs, s.heap.get? a = some oe ∧ Zc cls d oe ∧ oe.data = .fields vs ∧ a ≠ X.env.locals ∧ a ∉ X.fs := by
  obtain ⟨oe, vs, e1, e2, e3⟩ := S.fly.there
  have out : a ∉ frs X.stack := fun m => by
    obtain ⟨_, o, e4, e5⟩ := S.fly.2.2.1.mem m
    rw [e1] at e4
    cases e4
    exact e5 _ e3
  rw [hs] at out
  refine ⟨oe, vs, e1, e2, e3, fun z => out ?_, fun m => out ?_⟩
  · rw [z]
    exact List.mem_filterMap.mpr ⟨_, List.mem_cons_self, hf⟩
  · obtain ⟨e, h1, h2⟩ := List.mem_filterMap.mp m
    exact List.mem_filterMap.mpr ⟨e, List.mem_cons_of_mem _ h1, h2⟩
/-- no clause is left: it goes on -/
theorem Stands.leave {R : Flow → Shared → Prop} (S : Stands X pins σ H cls d a B sI s) (hs : X.stack = X.env :: X.outer) (hf : X.env.frame = some X.env.locals) (tk : Takes X Wout) (w : Wout cls d σ H) :
    wpAny (model X.prog X.w) X.A (handleBy (.ref a) X.env []) R X.xe s := by
  have go : wpAny (model X.prog X.w) X.A (setFlight (.ref a) X.env.frame) (fun _ s1 => wpAny (model X.prog X.w) X.A (throw (.ref a) : Sem Flow) R X.xe s1) X.xe s := by
    rw [hf]
    exact HandSPX.setFlight_upZ S.fly fun h held u => wpAny_throw (tk _ _ ⟨a, B, sI, pins, σ, H, cls, d, rfl, S.inv, S.old, S.near.trans u, .inr (.inr held), S.new, S.os, S.bare, w⟩)
  refine wpAny_handleBy_nil ?_
  obtain ⟨_, _, _, oe, vs, T, oT, t1, e1, _, e2, e3, _⟩ := id S.fly
  unfold PySem.passOn
  refine wpAny_bind (wpAny_field e1 e2 e3 ?_)
  rw [if_neg (show ¬ ((Value.ref T == Value.none) = true) by simp)]
  first
    | exact wpAny_bind go
    | exact wpAny_bind (wpAny_pure (wpAny_bind go))
/-- one clause: its suite, or those behind it -/
theorem Stands.clause {r : List ExceptHandler} {Wr : WX} (S : Stands X pins σ H cls d a B sI s) (hs : X.stack = X.env :: X.outer) (hf : X.env.frame = some X.env.locals) (hN : X.N.Nodup) (hi : X.N[i]? = some n) (hl : X.env.kindOf n = some .local) (hc : Names X x c)
    (hsu : ∀ (a : Addr) (oe : Obj) (cls : Value) (d : Option Addr) (pn : List (Addr × Obj)), Zc cls d oe → (∃ vs, oe.data = .fields vs) → PSs (X.suite a ((a, oe) :: pn)) (b₀ :: suite) (ts a cls d))
    (rest : Wr cls d σ H → wpAny (model X.prog X.w) X.A (handleBy (.ref a) X.env r) (SP X pins D) X.xe s) (w : wAs X.K c i ts Wr D cls d σ H) :
    wpAny (model X.prog X.w) X.A (handleBy (.ref a) X.env (.ExceptHandler (some (.Name x np)) (some n) (b₀ :: suite) pos' :: r)) (SP X pins D) X.xe s := by
  obtain ⟨oe, vs, e1, e2, e3, nL, nF⟩ := S.obj hs hf
  have I0 := S.now
  have I1 := I0.suite e1 e3 S.new nL nF
  obtain ⟨b, hb, yes, no⟩ := w
  have look : PySem.W.Looks (model X.prog X.w) s.heap (typeOf (.ref a)) cls := fun A Q E s1 k q => wpAny_typeOf_ref (k _ _ e1) (by rw [e2.1]; exact q)
  have fits := PySem.W.exm_one (M := model X.prog X.w) I0.kIn look hb
  have named : ∀ {Q : Value → Shared → Prop} {E : Value → Shared → Prop}, Q c s → wpAny (model X.prog X.w) (X.A.mark (some (.ref a))) (eval (.Name x np) X.env) Q E s := fun q => by
    rcases hc with ⟨g, nd, m | ⟨m, v, nn⟩⟩
    · exact ld_glob (X := X.suite a ((a, oe) :: (X.pn ++ pins))) I1 g m q nd
    · exact ld_blt (X := X.suite a ((a, oe) :: (X.pn ++ pins))) I1 g m v q nn nd
  refine wpAny_handleBy_cons (codeAny_handlers_test (named (fits.here ?_))) (by intro q; cases q)
  cases b with
  | false => exact rest (no rfl)
  | true =>
    refine codeAny_handlers_suite_as (HandSPX.lands_againZ S.fly fun h f u => ?_)
    have S2 := S.on f u
    obtain ⟨oe2, vs2, f1, f2, f3, _, _⟩ := S2.obj hs hf
    refine store_ok (X := X.suite a ((a, oe2) :: (X.pn ++ pins))) (v := .ref a) (S2.now.suite f1 f3 S.new nL nF) hN hi (.inl hl) rfl (fun s1 I2 => ?_) (.inr hl)
    refine wpAny_mono ((hsu a oe2 cls d (X.pn ++ pins) f2 ⟨_, f3⟩).run [] s1 _ H _ I2 (yes rfl a S.new)) (fun fl s2 out => ?_) fun _ _ z => z.elim
    have name_gone : ∀ {σ2 : L2.St} {H2 : Hp} {Q : Shared → Prop}, Inv (X.suite a ((a, oe2) :: (X.pn ++ pins))) [] σ2 H2 s2 → (∀ s3, Inv X pins (σ2.set i none) H2 s3 → Q s3) →
        wpAny (model X.prog X.w) X.A (do bindName X.env n .none; unbindBehindTheSuite X.env n pos') (fun _ s3 => Q s3) X.xe s2 := fun I3 q => gone_ok (I3.unsuite I0.ok) hN hi hl q
    match fl, out with
    | .ret u, ⟨v2, σ2, H2, I3, r2, q2⟩ => exact name_gone I3 fun s3 I4 => ⟨v2, _, _, I4, r2, q2⟩
    | .next, ⟨σ2, H2, I3, q2⟩ => exact name_gone I3 fun s3 I4 => ⟨_, _, I4, q2⟩
    | .brk, ⟨σ2, H2, I3, q2⟩ => exact name_gone I3 fun s3 I4 => ⟨_, _, I4, q2⟩
    | .cont, ⟨σ2, H2, I3, q2⟩ => exact name_gone I3 fun s3 I4 => ⟨_, _, I4, q2⟩
/-- the clauses and what each of them does -/
inductive Cls (X : Cx) (n : Str) : List ExceptHandler → List (Value × (Addr → Value → Option Addr → TS)) → Prop
  | done : Cls X n [] []
  | more {x : Str} {c : Value} {ts : Addr → Value → Option Addr → TS} {b₀ : Stmt} {suite : List Stmt} {np pos' : Pos} {r : List ExceptHandler} {l : List (Value × (Addr → Value → Option Addr → TS))} (hc : Names X x c)
      (hsu : ∀ (a : Addr) (oe : Obj) (cls : Value) (d : Option Addr) (pn : List (Addr × Obj)), Zc cls d oe → (∃ vs, oe.data = .fields vs) → PSs (X.suite a ((a, oe) :: pn)) (b₀ :: suite) (ts a cls d)) (rest : Cls X n r l) :
      Cls X n (.ExceptHandler (some (.Name x np)) (some n) (b₀ :: suite) pos' :: r) ((c, ts) :: l)
theorem Stands.all {r : List ExceptHandler} {l : List (Value × (Addr → Value → Option Addr → TS))} (S : Stands X pins σ H cls d a B sI s) (hs : X.stack = X.env :: X.outer) (hf : X.env.frame = some X.env.locals) (hN : X.N.Nodup) (hi : X.N[i]? = some n) (hl : X.env.kindOf n = some .local)
    (tk : Takes X Wout) (C : Cls X n r l) : wish X.K i Wout D l cls d σ H → wpAny (model X.prog X.w) X.A (handleBy (.ref a) X.env r) (SP X pins D) X.xe s := by
  induction C with
  | done => exact fun w => S.leave hs hf tk w
  | more hc hsu _ ih => exact fun w => S.clause hs hf hN hi hl hc hsu ih w
theorem ps_try {h₀ : ExceptHandler} {r : List ExceptHandler} {l : List (Value × (Addr → Value → Option Addr → TS))} {tb : WX → TS} (hs : X.stack = X.env :: X.outer) (hf : X.env.frame = some X.env.locals) (hN : X.N.Nodup) (hi : X.N[i]? = some n) (hl : X.env.kindOf n = some .local) (tk : Takes X Wout)
    (hb : ∀ (W : WX) (pn : List (Addr × Obj)) (xe : Value → Shared → Prop), Takes (X.tr pn xe) W → PassesOwn (model X.prog X.w) X.A X.env xe → PSs (X.tr pn xe) body (tb W)) (C : Cls X n (h₀ :: r) l) :
    PS X (.Try body (h₀ :: r) [] [] pos) (fun D σ H => tb (wish X.K i Wout D l) D σ H) := by
  constructor
  intro pins s σ H D I h
  have frames : X.A.frames = some (X.env :: X.outer) := by rw [I.ok.frames, hs]
  let catch_ : Value → Shared → Prop := fun e s1 => wpAny (model X.prog X.w) X.A (noteFrame e X.env) (fun _ s2 => wpAny (model X.prog X.w) X.A (setFlight e none) (fun _ s3 => wpAny (model X.prog X.w) X.A (handleBy e X.env (h₀ :: r)) (SP X pins D) X.xe s3) X.xe s2) X.xe s1
  have caught : Takes (X.tr (X.pn ++ pins) catch_) (wish X.K i Wout D l) := by
    rintro _ s1 ⟨a, B, sI, pins1, σ1, H1, cls, d, rfl, J, old, near, sky, new, os, bare, w⟩
    have sky : Sky B (X.env :: X.outer) a (Zc cls d) X.env.locals s1.heap := by
      rw [← hs]
      exact sky
    refine Sky.land Zc.steady frames hf sky fun h2 fly u => ?_
    have S : Stands X pins σ1 H1 cls d a B sI { s1 with heap := h2 } := ⟨J.ofTry I.ok, old, near.trans u, by rw [hs]; exact fly, new, os, bare⟩
    exact S.all hs hf hN hi hl tk C w
  refine wpAny_Try_except (wpAny_mono ((hb _ _ catch_ caught PassesOwn.looking).run [] s σ H D (I.toTry _) h) (fun f s1 out => ?_) fun _ _ z => z)
  match f, out with
  | .ret u, ⟨v, σ1, H1, J, e, q⟩ => exact ⟨v, _, _, J.ofTry I.ok, e, q⟩
  | .next, ⟨σ1, H1, J, q⟩ => exact wpAny_execs_nil ⟨_, _, J.ofTry I.ok, q⟩
  | .brk, ⟨σ1, H1, J, q⟩ => exact ⟨_, _, J.ofTry I.ok, q⟩
  | .cont, ⟨σ1, H1, J, q⟩ => exact ⟨_, _, J.ofTry I.ok, q⟩
end
end ManyAs
set_option Elab.async false
set_option linter.all false
set_option maxRecDepth 100000
set_option maxHeartbeats 8000000
namespace LJ
open PySem PySem.Spec L2 PySem.ErrV
open LamX (ExtN)
open NdefX (NTab TabsN)
open OwnX
/-! _law_read. -/
abbrev sLrd3 : Stmt := top 53
abbrev pLrd3 : List Str := ["_law_page_here", "_law_named"]
abbrev nLrd3 : List Str := ["_law_page_here", "_law_named", "_law_found", "e"]
abbrev wRef : Str := Str.ofString "refused"
abbrev wRead : Str := Str.ofString "read"
def Callee (K : PySem.W.Frag) (mg : Str → Option Value) (name : Str) (ps : List Str) (G : Addr → FuncData → Prop) : Prop := ∃ f fd, G f fd ∧ mg name = some (.ref f) ∧ PySem.W.keepIn K (.ref f) = true ∧ Binds K fd ps []
theorem takes_len {X : Cx} {W : WX} (tk : Takes X W) : Takes X (fun cls d _ H => ∀ σ, σ.length = X.N.length → W cls d σ H) := fun u s' ⟨a, B, sI, pins, σ, H, cls, d, e, I, nb, up, sky, na, os, ag, w⟩ =>
  tk u s' ⟨a, B, sI, pins, σ, H, cls, d, e, I, nb, up, sky, na, os, ag, w σ I.len⟩
def tTru (K : PySem.W.Frag) (i : Nat) : TT := fun σ H Q => tVar i σ H fun x H' => ∃ k, TruV K x H' k ∧ Q k H'
/-- a page or what is in its place, as data -/
structure PgD (K : PySem.W.Frag) (H : Hp) (v : V) (d : PyData) : Prop where
  kn : Kn K H v
  dat : Dat H d v
  txt : ∀ z, v = .str z → d = .str z ∧ Tk z ∧ z.length ≤ 15000 ∧ Rn 600 z
theorem PgD.exN {K : PySem.W.Frag} {H H1 : Hp} {v : V} {d : PyData} (h : PgD K H v d) (e : ExtN H H1) : PgD K H1 v d := ⟨h.kn.exN e, h.dat.exN e, h.txt⟩
def spRd3 (K : PySem.W.Frag) (T : List NTab) : Sp := fun vs H Q _ => ∃ (tv : V) (b : Bool) (d : PyData), vs = [tv, .bl b] ∧ PgD K H tv d ∧ TabsN T H ∧
  ∀ q H1, ExtN H H1 → TabsN T H1 → H1 q = some (.lst [.str (if pageV tv = true then wRead else wRef), .str d.shown]) → Q (.ref q) H1
section
variable {P : Program} {w : World} {K : PySem.W.Frag} {mg : Str → Option Value} {base : Heap} {C cT : Addr} {mc : Value} {pR : Addr} {T : List NTab}
theorem scLrd3 : FnScope nLrd3 pLrd3 (defScope sLrd3) := ⟨rfl, rfl, rfl, by decide +kernel, rfl, by decide +kernel, by decide +kernel⟩
theorem ok_lrd3 {f fP fS : Addr} {fd fdP fdS : FuncData} {gg : List Value → List Value → List Value} (F : Fun K "_law_read" "_law_read" sLrd3 f fd) (bR : mg "repr" = none) (bSt : mg "str" = none) (mW : mg "Works" = some (.ref C))
    (cr : ClX.CRead K C mc) (sm : SMet K C mc "read" pR fP) (GP : FnOk P w K mg base (L2.CX P w) 10 fP fdP ["text"] (spReadX K C cT T)) (bP : Binds K fdP ["text"] []) (bPK : KBn K fdP ["text"] 0 ["text"] gg (fun vs zs => vs ++ zs))
    (e1 : ErG K mg "InvalidText" "given" cT) (X2 : PySem.W.exmOne K (.ref cT) (.ref cT) = some true)
    (cS : Meth K C "__str__" fS) (GS : FnOk P w K mg base CX0 1 fS fdS ["self"] (spStrW C)) (bS : Binds K fdS ["self"] []) :
    FnG P w K mg base 12 f fd pLrd3 (spRd3 K T) := by
  refine F.okG scLrd3 (fun vs H Q E h => ?_) (fun cdv A outer s H vs Q hgA hr h => ?_)
  · obtain ⟨tv, b, d, rfl, _⟩ := h
    rfl
  · obtain ⟨tv, b, d, rfl, pg, tabs, q⟩ := h
    have hgd : (A.deeper (PyProof.Rows.envOfC "_law_read" (defScope sLrd3) s.heap.objs.size f cdv)).guards = some [] := hgA
    have hu : (A.deeper (PyProof.Rows.envOfC "_law_read" (defScope sLrd3) s.heap.objs.size f cdv)).units + 150 < cLine := by
      have := hr.un
      omega
    have hr2 : Room 2 (A.deeper (PyProof.Rows.envOfC "_law_read" (defScope sLrd3) s.heap.objs.size f cdv)) := hr.mono (by decide)
    have hr10 : Room 10 (A.deeper (PyProof.Rows.envOfC "_law_read" (defScope sLrd3) s.heap.objs.size f cdv)) := hr.mono (by decide)
    obtain ⟨f1, b1, T1, B1⟩ := e1.c
    refine ⟨_, pss_cons (ManyAs.ps_try (i := 3) (n := "e") (Wout := fun _ _ _ _ => False) rfl rfl scLrd3.nd rfl rfl takes0
        (fun W pn xe tk _ => pss_one (ps_set (i := 2) scLrd3.nd rfl (Or.inl rfl) (pe_ifExp (show PT _ _ (tTru K 1) from pt_truth (pv 1) (fun _ => rfl))
          (pe_smethK (pe_glob (v := .ref C) (by rfl) mW rfl) cr sm GP (by exact hr10) bPK (passes_call (E := fun cls d H => ∀ σ : L2.St, σ.length = 4 → W cls d σ H) (takes_len tk) (fun _ _ _ _ z => z)) (pk_cons (pv 0) pk_nil))
          (pe_smeth (pe_glob (v := .ref C) (by rfl) mW rfl) cr sm GP (by exact hr10) bP .nil (passes_call (E := fun cls d H => ∀ σ : L2.St, σ.length = 4 → W cls d σ H) (takes_len tk) (fun _ _ _ _ z => z)) (pa_cons (pv 0) pa_nil)))))
        (.more ⟨rfl, by decide, .inl T1.gC⟩ (fun a oe cls d pn hz hf => pss_one (ps_ret (pe_lst (pa_cons pe_str (pa_cons (pe_callB (call_repr_data hgd hu) (by rfl) bR (by decide +kernel) (pa_cons (pe_xf e1.xf T1.noN hz hf (pv 3)) pa_nil)) pa_nil))))) .done))
      (pss_one (ps_ret (pe_lst (pa_cons pe_str (pa_cons (pe_callB (call_repr_data hgd hu) (by rfl) bR (by decide +kernel) (pa_cons (pe_callTy (call_strO cS GS hr2 bS pass0) (by rfl) bSt (by decide +kernel) (pa_cons (pv 2) pa_nil)) pa_nil)) pa_nil))))), ?_⟩
    have set4 : ∀ {σ : L2.St} {a : Addr}, σ.length = 4 → (σ.set 3 (some (V.ref a)))[3]? = some (some (.ref a)) := fun {σ a} l => List.getElem?_set_self (by omega)
    have two : 2 ≤ sizeLine := by
      rw [sizeLine_eq]
      decide
    have hz : ∀ z, tv = .str z → z.length ≤ 15000 ∧ ∀ ln ∈ Txt.split z (Str.ofString "\n"), ∀ wd ∈ Txt.split ln sp1, Short wd := fun z e => by
      obtain ⟨_, _, h3, h4⟩ := pg.txt z e
      exact ⟨h3, rn_short h4 (Nat.le_refl _)⟩
    have ends : ∀ (D : Ends) (d1 : Addr) (H1 : Hp) (σ : L2.St), ¬ Acc tv → σ.length = 4 → D.rt = Q → ExtN H H1 → TabsN T H1 → H1 d1 = some (.xd [(("given" : Str), tv)]) →
        ManyAs.wish K 3 (fun _ _ _ _ => False) D [(Value.ref cT, fun a cls d => tRet (tLst (tCons (tC (V.str (Str.ofString "refused"))) (tCons (tCB rRepr (tCons (tXf a cls d cT (Str.ofString "given") (tVar 3)) tNil)) tNil))))] (.ref cT) (some d1) σ H1 := by
      intro D d1 H1 σ na ls eQ x1 t1 hd
      refine ⟨true, X2, fun _ a ha => ?_, (nomatch ·)⟩
      have da := pg.dat.exN x1
      refine ⟨_, set4 ls, rfl, rfl, d1, _, tv, rfl, hd, rfl, tv, d, rfl, da.at_, da.sh, da.dp, da.sz, two, fun q2 nq => ?_⟩
      show D.rt (.ref q2) _
      rw [eQ]
      have pf : pageV tv = false := Bool.eq_false_iff.mpr fun h => na (page_acc.mp h)
      refine q q2 _ (x1.trans (Ex.refl.new nq).n) (TabsN.exs t1 (Ex.refl.new nq)) ?_
      rw [pf]
      exact upd_same
    have last : ∀ (x : Addr) (z : Str) (σ : L2.St) (H1 : Hp), Acc tv → tv = .str z → ExtN H H1 → TabsN T H1 → TextOf C H1 x z → σ[2]? = some (some (.ref x)) →
        tRet (tLst (tCons (tC (V.str (Str.ofString "read"))) (tCons (tCB rRepr (tCons (tCB (rTxtO C (spStrW C) E0) (tCons (tVar 2) tNil)) tNil)) tNil))) { nx := fun _ H1 => Q .non H1, rt := Q } σ H1 := by
      intro x z σ H1 ac ez x1 t1 tx h2
      obtain ⟨dx, fs, hx, hf⟩ := id tx
      obtain ⟨ed, _⟩ := pg.txt z ez
      have da := pg.dat.exN x1
      subst ez
      refine ⟨_, h2, x, dx, fs, rfl, hx, x, z, rfl, tx, z, rfl, .str z, d, rfl, da.at_, da.sh, da.dp, da.sz, two, fun q2 nq => ?_⟩
      refine q q2 _ (x1.trans (Ex.refl.new nq).n) (TabsN.exs t1 (Ex.refl.new nq)) ?_
      rw [page_acc.mpr ac]
      exact upd_same
    refine ⟨_, rfl, b, rfl, ?_⟩
    cases b with
    | true =>
      refine ⟨rfl, _, rfl, rfl, tv, rfl, pg.kn, tabs, hz, fun ac x z H1 ez x1 _ t1 tx => rd_nameU3 (last x z _ H1 ac ez x1 t1 tx rfl), fun na H1 d1 x1 t1 hd σ ls => ends _ d1 H1 σ na ls rfl x1 t1 hd⟩
    | false =>
      refine ⟨rfl, _, rfl, tv, rfl, pg.kn, tabs, hz, fun ac x z H1 ez x1 _ t1 tx => rd_nameU3 (last x z _ H1 ac ez x1 t1 tx rfl), fun na H1 d1 x1 t1 hd σ ls => ends _ d1 H1 σ na ls rfl x1 t1 hd⟩
end
end LJ
set_option Elab.async false
set_option linter.all false
set_option maxRecDepth 100000
set_option maxHeartbeats 8000000
/-! _law_right of texts of works: what stands from turn to turn. -/
namespace L2
open PySem PySem.Spec PyProof.Rows
def tHo (Pre Post : St → Hp → Prop) : TS := fun D σ H => Pre σ H ∧ ∀ σ1 H1, Post σ1 H1 → D.nx σ1 H1
theorem PS.weak {X : Cx} {st : Stmt} {t u : TS} (h : PS X st t) (i : ∀ D σ H, u D σ H → t D σ H) : PS X st u := ⟨fun pins s σ H D I q => h.run pins s σ H D I (i _ _ _ q)⟩
theorem PSs.weak {X : Cx} {st : List Stmt} {t u : TS} (h : PSs X st t) (i : ∀ D σ H, u D σ H → t D σ H) : PSs X st u := ⟨fun pins s σ H D I q => h.run pins s σ H D I (i _ _ _ q)⟩
abbrev Does (X : Cx) (st : Stmt) (Pre Post : St → Hp → Prop) : Prop := PS X st (tHo Pre Post)
theorem does {X : Cx} {st : Stmt} {Pre Post : St → Hp → Prop} {t : TS} (h : PS X st t) (i : ∀ D σ H, Pre σ H → (∀ σ1 H1, Post σ1 H1 → D.nx σ1 H1) → t D σ H) : Does X st Pre Post := h.weak fun D σ H q => i D σ H q.1 q.2
end L2
namespace LJ
open PySem PySem.Spec L2 PySem.ErrV
open LamX (ExtN)
open NdefX (NTab TabsN)
open OwnX
def smallOk (d : PyData) : Bool := d.showable && decide (d.depth ≤ 100) && decide (d.shown.length ≤ 100) && PyData.strOk d.shown
theorem dat_small {H : Hp} {d : PyData} {v : V} (a : rp H d v ∨ rpD H d v) (h : smallOk d = true) : Dat H d v := by
  unfold smallOk at h
  simp only [Bool.and_eq_true, decide_eq_true_eq] at h
  obtain ⟨⟨⟨h1, h2⟩, h3⟩, h4⟩ := h
  exact ⟨a, h1, h2, by rw [sizeLine_eq]; omega, h4⟩
section
variable {H : Hp}
theorem rp_one {z : Str} : rpAll H [.str z] [.str z] := by
  unfold rpAll
  refine ⟨_, _, rfl, by unfold rp; rfl, ?_⟩
  unfold rpAll
  rfl
end
theorem shaped2 {a b : Str} (ha : PyData.strOk a = true) (hb : PyData.strOk b = true) : SeqAt.shaped (.list [.str a, .str b]) = true := by
  unfold SeqAt.shaped
  simp [PyData.canLay0, PyData.canLayAll0, PyData.depth, PyData.depthAll, ha, hb]
theorem eqv2 {a b : Str} : PyData.eqv (.list [.str a, .str b]) (.list [.str a, .str b]) = true := by
  simp [PyData.eqv, PyData.eqvAll]
theorem dp2 {K : PySem.W.Frag} {H : Hp} {q : Addr} {a b : Str} (h : H q = some (.lst [.str a, .str b])) : Dp K H (.ref q) (.list [.str a, .str b]) := .lst (SqL.of h) (.cons (.str _) (.cons (.str _) .nil))
def two2 (a b : Str) : PyData := .list [.list [.str a, .str b], .list [.str a, .str b]]
theorem shaped22 {a b : Str} (ha : PyData.strOk a = true) (hb : PyData.strOk b = true) : SeqAt.shaped (two2 a b) = true := by
  unfold SeqAt.shaped two2
  simp [PyData.canLay0, PyData.canLayAll0, PyData.depth, PyData.depthAll, ha, hb]
theorem eqv22 {a b : Str} : PyData.eqv (two2 a b) (two2 a b) = true := by
  unfold two2
  simp [PyData.eqv, PyData.eqvAll]
theorem dp22 {K : PySem.W.Frag} {H : Hp} {q q1 q2 : Addr} {a b : Str} (h : H q = some (.lst [.ref q1, .ref q2])) (h1 : H q1 = some (.lst [.str a, .str b])) (h2 : H q2 = some (.lst [.str a, .str b])) : Dp K H (.ref q) (two2 a b) := .lst (SqL.of h) (.cons (dp2 h1) (.cons (dp2 h2) .nil))
theorem rd_lstU {t : TA} {σ : L2.St} {H : Hp} {Q : VK} (h : t σ H fun xs H1 => xs.length ≤ sizeLine ∧ ∀ p, H1 p = none → Q (.ref p) (upd H1 p (.lst xs))) : tLst t σ H Q := h
abbrev sRi3 : Stmt := top 54
abbrev nRi3 : List Str := ["_law_jar_here", "_law_turn", "_law_page_here", "_law_again", "_law_odd", "_law_due"]
theorem scRi3 : FnScope nRi3 ["_law_jar_here"] (defScope sRi3) := ⟨rfl, rfl, rfl, by decide +kernel, rfl, by decide +kernel, by decide +kernel⟩
def forBody : Stmt → List Stmt
  | .For (body := b) .. => b
  | _ => []
def rs (i : Nat) : Stmt := (defBody sRi3).getD i (.Pass ⟨0, 0, 0, 0⟩)
def rb (i : Nat) : Stmt := (forBody (rs 0)).getD i (.Pass ⟨0, 0, 0, 0⟩)
structure Rt3 (P : Program) (w : World) (K : PySem.W.Frag) (mg : Str → Option Value) (base : Heap) (T : List NTab) : Prop where
  range : mg "range" = none
  repr : mg "repr" = none
  dip : Callee K mg "_law_dip" ["_law_jar_here", "_law_top"] fun f fd => FnOk P w K mg base CX0 1 f fd ["_law_jar_here", "_law_top"] spDip
  one : Callee K mg "_law_one_of" ["_law_jar_here", "_law_some"] fun f fd => FnOk P w K mg base CX0 2 f fd ["_law_jar_here", "_law_some"] spOne
  world : Callee K mg "_law_world" ["_law_jar_here", "_law_most"] fun f fd => FnOk P w K mg base CX0 4 f fd ["_law_jar_here", "_law_most"] spWorld
  page : Callee K mg "_law_page" ["_law_world_here"] fun f fd => FnOk P w K mg base CX0 1 f fd ["_law_world_here"] spPage
  bent : Callee K mg "_law_bent" ["_law_jar_here", "_law_page_here"] fun f fd => FnOk P w K mg base CX0 3 f fd ["_law_jar_here", "_law_page_here"] spBe3
  isp : Callee K mg "_law_is_page" ["_law_page_here"] fun f fd => FnOk P w K mg base CX0 4 f fd ["_law_page_here"] (spPg3 K)
  read : Callee K mg "_law_read" pLrd3 fun f fd => FnG P w K mg base 12 f fd pLrd3 (spRd3 K T)
abbrev XR (P : Program) (w : World) (K : PySem.W.Frag) (mg : Str → Option Value) (base : Heap) (f : Addr) (cdv : Value) (A : Around) (outer : List Env) (s : Shared) (H0 : Hp) : Cx := (cxOf CX0 P w K mg base nRi3 "_law_right" (defScope sRi3) f cdv A outer s H0 E0).nox
structure Bs3 (T : List NTab) (H0 : Hp) (j : Addr) (G : Hp) : Prop where
  kp : Kp j H0 G
  jar : JarAt G j
  tabs : TabsN T G
theorem JarAt.exN3 {j : Addr} {H H1 : Hp} (J : JarAt H j) (e : ExtN H H1) : JarAt H1 j := by
  obtain ⟨d, m, c, h, h0, h1⟩ := J
  exact ⟨d, m, c, e _ _ h (fun _ z => nomatch z), h0, h1⟩
section
variable {T : List NTab} {j : Addr} {H0 G G1 : Hp}
theorem Bs3.exN (h : Bs3 T H0 j G) (e : ExtN G G1) (t : TabsN T G1) : Bs3 T H0 j G1 := ⟨h.kp.trans (Kp.of_ext e), h.jar.exN3 e, t⟩
theorem Bs3.ex (h : Bs3 T H0 j G) (e : Ex G G1) : Bs3 T H0 j G1 := h.exN e.n (TabsN.exs h.tabs e)
theorem Bs3.but (h : Bs3 T H0 j G) (b : But j G G1) (J : JarAt G1 j) : Bs3 T H0 j G1 := ⟨h.kp.trans (Kp.of_but b), J, tabs_but h.jar b h.tabs⟩
end
abbrev S6 (j : Addr) (v1 v2 v3 v4 v5 : Option V) : L2.St := [some (.ref j), v1, v2, v3, v4, v5]
def TP (T : List NTab) (H0 : Hp) (j : Addr) : L2.St → Hp → Prop := fun σ G => ∃ v1 v2 v3 v4 v5 : Option V, σ = S6 j v1 v2 v3 v4 v5 ∧ Bs3 T H0 j G
def PgN (N M r : Nat) (T : List NTab) (H0 : Hp) (j : Addr) : L2.St → Hp → Prop := fun σ G => ∃ (v1 : Option V) (z : Str) (v3 v4 v5 : Option V), σ = S6 j v1 (some (.str z)) v3 v4 v5 ∧ Bs3 T H0 j G ∧ Tk z ∧ z.length ≤ N ∧ Rn r z ∧ ∀ ln ∈ Txt.split z nl, ln.length ≤ M
def PvP (K : PySem.W.Frag) (T : List NTab) (H0 : Hp) (j : Addr) : L2.St → Hp → Prop := fun σ G => ∃ (v1 : Option V) (v : V) (v3 v4 v5 : Option V) (d : PyData), σ = S6 j v1 (some v) v3 v4 v5 ∧ Bs3 T H0 j G ∧ PgD K (cut [j] G) v d
theorem lnT_len {x : Ln} (h : lnOk x) : (lnT x).length ≤ 110 := by
  have k1 : sp1.length = 1 := by decide +kernel
  have km : kM.length = 7 := by decide +kernel
  have kc : kC.length = 8 := by decide +kernel
  have ks : kS.length = 5 := by decide +kernel
  have kp : kP.length = 7 := by decide +kernel
  unfold lnT
  rw [join_len, k1]
  cases x with
  | m r =>
    obtain ⟨h1, h2, h3, h4⟩ := h
    have a1 := isW_8 h1
    have a2 := num_len13 h2 (by omega)
    have a3 := num_len13 (Int.le_trans h2 h3) (by omega)
    show (kM.length + (r.1.length + ((num r.2.1).length + ((num r.2.2).length + 0)))) + (4 - 1) * 1 ≤ 110
    omega
  | c r =>
    obtain ⟨h1, h2, h3, h4⟩ := h
    have a1 := isW_8 h1
    have a2 := num_len13 h2 (by omega)
    have a3 := num_len13 (Int.le_trans h2 h3) (by omega)
    show (kC.length + (r.1.length + ((num r.2.1).length + ((num r.2.2).length + 0)))) + (4 - 1) * 1 ≤ 110
    omega
  | s r =>
    obtain ⟨h1, h2, h3⟩ := h
    have a1 := isW_8 h1
    have a2 := num_len13 h2 h3
    show (kS.length + (r.1.length + ((num r.2).length + 0))) + (3 - 1) * 1 ≤ 110
    omega
  | p r =>
    obtain ⟨h1, h2, h3⟩ := h
    have a1 := isW_8 h1
    have sm : ((r.2.map bword).map (·.length)).sum ≤ (r.2.map bword).length * 30 := sum_most fun x hx => by
      obtain ⟨b, hb, rfl⟩ := List.mem_map.mp hx
      exact bword_len (h3 b hb)
    rw [List.length_map] at sm
    show (kP.length + (r.1.length + ((r.2.map bword).map (·.length)).sum)) + ((r.2.map bword).length + 1 + 1 - 1) * 1 ≤ 110
    rw [List.length_map]
    omega
theorem word_len {x : Ln} (h : lnOk x) : ∀ y ∈ lnK x :: lnW x, y.length ≤ 30 := fun y hy => by
  have k4 : kM.length ≤ 30 ∧ kC.length ≤ 30 ∧ kS.length ≤ 30 ∧ kP.length ≤ 30 := by decide +kernel
  rcases List.mem_cons.mp hy with rfl | hy
  · rcases lnK_is x with e | e | e | e <;> rw [e]
    · exact k4.1
    · exact k4.2.1
    · exact k4.2.2.1
    · exact k4.2.2.2
  · cases x with
    | m r =>
      obtain ⟨h1, h2, h3, h4⟩ := h
      have a1 := isW_8 h1
      have a2 := num_len13 h2 (by omega)
      have a3 := num_len13 (Int.le_trans h2 h3) (by omega)
      have hy : y ∈ [r.1, num r.2.1, num r.2.2] := hy
      simp only [List.mem_cons, List.not_mem_nil, or_false] at hy
      rcases hy with rfl | rfl | rfl <;> omega
    | c r =>
      obtain ⟨h1, h2, h3, h4⟩ := h
      have a1 := isW_8 h1
      have a2 := num_len13 h2 (by omega)
      have a3 := num_len13 (Int.le_trans h2 h3) (by omega)
      have hy : y ∈ [r.1, num r.2.1, num r.2.2] := hy
      simp only [List.mem_cons, List.not_mem_nil, or_false] at hy
      rcases hy with rfl | rfl | rfl <;> omega
    | s r =>
      obtain ⟨h1, h2, h3⟩ := h
      have a1 := isW_8 h1
      have a2 := num_len13 h2 h3
      have hy : y ∈ [r.1, num r.2] := hy
      simp only [List.mem_cons, List.not_mem_nil, or_false] at hy
      rcases hy with rfl | rfl <;> omega
    | p r =>
      obtain ⟨h1, h2, h3⟩ := h
      have a1 := isW_8 h1
      rcases List.mem_cons.mp (show y ∈ r.1 :: r.2.map bword from hy) with rfl | hy
      · omega
      · obtain ⟨b, hb, rfl⟩ := List.mem_map.mp hy
        exact bword_len (h3 b hb)
theorem text_facts {W : Wd} (g : GoodF W) : (wtext W).length ≤ 2552 ∧ Rn 30 (wtext W) ∧ ∀ ln ∈ Txt.split (wtext W) nl, ln.length ≤ 110 := by
  have ls := lns_len g
  refine ⟨?_, ?_, fun ln hl => ?_⟩
  · have sm : (((lns W).map lnT).map (·.length)).sum ≤ ((lns W).map lnT).length * 110 := sum_most fun x hx => by
      obtain ⟨y, hy, rfl⟩ := List.mem_map.mp hx
      exact lnT_len (lns_ok g y hy)
    rw [List.length_map] at sm
    unfold wtext
    rw [lns_text, join_len, show (Str.ofString "\n").length = 1 by decide +kernel, List.length_map]
    omega
  · unfold wtext
    refine rn_join tl_nl (.inr rfl) fun y hy => ?_
    rw [lns_text] at hy
    obtain ⟨x, hx, rfl⟩ := List.mem_map.mp hy
    exact rn_join tl_sp1 (.inl rfl) fun u hu => rn_len (word_len (lns_ok g x hx) u hu)
  · rw [show nl = Str.ofString "\n" from rfl, split_text g, lns_text] at hl
    obtain ⟨x, hx, rfl⟩ := List.mem_map.mp hl
    exact lnT_len (lns_ok g x hx)
section
variable {P : Program} {w : World} {K : PySem.W.Frag} {mg : Str → Option Value} {base : Heap} {T : List NTab} {f j : Addr} {cdv : Value} {A : Around} {outer : List Env} {s : Shared} {H0 H00 : Hp}
theorem do0 (R : Rt3 P w K mg base T) (hr : Room 13 (XR P w K mg base f cdv A outer s H00).A) : Does (XR P w K mg base f cdv A outer s H00) (rb 0) (TP T H0 j) (PgN 2552 110 30 T H0 j) := by
  obtain ⟨fW, fdW, GW, mW, kW, bW⟩ := R.world
  obtain ⟨fP, fdP, GP, mP, kP, bP⟩ := R.page
  have hr4 : Room 4 (XR P w K mg base f cdv A outer s H00).A := hr.mono (by decide)
  have hr1 : Room 1 (XR P w K mg base f cdv A outer s H00).A := hr.mono (by decide)
  refine does (ps_set (i := 2) scRi3.nd rfl (Or.inl rfl) (pe_call GP hr1 (by rfl) mP kP bP .nil pass0 (pa_cons (pe_call GW hr4 (by rfl) mW kW bW .nil pass0 (pa_cons (pv 0) (pa_cons pe_int pa_nil))) pa_nil))) ?_
  rintro D σ H ⟨v1, v2, v3, v4, v5, rfl, B⟩ next
  refine ⟨_, rfl, j, 3, rfl, B.jar, by decide, by decide, fun p W H1 wa g J1 b1 np npj => ?_⟩
  have B1 := B.but b1 J1
  refine ⟨p, W, rfl, wa, g.F, fun H2 x2 => ?_⟩
  obtain ⟨t1, t2, t3⟩ := text_facts g.F
  exact rd_nameU3 (next _ _ ⟨_, wtext W, _, _, _, rfl, B1.ex x2, tk_wtext g.F, t1, t2, t3⟩)
def nB : Nat → Nat
  | 0 => 2552
  | 1 => 2674
  | 2 => 5360
  | _ => 10732
def mB : Nat → Nat
  | 0 => 110
  | k => nB k
def rB : Nat → Nat
  | 0 => 30
  | 1 => 67
  | 2 => 141
  | _ => 289
theorem do1 (R : Rt3 P w K mg base T) (hr : Room 13 (XR P w K mg base f cdv A outer s H00).A) : Does (XR P w K mg base f cdv A outer s H00) (rb 1) (PgN 2552 110 30 T H0 j) (PgN 10732 10732 289 T H0 j) := by
  obtain ⟨fD, fdD, GD, mD, kD, bD⟩ := R.dip
  obtain ⟨fB, fdB, GB, mB_, kB, bB⟩ := R.bent
  have hr1 : Room 1 (XR P w K mg base f cdv A outer s H00).A := hr.mono (by decide)
  have hr3 : Room 3 (XR P w K mg base f cdv A outer s H00).A := hr.mono (by decide)
  refine does (ps_for PassesOwn.never rfl (pi_range1 (by rfl) R.range (pa_cons (pe_call GD hr1 (by rfl) mD kD bD .nil pass0 (pa_cons (pv 0) (pa_cons pe_int pa_nil))) pa_nil)) (pg_name (i := 3) scRi3.nd rfl (Or.inl rfl))
    (pss_one (ps_set (i := 2) scRi3.nd rfl (Or.inl rfl) (pe_call GB hr3 (by rfl) mB_ kB bB .nil pass0 (pa_cons (pv 0) (pa_cons (pv 2) pa_nil)))))) ?_
  rintro D σ H ⟨v1, z, v3, v4, v5, rfl, B, tz, lz, rz, ll⟩ next
  refine ⟨_, rfl, j, 4, rfl, B.jar, by decide, by decide, fun r H1 r0 r4 J1 b1 => ?_⟩
  refine ⟨r, rfl, by omega, by omega, for_range (lo := 0) (n := r.toNat) (fun i σ G => PgN (nB i) (mB i) (rB i) T H0 j σ G) ⟨v1, z, _, _, _, rfl, B.but b1 J1, tz, lz, rz, ll⟩ ?_ ?_⟩
  · clear B tz lz rz ll b1 J1
    rintro i σ G hi ⟨v1, z, v3, v4, v5, rfl, B, tz, lz, rz, ll⟩
    refine rd_nameU3 ?_
    try dsimp only
    refine rd_asgU3 ?_
    have i3 : i < 3 := by omega
    have n4 : nB i ≤ 6000 := by
      match i, i3 with
      | 0, _ => decide
      | 1, _ => decide
      | 2, _ => decide
    have nx : nB i + mB i + 12 ≤ nB (i + 1) ∧ nB (i + 1) ≤ mB (i + 1) ∧ 2 * rB i + 7 ≤ rB (i + 1) := by
      match i, i3 with
      | 0, _ => decide
      | 1, _ => decide
      | 2, _ => decide
    refine ⟨_, rfl, _, rfl, j, z, rB i, mB i, rfl, B.jar, tz, by omega, rz, ll, fun y H2 ty ly ry J2 b2 => ?_⟩
    refine rd_nameU3 ⟨v1, y, _, _, _, rfl, B.but b2 J2, ty, by omega, ry.mono nx.2.2, fun ln hl => ?_⟩
    have := split_le tl_nl (by decide) hl
    omega
  · rintro σ G ⟨v1, z, v3, v4, v5, rfl, B, tz, lz, rz, ll⟩
    have top : nB r.toNat ≤ 10732 ∧ rB r.toNat ≤ 289 := by
      have i3 : r.toNat < 4 := by omega
      generalize r.toNat = k at i3
      match k, i3 with
      | 0, _ => decide
      | 1, _ => decide
      | 2, _ => decide
      | 3, _ => decide
    refine next _ _ ⟨v1, z, _, _, _, rfl, B, tz, by omega, rz.mono top.2, fun ln hl => ?_⟩
    have := split_le tl_nl (by decide) hl
    omega
end
end LJ
set_option Elab.async false
set_option linter.all false
set_option maxRecDepth 100000
set_option maxHeartbeats 8000000
/-! _law_right of texts of works: a page or something else; what is told; the whole def. -/
namespace LJ
open PySem PySem.Spec L2 PySem.ErrV
open LamX (ExtN)
open NdefX (NTab TabsN)
open OwnX
section
variable {K : PySem.W.Frag} {H : Hp}
theorem pd_str {z : Str} (t : Tk z) (l : z.length ≤ 15000) (r : Rn 600 z) : PgD K H (.str z) (.str z) :=
  ⟨.str z (by rw [sizeLine_eq]; omega), dat_str t (by omega), fun y e => by cases e; exact ⟨rfl, t, l, r⟩⟩
theorem pd_non : PgD K H .non .none := ⟨(Bd.non (B := 20) (m := 1)).kn, dat_small (.inl (by unfold rp; rfl)) (by decide +kernel), fun y e => nomatch e⟩
theorem pd_int {i : Int} (h : smallOk (.int i) = true) : PgD K H (.int i) (.int i) := ⟨.int i, dat_small (.inl (by unfold rp; rfl)) h, fun y e => nomatch e⟩
theorem pd_bl : PgD K H (.bl true) (.bool true) := ⟨(Bd.bl (B := 20) (m := 1)).kn, dat_small (.inl (by unfold rp; rfl)) (by decide +kernel), fun y e => nomatch e⟩
theorem pd_tup0 {p : Addr} (h : H p = some (.tup [])) : PgD K H (.ref p) (.tuple []) := ⟨.tup h (by rw [sizeLine_eq]; exact Nat.zero_le _), dat_small (.inl (by unfold rp; exact ⟨p, [], rfl, h, by unfold rpAll; rfl⟩)) (by decide +kernel), fun y e => nomatch e⟩
theorem pd_dct {p : Addr} (h : H p = some (.dK [])) : PgD K H (.ref p) (.dict []) := ⟨(Bd.dct (B := 20) (m := 1) h).kn, dat_small (.inr ⟨p, [], [], rfl, h, rfl, .nil⟩) (by decide +kernel), fun y e => nomatch e⟩
theorem pd_lst1 {p : Addr} {z : Str} (h : H p = some (.lst [.str z])) (t : Tk z) (l : z.length ≤ 15000) : PgD K H (.ref p) (.list [.str z]) :=
  ⟨(Bd.lst (B := 20) (m := 1) h).kn, dat_nice (by unfold rp; exact ⟨p, _, rfl, h, rp_one⟩) (shw_list (a := 0) (n := 15000) (m := 1) (fun d hd => by
    obtain rfl := List.mem_singleton.mp hd
    exact shw_txt t l) (Nat.le_refl 1)) (by decide) (by decide) (.list fun d hd => by
    obtain rfl := List.mem_singleton.mp hd
    exact .str t), fun y e => nomatch e⟩
theorem pd_tup1 {p : Addr} {z : Str} (h : H p = some (.tup [.str z])) (t : Tk z) (l : z.length ≤ 15000) : PgD K H (.ref p) (.tuple [.str z]) :=
  ⟨.tup h (by rw [sizeLine_eq]; show 1 ≤ 16777216; decide), dat_nice (by unfold rp; exact ⟨p, _, rfl, h, rp_one⟩) (shw_tuple (a := 0) (n := 15000) (m := 1) (fun d hd => by
    obtain rfl := List.mem_singleton.mp hd
    exact shw_txt t l) (Nat.le_refl 1)) (by decide) (by decide) (.tuple fun d hd => by
    obtain rfl := List.mem_singleton.mp hd
    exact .str t), fun y e => nomatch e⟩
end
def l9 (p1 p2 p3 p4 : Addr) : List V := [.non, .int 5, .bl true, .ref p1, .ref p2, .ref p3, .ref p4, .str (Str.ofString ""), .str (Str.ofString "\n")]
def l3 (z : Str) : List V := [.str (z ++ Str.ofString "\n"), .str (Str.ofString " " ++ z), .str (Txt.upper z)]
theorem rd_pick {c : Bool} {a b : Str} {σ : L2.St} {H : Hp} {Q : VK} (h : Q (.str (if c = true then a else b)) H) : (if c = true then tC (.str a) σ H Q else tC (.str b) σ H Q) := by
  cases c <;> exact h
def rUpp : V → List V → Hp → VK → Prop := fun x xs H Q => ∃ a, x = .str a ∧ xs = [] ∧ a.length ≤ 5592405 ∧ Q (.str (Txt.upper a)) H
theorem rd_lnx {n : Nat} {a b : Str} (ha : Rn n a) (hb : Rn n b) (s : Nat) (e : TL.tl b = [s]) (hs : Sep s) : Rn n (a ++ b) := by
  show RnL _ (TL.tl (a ++ b))
  rw [TL.tl_append, e]
  have := rnl_sep (B := []) ha (rnl_len (Nat.zero_le _)) hs
  simpa using this
/-- _law_read(_law_page, so) -/
def tReadR (K : PySem.W.Frag) (T : List NTab) (tb : TE) : TE := fun σ H Q => tCons (tVar 2) (tCons tb tNil) σ H fun vs H1 => spRd3 K T vs H1 Q E0
theorem rd_read3 {K : PySem.W.Frag} {T : List NTab} {tv : V} {b : Bool} {σ : L2.St} {G : Hp} {Q : VK} (h2 : σ[2]? = some (some tv)) (h : spRd3 K T [tv, .bl b] G Q E0) : tReadR K T (tC (.bl b)) σ G Q := ⟨_, h2, h⟩
def spRight (T : List NTab) : Sp := fun vs H Q _ => ∃ j : Addr, vs = [.ref j] ∧ JarAt H j ∧ TabsN T H ∧ ∀ H1, Kp j H H1 → TabsN T H1 → Q (.bl true) H1
section
variable {P : Program} {w : World} {K : PySem.W.Frag} {mg : Str → Option Value} {base : Heap} {T : List NTab} {f j : Addr} {cdv : Value} {A : Around} {outer : List Env} {s : Shared} {H0 H00 : Hp}
theorem do2 (R : Rt3 P w K mg base T) (hr : Room 13 (XR P w K mg base f cdv A outer s H00).A) : Does (XR P w K mg base f cdv A outer s H00) (rb 2) (PgN 10732 10732 289 T H0 j) (PvP K T H0 j) := by
  obtain ⟨fD, fdD, GD, mD, kD, bD⟩ := R.dip
  obtain ⟨fO, fdO, GO, mO, kO, bO⟩ := R.one
  have hr1 : Room 1 (XR P w K mg base f cdv A outer s H00).A := hr.mono (by decide)
  have hr2 : Room 2 (XR P w K mg base f cdv A outer s H00).A := hr.mono (by decide)
  refine does (ps_if (pt_cmpR op_eq (pe_call GD hr1 (by rfl) mD kD bD .nil pass0 (pa_cons (pv 0) (pa_cons pe_int pa_nil))) pe_int (nomark _))
    (pss_cons (ps_set (i := 4) scRi3.nd rfl (Or.inl rfl) (pe_lst (pa_cons pe_non (pa_cons pe_int (pa_cons pe_bl (pa_cons (pe_tup pa_nil) (pa_cons (pe_lst (pa_cons (pv 2) pa_nil)) (pa_cons (pe_tup (pa_cons (pv 2) pa_nil)) (pa_cons pe_dnewK (pa_cons pe_str (pa_cons pe_str pa_nil)))))))))))
    (pss_one (ps_set (i := 2) scRi3.nd rfl (Or.inl rfl) (pe_call GO hr2 (by rfl) mO kO bO .nil pass0 (pa_cons (pv 0) (pa_cons (pe_op op_cat (pv 4) (pe_lst (pa_cons (pe_op op_add_str (pv 2) pe_str) (pa_cons (pe_op op_add_str pe_str (pv 2)) (pa_cons (pe_upper (pv 2)) pa_nil))))) pa_nil)))))) pss_nil) ?_
  rintro D σ H ⟨v1, z, v3, v4, v5, rfl, B, tz, lz, rz, ll⟩ next
  have sz := sizeLine_eq
  have big : ∀ {n : Nat}, n ≤ 1000 → n ≤ sizeLine := fun h => by omega
  refine ⟨_, rfl, j, 6, rfl, B.jar, by decide, by decide, fun r H1 r0 r8 J1 b1 => ⟨rfl, _, rfl, ?_⟩⟩
  have B1 := B.but b1 J1
  have r6 : Rn 600 z := rz.mono (by decide)
  refine ite2 (fun _ => ?_) (fun _ => ?_)
  · have fresh : ∀ {G : Hp} {q : Addr}, Ex H1 G → G q = none → q ≠ j := fun {G q} e n z => by
      obtain ⟨d1, m1, c1, e1, _⟩ := J1
      rw [z, e _ _ e1] at n
      cases n
    refine rd_seqU3 (rd_asgU3 ?_)
    refine ⟨big (by show 0 ≤ _; decide), fun p1 n1 => ?_⟩
    have y1 : Ex H1 (upd H1 p1 (.tup [])) := Ex.refl.new n1
    have h1 : (upd H1 p1 (.tup [])) p1 = some (.tup []) := upd_same
    have f1 := fresh Ex.refl n1
    generalize upd H1 p1 (.tup []) = G1 at y1 h1 ⊢
    refine ⟨_, rfl, big (by show 1 ≤ _; decide), fun p2 n2 => ?_⟩
    have y2 : Ex G1 (upd G1 p2 (.lst [.str z])) := Ex.refl.new n2
    have h2 : (upd G1 p2 (.lst [.str z])) p2 = some (.lst [.str z]) := upd_same
    have f2 := fresh y1 n2
    generalize upd G1 p2 (.lst [V.str z]) = G2 at y2 h2 ⊢
    refine ⟨_, rfl, big (by show 1 ≤ _; decide), fun p3 n3 => ?_⟩
    have y3 : Ex G2 (upd G2 p3 (.tup [.str z])) := Ex.refl.new n3
    have h3 : (upd G2 p3 (.tup [.str z])) p3 = some (.tup [.str z]) := upd_same
    have f3 := fresh (y1.trans y2) n3
    generalize upd G2 p3 (.tup [V.str z]) = G3 at y3 h3 ⊢
    refine fun p4 n4 => ?_
    have y4 : Ex G3 (upd G3 p4 (.dK [])) := Ex.refl.new n4
    have h4 : (upd G3 p4 (.dK [])) p4 = some (.dK []) := upd_same
    have f4 := fresh (y1.trans (y2.trans y3)) n4
    generalize upd G3 p4 (.dK []) = G4 at y4 h4 ⊢
    refine ⟨big (by show 9 ≤ _; decide), fun p5 n5 => ?_⟩
    have y5 := (Ex.refl (H := G4)).new (o := .lst [.non, .int 5, .bl true, .ref p1, .ref p2, .ref p3, .ref p4, .str (Str.ofString ""), .str (Str.ofString "\n")]) n5
    have h5 : (upd G4 p5 (.lst [.non, .int 5, .bl true, .ref p1, .ref p2, .ref p3, .ref p4, .str (Str.ofString ""), .str (Str.ofString "\n")])) p5 = some (.lst [.non, .int 5, .bl true, .ref p1, .ref p2, .ref p3, .ref p4, .str (Str.ofString ""), .str (Str.ofString "\n")]) := upd_same
    generalize upd G4 p5 (.lst [V.non, .int 5, .bl true, .ref p1, .ref p2, .ref p3, .ref p4, .str (Str.ofString ""), .str (Str.ofString "\n")]) = G5 at y5 h5 ⊢
    refine rd_nameU3 ?_
    try dsimp only
    refine rd_asgU3 ?_
    refine ⟨_, rfl, _, rfl, _, rfl, _, _, rfl, rfl, by rw [show (Str.ofString "\n").length = 1 by decide +kernel]; omega, _, rfl, _, _, rfl, rfl, by rw [show (Str.ofString " ").length = 1 by decide +kernel]; omega, _, rfl, ⟨_, rfl⟩, z, rfl, rfl, by omega, big (by show 3 ≤ _; decide), fun p6 n6 => ?_⟩
    have y6 := (Ex.refl (H := G5)).new (o := .lst [.str (z ++ Str.ofString "\n"), .str (Str.ofString " " ++ z), .str (Txt.upper z)]) n6
    have h6 : (upd G5 p6 (.lst [.str (z ++ Str.ofString "\n"), .str (Str.ofString " " ++ z), .str (Txt.upper z)])) p6 = some (.lst [.str (z ++ Str.ofString "\n"), .str (Str.ofString " " ++ z), .str (Txt.upper z)]) := upd_same
    generalize upd G5 p6 (.lst [V.str (z ++ Str.ofString "\n"), .str (Str.ofString " " ++ z), .str (Txt.upper z)]) = G6 at y6 h6 ⊢
    refine ⟨p5, p6, l9 p1 p2 p3 p4, l3 z, rfl, rfl, y6 _ _ h5, h6, big (by show 9 + 3 ≤ _; decide), fun p7 n7 => ?_⟩
    have y16 := y1.trans (y2.trans (y3.trans (y4.trans (y5.trans y6))))
    have f7 := fresh y16 n7
    have y7 := (Ex.refl (H := G6)).new (o := .lst (l9 p1 p2 p3 p4 ++ l3 z)) n7
    have h7 : (upd G6 p7 (.lst (l9 p1 p2 p3 p4 ++ l3 z))) p7 = some (.lst (l9 p1 p2 p3 p4 ++ l3 z)) := upd_same
    generalize upd G6 p7 (.lst (l9 p1 p2 p3 p4 ++ l3 z)) = G7 at y7 h7 ⊢
    have B7 := B1.ex (y16.trans y7)
    have z67 := y5.trans (y6.trans y7)
    have c1 : cut [j] G7 p1 = some (.tup []) := cut_of ((y2.trans (y3.trans (y4.trans z67))) _ _ h1) (by simpa using f1)
    have c2 : cut [j] G7 p2 = some (.lst [.str z]) := cut_of ((y3.trans (y4.trans z67)) _ _ h2) (by simpa using f2)
    have c3 : cut [j] G7 p3 = some (.tup [.str z]) := cut_of ((y4.trans z67) _ _ h3) (by simpa using f3)
    have c4 : cut [j] G7 p4 = some (.dK []) := cut_of (z67 _ _ h4) (by simpa using f4)
    refine ⟨j, p7, _, rfl, B7.jar, h7, f7, by show 0 < 12; decide, by show 12 < 100000; decide, fun m v G8 hv J8 b8 => ?_⟩
    obtain ⟨u1, u2, u3⟩ := upper_ok tz r6
    have pg : ∃ d, PgD K (cut [j] G7) v d := by
      have hm := List.mem_of_getElem? hv
      unfold l9 l3 at hm
      simp only [List.mem_append, List.mem_cons, List.not_mem_nil, or_false] at hm
      rcases hm with (rfl | rfl | rfl | rfl | rfl | rfl | rfl | rfl | rfl) | rfl | rfl | rfl
      · exact ⟨_, pd_non⟩
      · exact ⟨_, pd_int (by decide +kernel)⟩
      · exact ⟨_, pd_bl⟩
      · exact ⟨_, pd_tup0 c1⟩
      · exact ⟨_, pd_lst1 c2 tz (by omega)⟩
      · exact ⟨_, pd_tup1 c3 tz (by omega)⟩
      · exact ⟨_, pd_dct c4⟩
      · exact ⟨_, pd_str (by decide +kernel) (by decide +kernel) (rn_len (by decide +kernel))⟩
      · exact ⟨_, pd_str (by decide +kernel) (by decide +kernel) (rn_len (by decide +kernel))⟩
      · exact ⟨_, pd_str (tk_app tz (by decide +kernel)) (by rw [len_app, show (Str.ofString "\n").length = 1 by decide +kernel]; omega) (rd_lnx r6 (rn_len (by decide +kernel)) 10 (by decide +kernel) (.inr rfl))⟩
      · exact ⟨_, pd_str (tk_app (by decide +kernel) tz) (by rw [len_app, show (Str.ofString " ").length = 1 by decide +kernel]; omega) (RnL.mono (rn_app (n := 1) (rn_len (by decide +kernel)) rz) (by decide))⟩
      · exact ⟨_, pd_str u1 (by omega) u3⟩
    obtain ⟨d, pg⟩ := pg
    exact rd_nameU3 (next _ _ ⟨_, v, _, _, _, d, rfl, B7.but b8 J8, pg.exN (But.cut b8 (by simp))⟩)
  · exact rd_nextU3 (next _ _ ⟨_, .str z, _, _, _, _, rfl, B1, pd_str tz (by omega) r6⟩)
theorem do34 (R : Rt3 P w K mg base T) (hr : Room 13 (XR P w K mg base f cdv A outer s H00).A) (hgd : (XR P w K mg base f cdv A outer s H00).A.guards = some []) : PSs (XR P w K mg base f cdv A outer s H00) [rb 3, rb 4] (tHo (PvP K T H0 j) (TP T H0 j)) := by
  obtain ⟨fI, fdI, GI, mI, kI, bI⟩ := R.isp
  obtain ⟨fM, fdM, GM, mM, kM, bM⟩ := R.read
  have hr12 : Room 12 (XR P w K mg base f cdv A outer s H00).A := hr.mono (by decide)
  have hr4 : Room 4 (XR P w K mg base f cdv A outer s H00).A := hr.mono (by decide)
  have hu : (XR P w K mg base f cdv A outer s H00).A.units + 150 < cLine := by
    have := hr.un
    omega
  have hu64 : (XR P w K mg base f cdv A outer s H00).A.units + 64 < cLine := by omega
  refine PSs.weak (pss_cons (ps_set (i := 5) scRi3.nd rfl (Or.inl rfl) (pe_lst (pa_cons (pe_ifExp (pt_val (pe_call GI hr4 (by rfl) mI kI bI .nil pass0 (pa_cons (pv 2) pa_nil))) pe_str pe_str) (pa_cons (pe_callB (call_repr_data hgd hu) (by rfl) R.repr (by decide +kernel) (pa_cons (pv 2) pa_nil)) pa_nil))))
    (pss_one (ps_if (pt_cmpR (op_neD hu64) (pe_lst (pa_cons (show PE _ _ (tReadR K T (tC (.bl false))) from pe_callNG GM hgd hr12 (by rfl) mM kM bM (pa_cons (pv 2) (pa_cons pe_bl pa_nil))) (pa_cons (show PE _ _ (tReadR K T (tC (.bl true))) from pe_callNG GM hgd hr12 (by rfl) mM kM bM (pa_cons (pv 2) (pa_cons pe_bl pa_nil))) pa_nil))) (pe_lst (pa_cons (pv 5) (pa_cons (pv 5) pa_nil))) (nomark _)) (pss_one (ps_ret pe_bl)) pss_nil))) ?_
  rintro D σ H ⟨⟨v1, v, v3, v4, v5, d, rfl, B, pg0⟩, next⟩
  have big : ∀ {n : Nat}, n ≤ 1000 → n ≤ sizeLine := fun h => by rw [sizeLine_eq]; omega
  have pg := pg0.exN (cut_up (js := [j]) (H := H))
  refine rd_seqU3 (rd_asgU3 ?_)
  refine ⟨_, rfl, v, rfl, pg.kn, (fun z e => by obtain ⟨_, h2, h3, _⟩ := pg.txt z e; exact ⟨h2, h3⟩), fun H1 x1 => ⟨_, rfl, rd_pick ?_⟩⟩
  have okd := pg.dat.ok
  have kk : PyData.strOk (if pageV v = true then wRead else wRef) = true := by
    split <;> decide +kernel
  have da := pg.dat.exN x1.n
  refine ⟨_, rfl, v, d, rfl, da.at_, da.sh, da.dp, da.sz, big (by show 2 ≤ _; decide), fun p np => ?_⟩
  have x2 : Ex H1 (upd H1 p (.lst [.str (if pageV v = true then wRead else wRef), .str d.shown])) := Ex.refl.new np
  have h2 : (upd H1 p (.lst [.str (if pageV v = true then wRead else wRef), .str d.shown])) p = some (.lst [.str (if pageV v = true then wRead else wRef), .str d.shown]) := upd_same
  generalize upd H1 p (.lst [V.str (if pageV v = true then wRead else wRef), .str d.shown]) = H2 at x2 h2 ⊢
  have X2 := x1.trans x2
  refine rd_nameU3 ?_
  try dsimp only
  have B2 := B.ex X2
  have pg2 := pg.exN X2.n
  refine rd_ifU3 (rd_testU3 (rd_opU3 (rd_lstU (rd_consU3 (rd_read3 rfl ⟨v, false, d, rfl, pg2, B2.tabs, fun q2 G1 y1 t1 g2 => ?_⟩)))))
  have B3 := B2.exN y1 t1
  refine rd_consU3 (rd_read3 rfl ⟨v, true, d, rfl, pg2.exN y1, t1, fun q3 G2 y2 t2 g3 => ?_⟩)
  have B4 := B3.exN y2 t2
  have ln : ∀ {G G' : Hp} {q : Addr} {xs : List V}, ExtN G G' → G q = some (.lst xs) → G' q = some (.lst xs) := fun e h => e _ _ h fun _ z => nomatch z
  have k2 := ln y2 g2
  have k1 := ln (y1.trans y2) h2
  generalize (if pageV v = true then wRead else wRef) = a at kk k1 k2 g3
  refine ⟨big (by show 2 ≤ _; decide), fun q4 n4 => ?_⟩
  have y3 : Ex G2 (upd G2 q4 (.lst [.ref q2, .ref q3])) := Ex.refl.new n4
  have h4 : (upd G2 q4 (.lst [.ref q2, .ref q3])) q4 = some (.lst [.ref q2, .ref q3]) := upd_same
  show tCons _ _ _ (upd G2 q4 (.lst [.ref q2, .ref q3])) _
  generalize upd G2 q4 (.lst [V.ref q2, V.ref q3]) = G3 at y3 h4 ⊢
  refine ⟨_, rfl, _, rfl, big (by show 2 ≤ _; decide), fun q5 n5 => ?_⟩
  have y4 : Ex G3 (upd G3 q5 (.lst [.ref p, .ref p])) := Ex.refl.new n5
  have h5 : (upd G3 q5 (.lst [.ref p, .ref p])) q5 = some (.lst [.ref p, .ref p]) := upd_same
  generalize upd G3 q5 (.lst [V.ref p, V.ref p]) = G4 at y4 h5 ⊢
  have y34 := y3.trans y4
  refine ⟨_, _, dp22 (y4 _ _ h4) (y34 _ _ k2) (y34 _ _ g3), dp22 h5 (y34 _ _ k1) (y34 _ _ k1), shaped22 kk okd, shaped22 kk okd, _, rfl, ?_⟩
  rw [eqv22]
  refine ite2 (fun z => by cases z) (fun _ => ?_)
  exact rd_nextU3 (next _ _ ⟨_, _, _, _, _, rfl, B4.ex y34⟩)
theorem ok_ri3 {fd : FuncData} (F : Fun K "_law_right" "_law_right" sRi3 f fd) (R : Rt3 P w K mg base T) : FnG P w K mg base 14 f fd ["_law_jar_here"] (spRight T) := by
  refine F.okG scRi3 (fun vs H Q E h => ?_) (fun cdv A outer s H vs Q hgA hr h => ?_)
  · obtain ⟨j, rfl, _⟩ := h
    rfl
  · obtain ⟨j, rfl, J, t, q⟩ := h
    have hgd : (XR P w K mg base f cdv A outer s H).A.guards = some [] := hgA
    have turn : PSs (XR P w K mg base f cdv A outer s H) (forBody (rs 0)) (tHo (TP T H j) (TP T H j)) := PSs.weak (pss_cons (do0 (H0 := H) (j := j) R hr) (pss_cons (do1 (H0 := H) (j := j) R hr) (pss_cons (do2 (H0 := H) (j := j) R hr) (do34 (H0 := H) (j := j) R hr hgd)))) fun D σ G z => ⟨z.1, fun σ1 G1 l1 => ⟨l1, fun σ2 G2 l2 => ⟨l2, fun σ3 G3 l3 => ⟨l3, z.2⟩⟩⟩⟩
    refine ⟨_, pss_cons (ps_for PassesOwn.never rfl (pi_range1 (by rfl) R.range (pa_cons pe_int pa_nil)) (pg_name (i := 1) scRi3.nd rfl (Or.inl rfl)) turn)
      (pss_one (ps_ret pe_bl)), ?_⟩
    refine rd_seqU3 ?_
    refine ⟨12, rfl, by decide, by decide, ?_⟩
    refine for_range (lo := 0) (n := 12) (fun i σ G => TP T H j σ G) ?_ ?_ ?_
    · exact ⟨_, _, _, _, _, rfl, ⟨Kp.refl, J, t⟩⟩
    · rintro i σ G hi ⟨v1, v2, v3, v4, v5, rfl, B⟩
      exact rd_nameU3 ⟨⟨_, _, _, _, _, rfl, B⟩, fun σ1 G1 l1 => l1⟩
    · rintro σ G ⟨v1, v2, v3, v4, v5, rfl, B⟩
      exact q G B.kp B.tabs
end
end LJ
set_option Elab.async false
set_option linter.all false
set_option maxRecDepth 100000
set_option maxHeartbeats 8000000
namespace LJ
open PySem PySem.Spec L2 PySem.ErrV PyProof.Rows
open LamX (ExtN TabB CodeO)
open NdefX (NTab TabsN)
theorem small_line {n : Nat} (h : n ≤ 10000) : n ≤ sizeLine := by
  rw [sizeLine_eq]
  omega
abbrev sLaw : Stmt := top 55
abbrev nLaw : List Str := ["_law_cells", "_law_turn"]
theorem scLaw : FnScope nLaw ["_law_cells"] (defScope sLaw) := ⟨rfl, rfl, rfl, by decide +kernel, rfl, by decide +kernel, by decide +kernel⟩
theorem lstN {G G1 : Hp} (e : ExtN G G1) {a : Addr} {xs : List V} (h : G a = some (.lst xs)) : G1 a = some (.lst xs) := e _ _ h fun _ z => nomatch z
structure BltM (mg : Str → Option Value) : Prop where
  all : mg "all" = none
  range : mg "range" = none
  max : mg "max" = none
  min : mg "min" = none
  len : mg "len" = none
def spLaw (T : List NTab) (K : PySem.W.Frag) : Sp := fun vs H Q _ => ∃ (a : Addr) (ns : List Int), vs = [.ref a] ∧ SqL K H a (ns.map V.int) ∧ ns.length ≤ 63 ∧ TabsN T H ∧ ∀ H1, Q (.bl true) H1
theorem sqN {K : PySem.W.Frag} {H H1 : Hp} {a : Addr} {xs : List V} (e : ExtN H H1) (h : SqL K H a xs) : SqL K H1 a xs := by
  rcases h with (h | ⟨o, h⟩) | h
  · exact .inl (.inl (e _ _ h fun _ z => nomatch z))
  · exact .inl (.inr ⟨o, e _ _ h fun _ z => nomatch z⟩)
  · exact .inr h
/-- the reading of _law_right(_law_jar(_law_cells, _law_turn)) -/
def tR (K : PySem.W.Frag) (T : List NTab) : TE := fun σ H Q => tCons (tCall (spJar K) [] E0 (tCons (tVar 0) (tCons (tVar 1) tNil))) tNil σ H fun vs H1 => spRight T vs H1 Q E0
section
variable {P : Program} {w : World} {K : PySem.W.Frag} {mg : Str → Option Value} {base : Heap} {T : List NTab}
theorem ok_law {f fR fJ : Addr} {fd fdR fdJ : FuncData} (F : Fun K "law" "law" sLaw f fd) (B : BltM mg)
    (GR : FnG P w K mg base 14 fR fdR ["_law_jar_here"] (spRight T)) (mR : mg "_law_right" = some (.ref fR)) (kR : PySem.W.keepIn K (.ref fR) = true) (bR : Binds K fdR ["_law_jar_here"] [])
    (GJ : FnOk P w K mg base CX0 1 fJ fdJ ["_law_cells", "_law_turn"] (spJar K)) (mJ : mg "_law_jar" = some (.ref fJ)) (kJ : PySem.W.keepIn K (.ref fJ) = true) (bJ : Binds K fdJ ["_law_cells", "_law_turn"] []) :
    FnG P w K mg base 15 f fd ["_law_cells"] (spLaw T K) := by
  refine F.okG scLaw (fun vs H Q E h => ?_) (fun cdv A outer s H vs Q hgA hr h => ?_)
  · obtain ⟨a, ns, rfl, _⟩ := h
    rfl
  · obtain ⟨a, ns, rfl, hS, hn, tabs, k⟩ := h
    have hgd : (A.deeper (PyProof.Rows.envOfC "law" (defScope sLaw) s.heap.objs.size f cdv)).guards = some [] := hgA
    have hr1 : Room 1 _ := hr.mono (by decide)
    refine ⟨_, pss_one (ps_ret (pe_callB (cr_all rfl) (by rfl) B.all (by decide +kernel) (pa_cons (pe_lc (own := [("_law_turn", 1)]) (g := gName 1) (te := tR K T) (by rfl) scLaw.nd (pi_range1 (by rfl) B.range (pa_cons (pe_callB (call_max2 rfl) (by rfl) B.max (by decide +kernel) (pa_cons pe_int (pa_cons (pe_callB (call_min2 rfl) (by rfl) B.min (by decide +kernel) (pa_cons (pe_callB call_len_seq (by rfl) B.len PySem.boot_len (pa_cons (pv 0) pa_nil)) (pa_cons pe_int pa_nil))) pa_nil))) pa_nil)) (blkOk_by (own := [("_law_turn", 1)]) (N := nLaw) (sc := defScope sLaw) (by decide +kernel)) (fun _ _ _ _ _ => pg_name (i := 1) scLaw.nd rfl (Or.inl rfl)) (fun _ _ _ _ _ => pts_nil) (fun _ _ _ _ _ => pe_callNG GR hgd hr (by rfl) mR kR bR (pa_cons (pe_call GJ hr1 (by rfl) mJ kJ bJ .nil pass0 (pa_cons (pv 0) (pa_cons (pv 1) pa_nil))) pa_nil))) pa_nil))), ?_⟩
    have six : (if (if (6 : Int) < ((ns.map V.int).length : Int) then (6 : Int) else ((ns.map V.int).length : Int)) > 2 then (if (6 : Int) < ((ns.map V.int).length : Int) then (6 : Int) else ((ns.map V.int).length : Int)) else 2) ≤ 6 := by
      split <;> split <;> omega
    have two : (2 : Int) ≤ (if (if (6 : Int) < ((ns.map V.int).length : Int) then (6 : Int) else ((ns.map V.int).length : Int)) > 2 then (if (6 : Int) < ((ns.map V.int).length : Int) then (6 : Int) else ((ns.map V.int).length : Int)) else 2) := by
      split <;> omega
    refine ⟨_, rfl, a, _, rfl, .inl hS, _, _, rfl, _, _, rfl, _, rfl, ?_⟩
    generalize (if (if (6 : Int) < ((ns.map V.int).length : Int) then (6 : Int) else ((ns.map V.int).length : Int)) > 2 then (if (6 : Int) < ((ns.map V.int).length : Int) then (6 : Int) else ((ns.map V.int).length : Int)) else 2) = n6 at six two ⊢
    refine ⟨by omega, by omega, fun D hD => lc_range (lo := 0) (n := n6.toNat) (fun n H2 => ExtN H H2 ∧ TabsN T H2 ∧ H2 D = some (.lst ((List.replicate n true).map V.bl))) ⟨(Ex.refl.new hD).n, TabsN.exs tabs (Ex.refl.new hD), upd_same⟩ ?_ ?_⟩
    · rintro n H2 hi ⟨h2, t2, hD2⟩
      refine ⟨rfl, ?_⟩
      refine ⟨_, rfl, _, rfl, a, ns, 0 + (n : Int), rfl, sqN h2 hS, hn, by omega, by omega, fun j H8 nj s8 J8 => ?_⟩
      have t8 : TabsN T H8 := TabsN.exs t2 s8
      refine ⟨j, rfl, J8, t8, fun H9 b9 t9 => ?_⟩
      have far : ∀ {b : Addr} {o : HO}, H2 b = some o → b ≠ j := fun {b o} e z => by
        rw [z, nj] at e
        cases e
      have s9 : ExtN H2 H9 := fun b o e nt => b9 b o (far e) (s8 b o e) nt
      have hD9 := lstN s9 hD2
      refine ⟨_, hD9, small_line (by rw [List.length_map, List.length_replicate]; omega), fun b o e nt => ?_, fun r hr => ?_, ?_⟩
      · have nb : b ≠ D := fun z => by
          rw [z, hD] at e
          cases e
        rw [upd_ne nb]
        exact s9 b o (h2 b o e nt) nt
      · obtain ⟨ps, h1, h2, h3⟩ := t9 r hr
        refine ⟨ps, by rw [upd_ne (ne_of h1 hD9 fun z => nomatch z)]; exact h1, h2, fun pos v hv => ?_⟩
        obtain ⟨c, e1, e2⟩ := h3 pos v hv
        exact ⟨c, e1, by rw [upd_ne (ne_of e2 hD9 fun z => nomatch (show HO.ext _ = HO.lst _ from z))]; exact e2⟩
      · rw [List.replicate_succ', List.map_append]
        exact upd_same
    · rintro H2 ⟨h2, t2, hD2⟩
      refine ⟨D, _, rfl, SqL.of hD2, ?_⟩
      have e : (List.replicate n6.toNat true).all id = true := by simp
      rw [e]
      exact k H2
end
end LJ
set_option Elab.async false
set_option linter.all false
set_option maxRecDepth 100000
set_option maxHeartbeats 4000000
/-! The end of a row whose law asks for repr and makes lambdas: no guard stands, tables of code are empty at first. -/
namespace L2
open PySem PySem.Spec PyProof.Rows
/-- what is tracked when the law is called: the tables, and the script where it is not written -/
def Begun (cs : List (Addr × Addr)) (a : Addr) (H : Hp) : Prop := ∀ b, H b = none ∨ b ∈ cs.map (·.2) ∧ H b = some (.tbl #[]) ∨ b = a ∧ ∃ o xs, H b = some (.frz o (.lst xs))
section
variable {P : Program} {w : World} {K : PySem.W.Frag} {mg mb : Str → Option Value} {k : Nat} {fa a : Addr} {fd : FuncData} {x : Str} {sp : Sp} {s1 : Shared} {vs : List Value} {ns : List Int} {cs : List (Addr × Addr)}
/-- the tables of some code objects, all empty -/
structure Empty (K : PySem.W.Frag) (h : Heap) (cs : List (Addr × Addr)) : Prop where
  at_ : ∀ q ∈ cs, h.get? q.2 = some (PySem.W.tabObj #[])
  out : ∀ q ∈ cs, K.lookup q.2 = none
  head : ∀ q ∈ cs, PySem.W.CodeHd h q.1 q.2
theorem Empty.of {h : Heap} (E : Empty K h cs) {b : Addr} (m : b ∈ cs.map (·.2)) : h.get? b = some (PySem.W.tabObj #[]) := by
  obtain ⟨q, hq, rfl⟩ := List.mem_map.mp m
  exact E.at_ q hq
theorem Empty.no {h : Heap} (E : Empty K h cs) {b : Addr} (m : b ∈ cs.map (·.2)) : K.lookup b = none := by
  obtain ⟨q, hq, rfl⟩ := List.mem_map.mp m
  exact E.out q hq
theorem law_gt_at (KX : K.In s1.heap) (hns : s1.heap.Ns mainGlobals mg) (hb : s1.heap.Ns builtinsNs mb) (hbb : ∀ y : Str, y ≠ "__name__" → mb y = bootBuiltins y) (hlim : s1.heap.NoLimit) (hgn : s1.gens = #[]) (E : Empty K s1.heap cs)
    (bi : ∃ (m : Addr) (o : Obj), mg "__builtins__" = some (.ref m) ∧ m ≠ builtinsNs ∧ s1.heap.get? m = some o ∧ o.cls = .type "module" ∧ o.dict = some builtinsNs ∧ o.data = .plain)
    (ha : s1.heap.get? a = some { cls := .type "list", data := .seq vs.toArray }) (hr : Room k callerA)
    (F : ∀ base : Heap, K.In base → base.Ns mainGlobals mg → (∀ q ∈ cs, LamX.TabB base mg q.1 q.2) → FnG P w K mg base k fa fd [x] sp) (hbind : ∀ (s : Shared) (u : Value), BindsTo s fd ⟨[u], []⟩ [(x, u)])
    (H : Hp) (tb : ∀ q ∈ cs, H q.2 = some (.tbl #[])) (only : Begun cs a H) (hsp : sp [.ref a] H (fun v _ => v = .bl true) E0) (hok : HOk P w H s1.heap) (hK : H a ≠ none → K.lookup a = none) :
    codeAny (model P w) callerA (.call (.ref fa) ⟨[.ref a], []⟩) (fun r s2 => r = .ok (.ret (.bool true)) ∧ OldK s1.heap s2.heap ∧ s2.os = s1.os ∧ AllBare s2.gens) s1 := by
  have untracked : ∀ {b : Addr} {o : Obj}, s1.heap.get? b = some o → (∀ us n, o.data ≠ .seq us n) → (∀ us, o.data = .fields us → us ≠ #[]) → H b = none := fun {b o} e n1 n2 => by
    rcases only b with z | ⟨m, _⟩ | ⟨rfl, _⟩
    · exact z
    · rw [E.of m] at e
      cases e
      exact absurd rfl (n2 _ rfl)
    · rw [ha] at e
      cases e
      exact absurd rfl (n1 _ _)
  have ground : ∀ {b : Addr} {o : Obj}, s1.heap.get? b = some o → H b = none → (hidT s1.heap H).get? b = some o := fun e n => hidT_get e n
  have names : ∀ {b : Addr} {m : Str → Option Value}, s1.heap.Ns b m → (hidT s1.heap H).Ns b m := fun {b m} ⟨o, es, ep, e, d, r⟩ =>
    ⟨o, es, ep, ground e (untracked e (fun us n z => nomatch d.symm.trans z) fun us z => nomatch d.symm.trans z), d, r⟩
  have KB : K.In (hidT s1.heap H) := fun b o e => ground (KX b o e) (by
    rcases only b with z | ⟨m, _⟩ | ⟨rfl, o2, xs, z⟩
    · exact z
    · rw [E.no m] at e
      cases e
    · rw [hK (by rw [z]; exact Option.some_ne_none _)] at e
      cases e)
  have md : Mod K mg (hidT s1.heap H) := ⟨KB, names hns, ⟨mb, names hb, hbb⟩, let ⟨mc, h1, h2⟩ := hlim; ⟨mc, names h1, h2⟩⟩
  have TB : ∀ q ∈ cs, LamX.TabB (hidT s1.heap H) mg q.1 q.2 := fun q hq => by
    constructor
    · obtain ⟨o, us, file, tf, flags, tg, inF, text, tt, e1, r1, r2, r3, rest⟩ := E.head q hq
      refine ⟨o, us, file, tf, flags, tg, inF, text, tt, ground e1 (untracked e1 (fun vs n z => nomatch r2.symm.trans z) fun vs z e => ?_), r1, r2, r3, rest⟩
      have es : us = vs := Data.fields.inj (r2.symm.trans z)
      rw [es, e] at r3
      cases r3
    · obtain ⟨m, o, b1, b2, b3, b4, b5, b6⟩ := bi
      refine ⟨m, o, b1, b2, fun z => ?_, fun z => ?_, ground b3 (untracked b3 (fun vs n z => nomatch b6.symm.trans z) fun vs z => nomatch b6.symm.trans z), b4, b5, b6⟩
      · obtain ⟨og, es, ep, e, d, _⟩ := hns
        rw [z, e] at b3
        cases b3
        exact nomatch d.symm.trans b6
      · rw [z, E.at_ q hq] at b3
        cases b3
        cases b6
    · intro z
      obtain ⟨og, es, ep, e, d, _⟩ := hns
      rw [z, E.at_ q hq] at e
      cases e
      cases d
  have start0 : Env0 P w K mg (hidT s1.heap H) callerA [] s1 H :=
    ⟨rfl, md, fun b o e => of_hidT e, Nat.le_of_eq (hidT_size _ _), trivial, fun b hb => absurd (show b ∈ ([] : List Addr) from hb) (by simp), hok, .of_eq hgn⟩
  refine codeAny_mono ((F _ KB (names hns) TB).run callerA [] s1 H ⟨[.ref a], []⟩ [.ref a] [.ref a] _ rfl hr start0 (hbind s1 (.ref a)) (.cons rfl .nil) hsp) fun r s2 h => ?_
  cases r with
  | error e => exact False.elim h
  | ok fl =>
    cases fl with
    | next => exact False.elim h
    | brk => exact False.elim h
    | cont => exact False.elim h
    | ret u =>
      obtain ⟨v, H2, os, bare, un, ok2, rv, q⟩ := h
      obtain rfl : v = .bl true := q
      obtain rfl : u = Value.bool true := rv
      have nox : ∀ b : Addr, b ∉ ([] : List Addr) := fun b => by simp
      have same : ∀ b o, b ∉ cs.map (·.2) → s1.heap.get? b = some o → s2.heap.get? b = some o := fun b o m e => by
        rcases only b with z | ⟨m2, _⟩ | ⟨_, ob, xs, z⟩
        · exact un.keep b o e z (nox b) (nox b)
        · exact absurd m2 m
        · obtain ⟨e1, _⟩ := hok b _ z
          obtain ⟨e2, _⟩ := ok2 b _ (un.frzs b ob _ z)
          rw [e] at e1
          cases e1
          exact e2
      have more : ∀ q ∈ cs, ∃ us : Array Value, s2.heap.get? q.2 = some { cls := .none, data := .fields us } := fun q hq => by
        obtain ⟨us, z⟩ := un.tbls q.2 #[] (tb q hq)
        exact ⟨_, ok2 q.2 _ z⟩
      refine ⟨rfl, { old := fun b o e => ?_, there := fun b o e => ?_ }, os, bare⟩
      · by_cases m : b ∈ cs.map (·.2)
        · obtain ⟨q, hq, rfl⟩ := List.mem_map.mp m
          obtain ⟨us, hu⟩ := more q hq
          rw [E.at_ q hq] at e
          cases e
          exact .inr (.inl ⟨((E.head q hq).tab (E.at_ q hq)).isCodeTable, rfl, #[], us, rfl, by rw [Array.empty_append]; exact hu⟩)
        · exact .inl (same b o m e)
      · by_cases m : b ∈ cs.map (·.2)
        · obtain ⟨q, hq, rfl⟩ := List.mem_map.mp m
          obtain ⟨us, hu⟩ := more q hq
          exact ⟨_, hu⟩
        · exact ⟨o, same b o m e⟩
theorem law_gt (KX : K.In s1.heap) (hns : s1.heap.Ns mainGlobals mg) (hb : s1.heap.Ns builtinsNs mb) (hbb : ∀ y : Str, y ≠ "__name__" → mb y = bootBuiltins y) (hlim : s1.heap.NoLimit) (hgn : s1.gens = #[]) (E : Empty K s1.heap cs)
    (bi : ∃ (m : Addr) (o : Obj), mg "__builtins__" = some (.ref m) ∧ m ≠ builtinsNs ∧ s1.heap.get? m = some o ∧ o.cls = .type "module" ∧ o.dict = some builtinsNs ∧ o.data = .plain)
    (ha : s1.heap.get? a = some { cls := .type "list", data := .seq vs.toArray }) (hi : IntsAre vs ns) (hl : ns.length ≤ sizeLine) (hr : Room k callerA)
    (F : ∀ base : Heap, K.In base → base.Ns mainGlobals mg → (∀ q ∈ cs, LamX.TabB base mg q.1 q.2) → FnG P w K mg base k fa fd [x] sp) (hbind : ∀ (s : Shared) (u : Value), BindsTo s fd ⟨[u], []⟩ [(x, u)])
    (hsp : ∀ H : Hp, (∀ q ∈ cs, H q.2 = some (.tbl #[])) → SqL K H a (ns.map V.int) → sp [.ref a] H (fun v _ => v = .bl true) E0) :
    codeAny (model P w) callerA (.call (.ref fa) ⟨[.ref a], []⟩) (fun r s2 => r = .ok (.ret (.bool true)) ∧ OldK s1.heap s2.heap ∧ s2.os = s1.os ∧ AllBare s2.gens) s1 := by
  have rv := vals_ints hi
  have lenV := hi.length
  have far : a ∉ cs.map (·.2) := fun m => by
    have z := E.of m
    rw [ha] at z
    cases z
  cases hk : K.lookup a with
  | some o =>
    have e := KX a o hk
    rw [ha] at e
    cases e
    let H : Hp := fun b => if b ∈ cs.map (·.2) then some (.tbl #[]) else none
    have yes : ∀ {b : Addr}, b ∈ cs.map (·.2) → H b = some (.tbl #[]) := fun m => if_pos m
    have no : ∀ {b : Addr}, b ∉ cs.map (·.2) → H b = none := fun m => if_neg m
    have tb : ∀ q ∈ cs, H q.2 = some (.tbl #[]) := fun q hq => yes (List.mem_map.mpr ⟨q, hq, rfl⟩)
    refine law_gt_at KX hns hb hbb hlim hgn E bi ha hr F hbind H tb (fun b => ?_) (hsp H tb (.inr ⟨_, vs.toArray, _, hk, rfl, rfl, rfl, by rw [List.size_toArray, lenV]; exact hl, by simpa using rv⟩)) (fun b u z => ?_) fun z => absurd (no far) z
    · by_cases m : b ∈ cs.map (·.2)
      · exact .inr (.inl ⟨m, yes m⟩)
      · exact .inl (no m)
    · by_cases m : b ∈ cs.map (·.2)
      · rw [yes m] at z
        cases z
        exact E.of m
      · rw [no m] at z
        cases z
  | none =>
    let o1 : Obj := { cls := .type "list", data := .seq vs.toArray }
    let H : Hp := fun b => if b = a then some (.frz o1 (.lst (ns.map V.int))) else if b ∈ cs.map (·.2) then some (.tbl #[]) else none
    have hA : H a = some (.frz o1 (.lst (ns.map V.int))) := if_pos rfl
    have yes : ∀ {b : Addr}, b ∈ cs.map (·.2) → H b = some (.tbl #[]) := fun {b} m => (if_neg (show ¬ b = a from fun z => far (by rw [← z]; exact m))).trans (if_pos m)
    have no : ∀ {b : Addr}, b ≠ a → b ∉ cs.map (·.2) → H b = none := fun n m => (if_neg n).trans (if_neg m)
    have tb : ∀ q ∈ cs, H q.2 = some (.tbl #[]) := fun q hq => yes (List.mem_map.mpr ⟨q, hq, rfl⟩)
    refine law_gt_at KX hns hb hbb hlim hgn E bi ha hr F hbind H tb (fun b => ?_) (hsp H tb (.inl (.inr ⟨_, hA⟩))) (fun b u z => ?_) fun _ => hk
    · by_cases n : b = a
      · exact .inr (.inr ⟨n, o1, _, n ▸ hA⟩)
      · by_cases m : b ∈ cs.map (·.2)
        · exact .inr (.inl ⟨m, yes m⟩)
        · exact .inl (no n m)
    · by_cases n : b = a
      · subst n
        rw [hA] at z
        cases z
        exact ⟨ha, by rw [List.length_map]; exact hl, vs, _, rv, ha⟩
      · by_cases m : b ∈ cs.map (·.2)
        · rw [yes m] at z
          cases z
          exact E.of m
        · rw [no n m] at z
          cases z
end
/-- what the end has to show of the law at the head's heap -/
def EndsAt (l : PySem.W.OpenLaw) (w : World) (K : PySem.W.Frag) (k n : Nat) (x : Str) (mg : Str → Option Value) (fa : Addr) (h : Heap) : Prop := ∃ (fd : FuncData) (cs : List (Addr × Addr)) (sp : Sp), Empty K h cs ∧ (∀ (s : Shared) (u : Value), BindsTo s fd ⟨[u], []⟩ [(x, u)]) ∧
  (∀ (H : Hp) (a : Addr) (ns : List Int), ns.length ≤ n → (∀ q ∈ cs, H q.2 = some (.tbl #[])) → SqL K H a (ns.map V.int) → sp [.ref a] H (fun v _ => v = .bl true) E0) ∧
  ∀ base : Heap, K.In base → base.Ns mainGlobals mg → (∀ q ∈ cs, LamX.TabB base mg q.1 q.2) → FnG l.prog w K mg base k fa fd [x] sp
theorem walk_gt {l : PySem.W.OpenLaw} {n k : Nat} {q : Program} {loose : List Str} {XP : (Str → Option Value) → Heap → Prop} {YP : World → Heap → Prop} {d : DefRec} {x : Str} (hn : l.most = some n) (hn2 : n ≤ sizeLine) (hdf : d.params.defaults = []) (hr : Room k callerA)
    (F : ∀ (w : World) (mg : Str → Option Value) (fa : Addr) (h : Heap), YP w h → h.Ns mainGlobals mg → mg d.name = some (.ref fa) → ∃ K : PySem.W.Frag, K.In h ∧ EndsAt l w K k n x mg fa h) :
    PySem.W.WalkO q loose XP YP l.row.toRowW d [] (fun f vs => PySem.call f vs) := by
  refine Att.attach_callB hn hdf fun w s0 s1 mg mb fa o pm cd doc a vs ns G Y ho hd hcd hmg hobj hints hlen hbits hgn => ?_
  obtain ⟨K, KX, fd, cs, sp, E, hb, hsp, hF⟩ := F w mg fa _ Y G.T.g hmg
  exact law_gt KX G.T.g G.T.b G.T.builtins G.T.nolimit hgn E G.T.bmain hobj hints (Nat.le_trans hlen hn2) hr hF hb fun H hH hS => hsp H a ns hlen hH hS
end L2
set_option Elab.async false
set_option linter.all false
set_option maxRecDepth 100000
set_option maxHeartbeats 4000000
namespace LJ
open PySem PySem.Spec L2 PySem.ErrV
open LamX (ExtN TabB)
open NdefX (NTab TabsN)
abbrev veT : List Value := [.type "ValueError", .type "Exception", .type "BaseException", .type "object"]
theorem bo_ve : BaseOk "ValueError" "ValueError.__new__" "ValueError.__init__" veT := ⟨PySem.F.excBase_ValueError, PySem.F.store_ValueError⟩
/-! ### what is asked of the written part, by one look -/
def clsLook (K : PySem.W.Frag) (C : Addr) (B : List Value) (nw : String) : Bool := match K.lookup C with
  | some ⟨.type "type", _, .cls cd, sl⟩ => (match cd.mro, sl.toList with
    | .ref D :: bm, [_, _, _, _, some (.builtin n), _] => D == C && n == nw && !cd.hasDel && cd.hasDict && rowOver B bm
    | _, _ => false)
  | _ => false
theorem clsLook_of {K : PySem.W.Frag} {C : Addr} {B : List Value} {nw : String} (h : clsLook K C B nw = true) : ∃ nm q N bs bm sn sub ab col dd k0 k1 k2 k3 k5,
    K.lookup C = some (excClassObj nm q C N bs bm true sn sub ab col dd k0 k1 k2 k3 k5 nw) ∧ rowOver B bm = true := by
  unfold clsLook at h
  split at h
  · rename_i dd cd sl ho
    split at h
    · rename_i D bm k0 k1 k2 k3 n k5 hm hs
      simp only [Bool.and_eq_true, beq_iff_eq, Bool.not_eq_true'] at h
      obtain ⟨⟨⟨⟨e1, e2⟩, e3⟩, e4⟩, e5⟩ := h
      obtain ⟨nm, bs, mro, ns, qn, hd, sn, sub, ab, col, del⟩ := cd
      dsimp only at hm e3 e4
      subst hm e1 e2 e3 e4
      have hl : sl = #[k0, k1, k2, k3, some (.builtin n), k5] := by
        obtain ⟨l⟩ := sl
        simp only at hs
        rw [hs]
      subst hl
      exact ⟨nm, qn, ns, bs, bm, sn, sub, ab, col, dd, k0, k1, k2, k3, k5, ho, e5⟩
    · cases h
  · cases h
def errLook (K : PySem.W.Frag) (C fI : Addr) (f : Str) (B : List Value) (nw : String) : Bool :=
  clsLook K C B nw && decide (PySem.W.findIn K (.ref C) "__setattr__" = some (some (.builtin "object.__setattr__"))) && decide (PySem.W.findIn K (.ref C) f = some none) &&
  decide (PySem.W.findIn K (.ref C) "__init__" = some (some (.ref fI))) && decide (PySem.W.typeIn K (.ref fI) = some (.type "function")) && PySem.W.keepIn K (.ref C)
theorem errLook_of {K : PySem.W.Frag} {mg : Str → Option Value} {x f : Str} {C fI : Addr} {B : List Value} {nw : String} (h : errLook K C fI f B nw = true) (g : mg x = some (.ref C))
    (fn : ∃ (qual : Str) (oc : Value) (od : Option Addr) (doc pm : Value) (an : Option Addr) (cdv ct : Value) (osl : Array (Option Value)) (p1 p2 q1 q2 q3 q4 : Pos),
      K.lookup fI = some ⟨oc, od, .func (PySem.W.fnOf "__init__" qual (eA f p1 p2) (eB f q1 q2 q3 q4) (eS f) .none .none doc pm an cdv ct), osl⟩ ∧ PySem.W.codeIn K cdv qual = true) : ErrC K mg x f C fI nw B := by
  unfold errLook at h
  simp only [Bool.and_eq_true, decide_eq_true_eq] at h
  obtain ⟨⟨⟨⟨⟨h1, h2⟩, h3⟩, h4⟩, h5⟩, h6⟩ := h
  exact ⟨g, clsLook_of h1, h2, h3, h4, h5, h6, fn⟩
def intLook (K : PySem.W.Frag) (x : Str) (n : Int) : Bool := match PySem.W.nsIn K mainGlobals x with
  | some (some (.int m _)) => m == n
  | _ => false
theorem intLook_of {K : PySem.W.Frag} {x : Str} {n : Int} {h0 : Heap} {mg : Str → Option Value} (X : K.In h0) (G : h0.Ns mainGlobals mg) (h : intLook K x n = true) : ∃ u, mg x = some u ∧ RelV (.int n) u := by
  unfold intLook at h
  split at h
  · rename_i m t e
    obtain rfl := beq_iff_eq.mp h
    exact ⟨_, PySem.W.mg_of X G e, ⟨t, rfl⟩⟩
  · cases h
def outer : List Str := ["divmod", "int", "len", "abs", "isinstance", "bool", "str", "tuple", "all", "enumerate", "range", "sorted", "zip", "dict", "list", "set", "repr", "max", "min"]
def outLook (K : PySem.W.Frag) : Bool := outer.all fun x => decide (PySem.W.nsIn K mainGlobals x = some none)
theorem outLook_of {K : PySem.W.Frag} {h0 : Heap} {mg : Str → Option Value} (X : K.In h0) (G : h0.Ns mainGlobals mg) (h : outLook K = true) (x : Str) (hx : x ∈ outer) : mg x = none :=
  PySem.W.mg_none_of X G (of_decide_eq_true (List.all_eq_true.mp h x hx))
def cLook (K : PySem.W.Frag) : Bool := intLook K "_MOST_LETTERS" 8 && intLook K "MOST_MACHINES" 6 && intLook K "MOST_CLEANINGS" 6 && intLook K "MOST_STUFFS" 3 && intLook K "MOST_PRODUCTS" 8 && intLook K "MOST_SHARE" 1000 && intLook K "MOST_AMOUNT" 1000000000000 && intLook K "_MOST_DIGITS" 4000
def fields : List Str := ["_machines", "_cleanings", "_stuffs", "_products", "_holds", "_keeps", "_limits", "_contents", "_text"]
/-- the class Works -/
def wLook (K : PySem.W.Frag) (C fI : Addr) : Bool := PySem.W.plainGet K C Str.empty && PySem.W.hasDictIn K C && PySem.W.plainOver K C && decide (PySem.W.findIn K (.ref C) "__setattr__" = some (some (.builtin "object.__setattr__"))) &&
  (fields.all fun f => decide (PySem.W.findIn K (.ref C) f = some none)) && PySem.W.makesIn K C && PySem.W.isFn K (.ref fI) && PySem.W.keepIn K (.ref C)
def mLook (K : PySem.W.Frag) (C : Addr) (ms : List (Str × Addr)) : Bool := ms.all fun q => decide (PySem.W.findIn K (.ref C) q.1 = some (some (.ref q.2))) && PySem.W.isFn K (.ref q.2) && PySem.W.keepIn K (.ref q.2)
theorem mLook_of {K : PySem.W.Frag} {C : Addr} {ms : List (Str × Addr)} (h : mLook K C ms = true) (n : Str) (g : Addr) (m : (n, g) ∈ ms) : Meth K C n g := by
  have z := List.all_eq_true.mp h _ m
  simp only [Bool.and_eq_true, decide_eq_true_eq] at z
  exact ⟨z.1.1, z.1.2, z.2⟩
/-- a static method of Works, by the class -/
def sLook (K : PySem.W.Frag) (C : Addr) : Bool := PySem.W.readsIn K C (.type "type") && decide (PySem.W.specialIn K (.ref C) "__getattribute__" = some (some (.builtin "type.__getattribute__"))) && decide (PySem.W.typeIn K (.ref C) = some (.type "type"))
/-- an error with one field -/
def eLook (K : PySem.W.Frag) (C fI : Addr) (f : Str) : Bool := errLook K C fI f veT "ValueError.__new__" && decide (PySem.W.findIn K (.ref C) "__getattribute__" = some (some (.builtin "BaseException.__getattribute__"))) && decide (PySem.W.findIn K (.ref C) "__getattr__" = some none) &&
  decide (PySem.W.subIn K (.ref C) (.type "BaseException") = some true) && PySem.W.hasDictIn K C && decide (PySem.W.typeIn K (.ref C) = some (.type "type"))
theorem eLook_of {K : PySem.W.Frag} {mg : Str → Option Value} {x f : Str} {C fI : Addr} (h : eLook K C fI f = true) (g : mg x = some (.ref C))
    (fn : ∃ (qual : Str) (oc : Value) (od : Option Addr) (doc pm : Value) (an : Option Addr) (cdv ct : Value) (osl : Array (Option Value)) (p1 p2 q1 q2 q3 q4 : Pos),
      K.lookup fI = some ⟨oc, od, .func (PySem.W.fnOf "__init__" qual (eA f p1 p2) (eB f q1 q2 q3 q4) (eS f) .none .none doc pm an cdv ct), osl⟩ ∧ PySem.W.codeIn K cdv qual = true) : ErG K mg x f C := by
  unfold eLook at h
  simp only [Bool.and_eq_true, decide_eq_true_eq] at h
  obtain ⟨⟨⟨⟨⟨u1, u2⟩, u3⟩, u4⟩, u5⟩, u6⟩ := h
  exact ⟨⟨fI, veT, errLook_of u1 g fn, bo_ve⟩, u4, u6, ⟨u2, u3, u4, u5⟩⟩
theorem er1_of {K : PySem.W.Frag} {mg : Str → Option Value} {x : Str} {C : Addr} (h : ErG K mg x "index" C) : Er1 K mg x C := ⟨h.c, h.exC, h.tyC, h.xf⟩
def ceOf (C0 C1 C2 C3 : Addr) : Nat → Addr
  | 0 => C0
  | 1 => C1
  | 2 => C2
  | _ => C3
/-- which clause fits which error -/
def fLook (K : PySem.W.Frag) (CT CV C0 C1 C2 C3 : Addr) : Bool := decide (PySem.W.exmOne K (.ref CT) (.ref CT) = some true) && decide (PySem.W.exmOne K (.ref CT) (.ref CV) = some true) && decide (PySem.W.exmOne K (.ref C0) (.ref CV) = some true) && decide (PySem.W.exmOne K (.ref C1) (.ref CV) = some true) && decide (PySem.W.exmOne K (.ref C2) (.ref CV) = some true) && decide (PySem.W.exmOne K (.ref C3) (.ref CV) = some true)
/-- tables of code -/
def tLook (K : PySem.W.Frag) (cs : List (Addr × Addr)) : Bool := cs.all fun q => PySem.W.codeHdIn K q.1 q.2 && (K.lookup q.2).isNone
/-- a def's code -/
def codLook (K : PySem.W.Frag) (f c : Addr) : Bool := match K.lookup f with
  | some ⟨_, _, .func fd, _⟩ => (match fd.code with
    | .ref d => d == c
    | _ => false)
  | _ => false
theorem codLook_of {K : PySem.W.Frag} {f c : Addr} {oc : Value} {od : Option Addr} {fd : FuncData} {sl : Array (Option Value)} (h : codLook K f c = true) (l : K.lookup f = some ⟨oc, od, .func fd, sl⟩) : fd.code = .ref c := by
  unfold codLook at h
  rw [l] at h
  have h2 : (match fd.code with
    | .ref d => d == c
    | _ => false) = true := h
  split at h2
  · rename_i d e
    rw [e, beq_iff_eq.mp h2]
  · cases h2

def inClass : Stmt → Nat → Stmt
  | st, i => (clsBody st).getD i (.Pass ⟨0, 0, 0, 0⟩)
theorem all_mk {l : PySem.W.OpenLaw} {w : World} {K : PySem.W.Frag} {h : Heap} {mg : Str → Option Value} {fa C CT CV C0 C1 C2 C3 c1 P1 : Addr} (X : K.In h) (G : h.Ns mainGlobals mg) (hfa : mg "law" = some (.ref fa)) {ts : List Addr} (TS : ∀ p ∈ ts, h.get? p = some (PySem.W.tabObj #[]))
    {ocint kVint dcint pmint cdint ctint : Value} {odint anint : Option Addr} {slint : Array (Option Value)} {gint : Addr}
    {ocnam kVnam dcnam pmnam cdnam ctnam : Value} {odnam annam : Option Addr} {slnam : Array (Option Value)} {gnam : Addr}
    {ocnum kVnum dcnum pmnum cdnum ctnum : Value} {odnum annum : Option Addr} {slnum : Array (Option Value)} {gnum : Addr}
    {ocby kVby dcby pmby cdby ctby : Value} {odby anby : Option Addr} {slby : Array (Option Value)} {gby : Addr}
    {occhk kVchk dcchk pmchk ctchk : Value} {odchk anchk : Option Addr} {slchk : Array (Option Value)} {gchk : Addr}
    {ocfst kVfst dcfst pmfst cdfst ctfst : Value} {odfst anfst : Option Addr} {slfst : Array (Option Value)} {gfst : Addr}
    {ocshr kVshr dcshr pmshr cdshr ctshr : Value} {odshr anshr : Option Addr} {slshr : Array (Option Value)} {gshr : Addr}
    {oclim kVlim dclim pmlim cdlim ctlim : Value} {odlim anlim : Option Addr} {sllim : Array (Option Value)} {glim : Addr}
    {occon kVcon dccon pmcon cdcon ctcon : Value} {odcon ancon : Option Addr} {slcon : Array (Option Value)} {gcon : Addr}
    {ocnmd kVnmd dcnmd pmnmd cdnmd ctnmd : Value} {odnmd annmd : Option Addr} {slnmd : Array (Option Value)} {gnmd : Addr}
    {ocbnd kVbnd dcbnd pmbnd cdbnd ctbnd : Value} {odbnd anbnd : Option Addr} {slbnd : Array (Option Value)} {gbnd : Addr}
    {octxt kVtxt dctxt pmtxt cdtxt cttxt : Value} {odtxt antxt : Option Addr} {sltxt : Array (Option Value)} {gtxt : Addr}
    {oclin kVlin dclin pmlin cdlin ctlin : Value} {odlin anlin : Option Addr} {sllin : Array (Option Value)} {glin : Addr}
    {ocrwk kVrwk dcrwk pmrwk cdrwk ctrwk : Value} {odrwk anrwk : Option Addr} {slrwk : Array (Option Value)} {grwk : Addr}
    {ocrrw kVrrw dcrrw pmrrw cdrrw ctrrw : Value} {odrrw anrrw : Option Addr} {slrrw : Array (Option Value)} {grrw : Addr}
    {ocrpr kVrpr dcrpr pmrpr cdrpr ctrpr : Value} {odrpr anrpr : Option Addr} {slrpr : Array (Option Value)} {grpr : Addr}
    {ocdip kVdip dcdip pmdip cddip ctdip : Value} {oddip andip : Option Addr} {sldip : Array (Option Value)} {gdip : Addr}
    {ocone kVone dcone pmone cdone ctone : Value} {odone anone : Option Addr} {slone : Array (Option Value)} {gone : Addr}
    {oclab kVlab dclab pmlab cdlab ctlab : Value} {odlab anlab : Option Addr} {sllab : Array (Option Value)} {glab : Addr}
    {oclsh kVlsh dclsh pmlsh cdlsh ctlsh : Value} {odlsh anlsh : Option Addr} {sllsh : Array (Option Value)} {glsh : Addr}
    {ocins kVins dcins pmins cdins ctins : Value} {odins anins : Option Addr} {slins : Array (Option Value)} {gins : Addr}
    {ocwor kVwor dcwor pmwor cdwor ctwor : Value} {odwor anwor : Option Addr} {slwor : Array (Option Value)} {gwor : Addr}
    {ocjar kVjar dcjar pmjar cdjar ctjar : Value} {odjar anjar : Option Addr} {sljar : Array (Option Value)} {gjar : Addr}
    {oclnm kVlnm dclnm pmlnm cdlnm ctlnm : Value} {odlnm anlnm : Option Addr} {sllnm : Array (Option Value)} {glnm : Addr}
    {oclfg kVlfg dclfg pmlfg cdlfg ctlfg : Value} {odlfg anlfg : Option Addr} {sllfg : Array (Option Value)} {glfg : Addr}
    {oclpr kVlpr dclpr pmlpr cdlpr ctlpr : Value} {odlpr anlpr : Option Addr} {sllpr : Array (Option Value)} {glpr : Addr}
    {oclln kVlln dclln pmlln cdlln ctlln : Value} {odlln anlln : Option Addr} {sllln : Array (Option Value)} {glln : Addr}
    {oclpg kVlpg dclpg pmlpg cdlpg ctlpg : Value} {odlpg anlpg : Option Addr} {sllpg : Array (Option Value)} {glpg : Addr}
    {oclbe kVlbe dclbe pmlbe cdlbe ctlbe : Value} {odlbe anlbe : Option Addr} {sllbe : Array (Option Value)} {glbe : Addr}
    {ocpag kVpag dcpag pmpag cdpag ctpag : Value} {odpag anpag : Option Addr} {slpag : Array (Option Value)} {gpag : Addr}
    {oclrd kVlrd dclrd pmlrd cdlrd ctlrd : Value} {odlrd anlrd : Option Addr} {sllrd : Array (Option Value)} {glrd : Addr}
    {ocrig kVrig dcrig pmrig cdrig ctrig : Value} {odrig anrig : Option Addr} {slrig : Array (Option Value)} {grig : Addr}
    {oclaw kVlaw dclaw pmlaw cdlaw ctlaw : Value} {odlaw anlaw : Option Addr} {sllaw : Array (Option Value)} {glaw : Addr}
    {ocini kVini dcini pmini cdini ctini : Value} {odini anini : Option Addr} {slini : Array (Option Value)} {gini : Addr}
    {ocstr kVstr dcstr pmstr cdstr ctstr : Value} {odstr anstr : Option Addr} {slstr : Array (Option Value)} {gstr : Addr}
    {ocrd kVrd dcrd pmrd cdrd ctrd : Value} {odrd anrd : Option Addr} {slrd : Array (Option Value)} {grd : Addr} {qrd : Addr} {restrd : List Value}
    {ocuT dcuT pmuT cduT ctuT : Value} {oduT anuT : Option Addr} {sluT : Array (Option Value)} {fET : Addr}
    {ocu0 dcu0 pmu0 cdu0 ctu0 : Value} {odu0 anu0 : Option Addr} {slu0 : Array (Option Value)} {fE0 : Addr}
    {ocu1 dcu1 pmu1 cdu1 ctu1 : Value} {odu1 anu1 : Option Addr} {slu1 : Array (Option Value)} {fE1 : Addr}
    {ocu2 dcu2 pmu2 cdu2 ctu2 : Value} {odu2 anu2 : Option Addr} {slu2 : Array (Option Value)} {fE2 : Addr}
    {ocu3 dcu3 pmu3 cdu3 ctu3 : Value} {odu3 anu3 : Option Addr} {slu3 : Array (Option Value)} {fE3 : Addr}
    (aint : PySem.W.nsIn K mainGlobals "is_integer" = some (some (.ref gint)))
    (lint : K.lookup gint = some ⟨ocint, odint, .func (PySem.W.fnOf "is_integer" "is_integer" (defArgs (top 4)) (defBody (top 4)) (defScope (top 4)) .none kVint dcint pmint anint cdint ctint), slint⟩)
    (dint : PySem.W.codeIn K cdint "is_integer" = true)
    (kint : PySem.W.keepIn K (.ref gint) = true)
    (anam : PySem.W.nsIn K mainGlobals "is_name" = some (some (.ref gnam)))
    (lnam : K.lookup gnam = some ⟨ocnam, odnam, .func (PySem.W.fnOf "is_name" "is_name" (defArgs (top 5)) (defBody (top 5)) (defScope (top 5)) .none kVnam dcnam pmnam annam cdnam ctnam), slnam⟩)
    (dnam : PySem.W.codeIn K cdnam "is_name" = true)
    (knam : PySem.W.keepIn K (.ref gnam) = true)
    (anum : PySem.W.nsIn K mainGlobals "read_number" = some (some (.ref gnum)))
    (lnum : K.lookup gnum = some ⟨ocnum, odnum, .func (PySem.W.fnOf "read_number" "read_number" (defArgs (top 6)) (defBody (top 6)) (defScope (top 6)) .none kVnum dcnum pmnum annum cdnum ctnum), slnum⟩)
    (dnum : PySem.W.codeIn K cdnum "read_number" = true)
    (knum : PySem.W.keepIn K (.ref gnum) = true)
    (aby : PySem.W.nsIn K mainGlobals "_by_stuff" = some (some (.ref gby)))
    (lby : K.lookup gby = some ⟨ocby, odby, .func (PySem.W.fnOf "_by_stuff" "_by_stuff" (defArgs (top 25)) (defBody (top 25)) (defScope (top 25)) .none kVby dcby pmby anby cdby ctby), slby⟩)
    (dby : PySem.W.codeIn K cdby "_by_stuff" = true)
    (kby : PySem.W.keepIn K (.ref gby) = true)
    (achk : PySem.W.nsIn K mainGlobals "_check" = some (some (.ref gchk)))
    (lchk : K.lookup gchk = some ⟨occhk, odchk, .func (PySem.W.fnOf "_check" "_check" (defArgs (top 26)) (defBody (top 26)) (defScope (top 26)) .none kVchk dcchk pmchk anchk (.ref c1) ctchk), slchk⟩)
    (dchk : PySem.W.codeIn K (.ref c1) "_check" = true)
    (kchk : PySem.W.keepIn K (.ref gchk) = true)
    (afst : PySem.W.nsIn K mainGlobals "_first_wrong" = some (some (.ref gfst)))
    (lfst : K.lookup gfst = some ⟨ocfst, odfst, .func (PySem.W.fnOf "_first_wrong" "_first_wrong" (defArgs (top 27)) (defBody (top 27)) (defScope (top 27)) .none kVfst dcfst pmfst anfst cdfst ctfst), slfst⟩)
    (dfst : PySem.W.codeIn K cdfst "_first_wrong" = true)
    (kfst : PySem.W.keepIn K (.ref gfst) = true)
    (ashr : PySem.W.nsIn K mainGlobals "_has_shares" = some (some (.ref gshr)))
    (lshr : K.lookup gshr = some ⟨ocshr, odshr, .func (PySem.W.fnOf "_has_shares" "_has_shares" (defArgs (top 28)) (defBody (top 28)) (defScope (top 28)) .none kVshr dcshr pmshr anshr cdshr ctshr), slshr⟩)
    (dshr : PySem.W.codeIn K cdshr "_has_shares" = true)
    (kshr : PySem.W.keepIn K (.ref gshr) = true)
    (alim : PySem.W.nsIn K mainGlobals "_has_limit" = some (some (.ref glim)))
    (llim : K.lookup glim = some ⟨oclim, odlim, .func (PySem.W.fnOf "_has_limit" "_has_limit" (defArgs (top 29)) (defBody (top 29)) (defScope (top 29)) .none kVlim dclim pmlim anlim cdlim ctlim), sllim⟩)
    (dlim : PySem.W.codeIn K cdlim "_has_limit" = true)
    (klim : PySem.W.keepIn K (.ref glim) = true)
    (acon : PySem.W.nsIn K mainGlobals "_has_contents" = some (some (.ref gcon)))
    (lcon : K.lookup gcon = some ⟨occon, odcon, .func (PySem.W.fnOf "_has_contents" "_has_contents" (defArgs (top 30)) (defBody (top 30)) (defScope (top 30)) .none kVcon dccon pmcon ancon cdcon ctcon), slcon⟩)
    (dcon : PySem.W.codeIn K cdcon "_has_contents" = true)
    (kcon : PySem.W.keepIn K (.ref gcon) = true)
    (anmd : PySem.W.nsIn K mainGlobals "_is_named" = some (some (.ref gnmd)))
    (lnmd : K.lookup gnmd = some ⟨ocnmd, odnmd, .func (PySem.W.fnOf "_is_named" "_is_named" (defArgs (top 31)) (defBody (top 31)) (defScope (top 31)) .none kVnmd dcnmd pmnmd annmd cdnmd ctnmd), slnmd⟩)
    (dnmd : PySem.W.codeIn K cdnmd "_is_named" = true)
    (knmd : PySem.W.keepIn K (.ref gnmd) = true)
    (abnd : PySem.W.nsIn K mainGlobals "_are_bounds" = some (some (.ref gbnd)))
    (lbnd : K.lookup gbnd = some ⟨ocbnd, odbnd, .func (PySem.W.fnOf "_are_bounds" "_are_bounds" (defArgs (top 32)) (defBody (top 32)) (defScope (top 32)) .none kVbnd dcbnd pmbnd anbnd cdbnd ctbnd), slbnd⟩)
    (dbnd : PySem.W.codeIn K cdbnd "_are_bounds" = true)
    (kbnd : PySem.W.keepIn K (.ref gbnd) = true)
    (atxt : PySem.W.nsIn K mainGlobals "_text_of" = some (some (.ref gtxt)))
    (ltxt : K.lookup gtxt = some ⟨octxt, odtxt, .func (PySem.W.fnOf "_text_of" "_text_of" (defArgs (top 33)) (defBody (top 33)) (defScope (top 33)) .none kVtxt dctxt pmtxt antxt cdtxt cttxt), sltxt⟩)
    (dtxt : PySem.W.codeIn K cdtxt "_text_of" = true)
    (ktxt : PySem.W.keepIn K (.ref gtxt) = true)
    (alin : PySem.W.nsIn K mainGlobals "_product_line" = some (some (.ref glin)))
    (llin : K.lookup glin = some ⟨oclin, odlin, .func (PySem.W.fnOf "_product_line" "_product_line" (defArgs (top 34)) (defBody (top 34)) (defScope (top 34)) .none kVlin dclin pmlin anlin cdlin ctlin), sllin⟩)
    (dlin : PySem.W.codeIn K cdlin "_product_line" = true)
    (klin : PySem.W.keepIn K (.ref glin) = true)
    (arwk : PySem.W.nsIn K mainGlobals "_read_works" = some (some (.ref grwk)))
    (lrwk : K.lookup grwk = some ⟨ocrwk, odrwk, .func (PySem.W.fnOf "_read_works" "_read_works" (defArgs (top 35)) (defBody (top 35)) (defScope (top 35)) .none kVrwk dcrwk pmrwk anrwk cdrwk ctrwk), slrwk⟩)
    (drwk : PySem.W.codeIn K cdrwk "_read_works" = true)
    (krwk : PySem.W.keepIn K (.ref grwk) = true)
    (arrw : PySem.W.nsIn K mainGlobals "_read_row" = some (some (.ref grrw)))
    (lrrw : K.lookup grrw = some ⟨ocrrw, odrrw, .func (PySem.W.fnOf "_read_row" "_read_row" (defArgs (top 36)) (defBody (top 36)) (defScope (top 36)) .none kVrrw dcrrw pmrrw anrrw cdrrw ctrrw), slrrw⟩)
    (drrw : PySem.W.codeIn K cdrrw "_read_row" = true)
    (krrw : PySem.W.keepIn K (.ref grrw) = true)
    (arpr : PySem.W.nsIn K mainGlobals "_read_pair" = some (some (.ref grpr)))
    (lrpr : K.lookup grpr = some ⟨ocrpr, odrpr, .func (PySem.W.fnOf "_read_pair" "_read_pair" (defArgs (top 37)) (defBody (top 37)) (defScope (top 37)) .none kVrpr dcrpr pmrpr anrpr cdrpr ctrpr), slrpr⟩)
    (drpr : PySem.W.codeIn K cdrpr "_read_pair" = true)
    (krpr : PySem.W.keepIn K (.ref grpr) = true)
    (adip : PySem.W.nsIn K mainGlobals "_law_dip" = some (some (.ref gdip)))
    (ldip : K.lookup gdip = some ⟨ocdip, oddip, .func (PySem.W.fnOf "_law_dip" "_law_dip" (defArgs (top 39)) (defBody (top 39)) (defScope (top 39)) .none kVdip dcdip pmdip andip cddip ctdip), sldip⟩)
    (ddip : PySem.W.codeIn K cddip "_law_dip" = true)
    (kdip : PySem.W.keepIn K (.ref gdip) = true)
    (aone : PySem.W.nsIn K mainGlobals "_law_one_of" = some (some (.ref gone)))
    (lone : K.lookup gone = some ⟨ocone, odone, .func (PySem.W.fnOf "_law_one_of" "_law_one_of" (defArgs (top 40)) (defBody (top 40)) (defScope (top 40)) .none kVone dcone pmone anone cdone ctone), slone⟩)
    (done : PySem.W.codeIn K cdone "_law_one_of" = true)
    (kone : PySem.W.keepIn K (.ref gone) = true)
    (alab : PySem.W.nsIn K mainGlobals "_law_labels" = some (some (.ref glab)))
    (llab : K.lookup glab = some ⟨oclab, odlab, .func (PySem.W.fnOf "_law_labels" "_law_labels" (defArgs (top 41)) (defBody (top 41)) (defScope (top 41)) .none kVlab dclab pmlab anlab cdlab ctlab), sllab⟩)
    (dlab : PySem.W.codeIn K cdlab "_law_labels" = true)
    (klab : PySem.W.keepIn K (.ref glab) = true)
    (alsh : PySem.W.nsIn K mainGlobals "_law_shares" = some (some (.ref glsh)))
    (llsh : K.lookup glsh = some ⟨oclsh, odlsh, .func (PySem.W.fnOf "_law_shares" "_law_shares" (defArgs (top 42)) (defBody (top 42)) (defScope (top 42)) .none kVlsh dclsh pmlsh anlsh cdlsh ctlsh), sllsh⟩)
    (dlsh : PySem.W.codeIn K cdlsh "_law_shares" = true)
    (klsh : PySem.W.keepIn K (.ref glsh) = true)
    (ains : PySem.W.nsIn K mainGlobals "_law_inside" = some (some (.ref gins)))
    (lins : K.lookup gins = some ⟨ocins, odins, .func (PySem.W.fnOf "_law_inside" "_law_inside" (defArgs (top 43)) (defBody (top 43)) (defScope (top 43)) .none kVins dcins pmins anins cdins ctins), slins⟩)
    (dins : PySem.W.codeIn K cdins "_law_inside" = true)
    (kins : PySem.W.keepIn K (.ref gins) = true)
    (awor : PySem.W.nsIn K mainGlobals "_law_world" = some (some (.ref gwor)))
    (lwor : K.lookup gwor = some ⟨ocwor, odwor, .func (PySem.W.fnOf "_law_world" "_law_world" (defArgs (top 44)) (defBody (top 44)) (defScope (top 44)) .none kVwor dcwor pmwor anwor cdwor ctwor), slwor⟩)
    (dwor : PySem.W.codeIn K cdwor "_law_world" = true)
    (kwor : PySem.W.keepIn K (.ref gwor) = true)
    (ajar : PySem.W.nsIn K mainGlobals "_law_jar" = some (some (.ref gjar)))
    (ljar : K.lookup gjar = some ⟨ocjar, odjar, .func (PySem.W.fnOf "_law_jar" "_law_jar" (defArgs (top 45)) (defBody (top 45)) (defScope (top 45)) .none kVjar dcjar pmjar anjar cdjar ctjar), sljar⟩)
    (djar : PySem.W.codeIn K cdjar "_law_jar" = true)
    (kjar : PySem.W.keepIn K (.ref gjar) = true)
    (alnm : PySem.W.nsIn K mainGlobals "_law_is_name" = some (some (.ref glnm)))
    (llnm : K.lookup glnm = some ⟨oclnm, odlnm, .func (PySem.W.fnOf "_law_is_name" "_law_is_name" (defArgs (top 46)) (defBody (top 46)) (defScope (top 46)) .none kVlnm dclnm pmlnm anlnm cdlnm ctlnm), sllnm⟩)
    (dlnm : PySem.W.codeIn K cdlnm "_law_is_name" = true)
    (klnm : PySem.W.keepIn K (.ref glnm) = true)
    (alfg : PySem.W.nsIn K mainGlobals "_law_figure" = some (some (.ref glfg)))
    (llfg : K.lookup glfg = some ⟨oclfg, odlfg, .func (PySem.W.fnOf "_law_figure" "_law_figure" (defArgs (top 47)) (defBody (top 47)) (defScope (top 47)) .none kVlfg dclfg pmlfg anlfg cdlfg ctlfg), sllfg⟩)
    (dlfg : PySem.W.codeIn K cdlfg "_law_figure" = true)
    (klfg : PySem.W.keepIn K (.ref glfg) = true)
    (alpr : PySem.W.nsIn K mainGlobals "_law_is_pair" = some (some (.ref glpr)))
    (llpr : K.lookup glpr = some ⟨oclpr, odlpr, .func (PySem.W.fnOf "_law_is_pair" "_law_is_pair" (defArgs (top 48)) (defBody (top 48)) (defScope (top 48)) .none kVlpr dclpr pmlpr anlpr cdlpr ctlpr), sllpr⟩)
    (dlpr : PySem.W.codeIn K cdlpr "_law_is_pair" = true)
    (klpr : PySem.W.keepIn K (.ref glpr) = true)
    (alln : PySem.W.nsIn K mainGlobals "_law_is_line" = some (some (.ref glln)))
    (llln : K.lookup glln = some ⟨oclln, odlln, .func (PySem.W.fnOf "_law_is_line" "_law_is_line" (defArgs (top 49)) (defBody (top 49)) (defScope (top 49)) .none kVlln dclln pmlln anlln cdlln ctlln), sllln⟩)
    (dlln : PySem.W.codeIn K cdlln "_law_is_line" = true)
    (klln : PySem.W.keepIn K (.ref glln) = true)
    (alpg : PySem.W.nsIn K mainGlobals "_law_is_page" = some (some (.ref glpg)))
    (llpg : K.lookup glpg = some ⟨oclpg, odlpg, .func (PySem.W.fnOf "_law_is_page" "_law_is_page" (defArgs (top 50)) (defBody (top 50)) (defScope (top 50)) .none kVlpg dclpg pmlpg anlpg cdlpg ctlpg), sllpg⟩)
    (dlpg : PySem.W.codeIn K cdlpg "_law_is_page" = true)
    (klpg : PySem.W.keepIn K (.ref glpg) = true)
    (albe : PySem.W.nsIn K mainGlobals "_law_bent" = some (some (.ref glbe)))
    (llbe : K.lookup glbe = some ⟨oclbe, odlbe, .func (PySem.W.fnOf "_law_bent" "_law_bent" (defArgs (top 51)) (defBody (top 51)) (defScope (top 51)) .none kVlbe dclbe pmlbe anlbe cdlbe ctlbe), sllbe⟩)
    (dlbe : PySem.W.codeIn K cdlbe "_law_bent" = true)
    (klbe : PySem.W.keepIn K (.ref glbe) = true)
    (apag : PySem.W.nsIn K mainGlobals "_law_page" = some (some (.ref gpag)))
    (lpag : K.lookup gpag = some ⟨ocpag, odpag, .func (PySem.W.fnOf "_law_page" "_law_page" (defArgs (top 52)) (defBody (top 52)) (defScope (top 52)) .none kVpag dcpag pmpag anpag cdpag ctpag), slpag⟩)
    (dpag : PySem.W.codeIn K cdpag "_law_page" = true)
    (kpag : PySem.W.keepIn K (.ref gpag) = true)
    (alrd : PySem.W.nsIn K mainGlobals "_law_read" = some (some (.ref glrd)))
    (llrd : K.lookup glrd = some ⟨oclrd, odlrd, .func (PySem.W.fnOf "_law_read" "_law_read" (defArgs (top 53)) (defBody (top 53)) (defScope (top 53)) .none kVlrd dclrd pmlrd anlrd cdlrd ctlrd), sllrd⟩)
    (dlrd : PySem.W.codeIn K cdlrd "_law_read" = true)
    (klrd : PySem.W.keepIn K (.ref glrd) = true)
    (arig : PySem.W.nsIn K mainGlobals "_law_right" = some (some (.ref grig)))
    (lrig : K.lookup grig = some ⟨ocrig, odrig, .func (PySem.W.fnOf "_law_right" "_law_right" (defArgs (top 54)) (defBody (top 54)) (defScope (top 54)) .none kVrig dcrig pmrig anrig cdrig ctrig), slrig⟩)
    (drig : PySem.W.codeIn K cdrig "_law_right" = true)
    (krig : PySem.W.keepIn K (.ref grig) = true)
    (alaw : PySem.W.nsIn K mainGlobals "law" = some (some (.ref glaw)))
    (llaw : K.lookup glaw = some ⟨oclaw, odlaw, .func (PySem.W.fnOf "law" "law" (defArgs (top 55)) (defBody (top 55)) (defScope (top 55)) .none kVlaw dclaw pmlaw anlaw cdlaw ctlaw), sllaw⟩)
    (dlaw : PySem.W.codeIn K cdlaw "law" = true)
    (klaw : PySem.W.keepIn K (.ref glaw) = true)
    (aW : PySem.W.nsIn K mainGlobals "Works" = some (some (.ref C)))
    (aV : PySem.W.nsIn K mainGlobals "WrongValue" = some (some (.ref CV)))
    (aini : PySem.W.findIn K (.ref C) "__init__" = some (some (.ref gini)))
    (lini : K.lookup gini = some ⟨ocini, odini, .func (PySem.W.fnOf "__init__" "Works.__init__" (defArgs (meth 0)) (defBody (meth 0)) (defScope (meth 0)) .none kVini dcini pmini anini cdini ctini), slini⟩)
    (dini : PySem.W.codeIn K cdini "Works.__init__" = true)
    (kini : PySem.W.keepIn K (.ref gini) = true)
    (astr : PySem.W.findIn K (.ref C) "__str__" = some (some (.ref gstr)))
    (lstr : K.lookup gstr = some ⟨ocstr, odstr, .func (PySem.W.fnOf "__str__" "Works.__str__" (defArgs (meth 12)) (defBody (meth 12)) (defScope (meth 12)) .none kVstr dcstr pmstr anstr cdstr ctstr), slstr⟩)
    (dstr : PySem.W.codeIn K cdstr "Works.__str__" = true)
    (kstr : PySem.W.keepIn K (.ref gstr) = true)
    (ard : PySem.W.findCls K (.ref C) (.type "type") "read" = some (PySem.W.CFound.get (.builtin "staticmethod.__get__") (.ref qrd) .none (.ref C)))
    (rrd : PySem.W.recIn K qrd "staticmethod" = some (.ref grd :: restrd))
    (lrd_ : K.lookup grd = some ⟨ocrd, odrd, .func (PySem.W.fnOf "read" "Works.read" (defArgs (meth 1)) (defBody (meth 1)) (defScope (meth 1)) .none kVrd dcrd pmrd anrd cdrd ctrd), slrd⟩)
    (drd : PySem.W.codeIn K cdrd "Works.read" = true)
    (krd : PySem.W.keepIn K (.ref grd) = true)
    (aET : PySem.W.nsIn K mainGlobals "InvalidText" = some (some (.ref CT)))
    (iET : PySem.W.findIn K (.ref CT) "__init__" = some (some (.ref fET)))
    (lET : K.lookup fET = some ⟨ocuT, oduT, .func (PySem.W.fnOf "__init__" "InvalidText.__init__" (defArgs (inClass (top 9) 0)) (defBody (inClass (top 9) 0)) (defScope (inClass (top 9) 0)) .none .none dcuT pmuT anuT cduT ctuT), sluT⟩)
    (dET : PySem.W.codeIn K cduT "InvalidText.__init__" = true)
    (aE0 : PySem.W.nsIn K mainGlobals "InvalidMachines" = some (some (.ref C0)))
    (iE0 : PySem.W.findIn K (.ref C0) "__init__" = some (some (.ref fE0)))
    (lE0 : K.lookup fE0 = some ⟨ocu0, odu0, .func (PySem.W.fnOf "__init__" "InvalidMachines.__init__" (defArgs (inClass (top 10) 0)) (defBody (inClass (top 10) 0)) (defScope (inClass (top 10) 0)) .none .none dcu0 pmu0 anu0 cdu0 ctu0), slu0⟩)
    (dE0 : PySem.W.codeIn K cdu0 "InvalidMachines.__init__" = true)
    (aE1 : PySem.W.nsIn K mainGlobals "InvalidCleanings" = some (some (.ref C1)))
    (iE1 : PySem.W.findIn K (.ref C1) "__init__" = some (some (.ref fE1)))
    (lE1 : K.lookup fE1 = some ⟨ocu1, odu1, .func (PySem.W.fnOf "__init__" "InvalidCleanings.__init__" (defArgs (inClass (top 11) 0)) (defBody (inClass (top 11) 0)) (defScope (inClass (top 11) 0)) .none .none dcu1 pmu1 anu1 cdu1 ctu1), slu1⟩)
    (dE1 : PySem.W.codeIn K cdu1 "InvalidCleanings.__init__" = true)
    (aE2 : PySem.W.nsIn K mainGlobals "InvalidStuffs" = some (some (.ref C2)))
    (iE2 : PySem.W.findIn K (.ref C2) "__init__" = some (some (.ref fE2)))
    (lE2 : K.lookup fE2 = some ⟨ocu2, odu2, .func (PySem.W.fnOf "__init__" "InvalidStuffs.__init__" (defArgs (inClass (top 12) 0)) (defBody (inClass (top 12) 0)) (defScope (inClass (top 12) 0)) .none .none dcu2 pmu2 anu2 cdu2 ctu2), slu2⟩)
    (dE2 : PySem.W.codeIn K cdu2 "InvalidStuffs.__init__" = true)
    (aE3 : PySem.W.nsIn K mainGlobals "InvalidProducts" = some (some (.ref C3)))
    (iE3 : PySem.W.findIn K (.ref C3) "__init__" = some (some (.ref fE3)))
    (lE3 : K.lookup fE3 = some ⟨ocu3, odu3, .func (PySem.W.fnOf "__init__" "InvalidProducts.__init__" (defArgs (inClass (top 13) 0)) (defBody (inClass (top 13) 0)) (defScope (inClass (top 13) 0)) .none .none dcu3 pmu3 anu3 cdu3 ctu3), slu3⟩)
    (dE3 : PySem.W.codeIn K cdu3 "InvalidProducts.__init__" = true)
    (outL : outLook K = true)
    (cL : cLook K = true)
    (wL : wLook K C gini = true)
    (mL : mLook K C [("__str__", gstr)] = true)
    (sL : sLook K C = true)
    (eLT : eLook K CT fET "given" = true)
    (eL0 : eLook K C0 fE0 "index" = true)
    (eL1 : eLook K C1 fE1 "index" = true)
    (eL2 : eLook K C2 fE2 "index" = true)
    (eL3 : eLook K C3 fE3 "index" = true)
    (fL : fLook K CT CV C0 C1 C2 C3 = true)
    (tL : tLook K [(c1, P1)] = true)
    (inT : P1 ∈ ts) : EndsAt l w K 15 63 "_law_cells" mg fa h := by
  have e := hfa.symm.trans (PySem.W.mg_of X G alaw)
  cases e

  have out := outLook_of X G outL
  have ET := eLook_of eLT (PySem.W.mg_of X G aET) ⟨_, _, _, _, _, _, _, _, _, _, _, _, _, _, _, lET, dET⟩
  have E0 := eLook_of eL0 (PySem.W.mg_of X G aE0) ⟨_, _, _, _, _, _, _, _, _, _, _, _, _, _, _, lE0, dE0⟩
  have E1 := eLook_of eL1 (PySem.W.mg_of X G aE1) ⟨_, _, _, _, _, _, _, _, _, _, _, _, _, _, _, lE1, dE1⟩
  have E2 := eLook_of eL2 (PySem.W.mg_of X G aE2) ⟨_, _, _, _, _, _, _, _, _, _, _, _, _, _, _, lE2, dE2⟩
  have E3 := eLook_of eL3 (PySem.W.mg_of X G aE3) ⟨_, _, _, _, _, _, _, _, _, _, _, _, _, _, _, lE3, dE3⟩
  unfold cLook at cL
  unfold wLook at wL
  unfold tLook at tL
  unfold sLook at sL
  unfold fLook at fL
  have MM := mLook_of mL
  simp only [Bool.and_eq_true, decide_eq_true_eq, List.all_cons, List.all_nil, Bool.and_true, Option.isNone_iff_eq_none] at cL wL tL sL fL
  obtain ⟨⟨⟨⟨⟨⟨⟨z0, z1⟩, z2⟩, z3⟩, z4⟩, z5⟩, z6⟩, z7⟩ := cL
  obtain ⟨v0, m0, r0⟩ := intLook_of X G z0
  obtain ⟨v1, m1, r1⟩ := intLook_of X G z1
  obtain ⟨v2, m2, r2⟩ := intLook_of X G z2
  obtain ⟨v3, m3, r3⟩ := intLook_of X G z3
  obtain ⟨v4, m4, r4⟩ := intLook_of X G z4
  obtain ⟨v5, m5, r5⟩ := intLook_of X G z5
  obtain ⟨v6, m6, r6⟩ := intLook_of X G z6
  obtain ⟨v7, m7, r7⟩ := intLook_of X G z7
  obtain ⟨⟨⟨⟨⟨⟨⟨w1, w2⟩, w3⟩, w4⟩, w5⟩, w6⟩, w7⟩, w8⟩ := wL
  have nf : ∀ f ∈ fields, PySem.W.findIn K (.ref C) f = some none := fun f hf => of_decide_eq_true (List.all_eq_true.mp w5 f hf)
  have WC : WCls K C := ⟨⟨w1, w2, w3, w4⟩, nf _ (by decide), nf _ (by decide), nf _ (by decide), nf _ (by decide), nf _ (by decide), nf _ (by decide), nf _ (by decide), nf _ (by decide), nf _ (by decide)⟩
  have MK : Mk K C gini := ⟨w6, aini, w7, w8⟩
  obtain ⟨t1, t2⟩ := tL
  obtain ⟨⟨⟨⟨⟨xTT, xTV⟩, x0⟩, x1⟩, x2⟩, x3⟩ := fL
  have X4 : ∀ k, PySem.W.exmOne K (.ref (ceOf C0 C1 C2 C3 k)) (.ref CV) = some true := fun k => match k with
    | 0 => x0
    | 1 => x1
    | 2 => x2
    | _ + 3 => x3
  obtain ⟨⟨s1, s2⟩, s3⟩ := sL
  have Bl : Blt mg := ⟨out _ (by decide), out _ (by decide), out _ (by decide), out _ (by decide)⟩
  have BI : BltI mg := ⟨out _ (by decide), out _ (by decide), out _ (by decide), out _ (by decide), out _ (by decide), out _ (by decide), out _ (by decide), out _ (by decide)⟩
  have BD : BltD mg := ⟨out _ (by decide), out _ (by decide)⟩
  have BL : BltL mg := ⟨out _ (by decide), out _ (by decide)⟩
  have BW : BltW mg := ⟨out _ (by decide), out _ (by decide)⟩
  have BZ : BltZ mg := ⟨out _ (by decide)⟩
  have BS : BltS mg := ⟨out _ (by decide), out _ (by decide), out _ (by decide)⟩
  have BP : BltP mg := ⟨out _ (by decide)⟩
  have BM : BltM mg := ⟨out _ (by decide), out _ (by decide), out _ (by decide), out _ (by decide), out _ (by decide)⟩
  have hT : mg "tuple" = none := out _ (by decide)
  have hLs : mg "list" = none := out _ (by decide)
  have hSe : mg "set" = none := out _ (by decide)
  have hSo : mg "sorted" = none := out _ (by decide)
  have hRp : mg "repr" = none := out _ (by decide)
  have hSt : mg "str" = none := out _ (by decide)
  have hRg : mg "range" = none := out _ (by decide)

  have Fint := fun_mk (st := top 4) lint dint kint
  have bInt := Fint.binds (ps := ["value"]) fun _ _ _ _ _ _ us hl => match us, hl with | [_], _ => rfl
  have nint := PySem.W.mg_of X G aint
  have Fnam := fun_mk (st := top 5) lnam dnam knam
  have bnam := Fnam.binds (ps := ["value"]) fun _ _ _ _ _ _ us hl => match us, hl with | [_], _ => rfl
  have nnam := PySem.W.mg_of X G anam
  have Fnum := fun_mk (st := top 6) lnum dnum knum
  have bnum := Fnum.binds (ps := ["word"]) fun _ _ _ _ _ _ us hl => match us, hl with | [_], _ => rfl
  have nnum := PySem.W.mg_of X G anum
  have Fby := fun_mk (st := top 25) lby dby kby
  have bby := Fby.binds (ps := ["stuffs", "contents"]) fun _ _ _ _ _ _ us hl => match us, hl with | [_, _], _ => rfl
  have nby := PySem.W.mg_of X G aby
  have Fchk := fun_mk (st := top 26) lchk dchk kchk
  have bchk := Fchk.binds (ps := ["machines", "cleanings", "stuffs", "products"]) fun _ _ _ _ _ _ us hl => match us, hl with | [_, _, _, _], _ => rfl
  have nchk := PySem.W.mg_of X G achk
  have Ffst := fun_mk (st := top 27) lfst dfst kfst
  have bfst := Ffst.binds (ps := ["rows", "earlier", "fewest", "most", "is_right"]) fun _ _ _ _ _ _ us hl => match us, hl with | [_, _, _, _, _], _ => rfl
  have nfst := PySem.W.mg_of X G afst
  have Fshr := fun_mk (st := top 28) lshr dshr kshr
  have bshr := Fshr.binds (ps := ["row"]) fun _ _ _ _ _ _ us hl => match us, hl with | [_], _ => rfl
  have nshr := PySem.W.mg_of X G ashr
  have Flim := fun_mk (st := top 29) llim dlim klim
  have blim := Flim.binds (ps := ["row"]) fun _ _ _ _ _ _ us hl => match us, hl with | [_], _ => rfl
  have nlim := PySem.W.mg_of X G alim
  have Fcon := fun_mk (st := top 30) lcon dcon kcon
  have bcon := Fcon.binds (ps := ["row", "many"]) fun _ _ _ _ _ _ us hl => match us, hl with | [_, _], _ => rfl
  have ncon := PySem.W.mg_of X G acon
  have Fnmd := fun_mk (st := top 31) lnmd dnmd knmd
  have bnmd := Fnmd.binds (ps := ["row", "length"]) fun _ _ _ _ _ _ us hl => match us, hl with | [_, _], _ => rfl
  have nnmd := PySem.W.mg_of X G anmd
  have Fbnd := fun_mk (st := top 32) lbnd dbnd kbnd
  have bbnd := Fbnd.binds (ps := ["pair", "most"]) fun _ _ _ _ _ _ us hl => match us, hl with | [_, _], _ => rfl
  have nbnd := PySem.W.mg_of X G abnd
  have Ftxt := fun_mk (st := top 33) ltxt dtxt ktxt
  have btxt := Ftxt.binds (ps := ["machines", "cleanings", "stuffs", "products"]) fun _ _ _ _ _ _ us hl => match us, hl with | [_, _, _, _], _ => rfl
  have ntxt := PySem.W.mg_of X G atxt
  have Flin := fun_mk (st := top 34) llin dlin klin
  have blin := Flin.binds (ps := ["name", "contents"]) fun _ _ _ _ _ _ us hl => match us, hl with | [_, _], _ => rfl
  have nlin := PySem.W.mg_of X G alin
  have Frwk := fun_mk (st := top 35) lrwk drwk krwk
  have brwk := Frwk.binds (ps := ["text"]) fun _ _ _ _ _ _ us hl => match us, hl with | [_], _ => rfl
  have nrwk := PySem.W.mg_of X G arwk
  have Frrw := fun_mk (st := top 36) lrrw drrw krrw
  have brrw := Frrw.binds (ps := ["kind", "words"]) fun _ _ _ _ _ _ us hl => match us, hl with | [_, _], _ => rfl
  have nrrw := PySem.W.mg_of X G arrw
  have Frpr := fun_mk (st := top 37) lrpr drpr krpr
  have brpr := Frpr.binds (ps := ["word"]) fun _ _ _ _ _ _ us hl => match us, hl with | [_], _ => rfl
  have nrpr := PySem.W.mg_of X G arpr
  have Fdip := fun_mk (st := top 39) ldip ddip kdip
  have bdip := Fdip.binds (ps := ["_law_jar_here", "_law_top"]) fun _ _ _ _ _ _ us hl => match us, hl with | [_, _], _ => rfl
  have ndip := PySem.W.mg_of X G adip
  have Fone := fun_mk (st := top 40) lone done kone
  have bone := Fone.binds (ps := ["_law_jar_here", "_law_some"]) fun _ _ _ _ _ _ us hl => match us, hl with | [_, _], _ => rfl
  have nOne := PySem.W.mg_of X G aone
  have Flab := fun_mk (st := top 41) llab dlab klab
  have blab := Flab.binds (ps := ["_law_jar_here"]) fun _ _ _ _ _ _ us hl => match us, hl with | [_], _ => rfl
  have nlab := PySem.W.mg_of X G alab
  have Flsh := fun_mk (st := top 42) llsh dlsh klsh
  have blsh := Flsh.binds (ps := ["_law_jar_here"]) fun _ _ _ _ _ _ us hl => match us, hl with | [_], _ => rfl
  have nlsh := PySem.W.mg_of X G alsh
  have Fins := fun_mk (st := top 43) lins dins kins
  have bins := Fins.binds (ps := ["_law_jar_here"]) fun _ _ _ _ _ _ us hl => match us, hl with | [_], _ => rfl
  have nins := PySem.W.mg_of X G ains
  have Fwor := fun_mk (st := top 44) lwor dwor kwor
  have bwor := Fwor.binds (ps := ["_law_jar_here", "_law_most"]) fun _ _ _ _ _ _ us hl => match us, hl with | [_, _], _ => rfl
  have nwor := PySem.W.mg_of X G awor
  have Fjar := fun_mk (st := top 45) ljar djar kjar
  have bjar := Fjar.binds (ps := ["_law_cells", "_law_turn"]) fun _ _ _ _ _ _ us hl => match us, hl with | [_, _], _ => rfl
  have njar := PySem.W.mg_of X G ajar
  have Flnm := fun_mk (st := top 46) llnm dlnm klnm
  have blnm := Flnm.binds (ps := ["_law_word"]) fun _ _ _ _ _ _ us hl => match us, hl with | [_], _ => rfl
  have nlnm := PySem.W.mg_of X G alnm
  have Flfg := fun_mk (st := top 47) llfg dlfg klfg
  have blfg := Flfg.binds (ps := ["_law_word", "_law_most"]) fun _ _ _ _ _ _ us hl => match us, hl with | [_, _], _ => rfl
  have nlfg := PySem.W.mg_of X G alfg
  have Flpr := fun_mk (st := top 48) llpr dlpr klpr
  have blpr := Flpr.binds (ps := ["_law_words", "_law_most"]) fun _ _ _ _ _ _ us hl => match us, hl with | [_, _], _ => rfl
  have nlpr := PySem.W.mg_of X G alpr
  have Flln := fun_mk (st := top 49) llln dlln klln
  have blln := Flln.binds (ps := ["_law_words", "_law_many"]) fun _ _ _ _ _ _ us hl => match us, hl with | [_, _], _ => rfl
  have nlln := PySem.W.mg_of X G alln
  have Flpg := fun_mk (st := top 50) llpg dlpg klpg
  have blpg := Flpg.binds (ps := ["_law_page_here"]) fun _ _ _ _ _ _ us hl => match us, hl with | [_], _ => rfl
  have nlpg := PySem.W.mg_of X G alpg
  have Flbe := fun_mk (st := top 51) llbe dlbe klbe
  have blbe := Flbe.binds (ps := ["_law_jar_here", "_law_page_here"]) fun _ _ _ _ _ _ us hl => match us, hl with | [_, _], _ => rfl
  have nlbe := PySem.W.mg_of X G albe
  have Fpag := fun_mk (st := top 52) lpag dpag kpag
  have bpag := Fpag.binds (ps := ["_law_world_here"]) fun _ _ _ _ _ _ us hl => match us, hl with | [_], _ => rfl
  have npag := PySem.W.mg_of X G apag
  have Flrd := fun_mk (st := top 53) llrd dlrd klrd
  have blrd := Flrd.binds (ps := ["_law_page_here", "_law_named"]) fun _ _ _ _ _ _ us hl => match us, hl with | [_, _], _ => rfl
  have nlrd := PySem.W.mg_of X G alrd
  have Frig := fun_mk (st := top 54) lrig drig krig
  have brig := Frig.binds (ps := ["_law_jar_here"]) fun _ _ _ _ _ _ us hl => match us, hl with | [_], _ => rfl
  have nrig := PySem.W.mg_of X G arig
  have Flaw := fun_mk (st := top 55) llaw dlaw klaw
  have Fini := fun_mk (st := meth 0) lini dini kini
  have bini := Fini.binds (ps := ["self", "machines", "cleanings", "stuffs", "products"]) fun _ _ _ _ _ _ us hl => match us, hl with | [_, _, _, _, _], _ => rfl
  have Fstr := fun_mk (st := meth 12) lstr dstr kstr
  have bstr := Fstr.binds (ps := ["self"]) fun _ _ _ _ _ _ us hl => match us, hl with | [_], _ => rfl
  have Frd := fun_mk (st := meth 1) lrd_ drd krd
  have brd := Frd.binds (ps := ["text"]) fun _ _ _ _ _ _ us hl => match us, hl with | [_], _ => rfl
  have nW := PySem.W.mg_of X G aW
  have nV := PySem.W.mg_of X G aV
  have kbR : KBn K (PySem.W.fnOf "read" "Works.read" (defArgs (meth 1)) (defBody (meth 1)) (defScope (meth 1)) .none kVrd dcrd pmrd anrd cdrd ctrd) ["text"] 0 ["text"] (fun us ws => us ++ ws) (fun vs zs => vs ++ zs) :=
    ⟨fun s us ws X l1 l2 => match us, l1, ws, l2 with | [], _, [_], _ => .of_eq rfl, fun r1 r2 => r1.append r2⟩
  let T : List NTab := [(P1, lamName)]
  have only1 : ∀ r ∈ T, r.1 = P1 → r.2 = lamName := fun r hr e => by
    obtain rfl := List.mem_singleton.mp hr
    rfl
  have E : Empty K h [(c1, P1)] := by
    constructor
    · intro q hq
      obtain rfl := List.mem_singleton.mp hq
      exact TS _ inT
    · intro q hq
      obtain rfl := List.mem_singleton.mp hq
      exact t2
    · intro q hq
      obtain rfl := List.mem_singleton.mp hq
      exact PySem.W.codeHd_of_K X t1
  refine ⟨PySem.W.fnOf "law" "law" (defArgs (top 55)) (defBody (top 55)) (defScope (top 55)) .none kVlaw dclaw pmlaw anlaw cdlaw ctlaw, [(c1, P1)], spLaw T K, E, fun s v => .of_eq rfl, fun H a ns hl ht hS => ⟨a, ns, rfl, hS, hl, fun r hr => ?_, fun _ => rfl⟩, fun base XB GB TB => ?_⟩
  · obtain rfl := List.mem_singleton.mp hr
    exact ⟨#[], ht (c1, P1) (List.mem_cons_self ..), trivial, fun pos v hv => nomatch hv⟩
  · have TB1 := TB (c1, P1) (List.mem_cons_self ..)
    have GI := ok_int (P := l.prog) (w := w) (base := base) (mg := mg) Fint BI
    have GN := ok_name (P := l.prog) (w := w) (base := base) (mg := mg) Fnam BI m0 r0
    have GNu := ok_num (P := l.prog) (w := w) (base := base) (mg := mg) Fnum BI m7 r7
    have GNd := ok_named (P := l.prog) (w := w) (base := base) (mg := mg) Fnmd BI GN nnam knam bnam
    have GB := ok_bnds (P := l.prog) (w := w) (base := base) (mg := mg) Fbnd BI GI nint kint bInt
    have GS := ok_shar (P := l.prog) (w := w) (base := base) (mg := mg) Fshr GNd nnmd knmd bnmd GB nbnd kbnd bbnd m5 r5
    have GL := ok_lim (P := l.prog) (w := w) (base := base) (mg := mg) Flim GNd nnmd knmd bnmd GI nint kint bInt m6 r6
    have GC := ok_cont (P := l.prog) (w := w) (base := base) (mg := mg) Fcon BI GNd nnmd knmd bnmd GB nbnd kbnd bbnd m6 r6
    have GF := ok_first (P := l.prog) (w := w) (base := base) (mg := mg) Ffst BI GS kshr bshr GL klim blim
    have GK := ok_check (P := l.prog) (w := w) (base := base) (mg := mg) (T := T) Fchk rfl TB1 (List.mem_cons_self ..) only1 BI Ffst GF nfst kfst bfst GC ncon kcon bcon nshr nlim m1 r1 m2 r2 m3 r3 m4 r4
    have GK4 := ok_check4N (P := l.prog) (w := w) (base := base) (mg := mg) (T := T) (ce := ceOf C0 C1 C2 C3) Fchk rfl TB1 (List.mem_cons_self ..) only1 BI (er1_of E0) (er1_of E1) (er1_of E2) (er1_of E3) Ffst GF nfst kfst bfst GC ncon kcon bcon nshr nlim m1 r1 m2 r2 m3 r3 m4 r4
    have GBy := ok_by (P := l.prog) (w := w) (base := base) (mg := mg) Fby BZ
    have GLi := ok_line (P := l.prog) (w := w) (base := base) (mg := mg) Flin 
    have GT := ok_text (P := l.prog) (w := w) (base := base) (mg := mg) Ftxt GLi nlin klin blin
    have GIn := ok_init (P := l.prog) (w := w) (base := base) (mg := mg) Fini WC GK nchk kchk bchk GBy nby kby bby GT ntxt ktxt btxt
    have GIn4 := ok_init4N (P := l.prog) (w := w) (base := base) (mg := mg) Fini WC GK4 nchk kchk bchk GBy nby kby bby GT ntxt ktxt btxt
    have GPr := ok_pair (P := l.prog) (w := w) (base := base) (mg := mg) Frpr hT GNu nnum knum bnum
    have GRr := ok_row (P := l.prog) (w := w) (base := base) (mg := mg) Frrw hT GNu nnum knum bnum GPr nrpr krpr brpr
    have GRw := ok_rw (P := l.prog) (w := w) (base := base) (mg := mg) Frwk hT GRr nrrw krrw brrw MK nW GIn bini
    have GRwX := ok_rwX (P := l.prog) (w := w) (base := base) (mg := mg) Frwk hT ET GRr nrrw krrw brrw MK nW GIn4 bini
    have GSt := ok_str (P := l.prog) (w := w) (base := base) (mg := mg) Fstr WC BS
    have GRd := ok_readX (P := l.prog) (w := w) (base := base) (mg := mg) Frd BS ET nV xTV X4 GRw GRwX nrwk krwk brwk (MM "__str__" gstr (by repeat (first | exact List.mem_cons_self .. | apply List.mem_cons_of_mem))) GSt bstr
    have GD := ok_dip (P := l.prog) (w := w) (base := base) (mg := mg) Fdip Bl
    have GO := ok_one (P := l.prog) (w := w) (base := base) (mg := mg) Fone Bl Fdip bdip ndip
    have GLb := ok_labels (P := l.prog) (w := w) (base := base) (mg := mg) Flab BL GD ndip kdip bdip GO nOne kone bone
    have GSh := ok_shares (P := l.prog) (w := w) (base := base) (mg := mg) Flsh BD GD ndip kdip bdip GO nOne kone bone
    have GNs := ok_inside (P := l.prog) (w := w) (base := base) (mg := mg) Fins BD GD ndip kdip bdip GO nOne kone bone
    have GW := ok_world (P := l.prog) (w := w) (base := base) (mg := mg) Fwor BW GD ndip kdip bdip GO nOne kone bone GLb nlab klab blab GSh nlsh klsh blsh GNs nins kins bins
    have GJ := ok_jar (P := l.prog) (w := w) (base := base) (mg := mg) Fjar Bl
    have GNm := ok_nm3 (P := l.prog) (w := w) (base := base) (mg := mg) Flnm BI
    have GFg := ok_fg (P := l.prog) (w := w) (base := base) (mg := mg) Flfg BI
    have GP3 := ok_pr3 (P := l.prog) (w := w) (base := base) (mg := mg) Flpr BI GFg nlfg klfg blfg
    have GLn := ok_ln3 (P := l.prog) (w := w) (base := base) (mg := mg) Flln BI GNm nlnm klnm blnm GFg nlfg klfg blfg GP3 nlpr klpr blpr
    have GPg := ok_pg3 (P := l.prog) (w := w) (base := base) (mg := mg) Flpg BI hSo hSe hRg GLn nlln klln blln
    have GBe := ok_be3 (P := l.prog) (w := w) (base := base) (mg := mg) Flbe BI hLs GD ndip kdip bdip GO nOne kone bone
    have GPa := ok_page (P := l.prog) (w := w) (base := base) (mg := mg) Fpag BP
    have GLr := ok_lrd3 (P := l.prog) (w := w) (base := base) (mg := mg) Flrd hRp hSt nW (mc := .type "type") ⟨s1, s2⟩ ⟨s3, ard, ⟨_, rrd⟩, krd⟩ GRd brd kbR ET xTT (MM "__str__" gstr (by repeat (first | exact List.mem_cons_self .. | apply List.mem_cons_of_mem))) GSt bstr
    have RT : Rt3 l.prog w K mg base T := ⟨hRg, hRp, ⟨_, _, GD, ndip, kdip, bdip⟩, ⟨_, _, GO, nOne, kone, bone⟩, ⟨_, _, GW, nwor, kwor, bwor⟩, ⟨_, _, GPa, npag, kpag, bpag⟩, ⟨_, _, GBe, nlbe, klbe, blbe⟩, ⟨_, _, GPg, nlpg, klpg, blpg⟩, ⟨_, _, GLr, nlrd, klrd, blrd⟩⟩
    have GR := ok_ri3 (P := l.prog) (w := w) (base := base) (mg := mg) Frig RT
    exact ok_law Flaw BM GR nrig krig brig GJ njar kjar bjar
end LJ
set_option Elab.async false
open PySem PySem.W PyProof.Rows
set_option maxRecDepth 100000 in
set_option maxHeartbeats 0 in
theorem PySem.Challenge.cw_tracebounds_k03_whole_texts_of_works_holds : PySem.Challenge.rw_tracebounds_k03_whole_texts_of_works.Holds := by
  w_on; o_law; k_head; (case hw => w_witness2)
  k_fill
  refine L2.walk_gt (l := PySem.Challenge.rw_tracebounds_k03_whole_texts_of_works) (n := 63) (k := 15) (x := "_law_cells") rfl (by decide) rfl ⟨rfl, by decide, by decide⟩ ?F
  intro w mg fa h Y G hmg
  refine ⟨_, PySem.W.km_in_of Y, ?_⟩
  have TS := PySem.W.km_tabs_of Y
  refine' LJ.all_mk (P1 := 309) (PySem.W.km_in_of Y) G hmg TS ?aint ?lint ?dint ?kint ?anam ?lnam ?dnam ?knam ?anum ?lnum ?dnum ?knum ?aby ?lby ?dby ?kby ?achk ?lchk ?dchk ?kchk ?afst ?lfst ?dfst ?kfst ?ashr ?lshr ?dshr ?kshr ?alim ?llim ?dlim ?klim ?acon ?lcon ?dcon ?kcon ?anmd ?lnmd ?dnmd ?knmd ?abnd ?lbnd ?dbnd ?kbnd ?atxt ?ltxt ?dtxt ?ktxt ?alin ?llin ?dlin ?klin ?arwk ?lrwk ?drwk ?krwk ?arrw ?lrrw ?drrw ?krrw ?arpr ?lrpr ?drpr ?krpr ?adip ?ldip ?ddip ?kdip ?aone ?lone ?done ?kone ?alab ?llab ?dlab ?klab ?alsh ?llsh ?dlsh ?klsh ?ains ?lins ?dins ?kins ?awor ?lwor ?dwor ?kwor ?ajar ?ljar ?djar ?kjar ?alnm ?llnm ?dlnm ?klnm ?alfg ?llfg ?dlfg ?klfg ?alpr ?llpr ?dlpr ?klpr ?alln ?llln ?dlln ?klln ?alpg ?llpg ?dlpg ?klpg ?albe ?llbe ?dlbe ?klbe ?apag ?lpag ?dpag ?kpag ?alrd ?llrd ?dlrd ?klrd ?arig ?lrig ?drig ?krig ?alaw ?llaw ?dlaw ?klaw ?aW ?aV ?aini ?lini ?dini ?kini ?astr ?lstr ?dstr ?kstr ?ard ?rrd ?lrd_ ?drd ?krd ?aET ?iET ?lET ?dET ?aE0 ?iE0 ?lE0 ?dE0 ?aE1 ?iE1 ?lE1 ?dE1 ?aE2 ?iE2 ?lE2 ?dE2 ?aE3 ?iE3 ?lE3 ?dE3 ?outL ?cL ?wL ?mL ?sL ?eLT ?eL0 ?eL1 ?eL2 ?eL3 ?fL ?tL ?inT
  (case aint => k_is)
  (case lint => k_is)
  (case dint => k_is)
  (case kint => k_is)
  (case anam => k_is)
  (case lnam => k_is)
  (case dnam => k_is)
  (case knam => k_is)
  (case anum => k_is)
  (case lnum => k_is)
  (case dnum => k_is)
  (case knum => k_is)
  (case aby => k_is)
  (case lby => k_is)
  (case dby => k_is)
  (case kby => k_is)
  (case achk => k_is)
  (case lchk => k_is)
  (case dchk => k_is)
  (case kchk => k_is)
  (case afst => k_is)
  (case lfst => k_is)
  (case dfst => k_is)
  (case kfst => k_is)
  (case ashr => k_is)
  (case lshr => k_is)
  (case dshr => k_is)
  (case kshr => k_is)
  (case alim => k_is)
  (case llim => k_is)
  (case dlim => k_is)
  (case klim => k_is)
  (case acon => k_is)
  (case lcon => k_is)
  (case dcon => k_is)
  (case kcon => k_is)
  (case anmd => k_is)
  (case lnmd => k_is)
  (case dnmd => k_is)
  (case knmd => k_is)
  (case abnd => k_is)
  (case lbnd => k_is)
  (case dbnd => k_is)
  (case kbnd => k_is)
  (case atxt => k_is)
  (case ltxt => k_is)
  (case dtxt => k_is)
  (case ktxt => k_is)
  (case alin => k_is)
  (case llin => k_is)
  (case dlin => k_is)
  (case klin => k_is)
  (case arwk => k_is)
  (case lrwk => k_is)
  (case drwk => k_is)
  (case krwk => k_is)
  (case arrw => k_is)
  (case lrrw => k_is)
  (case drrw => k_is)
  (case krrw => k_is)
  (case arpr => k_is)
  (case lrpr => k_is)
  (case drpr => k_is)
  (case krpr => k_is)
  (case adip => k_is)
  (case ldip => k_is)
  (case ddip => k_is)
  (case kdip => k_is)
  (case aone => k_is)
  (case lone => k_is)
  (case done => k_is)
  (case kone => k_is)
  (case alab => k_is)
  (case llab => k_is)
  (case dlab => k_is)
  (case klab => k_is)
  (case alsh => k_is)
  (case llsh => k_is)
  (case dlsh => k_is)
  (case klsh => k_is)
  (case ains => k_is)
  (case lins => k_is)
  (case dins => k_is)
  (case kins => k_is)
  (case awor => k_is)
  (case lwor => k_is)
  (case dwor => k_is)
  (case kwor => k_is)
  (case ajar => k_is)
  (case ljar => k_is)
  (case djar => k_is)
  (case kjar => k_is)
  (case alnm => k_is)
  (case llnm => k_is)
  (case dlnm => k_is)
  (case klnm => k_is)
  (case alfg => k_is)
  (case llfg => k_is)
  (case dlfg => k_is)
  (case klfg => k_is)
  (case alpr => k_is)
  (case llpr => k_is)
  (case dlpr => k_is)
  (case klpr => k_is)
  (case alln => k_is)
  (case llln => k_is)
  (case dlln => k_is)
  (case klln => k_is)
  (case alpg => k_is)
  (case llpg => k_is)
  (case dlpg => k_is)
  (case klpg => k_is)
  (case albe => k_is)
  (case llbe => k_is)
  (case dlbe => k_is)
  (case klbe => k_is)
  (case apag => k_is)
  (case lpag => k_is)
  (case dpag => k_is)
  (case kpag => k_is)
  (case alrd => k_is)
  (case llrd => k_is)
  (case dlrd => k_is)
  (case klrd => k_is)
  (case arig => k_is)
  (case lrig => k_is)
  (case drig => k_is)
  (case krig => k_is)
  (case alaw => k_is)
  (case llaw => k_is)
  (case dlaw => k_is)
  (case klaw => k_is)
  (case aW => k_is)
  (case aV => k_is)
  (case aini => k_is)
  (case lini => k_is)
  (case dini => k_is)
  (case kini => k_is)
  (case astr => k_is)
  (case lstr => k_is)
  (case dstr => k_is)
  (case kstr => k_is)
  (case ard => k_is)
  (case rrd => k_is)
  (case lrd_ => k_is)
  (case drd => k_is)
  (case krd => k_is)
  (case aET => k_is)
  (case iET => k_is)
  (case lET => k_is)
  (case dET => k_is)
  (case aE0 => k_is)
  (case iE0 => k_is)
  (case lE0 => k_is)
  (case dE0 => k_is)
  (case aE1 => k_is)
  (case iE1 => k_is)
  (case lE1 => k_is)
  (case dE1 => k_is)
  (case aE2 => k_is)
  (case iE2 => k_is)
  (case lE2 => k_is)
  (case dE2 => k_is)
  (case aE3 => k_is)
  (case iE3 => k_is)
  (case lE3 => k_is)
  (case dE3 => k_is)
  (case outL => kernel_rfl)
  (case cL => kernel_rfl)
  (case wL => kernel_rfl)
  (case mL => kernel_rfl)
  (case sL => kernel_rfl)
  (case eLT => kernel_rfl)
  (case eL0 => kernel_rfl)
  (case eL1 => kernel_rfl)
  (case eL2 => kernel_rfl)
  (case eL3 => kernel_rfl)
  (case fL => kernel_rfl)
  (case tL => kernel_rfl)
  (case inT => decide)
