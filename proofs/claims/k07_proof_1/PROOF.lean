import PyProof.Rows.All
import Wide.All
import OpenK.AllK
import Wide.FinOn
import HandS.ForSpec
import HandS.ForMost
import HandS.ExcInit
import HandS.ExcValue
import HandS.ExcIs
import HandS.ExcField
import HandS.MakeKwOnly
import KE.KExcInit
import HandS.IsInst
import PyProof.ReprRoads
import HandS.Nested
import HandS.Iter
import KE.GoesMore
import HandS.Flow
import HandS.Walk
import HandS.DictComp
import HandS.Zip
import HandS.FStr
import HandS.Text
import HandS.Conv
import HandS.ClsMeth
import HandS.OwnEq
import HandS.Defaults
import HandS.RaiseMore
import HandS.Property
import HandS.ExcOwn
import HandS.Star
import HandS.TryOnly
import HandS.TupAny
import HandS.ExcInitHot
import HandS.RaiseFrom
import HandS.SuiteRaise
import HandS.Strs
import HandS.Style
import HandS.Deep
import PyProof.StrLawsRepr
import HandS.HotCalls
import HandS.Words
import PyProof.StrHeap
import HandS.Exc
import HandS.EndTab
import KE.KNestM
import PySem.Challenge.RW_tracebounds_k07_whole_texts_of_plans
set_option Elab.async false
set_option linter.all false
set_option maxRecDepth 100000
set_option maxHeartbeats 4000000
/-! Errors of one's own, over any base, made by position or by name. -/
namespace PySem
namespace ErrV
open PySem.W PySem.Calls PyProof.Rows
open Builtin Builtin.ObjectAttr
/-- own classes in front, then the base's own row -/
def rowOver (B : List Value) : List Value → Bool
  | .ref _ :: r => rowOver B r
  | l => l == B
theorem rowOver_two (B l : List Value) (e : rowOver B l = true) :
    (∃ c r, l = .ref c :: r ∧ rowOver B r = true) ∨ l = B := by
  unfold rowOver at e
  split at e
  · exact .inl ⟨_, _, rfl, e⟩
  · exact .inr (beq_iff_eq.mp e)
/-- what is asked of the built-in base -/
structure BaseOk (B nw ini : String) (bm : List Value) : Prop where
  F : ExcBaseFacts B nw ini bm
  S : StoreFacts B bm "object.__setattr__" "object"
section
variable {B nw ini : String} {bm : List Value}
theorem rowOver_has (T : BaseOk B nw ini bm) (Y : String) :
    ∀ l : List Value, rowOver bm l = true → l.contains (.type Y) = bm.contains (.type Y) := by
  intro l
  induction l with
  | nil =>
    intro e
    rcases rowOver_two _ _ e with ⟨_, _, z, _⟩ | z
    · cases z
    · rw [z]
  | cons a r ih =>
    intro e
    rcases rowOver_two _ _ e with ⟨c, r1, z, h⟩ | z
    · obtain ⟨z1, z2⟩ := List.cons.inj z
      subst z1
      subst z2
      rw [List.contains_cons, ih h]
      rfl
    · rw [z]
theorem rowOver_lets (T : BaseOk B nw ini bm) (self : Value) :
    ∀ l : List Value, rowOver bm l = true → refuseLoop self "__setattr__" l = pure () := by
  intro l
  induction l with
  | nil =>
    intro e
    rcases rowOver_two _ _ e with ⟨_, _, z, _⟩ | z
    · cases z
    · rw [z]
      exact T.S.passes self
  | cons a r ih =>
    intro e
    rcases rowOver_two _ _ e with ⟨c, r1, z, h⟩ | z
    · obtain ⟨z1, z2⟩ := List.cons.inj z
      subst z1
      subst z2
      rw [refuseLoop_ref]
      exact ih h
    · rw [z]
      exact T.S.passes self
theorem rowOver_some (T : BaseOk B nw ini bm) {l : List Value} (e : rowOver bm l = true) : l.isEmpty = false := by
  cases l with
  | cons _ _ => rfl
  | nil =>
    have z := rowOver_has T B [] e
    rw [T.F.hasB] at z
    cases z
end
section
variable {prog : Program} {w : World} {A : Around} {E : Value → Shared → Prop} {R : Result → Shared → Prop}
variable {hp : Heap} {g : Array GenState} {d : Drawn} {t : Nat} {os : OsState} {B nw ini : String} {bmB : List Value}
/-- the object as BaseException.__new__ lays it -/
abbrev fresh (C u : Addr) (dd : Option Addr) : Obj :=
  { cls := .ref C, dict := dd, data := .fields #[.ref u, .none, .none, .none, .bool false, .none] }
/-- self.name = v where the error has no dict so far -/
theorem put_first {K : W.Frag} {name : Str} {tk : Tok} {v : Value} {x C u : Addr} {cd : ClassData} (T : BaseOk B nw ini bmB)
    (X : K.In hp) (hx : hp.get? x = some (fresh C u none)) (hcd : W.clsIn K C = some cd) (hm : rowOver bmB cd.mro = true)
    (hh : cd.hasDict = true) (ha : W.findIn K (.ref C) name = some none)
    (hq : ∀ h1 t1 dx, (∀ b o, b ≠ x → hp.get? b = some o → h1.get? b = some o) → hp.objs.size ≤ dx → dx ≠ x →
      h1.get? x = some (fresh C u (some dx)) → h1.Ns1 dx (fun y => if y = name then some v else none) →
      R (.ok (.ret .none)) ⟨h1, g, d, t1, os⟩) :
    codeAny (model prog w) A (.call (.builtin "object.__setattr__") ⟨[.ref x, .str name tk, v], []⟩) R ⟨hp, g, d, t, os⟩ := by
  have J : W.InstAt hp x (fresh C u none) C none := ⟨hx, rfl, rfl, trivial⟩
  have G := F.store_object
  have obj : cd.mro.contains (.type "object") = true := (rowOver_has T "object" _ hm).trans T.S.hasOwner
  have far : x ≠ hp.objs.size := Nat.ne_of_lt (Heap.lt_size hx)
  have of_obj : W.Looks (model prog w) hp (isInstance (.ref x) (.type "object")) true :=
    J.type.andThen (W.looks_mroIn X (by
      unfold W.mroIn
      rw [hcd, Option.bind_some, if_neg (by rw [rowOver_some T hm]; decide), obj]))
  refine codeAny_call_builtin G.slot.plain G.entry ?_
  refine @W.check_slot (model prog w) _ _ ⟨hp, g, d, t, os⟩ "object.__setattr__" "object" "__setattr__" (.ref x)
    [.str name tk, v] [] _ G.kind G.split of_obj (G.args (.ref x) (.str name tk) v) ?_
  have Lm : W.Looks (model prog w) hp (mroOf (.ref C)) cd.mro := (W.looks_clsIn X hcd).andThen .now
  have Lt : W.Looks (model prog w) hp (storeTaker? none) none := .now
  have Lc : W.Looks (model prog w) hp (classData C) cd := W.looks_clsIn X hcd
  rw [W.osa_eq, refuse_eq]
  refine wpAny_bind (wpAny_bind (J.type.at (wpAny_bind (Lm.at ?_))))
  rw [rowOver_lets T _ _ hm]
  refine wpAny_pure (wpAny_bind (J.type.at (wpAny_bind ((W.looks_findIn X ha).at (wpAny_bind (Lt.at ?_))))))
  show wpAny _ _ (storeInOwnDict (.ref x) (.ref C) (.str name tk) name v false) _ _ _
  obtain ⟨nm, bs, mro, ns, qn, hd, sn, sb, ab, col, del⟩ := cd
  dsimp only at hh
  subst hh
  unfold storeInOwnDict ownDictForStores
  repeat (first
    | with_reducible refine HandSPX.store_in_new ?_ ?_
    | with_reducible refine wpAny_loadPart_at hx ?_
    | with_reducible refine Lc.at ?_
    | wp_step)
  · refine ⟨_, #[], _, (Heap.get?_update_ne _ _ _ _ far.symm).trans (Heap.get?_push_at rfl rfl), rfl, ?_, fun _ => rfl⟩
    intro e he
    exact absurd he (by simp)
  · intro h1 t1 hn same
    have hx1 : (hp.push { cls := .type "dict", data := .dict #[] }).get? x = some (fresh C u none) := Heap.get?_push_of_some _ hx
    refine hq h1 t1 hp.objs.size (fun b o hb ho => ?_) (Nat.le_refl _) far.symm ?_ hn
    · refine (same.2 b (Nat.ne_of_lt (Heap.lt_size ho))).trans ?_
      exact (Heap.get?_update_ne _ _ _ _ hb).trans (Heap.get?_push_of_some _ ho)
    · exact (same.2 x far).trans (Heap.get?_update_self _ hx1 rfl)
end
/-! ### the class is called -/
section
variable {prog : Program} {w : World} {A : Around} {E : Value → Shared → Prop} {R : Result → Shared → Prop} {h : Heap}
variable {g : Array GenState} {d : Drawn} {t : Nat} {os : OsState} {M : Model}
variable {nm q : Str} {C N : Addr} {bs bm bmB : List Value} {hdct : Bool} {sn : List Str} {sub : List Value} {ab : Bool}
variable {col : Option Bool} {dd : Option Addr} {k0 k1 k2 k3 k5 : Option Value} {B nw ini : String}
variable {rest : List Value} {kw : List (Str × Value)}
theorem new_checked (F : ExcBaseFacts B nw ini bmB) (hT : ∀ Y : String, bm.contains (.type Y) = bmB.contains (.type Y)) {Q : Unit → Shared → Prop}
    (hC : h.get? C = some (excClassObj nm q C N bs bm hdct sn sub ab col dd k0 k1 k2 k3 k5 nw)) (hq : Q () ⟨h, g, d, t, os⟩) :
    wpAny M A (checkBuiltinCall nw ⟨.ref C :: rest, kw⟩) Q E ⟨h, g, d, t, os⟩ := by
  have inB : (Value.ref C :: bm).contains (.type B) = true := by
    rw [List.contains_cons, hT, F.hasB, Bool.or_true]
  have ns := F.noStar
  simp only [checkBuiltinCall, F.newKind, F.newSplit, F.newRow]
  repeat (first
    | refine wpAny_loadPart_at hC ?_
    | (refine wpAny_isSubtype_exc hC ?_; rw [inB])
    | refine wpAny_staticBase_exc hC ?_
    | refine wpAny_madeBy_exc hC ?_
    | simp only [bne_self_eq_false, Bool.false_eq_true, if_false]
    | wp_step)
  exact hq
theorem new_laid (F : ExcBaseFacts B nw ini bmB) (hT : ∀ Y : String, bm.contains (.type Y) = bmB.contains (.type Y))
    (hC : h.get? C = some (excClassObj nm q C N bs bm hdct sn sub ab col dd k0 k1 k2 k3 k5 nw)) (hrest : rest.length ≤ sizeLine)
    (hq : R (.ok (.ret (.ref (h.objs.size + 1)))) ⟨(h.push (W.kdv_tup rest)).push (fresh C h.objs.size none), g, d, t, os⟩) :
    codeAny (model prog w) A (.builtin nw ⟨.ref C :: rest, kw⟩) R ⟨h, g, d, t, os⟩ := by
  have ends := F.ends
  have inB : (Value.ref C :: bm).contains (.type B) = true := by
    rw [List.contains_cons, hT, F.hasB, Bool.or_true]
  have noA : (Value.ref C :: bm).contains (.type "AttributeError") = false := by
    rw [List.contains_cons, hT, F.noAttr]
    rfl
  have noN : (Value.ref C :: bm).contains (.type "NameError") = false := by
    rw [List.contains_cons, hT, F.noName]
    rfl
  refine codeAny_builtinAt F.entry ?_
  unfold Builtin.«BaseException.__new__»
  refine wpAt_bind ?_
  show wpAt _ _ _ (stack >>= _) _ _ _
  refine wpAt_bind (wpAt_stack fun p below => wpAt_of_wpAny ?_)
  wp_walk
  refine wpAt_of_wpAny ?_
  rw [F.owner]
  repeat (first
    | with_reducible refine wpAny_madeHere_exc F.canon hC ?_
    | with_reducible refine wpAny_loadPart_at hC ?_
    | (with_reducible refine wpAny_isSubtype_exc hC ?_; first | rw [inB] | rw [noA] | rw [noN])
    | wp_step)
  show R _ _
  rw [Heap.size_push]
  exact hq
theorem type_called (F : ExcBaseFacts B nw ini bmB) (hT : ∀ Y : String, bm.contains (.type Y) = bmB.contains (.type Y)) {fI : Addr} {Q : Fin → Shared → Prop}
    (hC : h.get? C = some (excClassObj nm q C N bs bm hdct sn sub ab col dd k0 k1 k2 k3 k5 nw)) (hrest : rest.length ≤ sizeLine)
    (hi : W.Looks (model prog w) h (typeLookup (.ref C) "__init__") (some (.ref fI)))
    (hb : ∀ self, W.Looks (model prog w) h (bindSpecial (.ref fI) self) (.ref fI, [self]))
    (hq : codeAny (model prog w) A (.call (.ref fI) ⟨.ref (h.objs.size + 1) :: rest, kw⟩)
      (fun r s1 => match r with
        | .ok (.ret v) => v = .none ∧ Q (.done (.ret (.ref (h.objs.size + 1)))) s1
        | .ok _ => False
        | .error e => E e s1)
      ⟨(h.push (W.kdv_tup rest)).push (fresh C h.objs.size none), g, d, t, os⟩) :
    wpAny (model prog w) A (Builtin.«type.__call__» ⟨.ref C :: rest, kw⟩) Q E ⟨h, g, d, t, os⟩ := by
  repeat (first
    | with_reducible refine wpAny_loadPart_at hC ?_
    | with_reducible refine wpAny_madeBy_exc hC ?_
    | wp_step)
  refine codeAny_call_builtin_code (Code.quiet_builtin _ F.quiet) (new_checked F hT hC ?_)
  refine new_laid F hT hC hrest ?_
  show wpAny _ _ _ _ _ _
  have k : ∀ b o, h.get? b = some o → ((h.push (W.kdv_tup rest)).push (fresh C h.objs.size none)).get? b = some o :=
    fun b o e => Heap.get?_push_of_some _ (Heap.get?_push_of_some _ e)
  have hC1 := k _ _ hC
  have at1 : ((h.push (W.kdv_tup rest)).push (fresh C h.objs.size none)).get? (h.objs.size + 1) = some (fresh C h.objs.size none) := by
    heap_get
  have inC : (Value.ref C :: bm).contains (.ref C) = true := by simp
  have i1 := hi.keeps k
  have b1 := (hb (.ref (h.objs.size + 1))).keeps k
  unfold isInstance
  repeat (first
    | with_reducible refine wpAny_loadPart_at at1 ?_
    | (with_reducible refine wpAny_isSubtype_exc hC1 ?_; rw [inC])
    | wp_step)
  show wpAny _ _ (typeLookup (.ref C) _) _ _ _
  refine i1.at ?_
  refine wpAny_holding (wpAny_bind (b1.at ?_))
  refine wpAny_bind (wpAny_call (codeAny_mono hq fun r s1 z => ?_))
  rcases r with e | (v | _ | _ | _) <;> first | exact z | exact z.elim | skip
  obtain ⟨rfl, z⟩ := z
  first
    | exact wpAny_pure (wpAny_pure z)
    | (wp_walk; exact z)
theorem call_checked {Q : Unit → Shared → Prop}
    (hC : h.get? C = some (excClassObj nm q C N bs bm hdct sn sub ab col dd k0 k1 k2 k3 k5 nw)) (hq : Q () ⟨h, g, d, t, os⟩) :
    wpAny M A (checkBuiltinCall "type.__call__" ⟨.ref C :: rest, kw⟩) Q E ⟨h, g, d, t, os⟩ := by
  have f3 := tc_sub
  have isT : (⟨h, g, d, t, os⟩ : Shared).TypeIs (.ref C) "type" := ⟨_, hC, rfl⟩
  simp only [checkBuiltinCall, tc_kind, tc_split]
  repeat (any_goals (first
    | assumption
    | with_reducible refine wpAny_loadPart_at hC ?_
    | with_reducible refine wpAny_onRaise ?_
    | with_reducible refine wpAny_map ?_
    | wp_step))
theorem class_called (F : ExcBaseFacts B nw ini bmB) (hT : ∀ Y : String, bm.contains (.type Y) = bmB.contains (.type Y)) {fI : Addr}
    (hC : h.get? C = some (excClassObj nm q C N bs bm hdct sn sub ab col dd k0 k1 k2 k3 k5 nw)) (hrest : rest.length ≤ sizeLine)
    (hi : W.Looks (model prog w) h (typeLookup (.ref C) "__init__") (some (.ref fI)))
    (hb : ∀ self, W.Looks (model prog w) h (bindSpecial (.ref fI) self) (.ref fI, [self]))
    (hq : codeAny (model prog w) (A.under (.builtin "type.__call__" ⟨.ref C :: rest, kw⟩)) (.call (.ref fI) ⟨.ref (h.objs.size + 1) :: rest, kw⟩)
      (W.InitBack (h.objs.size + 1) R) ⟨(h.push (W.kdv_tup rest)).push (fresh C h.objs.size none), g, d, t, os⟩) :
    codeAny (model prog w) A (.call (.ref C) ⟨rest, kw⟩) R ⟨h, g, d, t, os⟩ := by
  have f1 := tc_lookup
  have f2 := tc_bind (.ref C)
  have isT : (⟨h, g, d, t, os⟩ : Shared).TypeIs (.ref C) "type" := ⟨_, hC, rfl⟩
  refine codeAny_of_tree ?_
  show wpAny _ _ (callAny (.ref C) _) _ _ _
  repeat (any_goals (first
    | assumption
    | with_reducible refine wpAny_loadPart_at hC ?_
    | wp_step))
  refine ⟨rfl, ?_⟩
  refine codeAny_call_builtin_at (Code.quiet_builtin _ (by decide +kernel)) entry_typeCall ?_
  refine call_checked hC (type_called F hT hC hrest hi hb ?_)
  refine codeAny_mono hq fun r s1 z => ?_
  rcases r with e | (v | _ | _ | _) <;> exact z
end
end ErrV
end PySem
set_option Elab.async false
set_option linter.all false
set_option maxRecDepth 100000
set_option maxHeartbeats 4000000
namespace PySem
namespace ErrV
open PySem.W PySem.Calls PyProof.Rows
/-! ### the text of an error's __init__ -/
def eA (f : Str) (p1 p2 : Pos) : Arguments :=
  { posonlyargs := [], args := [{ arg := "self", annotation := none, pos := p1 }, { arg := f, annotation := none, pos := p2 }], vararg := none, kwonlyargs := [], kw_defaults := [], kwarg := none, defaults := [] }
def eB (f : Str) (q1 q2 q3 q4 : Pos) : List Stmt := [.Assign [.Attribute (.Name "self" q1) f q2] (.Name f q3) q4]
def eS (f : Str) : Scope :=
  { kind := .function, names := [(PySem.Str.ofString "self", .local), (f, .local)], isGenerator := false, isCoroutine := false, more := [] }
/-- what the written part says of an error's class, at C, and of its __init__, at fI -/
structure ErrC (K : Frag) (mg : Str → Option Value) (x f : Str) (C fI : Addr) (nw : String) (bmB : List Value) : Prop where
  gC : mg x = some (.ref C)
  cls : ∃ nm q N bs bm sn sub ab col dd k0 k1 k2 k3 k5,
    K.lookup C = some (excClassObj nm q C N bs bm true sn sub ab col dd k0 k1 k2 k3 k5 nw) ∧ rowOver bmB bm = true
  sa : findIn K (.ref C) "__setattr__" = some (some (.builtin "object.__setattr__"))
  noN : findIn K (.ref C) f = some none
  iC : findIn K (.ref C) "__init__" = some (some (.ref fI))
  tC : typeIn K (.ref fI) = some (.type "function")
  kC : keepIn K (.ref C) = true
  fn : ∃ (qual : Str) (oc : Value) (od : Option Addr) (doc pm : Value) (an : Option Addr) (cdv ct : Value) (osl : Array (Option Value)) (p1 p2 q1 q2 q3 q4 : Pos),
    K.lookup fI = some ⟨oc, od, .func (fnOf "__init__" qual (eA f p1 p2) (eB f q1 q2 q3 q4) (eS f) .none .none doc pm an cdv ct), osl⟩ ∧ codeIn K cdv qual = true
theorem ldL {M : Model} {s : Shared} {name : Str} {scope : Scope} {L a : Addr} {cd : Value} {m : Str → Option Value} {x : Str} {pos : Pos} {v : Value}
    {Q : Value → Shared → Prop} {A : Around} {E : Value → Shared → Prop} (hn : s.heap.Ns L m) (hv : m x = some v) (h : Q v s)
    (hk : scope.kind = .function := by rfl) (hl : (envOfC name scope L a cd).kindOf x = some .local := by rfl) (hd : (x == ("__debug__" : Str)) = false := by decide) :
    wpAny M A (eval (.Name x pos) (envOfC name scope L a cd)) Q E s :=
  wpAny_Name (wpAny_loadName_local hk hl hn hv h) hd
section
variable {prog : Program} {w : World} {A : Around} {E : Value → Shared → Prop} {R : Result → Shared → Prop} {s : Shared}
variable {K : Frag} {mg : Str → Option Value} {n f : Str} {C fI : Addr} {B nw ini : String} {bmB : List Value}
/-- __init__(self, f): self.f = f -/
theorem init_run (hf : f = "given" ∨ f = "index") (T : ErrC K mg n f C fI nw bmB) (Bo : BaseOk B nw ini bmB) {x t0 : Addr} {v : Value} {args : Args}
    (hargs : args = ⟨[.ref x, v], []⟩ ∨ args = ⟨[.ref x], [(f, v)]⟩)
    (X : K.In s.heap) (hlim : s.heap.NoLimit) (hx : s.heap.get? x = some (fresh C t0 none)) (hroom : A.depth < recursionLimit)
    (hq : ∀ h1 tk dx, (∀ b o, b ≠ x → s.heap.get? b = some o → h1.get? b = some o) → h1.get? x = some (fresh C t0 (some dx)) → s.heap.objs.size ≤ dx → dx ≠ x →
      h1.Ns1 dx (fun y => if y = f then some v else none) → R (.ok (.ret .none)) { s with heap := h1, toks := tk }) :
    codeAny (model prog w) A (.call (.ref fI) args) R s := by
  obtain ⟨qual, oc, od, doc, pm, an, cdv, ct, osl, p1, p2, q1, q2, q3, q4, ho, hcd⟩ := T.fn
  obtain ⟨nm, q, N, bs, bm, sn, sub, ab, col, dd, k0, k1, k2, k3, k5, hC, hbm⟩ := T.cls
  have hcl : clsIn K C = some { name := nm, bases := bs, mro := .ref C :: bm, ns := N, qualname := q, hasDict := true, slotNames := sn, subclasses := sub, abstract := ab, collection := col, hasDel := false } := by
    unfold clsIn
    rw [hC] <;> rfl
  have noN := T.noN
  have sa := T.sa
  clear T hC
  rcases hf with rfl | rfl
  · refine Att.call_fn (binds := [("self", .ref x), ("given", v)]) X hlim ho hcd hroom ?_ (by first | rfl | decide | with_unfolding_all rfl) (fun s1 IC => ?_) rfl rfl rfl
    · rcases hargs with rfl | rfl
      · exact BindsTo.of_eq (by first | rfl | with_unfolding_all rfl)
      · exact BindsTo.of_eq (by first | rfl | with_unfolding_all rfl)
    · obtain ⟨h1, tk1, rfl⟩ := IC.toInCall.same
      have k : ∀ b o, s.heap.get? b = some o → h1.get? b = some o := IC.toInCall.keep
      have hn := IC.toInCall.ns
      have far : s.heap.objs.size ≠ x := Nat.ne_of_gt (Heap.lt_size hx)
      have X1 : K.In h1 := X.keeps k
      have hx1 := k _ _ hx
      show wpAny _ _ (execs _ _) _ _ _
      refine wpAny_execs_cons (plainObj_wpAny_Assign_Attribute ?_)
      refine ldL (v := v) hn (by first | rfl | with_unfolding_all rfl | kernel_rfl) ?_
      refine ldL (v := .ref x) hn (by first | rfl | with_unfolding_all rfl | kernel_rfl) ?_
      refine set_plain X1 (ox := fresh C t0 none) (od := none) ⟨hx1, rfl, rfl, trivial⟩ sa ?_
      refine put_first Bo X1 hx1 hcl (show rowOver bmB (.ref C :: bm) = true from hbm) rfl noN (fun h3 tk3 dx k3 big ne hx3 hn3 => ?_)
      show wpAny _ _ (execs _ _) _ _ _
      have z : s.heap.objs.size < h1.objs.size := hn.lt
      exact wpAny_execs_nil (hq h3 tk3 dx (fun b o hb e => k3 b o hb (k b o e)) hx3 (Nat.le_of_lt (Nat.lt_of_lt_of_le z big)) ne hn3)
  · refine Att.call_fn (binds := [("self", .ref x), ("index", v)]) X hlim ho hcd hroom ?_ (by first | rfl | decide | with_unfolding_all rfl) (fun s1 IC => ?_) rfl rfl rfl
    · rcases hargs with rfl | rfl
      · exact BindsTo.of_eq (by first | rfl | with_unfolding_all rfl)
      · exact BindsTo.of_eq (by first | rfl | with_unfolding_all rfl)
    · obtain ⟨h1, tk1, rfl⟩ := IC.toInCall.same
      have k : ∀ b o, s.heap.get? b = some o → h1.get? b = some o := IC.toInCall.keep
      have hn := IC.toInCall.ns
      have far : s.heap.objs.size ≠ x := Nat.ne_of_gt (Heap.lt_size hx)
      have X1 : K.In h1 := X.keeps k
      have hx1 := k _ _ hx
      show wpAny _ _ (execs _ _) _ _ _
      refine wpAny_execs_cons (plainObj_wpAny_Assign_Attribute ?_)
      refine ldL (v := v) hn (by first | rfl | with_unfolding_all rfl | kernel_rfl) ?_
      refine ldL (v := .ref x) hn (by first | rfl | with_unfolding_all rfl | kernel_rfl) ?_
      refine set_plain X1 (ox := fresh C t0 none) (od := none) ⟨hx1, rfl, rfl, trivial⟩ sa ?_
      refine put_first Bo X1 hx1 hcl (show rowOver bmB (.ref C :: bm) = true from hbm) rfl noN (fun h3 tk3 dx k3 big ne hx3 hn3 => ?_)
      show wpAny _ _ (execs _ _) _ _ _
      have z : s.heap.objs.size < h1.objs.size := hn.lt
      exact wpAny_execs_nil (hq h3 tk3 dx (fun b o hb e => k3 b o hb (k b o e)) hx3 (Nat.le_of_lt (Nat.lt_of_lt_of_le z big)) ne hn3)
/-- a made error: at e, its dict at d -/
structure Made (h h1 : Heap) (e C d : Addr) (f : Str) (v : Value) : Prop where
  keep : ∀ b o, h.get? b = some o → h1.get? b = some o
  big : h.objs.size ≤ e
  obj : ∃ u, h1.get? e = some (fresh C u (some d))
  dbig : h.objs.size ≤ d
  ne : d ≠ e
  ns : h1.Ns1 d (fun y => if y = f then some v else none)
theorem err_made (hf : f = "given" ∨ f = "index") (T : ErrC K mg n f C fI nw bmB) (Bo : BaseOk B nw ini bmB) {v : Value} {rest : List Value} {kw : List (Str × Value)}
    (hargs : (rest = [v] ∧ kw = []) ∨ (rest = [] ∧ kw = [(f, v)])) (X : K.In s.heap) (hlim : s.heap.NoLimit) (hroom : A.depth + 1 < recursionLimit)
    (hq : ∀ h1 tk e d, Made s.heap h1 e C d f v → R (.ok (.ret (.ref e))) { s with heap := h1, toks := tk }) :
    codeAny (model prog w) A (.call (.ref C) ⟨rest, kw⟩) R s := by
  obtain ⟨nm, q, N, bs, bm, sn, sub, ab, col, dd, k0, k1, k2, k3, k5, hC, hbm⟩ := T.cls
  obtain ⟨hp, g, dr, tk, os⟩ := s
  have sz : rest.length ≤ sizeLine := by
    rw [sizeLine_eq]
    rcases hargs with ⟨rfl, _⟩ | ⟨rfl, _⟩
    · exact (by decide : 1 ≤ 16777216)
    · exact (by decide : 0 ≤ 16777216)
  have k : ∀ b o, hp.get? b = some o → ((hp.push (kdv_tup rest)).push (fresh C hp.objs.size none)).get? b = some o :=
    fun b o e => Heap.get?_push_of_some _ (Heap.get?_push_of_some _ e)
  have at1 : ((hp.push (kdv_tup rest)).push (fresh C hp.objs.size none)).get? (hp.objs.size + 1) = some (fresh C hp.objs.size none) := by heap_get
  refine class_called Bo.F (fun Y => rowOver_has Bo Y bm hbm) (X _ _ hC) sz (looks_findIn X T.iC) (fun self => bind_fn X self T.tC) ?_
  refine init_run (s := ⟨(hp.push (kdv_tup rest)).push (fresh C hp.objs.size none), g, dr, tk, os⟩) (x := hp.objs.size + 1) hf T Bo (v := v) ?_ (X.keeps k) (hlim.keeps k) at1 ?_ ?_
  · rcases hargs with ⟨rfl, rfl⟩ | ⟨rfl, rfl⟩
    · exact .inl rfl
    · exact .inr rfl
  · rw [L2.make_depth]
    exact hroom
  · intro h1 tk1 dx k1 hx big ne hns
    have old : ∀ b o, hp.get? b = some o → h1.get? b = some o :=
      fun b o e => k1 b o (Nat.ne_of_lt (Nat.lt_succ_of_lt (Heap.lt_size e))) (k b o e)
    have z : hp.objs.size + 1 + 1 ≤ dx := by
      have q := big
      simp only [Heap.size_push] at q
      exact q
    exact ⟨rfl, hq h1 tk1 (hp.objs.size + 1) dx ⟨old, Nat.le_succ _, ⟨_, hx⟩, Nat.le_trans (Nat.le_trans (Nat.le_succ _) (Nat.le_succ _)) z, ne, hns⟩⟩
end
/-! ### an error whose __init__ does nothing -/
def eA0 (p1 : Pos) : Arguments :=
  { posonlyargs := [], args := [{ arg := "self", annotation := none, pos := p1 }], vararg := none, kwonlyargs := [], kw_defaults := [], kwarg := none, defaults := [] }
def eS0 : Scope := { kind := .function, names := [(PySem.Str.ofString "self", .local)], isGenerator := false, isCoroutine := false, more := [] }
structure PassC (K : Frag) (mg : Str → Option Value) (x : Str) (C fI : Addr) (nw : String) (bmB : List Value) : Prop where
  gC : mg x = some (.ref C)
  cls : ∃ nm q N bs bm sn sub ab col dd k0 k1 k2 k3 k5,
    K.lookup C = some (excClassObj nm q C N bs bm true sn sub ab col dd k0 k1 k2 k3 k5 nw) ∧ rowOver bmB bm = true
  iC : findIn K (.ref C) "__init__" = some (some (.ref fI))
  tC : typeIn K (.ref fI) = some (.type "function")
  kC : keepIn K (.ref C) = true
  fn : ∃ (qual : Str) (oc : Value) (od : Option Addr) (doc pm : Value) (an : Option Addr) (cdv ct : Value) (osl : Array (Option Value)) (p1 q1 : Pos),
    K.lookup fI = some ⟨oc, od, .func (fnOf "__init__" qual (eA0 p1) [.Pass q1] eS0 .none .none doc pm an cdv ct), osl⟩ ∧ codeIn K cdv qual = true
section
variable {prog : Program} {w : World} {A : Around} {E : Value → Shared → Prop} {R : Result → Shared → Prop} {s : Shared}
variable {K : Frag} {mg : Str → Option Value} {n : Str} {C fI : Addr} {B nw ini : String} {bmB : List Value}
theorem pass_made (T : PassC K mg n C fI nw bmB) (Bo : BaseOk B nw ini bmB) (X : K.In s.heap) (hlim : s.heap.NoLimit) (hroom : A.depth + 1 < recursionLimit)
    (hq : ∀ h1 tk e u, (∀ b o, s.heap.get? b = some o → h1.get? b = some o) → s.heap.objs.size ≤ e → h1.get? e = some (fresh C u none) → R (.ok (.ret (.ref e))) { s with heap := h1, toks := tk }) :
    codeAny (model prog w) A (.call (.ref C) ⟨[], []⟩) R s := by
  obtain ⟨nm, q, N, bs, bm, sn, sub, ab, col, dd, k0, k1, k2, k3, k5, hC, hbm⟩ := T.cls
  obtain ⟨qual, oc, od, doc, pm, an, cdv, ct, osl, p1, q1, ho, hcd⟩ := T.fn
  obtain ⟨hp, g, dr, tk, os⟩ := s
  have k : ∀ b o, hp.get? b = some o → ((hp.push (kdv_tup [])).push (fresh C hp.objs.size none)).get? b = some o :=
    fun b o e => Heap.get?_push_of_some _ (Heap.get?_push_of_some _ e)
  have at1 : ((hp.push (kdv_tup [])).push (fresh C hp.objs.size none)).get? (hp.objs.size + 1) = some (fresh C hp.objs.size none) := by heap_get
  refine class_called Bo.F (fun Y => rowOver_has Bo Y bm hbm) (X _ _ hC) (by rw [sizeLine_eq]; exact (by decide : 0 ≤ 16777216)) (looks_findIn X T.iC) (fun self => bind_fn X self T.tC) ?_
  have room1 : (A.under (.builtin "type.__call__" ⟨.ref C :: [], []⟩)).depth < recursionLimit := by
    rw [L2.make_depth]
    exact hroom
  refine Att.call_fn (s := ⟨(hp.push (kdv_tup [])).push (fresh C hp.objs.size none), g, dr, tk, os⟩) (binds := [("self", .ref (hp.objs.size + 1))]) (X.keeps k) (hlim.keeps k) ho hcd room1 (BindsTo.of_eq (by first | rfl | with_unfolding_all rfl))
    (by first | rfl | decide | with_unfolding_all rfl) (fun s1 IC => ?_) rfl rfl rfl
  obtain ⟨h1, tk1, rfl⟩ := IC.toInCall.same
  have kk : ∀ b o, ((hp.push (kdv_tup [])).push (fresh C hp.objs.size none)).get? b = some o → h1.get? b = some o := IC.toInCall.keep
  show wpAny _ _ (execs [.Pass q1] _) _ _ _
  refine wpAny_execs_cons ?_
  have fin : InitBack (hp.objs.size + 1) R (.ok (.ret .none)) ⟨h1, g, dr, tk1, os⟩ :=
    ⟨rfl, hq h1 tk1 (hp.objs.size + 1) hp.objs.size (fun b o e => kk b o (k b o e)) (Nat.le_succ _) (kk _ _ at1)⟩
  first
    | exact wpAny_Pass (wpAny_execs_nil fin)
    | (wp_walk; exact fin)
end
end ErrV
end PySem
set_option Elab.async false
set_option linter.all false
set_option maxRecDepth 100000
set_option maxHeartbeats 4000000
/-! The hand layer's rules for errors held as values. -/
namespace L2
open PySem PySem.Spec PyProof.Rows PySem.ErrV
section
variable {fs ex : List Addr} {H : Hp} {h h1 : Heap} {a b : Addr} {o u : HO}
/-- two new objects at once -/
theorem Un.two (k : ∀ c z, h.get? c = some z → h1.get? c = some z) (ha : h.objs.size ≤ a) (hb : h.objs.size ≤ b) (na : H a = none) (nb : H b = none) :
    Un fs ex H (upd (upd H a o) b u) h h1 := by
  have oa : ∀ {c : Addr} {z : Obj}, h.get? c = some z → c ≠ a := fun {c z} q => Nat.ne_of_lt (Nat.lt_of_lt_of_le (Heap.lt_size q) ha)
  have ob : ∀ {c : Addr} {z : Obj}, h.get? c = some z → c ≠ b := fun {c z} q => Nat.ne_of_lt (Nat.lt_of_lt_of_le (Heap.lt_size q) hb)
  exact {
    keep := fun c z q _ _ _ => k c z q
    slot := fun c z q _ _ _ => ⟨z.slots, k c z q⟩
    free := fun c z q n _ => by
      rw [upd_ne (ob q), upd_ne (oa q)]
      exact n
    there := fun c z q _ => ⟨z, k c z q⟩
    tups := fun c xs q => by
      rw [upd_ne (ne_of_none q nb), upd_ne (ne_of_none q na)]
      exact q
    frzs := fun c z xs q => by
      rw [upd_ne (ne_of_none q nb), upd_ne (ne_of_none q na)]
      exact q
    tbls := fun c ps q => ⟨#[], by
      rw [upd_ne (ne_of_none q nb), upd_ne (ne_of_none q na), q]
      simp⟩ }
theorem HOk.two {P : Program} {w : World} (x : HOk P w H h) (k : ∀ c z, h.get? c = some z → h1.get? c = some z) (na : H a = none) (nb : H b = none) (ne : a ≠ b)
    (oka : ObjOk P w (upd (upd H a o) b u) h1 a o) (okb : ObjOk P w (upd (upd H a o) b u) h1 b u) : HOk P w (upd (upd H a o) b u) h1 := fun c z e => by
  by_cases cb : c = b
  · subst cb
    rw [upd_same] at e
    cases e
    exact okb
  · rw [upd_ne cb] at e
    by_cases ca : c = a
    · subst ca
      rw [upd_same] at e
      cases e
      exact oka
    · rw [upd_ne ca] at e
      have up : ∀ {y : Addr} {v : HO}, H y = some v → upd (upd H a o) b u y = some v := fun {y v} q => by
        rw [upd_ne (ne_of_none q nb), upd_ne (ne_of_none q na)]
        exact q
      exact (x c z e).stay (fun y v _ q => k y v q) (fun y q => up q) fun y xs q => up q
end
section
variable {X : Cx} {C fI : Addr} {x f : Str} {B nw ini : String} {bmB : List Value} {e : Expr} {p pos : Pos} {te : TE}
/-- C(e): a new error whose dict has the one field -/
def tErr (C : Addr) (f : Str) (te : TE) : TE := fun σ H Q => te σ H fun v H1 => ∀ a d, H1 a = none → H1 d = none → d ≠ a → Q (.ref a) (upd (upd H1 d (exd d [(f, v)])) a (exo a C (some d)))
theorem err_end {pins : List (Addr × Obj)} {σ : St} {H1 : Hp} {s1 : Shared} {h1 : Heap} {tk : Nat} {a d : Addr} {y : V} {u : Value} {Q : VK} (I : Inv X pins σ H1 s1) (ry : RelV y u) (m : Made s1.heap h1 a C d f u)
    (q : ∀ a d, H1 a = none → H1 d = none → d ≠ a → Q (.ref a) (upd (upd H1 d (exd d [(f, y)])) a (exo a C (some d)))) : EP X pins σ Q (.ref a) { s1 with heap := h1, toks := tk } := by
  have na : H1 a = none := I.hok.fresh m.big
  have nd : H1 d = none := I.hok.fresh m.dbig
  obtain ⟨t, ob⟩ := m.obj
  refine ⟨.ref a, _, I.un (t' := tk) (Un.two m.keep m.dbig m.big nd na) (I.hok.two m.keep nd na m.ne ?_ (exo_ok ob)), rfl, q a d na nd m.ne⟩
  exact exd_ok m.ns (relO_put (fs := []) ry fun g => True.intro)
theorem pe_err (hf : f = "given" ∨ f = "index") (T : ErrC X.K X.mg x f C fI nw bmB) (Bo : BaseOk B nw ini bmB) (hr : Room 1 X.A) (hg : Gl X x) (he : PE X e te)
    (hs : starEach [e] X.env = (false, eval e X.env) :: starEach [] X.env := by rfl) (hdb : (x == ("__debug__" : Str)) = false := by decide) :
    PE X (.Call (.Name x p) [e] [] pos) (tErr C f te) := by
  refine ⟨fun pins s σ H Q I h => ?_⟩
  refine wpAny_Call_Name_kw (ld_glob I hg T.gC ?_ hdb)
  refine PySem.W.callWith_K (h₀ := X.base) I.ok.mod.kin T.kC ?_ hs (by rfl)
  rw [hs]
  show wpAny _ _ (spliced ((false, eval e X.env) :: backTo pos (starEach [] X.env))) _ _ s
  refine Calls.spliced_cons (thn (he.run pins s σ H _ I h) fun u s1 ⟨v, H1, I1, r1, q1⟩ => ?_)
  refine Calls.spliced_nil ⟨I1.kIn, ?_⟩
  show wpAny _ _ (call (.ref C) [u]) _ _ _
  refine wpAny_call (err_made hf T Bo (v := u) (.inl ⟨rfl, rfl⟩) I1.kIn I1.nolimit (by have := hr.dp; omega) fun h1 tk a d m => ?_)
  exact err_end I1 r1 m q1
theorem pe_errK {kpos : Pos} (hf : f = "given" ∨ f = "index") (T : ErrC X.K X.mg x f C fI nw bmB) (Bo : BaseOk B nw ini bmB) (hr : Room 1 X.A) (hg : Gl X x) (he : PE X e te)
    (hall : (backToKw pos (keywordEach [⟨some f, e, kpos⟩] X.env)).all (·.1.isSome) = true := by rfl) (hks : (backToKw pos (keywordEach [⟨some f, e, kpos⟩] X.env)).filterMap (·.1) = [f] := by rfl)
    (hpl : ((backTo pos (starEach [] X.env)).any (·.1) || (backToKw pos (keywordEach [⟨some f, e, kpos⟩] X.env)).any (·.1.isNone)) = false := by rfl) (hdb : (x == ("__debug__" : Str)) = false := by decide) :
    PE X (.Call (.Name x p) [] [⟨some f, e, kpos⟩] pos) (tErr C f te) := by
  refine ⟨fun pins s σ H Q I h => ?_⟩
  refine wpAny_Call_Name_kw (ld_glob I hg T.gC ?_ hdb)
  refine PySem.W.callWith_KW0 (h₀ := X.base) I.ok.mod.kin T.kC hall ?_ hpl
  have hk : PK X [⟨some f, e, kpos⟩] (tCons te tNil) := pk_cons he pk_nil
  refine thn (hk.run pos pins s σ H (fun zs H2 => match zs with
    | [v] => ∀ a d, H2 a = none → H2 d = none → d ≠ a → Q (.ref a) (upd (upd H2 d (exd d [(f, v)])) a (exo a C (some d)))
    | _ => False) I h) fun ws s2 ⟨zs, H2, I2, rz, q2⟩ => ⟨I2.kIn, ?_⟩
  rw [hks]
  cases rz with
  | nil => exact q2.elim
  | @cons v u vs us rv rr =>
    cases rr with
    | cons _ _ => exact q2.elim
    | nil =>
      show wpAny _ _ (call (.ref C) [] [(f, u)]) _ _ _
      refine wpAny_call (err_made hf T Bo (v := u) (.inr ⟨rfl, rfl⟩) I2.kIn I2.nolimit (by have := hr.dp; omega) fun h1 tk a d m => ?_)
      exact err_end I2 rv m q2
end
section
variable {X : Cx} {e : Expr} {f : Str} {pos : Pos} {te : TE}
/-- e.f, e an error -/
def tEf (K : PySem.W.Frag) (f : Str) (te : TE) : TE := fun σ H Q => te σ H fun x H1 => ∃ (a C d : Addr) (fs : List (Str × V)) (v : V), x = .ref a ∧ XfC K C ∧ PySem.W.findIn K (.ref C) f = some none ∧
  H1 a = some (exo a C (some d)) ∧ H1 d = some (exd d fs) ∧ fs.lookup f = some v ∧ Q v H1
theorem pe_ef (he : PE X e te) (hb : attributeBase e f X.env (eval e X.env) = eval e X.env := by rfl) : PE X (.Attribute e f pos) (tEf X.K f te) := by
  refine ⟨fun pins s σ H Q I h => ?_⟩
  refine attr_of hb (thn (he.run pins s σ H _ I h) fun u s1 hh => ?_)
  obtain ⟨x, H1, I1, rx, a, C, d, fs, v, ex, T, hno, ea, ed, l, q⟩ := hh
  subst ex
  obtain rfl : u = Value.ref a := rx
  obtain ⟨t1, ho⟩ := exo_at I1.hok ea
  obtain ⟨mA, hns, hr⟩ := exd_at I1.hok ed
  obtain ⟨od, hd, hl⟩ := lookIn_ns hns
  obtain ⟨u, hu, ru⟩ := RelO.some_of (v := v) (o := mA f) (by rw [← l]; exact hr f)
  have J : PySem.W.InstAt s1.heap a _ C (some od) := ⟨ho, rfl, rfl, hd⟩
  exact HandSPX.exc_get I1.kIn J T.ga T.gg T.exC (PySem.W.findObj_own T.hdC hno rfl (by rw [hl, hu])) (handed_of ru) ⟨v, H1, I1.tok _, ru, q⟩
end
/-! ### isinstance of such a value -/
end L2
namespace PySem.W
open PySem PySem.Spec PySem.Calls PyProof.Rows
section
variable {prog : Program} {w : World} {A : Around} {E : Value → Shared → Prop} {s : Shared} {K : Frag} {x D : Addr} {ox : Obj} {od : Option Obj}
theorem data_found {C : Addr} {name : Str} {a g : Value} (hc : (clsIn K C).isSome = true) (ha : findIn K (.ref C) name = some (some a)) (hg : specialIn K a "__get__" = some (some g))
    (ht : takesIn K a = some true) : findObj K C od name = some (.bind g a) := by
  obtain ⟨cd, e⟩ := Option.isSome_iff_exists.mp hc
  unfold findObj
  rw [e, Option.bind_some, ha, Option.bind_some]
  simp only [hg, ht, Option.bind_some]
theorem errv_class {Q : Option Value → Shared → Prop} (c : L2.ExcC K D) (X : K.In s.heap) (I : InstAt s.heap x ox D od) (h : Q (some (.ref D)) { s with toks := s.toks + 1 }) :
    wpAny (model prog w) A (getAttr? (.ref x) "__class__") Q E s := by
  have hf : findObj K D od "__class__" = some (.bind (.builtin "getset_descriptor.__get__") (.builtin "object.__class__")) :=
    data_found (by obtain ⟨cd, hc, _⟩ := any_some c.hd; rw [hc]; rfl) c.ha c.hn c.ht
  obtain ⟨hp, g, d, t, os⟩ := s
  have ty := I.type (M := model prog w)
  have ga := looks_findIn (M := model prog w) X c.hg
  have gt := looks_findIn (M := model prog w) X c.hk
  have fd := looks_find (M := model prog w) X I hf
  have isB : Looks (model prog w) hp (isInstance (.ref x) (.type "BaseException")) true := ty.andThen (looks_subIn X c.hs)
  have n0 : (false && onTheHeap (Value.builtin "BaseException.__getattribute__")) = false := rfl
  have n2 : (Value.builtin "BaseException.__getattribute__" == Value.builtin "object.__getattribute__") = false := by decide +kernel
  have n1 : (onTheHeap (Value.ref D) && Value.builtin "BaseException.__getattribute__" == Value.builtin "object.__getattribute__") = false := by
    rw [n2]
    rfl
  unfold getAttr? getAttrBy? getAttrBy
  refine wpAny_bind (wpAny_mkText (wpAny_bind (wpAny_attempt (wpAny_holding (wpAny_bind (ty.at (wpAny_bind (ga.at ?_))))))))
  show wpAny _ _ (if (onTheHeap (Value.ref D) && Value.builtin "BaseException.__getattribute__" == Value.builtin "object.__getattribute__") = true then _ else _) _ _ _
  rw [n1, if_neg Bool.false_ne_true]
  unfold getAttrByItsOwn hookBefore
  refine wpAny_bind ?_
  rw [if_pos (show onTheHeap (Value.ref D) = true from rfl)]
  refine gt.at ?_
  refine wpAny_bind (wpAny_attempt (wpAny_holding ?_))
  unfold callGetattribute
  rw [n0, if_neg Bool.false_ne_true]
  unfold boundAndCalled
  rw [PySem.F.excAttr_ValueError.ga.bind (.ref x)]
  refine wpAny_bind (wpAny_pure ?_)
  show wpAny _ _ (call (.builtin "BaseException.__getattribute__") [.ref x, .str "__class__" t]) _ _ _
  refine wpAny_call (codeAny_call_builtin PySem.F.excAttr_ValueError.ga.plain PySem.F.entry_bexc_ga ?_)
  refine @check_slot (model prog w) _ _ ⟨hp, g, d, t + 1, os⟩ "BaseException.__getattribute__" "BaseException" "__getattribute__" (.ref x)
    [.str "__class__" t] [] _ (by decide +kernel) (by decide +kernel) isB (PySem.F.args_bexc_ga (.ref x) (.str "__class__" t)) ?_
  unfold Builtin.«object.__getattribute__»
  refine wpAny_bind (wpAny_of_eq (a := ((Value.ref x : Value), [Value.str "__class__" t])) (by first | rfl | (simp only [slotArgs]; rfl)) ?_)
  refine wpAny_bind (wpAny_pure (wpAny_bind (ty.at (wpAny_bind (fd.at ?_)))))
  show wpAny _ _ (holding [Value.builtin "object.__class__"] (call (.builtin "getset_descriptor.__get__") [.builtin "object.__class__", .ref x, .ref D]) >>= ret) _ _ _
  refine wpAny_bind (wpAny_holding (wpAny_call (class_get (s := ⟨hp, g, d, t + 1, os⟩) (ox := ox) (od := od) X I c.hm ?_)))
  refine wpAny_pure ?_
  show wpAny _ _ (handedOut (.ref D)) _ _ _
  rw [handedOut_of (v := .ref D) rfl]
  first
    | exact wpAny_pure (wpAny_pure h)
    | exact wpAny_pure h
    | exact wpAny_pure (wpAny_bind (wpAny_pure (wpAny_pure h)))
theorem errv_kit (c : L2.ExcC K D) : KitX K (.ref x) (.ref D) (fun h => ∃ ox od, InstAt h x ox D od) where
  ty := fun _ _ _ ⟨_, _, I⟩ => I.type
  it := fun _ _ X _ => by
    obtain ⟨cd, hc, _⟩ := any_some c.hd
    unfold clsIn at hc
    split at hc
    · rename_i ho
      intro A1 Q1 E1 s1 k q
      unfold isType loadHead
      exact wpAny_bind (wpAny_loadPart (k _ _ (X _ _ ho)) (wpAny_pure q))
    · cases hc
  ne := fun h tp dd its n sl X htp => by
    obtain ⟨cd, hc, _⟩ := any_some c.hd
    refine Bool.eq_false_iff.mpr fun q => ?_
    have e : D = tp := Value.ref.inj (beq_iff_eq.mp q)
    subst e
    unfold clsIn at hc
    split at hc
    · rename_i ho
      have z := (X _ _ ho).symm.trans htp
      cases z
    · cases hc
  ca := fun X ⟨_, _, I⟩ k => errv_class c X I k
end
end PySem.W
namespace L2
open PySem PySem.Spec PyProof.Rows PySem.ErrV
/-- isinstance(e, c), e an error that is held as a value -/
def rIsErr (K : PySem.W.Frag) : List V → Hp → VK → Prop := fun xs H Q => ∃ (a C : Addr) (d : Option Addr) (c : V) (cv : Value) (b : Bool), xs = [.ref a, c] ∧ H a = some (exo a C d) ∧ (∀ z, d = some z → ∃ fs, H z = some (exd z fs)) ∧ ExcC K C ∧
  ClsV c cv ∧ PySem.W.kitOne K (.ref C) cv = some b ∧ Q (.bl b) H
theorem call_isErr {X : Cx} : CallR X (.builtin "isinstance") (rIsErr X.K) := by
  intro pins s σ H xs us Q I r h
  obtain ⟨a, C, d, c, cv, b, rfl, ea, hd, c0, hcv, e, q⟩ := h
  cases r with
  | cons rx rr =>
    cases rr with
    | cons rt rr =>
      cases rr
      cases rx
      obtain ⟨t1, ho⟩ := exo_at I.hok ea
      have J : ∃ ox od, PySem.W.InstAt s.heap a ox C od := by
        cases d with
        | none => exact ⟨_, none, ho, rfl, rfl, trivial⟩
        | some z =>
          obtain ⟨o, eo⟩ := hd z rfl
          obtain ⟨_, ⟨oz, _, _, gz, _⟩, _⟩ := exd_at I.hok eo
          exact ⟨_, some oz, ho, rfl, rfl, gz⟩
      have ec := hcv.eq rt
      subst ec
      exact PySem.W.kia_one (PySem.W.errv_kit c0) I.kIn J e (fun z => nomatch z) fun tk => ⟨.bl b, H, I.kept (t' := tk) fun _ _ z => z, rfl, q⟩
end L2
set_option Elab.async false
set_option linter.all false
set_option maxRecDepth 100000
set_option maxHeartbeats 4000000
/-! repr of data that the hand layer tracks. -/
namespace L2
open PySem PySem.Spec PyProof.Rows
mutual
/-- x is the datum d, its lists and tuples standing in H -/
def rp (H : Hp) : PyData → V → Prop
  | .none, x => x = .non
  | .bool b, x => x = .bl b
  | .int i, x => x = .int i
  | .str z, x => x = .str z
  | .list ds, x => ∃ (a : Addr) (xs : List V), x = .ref a ∧ H a = some (.lst xs) ∧ rpAll H ds xs
  | .tuple ds, x => ∃ (a : Addr) (xs : List V), x = .ref a ∧ H a = some (.tup xs) ∧ rpAll H ds xs
  | .dict _, _ => False
def rpAll (H : Hp) : List PyData → List V → Prop
  | [], xs => xs = []
  | d :: ds, xs => ∃ (y : V) (ys : List V), xs = y :: ys ∧ rp H d y ∧ rpAll H ds ys
end
section
variable {P : Program} {w : World} {H : Hp} {h : Heap}
mutual
theorem rp_reads (ok : HOk P w H h) : ∀ (d : PyData) (x : V) (u : Value), rp H d x → RelV x u → d.hasDict = false ∧ ∃ as, Reads h u d as
  | .none, x, u, e, r => by
    unfold rp at e
    subst e
    obtain rfl : u = Value.none := r
    exact ⟨rfl, _, .none⟩
  | .bool b, x, u, e, r => by
    unfold rp at e
    subst e
    obtain rfl : u = Value.bool b := r
    exact ⟨rfl, _, .bool b⟩
  | .int i, x, u, e, r => by
    unfold rp at e
    subst e
    obtain ⟨t, rfl⟩ : ∃ t, u = Value.int i t := r
    exact ⟨rfl, _, .int i t⟩
  | .str z, x, u, e, r => by
    unfold rp at e
    subst e
    obtain ⟨t, rfl⟩ : ∃ t, u = Value.str z t := r
    exact ⟨rfl, _, .str z t⟩
  | .list ds, x, u, e, r => by
    unfold rp at e
    obtain ⟨a, xs, rfl, ea, q⟩ := e
    obtain rfl : u = Value.ref a := r
    obtain ⟨_, its, n, rv, g⟩ := (show ObjOk P w H h a (.lst xs) from ok a _ ea)
    obtain ⟨nd, as, R⟩ := rpAll_reads ok ds xs its q rv
    exact ⟨by simpa only [PyData.hasDict] using nd, _, .list g rfl rfl (by simpa using R)⟩
  | .tuple ds, x, u, e, r => by
    unfold rp at e
    obtain ⟨a, xs, rfl, ea, q⟩ := e
    obtain rfl : u = Value.ref a := r
    obtain ⟨_, its, rv, o, g, c, n, dd⟩ := (show ObjOk P w H h a (.tup xs) from ok a _ ea)
    obtain ⟨nd, as, R⟩ := rpAll_reads ok ds xs its q rv
    exact ⟨by simpa only [PyData.hasDict] using nd, _, .tuple g c dd (by simpa using R)⟩
  | .dict _, x, u, e, r => by
    unfold rp at e
    exact e.elim
theorem rpAll_reads (ok : HOk P w H h) : ∀ (ds : List PyData) (xs : List V) (us : List Value), rpAll H ds xs → Vals xs us → PyData.hasDictAll ds = false ∧ ∃ as, ReadsAll h us ds as
  | [], xs, us, e, r => by
    unfold rpAll at e
    subst e
    cases r
    exact ⟨rfl, _, .nil⟩
  | d :: ds, xs, us, e, r => by
    unfold rpAll at e
    obtain ⟨y, ys, rfl, e1, e2⟩ := e
    cases r with
    | cons r1 r2 =>
      obtain ⟨n1, as, R1⟩ := rp_reads ok d y _ e1 r1
      obtain ⟨n2, bs, R2⟩ := rpAll_reads ok ds ys _ e2 r2
      exact ⟨by simp only [PyData.hasDictAll, n1, n2, Bool.or_self], _, .cons R1 R2⟩
end
/-- a key of a dict as a datum -/
def kdat0 : Key → PyData
  | .inl i => .int i
  | .inr z => .str z
/-- a dict whose values are flat -/
def rpD (H : Hp) (d : PyData) (x : V) : Prop := ∃ (a : Addr) (kvs : List (Key × V)) (ds : List (PyData × PyData)), x = .ref a ∧ H a = some (.dK kvs) ∧ d = .dict ds ∧
  Paired (fun (p : Key × V) (q : PyData × PyData) => q.1 = kdat0 p.1 ∧ rp (fun _ => none) q.2 p.2) kvs ds
theorem key_reads {k : Key} {v : Value} (e : keyIs k v = true) : Reads h v (kdat0 k) [] := by
  rcases keyIs_shape e with ⟨i, t, rfl, rfl⟩ | ⟨z, t, rfl, rfl⟩
  · exact .int i t
  · exact .str z t
theorem nothing_ok : HOk P w (fun _ => none) h := fun a o e => by cases e
/-- flat data stand nowhere -/
theorem flat_reads {d : PyData} {x : V} {u : Value} (e : rp (fun _ => none) d x) (r : RelV x u) : Reads h u d [] := by
  cases d with
  | none =>
    unfold rp at e
    subst e
    obtain rfl : u = Value.none := r
    exact .none
  | bool b =>
    unfold rp at e
    subst e
    obtain rfl : u = Value.bool b := r
    exact .bool b
  | int i =>
    unfold rp at e
    subst e
    obtain ⟨t, rfl⟩ : ∃ t, u = Value.int i t := r
    exact .int i t
  | str z =>
    unfold rp at e
    subst e
    obtain ⟨t, rfl⟩ : ∃ t, u = Value.str z t := r
    exact .str z t
  | list ds =>
    unfold rp at e
    obtain ⟨a, xs, _, q, _⟩ := e
    cases q
  | tuple ds =>
    unfold rp at e
    obtain ⟨a, xs, _, q, _⟩ := e
    cases q
  | dict ds =>
    unfold rp at e
    exact e.elim
theorem rpD_reads (ok : HOk P w H h) {d : PyData} {x : V} {u : Value} (e : rpD H d x) (r : RelV x u) : ∃ as, sysModules ∉ as ∧ Reads h u d as := by
  obtain ⟨a, kvs, ds, rfl, ea, rfl, q⟩ := e
  obtain rfl : u = Value.ref a := r
  obtain ⟨_, sys, vs, kv, o, es, ep, g, ex, dd, _, prs, _⟩ := (show ObjOk P w H h a (.dK kvs) from ok a _ ea)
  have hc : o.cls = .type "dict" := ex.1
  have both : ∀ {l : List (Key × V)} {m : List (Key × Value)} {c : List (PyData × PyData)} {el : List DictEntry}, KV l m → Pairs (mixKind P w) el m →
      Paired (fun (p : Key × V) (q : PyData × PyData) => q.1 = kdat0 p.1 ∧ rp (fun _ => none) q.2 p.2) l c →
      ReadsAll h (el.map (·.key)) (c.map (·.1)) [] ∧ ReadsAll h (el.map (·.val)) (c.map (·.2)) [] := by
    intro l
    induction l with
    | nil =>
      intro m c el k1 k2 k3
      cases k1
      cases k2
      cases k3
      exact ⟨.nil, .nil⟩
    | cons p l ih =>
      intro m c el k1 k2 k3
      cases k1 with
      | cons ka kb =>
        cases k2 with
        | cons ia ib ic =>
          cases k3 with
          | cons ja jb =>
            obtain ⟨i1, i2⟩ := ih kb ic jb
            obtain ⟨k0, kr⟩ := ka
            obtain ⟨j0, jr⟩ := ja
            rw [← k0] at ia
            refine ⟨?_, ?_⟩
            · have z := ReadsAll.cons (j0 ▸ key_reads ia) i1
              simpa using z
            · have z := ReadsAll.cons (flat_reads jr (ib ▸ kr)) i2
              simpa using z
  obtain ⟨r1, r2⟩ := both kv prs q
  refine ⟨_, ?_, .dict g hc dd r1 r2⟩
  simp only [List.append_nil, List.mem_singleton]
  intro z
  rw [z, beq_self_eq_true] at sys
  cases sys
end
section
variable {X : Cx}
/-- repr(x), x data -/
def rRepr : List V → Hp → VK → Prop := fun xs H Q => ∃ (x : V) (d : PyData), xs = [x] ∧ (rp H d x ∨ rpD H d x) ∧ d.showable = true ∧ d.depth ≤ 100 ∧ d.shown.length ≤ sizeLine ∧ Q (.str d.shown) H
theorem call_repr_data (hg : X.A.guards = some []) (hu : X.A.units + 150 < cLine) : CallR X (.builtin "repr") rRepr := by
  intro pins s σ H xs us Q I r h
  obtain ⟨x, d, rfl, hd, sh, dp, sz, q⟩ := h
  obtain ⟨u, rfl, ru⟩ : ∃ u, us = [u] ∧ RelV x u := by
    cases r with
    | cons r1 r2 =>
      cases r2
      exact ⟨_, rfl, r1⟩
  obtain ⟨as, hs, R⟩ : ∃ as, (d.hasDict = true → sysModules ∉ as) ∧ Reads s.heap u d as := by
    rcases hd with hd | hd
    · obtain ⟨nd, as, R⟩ := rp_reads I.hok d x u hd ru
      exact ⟨as, PyData.noDict_hsm nd, R⟩
    · obtain ⟨as, nm, R⟩ := rpD_reads I.hok hd ru
      exact ⟨as, fun _ => nm, R⟩
  have byRef : ∀ {a : Addr}, u = .ref a → wpAny (model X.prog X.w) X.A (call (.builtin "repr") [u]) (EP X pins σ Q) X.xe s := fun {a} e => by
    subst e
    exact repr_of_reads' R sh hs hg (by omega) (fun _ _ z => z) (fun h1 v tk k => ⟨.str d.shown, H, I.kept (t' := tk) k, ⟨_, rfl⟩, q⟩) sz
  cases R with
  | none => exact PySem.P.repr_of_none ⟨.str _, H, I.tok _, ⟨_, rfl⟩, q⟩
  | bool b => exact PySem.P.repr_of_bool ⟨.str _, H, I.tok _, ⟨_, rfl⟩, q⟩
  | int i t => exact PySem.P.repr_of_int (by simpa only [PyData.showable, decide_eq_true_eq] using sh) ⟨.str _, H, I.tok _, ⟨_, rfl⟩, q⟩
  | str z t => exact PySem.P.repr_of_str ⟨.str _, H, I.tok _, ⟨_, rfl⟩, q⟩ sz
  | list => exact byRef rfl
  | tuple => exact byRef rfl
  | dict => exact byRef rfl
end
end L2
set_option Elab.async false
set_option linter.all false
set_option maxRecDepth 100000
set_option maxHeartbeats 4000000
/-! Defs that are called where no repr is under way (so that repr of lists and dicts may be asked in them). -/
namespace L2
open PySem PySem.Spec PyProof.Rows
/-- the def at f keeps the promise sp wherever it is called with no guard standing; nothing is raised out of it -/
structure FnG (P : Program) (w : World) (K : PySem.W.Frag) (mg : Str → Option Value) (base : Heap) (k : Nat) (f : Addr) (fd : FuncData) (ps : List Str) (sp : Sp) : Prop where
  len : ∀ vs H Q E, sp vs H Q E → vs.length = ps.length
  run : ∀ (A : Around) (outer : List Env) (s : Shared) (H : Hp) (args : Args) (us : List Value) (vs : List V) (Q : VK), A.guards = some [] → Room k A →
    Env0 P w K mg base A outer s H → BindsTo s fd args (ps.zip us) → Vals vs us → sp vs H Q E0 → codeAny (model P w) A (.call (.ref f) args) (CR CX0 outer P w H s Q E0) s
section
variable {P : Program} {w : World} {K : PySem.W.Frag} {mg : Str → Option Value} {base : Heap} {k : Nat} {f : Addr} {fd : FuncData} {N ps : List Str} {sp : Sp}
theorem FnOk.toG (F : FnOk P w K mg base CX0 k f fd ps sp) : FnG P w K mg base k f fd ps sp :=
  ⟨F.len, fun A outer s H args us vs Q _ hr e0 hb r h => F.run A outer s H args us vs Q E0 hr e0 hb r h⟩
theorem Fun.okG {x qual : Str} {st : Stmt} (F : Fun K x qual st f fd) (S : FnScope N ps (defScope st)) (len : ∀ vs H Q E, sp vs H Q E → vs.length = ps.length)
    (hbody : ∀ (cdv : Value) (A : Around) (outer : List Env) (s : Shared) (H : Hp) (vs : List V) (Q : VK), A.guards = some [] → Room k (A.deeper (envOfC qual (defScope st) s.heap.objs.size f cdv)) → sp vs H Q E0 →
      ∃ t, PSs (cxOf CX0 P w K mg base N qual (defScope st) f cdv A outer s H E0).nox (defBody st) t ∧ t { nx := fun _ H1 => Q .non H1, rt := Q } (start N vs) H) :
    FnG P w K mg base (k + 1) f fd ps sp := by
  obtain ⟨oc, od, kV, doc, pm, an, cdv, ct, osl, rfl, lk, hcd⟩ := F.ex
  refine ⟨len, fun A outer s H args us vs Q hg hr e0 hb r hsp => ?_⟩
  have hl := len _ _ _ _ hsp
  have up : ∀ b o, base.get? b = some o → s.heap.get? b = some o := fun b o e => (e0.bs b o e).1
  have X1 : K.In s.heap := e0.mod.kin.keeps up
  have nl : s.heap.NoLimit := e0.mod.nolimit.keeps up
  have slots : ∀ y ∈ ps.zip us, (defScope st).names.lookup y.1 = some .local ∨
      ((defScope st).names.lookup y.1 = some .cell ∧ ((cellsFrom (s.heap.objs.size + 1) (defScope st).names []).lookup y.1).isSome = true) := fun ⟨n, v⟩ hy =>
    (S.par n (List.of_mem_zip hy).1).elim (fun q => .inl q) fun q => .inr ⟨q, PySem.W.cellsFrom_some _ _ _ (.inl q)⟩
  refine codeAny_call_function hr.depth (X1 _ _ lk) rfl S.co S.gen rfl (PySem.W.codeRec_of X1 hcd) (hb _ _ _ _ ?_)
  refine wpAny_newFunctionEnv_cells S.kind slots fun env he s1 x1 => ?_
  subst he
  refine ⟨nl.keeps x1.toInCall.keep, codeAny_func ?_⟩
  obtain ⟨t, ht, hq⟩ := hbody cdv A outer s H vs Q hg (hr.deeper _) hsp
  have J : Inv (cxOf CX0 P w K mg base N qual (defScope st) f cdv A outer s H E0) [] (start N vs) H s1 := inv_start S hr.hd e0 hl r x1
  refine wpAny_mono (ht.nox.run [] s1 (start N vs) H _ J hq) (fun fl s2 hs => ?_) fun e s2 hs => hs
  cases fl with
  | ret u =>
    obtain ⟨v, σ1, H1, I1, rv, q⟩ := hs
    exact ⟨v, H1, I1.os, I1.bare, I1.base, I1.hok, rv, q⟩
  | next =>
    obtain ⟨σ1, H1, I1, q⟩ := hs
    exact ⟨.non, H1, I1.os, I1.bare, I1.base, I1.hok, rfl, q⟩
  | brk =>
    obtain ⟨_, _, _, q⟩ := hs
    exact q.elim
  | cont =>
    obtain ⟨_, _, _, q⟩ := hs
    exact q.elim
end
section
variable {X : Cx} {k : Nat} {f : Addr} {fd : FuncData} {ps : List Str} {sp : Sp} {x : Str} {p pos : Pos} {e : Expr} {es : List Expr} {t : TA}
theorem run_g {pins : List (Addr × Obj)} {σ : St} {H : Hp} {s : Shared} {Q : VK} {us : List Value} {vs : List V} (F : FnG X.prog X.w X.K X.mg X.base k f fd ps sp) (hg : X.A.guards = some []) (hr : Room k X.A) (hb : Binds X.K fd ps [])
    (I : Inv X pins σ H s) (r : Vals vs us) (h : sp vs H Q E0) : wpAny (model X.prog X.w) X.A (call (.ref f) us) (EP X pins σ Q) X.xe s := by
  have hl : us.length = ps.length := by
    rw [← r.length]
    exact F.len _ _ _ _ h
  have b := hb s us I.kIn (by rw [List.append_nil]; exact hl)
  rw [List.append_nil] at b
  refine wpAny_call (codeAny_mono (F.run X.A X.stack s H ⟨us, []⟩ us vs Q hg hr I.env0 b r h) fun r1 s1 hq => ?_)
  cases r1 with
  | error er => exact hq.elim
  | ok fl =>
    cases fl with
    | ret u => exact I.after hq
    | next => exact False.elim hq
    | brk => exact False.elim hq
    | cont => exact False.elim hq
/-- f(e, ..) of such a def -/
theorem pe_callNG (F : FnG X.prog X.w X.K X.mg X.base k f fd ps sp) (hgd : X.A.guards = some []) (hr : Room k X.A) (hg : Gl X x) (hm : X.mg x = some (.ref f)) (hk : PySem.W.keepIn X.K (.ref f) = true) (hb : Binds X.K fd ps [])
    (ha : PA X (e :: es) t) (hdb : (x == ("__debug__" : Str)) = false := by decide) (he : starEach (e :: es) X.env = (false, eval e X.env) :: starEach es X.env := by rfl)
    (hpl : (backTo pos (starEach es X.env)).any (·.1) = false := by rfl) : PE X (.Call (.Name x p) (e :: es) [] pos) (fun σ H Q => t σ H fun vs H1 => sp vs H1 Q E0) := by
  refine ⟨fun pins s σ H Q I h => ?_⟩
  refine wpAny_Call_Name_kw (ld_glob I hg hm ?_ hdb)
  exact PySem.W.callWith_K (h₀ := X.base) I.ok.mod.kin hk (thn (ha.run pos pins s σ H _ I h) fun us s1 ⟨vs, H1, I1, r, q⟩ => ⟨I1.kIn, run_g F hgd hr hb I1 r q⟩) he hpl
end
/-! ### the law's own call -/
section
variable {P : Program} {w : World} {K : PySem.W.Frag} {mg mb : Str → Option Value} {k : Nat} {fa a : Addr} {fd : FuncData} {x : Str} {sp : Sp} {s1 : Shared} {vs : List Value} {ns : List Int}
theorem law_callG_at (KX : K.In s1.heap) (hns : s1.heap.Ns mainGlobals mg) (hb : s1.heap.Ns builtinsNs mb) (hbb : ∀ y : Str, y ≠ "__name__" → mb y = bootBuiltins y) (hlim : s1.heap.NoLimit) (hgn : s1.gens = #[])
    (ha : s1.heap.get? a = some { cls := .type "list", data := .seq vs.toArray }) (hr : Room k callerA)
    (F : ∀ base : Heap, K.In base → base.Ns mainGlobals mg → FnG P w K mg base k fa fd [x] sp) (hbind : ∀ (s : Shared) (u : Value), BindsTo s fd ⟨[u], []⟩ [(x, u)])
    (H : Hp) (hO : Only H) (hsp : sp [.ref a] H (fun v _ => v = .bl true) E0) (hok : HOk P w H s1.heap) (hA : ∀ b, H b ≠ none → b = a) (hK : H a ≠ none → K.lookup a = none) :
    codeAny (model P w) callerA (.call (.ref fa) ⟨[.ref a], []⟩) (fun r s2 => r = .ok (.ret (.bool true)) ∧ OldK s1.heap s2.heap ∧ s2.os = s1.os ∧ AllBare s2.gens) s1 := by
  have stay : ∀ {b : Addr} {o : Obj}, s1.heap.get? b = some o → H b = none → (hidT s1.heap H).get? b = some o := fun e n => hidT_get e n
  have dictFree : ∀ {b : Addr} {o : Obj} {es : Array DictEntry} {ep : Nat}, s1.heap.get? b = some o → o.data = .dict es ep → H b = none := fun {b o es ep} e d => by
    cases q : H b with
    | none => rfl
    | some u =>
      obtain rfl : b = a := hA b (by rw [q]; simp)
      rw [ha] at e
      cases e
      exact absurd (show Data.seq vs.toArray _ = Data.dict es ep from d) (fun z => by cases z)
  have names : ∀ {b : Addr} {m : Str → Option Value}, s1.heap.Ns b m → (hidT s1.heap H).Ns b m := fun {b m} ⟨o, es, ep, e, d, r⟩ => ⟨o, es, ep, stay e (dictFree e d), d, r⟩
  have KB : K.In (hidT s1.heap H) := fun b o e => stay (KX b o e) (by
    cases q : H b with
    | none => rfl
    | some u =>
      obtain rfl : b = a := hA b (by rw [q]; simp)
      rw [hK (by rw [q]; simp)] at e
      cases e)
  have md : Mod K mg (hidT s1.heap H) := ⟨KB, names hns, ⟨mb, names hb, hbb⟩, let ⟨mc, h1, h2⟩ := hlim; ⟨mc, names h1, h2⟩⟩
  have start0 : Env0 P w K mg (hidT s1.heap H) callerA [] s1 H :=
    ⟨rfl, md, fun b o e => of_hidT e, Nat.le_of_eq (hidT_size _ _), trivial, fun b hb => absurd (show b ∈ ([] : List Addr) from hb) (by simp), hok, .of_eq hgn⟩
  refine codeAny_mono ((F _ KB (names hns)).run callerA [] s1 H ⟨[.ref a], []⟩ [.ref a] [.ref a] _ rfl hr start0 (hbind s1 (.ref a)) (.cons rfl .nil) hsp) fun r s2 h => ?_
  cases r with
  | error e => exact False.elim h
  | ok fl =>
    cases fl with
    | next => exact False.elim h
    | brk => exact False.elim h
    | cont => exact False.elim h
    | ret u =>
      obtain ⟨v, H2, os, bare, un, ok2, rv, q⟩ := h
      obtain rfl : v = .bl true := q
      obtain rfl : u = Value.bool true := rv
      refine ⟨rfl, OldK.of_keep fun b o e => ?_, os, bare⟩
      have nox : b ∉ ([] : List Addr) := by simp
      cases q : H b with
      | none => exact un.keep b o e q (fun z => absurd (show b ∈ ([] : List Addr) from z) nox) nox
      | some u =>
        rcases hO b with z | ⟨ob, xs, z⟩
        · rw [q] at z
          cases z
        · obtain ⟨e1, _⟩ := hok b _ z
          obtain ⟨e2, _⟩ := ok2 b _ (un.frzs b ob _ z)
          rw [e] at e1
          cases e1
          exact e2
theorem law_callG (KX : K.In s1.heap) (hns : s1.heap.Ns mainGlobals mg) (hb : s1.heap.Ns builtinsNs mb) (hbb : ∀ y : Str, y ≠ "__name__" → mb y = bootBuiltins y) (hlim : s1.heap.NoLimit) (hgn : s1.gens = #[])
    (ha : s1.heap.get? a = some { cls := .type "list", data := .seq vs.toArray }) (hi : IntsAre vs ns) (hl : ns.length ≤ sizeLine) (hr : Room k callerA)
    (F : ∀ base : Heap, K.In base → base.Ns mainGlobals mg → FnG P w K mg base k fa fd [x] sp) (hbind : ∀ (s : Shared) (u : Value), BindsTo s fd ⟨[u], []⟩ [(x, u)])
    (hsp : ∀ H : Hp, Only H → SqL K H a (ns.map V.int) → sp [.ref a] H (fun v _ => v = .bl true) E0) :
    codeAny (model P w) callerA (.call (.ref fa) ⟨[.ref a], []⟩) (fun r s2 => r = .ok (.ret (.bool true)) ∧ OldK s1.heap s2.heap ∧ s2.os = s1.os ∧ AllBare s2.gens) s1 := by
  have rv := vals_ints hi
  have lenV := hi.length
  cases hk : K.lookup a with
  | some o =>
    have e := KX a o hk
    rw [ha] at e
    cases e
    have only : Only (fun _ => none) := fun _ => .inl rfl
    have told : SqL K (fun _ => none) a (ns.map V.int) :=
      .inr ⟨_, vs.toArray, _, hk, rfl, rfl, rfl, by rw [List.size_toArray, lenV]; exact hl, by simpa using rv⟩
    exact law_callG_at KX hns hb hbb hlim hgn ha hr F hbind (fun _ => none) only (hsp _ only told) (fun b u z => by cases z) (fun b z => absurd rfl z) fun z => absurd rfl z
  | none =>
    let H : Hp := fun b => if b = a then some (.frz { cls := .type "list", data := .seq vs.toArray } (.lst (ns.map V.int))) else none
    have at_a : H a = some (.frz { cls := .type "list", data := .seq vs.toArray } (.lst (ns.map V.int))) := if_pos rfl
    have off : ∀ {b : Addr}, b ≠ a → H b = none := fun hb => if_neg hb
    have only : Only H := fun b => by
      by_cases hb : b = a
      · exact .inr ⟨_, _, if_pos hb⟩
      · exact .inl (off hb)
    refine law_callG_at KX hns hb hbb hlim hgn ha hr F hbind H only (hsp H only (.inl (.inr ⟨_, at_a⟩))) (fun b u z => ?_) (fun b z => ?_) fun _ => hk
    · by_cases hb : b = a
      · subst hb
        rw [at_a] at z
        cases z
        exact ⟨ha, by rw [List.length_map]; exact hl, vs, _, rv, ha⟩
      · rw [off hb] at z
        cases z
    · by_cases hb : b = a
      · exact hb
      · exact absurd (off hb) z
end
theorem walk_ofG {l : PySem.W.OpenLaw} {n k : Nat} {q : Program} {loose : List Str} {XP : (Str → Option Value) → Heap → Prop} {YP : World → Heap → Prop} {d : DefRec} {K : Params → PySem.W.Frag} {sp : PySem.W.Frag → Sp} {x : Str}
    (hn : l.most = some n) (hn2 : n ≤ sizeLine) (hdf : d.params.defaults = []) (hr : Room k callerA) (hY : ∀ (w : World) (h : Heap), YP w h → (K w.params).In h)
    (F : ∀ (w : World) (mg : Str → Option Value) (fa : Addr) (h : Heap), (K w.params).In h → h.Ns mainGlobals mg → mg d.name = some (.ref fa) →
      ∃ fd : FuncData, (∀ (s : Shared) (u : Value), BindsTo s fd ⟨[u], []⟩ [(x, u)]) ∧
        ∀ base : Heap, (K w.params).In base → base.Ns mainGlobals mg → FnG l.prog w (K w.params) mg base k fa fd [x] (sp (K w.params)))
    (hsp : ∀ (K : PySem.W.Frag) (H : Hp) (a : Addr) (ns : List Int), ns.length ≤ n → Only H → SqL K H a (ns.map V.int) → sp K [.ref a] H (fun v _ => v = .bl true) E0) :
    PySem.W.WalkO q loose XP YP l.row.toRowW d [] (fun f vs => PySem.call f vs) := by
  refine Att.attach_call hn hdf fun w s₀ s₁ mg mb fa o pm cd doc a vs ns G Y ho hd hcd hmg hobj hints hlen hgn => ?_
  have KX := hY w _ Y
  obtain ⟨fd, hb, hF⟩ := F w mg fa _ KX G.T.g hmg
  exact law_callG KX G.T.g G.T.b G.T.builtins G.T.nolimit hgn hobj hints (Nat.le_trans hlen hn2) hr hF hb fun H hO hS => hsp (K w.params) H a ns hlen hO hS
end L2
set_option Elab.async false
set_option linter.all false
set_option maxRecDepth 100000
set_option maxHeartbeats 4000000
namespace L2
open PySem PySem.Spec PyProof.Rows PySem.ErrV
section
variable {X : Cx} {C fI : Addr} {x : Str} {B nw ini : String} {bmB : List Value} {p pos : Pos}
/-- C(), no __init__ of its own -/
theorem pe_bare (F : ExcBaseFacts B nw ini bmB) (q : PySem.W.excIn X.K C bmB nw = true) (gC : X.mg x = some (.ref C)) (kC : PySem.W.keepIn X.K (.ref C) = true) (hg : Gl X x) (hdb : (x == ("__debug__" : Str)) = false := by decide) :
    PE X (.Call (.Name x p) [] [] pos) (fun σ H Q => ∀ a, H a = none → Q (.ref a) (upd H a (exo a C none))) := by
  refine ⟨fun pins s σ H Q I h => ?_⟩
  refine wpAny_Call_Name_kw (ld_glob I hg gC ?_ hdb)
  refine PySem.W.callWith_K0 I.kIn kC ?_
  show wpAny _ _ (call (.ref C) []) _ _ _
  obtain ⟨bm, N, nm, qn, bs, hdct, sn, sub, ab, col, dd, k0, k1, k2, k3, k5, mN, hC, hN, hni, T⟩ := exc_obj I.kIn q
  refine wpAny_call_exc_subT F T hC hN hni (fun h1 a hm => ?_) (by show 0 ≤ sizeLine; exact Nat.zero_le _)
  have hn : H a = none := I.hok.gone hm.new
  obtain ⟨t, ht, _, _⟩ := hm.there
  exact ⟨.ref a, upd H a (exo a C none), I.laidN hm.keeps hm.new hn (exo_ok ht), rfl, h a hn⟩
/-- C(), __init__ does nothing -/
theorem pe_pass0 (T : PassC X.K X.mg x C fI nw bmB) (Bo : BaseOk B nw ini bmB) (hr : Room 1 X.A) (hg : Gl X x) (hdb : (x == ("__debug__" : Str)) = false := by decide) :
    PE X (.Call (.Name x p) [] [] pos) (fun σ H Q => ∀ a, H a = none → Q (.ref a) (upd H a (exo a C none))) := by
  refine ⟨fun pins s σ H Q I h => ?_⟩
  refine wpAny_Call_Name_kw (ld_glob I hg T.gC ?_ hdb)
  refine PySem.W.callWith_K0 I.kIn T.kC ?_
  show wpAny _ _ (call (.ref C) []) _ _ _
  refine wpAny_call (pass_made T Bo I.kIn I.nolimit (by have := hr.dp; omega) fun h1 tk a u k big ho => ?_)
  exact ⟨.ref a, upd H a (exo a C none), I.laid (t' := tk) k big (exo_ok ho), rfl, h a (I.hok.fresh big)⟩
end
/-- ways joined: what is wanted of an expression, said in between -/
def tJoin0 (te : TE) : TE := fun σ H Q => ∃ R : VK, te σ H R ∧ ∀ v H1, R v H1 → Q v H1
theorem pe_join0 {X : Cx} {e : Expr} {te : TE} (he : PE X e te) : PE X e (tJoin0 te) := ⟨fun pins s σ H Q I h => by
  obtain ⟨R, h1, h2⟩ := h
  exact thn (he.run pins s σ H R I h1) fun u s1 ⟨v, H1, I1, r, q⟩ => ⟨v, H1, I1, r, h2 v H1 q⟩⟩
end L2
set_option Elab.async false
set_option linter.all false
set_option maxRecDepth 100000
set_option maxHeartbeats 8000000
/-! Lambdas as values: with parameters, with captured names; made anywhere, handed on, called in the def that got them. -/
namespace LamV
open PySem PySem.Spec PyProof.Rows L2
open LamX (CodeO ExtN TabB)
open NdefX (NF NTab TabN TabsN CellsAt NScope startF ncx envF)
/-- there stands a lambda with the words of F and this body -/
def Stands (f : Addr) (F : NF) (body : Expr) (h : Heap) : Prop :=
  ∃ (d : Option Addr) (z : Array (Option Value)) (m t : Value), h.get? f = some ⟨.type "function", d, .func (PySem.W.kla_fn F.name F.qual F.params body F.scope F.cl m (.ref F.c) t), z⟩
def LnO (f : Addr) (F : NF) (body : Expr) : HO := .ext (Stands f F body)
theorem stands {P : Program} {w : World} {H : Hp} {h : Heap} {f : Addr} {F : NF} {body : Expr} (k : HOk P w H h) (e : H f = some (LnO f F body)) : Stands f F body h := (k f _ e).1
theorem LnO.tbl {f : Addr} {F : NF} {body : Expr} {ps : Array Value} : LnO f F body ≠ .tbl ps := fun z => nomatch (show HO.ext _ = HO.tbl _ from z)
theorem CodeO.tbl {c : Addr} {q : Str} {ps : Array Value} : CodeO c q ≠ .tbl ps := fun z => nomatch (show HO.ext _ = HO.tbl _ from z)
theorem Gone.upd {H : Hp} {a b : Addr} {o : HO} (e : L2.upd H a o b = none) : H b = none := by
  by_cases z : b = a
  · rw [z, upd_same] at e
    cases e
  · rwa [upd_ne z] at e
/-- the table of a def tells one code object more -/
theorem tabs_more {T : List NTab} {H H1 : Hp} {P c1 : Addr} {nm : Nat → Nat → Str} {ps : Array Value} {pos : Pos} (hT : TabsN T H) (me : H P = some (.tbl ps)) (ok : TriplesOk ps.toList) (only : ∀ r ∈ T, r.1 = P → r.2 = nm) (new : H c1 = none)
    (e1 : H1 = L2.upd (L2.upd H P (.tbl (ps ++ #[rawInt pos.line, rawInt pos.col, .ref c1]))) c1 (CodeO c1 (nm pos.line pos.col))) : TabsN T H1 ∧ ExtN H H1 := by
  have ext : ExtN H H1 := by
    intro b o eb nb
    have x1 : b ≠ c1 := ne_of_none eb new
    have x2 : b ≠ P := by
      rintro rfl
      exact nb ps (Option.some.inj (eb.symm.trans me))
    rw [e1, upd_ne x1, upd_ne x2, eb]
  have atC : H1 c1 = some (CodeO c1 (nm pos.line pos.col)) := by rw [e1, upd_same]
  refine ⟨fun r hr => ?_, ext⟩
  obtain ⟨qs, a1, a2, a3⟩ := hT r hr
  have old : ∀ {p2 : Pos} {v : Value}, codeAmong p2 qs.toList = some v → ∃ c, v = .ref c ∧ H1 c = some (CodeO c (r.2 p2.line p2.col)) := fun {p2 v} hv => by
    obtain ⟨c, ev, ec⟩ := a3 p2 v hv
    exact ⟨c, ev, ext c _ ec fun _ => CodeO.tbl⟩
  by_cases z : r.1 = P
  · have ep : qs = ps := by
      rw [z, me] at a1
      exact (HO.tbl.inj (Option.some.inj a1)).symm
    have lt : (ps ++ #[rawInt pos.line, rawInt pos.col, .ref c1]).toList = ps.toList ++ [rawInt pos.line, rawInt pos.col, .ref c1] := by simp
    refine ⟨ps ++ #[rawInt pos.line, rawInt pos.col, .ref c1], ?_, ?_, fun p2 v hv => ?_⟩
    · rw [e1, z, upd_ne (ne_of_none me new), upd_same]
    · rw [lt]
      exact TriplesOk_snoc _ _ _ _ ok
    · rw [lt] at hv
      rcases NdefX.among_app2 _ ok hv with w1 | ⟨w1, w2, w3⟩
      · rw [← ep] at w1
        exact old w1
      · refine ⟨c1, w1, ?_⟩
        rw [only r hr z, ← w2, ← w3]
        exact atC
  · have nC : r.1 ≠ c1 := ne_of_none a1 new
    refine ⟨qs, ?_, a2, fun p2 v hv => old hv⟩
    rw [e1, upd_ne nC, upd_ne z, a1]
/-- the words of a lambda of X's def -/
def lamF (X : Cx) (params : Arguments) (scope : Scope) (c1 : Addr) : NF where
  name := "<lambda>"
  qual := X.env.qual ++ "<lambda>"
  params := params
  body := []
  scope := scope
  cl := cloFrom X.env.cells scope.names []
  c := c1
/-- a lambda was made: the new function at f, its code object at c1 -/
structure Born (X : Cx) (pins : List (Addr × Obj)) (σ : L2.St) (T : List NTab) (H : Hp) (F : NF) (body : Expr) (f : Addr) (H1 : Hp) (s1 : Shared) : Prop where
  inv : Inv X pins σ H1 s1
  ext : ExtN H H1
  gone : ∀ b, H1 b = none → H b = none
  tabs : TabsN T H1
  was : H f = none
  fn : H1 f = some (LnO f F body)
  code : H1 F.c = some (CodeO F.c F.qual)
section
variable {X : Cx} {pins : List (Addr × Obj)} {σ : L2.St} {H H1 : Hp} {s s1 : Shared} {T : List NTab}
/-- the push of the function object, behind the code object's making -/
theorem Born.push {F : NF} {body : Expr} {m t : Value} {k : Nat} (I : Inv X pins σ H1 s1) (x : ExtN H H1) (g : ∀ b, H1 b = none → H b = none) (hT : TabsN T H1) (hc : H1 F.c = some (CodeO F.c F.qual)) :
    Born X pins σ T H F body s1.heap.objs.size (L2.upd H1 s1.heap.objs.size (LnO s1.heap.objs.size F body))
      { s1 with heap := s1.heap.push (PySem.W.kla_obj F.name F.qual F.params body F.scope F.cl m F.c t), toks := k } := by
  have free : H1 s1.heap.objs.size = none := I.hok.fresh (Nat.le_refl _)
  have up : ∀ b o, H1 b = some o → L2.upd H1 s1.heap.objs.size (LnO s1.heap.objs.size F body) b = some o := fun b o e => by
    rw [upd_ne (ne_of_none e free), e]
  have here : Stands s1.heap.objs.size F body (s1.heap.push (PySem.W.kla_obj F.name F.qual F.params body F.scope F.cl m F.c t)) := ⟨_, _, m, t, Heap.get?_push_size _ rfl⟩
  refine ⟨I.laid (fun b u e => Heap.get?_push_of_some _ e) (Nat.le_refl _) ⟨here, ?_, ?_⟩, fun b o e n => up b o (x b o e n), fun b e => g b (Gone.upd e), hT.ext up, g _ free, upd_same, up _ _ hc⟩
  · obtain ⟨_, _, _, _, e⟩ := here
    exact ⟨_, e⟩
  · rintro g1 g2 ⟨d, z, m1, t1, e⟩ keep
    exact ⟨d, z, m1, t1, keep _ e⟩
theorem lam_born {nm : Nat → Nat → Str} {c P : Addr} {params : Arguments} {body : Expr} {scope : Scope} {pos : Pos} {E : Value → Shared → Prop} {Q : Value → Shared → Prop} (I : Inv X pins σ H s) (B : TabB X.base X.mg c P) (ec : X.env.code = .ref c)
    (inT : (P, nm) ∈ T) (name : nm pos.line pos.col = X.env.qual ++ "<lambda>") (only : ∀ r ∈ T, r.1 = P → r.2 = nm) (hT : TabsN T H) (nodef : defaultsOf params X.env = ([], [])) (caps : ∀ y ∈ scope.names, y.2 = .free → ∃ c, X.env.cells.lookup y.1 = some c)
    (k : ∀ (f c1 : Addr) (H1 : Hp) (s1 : Shared), Born X pins σ T H (lamF X params scope c1) body f H1 s1 → Q (.ref f) s1) :
    wpAny (model X.prog X.w) X.A (eval (.Lambda params body scope pos) X.env) Q E s := by
  have tn : TabN H P nm := hT _ inT
  obtain ⟨ps, tb, ok, told⟩ := tn
  have real := I.hok P _ tb
  have mods := I.mod.glob.keeps I.bk
  have bl := B.bm.keeps I.bk
  have hd := B.code.keeps I.bk
  apply PySem.W.kla_eval nodef
  match hc : codeAmong pos ps.toList with
  | some v =>
    obtain ⟨c1, rfl, e1⟩ := told pos v hc
    rw [name] at e1
    exact PySem.W.kla_makeFunctionHit (closure_ok caps) I.ok.glob mods ec hd real ok hc bl fun t h1 k1 up _ =>
      k _ c1 _ _ (Born.push (F := lamF X params scope c1) (I.kept (t' := k1) up) (ExtN.refl H) (fun _ e => e) hT e1)
  | none =>
    refine PySem.W.kla_makeFunction (closure_ok caps) I.ok.glob mods ec hd real ok hc B.gP bl fun c1 t h1 k1 up lo hi rec tab => ?_
    obtain ⟨_, o, vs, n, ce, q1, q2, q3⟩ := rec
    cases ce
    have new : H c1 = none := I.hok.fresh lo
    have J := LamX.inv_table (t' := k1) I tb (fun b o nb e => up b o nb e) tab lo ⟨o, vs, n, q1, q2, q3⟩
    obtain ⟨t1, x1⟩ := tabs_more (pos := pos) hT tb ok only new rfl
    rw [name] at t1 x1
    exact k _ c1 _ _ (Born.push (F := lamF X params scope c1) J x1 (fun b e => Gone.upd (Gone.upd e)) t1 upd_same)
end
/-- a lambda's reading -/
def tLamE (T : List NTab) (mk : Addr → NF) (body : Expr) : TE := fun _ H Q => TabsN T H ∧ ∀ (f c1 : Addr) (H1 : Hp), ExtN H H1 → (∀ b, H1 b = none → H b = none) → TabsN T H1 → H f = none → H1 f = some (LnO f (mk c1) body) →
  H1 (mk c1).c = some (CodeO (mk c1).c (mk c1).qual) → Q (.ref f) H1
theorem pe_lam {X : Cx} {T : List NTab} {nm : Nat → Nat → Str} {c P : Addr} {params : Arguments} {body : Expr} {scope : Scope} {pos : Pos} (B : TabB X.base X.mg c P) (ec : X.env.code = .ref c) (inT : (P, nm) ∈ T) (name : nm pos.line pos.col = X.env.qual ++ "<lambda>")
    (only : ∀ r ∈ T, r.1 = P → r.2 = nm) (nodef : defaultsOf params X.env = ([], [])) (caps : ∀ y ∈ scope.names, y.2 = .free → X.env.scope.names.lookup y.1 = some .cell ∨ X.env.scope.names.lookup y.1 = some .free) :
    PE X (.Lambda params body scope pos) (tLamE T (lamF X params scope) body) where
  run _ _ _ _ _ I h := lam_born I B ec inT name only h.1 nodef (fun y hy e => I.ok.has _ (caps y hy e)) fun f c1 H1 _ b => ⟨.ref f, H1, b.inv, rfl, h.2 f c1 H1 b.ext b.gone b.tabs b.was b.fn b.code⟩
/-! ### its promise -/
/-- the lambda stands at f, its captured names hold ws -/
structure Ready (f : Addr) (F : NF) (body : Expr) (fr : List Str) (ws : List (Option V)) (h : Heap) (H : Hp) : Prop where
  fn : H f = some (LnO f F body)
  code : H F.c = some (CodeO F.c F.qual)
  cells : CellsAt F.cl fr ws h H
structure LOk (P : Program) (w : World) (K : PySem.W.Frag) (mg : Str → Option Value) (base : Heap) (CX : CXT) (k : Nat) (f : Addr) (F : NF) (body : Expr) (n : Nat) (fr : List Str) (sp : List (Option V) → Sp) : Prop where
  many : ∀ {ws vs H Q E}, sp ws vs H Q E → vs.length = n
  call : ∀ {A : Around} {outer : List Env} {s : Shared} {H : Hp} {us : List Value} {vs : List V} {ws : List (Option V)} {Q : VK} {E : XK}, Room k A → Env0 P w K mg base A outer s H → Ready f F body fr ws s.heap H → Vals vs us →
    sp ws vs H Q E → codeAny (model P w) A (.call (.ref f) ⟨us, []⟩) (CR CX outer P w H s Q E) s
section
variable {CX : CXT} {P : Program} {w : World} {K : PySem.W.Frag} {mg : Str → Option Value} {base : Heap} {N ps fr : List Str} {F : NF} {body : Expr} {f : Addr} {j k : Nat} {sp : List (Option V) → Sp}
theorem LOk.less {n : Nat} (o : LOk P w K mg base CX j f F body n fr sp) (h : j ≤ k) : LOk P w K mg base CX k f F body n fr sp := ⟨o.many, fun r => o.call (r.mono h)⟩
/-- by its body -/
theorem LOk.by_body (S : NScope N ps fr F.scope) (bind : ∀ (m t : Value) (us : List Value), us.length = ps.length → bindArgs (PySem.W.kla_fn F.name F.qual F.params body F.scope F.cl m (.ref F.c) t) ⟨us, []⟩ = pure (ps.zip us))
    (many : ∀ {ws vs H Q E}, sp ws vs H Q E → vs.length = ps.length)
    (hbody : ∀ (A : Around) (outer : List Env) (s : Shared) (H : Hp) (vs : List V) (ws : List (Option V)) (Q : VK) (E : XK), Room k (A.deeper (envF F f s.heap.objs.size)) → Ready f F body fr ws s.heap H → sp ws vs H Q E →
      ∃ t, PE (ncx CX P w K mg base N F f A outer s H E) body t ∧ t (startF N vs ws) H Q) :
    LOk P w K mg base CX (k + 1) f F body ps.length fr sp where
  many := many
  call := by
    intro A outer s H us vs ws Q E room e0 L r h
    have lv := many h
    have lu : us.length = ps.length := r.length ▸ lv
    obtain ⟨d, z, m, t, real⟩ := stands e0.hok L.fn
    obtain ⟨tb, hp, hq⟩ := hbody A outer s H vs ws Q E (room.deeper _) L h
    apply PySem.W.kla_callFunE room.depth real rfl S.co S.gen rfl (NdefX.codeO_at e0.hok L.code)
    rw [bind m t us lu]
    refine wpAny_pure (wpAny_newFunctionEnv S.nocell (fun y hy => S.par _ (List.of_mem_zip hy).1) (fun h1 ns same => ?_) S.kind)
    have kept : ∀ b o, s.heap.get? b = some o → h1.get? b = some o := fun b o e => same.extBut b o (Nat.ne_of_lt (Heap.lt_size e)) (Heap.get?_push_of_some _ e)
    refine ⟨(e0.mod.nolimit.keeps fun b o e => (e0.bs b o e).1).fresh _ same, ?_⟩
    have I := NdefX.inv_startN (CX := CX) (f := f) (E := E) (tk := s.toks + (ps.zip us).length) S room.hd e0 lv r L.cells ns kept
    exact PySem.W.kla_codeExpr (wpAny_mono (hp.run _ _ _ _ _ I hq) (fun u s1 ⟨v, H1, J, rv, q⟩ => ⟨v, H1, J.os, J.bare, J.base, J.hok, rv, q⟩) fun _ _ x => x)
end
/-! ### its call, in the def that got it -/
section
variable {Y : Cx} {pins : List (Addr × Obj)} {σ : L2.St} {H : Hp} {s : Shared} {f : Addr} {F : NF} {body : Expr} {fr : List Str} {ws : List (Option V)}
/-- captured cells are no objects of the frames between -/
theorem cells_stay {cl : List (Str × Addr)} (C : CellsAt cl fr ws Y.s_0.heap Y.H_0) (ex : Y.ex = []) (I : Inv Y pins σ H s) : CellsAt cl fr ws s.heap H := by
  have out : ∀ b : Addr, b ∉ Y.ex := fun b => by
    rw [ex]
    exact List.not_mem_nil
  have same : ∀ {y c v}, cl.lookup y = some c → Y.s_0.heap.IsCell c v → s.heap.IsCell c v := by
    rintro y c v e ⟨o, ho, hv⟩
    obtain ⟨_, q⟩ := I.base.any ho (C.all y c e).1 (out c)
    exact ⟨_, q, hv⟩
  constructor
  · exact C.len
  · intro y c e
    obtain ⟨free, v, o, ho, hv⟩ := C.all y c e
    exact ⟨I.base.free c o ho free (out c), v, same e ⟨o, ho, hv⟩⟩
  · exact C.inj
  · intro i y e
    obtain ⟨c, ec, hold⟩ := C.has i y e
    refine ⟨c, ec, fun v ev => ?_⟩
    obtain ⟨u, ru, cu⟩ := hold v ev
    exact ⟨u, ru, same ec cu⟩
/-- the reading: slot i holds the lambda; sp its promise with what it captured -/
def tCallL (f : Addr) (F : NF) (body : Expr) (i : Nat) (ws : List (Option V)) (sp : List (Option V) → Sp) (E : XK) (t : TA) : TE := fun σ H Q =>
  (σ[i]? = some (some (.ref f)) ∧ H f = some (LnO f F body)) ∧ t σ H fun vs H1 => (H1 f = some (LnO f F body) ∧ H1 F.c = some (CodeO F.c F.qual)) ∧ sp ws vs H1 Q E
variable {CX : CXT} {n i j k : Nat} {x : Str} {sp : List (Option V) → Sp} {E : XK} {t : TA} {e : Expr} {es : List Expr} {p pos : Pos}
theorem LOk.runs {us : List Value} {vs : List V} {Q : VK} (G : LOk Y.prog Y.w Y.K Y.mg Y.base CX k f F body n fr sp) (room : Room j Y.A) (le : k ≤ j) (out : Passes CX Y E) (I : Inv Y pins σ H s) (L : Ready f F body fr ws s.heap H) (r : Vals vs us) (h : sp ws vs H Q E) :
    wpAny (model Y.prog Y.w) Y.A (PySem.call (.ref f) us) (EP Y pins σ Q) Y.xe s := by
  refine wpAny_call (codeAny_mono (G.call (room.mono le) I.env0 L r h) ?_)
  rintro (u | fl) s1 hq
  · exact out _ _ _ _ _ _ I hq
  · cases fl with
    | ret u => exact I.after hq
    | _ => exact (hq : False).elim
theorem fnAt (I : Inv Y pins σ H s) (h : H f = some (LnO f F body)) : PySem.W.FnAt f s.heap := by
  obtain ⟨d, z, m, q, real⟩ := stands I.hok h
  exact ⟨_, d, _, z, real⟩
theorem pe_lact (G : LOk Y.prog Y.w Y.K Y.mg Y.base CX k f F body n fr sp) (C : CellsAt F.cl fr ws Y.s_0.heap Y.H_0) (ex : Y.ex = []) (room : Room j Y.A) (le : k ≤ j) (out : Passes CX Y E) (slot : Y.N[i]? = some x) (vis : Vis Y.env.scope x) (args : PA Y (e :: es) t)
    (d1 : (x == ("__debug__" : Str)) = false := by decide) (d2 : (x == ("__classdict__" : Str)) = false := by decide)
    (p1 : starEach (e :: es) Y.env = (false, eval e Y.env) :: starEach es Y.env := by rfl) (p2 : (backTo pos (starEach es Y.env)).any (·.1) = false := by rfl) :
    PE Y (.Call (.Name x p) (e :: es) [] pos) (tCallL f F body i ws sp E t) := by
  constructor
  rintro pins s σ H Q I ⟨⟨hs, hf⟩, ht⟩
  apply wpAny_Call_Name_kw
  refine thn ((pe_var slot vis d1 d2).run pins s σ H (fun v H1 => v = .ref f ∧ H1 = H) I ⟨_, hs, rfl, rfl⟩) ?_
  rintro u s1 ⟨_, _, I1, ru, rfl, rfl⟩
  cases (show u = Value.ref f from ru)
  refine PySem.W.callWith_F (first := []) (fnAt I1 hf) (thn (args.run pos pins s1 σ _ _ I1 ht) ?_) p1 p2
  rintro us s2 ⟨vs, H2, I2, r, ⟨h1, h2⟩, q⟩
  exact ⟨fnAt I2 h1, G.runs room le out I2 ⟨h1, h2, cells_stay C ex I2⟩ r q⟩
theorem pe_lact0 (G : LOk Y.prog Y.w Y.K Y.mg Y.base CX k f F body n fr sp) (C : CellsAt F.cl fr ws Y.s_0.heap Y.H_0) (ex : Y.ex = []) (room : Room j Y.A) (le : k ≤ j) (out : Passes CX Y E) (slot : Y.N[i]? = some x) (vis : Vis Y.env.scope x)
    (d1 : (x == ("__debug__" : Str)) = false := by decide) (d2 : (x == ("__classdict__" : Str)) = false := by decide) :
    PE Y (.Call (.Name x p) [] [] pos) (tCallL f F body i ws sp E tNil) := by
  constructor
  rintro pins s σ H Q I ⟨⟨hs, hf⟩, ⟨h1, h2⟩, q⟩
  apply wpAny_Call_Name_kw
  refine thn ((pe_var slot vis d1 d2).run pins s σ H (fun v H1 => v = .ref f ∧ H1 = H) I ⟨_, hs, rfl, rfl⟩) ?_
  rintro u s1 ⟨_, _, I1, ru, rfl, rfl⟩
  cases (show u = Value.ref f from ru)
  exact PySem.W.callWith_F0 (first := []) (fnAt I1 hf) (G.runs room le out I1 ⟨h1, h2, cells_stay C ex I1⟩ .nil q)
end
/-! ### a def called, its body walked at the very state -/
section
variable {X : Cx} {x qual : Str} {st : Stmt} {f : Addr} {fd : FuncData} {N ps : List Str} {k : Nat} {e : Expr} {es : List Expr} {t : TA} {p pos : Pos}
/-- what the callee's body has to show when it is entered from X at s -/
abbrev Walks (X : Cx) (qual : Str) (st : Stmt) (f : Addr) (N : List Str) (cdv : Value) (s : Shared) (H : Hp) (vs : List V) (Q : VK) : Prop :=
  ∃ t, PSs (cxOf CX0 X.prog X.w X.K X.mg X.base N qual (defScope st) f cdv X.A X.stack s H E0).nox (defBody st) t ∧ t { nx := fun _ H1 => Q .non H1, rt := Q } (start N vs) H
theorem pe_in {TT : L2.St → List V → Hp → VK → Prop} (D : Fun X.K x qual st f fd) (S : FnScope N ps (defScope st)) (room : Room (k + 1) X.A) (gl : Gl X x) (is : X.mg x = some (.ref f)) (kp : PySem.W.keepIn X.K (.ref f) = true) (bd : Binds X.K fd ps [])
    (many : ∀ {σ vs H Q}, TT σ vs H Q → vs.length = ps.length)
    (go : ∀ (cdv : Value) (pins : List (Addr × Obj)) (σ : L2.St) (H : Hp) (s : Shared) (vs : List V) (Q : VK), Inv X pins σ H s → Room k (X.A.deeper (envOfC qual (defScope st) s.heap.objs.size f cdv)) → TT σ vs H Q → Walks X qual st f N cdv s H vs Q)
    (args : PA X (e :: es) t) (d1 : (x == ("__debug__" : Str)) = false := by decide) (p1 : starEach (e :: es) X.env = (false, eval e X.env) :: starEach es X.env := by rfl) (p2 : (backTo pos (starEach es X.env)).any (·.1) = false := by rfl) :
    PE X (.Call (.Name x p) (e :: es) [] pos) (fun σ H Q => t σ H fun vs H1 => TT σ vs H1 Q) := by
  obtain ⟨_, _, _, _, _, _, cdv, _, _, rfl, lk, cd⟩ := D.ex
  constructor
  intro pins s σ H Q I h
  apply wpAny_Call_Name_kw
  refine ld_glob I gl is (PySem.W.callWith_K (h₀ := X.base) I.ok.mod.kin kp (thn (args.run pos pins s σ H _ I h) ?_) p1 p2) d1
  rintro us s1 ⟨vs, H1, I1, r, q⟩
  have lv := many q
  have b := bd s1 us I1.kIn (by rw [List.append_nil, ← r.length]; exact lv)
  rw [List.append_nil] at b
  refine ⟨I1.kIn, wpAny_call (codeAny_mono (LamX.run_ofS (CX := CX0) (E := E0) (Q := Q) lk cd S room I1.env0 b r lv fun deep => ?_) ?_)⟩
  · obtain ⟨t1, w1, w2⟩ := go cdv pins σ H1 s1 vs Q I1 deep q
    exact ⟨t1, w1.nox, w2⟩
  · rintro (u | fl) s2 hq
    · exact (hq : False).elim
    · cases fl with
      | ret u => exact I1.after hq
      | _ => exact (hq : False).elim
end
end LamV
set_option Elab.async false
set_option linter.all false
set_option maxRecDepth 100000
set_option maxHeartbeats 4000000
/-! for i, x in enumerate(t), t a tuple. -/
namespace EnT
open PySem PySem.Spec PyProof.Rows L2
section
variable {prog : Program} {w : World} {A : Around} {E : Value → Shared → Prop} {s : Shared}
theorem meets_en (a : Addr) (items : Array Value) :
    Meets (Builtin.«enumerate.__new__» ⟨[.type "enumerate", .ref a], []⟩) (fun _ R s => s.heap.IsTuple a items ∧
      R (.ok (.ret (.ref (s.heap.push { cls := .type "tuple_iterator", data := .fields #[.ref a, .int 0 0] }).objs.size)))
        { s with heap := (s.heap.push { cls := .type "tuple_iterator", data := .fields #[.ref a, .int 0 0] }).push { cls := .type "enumerate", data := .fields #[.none, .bool false, .ref s.heap.objs.size, rawInt 0, .none, .none] } }) :=
  .of_wp fun prog w A R s h => by
    obtain ⟨hp, g, d, tk, os⟩ := s
    obtain ⟨hT, h⟩ := h
    have hs := sub_enumerate
    have q : ∀ {A' : Around} {E : Value → Shared → Prop} {Q : Value → Shared → Prop}, Q (.ref hp.objs.size) ⟨hp.push { cls := .type "tuple_iterator", data := .fields #[.ref a, .int 0 0] }, g, d, tk, os⟩ →
        wpAny (model prog w) A' (pyIter (.ref a)) Q E ⟨hp, g, d, tk, os⟩ := fun k => wpAny_pyIter_tuple hT k
    wp_walk using q
    refine wpAny_stack_any fun st => wpAny_pure ?_
    split
    · rename_i c _ _ _ _ _
      cases (c == Value.type "enumerate") <;> (wp_walk using q; exact ⟨_, rfl, h⟩)
    · wp_walk using q
      exact ⟨_, rfl, h⟩
theorem call_en {a : Addr} {items : Array Value} {Q : Value → Shared → Prop} (hT : s.heap.IsTuple a items)
    (h : ∀ h1, IsEnum h1 (s.heap.objs.size + 1) s.heap.objs.size 0 .none → h1.IsTupleIter s.heap.objs.size a 0 → (∀ b o, s.heap.get? b = some o → h1.get? b = some o) → Q (.ref (s.heap.objs.size + 1)) { s with heap := h1 }) :
    wpAny (model prog w) A (call (.type "enumerate") [.ref a]) Q E s := by
  refine callType_new F.called_enumerate (by decide) (F.typeCall_enumerate_1 _) (F.newCall_enumerate_1 _) (fun obj => F.args_object_init_2 obj _) F.entry_enumerate_new (meets_en a items) ⟨hT, ?_⟩
  generalize hq : s.heap.push { cls := .type "tuple_iterator", data := .fields #[.ref a, .int 0 0] } = q
  have sz : q.objs.size = s.heap.objs.size + 1 := by rw [← hq]; exact Heap.size_push ..
  have it : q.get? s.heap.objs.size = some { cls := .type "tuple_iterator", data := .fields #[.ref a, .int 0 0] } := by rw [← hq]; exact Heap.get?_push_size _ rfl
  have en := Heap.get?_push_size q (o := { cls := .type "enumerate", data := .fields #[.none, .bool false, .ref s.heap.objs.size, rawInt 0, .none, .none] }) rfl
  rw [sz] at en
  show _ ∧ _
  rw [sz]
  refine ⟨⟨_, en, rfl⟩, h _ en ⟨_, Heap.get?_push_of_some _ it, rfl, rfl⟩ fun b o x => ?_⟩
  refine Heap.get?_push_of_some _ ?_
  rw [← hq]
  exact Heap.get?_push_of_some _ x
end
/-- the tuple at a, each item in a new pair -/
def Itn (K : PySem.W.Frag) (a : Addr) : It where
  go := fun i H => ∃ (xs : List V) (x : V), SqT K H a xs ∧ xs[i]? = some x
  yld := fun i H v H' => ∃ T x, v = .ref T ∧ H T = none ∧ H' = upd H T (.tup [.int (i : Nat), x]) ∧ ∀ xs, SqT K H a xs → xs[i]? = some x
  stop := fun i H => ∃ xs : List V, SqT K H a xs ∧ xs.length = i
theorem turn_en {P : Program} {w : World} {K : PySem.W.Frag} {elts : List Expr} {kk : Nat} {tpos : Pos} (a e it : Addr) :
    Turn P w K (.Tuple elts kk tpos) (Itn K a) [e, it] e (fun i h => (∃ old, IsEnum h e it ((i : Nat) : Int) old) ∧ h.IsTupleIter it a i ∧ e ≠ it) where
  mem := List.mem_cons_self ..
  self := by
    rintro A i s Q E ⟨⟨_, q⟩, _⟩ h
    exact wpAny_pyIter_enum q h
  keep := by
    rintro i h h1 ⟨⟨old, q⟩, r, ne⟩ k
    exact ⟨⟨old, k e (List.mem_cons_self ..) _ q⟩, r.at fun o q => k it (by simp) o q, ne⟩
  obj := by
    rintro i h ⟨⟨old, q⟩, ⟨o, r1, _, r2⟩, _⟩ b hb
    rcases List.mem_cons.mp hb with rfl | hb
    · exact ⟨_, q, fun _ z => nomatch z⟩
    · obtain rfl := List.mem_singleton.mp hb
      exact ⟨o, r1, fun _ z => nomatch (r2.symm.trans z)⟩
  item := by
    intro X hP hw hK calm i pins s σ H E I free st hg
    subst hP hw hK
    obtain ⟨⟨old, en⟩, ti, ne⟩ := st
    obtain ⟨xs, x, sq, hx⟩ := hg
    obtain ⟨its, vals, tup, _⟩ := I.tuple sq
    have T1 : s.heap.IsTuple a its.toArray := tup
    obtain ⟨u, hu, ru⟩ := vals.get hx
    have hu2 : its.toArray[i]? = some u := by rw [List.getElem?_toArray, hu]
    have lt : i < its.toArray.size := (Array.getElem?_eq_some_iff.mp hu2).1
    have nI : a ≠ it := by
      rintro rfl
      obtain ⟨o1, g1, c1, _⟩ := T1
      obtain ⟨o2, g2, c2, _⟩ := ti
      cases g1.symm.trans g2
      exact absurd (c1.symm.trans c2) (by decide)
    have nE : e ≠ a := by
      rintro rfl
      obtain ⟨o1, g1, c1, _⟩ := T1
      cases g1.symm.trans en
      exact absurd (show Value.type "enumerate" = Value.type "tuple" from c1) (by decide)
    have l1 := Heap.lt_size en
    have l2 : it < s.heap.objs.size := Heap.lt_size ti.choose_spec.1
    refine wpAny_pyNext_enum_itemD (Draws.tuple (A := X.A.in1) (I.ok.hd calm) it a nI its.toArray) en ⟨ti, T1⟩ lt ne (by simp [ne, nE]) fun y h1 tk hy out st1 new1 _ hk => ?_
    obtain rfl : y = u := Option.some.inj (hy.symm.trans hu2)
    refine ⟨_, rfl, wpAny_letOwnedTupleGo_enum (s := { s with heap := h1, toks := tk + 1 }) out fun h2 en2 same => ?_⟩
    have new2 := (same.2 _ (Nat.ne_of_gt l1)).trans new1
    have O : ObjOk X.prog X.w (upd H s.heap.objs.size (.tup [.int (i : Nat), x])) h2 s.heap.objs.size (.tup [.int (i : Nat), x]) := by
      refine ⟨?_, [.int i tk, y], .cons ⟨_, rfl⟩ (.cons ru .nil), _, new2, rfl, _, rfl⟩
      show 2 ≤ sizeLine
      decide
    have old1 : ∀ b o, b ∉ [e, it] → s.heap.get? b = some o → h2.get? b = some o := fun b o nb q => by
      simp only [List.mem_cons, List.not_mem_nil, or_false, not_or] at nb
      exact (same.2 b nb.1).trans (hk b o nb.1 nb.2 q)
    have J := I.turnedNew (t' := tk + 1) (ch := [e, it]) old1 free (Nat.le_refl _) O
    refine ⟨.ref s.heap.objs.size, _, J, rfl, ⟨_, x, rfl, I.hok.fresh (Nat.le_refl _), rfl, fun ys hy => ?_⟩, ⟨⟨y, ?_⟩, st1.1.at fun o q => (same.2 it ne.symm).trans q, ne⟩, fun b hb => ?_⟩
    · rw [I.tuple_inj hy sq, hx]
    · rw [show ((i + 1 : Nat) : Int) = (i : Int) + 1 from rfl]
      exact en2
    · have lb : b ≠ s.heap.objs.size := by
        rcases List.mem_cons.mp hb with rfl | hb
        · exact Nat.ne_of_lt l1
        · exact Nat.ne_of_lt (List.mem_singleton.mp hb ▸ l2)
      rw [upd_ne lb]
      exact (free b hb).1
  done := by
    intro X hP hw hK calm i pins s σ H E I free st hg
    subst hP hw hK
    obtain ⟨⟨old, en⟩, ti, ne⟩ := st
    obtain ⟨xs, sq, rfl⟩ := hg
    obtain ⟨its, vals, tup, _⟩ := I.tuple sq
    have T1 : s.heap.IsTuple a its.toArray := tup
    have nI : a ≠ it := by
      rintro rfl
      obtain ⟨o1, g1, c1, _⟩ := T1
      obtain ⟨o2, g2, c2, _⟩ := ti
      cases g1.symm.trans g2
      exact absurd (c1.symm.trans c2) (by decide)
    have sz : its.toArray.size = xs.length := by
      rw [List.size_toArray]
      exact vals.length.symm
    obtain ⟨f0, f1, f2, f3, f4, f5⟩ := free it (by simp)
    refine wpAny_pyNext_enum_endD (Draws.tuple (A := X.A.in1) (I.ok.hd calm) it a nI its.toArray) en (by rw [sz]; exact ⟨ti, T1⟩) fun h1 but => ⟨rfl, ?_⟩
    exact I.turned (t' := s.toks) (fun b o nb q => but b o nb q) f0 f1 f3 f4 f5
def iEnT (K : PySem.W.Frag) (ta : TA) : TI := fun σ H R => ta σ H fun vs H1 => ∃ a xs, vs = [.ref a] ∧ SqT K H1 a xs ∧ R (Itn K a) H1
theorem pi_enT {X : Cx} {e : Expr} {ta : TA} {p pos tpos : Pos} {elts : List Expr} {kk : Nat} (gl : Gl X "enumerate") (no : X.mg "enumerate" = none) (args : PA X [e] ta) (p1 : starEach [e] X.env = [(false, eval e X.env)] := by rfl) :
    PI X (.Tuple elts kk tpos) (.Call (.Name "enumerate" p) [e] [] pos) (iEnT X.K ta) := by
  constructor
  intro pins s σ H R I h
  refine Call_ (ld_blt I gl no boot_enumerate (PyProof.Rows.callWith_type1 (thn (args.run pos pins s σ H _ I h) ?_) p1 rfl))
  rintro us s1 ⟨vs, H1, I1, rv, a, xs, rfl, sq, q⟩
  obtain ⟨u, rfl⟩ : ∃ u, us = [u] := by
    cases rv with
    | cons _ t => cases t; exact ⟨_, rfl⟩
  cases rv with
  | cons ru _ =>
    cases (show u = Value.ref a from ru)
    obtain ⟨its, vals, tup, _⟩ := I1.tuple sq
    refine call_en (show s1.heap.IsTuple a its.toArray from tup) fun h1 en ti up => wpAny_pyIter_enum en ?_
    have J : Inv X pins σ H1 { s1 with heap := h1 } := I1.kept (t' := s1.toks) up
    refine ⟨_, [s1.heap.objs.size + 1, s1.heap.objs.size], _, _, H1, rfl, J, turn_en a (s1.heap.objs.size + 1) s1.heap.objs.size, ⟨⟨.none, en⟩, ti, Nat.succ_ne_self _⟩, fun b hb => ?_, q⟩
    have lo : s1.heap.objs.size ≤ b := by
      rcases List.mem_cons.mp hb with z | z
      · rw [z]
        exact Nat.le_succ _
      · rw [List.mem_singleton.mp z]
        exact Nat.le_refl _
    exact I1.fpOk lo (I1.hok.fresh lo)
end EnT
set_option Elab.async false
set_option linter.all false
set_option maxRecDepth 100000
set_option maxHeartbeats 4000000
namespace LJ
open PySem L2
def top (i : Nat) : Stmt := PySem.Challenge.pw_tracebounds_k07_whole_texts_of_plans.main.body.getD i (.Pass ⟨0, 0, 0, 0⟩)
abbrev sDip : Stmt := top 56
abbrev sOne : Stmt := top 57
abbrev sJar : Stmt := top 64
/-- where draws come from: a list of three numbers, the middle one small -/
def JarAt (H : Hp) (j : Addr) : Prop := ∃ (d m c : Int), H j = some (.lst [.int d, .int m, .int c]) ∧ 0 ≤ m ∧ m < 2147483249
/-- all but j stays -/
def But (j : Addr) (H H1 : Hp) : Prop := ∀ b o, b ≠ j → H b = some o → H1 b = some o
def spDip : Sp := fun vs H Q _ => ∃ (j : Addr) (t : Int), vs = [.ref j, .int t] ∧ JarAt H j ∧ 0 < t ∧ t < 1073741824 ∧
  ∀ (r : Int) (H1 : Hp), 0 ≤ r → r < t → JarAt H1 j → But j H H1 → Q (.int r) H1
/-- built-ins that are still what they were -/
structure Blt (mg : Str → Option Value) : Prop where
  divmod : mg "divmod" = none
  int : mg "int" = none
  len : mg "len" = none
  abs : mg "abs" = none
section
variable {P : Program} {w : World} {K : PySem.W.Frag} {mg : Str → Option Value} {base : Heap}
theorem scDip : FnScope ["_law_jar_here", "_law_top", "_law_digit"] ["_law_jar_here", "_law_top"] (defScope sDip) := ⟨rfl, rfl, rfl, by decide +kernel, rfl, by decide +kernel, by decide +kernel⟩
theorem ok_dip {f : Addr} {fd : FuncData} (F : Fun K "_law_dip" "_law_dip" sDip f fd) (T : Blt mg) : FnOk P w K mg base CX0 1 f fd ["_law_jar_here", "_law_top"] spDip := by
  refine F.ok scDip (fun vs H Q E h => ?_) (fun cdv A outer s H vs Q E hr h => ?_)
  · obtain ⟨j, t, rfl, _⟩ := h
    rfl
  · obtain ⟨j, t, rfl, ⟨d, m, c, hj, m0, m1⟩, t0, t1, k⟩ := h
    refine ⟨_, pss_cons (ps_asg (pe_op op_add (pe_ix ix_list (pv 0) pe_int (fun _ _ => rfl)) pe_int) (pg_sub (pv 0) pe_int set_list))
      (pss_cons (ps_if (pt_cmpR op_gt (pe_ix ix_list (pv 0) pe_int (fun _ _ => rfl)) pe_int (nomark _))
        (pss_cons (ps_asg (pe_callB call_divmod (by rfl) T.divmod (by decide +kernel) (pa_cons (pe_ix ix_list (pv 0) pe_int (fun _ _ => rfl)) (pa_cons (pv 1) pa_nil)))
          (pg_tup (by rfl) (pgs_cons (pg_sub (pv 0) pe_int set_list) (pgs_cons (pg_name (i := 2) scDip.nd rfl (Or.inl rfl)) pgs_nil))))
        (pss_one (ps_ret (pv 2)))) pss_nil)
      (pss_cons (ps_asg (pe_op op_mod (pe_callTy call_int1 (by rfl) T.int (by decide +kernel) (pa_cons (pe_op op_add (pe_op op_mul (pe_ix ix_list (pv 0) pe_int (fun _ _ => rfl)) pe_int) (pe_op op_mul pe_int (pe_ix ix_list (pv 0) pe_int (fun _ _ => rfl)))) pa_nil)) pe_int)
          (pg_sub (pv 0) pe_int set_list))
      (pss_one (ps_ret (pe_op op_mod (pe_callTy call_int1 (by rfl) T.int (by decide +kernel) (pa_cons (pe_op op_fdiv (pe_ix ix_list (pv 0) pe_int (fun _ _ => rfl)) pe_int) pa_nil)) (pv 1)))))), ?_⟩
    refine ⟨_, rfl, j, _, 2, .int c, rfl, rfl, SqL.of hj, rfl, _, _, rfl, rfl, _, rfl, j, _, 2, 2, rfl, rfl, hj, rfl, ?_⟩
    have h1 : ∀ v, (upd H j (.lst [.int d, .int m, v])) j = some (.lst [.int d, .int m, v]) := fun v => upd_same
    have b1 : ∀ o, But j H (upd H j o) := fun o b z hb hz => by
      rw [upd_ne hb]
      exact hz
    refine ⟨_, rfl, j, _, 0, .int d, rfl, rfl, SqL.of (h1 _), rfl, _, _, rfl, rfl, _, rfl, ?_⟩
    refine ite2 (fun c0 => ?_) (fun c0 => ?_)
    · refine ⟨_, rfl, j, _, 0, .int d, rfl, rfl, SqL.of (h1 _), rfl, _, rfl, _, _, rfl, ⟨t0, t1⟩, fun p hp => ?_⟩
      have jp : j ≠ p := ne_of_none (h1 _) hp
      refine ⟨p, _, rfl, SqT.of upd_same, rfl, ?_⟩
      refine ⟨_, _, rfl, _, rfl, j, _, 0, 0, rfl, rfl, (by rw [upd_ne jp]; exact h1 _), rfl, ?_⟩
      refine ⟨_, _, rfl, rfl, ?_⟩
      refine ⟨_, rfl, ?_⟩
      refine k (d % t) _ (Int.emod_nonneg _ (by omega)) (Int.emod_lt_of_pos _ t0) ⟨d / t, m, c + 1, upd_same, m0, m1⟩ fun b o hb hz => ?_
      rw [upd_ne hb, upd_ne (ne_of_none (b1 _ b o hb hz) hp), upd_ne hb]
      exact hz
    · refine ⟨_, rfl, j, _, 1, .int m, rfl, rfl, SqL.of (h1 _), rfl, _, _, rfl, rfl, .inl ⟨by omega, by omega⟩, _, rfl, j, _, 2, .int (c + 1), rfl, rfl, SqL.of (h1 _), rfl, _, _, rfl, rfl, .inl ⟨by omega, by omega⟩, _, _, rfl, rfl, .inl ⟨_, rfl, ?_⟩⟩
      refine ⟨_, _, rfl, rfl, (by show (0 : Int) < 2147483249; decide), _, rfl, j, _, 1, 1, rfl, rfl, h1 _, rfl, ?_⟩
      refine ⟨_, rfl, j, _, 1, _, rfl, rfl, SqL.of upd_same, rfl, _, _, rfl, rfl, ⟨by decide, by decide⟩, .inl ⟨_, rfl, ?_⟩⟩
      refine ⟨_, rfl, _, _, rfl, rfl, t0, ?_⟩
      refine k _ _ (Int.emod_nonneg _ (by omega)) (Int.emod_lt_of_pos _ t0) ⟨d, _, c + 1, upd_same, Int.emod_nonneg _ (by decide), Int.emod_lt_of_pos _ (by decide)⟩ fun b o hb hz => ?_
      rw [upd_ne hb, upd_ne hb]
      exact hz
theorem But.seq {j l : Addr} {H H1 : Hp} {o : HO} (b : But j H H1) (h : H l = some o) (n : l ≠ j) : H1 l = some o := b l o n h
def spOne : Sp := fun vs H Q _ => ∃ (j l : Addr) (xs : List V), vs = [.ref j, .ref l] ∧ JarAt H j ∧ H l = some (.lst xs) ∧ l ≠ j ∧ 0 < xs.length ∧ xs.length < 100000 ∧
  ∀ (n : Nat) (v : V) (H1 : Hp), xs[n]? = some v → JarAt H1 j → But j H H1 → Q v H1
theorem scOne : FnScope ["_law_jar_here", "_law_some"] ["_law_jar_here", "_law_some"] (defScope sOne) := ⟨rfl, rfl, rfl, by decide +kernel, rfl, by decide +kernel, by decide +kernel⟩
theorem ok_one {f fD : Addr} {fd fdD : FuncData} (F : Fun K "_law_one_of" "_law_one_of" sOne f fd) (T : Blt mg) (FD : Fun K "_law_dip" "_law_dip" sDip fD fdD) (bD : Binds K fdD ["_law_jar_here", "_law_top"] []) (mD : mg "_law_dip" = some (.ref fD)) :
    FnOk P w K mg base CX0 2 f fd ["_law_jar_here", "_law_some"] spOne := by
  have GD : FnOk P w K mg base CX0 1 fD fdD ["_law_jar_here", "_law_top"] spDip := ok_dip FD T
  refine F.ok scOne (fun vs H Q E h => ?_) (fun cdv A outer s H vs Q E hr h => ?_)
  · obtain ⟨j, l, xs, rfl, _⟩ := h
    rfl
  · obtain ⟨j, l, xs, rfl, J, hl, nl, p0, p1, k⟩ := h
    refine ⟨_, pss_one (ps_ret (pe_ix ix_list (pv 1) (pe_call GD hr (by rfl) mD FD.kp bD .nil pass0 (pa_cons (pv 0) (pa_cons (pe_callB call_len_seq (by rfl) T.len PySem.boot_len (pa_cons (pv 1) pa_nil)) pa_nil))) (fun _ _ => rfl))), ?_⟩
    refine ⟨_, rfl, _, rfl, _, rfl, l, _, rfl, .inl (SqL.of hl), j, (xs.length : Int), rfl, J, by omega, by omega, fun r H1 r0 r1 J1 bt => ?_⟩
    obtain ⟨v, hv⟩ : ∃ v, xs[r.toNat]? = some v := ⟨xs[r.toNat]'(by omega), List.getElem?_eq_getElem (by omega)⟩
    refine ⟨l, xs, r, v, rfl, rfl, SqL.of (bt.seq hl nl), ?_, k r.toNat v H1 hv J1 bt⟩
    unfold atI ixN
    rw [if_pos r0, if_pos r1]
    exact hv
theorem same_new {H H1 : Hp} {p : Addr} {o : HO} (s : Same H H1) (n : H1 p = none) : Same H (upd H1 p o) := fun b z e => by
  rw [upd_ne (ne_of_none (s b z e) n)]
  exact s b z e
def spJar (K : PySem.W.Frag) : Sp := fun vs H Q _ => ∃ (a : Addr) (ns : List Int) (t : Int), vs = [.ref a, .int t] ∧ SqL K H a (ns.map V.int) ∧ ns.length ≤ 63 ∧ 0 ≤ t ∧ t ≤ 100 ∧
  ∀ (j : Addr) (H1 : Hp), H j = none → Same H H1 → JarAt H1 j → Q (.ref j) H1
theorem scJar : FnScope ["_law_cells", "_law_turn", "_law_cell", "_law_mixed", "_law_each"] ["_law_cells", "_law_turn"] (defScope sJar) := ⟨rfl, rfl, rfl, by decide +kernel, rfl, by decide +kernel, by decide +kernel⟩
theorem ok_jar {f : Addr} {fd : FuncData} (F : Fun K "_law_jar" "_law_jar" sJar f fd) (T : Blt mg) : FnOk P w K mg base CX0 1 f fd ["_law_cells", "_law_turn"] (spJar K) := by
  refine F.ok scJar (fun vs H Q E h => ?_) (fun cdv A outer s H vs Q E hr h => ?_)
  · obtain ⟨j, l, xs, rfl, _⟩ := h
    rfl
  · obtain ⟨a, ns, t, rfl, hS, hn, t0, t1, k⟩ := h
    refine ⟨_, pss_cons (ps_set (i := 2) scJar.nd rfl (Or.inl rfl) (pe_join0 (pe_ifExp (pt_cmpR op_lt (pv 1) (pe_callB call_len_seq (by rfl) T.len PySem.boot_len (pa_cons (pv 0) pa_nil)) (nomark _))
        (pe_ix ix_list (pv 0) (pv 1) (fun _ _ => rfl)) (pe_op op_add (pe_op op_mul pe_int (pv 1)) pe_int))))
      (pss_cons (ps_set (i := 3) scJar.nd rfl (Or.inl rfl) (pe_op op_add pe_int (pe_op op_mul pe_int (pv 1))))
      (pss_cons (ps_for PassesOwn.never rfl (pi_list (pe_op op_cat (pe_slice sl_list (pv 0) po_none (po_some pe_int)) (pe_lst (pa_cons (pv 2) pa_nil)))) (pg_name (i := 4) scJar.nd rfl (Or.inl rfl))
        (pss_one (ps_set (i := 3) scJar.nd rfl (Or.inl rfl) (pe_op op_mod (pe_callTy call_int1 (by rfl) T.int (by decide +kernel) (pa_cons (pe_op op_add (pe_op op_mul (pv 3) pe_int) (pv 4)) pa_nil)) pe_int))))
      (pss_one (ps_ret (pe_lst (pa_cons (pe_join0 (pe_ifExp (PW.pt (pw_or (pt_cmpR op_lt (pv 2) pe_int (nomark _)) (pw_or1 (pt_cmpR op_ge (pv 2) (pe_op op_pow pe_int pe_int) (nomark _)))))
        (pe_callB call_abs (by rfl) T.abs (by decide +kernel) (pa_cons (pv 2) pa_nil)) pe_int)) (pa_cons (pv 3) (pa_cons pe_int pa_nil)))))))), ?_⟩
    refine ⟨fun v H1 => (∃ z : Int, v = .int z) ∧ H1 = H, ?_, ?_⟩
    · refine ⟨_, rfl, _, rfl, a, _, rfl, .inl hS, _, _, rfl, rfl, _, rfl, ?_⟩
      refine ite2 (fun c => ?_) (fun c => ?_)
      · have c1 : t < (ns.length : Int) := by
          have z := of_decide_eq_true c
          rw [List.length_map] at z
          exact z
        obtain ⟨z, hz⟩ : ∃ z, ns[t.toNat]? = some z := ⟨ns[t.toNat]'(by omega), List.getElem?_eq_getElem (by omega)⟩
        refine ⟨_, rfl, _, rfl, a, _, t, .int z, rfl, rfl, hS, ?_, ⟨z, rfl⟩, rfl⟩
        unfold atI ixN
        rw [if_pos t0, if_pos (by rw [List.length_map]; exact c1), Option.bind_some, List.getElem?_map, hz]
        rfl
      · exact ⟨_, rfl, _, _, rfl, rfl, .inl ⟨by omega, by omega⟩, _, _, rfl, rfl, ⟨_, rfl⟩, rfl⟩
    · rintro v H1 ⟨⟨z, rfl⟩, rfl⟩
      refine ⟨_, rfl, _, _, rfl, rfl, .inl ⟨by omega, by omega⟩, _, _, rfl, rfl, ?_⟩
      refine ⟨_, rfl, 5, rfl, a, _, rfl, hS, fun p hp => ?_⟩
      refine ⟨_, rfl, (by show 1 ≤ sizeLine; rw [sizeLine_eq]; decide), fun l hl => ?_⟩
      have pl : p ≠ l := ne_of_none upd_same hl
      have cl : (cutV (ns.map V.int) none (some 5)).length ≤ 63 := by
        have z1 := cutV_length (ns.map V.int) none (some 5)
        rw [List.length_map] at z1
        omega
      refine ⟨p, l, _, _, rfl, rfl, (by rw [upd_ne pl]; exact upd_same), upd_same, (by rw [sizeLine_eq]; show (cutV (ns.map V.int) none (some 5)).length + 1 ≤ 16777216; omega), fun q hq => ?_⟩
      have allI : ∀ (i : Nat) (y : V), (cutV (ns.map V.int) none (some 5) ++ [V.int z])[i]? = some y → ∃ e : Int, y = .int e := by
        intro i y hy
        have hm := List.mem_of_getElem? hy
        rcases List.mem_append.mp hm with hm | hm
        · have h2 := List.mem_of_mem_drop (List.mem_of_mem_take hm)
          obtain ⟨e, _, he⟩ := List.mem_map.mp h2
          exact ⟨e, he.symm⟩
        · exact ⟨z, List.mem_singleton.mp hm⟩
      have s1 : ∀ o, Same H1 (upd _ q o) := fun o => same_new (same_new (same_new (fun _ _ z => z) hp) hl) hq
      refine ⟨q, rfl, ⟨_, SqL.of upd_same⟩, for_list (K := K) (a := q) (xs := cutV (ns.map V.int) none (some 5) ++ [V.int z]) (fun i σ H2 => ∃ (m : Int) (v : Option V),
        σ = [some (.ref a), some (.int t), some (.int z), some (.int m), v] ∧ 0 ≤ m ∧ m < 2147483249 ∧ Same H1 H2 ∧ H2 q = some (.lst (cutV (ns.map V.int) none (some 5) ++ [V.int z])))
        ⟨_, none, rfl, by omega, by omega, s1 _, upd_same⟩ (fun i σ H2 _ ⟨_, _, _, _, _, _, h⟩ => SqL.of h) ?_ ?_⟩
      · rintro i y σ H2 hi ⟨m, v, rfl, m0, m1, s2, hq2⟩
        obtain ⟨e, rfl⟩ := allI i y hi
        refine ⟨_, rfl, _, _, rfl, rfl, .inl ⟨by omega, by omega⟩, _, rfl, _, _, rfl, rfl, .inl ⟨_, rfl, ?_⟩⟩
        refine ⟨_, _, rfl, rfl, (by show (0 : Int) < 2147483249; decide), ?_⟩
        exact ⟨_, _, rfl, Int.emod_nonneg _ (by decide), Int.emod_lt_of_pos _ (by decide), s2, hq2⟩
      · rintro σ H2 ⟨m, v, rfl, m0, m1, s2, hq2⟩
        refine ⟨fun v H3 => (∃ d : Int, v = .int d) ∧ H3 = H2, ?_, ?_⟩
        · refine ⟨_, rfl, _, _, rfl, rfl, _, rfl, ?_⟩
          refine ite2 (fun c => ⟨_, rfl, _, rfl, ⟨_, rfl⟩, rfl⟩) (fun c => ?_)
          refine ⟨_, rfl, _, _, rfl, rfl, ⟨by decide, by decide, by decide⟩, _, _, rfl, rfl, _, rfl, ?_⟩
          exact ite2 (fun c => ⟨_, rfl, _, rfl, ⟨_, rfl⟩, rfl⟩) (fun c => ⟨⟨_, rfl⟩, rfl⟩)
        · rintro v H3 ⟨⟨d, rfl⟩, rfl⟩
          refine ⟨_, rfl, (by show 3 ≤ sizeLine; rw [sizeLine_eq]; decide), fun j hj => ?_⟩
          have nj : H1 j = none := by
            cases e : H1 j with
            | none => rfl
            | some o =>
              rw [s2 j o e] at hj
              cases hj
          exact k j _ nj (same_new s2 hj) ⟨d, m, 0, upd_same, m0, m1⟩
end
end LJ
set_option Elab.async false
set_option linter.all false
set_option maxRecDepth 100000
set_option maxHeartbeats 4000000
/-! The small tests of works: is_integer, is_name, _is_named, _are_bounds; over any known value. -/
namespace LJ
open PySem PySem.Spec L2
/-- a op1 b op2 c op3 d -/
def tChain3 (r1 r2 r3 : R2) (ta tb tc td : TE) : TE := fun σ H Q => ta σ H fun x H1 => tb σ H1 fun y H2 => r1 x y H2 fun u H3 => ∃ k, u = .bl k ∧
  if k = true then tc σ H3 fun z H4 => r2 y z H4 fun v H5 => ∃ l, v = .bl l ∧ (if l = true then td σ H5 fun w H6 => r3 z w H6 Q else Q (.bl false) H5) else Q (.bl false) H3
theorem pe_chain3 {X : Cx} {o1 o2 o3 : CmpOp} {r1 r2 r3 : R2} {a b c d : Expr} {ta tb tc td : TE} {pos : Pos} (h1 : OpR X (compareOp o1) r1) (h2 : OpR X (compareOp o2) r2) (h3 : OpR X (compareOp o3) r3) (ea : PE X a ta) (eb : PE X b tb) (ec : PE X c tc) (ed : PE X d td)
    (hm : lastMarks [o1, o2, o3] [b, c, d] = false := by with_unfolding_all rfl) : PE X (.Compare a [o1, o2, o3] [b, c, d] pos) (tChain3 r1 r2 r3 ta tb tc td) := by
  constructor
  intro pins s σ H Q I h
  refine PyProof.Rows.Compare_chain (thn (ea.run pins s σ H _ I h) ?_) hm
  rintro ua s1 ⟨x, H1, I1, rx, q1⟩
  refine PyProof.Rows.chain_link (thn (eb.run pins s1 σ H1 _ I1 q1) ?_)
  rintro ub s2 ⟨y, H2, I2, ry, q2⟩
  refine thn (h1 pins s2 σ H2 x y ua ub _ I2 rx ry q2) ?_
  rintro u1 s3 ⟨_, H3, I3, ru, k, rfl, q3⟩
  cases ru
  refine wpAny_truthy_bool ?_
  cases k
  · exact ⟨.bl false, H3, I3, rfl, q3⟩
  refine PyProof.Rows.chain_link (thn (ec.run pins s3 σ H3 _ I3 q3) ?_)
  rintro uc s4 ⟨z, H4, I4, rz, q4⟩
  refine thn (h2 pins s4 σ H4 y z ub uc _ I4 ry rz q4) ?_
  rintro u2 s5 ⟨_, H5, I5, rv, l, rfl, q5⟩
  cases rv
  refine wpAny_truthy_bool ?_
  cases l
  · exact ⟨.bl false, H5, I5, rfl, q5⟩
  refine PyProof.Rows.chain_last (thn (ed.run pins s5 σ H5 _ I5 q5) ?_)
  rintro ud s6 ⟨w, H6, I6, rw, q6⟩
  exact h3 pins s6 σ H6 z w uc ud Q I6 rz rw q6
/-! ### known values -/
/-- all that stood stands -/
def Ex (H H1 : Hp) : Prop := ∀ b o, H b = some o → H1 b = some o
theorem Ex.refl {H : Hp} : Ex H H := fun _ _ e => e
theorem Ex.trans {H H1 H2 : Hp} (s : Ex H H1) (t : Ex H1 H2) : Ex H H2 := fun b o e => t b o (s b o e)
theorem Ex.new {H H1 : Hp} {p : Addr} {o : HO} (s : Ex H H1) (n : H1 p = none) : Ex H (upd H1 p o) := fun b u e => by
  rw [upd_ne (ne_of_none (s b u e) n)]
  exact s b u e
theorem Ex.put {H H1 : Hp} {p : Addr} {o : HO} (s : Ex H H1) (n : H p = none) : Ex H (upd H1 p o) := fun b u e => by
  rw [upd_ne (ne_of_none e n)]
  exact s b u e
theorem Ex.gone {H H1 : Hp} {p : Addr} (s : Ex H H1) (n : H1 p = none) : H p = none := by
  cases e : H p with
  | none => rfl
  | some o =>
    rw [s p o e] at n
    cases n
def isI : V → Bool
  | .int _ => true
  | _ => false
def tupOf (H : Hp) : V → Option (List V)
  | .ref a => match H a with
    | some (.tup xs) => some xs
    | _ => none
  | _ => none
/-- is this a string of one to eight letters from a to z -/
def isW (s : Str) : Bool := decide (1 ≤ s.length) && (decide (s.length ≤ 8) && s.cps.toList.all fun c => decide (97 ≤ c) && decide (c ≤ 122))
def isN : V → Bool
  | .str s => isW s
  | _ => false
inductive Kn (K : PySem.W.Frag) (H : Hp) : V → Prop
  | int (i : Int) : Kn K H (.int i)
  | str (s : Str) (le : s.length ≤ sizeLine) : Kn K H (.str s)
  | tup {a : Addr} {xs : List V} (e : H a = some (.tup xs)) (le : xs.length ≤ sizeLine) : Kn K H (.ref a)
  | oth {x : V} {t : Value} {b : Bool} (ty : ∀ H1, LamX.ExtN H H1 → TyX K H1 x t) (i : PySem.W.kitOne K t (.type "int") = some b) (l : PySem.W.kitOne K t (.type "bool") = some b) (s : PySem.W.kitOne K t (.type "str") = some false)
      (u : PySem.W.kitOne K t (.type "tuple") = some false) (ni : isI x = false) (nn : isN x = false) (nt : ∀ H1, LamX.ExtN H H1 → tupOf H1 x = none) : Kn K H x
theorem Ex.n {H H1 : Hp} (e : Ex H H1) : LamX.ExtN H H1 := LamX.ExtN.of e
theorem tup_n {H H1 : Hp} {a : Addr} {xs : List V} (e : LamX.ExtN H H1) (h : H a = some (.tup xs)) : H1 a = some (.tup xs) := e _ _ h fun _ z => nomatch z
theorem Kn.exN {K : PySem.W.Frag} {H H1 : Hp} {x : V} (k : Kn K H x) (e : LamX.ExtN H H1) : Kn K H1 x := by
  cases k with
  | int i => exact .int i
  | str s le => exact .str s le
  | tup h le => exact .tup (tup_n e h) le
  | oth ty i l s u ni nn nt => exact .oth (fun H2 e2 => ty H2 (e.trans e2)) i l s u ni nn fun H2 e2 => nt H2 (e.trans e2)
theorem Kn.ex {K : PySem.W.Frag} {H H1 : Hp} {x : V} (k : Kn K H x) (e : Ex H H1) : Kn K H1 x := k.exN e.n
theorem Kn.tupsN {K : PySem.W.Frag} {H H1 : Hp} {x : V} (k : Kn K H x) (e : LamX.ExtN H H1) : tupOf H1 x = tupOf H x := by
  cases k with
  | int i => rfl
  | str s le => rfl
  | @tup a xs h le =>
    show (match H1 a with
      | some (.tup ys) => some ys
      | _ => none) = (match H a with
      | some (.tup ys) => some ys
      | _ => none)
    rw [h, tup_n e h]
  | oth ty i l s u ni nn nt => rw [nt H1 e, nt H (LamX.ExtN.refl _)]
theorem Kn.tups {K : PySem.W.Frag} {H H1 : Hp} {x : V} (k : Kn K H x) (e : Ex H H1) : tupOf H1 x = tupOf H x := k.tupsN e.n
theorem Kn.le {K : PySem.W.Frag} {H : Hp} {x : V} {xs : List V} (k : Kn K H x) (h : tupOf H x = some xs) : xs.length ≤ sizeLine := by
  cases k with
  | int i => cases h
  | str s le => cases h
  | @tup a ys e le =>
    have z : (match H a with
      | some (.tup ys) => some ys
      | _ => none) = some xs := h
    rw [e] at z
    cases z
    exact le
  | oth ty i l s u ni nn nt =>
    rw [nt H (LamX.ExtN.refl _)] at h
    cases h
/-- known to this depth -/
def Deep (K : PySem.W.Frag) (H : Hp) : Nat → V → Prop
  | 0, x => Kn K H x
  | n + 1, x => Kn K H x ∧ ∀ xs, tupOf H x = some xs → ∀ y ∈ xs, Deep K H n y
theorem Deep.kn {K : PySem.W.Frag} {H : Hp} : ∀ {n : Nat} {x : V}, Deep K H n x → Kn K H x
  | 0, _, d => d
  | _ + 1, _, d => d.1
theorem Deep.exN {K : PySem.W.Frag} {H H1 : Hp} (e : LamX.ExtN H H1) : ∀ {n : Nat} {x : V}, Deep K H n x → Deep K H1 n x
  | 0, _, d => Kn.exN d e
  | n + 1, x, d => ⟨d.1.exN e, fun xs h y hy => Deep.exN e (d.2 xs (by rw [← d.1.tupsN e]; exact h) y hy)⟩
theorem Deep.ex {K : PySem.W.Frag} {H H1 : Hp} (e : Ex H H1) {n : Nat} {x : V} (d : Deep K H n x) : Deep K H1 n x := d.exN e.n
structure BltI (mg : Str → Option Value) : Prop where
  isinstance : mg "isinstance" = none
  int : mg "int" = none
  bool : mg "bool" = none
  str : mg "str" = none
  tuple : mg "tuple" = none
  len : mg "len" = none
  all : mg "all" = none
  enumerate : mg "enumerate" = none
/-- the answer of is_integer -/
theorem rd_int {K : PySem.W.Frag} {H : Hp} {x : V} (k : Kn K H x) {Q : VK} (q : Q (.bl (isI x)) H) : rIsi K [x, .ty "int"] H fun v H1 => ∃ c, v = .bl c ∧ if c = true then rIsi K [x, .ty "bool"] H1 fun w H2 => ∃ d, w = .bl d ∧ Q (.bl (!d)) H2 else Q (.bl false) H1 := by
  cases k with
  | int i =>
    refine ⟨_, _, _, _, true, rfl, .ty "int", .base (.int i), kit_ty (by decide +kernel), true, rfl, ?_⟩
    rw [if_pos rfl]
    exact ⟨_, _, _, _, false, rfl, .ty "bool", .base (.int i), kit_ty (by decide +kernel), false, rfl, q⟩
  | str s le =>
    refine ⟨_, _, _, _, false, rfl, .ty "int", .base (.str s), kit_ty (by decide +kernel), false, rfl, ?_⟩
    rw [if_neg (by decide)]
    exact q
  | tup e le =>
    refine ⟨_, _, _, _, false, rfl, .ty "int", .base (.tup e), kit_ty (by decide +kernel), false, rfl, ?_⟩
    rw [if_neg (by decide)]
    exact q
  | @oth _ t b ty i l s u ni nn nt =>
    rw [ni] at q
    refine ⟨_, _, _, _, b, rfl, .ty "int", ty _ (LamX.ExtN.refl _), i, b, rfl, ?_⟩
    cases b with
    | false =>
      rw [if_neg (by decide)]
      exact q
    | true =>
      rw [if_pos rfl]
      exact ⟨_, _, _, _, true, rfl, .ty "bool", ty _ (LamX.ExtN.refl _), l, true, rfl, q⟩
abbrev sInt : Stmt := top 4
abbrev sName : Stmt := top 5
def spInt (K : PySem.W.Frag) : Sp := fun vs H Q _ => ∃ x, vs = [x] ∧ Kn K H x ∧ Q (.bl (isI x)) H
section
variable {P : Program} {w : World} {K : PySem.W.Frag} {mg : Str → Option Value} {base : Heap}
theorem scInt : FnScope ["value"] ["value"] (defScope sInt) := ⟨rfl, rfl, rfl, by decide +kernel, rfl, by decide +kernel, by decide +kernel⟩
theorem ok_int {f : Addr} {fd : FuncData} (F : Fun K "is_integer" "is_integer" sInt f fd) (B : BltI mg) : FnOk P w K mg base CX0 1 f fd ["value"] (spInt K) := by
  refine F.ok scInt (fun vs H Q E h => ?_) (fun cdv A outer s H vs Q E hr h => ?_)
  · obtain ⟨x, rfl, _⟩ := h
    rfl
  · obtain ⟨x, rfl, k, q⟩ := h
    refine ⟨_, pss_one (ps_ret (pe_and (pe_callB call_isi (by rfl) B.isinstance (by decide +kernel) (pa_cons (pv 0) (pa_cons (pe_bltn (by rfl) B.int (by decide +kernel) (v := .ty "int") rfl) pa_nil)))
      (pe_one (pe_not (pe_callB call_isi (by rfl) B.isinstance (by decide +kernel) (pa_cons (pv 0) (pa_cons (pe_bltn (by rfl) B.bool (by decide +kernel) (v := .ty "bool") rfl) pa_nil))))))), ?_⟩
    have z := rd_int k q
    obtain ⟨_, c, t, u, b, e1, e2, e3, e4, c1, e5, z⟩ := z
    cases e1
    refine ⟨_, rfl, _, _, t, u, b, rfl, e2, e3, e4, c1, e5, ?_⟩
    cases c1 with
    | false => exact z
    | true =>
      obtain ⟨_, c, t, u, b, e1, e2, e3, e4, z⟩ := z
      cases e1
      exact ⟨_, rfl, _, _, t, u, b, rfl, e2, e3, e4, z⟩
end
end LJ
set_option Elab.async false
set_option linter.all false
set_option maxRecDepth 100000
set_option maxHeartbeats 4000000
namespace LJ
open PySem PySem.Spec L2
/-- the answer is b, whatever new stands beside -/
def Says (Q : VK) (H : Hp) (b : Bool) : Prop := ∀ H1, Ex H H1 → Q (.bl b) H1
def spName (K : PySem.W.Frag) : Sp := fun vs H Q _ => ∃ x, vs = [x] ∧ Kn K H x ∧ Says Q H (isN x)
theorem Kn.atStr {K : PySem.W.Frag} {H : Hp} {x : V} (k : Kn K H x) : ∃ t b, TyX K H x t ∧ PySem.W.kitOne K t (.type "str") = some b ∧ ((b = true ∧ ∃ s, x = .str s ∧ s.length ≤ sizeLine) ∨ (b = false ∧ isN x = false)) := by
  cases k with
  | int i => exact ⟨_, false, .base (.int i), kit_ty (by decide +kernel), .inr ⟨rfl, rfl⟩⟩
  | str s le => exact ⟨_, true, .base (.str s), kit_ty (by decide +kernel), .inl ⟨rfl, s, rfl, le⟩⟩
  | tup e le => exact ⟨_, false, .base (.tup e), kit_ty (by decide +kernel), .inr ⟨rfl, rfl⟩⟩
  | @oth _ t b ty i l s u ni nn nt => exact ⟨t, false, ty _ (LamX.ExtN.refl _), s, .inr ⟨rfl, nn⟩⟩
theorem Kn.atTup {K : PySem.W.Frag} {H : Hp} {x : V} (k : Kn K H x) : ∃ t b, TyX K H x t ∧ PySem.W.kitOne K t (.type "tuple") = some b ∧ ((b = true ∧ ∃ a xs, x = .ref a ∧ H a = some (.tup xs) ∧ tupOf H x = some xs) ∨ (b = false ∧ tupOf H x = none)) := by
  cases k with
  | int i => exact ⟨_, false, .base (.int i), kit_ty (by decide +kernel), .inr ⟨rfl, rfl⟩⟩
  | str s le => exact ⟨_, false, .base (.str s), kit_ty (by decide +kernel), .inr ⟨rfl, rfl⟩⟩
  | @tup a xs e le =>
    refine ⟨_, true, .base (.tup e), kit_ty (by decide +kernel), .inl ⟨rfl, a, xs, rfl, e, ?_⟩⟩
    show (match H a with
      | some (.tup ys) => some ys
      | _ => none) = some xs
    rw [e]
  | @oth _ t b ty i l s u ni nn nt => exact ⟨t, false, ty _ (LamX.ExtN.refl _), u, .inr ⟨rfl, nt _ (LamX.ExtN.refl _)⟩⟩
def low (c : Nat) : Bool := decide (97 ≤ c) && decide (c ≤ 122)
/-- one sign between two -/
theorem le_one (a b : Nat) : (!decide ((⟨#[b]⟩ : Str).cps.toList < (⟨#[a]⟩ : Str).cps.toList)) = decide (a ≤ b) := by
  have e : ((⟨#[b]⟩ : Str).cps.toList < (⟨#[a]⟩ : Str).cps.toList) ↔ b < a := by
    show [b] < [a] ↔ _
    simp [List.cons_lt_cons_iff]
  by_cases h : a ≤ b
  · rw [decide_eq_true h, decide_eq_false (fun z => by have := e.mp z; omega)]
    rfl
  · rw [decide_eq_false h, decide_eq_true (e.mpr (by omega))]
    rfl
section
variable {P : Program} {w : World} {K : PySem.W.Frag} {mg : Str → Option Value} {base : Heap}
theorem scName : FnScope ["value", "letter"] ["value"] (defScope sName) := ⟨rfl, rfl, rfl, by decide +kernel, rfl, by decide +kernel, by decide +kernel⟩
theorem ok_name {f : Addr} {fd : FuncData} {uL : Value} (F : Fun K "is_name" "is_name" sName f fd) (B : BltI mg) (mL : mg "_MOST_LETTERS" = some uL) (rL : RelV (.int 8) uL) : FnOk P w K mg base CX0 1 f fd ["value"] (spName K) := by
  refine F.ok scName (fun vs H Q E h => ?_) (fun cdv A outer s H vs Q E hr h => ?_)
  · obtain ⟨x, rfl, _⟩ := h
    rfl
  · obtain ⟨x, rfl, k, q⟩ := h
    refine ⟨_, pss_cons (ps_if (PW.pt (pw_or (pt_not (pt_truth (pe_callB call_isi (by rfl) B.isinstance (by decide +kernel) (pa_cons (pv 0) (pa_cons (pe_bltn (by rfl) B.str (by decide +kernel) (v := .ty "str") rfl) pa_nil))) (fun _ => rfl)))
        (pw_or1 (pt_not (pt_chain op_le op_le pe_int (pe_callB call_len_str (by rfl) B.len (by decide +kernel) (pa_cons (pv 0) pa_nil)) (pe_glob (by rfl) mL rL)))))) (pss_one (ps_ret pe_bl)) pss_nil)
      (pss_one (ps_ret (pe_callB (cr_all (by rfl)) (by rfl) B.all (by decide +kernel) (pa_cons (pe_lc (own := [("letter", 1)]) (g := gName 1) (by rfl) scName.nd (pi_str (pv 0)) (blkOk_by (own := [("letter", 1)]) (N := ["value", "letter"]) (sc := defScope sName) (by decide +kernel)) (fun _ _ _ _ _ => pg_name scName.nd rfl (Or.inl rfl)) (fun _ _ _ _ _ => pts_nil) (fun _ _ _ _ _ => pe_chain op_le_str op_le_str pe_str (pv 1) pe_str)) pa_nil)))), ?_⟩
    obtain ⟨t, b, ty, e, hb⟩ := k.atStr
    refine ⟨_, rfl, _, _, t, _, b, rfl, .ty "str", ty, e, b, rfl, ?_⟩
    rcases hb with ⟨rfl, s, rfl, le⟩ | ⟨rfl, n⟩
    · have out : ∀ c : Bool, c = false → isN (.str s) = c → Q (.bl false) H := fun c e1 e2 => by
        have z := q H Ex.refl
        rw [e2, e1] at z
        exact z
      refine ⟨_, rfl, s, rfl, le, 1, s.length, rfl, rfl, _, rfl, ?_⟩
      refine ite2 (fun c1 => ?_) (fun c1 => ?_)
      · refine ⟨_, _, rfl, rfl, _, rfl, ?_⟩
        have l1 : (1 : Int) ≤ s.length := of_decide_eq_true c1
        by_cases c2 : (s.length : Int) ≤ 8
        · rw [decide_eq_true c2]
          have l2 : s.length ≤ 8 := by omega
          have sz : s.cps.toList.length ≤ 8 := l2
          have big : (8 : Nat) < sizeLine := by
            rw [sizeLine_eq]
            decide
          refine ⟨_, rfl, s, rfl, fun D hD => lc_it walk_str (fun n H2 => Ex H H2 ∧ H2 D = some (.lst (((s.cps.toList.take n).map low).map V.bl))) ⟨Ex.refl.new hD, upd_same⟩ (fun _ _ _ _ => True.intro) ?_ ?_⟩
          · rintro i y _ H2 hi ⟨x2, e2⟩ ⟨rfl, c, hc, rfl⟩
            refine ⟨rfl, ?_⟩
            have hc2 : s.cps.toList[i]? = some c := by rw [Array.getElem?_toList]; exact hc
            have done : ∃ acc, H2 D = some (.lst acc) ∧ acc.length < sizeLine ∧ Ex H (upd H2 D (.lst (acc ++ [.bl (low c)]))) ∧ (upd H2 D (.lst (acc ++ [.bl (low c)]))) D = some (.lst (((s.cps.toList.take (i + 1)).map low).map V.bl)) := by
              refine ⟨_, e2, ?_, x2.put hD, ?_⟩
              · rw [List.length_map, List.length_map, List.length_take]
                omega
              · rw [upd_same, List.take_succ, hc2, List.map_append, List.map_append]
                rfl
            refine ⟨_, rfl, _, _, rfl, rfl, _, rfl, ?_⟩
            rw [show (!decide ((⟨#[c]⟩ : Str).cps.toList < (Str.ofString "a").cps.toList)) = decide (97 ≤ c) from le_one 97 c]
            refine ite2 (fun k1 => ?_) (fun k1 => ?_)
            · refine ⟨_, _, rfl, rfl, ?_⟩
              rw [show (!decide ((Str.ofString "z").cps.toList < (⟨#[c]⟩ : Str).cps.toList)) = decide (c ≤ 122) from le_one c 122]
              have e : low c = decide (c ≤ 122) := by
                unfold low
                rw [k1, Bool.true_and]
              rw [← e]
              exact done
            · have e : low c = false := by
                unfold low
                rw [Bool.eq_false_iff.mpr k1, Bool.false_and]
              rw [e] at done
              exact done
          · rintro H2 ⟨x2, e2⟩
            refine ⟨D, _, rfl, SqL.of e2, ?_⟩
            have z := q H2 x2
            have e : isN (.str s) = ((s.cps.toList.take s.cps.size).map low).all id := by
              show isW s = _
              unfold isW
              rw [decide_eq_true (p := 1 ≤ s.length) (by omega), decide_eq_true l2, Bool.true_and, Bool.true_and, List.take_of_length_le (by rw [Array.length_toList]; exact Nat.le_refl _), List.all_map]
              rfl
            rw [e] at z
            exact z
        · rw [decide_eq_false c2]
          refine out _ rfl ?_
          show isW s = false
          unfold isW
          rw [decide_eq_false (p := s.length ≤ 8) (by omega)]
          simp
      · have l1 : ¬ (1 : Int) ≤ s.length := fun z => c1 (decide_eq_true z)
        refine ⟨_, rfl, ?_⟩
        refine out _ rfl ?_
        show isW s = false
        unfold isW
        rw [decide_eq_false (p := 1 ≤ s.length) (by omega)]
        simp
    · rw [n] at q
      exact q H Ex.refl
end
end LJ
set_option Elab.async false
set_option linter.all false
set_option maxRecDepth 100000
set_option maxHeartbeats 4000000
namespace LJ
open PySem PySem.Spec L2
abbrev sShar : Stmt := top 35
abbrev sLim : Stmt := top 36
abbrev sCont : Stmt := top 37
abbrev sNamed : Stmt := top 38
abbrev sBnds : Stmt := top 39
/-- a tuple of this length that begins with a name -/
def isRow (H : Hp) (x : V) (n : Int) : Bool := match tupOf H x with
  | some xs => decide ((xs.length : Int) = n) && match xs with
    | y :: _ => isN y
    | [] => false
  | none => false
/-- a pair of bounds up to m -/
def bndOf (m : Int) : List V → Bool
  | [.int i, .int j] => decide (0 ≤ i) && (decide (i ≤ j) && decide (j ≤ m))
  | _ => false
def isBnd (H : Hp) (x : V) (m : Int) : Bool := match tupOf H x with
  | some xs => bndOf m xs
  | none => false
theorem isI_int : ∀ {y : V}, isI y = true → ∃ i, y = .int i
  | .int i, _ => ⟨i, rfl⟩
theorem bnd_two {m : Int} {xs : List V} (h : xs.length ≠ 2) : bndOf m xs = false := by
  match xs, h with
  | [], _ => rfl
  | [y], _ => cases y <;> rfl
  | [_, _], h => exact absurd rfl h
  | y :: z :: _ :: _, _ => cases y <;> cases z <;> rfl
theorem bnd_fst {m : Int} {y z : V} (h : isI y ≠ true) : bndOf m [y, z] = false := by
  cases y <;> first | exact absurd rfl h | rfl
theorem bnd_snd {m : Int} {i : Int} {z : V} (h : isI z ≠ true) : bndOf m [.int i, z] = false := by
  cases z <;> first | exact absurd rfl h | rfl
def spNamed (K : PySem.W.Frag) : Sp := fun vs H Q _ => ∃ (x : V) (n : Int), vs = [x, .int n] ∧ 1 ≤ n ∧ Deep K H 1 x ∧ Says Q H (isRow H x n)
def spBnd (K : PySem.W.Frag) : Sp := fun vs H Q _ => ∃ (x : V) (m : Int), vs = [x, .int m] ∧ Deep K H 1 x ∧ Says Q H (isBnd H x m)
section
variable {P : Program} {w : World} {K : PySem.W.Frag} {mg : Str → Option Value} {base : Heap}
theorem scNamed : FnScope ["row", "length"] ["row", "length"] (defScope sNamed) := ⟨rfl, rfl, rfl, by decide +kernel, rfl, by decide +kernel, by decide +kernel⟩
theorem ok_named {f fN : Addr} {fd fdN : FuncData} (F : Fun K "_is_named" "_is_named" sNamed f fd) (B : BltI mg)
    (GN : FnOk P w K mg base CX0 1 fN fdN ["value"] (spName K)) (mN : mg "is_name" = some (.ref fN)) (kN : PySem.W.keepIn K (.ref fN) = true) (bN : Binds K fdN ["value"] []) :
    FnOk P w K mg base CX0 2 f fd ["row", "length"] (spNamed K) := by
  refine F.ok scNamed (fun vs H Q E h => ?_) (fun cdv A outer s H vs Q E hr h => ?_)
  · obtain ⟨x, n, rfl, _⟩ := h
    rfl
  · obtain ⟨x, n, rfl, n1, k, q⟩ := h
    refine ⟨_, pss_one (ps_ret (pe_and (pe_callB call_isi (by rfl) B.isinstance (by decide +kernel) (pa_cons (pv 0) (pa_cons (pe_bltn (by rfl) B.tuple (by decide +kernel) (v := .ty "tuple") rfl) pa_nil)))
      (pe_and (pe_cmpR op_eq (pe_callB call_len_seq (by rfl) B.len (by decide +kernel) (pa_cons (pv 0) pa_nil)) (pv 1) (nomark _))
        (pe_one (pe_call GN hr (by rfl) mN kN bN .nil pass0 (pa_cons (pe_ix ix_tup (pv 0) pe_int (fun _ _ => rfl)) pa_nil)))))), ?_⟩
    obtain ⟨t, b, ty, e, hb⟩ := k.1.atTup
    refine ⟨_, rfl, _, _, t, _, b, rfl, .ty "tuple", ty, e, b, rfl, ?_⟩
    rcases hb with ⟨rfl, a, xs, rfl, ha, hx⟩ | ⟨rfl, hx⟩
    · refine ⟨_, rfl, a, xs, rfl, .inr (SqT.of ha), _, rfl, rfl, _, rfl, ?_⟩
      have z := q H Ex.refl
      by_cases c : (xs.length : Int) = n
      · have c1 : (V.int (xs.length : Int) = V.int n) := by rw [c]
        rw [decide_eq_true c1]
        show _
        match xs, hx, ha, c with
        | y :: r, hx, ha, c =>
          refine ⟨_, rfl, a, y :: r, 0, y, rfl, rfl, SqT.of ha, atI_nat (j := 0) rfl, y, rfl, k.2 _ hx y (List.mem_cons_self ..), fun H1 e1 => ?_⟩
          have z1 := q H1 e1
          unfold isRow at z1
          rw [hx] at z1
          simp only [c, decide_true, Bool.true_and] at z1
          exact z1
        | [], hx, ha, c =>
          simp at c
          omega
      · have c1 : ¬ (V.int (xs.length : Int) = V.int n) := fun z => c (V.int.inj z)
        rw [decide_eq_false c1]
        unfold isRow at z
        rw [hx] at z
        simp only [c, decide_false, Bool.false_and] at z
        exact z
    · have z := q H Ex.refl
      unfold isRow at z
      rw [hx] at z
      exact z
theorem scBnds : FnScope ["pair", "most", "low", "high"] ["pair", "most"] (defScope sBnds) := ⟨rfl, rfl, rfl, by decide +kernel, rfl, by decide +kernel, by decide +kernel⟩
theorem ok_bnds {f fI : Addr} {fd fdI : FuncData} (F : Fun K "_are_bounds" "_are_bounds" sBnds f fd) (B : BltI mg)
    (GI : FnOk P w K mg base CX0 1 fI fdI ["value"] (spInt K)) (mI : mg "is_integer" = some (.ref fI)) (kI : PySem.W.keepIn K (.ref fI) = true) (bI : Binds K fdI ["value"] []) :
    FnOk P w K mg base CX0 2 f fd ["pair", "most"] (spBnd K) := by
  refine F.ok scBnds (fun vs H Q E h => ?_) (fun cdv A outer s H vs Q E hr h => ?_)
  · obtain ⟨x, n, rfl, _⟩ := h
    rfl
  · obtain ⟨x, m, rfl, k, q⟩ := h
    refine ⟨_, pss_cons (ps_if (PW.pt (pw_or (pt_not (pt_truth (pe_callB call_isi (by rfl) B.isinstance (by decide +kernel) (pa_cons (pv 0) (pa_cons (pe_bltn (by rfl) B.tuple (by decide +kernel) (v := .ty "tuple") rfl) pa_nil))) (fun _ => rfl)))
        (pw_or1 (pt_cmpR op_ne (pe_callB call_len_seq (by rfl) B.len (by decide +kernel) (pa_cons (pv 0) pa_nil)) pe_int (nomark _))))) (pss_one (ps_ret pe_bl)) pss_nil)
      (pss_cons (ps_asg (pv 0) (pg_tup (by rfl) (pgs_cons (pg_name (i := 2) scBnds.nd rfl (Or.inl rfl)) (pgs_cons (pg_name (i := 3) scBnds.nd rfl (Or.inl rfl)) pgs_nil))))
      (pss_one (ps_ret (pe_and (pe_call GI hr (by rfl) mI kI bI .nil pass0 (pa_cons (pv 2) pa_nil)) (pe_and (pe_call GI hr (by rfl) mI kI bI .nil pass0 (pa_cons (pv 3) pa_nil))
        (pe_one (pe_chain3 op_le op_le op_le pe_int (pv 2) (pv 3) (pv 1)))))))), ?_⟩
    obtain ⟨t, b, ty, e, hb⟩ := k.1.atTup
    have z := q H Ex.refl
    refine ⟨_, rfl, _, _, t, _, b, rfl, .ty "tuple", ty, e, b, rfl, ?_⟩
    rcases hb with ⟨rfl, a, xs, rfl, ha, hx⟩ | ⟨rfl, hx⟩
    · refine ⟨_, rfl, a, xs, rfl, .inr (SqT.of ha), rfl, _, rfl, ?_⟩
      have kk := k.2 xs hx
      unfold isBnd at z
      rw [hx] at z
      by_cases c : xs.length = 2
      · obtain ⟨y1, y2, rfl⟩ : ∃ y1 y2, xs = [y1, y2] := by
          match xs, c with
          | [y1, y2], _ => exact ⟨y1, y2, rfl⟩
        refine ⟨_, rfl, a, _, rfl, SqT.of ha, rfl, ?_⟩
        have k1 : Kn K H y1 := kk y1 (by simp)
        have k2 : Kn K H y2 := kk y2 (by simp)
        refine ⟨_, _, rfl, _, _, rfl, rfl, _, rfl, y1, rfl, k1, _, rfl, ?_⟩
        by_cases e1 : isI y1 = true
        · obtain ⟨i, rfl⟩ := isI_int e1
          refine ⟨_, rfl, y2, rfl, k2, _, rfl, ?_⟩
          by_cases e2 : isI y2 = true
          · obtain ⟨j, rfl⟩ := isI_int e2
            have z : Q (.bl (decide (0 ≤ i) && (decide (i ≤ j) && decide (j ≤ m)))) H := z
            refine ⟨_, rfl, _, _, rfl, rfl, _, rfl, ?_⟩
            refine ite2 (fun c1 => ?_) (fun c1 => ?_)
            · rw [c1] at z
              refine ⟨_, rfl, _, _, rfl, rfl, _, rfl, ?_⟩
              refine ite2 (fun c2 => ?_) (fun c2 => ?_)
              · rw [c2] at z
                exact ⟨_, rfl, _, _, rfl, rfl, z⟩
              · rw [Bool.eq_false_iff.mpr c2] at z
                exact z
            · rw [Bool.eq_false_iff.mpr c1] at z
              exact z
          · rw [if_neg e2]
            have z : Q (.bl (bndOf m [.int i, y2])) H := z
            rw [bnd_snd e2] at z
            exact z
        · rw [if_neg e1]
          have z : Q (.bl (bndOf m [y1, y2])) H := z
          rw [bnd_fst e1] at z
          exact z
      · have c1 : ¬ (V.int (xs.length : Int) = V.int 2) := fun q1 => c (by have := V.int.inj q1; omega)
        rw [decide_eq_false c1]
        have z : Q (.bl (bndOf m xs)) H := z
        rw [bnd_two c] at z
        exact z
    · unfold isBnd at z
      rw [hx] at z
      exact z
end
end LJ
set_option Elab.async false
set_option linter.all false
set_option maxRecDepth 100000
set_option maxHeartbeats 4000000
namespace LJ
open PySem PySem.Spec L2
def top12 : Int := 1000000000000
def sharesOf : List V → Bool
  | [n, a, b] => isN n && bndOf 1000 [a, b]
  | _ => false
def limOf : List V → Bool
  | [n, .int i] => isN n && (decide (0 ≤ i) && decide (i ≤ top12))
  | _ => false
def pairsOf (H : Hp) (m : Int) : Option (List V) → Bool
  | some ps => decide ((ps.length : Int) = m) && ps.all fun y => isBnd H y top12
  | none => false
def contOf (H : Hp) (m : Int) : List V → Bool
  | [n, t] => isN n && pairsOf H m (tupOf H t)
  | _ => false
def onTup (f : List V → Bool) (H : Hp) (x : V) : Bool := match tupOf H x with
  | some xs => f xs
  | none => false
def spTest (K : PySem.W.Frag) (d : Nat) (f : Hp → V → Bool) : Sp := fun vs H Q _ => ∃ x : V, vs = [x] ∧ Deep K H d x ∧ Says Q H (f H x)
def spCont (K : PySem.W.Frag) : Sp := fun vs H Q _ => ∃ (x : V) (m : Int), vs = [x, .int m] ∧ Deep K H 3 x ∧ Says Q H (onTup (contOf H m) H x)
theorem tup_ref {H : Hp} {x : V} {xs : List V} (h : tupOf H x = some xs) : ∃ a, x = .ref a ∧ H a = some (.tup xs) := by
  unfold tupOf at h
  split at h
  · rename_i a
    refine ⟨a, rfl, ?_⟩
    split at h
    · rename_i e
      rw [e]
      cases h
      rfl
    · cases h
  · cases h
theorem tup_at {H : Hp} {a : Addr} {xs : List V} (e : H a = some (.tup xs)) : tupOf H (.ref a) = some xs := by
  show (match H a with
    | some (.tup ys) => some ys
    | _ => none) = some xs
  rw [e]
theorem row_yes {H : Hp} {x : V} {n : Int} (h : isRow H x n = true) : ∃ y ys, tupOf H x = some (y :: ys) ∧ (((y :: ys).length : Nat) : Int) = n ∧ isN y = true := by
  unfold isRow at h
  split at h
  · rename_i xs e
    rw [Bool.and_eq_true] at h
    obtain ⟨h1, h2⟩ := h
    match xs, h1, h2, e with
    | y :: ys, h1, h2, e => exact ⟨y, ys, e, of_decide_eq_true h1, h2⟩
    | [], _, h2, _ => cases h2
  · cases h
theorem row_no {H : Hp} {x : V} {n : Nat} {f : List V → Bool} (h : isRow H x n = false) (hf : ∀ xs, f xs = true → ∃ y ys, xs = y :: ys ∧ xs.length = n ∧ isN y = true) : onTup f H x = false := by
  unfold isRow at h
  unfold onTup
  split at h
  · rename_i xs e
    try rw [e]
    refine Bool.eq_false_iff.mpr fun z => ?_
    obtain ⟨y, ys, rfl, e2, e3⟩ := hf xs z
    simp only [e2, e3, decide_true, Bool.and_self] at h
    cases h
  · rename_i e
    first
      | rw [e]
      | rfl
theorem Deep.down {K : PySem.W.Frag} {H : Hp} : ∀ {n : Nat} {x : V}, Deep K H (n + 1) x → Deep K H n x
  | 0, _, d => d.1
  | n + 1, _, d => ⟨d.1, fun xs h y hy => Deep.down (d.2 xs h y hy)⟩
section
variable {P : Program} {w : World} {K : PySem.W.Frag} {mg : Str → Option Value} {base : Heap}
theorem scShar : FnScope ["row"] ["row"] (defScope sShar) := ⟨rfl, rfl, rfl, by decide +kernel, rfl, by decide +kernel, by decide +kernel⟩
theorem ok_shar {f fN fB : Addr} {fd fdN fdB : FuncData} {u : Value} (F : Fun K "_has_shares" "_has_shares" sShar f fd)
    (GN : FnOk P w K mg base CX0 2 fN fdN ["row", "length"] (spNamed K)) (mN : mg "_is_named" = some (.ref fN)) (kN : PySem.W.keepIn K (.ref fN) = true) (bN : Binds K fdN ["row", "length"] [])
    (GB : FnOk P w K mg base CX0 2 fB fdB ["pair", "most"] (spBnd K)) (mB : mg "_are_bounds" = some (.ref fB)) (kB : PySem.W.keepIn K (.ref fB) = true) (bB : Binds K fdB ["pair", "most"] [])
    (mM : mg "MOST_SHARE" = some u) (rM : RelV (.int 1000) u) :
    FnOk P w K mg base CX0 3 f fd ["row"] (spTest K 1 (onTup sharesOf)) := by
  refine F.ok scShar (fun vs H Q E h => ?_) (fun cdv A outer s H vs Q E hr h => ?_)
  · obtain ⟨x, rfl, _⟩ := h
    rfl
  · obtain ⟨x, rfl, k, q⟩ := h
    refine ⟨_, pss_one (ps_ret (pe_and (pe_call GN hr (by rfl) mN kN bN .nil pass0 (pa_cons (pv 0) (pa_cons pe_int pa_nil)))
      (pe_one (pe_call GB hr (by rfl) mB kB bB .nil pass0 (pa_cons (pe_slice sl_tup (pv 0) (po_some pe_int) po_none) (pa_cons (pe_glob (by rfl) mM rM) pa_nil)))))), ?_⟩
    refine ⟨_, rfl, x, 3, rfl, by decide, k, fun H1 e1 => ⟨_, rfl, ?_⟩⟩
    have z := q H1 e1
    cases hr3 : isRow H x 3 with
    | false =>
      rw [row_no (n := 3) hr3 fun xs hx => ?_] at z
      · exact z
      · match xs, hx with
        | [y, a, b], hx =>
          unfold sharesOf at hx
          exact ⟨y, _, rfl, rfl, (Bool.and_eq_true _ _ ▸ hx).1⟩
    | true =>
      obtain ⟨y, ys, ht, hl, hy⟩ := row_yes hr3
      obtain ⟨a, b, rfl⟩ : ∃ a b, ys = [a, b] := by
        match ys, hl with
        | [a, b], _ => exact ⟨a, b, rfl⟩
        | [], hl => simp at hl
        | [_], hl => simp at hl
        | _ :: _ :: _ :: _, hl => simp at hl; omega
      obtain ⟨p, rfl, hp⟩ := tup_ref ht
      rw [if_pos rfl]
      refine ⟨_, rfl, _, rfl, p, _, rfl, SqT.of (e1 _ _ hp), ?_, fun t nt => ?_⟩
      · rintro ⟨c, _⟩
        exact absurd (show (1 : Nat) = 0 from c) (by decide)
      · have cut : cutV [y, a, b] (some 1) none = [a, b] := rfl
        rw [cut]
        have up : Ex H1 (upd H1 t (.tup [a, b])) := Ex.refl.new nt
        have tt : tupOf (upd H1 t (.tup [a, b])) (.ref t) = some [a, b] := tup_at upd_same
        refine ⟨.ref t, 1000, rfl, ⟨.tup upd_same (by rw [sizeLine_eq]; exact (by decide : 2 ≤ 16777216)), fun xs hx v hv => ?_⟩, fun H2 e2 => ?_⟩
        · rw [tt] at hx
          cases hx
          exact Kn.ex (k.2 _ ht v (List.mem_cons_of_mem _ hv)) (e1.trans up)
        · have z2 := q H2 (e1.trans (up.trans e2))
          have e : isBnd (upd H1 t (.tup [a, b])) (.ref t) 1000 = onTup sharesOf H (.ref p) := by
            unfold isBnd onTup
            rw [tt, ht]
            show bndOf 1000 [a, b] = (isN y && bndOf 1000 [a, b])
            rw [hy, Bool.true_and]
          show Q (.bl (isBnd (upd H1 t (.tup [a, b])) (.ref t) 1000)) H2
          rw [e]
          exact z2
theorem scLim : FnScope ["row"] ["row"] (defScope sLim) := ⟨rfl, rfl, rfl, by decide +kernel, rfl, by decide +kernel, by decide +kernel⟩
theorem ok_lim {f fN fI : Addr} {fd fdN fdI : FuncData} {u : Value} (F : Fun K "_has_limit" "_has_limit" sLim f fd)
    (GN : FnOk P w K mg base CX0 2 fN fdN ["row", "length"] (spNamed K)) (mN : mg "_is_named" = some (.ref fN)) (kN : PySem.W.keepIn K (.ref fN) = true) (bN : Binds K fdN ["row", "length"] [])
    (GI : FnOk P w K mg base CX0 1 fI fdI ["value"] (spInt K)) (mI : mg "is_integer" = some (.ref fI)) (kI : PySem.W.keepIn K (.ref fI) = true) (bI : Binds K fdI ["value"] [])
    (mM : mg "MOST_AMOUNT" = some u) (rM : RelV (.int top12) u) :
    FnOk P w K mg base CX0 3 f fd ["row"] (spTest K 1 (onTup limOf)) := by
  refine F.ok scLim (fun vs H Q E h => ?_) (fun cdv A outer s H vs Q E hr h => ?_)
  · obtain ⟨x, rfl, _⟩ := h
    rfl
  · obtain ⟨x, rfl, k, q⟩ := h
    have hr1 : Room 1 _ := hr.mono (by decide)
    refine ⟨_, pss_one (ps_ret (pe_and (pe_call GN hr (by rfl) mN kN bN .nil pass0 (pa_cons (pv 0) (pa_cons pe_int pa_nil)))
      (pe_and (pe_call GI hr1 (by rfl) mI kI bI .nil pass0 (pa_cons (pe_ix ix_tup (pv 0) pe_int (fun _ _ => rfl)) pa_nil))
        (pe_one (pe_chain op_le op_le pe_int (pe_ix ix_tup (pv 0) pe_int (fun _ _ => rfl)) (pe_glob (by rfl) mM rM)))))), ?_⟩
    refine ⟨_, rfl, x, 2, rfl, by decide, k, fun H1 e1 => ⟨_, rfl, ?_⟩⟩
    have z := q H1 e1
    cases hr3 : isRow H x 2 with
    | false =>
      rw [row_no (n := 2) hr3 fun xs hx => ?_] at z
      · exact z
      · match xs, hx with
        | [y, .int i], hx =>
          unfold limOf at hx
          exact ⟨y, _, rfl, rfl, (Bool.and_eq_true _ _ ▸ hx).1⟩
    | true =>
      obtain ⟨y, ys, ht, hl, hy⟩ := row_yes hr3
      obtain ⟨a, rfl⟩ : ∃ a, ys = [a] := by
        match ys, hl with
        | [a], _ => exact ⟨a, rfl⟩
        | [], hl => simp at hl
        | _ :: _ :: _, hl => simp at hl; omega
      obtain ⟨p, rfl, hp⟩ := tup_ref ht
      rw [if_pos rfl]
      have at1 : atI [y, a] 1 = some a := atI_nat (j := 1) rfl
      refine ⟨_, rfl, p, _, 1, a, rfl, rfl, SqT.of (e1 _ _ hp), at1, a, rfl, Kn.ex (k.2 _ ht a (by simp)) e1, _, rfl, ?_⟩
      have z : Q (.bl (onTup limOf H (.ref p))) H1 := z
      unfold onTup at z
      rw [ht] at z
      have z : Q (.bl (limOf [y, a])) H1 := z
      by_cases ci : isI a = true
      · obtain ⟨i, rfl⟩ := isI_int ci
        rw [if_pos ci]
        refine ⟨_, rfl, p, _, 1, .int i, rfl, rfl, SqT.of (e1 _ _ hp), at1, _, _, rfl, rfl, _, rfl, ?_⟩
        have z : Q (.bl (isN y && (decide (0 ≤ i) && decide (i ≤ top12)))) H1 := z
        rw [hy, Bool.true_and] at z
        refine ite2 (fun c1 => ?_) (fun c1 => ?_)
        · rw [c1, Bool.true_and] at z
          exact ⟨_, _, rfl, rfl, z⟩
        · rw [Bool.eq_false_iff.mpr c1, Bool.false_and] at z
          exact z
      · rw [if_neg ci]
        have e : limOf [y, a] = false := by
          cases a <;> first | exact absurd rfl ci | rfl
        rw [e] at z
        exact z
end
end LJ
set_option Elab.async false
set_option linter.all false
set_option maxRecDepth 100000
set_option maxHeartbeats 4000000
namespace LJ
open PySem PySem.Spec L2
theorem isBnd_ex {K : PySem.W.Frag} {H H1 : Hp} {y : V} {m : Int} (k : Kn K H y) (e : Ex H H1) : isBnd H1 y m = isBnd H y m := by
  unfold isBnd
  rw [k.tups e]
section
variable {P : Program} {w : World} {K : PySem.W.Frag} {mg : Str → Option Value} {base : Heap}
theorem scCont : FnScope ["row", "many", "pair"] ["row", "many"] (defScope sCont) := ⟨rfl, rfl, rfl, by decide +kernel, rfl, by decide +kernel, by decide +kernel⟩
theorem ok_cont {f fN fB : Addr} {fd fdN fdB : FuncData} {u : Value} (F : Fun K "_has_contents" "_has_contents" sCont f fd) (B : BltI mg)
    (GN : FnOk P w K mg base CX0 2 fN fdN ["row", "length"] (spNamed K)) (mN : mg "_is_named" = some (.ref fN)) (kN : PySem.W.keepIn K (.ref fN) = true) (bN : Binds K fdN ["row", "length"] [])
    (GB : FnOk P w K mg base CX0 2 fB fdB ["pair", "most"] (spBnd K)) (mB : mg "_are_bounds" = some (.ref fB)) (kB : PySem.W.keepIn K (.ref fB) = true) (bB : Binds K fdB ["pair", "most"] [])
    (mM : mg "MOST_AMOUNT" = some u) (rM : RelV (.int top12) u) :
    FnOk P w K mg base CX0 3 f fd ["row", "many"] (spCont K) := by
  refine F.ok scCont (fun vs H Q E h => ?_) (fun cdv A outer s H vs Q E hr h => ?_)
  · obtain ⟨x, m, rfl, _⟩ := h
    rfl
  · obtain ⟨x, m, rfl, k, q⟩ := h
    refine ⟨_, pss_cons (ps_if (PW.pt (pw_or (pt_not (pt_truth (pe_call GN hr (by rfl) mN kN bN .nil pass0 (pa_cons (pv 0) (pa_cons pe_int pa_nil))) (fun _ => rfl)))
        (pw_or (pt_not (pt_truth (pe_callB call_isi (by rfl) B.isinstance (by decide +kernel) (pa_cons (pe_ix ix_tup (pv 0) pe_int (fun _ _ => rfl)) (pa_cons (pe_bltn (by rfl) B.tuple (by decide +kernel) (v := .ty "tuple") rfl) pa_nil))) (fun _ => rfl)))
        (pw_or1 (pt_cmpR op_ne (pe_callB call_len_seq (by rfl) B.len (by decide +kernel) (pa_cons (pe_ix ix_tup (pv 0) pe_int (fun _ _ => rfl)) pa_nil)) (pv 1) (nomark _)))))) (pss_one (ps_ret pe_bl)) pss_nil)
      (pss_one (ps_ret (pe_callB (cr_all (by rfl)) (by rfl) B.all (by decide +kernel) (pa_cons (pe_lc (own := [("pair", 2)]) (g := gName 2) (by rfl) scCont.nd (pi_tup (pe_ix ix_tup (pv 0) pe_int (fun _ _ => rfl))) (blkOk_by (own := [("pair", 2)]) (N := ["row", "many", "pair"]) (sc := defScope sCont) (by decide +kernel))
        (fun _ _ _ _ _ => pg_name scCont.nd rfl (Or.inl rfl)) (fun _ _ _ _ _ => pts_nil) (fun _ _ _ _ _ => pe_call GB hr (by rfl) mB kB bB .nil pass0 (pa_cons (pv 2) (pa_cons (pe_glob (by rfl) mM rM) pa_nil)))) pa_nil)))), ?_⟩
    have k1 : Deep K H 1 x := k.down.down
    refine ⟨_, rfl, x, 2, rfl, by decide, k1, fun H1 e1 => ⟨_, rfl, ?_⟩⟩
    have z := q H1 e1
    cases hr3 : isRow H x 2 with
    | false =>
      rw [row_no (n := 2) hr3 fun xs hx => ?_] at z
      · exact z
      · match xs, hx with
        | [y, t], hx =>
          unfold contOf at hx
          exact ⟨y, _, rfl, rfl, (Bool.and_eq_true _ _ ▸ hx).1⟩
    | true =>
      obtain ⟨y, ys, ht, hl, hy⟩ := row_yes hr3
      obtain ⟨t, rfl⟩ : ∃ a, ys = [a] := by
        match ys, hl with
        | [a], _ => exact ⟨a, rfl⟩
        | [], hl => simp at hl
        | _ :: _ :: _, hl => simp at hl; omega
      obtain ⟨p, rfl, hp⟩ := tup_ref ht
      have at1 : atI [y, t] 1 = some t := atI_nat (j := 1) rfl
      have kt : Deep K H 2 t := k.2 _ ht t (by simp)
      have kt1 : Kn K H1 t := kt.1.ex e1
      have ez : onTup (contOf H m) H (.ref p) = pairsOf H m (tupOf H t) := by
        unfold onTup
        rw [ht]
        show (isN y && _) = _
        rw [hy, Bool.true_and]
      rw [ez] at z q
      obtain ⟨ty1, b, ty, e, hb⟩ := kt1.atTup
      refine ⟨_, rfl, p, _, 1, t, rfl, rfl, SqT.of (e1 _ _ hp), at1, t, _, ty1, _, b, rfl, .ty "tuple", ty, e, b, rfl, ?_⟩
      rcases hb with ⟨rfl, a, ps, rfl, ha, hx⟩ | ⟨rfl, hx⟩
      · refine ⟨_, rfl, p, _, 1, .ref a, rfl, rfl, SqT.of (e1 _ _ hp), at1, a, ps, rfl, .inr (SqT.of ha), _, rfl, rfl, _, rfl, ?_⟩
        have h0 : tupOf H (.ref a) = some ps := by
          rw [← kt.1.tups e1]
          exact hx
        rw [h0] at z q
        have z : Q (.bl (decide ((ps.length : Int) = m) && ps.all fun y => isBnd H y top12)) H1 := z
        have sz : ps.length ≤ sizeLine := kt.1.le h0
        by_cases c : (ps.length : Int) = m
        · have c1 : (V.int (ps.length : Int) = V.int m) := by rw [c]
          rw [decide_eq_true c1]
          refine ⟨_, rfl, p, _, 1, .ref a, rfl, rfl, SqT.of (e1 _ _ hp), at1, a, rfl, ⟨ps, SqT.of ha⟩, fun D hD => lc_it walk_tup (fun n H2 => Ex H1 H2 ∧ H2 D = some (.lst ((ps.take n).map fun y => V.bl (isBnd H y top12)))) ⟨Ex.refl.new hD, upd_same⟩ (fun i H2 _ h => SqT.of (h.1 _ _ ha)) ?_ ?_⟩
          · rintro i v _ H2 hi ⟨x2, e2⟩ ⟨rfl, hv⟩
            have kv : Deep K H 1 v := kt.2 _ h0 v (List.mem_of_getElem? hv)
            refine ⟨rfl, ?_⟩
            refine ⟨_, rfl, v, top12, rfl, Deep.ex (e1.trans x2) kv, fun H3 e3 => ?_⟩
            refine ⟨_, e3 _ _ e2, ?_, (x2.trans e3).put hD, ?_⟩
            · rw [List.length_map, List.length_take]
              omega
            · rw [upd_same, List.take_succ, hv, List.map_append, isBnd_ex kv.1 (e1.trans x2)]
              rfl
          · rintro H2 ⟨x2, e2⟩
            have e3 : H2 D = some (.lst ((ps.map fun y => isBnd H y top12).map V.bl)) := by
              rw [e2, List.take_of_length_le (Nat.le_refl _), List.map_map]
              rfl
            refine ⟨D, _, rfl, SqL.of e3, ?_⟩
            have z2 := q H2 (e1.trans x2)
            have z2 : Q (.bl (decide ((ps.length : Int) = m) && ps.all fun y => isBnd H y top12)) H2 := z2
            rw [decide_eq_true c, Bool.true_and] at z2
            rw [List.all_map]
            exact z2
        · have c1 : ¬ (V.int (ps.length : Int) = V.int m) := fun z => c (V.int.inj z)
          rw [decide_eq_false c1]
          rw [decide_eq_false c, Bool.false_and] at z
          exact z
      · rw [← kt.1.tups e1, hx] at z
        exact z
end
end LJ
set_option Elab.async false
set_option linter.all false
set_option maxRecDepth 100000
set_option maxHeartbeats 8000000
namespace LJ
open PySem PySem.Spec L2
abbrev sFirst : Stmt := top 34
abbrev nFirst : List Str := ["rows", "earlier", "fewest", "most", "is_right", "taken", "at", "row"]
abbrev pFirst : List Str := ["rows", "earlier", "fewest", "most", "is_right"]
/-- the place of the first row that is none: too many, not right, or its name is taken -/
def fwAt (R : V → Bool) (nm : V → Str) (most : Int) : List Str → Nat → List V → Option Nat
  | _, _, [] => none
  | tk, i, v :: r => if (i : Int) = most then some i else if R v = false then some i else if nm v ∈ tk then some i else fwAt R nm most (tk ++ [nm v]) (i + 1) r
def fwOut (R : V → Bool) (nm : V → Str) (few most : Int) (tk : List Str) : Option (List V) → List V
  | none => [.non]
  | some xs => if (xs.length : Int) < few then [.non] else match fwAt R nm most tk 0 xs with
    | none => []
    | some i => [.int i]
/-- a row that begins with this name -/
def Named (H : Hp) (v : V) (n : Str) : Prop := ∃ (a : Addr) (r : List V), v = .ref a ∧ H a = some (.tup (.str n :: r))
theorem Named.ex {H H1 : Hp} {v : V} {n : Str} (h : Named H v n) (e : Ex H H1) : Named H1 v n := by
  obtain ⟨a, r, e1, e2⟩ := h
  exact ⟨a, r, e1, e _ _ e2⟩
theorem walk_en {K : PySem.W.Frag} {a : Addr} {xs : List V} : Walk (EnT.Itn K a) xs.length (fun H => SqT K H a xs) (YPair (fun i => some (.int (i : Nat))) (fun i => xs[i]?)) where
  goes i _ hi q := ⟨xs, xs[i], q, by simp [hi]⟩
  stops _ q := ⟨xs, q, rfl⟩
  yields i H v H1 _ q y := by
    obtain ⟨T, x, h1, h2, h3, h4⟩ := y
    exact ⟨T, .int (i : Nat), x, h1, h2, h3, rfl, h4 xs q⟩
theorem strs_in {n : Str} {tk : List Str} : inV (.str n) (tk.map V.str) = decide (n ∈ tk) := by
  unfold inV
  rw [List.any_map]
  have e : (fun y => eqV y (V.str n)) ∘ V.str = fun y => decide (y = n) := by
    funext y
    show eqV (.str y) (.str n) = _
    unfold eqV
    rfl
  rw [e]
  by_cases h : n ∈ tk
  · rw [decide_eq_true h, List.any_eq_true]
    exact ⟨n, h, by simp⟩
  · rw [decide_eq_false h, List.any_eq_false]
    intro y hy z
    exact h (of_decide_eq_true z ▸ hy)
theorem Paired.spot {α β : Type} {F : α → β → Prop} : ∀ {xs : List α} {ys : List β} {i : Nat} {x : α}, Paired F xs ys → xs[i]? = some x → ∃ y, ys[i]? = some y ∧ F x y
  | _, _, 0, _, .cons f _, h => by
    cases h
    exact ⟨_, rfl, f⟩
  | _, _, i + 1, _, .cons _ t, h => Paired.spot (i := i) t h
  | _, _, _, _, .nil, h => by simp at h
theorem Paired.size {α β : Type} {F : α → β → Prop} : ∀ {xs : List α} {ys : List β}, Paired F xs ys → xs.length = ys.length
  | _, _, .nil => rfl
  | _, _, .cons _ t => by rw [List.length_cons, List.length_cons, Paired.size t]
section
variable {P : Program} {w : World} {K : PySem.W.Frag} {mg : Str → Option Value} {base : Heap}
theorem scFirst : FnScope nFirst pFirst (defScope sFirst) := ⟨rfl, rfl, rfl, by decide +kernel, rfl, by decide +kernel, by decide +kernel⟩
theorem walk_fw {f : Addr} {cdv : Value} {A : Around} {outer : List Env} {s : Shared} {H : Hp} {E : XK} {Q : VK} {tc : TE} {R : V → Bool} {nm : V → Str} {x cal : V} {ae : Addr} {ers : List V} {names : List Str} {few most : Int} (B : BltI mg)
    (hcall : ∀ p1 p2 p3, PE (cxOf CX0 P w K mg base nFirst "_first_wrong" (defScope sFirst) f cdv A outer s H E).nox (.Call (.Name "is_right" p1) [.Name "row" p2] [] p3) tc)
    (kx : Kn K H x) (ke : H ae = some (.tup ers)) (ken : Paired (Named H) ers names) (few0 : 0 ≤ few) (most0 : 0 ≤ most) (most1 : most ≤ 100) (el : ers.length ≤ 1000)
    (hR : ∀ xs, tupOf H x = some xs → ∀ v ∈ xs, ∀ (σ : St) (H1 : Hp) (Q1 : VK), Ex H H1 → σ[4]? = some (some cal) → σ[7]? = some (some v) → Says Q1 H1 (R v) → tc σ H1 Q1)
    (hN : ∀ xs, tupOf H x = some xs → ∀ v ∈ xs, R v = true → Named H v (nm v))
    (q : ∀ (p : Addr) (H1 : Hp), Ex H H1 → H p = none → H1 p = some (.tup (fwOut R nm few most names (tupOf H x))) → Q (.ref p) H1) :
    ∃ t, PSs (cxOf CX0 P w K mg base nFirst "_first_wrong" (defScope sFirst) f cdv A outer s H E).nox (defBody sFirst) t ∧ t { nx := fun _ H1 => Q .non H1, rt := Q } (start nFirst [x, .ref ae, .int few, .int most, cal]) H := by
  refine ⟨_, pss_cons (ps_if (PW.pt (pw_or (pt_not (pt_truth (pe_callB call_isi (by rfl) B.isinstance (by decide +kernel) (pa_cons (pv 0) (pa_cons (pe_bltn (by rfl) B.tuple (by decide +kernel) (v := .ty "tuple") rfl) pa_nil))) (fun _ => rfl)))
        (pw_or1 (pt_cmpR op_lt (pe_callB call_len_seq (by rfl) B.len (by decide +kernel) (pa_cons (pv 0) pa_nil)) (pv 2) (nomark _))))) (pss_one (ps_ret (pe_tup (pa_cons pe_non pa_nil)))) pss_nil)
    (pss_cons (ps_setLc (i := 5) (own := [("row", 7)]) (g := gName 7) (by rfl) scFirst.nd rfl rfl (sw_true rfl rfl rfl (by decide +kernel)) (pi_tup (pv 1)) (blkOk_by (own := [("row", 7)]) (N := nFirst) (sc := defScope sFirst) (by decide +kernel))
        (fun _ _ _ _ _ => pg_name scFirst.nd rfl (Or.inl rfl)) (fun _ _ _ _ _ => pts_nil) (fun _ _ _ _ _ => pe_ix (show IxR _ (rIxT K) from ix_tup) (pv 7) pe_int (fun _ _ => rfl)))
    (pss_cons (ps_for PassesOwn.never rfl (EnT.pi_enT (by rfl) B.enumerate (pa_cons (pv 0) pa_nil)) (pg_tup (by rfl) (pgs_cons (pg_name (i := 6) scFirst.nd rfl (Or.inl rfl)) (pgs_cons (pg_name (i := 7) scFirst.nd rfl (Or.inl rfl)) pgs_nil)))
        (pss_cons (ps_if (PW.pt (pw_or (pt_cmpR op_eq (pv 6) (pv 3) (nomark _)) (pw_or (pt_not (pt_truth (hcall _ _ _) (fun _ => rfl))) (pw_or1 (pt_cmpR op_in_seq (pe_ix ix_tup (pv 7) pe_int (fun _ _ => rfl)) (pv 5) (by with_unfolding_all rfl)))))) (pss_one (ps_ret (pe_tup (pa_cons (pv 6) pa_nil)))) pss_nil)
        (pss_one (ps_expr (pe_bm PySem.F.plainAttrs_list PySem.F.slot_list_append PySem.F.type_list_append mt_append (pv 5) (pa_cons (pe_ix ix_tup (pv 7) pe_int (fun _ _ => rfl)) pa_nil))))))
    (pss_one (ps_ret (pe_tup pa_nil))))), ?_⟩
  obtain ⟨t, b, ty, e, hb⟩ := kx.atTup
  have one : 1 ≤ sizeLine := by
    rw [sizeLine_eq]
    decide
  have big : (2000 : Nat) < sizeLine := by
    rw [sizeLine_eq]
    decide
  have nl : ers.length = names.length := Paired.size ken
  refine ⟨_, rfl, _, _, t, _, b, rfl, .ty "tuple", ty, e, b, rfl, ?_⟩
  rcases hb with ⟨rfl, a, xs, rfl, ha, hx⟩ | ⟨rfl, hx⟩
  · rw [hx] at q
    refine ⟨_, rfl, a, xs, rfl, .inr (SqT.of ha), _, rfl, _, _, rfl, rfl, _, rfl, ?_⟩
    refine ite2 (fun c => ?_) (fun c => ?_)
    · refine ⟨one, fun p np => q p _ (Ex.refl.new np) np ?_⟩
      rw [upd_same]
      unfold fwOut
      simp only
      rw [if_pos (of_decide_eq_true c)]
    · have c' : ¬ (xs.length : Int) < few := fun z => c (decide_eq_true z)
      have q : ∀ (p : Addr) (H1 : Hp) (o : Option Nat), Ex H H1 → H p = none → fwAt R nm most names 0 xs = o → H1 p = some (.tup (match o with | none => [] | some i => [.int i])) → Q (.ref p) H1 := fun p H1 o e1 e2 e3 e4 => by
        refine q p H1 e1 e2 ?_
        unfold fwOut
        simp only
        rw [if_neg c', e3, e4]
      clear c
      refine ⟨_, rfl, ae, rfl, ⟨ers, SqT.of ke⟩, fun D hD => lc_it walk_tup (fun n H2 => Ex H H2 ∧ H2 D = some (.lst ((names.take n).map V.str))) ⟨Ex.refl.new hD, upd_same⟩ (fun i H2 _ h => SqT.of (h.1 _ _ ke)) ?_ ?_⟩
      · rintro i v _ H2 hi ⟨x2, e2⟩ ⟨rfl, hv⟩
        obtain ⟨n, hn, b, r, rfl, hb⟩ := Paired.spot ken hv
        refine ⟨rfl, ?_⟩
        refine ⟨_, rfl, b, _, 0, .str n, rfl, rfl, SqT.of (x2 _ _ hb), atI_nat (j := 0) rfl, ?_⟩
        refine ⟨_, e2, ?_, x2.put hD, ?_⟩
        · rw [List.length_map, List.length_take]
          omega
        · rw [upd_same, List.take_succ, hn, List.map_append]
          rfl
      · rintro H2 ⟨x2, e2⟩
        rw [nl, List.take_length] at e2
        refine ⟨_, rfl, a, xs, rfl, SqT.of (x2 _ _ ha), for_it walk_en (fun n σ G => ∃ (tk : List Str) (v6 v7 : Option V), σ = [some (.ref a), some (.ref ae), some (.int few), some (.int most), some cal, some (.ref D), v6, v7] ∧ Ex H G ∧ G D = some (.lst (tk.map V.str)) ∧
            tk.length = names.length + n ∧ (n : Int) ≤ most ∧ fwAt R nm most names 0 xs = fwAt R nm most tk n (xs.drop n))
          ⟨names, _, _, rfl, x2, e2, rfl, by omega, by rw [List.drop_zero]⟩ (fun n σ G _ ⟨_, _, _, _, h, _⟩ => SqT.of (h _ _ ha)) ?_ ?_⟩
        · rintro i v σ G G1 hi ⟨tk, v6, v7, rfl, xG, eD, tl, im, ef⟩ ⟨T, y1, y2, rfl, nT, rfl, h1, h2⟩
          cases h1
          have h2 : xs[i]? = some y2 := h2
          have hi2 : i < xs.length := hi
          have dr : xs.drop i = y2 :: xs.drop (i + 1) := by
            have z := h2
            rw [List.getElem?_eq_getElem hi2] at z
            rw [List.drop_eq_getElem_cons hi2, Option.some.inj z]
          rw [dr] at ef
          have mem : y2 ∈ xs := List.mem_of_getElem? h2
          have xT : Ex H (upd G T (.tup [.int (i : Nat), y2])) := xG.new nT
          have dT : D ≠ T := ne_of_none eD nT
          have eD1 : (upd G T (.tup [.int (i : Nat), y2])) D = some (.lst (tk.map V.str)) := by
            rw [upd_ne dT]
            exact eD
          have eT : (upd G T (.tup [.int (i : Nat), y2])) T = some (.tup [.int (i : Nat), y2]) := upd_same
          generalize upd G T (.tup [.int (i : Nat), y2]) = G1 at xT eD1 eT ⊢
          refine ⟨T, _, rfl, SqT.of eT, rfl, _, _, rfl, _, _, rfl, rfl, ?_⟩
          refine ⟨_, rfl, _, rfl, rfl, _, rfl, ?_⟩
          have stop : fwAt R nm most tk i (y2 :: xs.drop (i + 1)) = some i → ∀ (G2 : Hp), Ex H G2 → ∀ p, G2 p = none → Q (.ref p) (upd G2 p (.tup [.int (i : Nat)])) := fun z G2 x3 p np =>
            q p _ (some i) (x3.new np) (x3.gone np) (ef.trans z) upd_same
          by_cases c1 : (i : Int) = most
          · rw [decide_eq_true (show V.int ((i : Nat) : Int) = V.int most by rw [c1])]
            refine ⟨_, rfl, one, fun p np => stop ?_ G1 xT p np⟩
            unfold fwAt
            rw [if_pos c1]
          · rw [decide_eq_false (fun z : V.int ((i : Nat) : Int) = V.int most => c1 (V.int.inj z))]
            refine hR xs hx y2 mem _ _ _ xT rfl rfl fun G2 x4 => ⟨_, rfl, ?_⟩
            have xT2 := xT.trans x4
            cases hRv : R y2 with
            | false =>
              refine ⟨_, rfl, one, fun p np => stop ?_ G2 xT2 p np⟩
              unfold fwAt
              rw [if_neg c1, if_pos hRv]
            | true =>
              obtain ⟨bb, r, rfl, hbb⟩ := hN xs hx y2 mem hRv
              have eD2 := x4 _ _ eD1
              have fl : (tk.map V.str).all flatV = true := by
                rw [List.all_map]
                exact List.all_eq_true.mpr fun _ _ => rfl
              refine ⟨_, rfl, bb, _, 0, .str (nm (.ref bb)), rfl, rfl, SqT.of (xT2 _ _ hbb), atI_nat (j := 0) rfl, _, rfl, D, _, rfl, .inl (SqL.of eD2), rfl, fl, _, rfl, ?_⟩
              rw [show (if false = true then !inV (V.str (nm (V.ref bb))) (tk.map V.str) else inV (V.str (nm (V.ref bb))) (tk.map V.str)) = decide (nm (V.ref bb) ∈ tk) from strs_in]
              refine ite2 (fun c2 => ?_) (fun c2 => ?_)
              · refine ⟨_, rfl, one, fun p np => stop ?_ G2 xT2 p np⟩
                unfold fwAt
                rw [if_neg c1, if_neg (by rw [hRv]; decide), if_pos (of_decide_eq_true c2)]
              · have c3 : ¬ nm (V.ref bb) ∈ tk := fun z => c2 (decide_eq_true z)
                refine ⟨_, rfl, .inl ⟨rfl, _, SqL.of eD2⟩, _, rfl, bb, _, 0, .str (nm (.ref bb)), rfl, rfl, SqT.of (xT2 _ _ hbb), atI_nat (j := 0) rfl, D, _, _, rfl, rfl, eD2, ?_, tk ++ [nm (.ref bb)], _, _, rfl, xT2.put hD, ?_, ?_, ?_, ?_⟩
                · rw [List.length_map, tl]
                  omega
                · rw [upd_same, List.map_append]
                  rfl
                · rw [List.length_append, tl]
                  rfl
                · omega
                · rw [ef]
                  conv => lhs; unfold fwAt
                  rw [if_neg c1, if_neg (by rw [hRv]; decide), if_neg c3]
        · rintro σ G ⟨tk, v6, v7, rfl, xG, eD, tl, im, ef⟩
          rw [List.drop_length] at ef
          exact ⟨Nat.zero_le _, fun p np => q p _ none (xG.new np) (xG.gone np) ef upd_same⟩
  · rw [hx] at q
    exact ⟨one, fun p np => q p _ (Ex.refl.new np) np upd_same⟩
end
end LJ
set_option Elab.async false
set_option linter.all false
set_option maxRecDepth 100000
set_option maxHeartbeats 8000000
namespace LJ
open PySem PySem.Spec L2
def nameOf (H : Hp) (v : V) : Str := match tupOf H v with
  | some (.str n :: _) => n
  | _ => Str.empty
/-- what a test lets has a name ahead -/
def Heads (g : List V → Bool) : Prop := ∀ xs, g xs = true → ∃ y ys, xs = y :: ys ∧ isN y = true
theorem heads_shares : Heads sharesOf := fun xs h => by
  match xs, h with
  | [y, a, b], h =>
    unfold sharesOf at h
    exact ⟨y, _, rfl, (Bool.and_eq_true _ _ ▸ h).1⟩
theorem heads_lim : Heads limOf := fun xs h => by
  match xs, h with
  | [y, .int i], h =>
    unfold limOf at h
    exact ⟨y, _, rfl, (Bool.and_eq_true _ _ ▸ h).1⟩
theorem heads_cont {H : Hp} {m : Int} : Heads (contOf H m) := fun xs h => by
  match xs, h with
  | [y, t], h =>
    unfold contOf at h
    exact ⟨y, _, rfl, (Bool.and_eq_true _ _ ▸ h).1⟩
theorem named_of {g : List V → Bool} {H : Hp} {v : V} (hg : Heads g) (h : onTup g H v = true) : Named H v (nameOf H v) := by
  unfold onTup at h
  split at h
  · rename_i xs e
    obtain ⟨y, ys, rfl, hy⟩ := hg xs h
    obtain ⟨a, rfl, ha⟩ := tup_ref e
    match y, hy with
    | .str n, _ =>
      refine ⟨a, ys, rfl, ?_⟩
      unfold nameOf
      rw [e]
      exact ha
  · cases h
theorem onTup_ex {K : PySem.W.Frag} {g : List V → Bool} {H H1 : Hp} {v : V} (k : Kn K H v) (e : Ex H H1) : onTup g H1 v = onTup g H v := by
  unfold onTup
  rw [k.tups e]
/-- what the call of _first_wrong asks of its first four arguments -/
structure FwPre (K : PySem.W.Frag) (H : Hp) (x : V) (ae : Addr) (ers : List V) (names : List Str) (few most : Int) : Prop where
  ke : H ae = some (.tup ers)
  ken : Paired (Named H) ers names
  few0 : 0 ≤ few
  most0 : 0 ≤ most
  most1 : most ≤ 100
  el : ers.length ≤ 1000
def spFw (K : PySem.W.Frag) (fS fL : Addr) : Sp := fun vs H Q _ => ∃ (x : V) (ae : Addr) (ers : List V) (names : List Str) (few most : Int) (cf : Addr) (g : List V → Bool), vs = [x, .ref ae, .int few, .int most, .ref cf] ∧ FwPre K H x ae ers names few most ∧ Deep K H 2 x ∧
  ((cf = fS ∧ g = sharesOf) ∨ (cf = fL ∧ g = limOf)) ∧ ∀ (p : Addr) (H1 : Hp), Ex H H1 → H p = none → H1 p = some (.tup (fwOut (onTup g H) (nameOf H) few most names (tupOf H x))) → Q (.ref p) H1
section
variable {P : Program} {w : World} {K : PySem.W.Frag} {mg : Str → Option Value} {base : Heap}
theorem ok_first {f fS fL : Addr} {fd fdS fdL : FuncData} (F : Fun K "_first_wrong" "_first_wrong" sFirst f fd) (B : BltI mg)
    (GS : FnOk P w K mg base CX0 3 fS fdS ["row"] (spTest K 1 (onTup sharesOf))) (kS : PySem.W.keepIn K (.ref fS) = true) (bS : Binds K fdS ["row"] [])
    (GL : FnOk P w K mg base CX0 3 fL fdL ["row"] (spTest K 1 (onTup limOf))) (kL : PySem.W.keepIn K (.ref fL) = true) (bL : Binds K fdL ["row"] []) :
    FnOk P w K mg base CX0 4 f fd pFirst (spFw K fS fL) := by
  refine F.ok scFirst (fun vs H Q E h => ?_) (fun cdv A outer s H vs Q E hr h => ?_)
  · obtain ⟨x, ae, ers, names, few, most, cf, g, rfl, _⟩ := h
    rfl
  · obtain ⟨x, ae, ers, names, few, most, cf, g, rfl, pre, dx, hc, q⟩ := h
    refine walk_fw (cal := .ref cf) (R := onTup g H) (nm := nameOf H) B (fun p1 p2 p3 => C8.pe_cv (i := 4) (k1 := 3) (k2 := 3) ⟨⟨_, _, GS, kS, bS⟩⟩ ⟨⟨_, _, GL, kL, bL⟩⟩ hr (by decide) (by decide) (by rfl) (by exact Or.inl rfl) (pa_cons (pv 7) pa_nil))
      dx.1 pre.ke pre.ken pre.few0 pre.most0 pre.most1 pre.el ?_ ?_ q
    · intro xs hx v hv σ H1 Q1 e1 h4 h7 says
      have dv : Deep K H 1 v := dx.2 xs hx v hv
      rcases hc with ⟨rfl, rfl⟩ | ⟨rfl, rfl⟩
      · exact .inl ⟨h4, v, h7, v, rfl, Deep.ex e1 dv, by rw [onTup_ex dv.1 e1]; exact says⟩
      · exact .inr ⟨h4, v, h7, v, rfl, Deep.ex e1 dv, by rw [onTup_ex dv.1 e1]; exact says⟩
    · intro xs hx v hv hR
      rcases hc with ⟨_, rfl⟩ | ⟨_, rfl⟩
      · exact named_of heads_shares hR
      · exact named_of heads_lim hR
end
end LJ
set_option Elab.async false
set_option linter.all false
set_option maxRecDepth 100000
set_option maxHeartbeats 8000000
namespace LJ
open PySem PySem.Spec L2
open LamX (ExtN)
abbrev sCheck : Stmt := top 33
abbrev nCheck : List Str := ["machines", "cleanings", "stuffs", "products", "wrong", "many"]
abbrev pCheck : List Str := ["machines", "cleanings", "stuffs", "products"]
theorem onTup_exN {K : PySem.W.Frag} {g : List V → Bool} {H H1 : Hp} {v : V} (k : Kn K H v) (e : ExtN H H1) : onTup g H1 v = onTup g H v := by
  unfold onTup
  rw [k.tupsN e]
theorem nameOf_exN {K : PySem.W.Frag} {H H1 : Hp} {v : V} (k : Kn K H v) (e : ExtN H H1) : nameOf H1 v = nameOf H v := by
  unfold nameOf
  rw [k.tupsN e]
theorem isBnd_exN {K : PySem.W.Frag} {H H1 : Hp} {y : V} {m : Int} (k : Kn K H y) (e : ExtN H H1) : isBnd H1 y m = isBnd H y m := by
  unfold isBnd
  rw [k.tupsN e]
theorem all_same {α : Type} {p q : α → Bool} : ∀ {xs : List α}, (∀ x ∈ xs, p x = q x) → xs.all p = xs.all q
  | [], _ => rfl
  | x :: xs, h => by rw [List.all_cons, List.all_cons, h x (List.mem_cons_self ..), all_same fun y hy => h y (List.mem_cons_of_mem _ hy)]
theorem cont_exN {K : PySem.W.Frag} {H H1 : Hp} {m : Int} {v : V} (d : Deep K H 3 v) (e : ExtN H H1) : onTup (contOf H1 m) H1 v = onTup (contOf H m) H v := by
  unfold onTup
  rw [d.1.tupsN e]
  cases hx : tupOf H v with
  | none => rfl
  | some xs =>
    show contOf H1 m xs = contOf H m xs
    match xs, hx with
    | [], _ => rfl
    | [_], _ => rfl
    | _ :: _ :: _ :: _, _ => rfl
    | [n, t], hx =>
      have dt : Deep K H 2 t := d.2 _ hx t (by simp)
      show (isN n && pairsOf H1 m (tupOf H1 t)) = (isN n && pairsOf H m (tupOf H t))
      rw [dt.1.tupsN e]
      cases ht : tupOf H t with
      | none => rfl
      | some ps =>
        show (isN n && (decide ((ps.length : Int) = m) && ps.all fun y => isBnd H1 y top12)) = (isN n && (decide ((ps.length : Int) = m) && ps.all fun y => isBnd H y top12))
        rw [all_same fun y hy => isBnd_exN (m := top12) (dt.2 _ ht y hy).1 e]
theorem fwAt_same {R R1 : V → Bool} {nm nm1 : V → Str} {most : Int} : ∀ {xs : List V} {tk : List Str} {i : Nat}, (∀ v ∈ xs, R v = R1 v ∧ nm v = nm1 v) → fwAt R nm most tk i xs = fwAt R1 nm1 most tk i xs
  | [], _, _, _ => by
    unfold fwAt
    rfl
  | v :: xs, tk, i, h => by
    have h1 := h v (List.mem_cons_self ..)
    have t := fwAt_same (tk := tk ++ [nm1 v]) (i := i + 1) (most := most) fun y hy => h y (List.mem_cons_of_mem _ hy)
    unfold fwAt
    rw [h1.1, h1.2, t]
/-- all rows are right, and there are no more than so many -/
theorem fwAt_all {R : V → Bool} {nm : V → Str} {most : Int} : ∀ {xs : List V} {tk : List Str} {i : Nat}, (i : Int) ≤ most → fwAt R nm most tk i xs = none → (∀ v ∈ xs, R v = true) ∧ (i : Int) + xs.length ≤ most
  | [], _, i, h0, _ => ⟨(fun _ z => nomatch z), by simpa using h0⟩
  | v :: xs, tk, i, h0, h => by
    unfold fwAt at h
    split at h
    · cases h
    · split at h
      · cases h
      · split at h
        · cases h
        · rename_i c1 c2 c3
          obtain ⟨a, b⟩ := fwAt_all (i := i + 1) (by omega) h
          refine ⟨fun y hy => ?_, ?_⟩
          · rcases List.mem_cons.mp hy with rfl | hy
            · exact Bool.of_not_eq_false c2
            · exact a y hy
          · rw [List.length_cons]
            omega
theorem fw_nil {R : V → Bool} {nm : V → Str} {few most : Int} {tk : List Str} {H : Hp} {x : V} {xs : List V} (e : tupOf H x = some xs) (l : few ≤ xs.length) (h : fwAt R nm most tk 0 xs = none) : fwOut R nm few most tk (tupOf H x) = [] := by
  rw [e]
  unfold fwOut
  simp only
  rw [if_neg (by omega), h]
/-- four tuples that the check lets -/
structure Fit (K : PySem.W.Frag) (H : Hp) (am ac as ap : Addr) (xm xc xs xp : List V) : Prop where
  m : H am = some (.tup xm)
  c : H ac = some (.tup xc)
  s : H as = some (.tup xs)
  p : H ap = some (.tup xp)
  dm : Deep K H 2 (.ref am)
  dc : Deep K H 2 (.ref ac)
  ds : Deep K H 2 (.ref as)
  dp : Deep K H 4 (.ref ap)
  lm : 1 ≤ xm.length
  ls : 1 ≤ xs.length
  lp : 1 ≤ xp.length
  fm : fwAt (onTup sharesOf H) (nameOf H) 6 [] 0 xm = none
  fc : fwAt (onTup sharesOf H) (nameOf H) 6 (xm.map (nameOf H)) 0 xc = none
  fs : fwAt (onTup limOf H) (nameOf H) 3 ((xm ++ xc).map (nameOf H)) 0 xs = none
  fp : fwAt (onTup (contOf H xs.length) H) (nameOf H) 8 ((xm ++ xc ++ xs).map (nameOf H)) 0 xp = none
theorem Deep.rows {K : PySem.W.Frag} {H : Hp} {n : Nat} {a : Addr} {xs : List V} (d : Deep K H (n + 1) (.ref a)) (h : H a = some (.tup xs)) : ∀ v ∈ xs, Deep K H n v := d.2 xs (tup_at h)
theorem names_exN {K : PySem.W.Frag} {H H1 : Hp} (e : ExtN H H1) : ∀ {xs : List V}, (∀ v ∈ xs, Kn K H v) → xs.map (nameOf H1) = xs.map (nameOf H)
  | [], _ => rfl
  | x :: xs, h => by rw [List.map_cons, List.map_cons, nameOf_exN (h x (List.mem_cons_self ..)) e, names_exN e fun y hy => h y (List.mem_cons_of_mem _ hy)]
theorem Fit.exN {K : PySem.W.Frag} {H H1 : Hp} {am ac as ap : Addr} {xm xc xs xp : List V} (F : Fit K H am ac as ap xm xc xs xp) (e : ExtN H H1) : Fit K H1 am ac as ap xm xc xs xp := by
  have km : ∀ v ∈ xm, Kn K H v := fun v hv => (F.dm.rows F.m v hv).kn
  have kc : ∀ v ∈ xc, Kn K H v := fun v hv => (F.dc.rows F.c v hv).kn
  have ks : ∀ v ∈ xs, Kn K H v := fun v hv => (F.ds.rows F.s v hv).kn
  have kp : ∀ v ∈ xp, Kn K H v := fun v hv => (F.dp.rows F.p v hv).kn
  have kmc : ∀ v ∈ xm ++ xc, Kn K H v := fun v hv => (List.mem_append.mp hv).elim (km v) (kc v)
  have kmcs : ∀ v ∈ xm ++ xc ++ xs, Kn K H v := fun v hv => (List.mem_append.mp hv).elim (kmc v) (ks v)
  refine ⟨tup_n e F.m, tup_n e F.c, tup_n e F.s, tup_n e F.p, F.dm.exN e, F.dc.exN e, F.ds.exN e, F.dp.exN e, F.lm, F.ls, F.lp, ?_, ?_, ?_, ?_⟩
  · rw [← F.fm]
    exact fwAt_same fun v hv => ⟨onTup_exN (km v hv) e, nameOf_exN (km v hv) e⟩
  · rw [← F.fc, names_exN e km]
    exact fwAt_same fun v hv => ⟨onTup_exN (kc v hv) e, nameOf_exN (kc v hv) e⟩
  · rw [← F.fs, names_exN e kmc]
    exact fwAt_same fun v hv => ⟨onTup_exN (ks v hv) e, nameOf_exN (ks v hv) e⟩
  · rw [← F.fp, names_exN e kmcs]
    exact fwAt_same fun v hv => ⟨cont_exN (F.dp.rows F.p v hv) e, nameOf_exN (kp v hv) e⟩
theorem paired_names {H : Hp} : ∀ {xs : List V}, (∀ v ∈ xs, Named H v (nameOf H v)) → Paired (Named H) xs (xs.map (nameOf H))
  | [], _ => .nil
  | x :: xs, h => .cons (h x (List.mem_cons_self ..)) (paired_names fun y hy => h y (List.mem_cons_of_mem _ hy))
theorem Fit.named {K : PySem.W.Frag} {H : Hp} {am ac as ap : Addr} {xm xc xs xp : List V} (F : Fit K H am ac as ap xm xc xs xp) :
    (∀ v ∈ xm, Named H v (nameOf H v)) ∧ (∀ v ∈ xc, Named H v (nameOf H v)) ∧ (∀ v ∈ xs, Named H v (nameOf H v)) ∧ xm.length ≤ 6 ∧ xc.length ≤ 6 ∧ xs.length ≤ 3 := by
  obtain ⟨a1, b1⟩ := fwAt_all (by decide) F.fm
  obtain ⟨a2, b2⟩ := fwAt_all (by decide) F.fc
  obtain ⟨a3, b3⟩ := fwAt_all (by decide) F.fs
  exact ⟨fun v hv => named_of heads_shares (a1 v hv), fun v hv => named_of heads_shares (a2 v hv), fun v hv => named_of heads_lim (a3 v hv), by omega, by omega, by omega⟩
/-- a + b, two tuples, the first one not empty -/
theorem rd_cat {K : PySem.W.Frag} {H : Hp} {a b : Addr} {xs ys : List V} {Q : VK} (ha : H a = some (.tup xs)) (hb : H b = some (.tup ys)) (ne : xs ≠ []) (l : xs.length + ys.length ≤ 1000)
    (q : ∀ (c : Addr) (H1 : Hp), Ex H H1 → H1 c = some (.tup (xs ++ ys)) → Q (.ref c) H1) : rCatT K (.ref a) (.ref b) H Q := by
  refine ⟨a, b, xs, ys, rfl, rfl, SqT.of ha, SqT.of hb, ne, ?_, fun e => ?_, fun _ p np => ?_⟩
  · rw [sizeLine_eq]
    omega
  · subst e
    exact q a H Ex.refl (by rw [List.append_nil]; exact ha)
  · exact q p _ (Ex.refl.new np) upd_same
end LJ
set_option Elab.async false
set_option linter.all false
set_option maxRecDepth 100000
set_option maxHeartbeats 8000000
namespace LJ
open PySem PySem.Spec L2
open LamX (ExtN TabB)
open NdefX (NTab TabsN)
/-- a def with the code object at c, by its body -/
theorem Fun.okC {K : PySem.W.Frag} {P : Program} {w : World} {mg : Str → Option Value} {base : Heap} {x qual : Str} {st : Stmt} {f c : Addr} {fd : FuncData} {N ps : List Str} {k : Nat} {sp : Sp} (F : Fun K x qual st f fd) (hc : fd.code = .ref c) (S : FnScope N ps (defScope st)) (len : ∀ vs H Q E, sp vs H Q E → vs.length = ps.length)
    (hbody : ∀ (A : Around) (outer : List Env) (s : Shared) (H : Hp) (vs : List V) (Q : VK) (E : XK), Room k (A.deeper (PyProof.Rows.envOfC qual (defScope st) s.heap.objs.size f (.ref c))) → sp vs H Q E →
      ∃ t, PSs (cxOf CX0 P w K mg base N qual (defScope st) f (.ref c) A outer s H E).nox (defBody st) t ∧ t { nx := fun _ H1 => Q .non H1, rt := Q } (start N vs) H) : FnOk P w K mg base CX0 (k + 1) f fd ps sp := by
  obtain ⟨oc, od, kV, doc, pm, an, cdv, ct, osl, rfl, lk, hcd⟩ := F.ex
  obtain rfl : cdv = .ref c := hc
  refine fn_of lk hcd S len fun A outer s H vs Q E hr hsp => ?_
  obtain ⟨t, h, q⟩ := hbody A outer s H vs Q E hr hsp
  exact ⟨t, h.nox, q⟩
/-! ### _first_wrong(.., lambda row: _has_contents(row, many)) -/
def spRow (K : PySem.W.Frag) : List (Option V) → Sp := fun ws vs H Q _ => ∃ (v : V) (m : Int), ws = [some (.int m)] ∧ vs = [v] ∧ Deep K H 3 v ∧ Says Q H (onTup (contOf H m) H v)
/-- what the arguments are: the lambda stands, many is m -/
def AskL (X : Cx) (params : Arguments) (body : Expr) (scope : Scope) : St → List V → Hp → VK → Prop := fun σ vs H Q => ∃ (x : V) (ae : Addr) (ers : List V) (names : List Str) (few most m : Int) (fl c1 : Addr),
  vs = [x, .ref ae, .int few, .int most, .ref fl] ∧ FwPre X.K H x ae ers names few most ∧ Deep X.K H 4 x ∧ σ[5]? = some (some (.int m)) ∧ H fl = some (LamV.LnO fl (LamV.lamF X params scope c1) body) ∧
  H (LamV.lamF X params scope c1).c = some (LamX.CodeO (LamV.lamF X params scope c1).c (LamV.lamF X params scope c1).qual) ∧
  ∀ (p : Addr) (H1 : Hp), Ex H H1 → H p = none → H1 p = some (.tup (fwOut (onTup (contOf H m) H) (nameOf H) few most names (tupOf H x))) → Q (.ref p) H1
theorem pe_fwl {X : Cx} {f fC : Addr} {fd fdC : FuncData} {params : Arguments} {body : Expr} {scope : Scope} {p pos : Pos} {e : Expr} {es : List Expr} {t : TA} {q1 q2 q3 q4 : Pos} (F : Fun X.K "_first_wrong" "_first_wrong" sFirst f fd) (B : BltI X.mg) (room : Room 5 X.A) (gl : Gl X "_first_wrong")
    (is : X.mg "_first_wrong" = some (.ref f)) (kp : PySem.W.keepIn X.K (.ref f) = true) (bd : Binds X.K fd pFirst [])
    (GC : FnOk X.prog X.w X.K X.mg X.base CX0 3 fC fdC ["row", "many"] (spCont X.K)) (mC : X.mg "_has_contents" = some (.ref fC)) (kC : PySem.W.keepIn X.K (.ref fC) = true) (bC : Binds X.K fdC ["row", "many"] [])
    (is5 : X.N[5]? = some ("many" : Str)) (caps : ∀ y ∈ scope.names, y.2 = .free → X.env.scope.names.lookup y.1 = some .cell ∨ X.env.scope.names.lookup y.1 = some .free) (frees : ∀ y ∈ (["many"] : List Str), (y, NameKind.free) ∈ scope.names) (hb : body = .Call (.Name "_has_contents" q1) [.Name "row" q2, .Name "many" q3] [] q4)
    (NS : NdefX.NScope ["row", "many"] ["row"] ["many"] scope) (glC : scope.names.lookup ("_has_contents" : Str) = some .globalImplicit)
    (hbind : ∀ (nm q : Str) (cl : List (Str × Addr)) (m t cv : Value) (us : List Value), us.length = 1 → bindArgs (PySem.W.kla_fn nm q params body scope cl m cv t) ⟨us, []⟩ = pure ((["row"] : List Str).zip us))
    (args : PA X (e :: es) t) (p1 : starEach (e :: es) X.env = (false, eval e X.env) :: starEach es X.env := by rfl) (p2 : (backTo pos (starEach es X.env)).any (·.1) = false := by rfl) :
    PE X (.Call (.Name "_first_wrong" p) (e :: es) [] pos) (fun σ H Q => t σ H fun vs H1 => AskL X params body scope σ vs H1 Q) := by
  refine LamV.pe_in (N := nFirst) (ps := pFirst) (k := 4) F scFirst room gl is kp bd (fun {σ vs H Q} h => ?_) (fun cdv pins σ H s vs Q I deep h => ?_) args (by decide) p1 p2
  · obtain ⟨x, ae, ers, names, few, most, m, fl, c1, rfl, _⟩ := h
    rfl
  · obtain ⟨x, ae, ers, names, few, most, m, fl, c1, rfl, pre, dx, hm, hfl, hc1, q⟩ := h
    have L : LamV.LOk X.prog X.w X.K X.mg X.base CX0 4 fl (LamV.lamF X params scope c1) body 1 ["many"] (spRow X.K) := by
      refine LamV.LOk.by_body (N := ["row", "many"]) (ps := ["row"]) NS (fun m t us hl => hbind _ _ _ _ _ _ us hl) (fun {ws vs H Q E} h => ?_) fun A outer s H vs ws Q E hr rdy h => ?_
      · obtain ⟨v, m, _, rfl, _⟩ := h
        rfl
      · obtain ⟨v, m, rfl, rfl, dv, says⟩ := h
        subst hb
        refine ⟨_, pe_call GC hr (show Gl _ _ from glC) mC kC bC .nil pass0 (pa_cons (pe_var (i := 0) rfl (.inl (NS.par _ (List.mem_cons_self ..)))) (pa_cons (pe_var (i := 1) rfl (.inr (.inr (NS.frk _ (List.mem_cons_self ..))))) pa_nil)), ?_⟩
        exact ⟨v, rfl, .int m, rfl, v, m, rfl, dv, says⟩
    have C : NdefX.CellsAt (LamV.lamF X params scope c1).cl ["many"] ([5].map (NdefX.slotAt σ)) s.heap H := by
      refine NdefX.cells_of I (NdefX.Caps.made (fr := ["many"]) (js := [5]) I.ok caps frees ?_)
      show [X.N[5]?] = [some ("many" : Str)]
      rw [is5]
    have w5 : [5].map (NdefX.slotAt σ) = [some (.int m)] := by
      show [NdefX.slotAt σ 5] = _
      rw [NdefX.slotAt_of hm]
    rw [w5] at C
    have deep' : Room 4 (X.A.deeper (PyProof.Rows.envOfC "_first_wrong" (defScope sFirst) s.heap.objs.size f cdv)) := deep
    refine walk_fw (cal := .ref fl) (R := onTup (contOf H m) H) (nm := nameOf H) B (fun q1 q2 q3 => LamV.pe_lact (i := 4) L C rfl deep' (Nat.le_refl _) pass0 rfl (Or.inl rfl) (pa_cons (pv 7) pa_nil)) dx.1 pre.ke pre.ken pre.few0 pre.most0 pre.most1 pre.el ?_ ?_ q
    · intro xs hx v hv σ1 H1 Q1 e1 h4 h7 says
      have dv : Deep X.K H 3 v := dx.2 xs hx v hv
      refine ⟨⟨h4, e1 _ _ hfl⟩, v, h7, ⟨e1 _ _ hfl, e1 _ _ hc1⟩, v, m, rfl, rfl, Deep.ex e1 dv, ?_⟩
      rw [cont_exN dv e1.n]
      exact says
    · intro xs hx v hv hR
      exact named_of heads_cont hR
end LJ
set_option Elab.async false
set_option linter.all false
set_option maxRecDepth 100000
set_option maxHeartbeats 8000000
namespace LJ
open PySem PySem.Spec L2
open LamX (ExtN TabB)
open NdefX (NTab TabsN)
/-- the lambda that the check hands on -/
def lamE : Expr := match (defBody sCheck).getD 7 (.Pass ⟨0, 0, 0, 0⟩) with
  | .Assign _ (.Call _ args _ _) _ => args.getD 4 (.Constant .none 0 ⟨0, 0, 0, 0⟩)
  | _ => .Constant .none 0 ⟨0, 0, 0, 0⟩
def lamParams : Expr → Arguments
  | .Lambda a _ _ _ => a
  | _ => ⟨[], [], none, [], [], none, []⟩
def lamBody : Expr → Expr
  | .Lambda _ b _ _ => b
  | e => e
def lamScope : Expr → Scope
  | .Lambda _ _ s _ => s
  | _ => defScope sCheck
def lamName : Nat → Nat → Str := fun _ _ => "_check.<locals>.<lambda>"
def spCheck (K : PySem.W.Frag) (T : List NTab) : Sp := fun vs H Q _ => ∃ (am ac as ap : Addr) (xm xc xs xp : List V), vs = [.ref am, .ref ac, .ref as, .ref ap] ∧ Fit K H am ac as ap xm xc xs xp ∧ TabsN T H ∧ ∀ H1, ExtN H H1 → TabsN T H1 → Q .non H1
theorem TabsN.exs {T : List NTab} {H H1 : Hp} (t : TabsN T H) (e : Ex H H1) : TabsN T H1 := t.ext e
section
variable {P : Program} {w : World} {K : PySem.W.Frag} {mg : Str → Option Value} {base : Heap}
theorem scCheck : FnScope nCheck pCheck (defScope sCheck) := ⟨rfl, rfl, rfl, by decide +kernel, rfl, by decide +kernel, by decide +kernel⟩
theorem ok_check {f fF fS fL fC c Pt : Addr} {fd fdF fdC : FuncData} {u1 u2 u3 u4 : Value} {T : List NTab} (F : Fun K "_check" "_check" sCheck f fd) (hcode : fd.code = .ref c) (TB : TabB base mg c Pt) (inT : (Pt, lamName) ∈ T) (only : ∀ r ∈ T, r.1 = Pt → r.2 = lamName) (B : BltI mg)
    (FF : Fun K "_first_wrong" "_first_wrong" sFirst fF fdF) (GF : FnOk P w K mg base CX0 4 fF fdF pFirst (spFw K fS fL)) (mF : mg "_first_wrong" = some (.ref fF)) (kF : PySem.W.keepIn K (.ref fF) = true) (bF : Binds K fdF pFirst [])
    (GC : FnOk P w K mg base CX0 3 fC fdC ["row", "many"] (spCont K)) (mC : mg "_has_contents" = some (.ref fC)) (kC : PySem.W.keepIn K (.ref fC) = true) (bC : Binds K fdC ["row", "many"] [])
    (mS : mg "_has_shares" = some (.ref fS)) (mL : mg "_has_limit" = some (.ref fL))
    (m1 : mg "MOST_MACHINES" = some u1) (r1 : RelV (.int 6) u1) (m2 : mg "MOST_CLEANINGS" = some u2) (r2 : RelV (.int 6) u2) (m3 : mg "MOST_STUFFS" = some u3) (r3 : RelV (.int 3) u3) (m4 : mg "MOST_PRODUCTS" = some u4) (r4 : RelV (.int 8) u4) :
    FnOk P w K mg base CX0 6 f fd pCheck (spCheck K T) := by
  refine Fun.okC F hcode scCheck (fun vs H Q E h => ?_) (fun A outer s H vs Q E hr h => ?_)
  · obtain ⟨am, ac, as, ap, xm, xc, xs, xp, rfl, _⟩ := h
    rfl
  · obtain ⟨am, ac, as, ap, xm, xc, xs, xp, rfl, fit, tabs, q⟩ := h
    have hr4 : Room 4 _ := hr.mono (by decide)
    refine ⟨_, pss_cons (ps_set (i := 4) scCheck.nd rfl (Or.inl rfl) (pe_call GF hr4 (by rfl) mF kF bF .nil pass0 (pa_cons (pv 0) (pa_cons (pe_tup pa_nil) (pa_cons pe_int (pa_cons (pe_glob (by rfl) m1 r1) (pa_cons (pe_glob (v := .ref fS) (by rfl) mS rfl) pa_nil)))))))
      (pss_cons (ps_if (pt_truth (pv 4) (fun _ => rfl)) pss_never pss_nil)
      (pss_cons (ps_set (i := 4) scCheck.nd rfl (Or.inl rfl) (pe_call GF hr4 (by rfl) mF kF bF .nil pass0 (pa_cons (pv 1) (pa_cons (pv 0) (pa_cons pe_int (pa_cons (pe_glob (by rfl) m2 r2) (pa_cons (pe_glob (v := .ref fS) (by rfl) mS rfl) pa_nil)))))))
      (pss_cons (ps_if (pt_truth (pv 4) (fun _ => rfl)) pss_never pss_nil)
      (pss_cons (ps_set (i := 4) scCheck.nd rfl (Or.inl rfl) (pe_call GF hr4 (by rfl) mF kF bF .nil pass0 (pa_cons (pv 2) (pa_cons (pe_op op_catT (pv 0) (pv 1)) (pa_cons pe_int (pa_cons (pe_glob (by rfl) m3 r3) (pa_cons (pe_glob (v := .ref fL) (by rfl) mL rfl) pa_nil)))))))
      (pss_cons (ps_if (pt_truth (pv 4) (fun _ => rfl)) pss_never pss_nil)
      (pss_cons (ps_set (i := 5) scCheck.nd rfl (Or.inr rfl) (pe_callB call_len_seq (by rfl) B.len (by decide +kernel) (pa_cons (pv 2) pa_nil)))
      (pss_cons (ps_set (i := 4) scCheck.nd rfl (Or.inl rfl) (pe_fwl (params := lamParams lamE) (body := lamBody lamE) (scope := lamScope lamE) FF B hr (by rfl) mF kF bF GC mC kC bC rfl (NdefX.ndef_free (sc := defScope sCheck) (fr := ["many"]) (by decide +kernel)) (NdefX.ndef_fr (sc := defScope sCheck) (by decide +kernel)) rfl (NdefX.nscope_by (by decide +kernel)) rfl
          (fun _ _ _ _ _ _ us hl => match us, hl with | [_], _ => rfl)
          (pa_cons (pv 3) (pa_cons (pe_op op_catT (pe_op op_catT (pv 0) (pv 1)) (pv 2)) (pa_cons pe_int (pa_cons (pe_glob (by rfl) m4 r4) (pa_cons (LamV.pe_lam TB rfl inT rfl only rfl (NdefX.ndef_free (sc := defScope sCheck) (fr := ["many"]) (by decide +kernel))) pa_nil)))))))
      (pss_one (ps_if (pt_truth (pv 4) (fun _ => rfl)) pss_never pss_nil))))))))), ?_⟩
    have le0 : ([] : List V).length ≤ sizeLine := Nat.zero_le _
    refine ⟨_, rfl, le0, fun p0 np0 => ?_⟩
    have x0 : Ex H (upd H p0 (.tup [])) := Ex.refl.new np0
    have F0 := fit.exN x0.n
    have T0 := TabsN.exs tabs x0
    have e0 : (upd H p0 (.tup [])) p0 = some (.tup []) := upd_same
    generalize upd H p0 (.tup []) = H0 at x0 F0 T0 e0 ⊢
    refine ⟨.ref am, p0, [], [], 1, 6, fS, sharesOf, rfl, ⟨e0, .nil, by decide, by decide, by decide, by decide⟩, F0.dm, .inl ⟨rfl, rfl⟩, fun p1 H1 x1 np1 e1 => ?_⟩
    rw [fw_nil (tup_at F0.m) (by have := fit.lm; omega) F0.fm] at e1
    refine ⟨_, rfl, false, .inr (.inl ⟨[], SqT.of e1, rfl⟩), ?_⟩
    have F1 := F0.exN x1.n
    have T1 := TabsN.exs T0 x1
    obtain ⟨nm1, nc1, ns1, lm1, lc1, ls1⟩ := F1.named
    refine ⟨_, rfl, _, rfl, .ref ac, am, xm, xm.map (nameOf H1), 0, 6, fS, sharesOf, rfl, ⟨F1.m, paired_names nm1, by decide, by decide, by decide, by omega⟩, F1.dc, .inl ⟨rfl, rfl⟩, fun p2 H2 x2 np2 e2 => ?_⟩
    rw [fw_nil (tup_at F1.c) (by omega) F1.fc] at e2
    refine ⟨_, rfl, false, .inr (.inl ⟨[], SqT.of e2, rfl⟩), ?_⟩
    have F2 := F1.exN x2.n
    have T2 := TabsN.exs T1 x2
    have ne : xm ≠ [] := fun z => by
      have l := fit.lm
      rw [z] at l
      exact absurd l (by decide)
    refine ⟨_, rfl, _, rfl, _, rfl, rd_cat F2.m F2.c ne (by omega) fun pc H3 x3 e3 => ?_⟩
    have F3 := F2.exN x3.n
    have T3 := TabsN.exs T2 x3
    obtain ⟨nm3, nc3, ns3, _⟩ := F3.named
    have nmc3 : ∀ v ∈ xm ++ xc, Named H3 v (nameOf H3 v) := fun v hv => (List.mem_append.mp hv).elim (nm3 v) (nc3 v)
    refine ⟨.ref as, pc, xm ++ xc, (xm ++ xc).map (nameOf H3), 1, 3, fL, limOf, rfl, ⟨e3, paired_names nmc3, by decide, by decide, by decide, by rw [List.length_append]; omega⟩, F3.ds, .inr ⟨rfl, rfl⟩, fun p4 H4 x4 np4 e4 => ?_⟩
    rw [fw_nil (tup_at F3.s) (by have := fit.ls; omega) F3.fs] at e4
    refine ⟨_, rfl, false, .inr (.inl ⟨[], SqT.of e4, rfl⟩), ?_⟩
    have F4 := F3.exN x4.n
    have T4 := TabsN.exs T3 x4
    refine ⟨_, rfl, as, xs, rfl, .inr (SqT.of F4.s), ?_⟩
    refine ⟨_, rfl, _, rfl, _, rfl, rd_cat F4.m F4.c ne (by omega) fun pd H5 x5 e5 => ?_⟩
    have F5 := F4.exN x5.n
    have T5 := TabsN.exs T4 x5
    have ne2 : xm ++ xc ≠ [] := fun z => ne (List.append_eq_nil_iff.mp z).1
    refine ⟨_, rfl, rd_cat e5 F5.s ne2 (by rw [List.length_append]; omega) fun pe H6 x6 e6 => ?_⟩
    have F6 := F5.exN x6.n
    have T6 := TabsN.exs T5 x6
    refine ⟨T6, fun fl c1 H7 x7 _ T7 _ efl ec1 => ?_⟩
    have F7 := F6.exN x7
    obtain ⟨nm7, nc7, ns7, _⟩ := F7.named
    have n7 : ∀ v ∈ xm ++ xc ++ xs, Named H7 v (nameOf H7 v) := fun v hv => (List.mem_append.mp hv).elim (fun hv => (List.mem_append.mp hv).elim (nm7 v) (nc7 v)) (ns7 v)
    refine ⟨.ref ap, pe, xm ++ xc ++ xs, (xm ++ xc ++ xs).map (nameOf H7), 1, 8, xs.length, fl, c1, rfl, ⟨tup_n x7 e6, paired_names n7, by decide, by decide, by decide, by rw [List.length_append, List.length_append]; omega⟩, F7.dp, rfl, efl, ec1, fun p8 H8 x8 np8 e8 => ?_⟩
    rw [fw_nil (tup_at F7.p) (by have := fit.lp; omega) F7.fp] at e8
    refine ⟨_, rfl, false, .inr (.inl ⟨[], SqT.of e8, rfl⟩), ?_⟩
    exact q H8 ((x0.trans (x1.trans (x2.trans (x3.trans (x4.trans (x5.trans x6)))))).n.trans (x7.trans x8.n)) (TabsN.exs T7 x8)
end
end LJ
set_option Elab.async false
set_option linter.all false
set_option maxRecDepth 100000
set_option maxHeartbeats 8000000
namespace LJ
open PySem PySem.Spec L2
open LamX (ExtN TabB)
open NdefX (NTab TabsN)
open RZ (ItzT pi_zipA iZipA)
abbrev sBy : Stmt := top 32
/-- a dict comprehension over any walk -/
theorem dc_it {J : It} {n : Nat} {G : Hp → Prop} {Y : Nat → Hp → V → Hp → Prop} (w : Walk J n G Y) {g : TG} {tt : TT} {tk tv : TE} {vs : List Nat} {σ : St} {H1 : Hp} {D : Addr} {Qd : Hp → Prop} (Pv : Nat → Hp → Prop) (start : Pv 0 (upd H1 D (.dK []))) (hG : ∀ i H, i ≤ n → Pv i H → G H)
    (turn : ∀ i x H H2, i < n → Pv i H → Y i H x H2 → g x (wipe σ vs) H2 fun σ3 H3 => wipe σ3 vs = wipe σ vs ∧ tt σ3 H3 fun b H4 =>
      if b = true then tk σ3 H4 fun y H5 => tv σ3 H5 fun z H6 => ∃ kvs k, y = kV k ∧ H6 D = some (.dK kvs) ∧ kvs.length < sizeLine ∧ Pv (i + 1) (upd H6 D (.dK (putK kvs k z))) else Pv (i + 1) H4) (stop : ∀ H, Pv n H → Qd H) :
    ∃ W : Nat → Nat → Hp → Prop, (∃ m, W 0 m (upd H1 D (.dK []))) ∧ ∀ i m H, W i m H →
      (J.stop i H ∧ Qd H) ∨ (J.go i H ∧ ∃ Nx : Hp → Prop, (∀ H2, Nx H2 → ∃ m2, m2 < m ∧ W (i + 1) m2 H2) ∧ ∀ x H2, J.yld i H x H2 → g x (wipe σ vs) H2 fun σ3 H3 => wipe σ3 vs = wipe σ vs ∧ tt σ3 H3 fun b H4 =>
        if b = true then tk σ3 H4 fun y H5 => tv σ3 H5 fun z H6 => ∃ kvs k, y = kV k ∧ H6 D = some (.dK kvs) ∧ kvs.length < sizeLine ∧ Nx (upd H6 D (.dK (putK kvs k z))) else Nx H4) := by
  refine ⟨fun i m H => i + m = n ∧ Pv i H, ⟨n, Nat.zero_add n, start⟩, ?_⟩
  rintro i m H ⟨im, p⟩
  have gH := hG i H (by omega) p
  cases m with
  | zero =>
    obtain rfl : i = n := by omega
    exact .inl ⟨w.stops H gH, stop H p⟩
  | succ m =>
    have lt : i < n := by omega
    exact .inr ⟨w.goes i H lt gH, Pv (i + 1), fun H2 p2 => ⟨m, Nat.lt_succ_self m, by omega, p2⟩, fun x H2 y => turn i x H H2 lt p (w.yields i H x H2 lt gH y)⟩
theorem walk_zt {K : PySem.W.Frag} {a b : Addr} {xs ys : List V} (l : xs.length = ys.length) : Walk (ItzT K a b) xs.length (fun H => SqT K H a xs ∧ SqT K H b ys) (YPair (fun i => xs[i]?) (fun i => ys[i]?)) where
  goes i _ hi q := ⟨xs, ys, xs[i], ys[i]'(l ▸ hi), q.1, q.2, List.getElem?_eq_getElem hi, List.getElem?_eq_getElem (l ▸ hi)⟩
  stops _ q := ⟨xs, ys, q.1, q.2, .inl (Nat.le_refl _)⟩
  yields i H v H1 _ q y := by
    obtain ⟨T, x, z, h1, h2, h3, h4, h5⟩ := y
    exact ⟨T, x, z, h1, h2, h3, h4 xs q.1, h5 ys q.2⟩
theorem merge_snoc {kvs more : List (Key × V)} {p : Key × V} : mergeK kvs (more ++ [p]) = putK (mergeK kvs more) p.1 p.2 := by
  unfold mergeK
  rw [List.foldl_append]
  rfl
theorem merge_len : ∀ {more kvs : List (Key × V)}, (mergeK kvs more).length ≤ kvs.length + more.length
  | [], kvs => Nat.le_refl _
  | p :: r, kvs => by
    have h := merge_len (more := r) (kvs := putK kvs p.1 p.2)
    have l : (putK kvs p.1 p.2).length ≤ kvs.length + 1 := by
      unfold putK
      split
      · rw [List.length_map]
        omega
      · rw [List.length_append]
        exact Nat.le_refl _
    have e : mergeK kvs (p :: r) = mergeK (putK kvs p.1 p.2) r := rfl
    rw [e, List.length_cons]
    omega
/-- names and what stands under them -/
def under (ns : List Str) (ys : List V) : List (Key × V) := (ns.zip ys).map fun p => (.inr p.1, p.2)
def dictOf (ns : List Str) (ys : List V) : List (Key × V) := mergeK [] (under ns ys)
theorem under_at {ns : List Str} {ys : List V} {i : Nat} {n : Str} {y : V} (h1 : ns[i]? = some n) (h2 : ys[i]? = some y) : (under ns ys)[i]? = some (.inr n, y) := by
  unfold under
  rw [List.getElem?_map, (List.getElem?_zip_eq_some (z := (n, y))).mpr ⟨h1, h2⟩]
  rfl
theorem under_len {ns : List Str} {ys : List V} (h : ns.length = ys.length) : (under ns ys).length = ys.length := by
  unfold under
  rw [List.length_map, List.length_zip, h, Nat.min_self]
def spBy : Sp := fun vs H Q _ => ∃ (a b : Addr) (xs ys : List V) (ns : List Str), vs = [.ref a, .ref b] ∧ H a = some (.tup xs) ∧ H b = some (.tup ys) ∧ Paired (Named H) xs ns ∧ xs.length = ys.length ∧ xs.length ≤ 100 ∧
  ∀ (D : Addr) (H1 : Hp), Ex H H1 → H D = none → H1 D = some (.dK (dictOf ns ys)) → Q (.ref D) H1
structure BltZ (mg : Str → Option Value) : Prop where
  zip : mg "zip" = none
section
variable {P : Program} {w : World} {K : PySem.W.Frag} {mg : Str → Option Value} {base : Heap}
theorem scBy : FnScope ["stuffs", "contents", "stuff", "content"] ["stuffs", "contents"] (defScope sBy) := ⟨rfl, rfl, rfl, by decide +kernel, rfl, by decide +kernel, by decide +kernel⟩
theorem ok_by {f : Addr} {fd : FuncData} (F : Fun K "_by_stuff" "_by_stuff" sBy f fd) (Z : BltZ mg) : FnOk P w K mg base CX0 1 f fd ["stuffs", "contents"] spBy := by
  refine F.ok scBy (fun vs H Q E h => ?_) (fun cdv A outer s H vs Q E hr h => ?_)
  · obtain ⟨a, b, xs, ys, ns, rfl, _⟩ := h
    rfl
  · obtain ⟨a, b, xs, ys, ns, rfl, ha, hb, pn, l, le, q⟩ := h
    refine ⟨_, pss_one (ps_ret (pe_dc (own := [("stuff", 2), ("content", 3)]) (g := gTup K 2 (gCons (gName 2) (gCons (gName 3) gNil))) (by rfl) scBy.nd (pi_zipA (by rfl) Z.zip (pa_cons (pv 0) (pa_cons (pv 1) pa_nil))) (blkOk_by (own := [("stuff", 2), ("content", 3)]) (N := ["stuffs", "contents", "stuff", "content"]) (sc := defScope sBy) (by decide +kernel))
      (fun _ _ _ _ _ => pg_tup (by rfl) (pgs_cons (pg_name (i := 2) scBy.nd rfl (Or.inl rfl)) (pgs_cons (pg_name (i := 3) scBy.nd rfl (Or.inl rfl)) pgs_nil))) (fun _ _ _ _ _ => pts_nil)
      (fun _ _ _ _ _ => pe_ix (show IxR _ (rIxT K) from ix_tup) (pv 2) pe_int (fun _ _ => rfl)) (fun _ _ _ _ _ => pv 3))), ?_⟩
    have nl : ns.length = ys.length := by rw [← Paired.size pn, l]
    refine ⟨_, rfl, _, rfl, a, b, xs, ys, rfl, .inr ⟨SqT.of ha, SqT.of hb, fun D hD => dc_it (walk_zt l) (fun n H2 => Ex H H2 ∧ H2 D = some (.dK (mergeK [] ((under ns ys).take n)))) ⟨Ex.refl.new hD, upd_same⟩ (fun i H2 _ h => ⟨SqT.of (h.1 _ _ ha), SqT.of (h.1 _ _ hb)⟩) ?_ ?_⟩⟩
    · rintro i v H2 H3 hi ⟨x2, e2⟩ ⟨T, v1, v2, rfl, nT, rfl, h1, h2⟩
      have h1 : xs[i]? = some v1 := h1
      have h2 : ys[i]? = some v2 := h2
      obtain ⟨n, hn, bb, r, rfl, hbb⟩ := Paired.spot pn h1
      have eT : (upd H2 T (.tup [.ref bb, v2])) T = some (.tup [.ref bb, v2]) := upd_same
      have x3 : Ex H (upd H2 T (.tup [.ref bb, v2])) := x2.new nT
      have e3 : (upd H2 T (.tup [.ref bb, v2])) D = some (.dK (mergeK [] ((under ns ys).take i))) := by
        rw [upd_ne (ne_of_none e2 nT)]
        exact e2
      refine ⟨T, _, rfl, SqT.of eT, rfl, _, _, rfl, _, _, rfl, rfl, rfl, ?_⟩
      refine ⟨_, rfl, bb, _, 0, .str n, rfl, rfl, SqT.of (x3 _ _ hbb), atI_nat (j := 0) rfl, _, rfl, _, .inr n, rfl, e3, ?_, x3.put hD, ?_⟩
      · have m := merge_len (more := (under ns ys).take i) (kvs := [])
        rw [List.length_take, List.length_nil] at m
        rw [sizeLine_eq]
        omega
      · rw [upd_same, List.take_succ, under_at hn h2]
        show _ = some (HO.dK (mergeK [] ((under ns ys).take i ++ [(.inr n, v2)])))
        rw [merge_snoc]
    · rintro H2 ⟨x2, e2⟩
      rw [List.take_of_length_le (by rw [under_len nl, l]; exact Nat.le_refl _)] at e2
      exact q D H2 x2 hD e2
end
end LJ
set_option Elab.async false
set_option linter.all false
set_option maxRecDepth 100000
set_option maxHeartbeats 4000000
namespace LJ
open PySem L2
abbrev sLabels : Stmt := top 58
abbrev sShares : Stmt := top 59
abbrev sInside : Stmt := top 60
theorem But.refl {j : Addr} {H : Hp} : But j H H := fun _ _ _ z => z
theorem But.trans {j : Addr} {H H1 H2 : Hp} (b : But j H H1) (d : But j H1 H2) : But j H H2 := fun a o n e => d a o n (b a o n e)
theorem But.new {j p : Addr} {H H1 : Hp} {o : HO} (b : But j H H1) (n : H1 p = none) : But j H (upd H1 p o) := fun a u m e => by
  rw [upd_ne (ne_of_none (b a u m e) n)]
  exact b a u m e
/-- a change of what was none when we began -/
theorem But.put {j p : Addr} {H H1 : Hp} {o : HO} (b : But j H H1) (n : H p = none) : But j H (upd H1 p o) := fun a u m e => by
  rw [upd_ne (ne_of_none e n)]
  exact b a u m e
theorem But.gone {j p : Addr} {H H1 : Hp} (b : But j H H1) (m : p ≠ j) (n : H1 p = none) : H p = none := by
  cases e : H p with
  | none => rfl
  | some o =>
    rw [b p o m e] at n
    cases n
theorem JarAt.ne {j p : Addr} {H : Hp} (h : JarAt H j) (n : H p = none) : p ≠ j := fun z => by
  obtain ⟨d, m, c, e, _⟩ := h
  rw [z, e] at n
  cases n
theorem JarAt.new {j p : Addr} {H : Hp} {o : HO} (h : JarAt H j) (n : H p = none) : JarAt (upd H p o) j := by
  have m := h.ne n
  obtain ⟨d, m1, c, e, r⟩ := h
  exact ⟨d, m1, c, by rw [upd_ne m.symm]; exact e, r⟩
theorem JarAt.put {j p : Addr} {H : Hp} {o : HO} (h : JarAt H j) (m : p ≠ j) : JarAt (upd H p o) j := by
  obtain ⟨d, m1, c, e, r⟩ := h
  exact ⟨d, m1, c, by rw [upd_ne m.symm]; exact e, r⟩
/-- a pair of bounds up to top -/
def spBounds (top : Int) : Sp := fun vs H Q _ => ∃ j : Addr, vs = [.ref j] ∧ JarAt H j ∧ ∀ (p : Addr) (lo hi : Int) (H1 : Hp), 0 ≤ lo → lo ≤ hi → hi ≤ top → JarAt H1 j → But j H H1 → H p = none → p ≠ j → H1 p = some (.tup [.int lo, .int hi]) → Q (.ref p) H1
structure BltD (mg : Str → Option Value) : Prop where
  sorted : mg "sorted" = none
  range : mg "range" = none
theorem two_sorted {a b : Int} {ns : List Int} (hp : ns.Perm [a, b]) (hs : ns.Pairwise (· ≤ ·)) : ∃ lo hi, ns = [lo, hi] ∧ lo ≤ hi ∧ (lo = a ∨ lo = b) ∧ (hi = a ∨ hi = b) := by
  have hl := hp.length_eq
  match ns, hl with
  | [x, y], _ =>
    refine ⟨x, y, rfl, ?_, ?_, ?_⟩
    · simpa using hs
    · have h := hp.mem_iff (a := x)
      simpa using h
    · have h := hp.mem_iff (a := y)
      simpa using h
section
variable {P : Program} {w : World} {K : PySem.W.Frag} {mg : Str → Option Value} {base : Heap}
theorem scShares : FnScope ["_law_jar_here", "_law_some", "_law_k"] ["_law_jar_here"] (defScope sShares) := ⟨rfl, rfl, rfl, by decide +kernel, rfl, by decide +kernel, by decide +kernel⟩
theorem scInside : FnScope ["_law_jar_here", "_law_some", "_law_k"] ["_law_jar_here"] (defScope sInside) := ⟨rfl, rfl, rfl, by decide +kernel, rfl, by decide +kernel, by decide +kernel⟩
/-- the end of both: the same bound twice, or both -/
theorem rd_ends {n : Int} {σ : St} {D : Ends} {H H2 : Hp} {j L : Addr} {lo hi top : Int} (hn0 : 0 < n) (hn1 : n < 1073741824) (h0 : σ[0]? = some (some (.ref j))) (h1 : σ[1]? = some (some (.ref L))) (J : JarAt H2 j) (b : But j H H2) (hL : H2 L = some (.lst [.int lo, .int hi])) (nL : L ≠ j)
    (l0 : 0 ≤ lo) (l1 : lo ≤ hi) (l2 : hi ≤ top) (k : ∀ (p : Addr) (lo hi : Int) (H1 : Hp), 0 ≤ lo → lo ≤ hi → hi ≤ top → JarAt H1 j → But j H H1 → H p = none → p ≠ j → H1 p = some (.tup [.int lo, .int hi]) → D.rt (.ref p) H1) :
    tRet (tIf (tTest (tOp rEq (tCall spDip [] E0 (tCons (tVar 0) (tCons (tC (.int n)) tNil))) (tC (.int 0))))
      (tTup (tCons (tOp (rIxL K) (tVar 1) (tC (.int 0))) (tCons (tOp (rIxL K) (tVar 1) (tC (.int 0))) tNil)))
      (tTup (tCons (tOp (rIxL K) (tVar 1) (tC (.int 0))) (tCons (tOp (rIxL K) (tVar 1) (tC (.int 1))) tNil)))) D σ H2 := by
  have two : 2 ≤ sizeLine := by
    rw [sizeLine_eq]
    decide
  refine ⟨_, h0, j, n, rfl, J, hn0, hn1, fun r H3 r0 r1 J3 b3 => ?_⟩
  have hL3 := b3 _ _ nL hL
  have bb := But.trans b b3
  refine ⟨rfl, _, rfl, ?_⟩
  refine ite2 (fun _ => ?_) (fun _ => ?_)
  · refine ⟨_, h1, L, _, 0, .int lo, rfl, rfl, SqL.of hL3, rfl, _, h1, L, _, 0, .int lo, rfl, rfl, SqL.of hL3, rfl, two, fun p np => ?_⟩
    have m := J3.ne np
    exact k p lo lo _ l0 (Int.le_refl _) (by omega) (J3.new np) (bb.new np) (bb.gone m np) m upd_same
  · refine ⟨_, h1, L, _, 0, .int lo, rfl, rfl, SqL.of hL3, rfl, _, h1, L, _, 1, .int hi, rfl, rfl, SqL.of hL3, rfl, two, fun p np => ?_⟩
    have m := J3.ne np
    exact k p lo hi _ l0 l1 l2 (J3.new np) (bb.new np) (bb.gone m np) m upd_same
theorem ok_shares {f fD fO : Addr} {fd fdD fdO : FuncData} (F : Fun K "_law_shares" "_law_shares" sShares f fd) (T : BltD mg)
    (GD : FnOk P w K mg base CX0 1 fD fdD ["_law_jar_here", "_law_top"] spDip) (mD : mg "_law_dip" = some (.ref fD)) (kD : PySem.W.keepIn K (.ref fD) = true) (bD : Binds K fdD ["_law_jar_here", "_law_top"] [])
    (GO : FnOk P w K mg base CX0 2 fO fdO ["_law_jar_here", "_law_some"] spOne) (mO : mg "_law_one_of" = some (.ref fO)) (kO : PySem.W.keepIn K (.ref fO) = true) (bO : Binds K fdO ["_law_jar_here", "_law_some"] []) :
    FnOk P w K mg base CX0 3 f fd ["_law_jar_here"] (spBounds 1000) := by
  refine F.ok scShares (fun vs H Q E h => ?_) (fun cdv A outer s H vs Q E hr h => ?_)
  · obtain ⟨j, rfl, _⟩ := h
    rfl
  · obtain ⟨j, rfl, J, k⟩ := h
    have hr1 : Room 1 _ := hr.mono (by decide)
    refine ⟨_, pss_cons (ps_set (i := 1) scShares.nd rfl (Or.inl rfl) (pe_callB cr_sorted (by rfl) T.sorted (by decide +kernel) (pa_cons (pe_lc (own := [("_law_k", 2)]) (g := gName 2) (by rfl) scShares.nd (pi_range1 (by rfl) T.range (pa_cons pe_int pa_nil)) (blkOk_by (own := [("_law_k", 2)]) (N := ["_law_jar_here", "_law_some", "_law_k"]) (sc := defScope sShares) (by decide +kernel)) (fun _ _ _ _ _ => pg_name (i := 2) scShares.nd rfl (Or.inl rfl)) (fun _ _ _ _ _ => pts_nil) (fun _ _ _ _ _ => pe_call GO hr (by rfl) mO kO bO .nil pass0 (pa_cons (pv 0) (pa_cons (pe_lst (pa_cons pe_int (pa_cons pe_int (pa_cons pe_int (pa_cons pe_int (pa_cons pe_int (pa_cons pe_int (pa_cons pe_int (pa_cons (pe_call GD hr1 (by rfl) mD kD bD .nil pass0 (pa_cons (pv 0) (pa_cons pe_int pa_nil))) pa_nil))))))))) pa_nil)))) pa_nil)))
      (pss_one (ps_ret (pe_ifExp (pt_cmpR op_eq (pe_call GD hr1 (by rfl) mD kD bD .nil pass0 (pa_cons (pv 0) (pa_cons pe_int pa_nil))) pe_int (nomark _)) (pe_tup (pa_cons (pe_ix ix_list (pv 1) pe_int (fun _ _ => rfl)) (pa_cons (pe_ix ix_list (pv 1) pe_int (fun _ _ => rfl)) pa_nil))) (pe_tup (pa_cons (pe_ix ix_list (pv 1) pe_int (fun _ _ => rfl)) (pa_cons (pe_ix ix_list (pv 1) pe_int (fun _ _ => rfl)) pa_nil)))))), ?_⟩
    have J0 := J
    have b0 : But j H H := But.refl
    have big : ∀ {n : Nat}, n ≤ 100 → n ≤ sizeLine := fun h => by rw [sizeLine_eq]; omega
    refine ⟨2, rfl, by decide, by decide, fun D hD => lc_range (lo := 0) (n := 2) (fun n H2 => JarAt H2 j ∧ But j H H2 ∧ ∃ zs : List Int, zs.length = n ∧ n ≤ 2 ∧ H2 D = some (.lst (zs.map V.int)) ∧ ∀ z ∈ zs, 0 ≤ z ∧ z ≤ 1000)
      ⟨J0.new hD, b0.new hD, [], rfl, by decide, upd_same, fun z hz => nomatch hz⟩ ?_ ?_⟩
    · rintro n H2 hn ⟨J2, b2, zs, hz, hz2, hDl, hb⟩
      refine ⟨rfl, ?_⟩
      refine ⟨_, rfl, _, rfl, j, 1001, rfl, J2, by decide, by decide, fun r H3 r0 r1 J3 b3 => ?_⟩
      refine ⟨big (Nat.le_of_ble_eq_true rfl), fun l nl => ?_⟩
      have ml := J3.ne nl
      refine ⟨j, l, _, rfl, J3.new nl, upd_same, ml, by exact (by decide : 0 < 8), by exact (by decide : 8 < 100000), fun m v H4 hv J4 b4 => ?_⟩
      have hm := List.mem_of_getElem? hv
      obtain ⟨z, rfl, z0, z1⟩ : ∃ z : Int, v = V.int z ∧ 0 ≤ z ∧ z ≤ 1000 := by
        simp only [List.mem_cons, List.not_mem_nil, or_false] at hm
        rcases hm with rfl | rfl | rfl | rfl | rfl | rfl | rfl | rfl <;> exact ⟨_, rfl, by omega, by omega⟩
      have dj : D ≠ j := J0.ne hD
      have e4 : H4 D = some (.lst (zs.map V.int)) := b4 _ _ dj (by rw [upd_ne (ne_of_none (b3 _ _ dj hDl) nl)]; exact b3 _ _ dj hDl)
      have bb : But j H H4 := But.trans ((But.trans b2 b3).new nl) b4
      refine ⟨_, e4, ?_, J4.put dj, bb.put (b0.gone dj hD), zs ++ [z], ?_, by omega, ?_, ?_⟩
      · rw [sizeLine_eq, List.length_map]
        omega
      · rw [List.length_append, hz]
        rfl
      · rw [List.map_append]
        exact upd_same
      · intro y hy
        rcases List.mem_append.mp hy with h | h
        · exact hb y h
        · obtain rfl := List.mem_singleton.mp h
          exact ⟨z0, z1⟩
    · rintro H2 ⟨J2, b2, zs, hz, hz2, hDl, hb⟩
      refine ⟨D, zs, rfl, SqL.of hDl, by omega, fun ns L hp hs nL => ?_⟩
      obtain ⟨a, b, rfl⟩ : ∃ a b, zs = [a, b] := by
        match zs, hz with
        | [a, b], _ => exact ⟨a, b, rfl⟩
      obtain ⟨lo, hi, rfl, hle, hlo, hhi⟩ := two_sorted hp hs
      have ba := hb a (by simp)
      have bb := hb b (by simp)
      have mL := J2.ne nL
      refine rd_ends (n := 4) (top := 1000) (j := j) (L := L) (lo := lo) (hi := hi) (by decide) (by decide) rfl rfl (J2.new nL) (b2.new nL) upd_same mL ?_ hle ?_ k
      · rcases hlo with h | h <;> omega
      · rcases hhi with h | h <;> omega
theorem ok_inside {f fD fO : Addr} {fd fdD fdO : FuncData} (F : Fun K "_law_inside" "_law_inside" sInside f fd) (T : BltD mg)
    (GD : FnOk P w K mg base CX0 1 fD fdD ["_law_jar_here", "_law_top"] spDip) (mD : mg "_law_dip" = some (.ref fD)) (kD : PySem.W.keepIn K (.ref fD) = true) (bD : Binds K fdD ["_law_jar_here", "_law_top"] [])
    (GO : FnOk P w K mg base CX0 2 fO fdO ["_law_jar_here", "_law_some"] spOne) (mO : mg "_law_one_of" = some (.ref fO)) (kO : PySem.W.keepIn K (.ref fO) = true) (bO : Binds K fdO ["_law_jar_here", "_law_some"] []) :
    FnOk P w K mg base CX0 3 f fd ["_law_jar_here"] (spBounds 1000000000000) := by
  refine F.ok scInside (fun vs H Q E h => ?_) (fun cdv A outer s H vs Q E hr h => ?_)
  · obtain ⟨j, rfl, _⟩ := h
    rfl
  · obtain ⟨j, rfl, J, k⟩ := h
    have hr1 : Room 1 _ := hr.mono (by decide)
    refine ⟨_, pss_cons (ps_if (pt_cmpR op_eq (pe_call GD hr1 (by rfl) mD kD bD .nil pass0 (pa_cons (pv 0) (pa_cons pe_int pa_nil))) pe_int (nomark _)) (pss_one (ps_ret (pe_tup (pa_cons pe_int (pa_cons pe_int pa_nil))))) pss_nil)
      (pss_cons (ps_set (i := 1) scInside.nd rfl (Or.inl rfl) (pe_callB cr_sorted (by rfl) T.sorted (by decide +kernel) (pa_cons (pe_lc (own := [("_law_k", 2)]) (g := gName 2) (by rfl) scInside.nd (pi_range1 (by rfl) T.range (pa_cons pe_int pa_nil)) (blkOk_by (own := [("_law_k", 2)]) (N := ["_law_jar_here", "_law_some", "_law_k"]) (sc := defScope sInside) (by decide +kernel)) (fun _ _ _ _ _ => pg_name (i := 2) scInside.nd rfl (Or.inl rfl)) (fun _ _ _ _ _ => pts_nil) (fun _ _ _ _ _ => pe_call GO hr (by rfl) mO kO bO .nil pass0 (pa_cons (pv 0) (pa_cons (pe_lst (pa_cons pe_int (pa_cons pe_int (pa_cons pe_int (pa_cons pe_int (pa_cons pe_int (pa_cons pe_int (pa_cons (pe_op op_sub (pe_op op_pow pe_int pe_int) (pe_call GD hr1 (by rfl) mD kD bD .nil pass0 (pa_cons (pv 0) (pa_cons pe_int pa_nil)))) pa_nil)))))))) pa_nil)))) pa_nil)))
      (pss_one (ps_ret (pe_ifExp (pt_cmpR op_eq (pe_call GD hr1 (by rfl) mD kD bD .nil pass0 (pa_cons (pv 0) (pa_cons pe_int pa_nil))) pe_int (nomark _)) (pe_tup (pa_cons (pe_ix ix_list (pv 1) pe_int (fun _ _ => rfl)) (pa_cons (pe_ix ix_list (pv 1) pe_int (fun _ _ => rfl)) pa_nil))) (pe_tup (pa_cons (pe_ix ix_list (pv 1) pe_int (fun _ _ => rfl)) (pa_cons (pe_ix ix_list (pv 1) pe_int (fun _ _ => rfl)) pa_nil))))))), ?_⟩
    refine ⟨_, rfl, j, 3, rfl, J, by decide, by decide, fun r H0 r0 r1 J0 b0 => ?_⟩
    refine ⟨rfl, _, rfl, ?_⟩
    refine ite2 (fun _ => ?_) (fun _ => ?_)
    · refine ⟨by rw [sizeLine_eq]; exact Nat.le_of_ble_eq_true rfl, fun p np => ?_⟩
      have m := J0.ne np
      exact k p 0 0 _ (by decide) (by decide) (by decide) (J0.new np) (b0.new np) (b0.gone m np) m upd_same
    · have big : ∀ {n : Nat}, n ≤ 100 → n ≤ sizeLine := fun h => by rw [sizeLine_eq]; omega
      refine ⟨2, rfl, by decide, by decide, fun D hD => lc_range (lo := 0) (n := 2) (fun n H2 => JarAt H2 j ∧ But j H H2 ∧ ∃ zs : List Int, zs.length = n ∧ n ≤ 2 ∧ H2 D = some (.lst (zs.map V.int)) ∧ ∀ z ∈ zs, 0 ≤ z ∧ z ≤ 1000000000000)
        ⟨J0.new hD, b0.new hD, [], rfl, by decide, upd_same, fun z hz => nomatch hz⟩ ?_ ?_⟩
      · rintro n H2 hn ⟨J2, b2, zs, hz, hz2, hDl, hb⟩
        refine ⟨rfl, ?_⟩
        refine ⟨_, rfl, _, _, rfl, rfl, ⟨by decide, by decide, by decide⟩, _, rfl, j, 3, rfl, J2, by decide, by decide, fun r H3 r0 r1 J3 b3 => ?_⟩
        refine ⟨_, _, rfl, rfl, ?_⟩
        refine ⟨big (Nat.le_of_ble_eq_true rfl), fun l nl => ?_⟩
        have ml := J3.ne nl
        refine ⟨j, l, _, rfl, J3.new nl, upd_same, ml, by exact (by decide : 0 < 7), by exact (by decide : 7 < 100000), fun m v H4 hv J4 b4 => ?_⟩
        have hm := List.mem_of_getElem? hv
        obtain ⟨z, rfl, z0, z1⟩ : ∃ z : Int, v = V.int z ∧ 0 ≤ z ∧ z ≤ 1000000000000 := by
          have p12 : (10 : Int) ^ ((12 : Int).toNat) = 1000000000000 := by decide
          simp only [List.mem_cons, List.not_mem_nil, or_false, p12] at hm
          rcases hm with rfl | rfl | rfl | rfl | rfl | rfl | rfl <;> exact ⟨_, rfl, by omega, by omega⟩
        have dj : D ≠ j := J0.ne hD
        have e4 : H4 D = some (.lst (zs.map V.int)) := b4 _ _ dj (by rw [upd_ne (ne_of_none (b3 _ _ dj hDl) nl)]; exact b3 _ _ dj hDl)
        have bb : But j H H4 := But.trans ((But.trans b2 b3).new nl) b4
        refine ⟨_, e4, ?_, J4.put dj, bb.put (b0.gone dj hD), zs ++ [z], ?_, by omega, ?_, ?_⟩
        · rw [sizeLine_eq, List.length_map]
          omega
        · rw [List.length_append, hz]
          rfl
        · rw [List.map_append]
          exact upd_same
        · intro y hy
          rcases List.mem_append.mp hy with h | h
          · exact hb y h
          · obtain rfl := List.mem_singleton.mp h
            exact ⟨z0, z1⟩
      · rintro H2 ⟨J2, b2, zs, hz, hz2, hDl, hb⟩
        refine ⟨D, zs, rfl, SqL.of hDl, by omega, fun ns L hp hs nL => ?_⟩
        obtain ⟨a, b, rfl⟩ : ∃ a b, zs = [a, b] := by
          match zs, hz with
          | [a, b], _ => exact ⟨a, b, rfl⟩
        obtain ⟨lo, hi, rfl, hle, hlo, hhi⟩ := two_sorted hp hs
        have ba := hb a (by simp)
        have bb := hb b (by simp)
        have mL := J2.ne nL
        refine rd_ends (n := 3) (top := 1000000000000) (j := j) (L := L) (lo := lo) (hi := hi) (by decide) (by decide) rfl rfl (J2.new nL) (b2.new nL) upd_same mL ?_ hle ?_ k
        · rcases hlo with h | h <;> omega
        · rcases hhi with h | h <;> omega
end
end LJ
set_option Elab.async false
set_option linter.all false
set_option maxRecDepth 100000
set_option maxHeartbeats 4000000
namespace LJ
open PySem L2
def menu : List Str := ["mixer", "oven", "belt", "run", "clean", "machine", "stuff", "rinse", "wash", "nuts", "milk", "a", "bar", "cake", "roll", "product", "zzzzzzzz", "rule"]
/-- the eighteen names from s on, g apart -/
def lab (s g : Int) (n : Nat) : List Str := (List.range n).map fun (k : Nat) => menu.getD ((s + g * (k : Int)) % 18).toNat Str.empty
def gaps : List Int := [1, 5, 7, 11, 13, 17]
theorem lab_nodup : ∀ s : Fin 18, ∀ g ∈ gaps, (lab (s.val : Int) g 18).Nodup := by decide +kernel
theorem lab_in (s g : Int) (n : Nat) : ∀ x ∈ lab s g n, x ∈ menu := fun x hx => by
  unfold lab at hx
  obtain ⟨k, _, rfl⟩ := List.mem_map.mp hx
  have h0 : 0 ≤ (s + g * (k : Int)) % 18 := Int.emod_nonneg _ (by decide)
  have h1 : (s + g * (k : Int)) % 18 < 18 := Int.emod_lt_of_pos _ (by decide)
  have hl : ((s + g * (k : Int)) % 18).toNat < menu.length := by
    show _ < 18
    omega
  rw [List.getD_eq_getElem?_getD, List.getElem?_eq_getElem hl]
  exact List.getElem_mem hl
theorem lab_succ (s g : Int) (n : Nat) : lab s g (n + 1) = lab s g n ++ [menu.getD ((s + g * (n : Int)) % 18).toNat Str.empty] := by
  unfold lab
  rw [List.range_succ, List.map_append]
  rfl
theorem lab_len (s g : Int) (n : Nat) : (lab s g n).length = n := by
  unfold lab
  rw [List.length_map, List.length_range]
theorem menu_at {i : Int} (h0 : 0 ≤ i) (h1 : i < 18) : atI (menu.map V.str) i = some (.str (menu.getD i.toNat Str.empty)) := by
  have hl : i.toNat < menu.length := by
    show _ < 18
    omega
  have e : atI (menu.map V.str) (i.toNat : Int) = some (.str (menu.getD i.toNat Str.empty)) := by
    refine atI_nat ?_
    rw [List.getElem?_map, List.getD_eq_getElem?_getD, List.getElem?_eq_getElem hl]
    rfl
  rwa [Int.toNat_of_nonneg h0] at e
def spLabels : Sp := fun vs H Q _ => ∃ j : Addr, vs = [.ref j] ∧ JarAt H j ∧ ∀ (p : Addr) (ls : List Str) (H1 : Hp), ls.length = 18 → ls.Nodup → (∀ x ∈ ls, x ∈ menu) → JarAt H1 j → But j H H1 → H p = none → p ≠ j → H1 p = some (.lst (ls.map V.str)) → Q (.ref p) H1
structure BltL (mg : Str → Option Value) : Prop where
  range : mg "range" = none
  int : mg "int" = none
section
variable {P : Program} {w : World} {K : PySem.W.Frag} {mg : Str → Option Value} {base : Heap}
theorem scLabels : FnScope ["_law_jar_here", "_law_menu", "_law_found_here", "_law_start", "_law_gap", "_law_k"] ["_law_jar_here"] (defScope sLabels) := ⟨rfl, rfl, rfl, by decide +kernel, rfl, by decide +kernel, by decide +kernel⟩
theorem ok_labels {f fD fO : Addr} {fd fdD fdO : FuncData} (F : Fun K "_law_labels" "_law_labels" sLabels f fd) (T : BltL mg)
    (GD : FnOk P w K mg base CX0 1 fD fdD ["_law_jar_here", "_law_top"] spDip) (mD : mg "_law_dip" = some (.ref fD)) (kD : PySem.W.keepIn K (.ref fD) = true) (bD : Binds K fdD ["_law_jar_here", "_law_top"] [])
    (GO : FnOk P w K mg base CX0 2 fO fdO ["_law_jar_here", "_law_some"] spOne) (mO : mg "_law_one_of" = some (.ref fO)) (kO : PySem.W.keepIn K (.ref fO) = true) (bO : Binds K fdO ["_law_jar_here", "_law_some"] []) :
    FnOk P w K mg base CX0 3 f fd ["_law_jar_here"] spLabels := by
  refine F.ok scLabels (fun vs H Q E h => ?_) (fun cdv A outer s H vs Q E hr h => ?_)
  · obtain ⟨j, rfl, _⟩ := h
    rfl
  · obtain ⟨j, rfl, J, k⟩ := h
    have hr1 : Room 1 _ := hr.mono (by decide)
    have big : ∀ {n : Nat}, n ≤ 100 → n ≤ sizeLine := fun h => by rw [sizeLine_eq]; omega
    refine ⟨_, pss_cons (ps_par (i := 1) (j := 2) (by rfl) scLabels.nd rfl rfl (by decide) rfl rfl (pa_cons (pe_lst (pa_cons pe_str (pa_cons pe_str (pa_cons pe_str (pa_cons pe_str (pa_cons pe_str (pa_cons pe_str (pa_cons pe_str (pa_cons pe_str (pa_cons pe_str (pa_cons pe_str (pa_cons pe_str pa_nil)))))))))))) (pa_cons (pe_lst pa_nil) pa_nil)) (by rfl))
      (pss_cons (ps_set (i := 1) scLabels.nd rfl (Or.inl rfl) (pe_op op_cat (pv 1) (pe_lst (pa_cons pe_str (pa_cons pe_str (pa_cons pe_str (pa_cons pe_str (pa_cons pe_str (pa_cons pe_str (pa_cons pe_str pa_nil)))))))))
      )
      (pss_cons (ps_par (i := 3) (j := 4) (by rfl) scLabels.nd rfl rfl (by decide) rfl rfl (pa_cons (pe_call GD hr1 (by rfl) mD kD bD .nil pass0 (pa_cons (pv 0) (pa_cons pe_int pa_nil))) (pa_cons (pe_call GO hr (by rfl) mO kO bO .nil pass0 (pa_cons (pv 0) (pa_cons (pe_lst (pa_cons pe_int (pa_cons pe_int (pa_cons pe_int (pa_cons pe_int (pa_cons pe_int (pa_cons pe_int pa_nil))))))) pa_nil))) pa_nil)) (by rfl))
      (pss_cons (ps_for PassesOwn.never rfl (pi_range1 (by rfl) T.range (pa_cons pe_int pa_nil)) (pg_name (i := 5) scLabels.nd rfl (Or.inl rfl))
        (pss_one (ps_expr (pe_bm PySem.F.plainAttrs_list PySem.F.slot_list_append PySem.F.type_list_append mt_append (pv 2) (pa_cons (pe_ix ix_list (pv 1) (pe_op op_mod (pe_callTy call_int1 (by rfl) T.int (by decide +kernel) (pa_cons (pe_op op_add (pv 3) (pe_op op_mul (pv 4) (pv 5))) pa_nil)) pe_int) (fun _ _ => rfl)) pa_nil)))))
      (pss_one (ps_ret (pv 2)))))), ?_⟩
    refine ⟨big (Nat.le_of_ble_eq_true rfl), fun p1 n1 => ⟨big (Nat.le_of_ble_eq_true rfl), fun p2 n2 => ?_⟩⟩
    refine ⟨_, _, rfl, ?_⟩
    refine ⟨_, rfl, big (Nat.le_of_ble_eq_true rfl), fun p3 n3 => ?_⟩
    refine ⟨p1, p3, _, _, rfl, rfl, (by rw [upd_ne (ne_of_none (by rw [upd_ne (ne_of_none upd_same n2)]; exact upd_same) n3), upd_ne (ne_of_none upd_same n2)]; exact upd_same), upd_same, big (Nat.le_of_ble_eq_true rfl), fun p4 n4 => ?_⟩
    obtain ⟨H4, s4, e2, e4, N2, ne24, hG⟩ : ∃ H4 : Hp, Same H H4 ∧ H4 p2 = some (.lst []) ∧ H4 p4 = some (.lst (menu.map V.str)) ∧ H p2 = none ∧ p2 ≠ p4 ∧ H4 = upd (upd (upd (upd H p1 (.lst [.str "mixer", .str "oven", .str "belt", .str "run", .str "clean", .str "machine", .str "stuff", .str "rinse", .str "wash", .str "nuts", .str "milk"])) p2 (.lst [])) p3 (.lst [.str "a", .str "bar", .str "cake", .str "roll", .str "product", .str "zzzzzzzz", .str "rule"])) p4
        (.lst ([.str "mixer", .str "oven", .str "belt", .str "run", .str "clean", .str "machine", .str "stuff", .str "rinse", .str "wash", .str "nuts", .str "milk"] ++ [.str "a", .str "bar", .str "cake", .str "roll", .str "product", .str "zzzzzzzz", .str "rule"])) := by
      have N2 : H p2 = none := by
        cases e : H p2 with
        | none => rfl
        | some o =>
          rw [upd_ne (ne_of_none e n1), e] at n2
          cases n2
      have S1 := fun (b : Addr) (o : HO) (e : H b = some o) => (show (upd H p1 (.lst [.str "mixer", .str "oven", .str "belt", .str "run", .str "clean", .str "machine", .str "stuff", .str "rinse", .str "wash", .str "nuts", .str "milk"])) b = some o by rw [upd_ne (ne_of_none e n1)]; exact e)
      have S2 : Same H (upd (upd H p1 (.lst [.str "mixer", .str "oven", .str "belt", .str "run", .str "clean", .str "machine", .str "stuff", .str "rinse", .str "wash", .str "nuts", .str "milk"])) p2 (.lst [])) := fun b o e => by
        rw [upd_ne (ne_of_none (S1 b o e) n2)]
        exact S1 b o e
      have S3 := fun (b : Addr) (o : HO) (e : H b = some o) => ne_of_none (S2 b o e) n3
      have X2 : (upd (upd (upd H p1 (.lst [.str "mixer", .str "oven", .str "belt", .str "run", .str "clean", .str "machine", .str "stuff", .str "rinse", .str "wash", .str "nuts", .str "milk"])) p2 (.lst [])) p3 (.lst [.str "a", .str "bar", .str "cake", .str "roll", .str "product", .str "zzzzzzzz", .str "rule"])) p2 = some (.lst []) := by
        rw [upd_ne (ne_of_none upd_same n3)]
        exact upd_same
      refine ⟨_, fun b o e => ?_, ?_, upd_same, N2, ne_of_none X2 n4, rfl⟩
      · have z : (upd (upd (upd H p1 (.lst [.str "mixer", .str "oven", .str "belt", .str "run", .str "clean", .str "machine", .str "stuff", .str "rinse", .str "wash", .str "nuts", .str "milk"])) p2 (.lst [])) p3 (.lst [.str "a", .str "bar", .str "cake", .str "roll", .str "product", .str "zzzzzzzz", .str "rule"])) b = some o := by
          rw [upd_ne (S3 b o e)]
          exact S2 b o e
        rw [upd_ne (ne_of_none z n4)]
        exact z
      · rw [upd_ne (ne_of_none X2 n4)]
        exact X2
    rw [← hG]
    clear hG n1 n2 n3 n4
    have J4 : JarAt H4 j := by
      obtain ⟨d0, m0, c0, hj0, r0⟩ := J
      exact ⟨d0, m0, c0, s4 _ _ hj0, r0⟩
    have m2 : p2 ≠ j := J.ne N2
    have m4 : p4 ≠ j := by
      intro z
      obtain ⟨d0, m0, c0, hj0, _⟩ := J4
      rw [z, hj0] at e4
      cases e4
    refine ⟨_, rfl, j, 18, rfl, J4, by decide, by decide, fun s H5 s0 s1 J5 b5 => ⟨_, rfl, big (Nat.le_of_ble_eq_true rfl), fun l nl => ?_⟩⟩
    have ml := J5.ne nl
    refine ⟨j, l, _, rfl, J5.new nl, upd_same, ml, by exact (by decide : 0 < 6), by exact (by decide : 6 < 100000), fun n v H6 hv J6 b6 => ?_⟩
    obtain ⟨g, hg, rfl⟩ : ∃ g, g ∈ gaps ∧ v = V.int g := by
      have hm : v ∈ gaps.map V.int := List.mem_of_getElem? hv
      obtain ⟨g, h1, h2⟩ := List.mem_map.mp hm
      exact ⟨g, h1, h2.symm⟩
    have b56 : But j H4 H6 := But.trans (b5.new nl) b6
    have f2 := b56 _ _ m2 e2
    have f4 := b56 _ _ m4 e4
    have bH : But j H H6 := fun b o n e => b56 b o n (s4 b o e)
    have gb : -(2 ^ 64) < g ∧ g < 2 ^ 64 := by
      simp only [gaps, List.mem_cons, List.not_mem_nil, or_false] at hg
      omega
    refine ⟨_, _, rfl, ?_⟩
    refine ⟨18, rfl, by decide, by decide, for_range (lo := 0) (n := 18) (fun n σ H7 => ∃ v5 : Option V, σ = [some (.ref j), some (.ref p4), some (.ref p2), some (.int s), some (.int g), v5] ∧ JarAt H7 j ∧ But j H H7 ∧ H7 p4 = some (.lst (menu.map V.str)) ∧ H7 p2 = some (.lst ((lab s g n).map V.str)))
      ⟨_, rfl, J6, bH, f4, f2⟩ ?_ ?_⟩
    · rintro n σ H7 hn ⟨v5, rfl, J7, b7, g4, g2⟩
      have e0 : (0 : Int) + (n : Int) = (n : Int) := by omega
      rw [e0]
      refine ⟨_, rfl, .inl ⟨rfl, _, SqL.of g2⟩, _, rfl, _, rfl, _, rfl, _, rfl, _, _, rfl, rfl, .inl gb, _, _, rfl, rfl, .inl ⟨_, rfl, ?_⟩⟩
      have i0 : 0 ≤ (s + g * (n : Int)) % 18 := Int.emod_nonneg _ (by decide)
      have i1 : (s + g * (n : Int)) % 18 < 18 := Int.emod_lt_of_pos _ (by decide)
      refine ⟨_, _, rfl, rfl, (by show (0 : Int) < 18; decide), p4, _, _, _, rfl, rfl, SqL.of g4, menu_at i0 i1, p2, _, _, rfl, rfl, g2, ?_, ?_⟩
      · rw [sizeLine_eq, List.length_map, lab_len]
        omega
      · refine ⟨_, rfl, J7.put m2, b7.put N2, ?_, ?_⟩
        · rw [upd_ne ne24.symm]
          exact g4
        · rw [lab_succ, List.map_append]
          exact upd_same
    · rintro σ H7 ⟨v5, rfl, J7, b7, g4, g2⟩
      refine ⟨_, rfl, ?_⟩
      have hs : (lab s g 18).Nodup := by
        have z := lab_nodup ⟨s.toNat, by omega⟩ g hg
        have e : ((s.toNat : Nat) : Int) = s := Int.toNat_of_nonneg s0
        simpa only [e] using z
      exact k p2 (lab s g 18) H7 (lab_len s g 18) hs (lab_in s g 18) J7 b7 N2 m2 g2
end
end LJ
set_option Elab.async false
set_option linter.all false
set_option maxRecDepth 100000
set_option maxHeartbeats 4000000
namespace LJ
open PySem L2
abbrev sWorld : Stmt := top 61
/-- drawn works, as data -/
structure Wd where
  ms : List (Str × Int × Int)
  cs : List (Str × Int × Int)
  ss : List (Str × Int)
  ps : List (Str × List (Int × Int))
def Row3 (H : Hp) (v : V) (r : Str × Int × Int) : Prop := ∃ a : Addr, v = .ref a ∧ H a = some (.tup [.str r.1, .int r.2.1, .int r.2.2])
def Row2 (H : Hp) (v : V) (r : Str × Int) : Prop := ∃ a : Addr, v = .ref a ∧ H a = some (.tup [.str r.1, .int r.2])
def Bnd (H : Hp) (v : V) (r : Int × Int) : Prop := ∃ a : Addr, v = .ref a ∧ H a = some (.tup [.int r.1, .int r.2])
def RowP (H : Hp) (v : V) (r : Str × List (Int × Int)) : Prop := ∃ (a t : Addr) (vs : List V), v = .ref a ∧ H a = some (.tup [.str r.1, .ref t]) ∧ H t = some (.tup vs) ∧ Paired (Bnd H) vs r.2
/-- all tuples stay -/
def Tup (H H1 : Hp) : Prop := ∀ b xs, H b = some (.tup xs) → H1 b = some (.tup xs)
theorem Tup.of {j : Addr} {H H1 : Hp} (J : JarAt H j) (b : But j H H1) : Tup H H1 := fun a xs e => b a _ (fun z => by
  obtain ⟨d, m, c, q, _⟩ := J
  rw [z, q] at e
  cases e) e
theorem Tup.new {H : Hp} {p : Addr} {o : HO} (n : H p = none) : Tup H (upd H p o) := fun a xs e => by
  rw [upd_ne (ne_of_none e n)]
  exact e
theorem Tup.put {H : Hp} {p : Addr} {o : HO} {ys : List V} (n : H p = some (.lst ys)) : Tup H (upd H p o) := fun a xs e => by
  have m : a ≠ p := fun z => by
    rw [z, n] at e
    cases e
  rw [upd_ne m]
  exact e
theorem Tup.trans {H H1 H2 : Hp} (s : Tup H H1) (t : Tup H1 H2) : Tup H H2 := fun a xs e => t a xs (s a xs e)
theorem Row3.seq {H H1 : Hp} {v : V} {r : Str × Int × Int} (t : Tup H H1) (h : Row3 H v r) : Row3 H1 v r := by
  obtain ⟨a, e, q⟩ := h
  exact ⟨a, e, t _ _ q⟩
theorem Row2.seq {H H1 : Hp} {v : V} {r : Str × Int} (t : Tup H H1) (h : Row2 H v r) : Row2 H1 v r := by
  obtain ⟨a, e, q⟩ := h
  exact ⟨a, e, t _ _ q⟩
theorem Bnd.seq {H H1 : Hp} {v : V} {r : Int × Int} (t : Tup H H1) (h : Bnd H v r) : Bnd H1 v r := by
  obtain ⟨a, e, q⟩ := h
  exact ⟨a, e, t _ _ q⟩
theorem RowP.seq {H H1 : Hp} {v : V} {r : Str × List (Int × Int)} (t : Tup H H1) (h : RowP H v r) : RowP H1 v r := by
  obtain ⟨a, b, vs, e, q, s, p⟩ := h
  exact ⟨a, b, vs, e, t _ _ q, t _ _ s, L2.Paired.mapP p fun x y z => Bnd.seq t z⟩
theorem Paired.snoc {α β : Type} {F : α → β → Prop} : ∀ {xs : List α} {ys : List β} {x : α} {y : β}, Paired F xs ys → F x y → Paired F (xs ++ [x]) (ys ++ [y])
  | _, _, _, _, .nil, h => .cons h .nil
  | _, _, _, _, .cons r t, h => .cons r (Paired.snoc t h)
/-- so many rows: the names one behind another from a place on -/
def Rows3 (H : Hp) (p : Addr) (ls : List Str) (off n : Nat) (ms : List (Str × Int × Int)) : Prop := (∃ vs, H p = some (.lst vs) ∧ vs.length = n ∧ Paired (Row3 H) vs ms) ∧ ms.map (·.1) = (ls.drop off).take n ∧ ∀ r ∈ ms, 0 ≤ r.2.1 ∧ r.2.1 ≤ r.2.2 ∧ r.2.2 ≤ 1000
def Rows2 (H : Hp) (p : Addr) (ls : List Str) (off n : Nat) (ss : List (Str × Int)) : Prop := (∃ vs, H p = some (.lst vs) ∧ vs.length = n ∧ Paired (Row2 H) vs ss) ∧ ss.map (·.1) = (ls.drop off).take n ∧ ∀ r ∈ ss, 0 ≤ r.2 ∧ r.2 ≤ 1000000000000
def RowsP (H : Hp) (p : Addr) (ls : List Str) (off n many : Nat) (ps : List (Str × List (Int × Int))) : Prop := (∃ vs, H p = some (.lst vs) ∧ vs.length = n ∧ Paired (RowP H) vs ps) ∧ ps.map (·.1) = (ls.drop off).take n ∧
  ∀ r ∈ ps, r.2.length = many ∧ ∀ b ∈ r.2, 0 ≤ b.1 ∧ b.1 ≤ b.2 ∧ b.2 ≤ 1000000000000
theorem names_succ {ls : List Str} {off n : Nat} {x : Str} (h : ls[off + n]? = some x) : (ls.drop off).take (n + 1) = (ls.drop off).take n ++ [x] := by
  rw [List.take_succ, List.getElem?_drop, h]
  rfl
theorem lab_at {ls : List Str} {i : Int} {n : Nat} {x : Str} (e : i = (n : Int)) (h : ls[n]? = some x) : atI (ls.map V.str) i = some (.str x) := by
  rw [e]
  refine atI_nat ?_
  rw [List.getElem?_map, h]
  rfl
theorem Rows3.but {j : Addr} {H H1 : Hp} {p : Addr} {ls : List Str} {off n : Nat} {ms : List (Str × Int × Int)} (J : JarAt H j) (b : But j H H1) (m : p ≠ j) (h : Rows3 H p ls off n ms) : Rows3 H1 p ls off n ms := by
  obtain ⟨⟨vs, h1, h2, h3⟩, h4⟩ := h
  exact ⟨⟨vs, b _ _ m h1, h2, L2.Paired.mapP h3 fun x y z => Row3.seq (Tup.of J b) z⟩, h4⟩
theorem Rows2.but {j : Addr} {H H1 : Hp} {p : Addr} {ls : List Str} {off n : Nat} {ms : List (Str × Int)} (J : JarAt H j) (b : But j H H1) (m : p ≠ j) (h : Rows2 H p ls off n ms) : Rows2 H1 p ls off n ms := by
  obtain ⟨⟨vs, h1, h2, h3⟩, h4⟩ := h
  exact ⟨⟨vs, b _ _ m h1, h2, L2.Paired.mapP h3 fun x y z => Row2.seq (Tup.of J b) z⟩, h4⟩
theorem RowsP.but {j : Addr} {H H1 : Hp} {p : Addr} {ls : List Str} {off n many : Nat} {ms : List (Str × List (Int × Int))} (J : JarAt H j) (b : But j H H1) (m : p ≠ j) (h : RowsP H p ls off n many ms) : RowsP H1 p ls off n many ms := by
  obtain ⟨⟨vs, h1, h2, h3⟩, h4⟩ := h
  exact ⟨⟨vs, b _ _ m h1, h2, L2.Paired.mapP h3 fun x y z => RowP.seq (Tup.of J b) z⟩, h4⟩
def WorldAt (H : Hp) (p : Addr) (W : Wd) : Prop := ∃ (a b c d : Addr) (va vb vc vd : List V), H p = some (.lst [.ref a, .ref b, .ref c, .ref d]) ∧ H a = some (.lst va) ∧ Paired (Row3 H) va W.ms ∧ H b = some (.lst vb) ∧ Paired (Row3 H) vb W.cs ∧
  H c = some (.lst vc) ∧ Paired (Row2 H) vc W.ss ∧ H d = some (.lst vd) ∧ Paired (RowP H) vd W.ps
structure Good (W : Wd) : Prop where
  m1 : 1 ≤ W.ms.length
  m2 : W.ms.length ≤ 6
  c2 : W.cs.length ≤ 3
  s1 : 1 ≤ W.ss.length
  s2 : W.ss.length ≤ 2
  p1 : 1 ≤ W.ps.length
  p2 : W.ps.length ≤ 4
  mb : ∀ r ∈ W.ms, 0 ≤ r.2.1 ∧ r.2.1 ≤ r.2.2 ∧ r.2.2 ≤ 1000
  cb : ∀ r ∈ W.cs, 0 ≤ r.2.1 ∧ r.2.1 ≤ r.2.2 ∧ r.2.2 ≤ 1000
  sb : ∀ r ∈ W.ss, 0 ≤ r.2 ∧ r.2 ≤ 1000000000000
  pb : ∀ r ∈ W.ps, r.2.length = W.ss.length ∧ ∀ b ∈ r.2, 0 ≤ b.1 ∧ b.1 ≤ b.2 ∧ b.2 ≤ 1000000000000
  nd : (W.ms.map (·.1) ++ (W.cs.map (·.1) ++ (W.ss.map (·.1) ++ W.ps.map (·.1)))).Nodup
  nm : ∀ x ∈ W.ms.map (·.1) ++ (W.cs.map (·.1) ++ (W.ss.map (·.1) ++ W.ps.map (·.1))), x ∈ menu
theorem Paired.len {α β : Type} {F : α → β → Prop} : ∀ {xs : List α} {ys : List β}, Paired F xs ys → xs.length = ys.length
  | _, _, .nil => rfl
  | _, _, .cons _ t => by rw [List.length_cons, List.length_cons, Paired.len t]
/-- names from four stretches of one row without doubles -/
theorem four_nodup {ls : List Str} (hl : ls.length = 18) (nd : ls.Nodup) {n1 n2 n3 n4 : Nat} (h1 : n1 ≤ 6) (h2 : n2 ≤ 3) (h3 : n3 ≤ 3) (h4 : n4 ≤ 6) :
    (ls.take n1 ++ ((ls.drop 6).take n2 ++ ((ls.drop 9).take n3 ++ (ls.drop 12).take n4))).Sublist ls := by
  have e1 : ls = ls.take 6 ++ ls.drop 6 := (List.take_append_drop 6 ls).symm
  have e2 : ls.drop 6 = (ls.drop 6).take 3 ++ ls.drop 9 := by
    have z := (List.take_append_drop 3 (ls.drop 6)).symm
    rw [List.drop_drop] at z
    exact z
  have e3 : ls.drop 9 = (ls.drop 9).take 3 ++ ls.drop 12 := by
    have z := (List.take_append_drop 3 (ls.drop 9)).symm
    rw [List.drop_drop] at z
    exact z
  have t : ∀ {xs : List Str} {a b : Nat}, a ≤ b → (xs.take a).Sublist (xs.take b) := fun {xs a b} h => by
    have z : xs.take a = (xs.take b).take a := by rw [List.take_take, Nat.min_eq_left h]
    rw [z]
    exact List.take_sublist _ _
  have s3 : ((ls.drop 9).take n3 ++ (ls.drop 12).take n4).Sublist (ls.drop 9) := by
    conv => rhs; rw [e3]
    exact (t h3).append (List.take_sublist _ _)
  have s2 : ((ls.drop 6).take n2 ++ ((ls.drop 9).take n3 ++ (ls.drop 12).take n4)).Sublist (ls.drop 6) := by
    conv => rhs; rw [e2]
    exact (t h2).append s3
  conv => rhs; rw [e1]
  exact (t h1).append s2
def spWorld : Sp := fun vs H Q _ => ∃ (j : Addr) (m : Int), vs = [.ref j, .int m] ∧ JarAt H j ∧ 0 < m ∧ m ≤ 6 ∧ ∀ (p : Addr) (W : Wd) (H1 : Hp), WorldAt H1 p W → Good W → JarAt H1 j → But j H H1 → H p = none → p ≠ j → Q (.ref p) H1
structure BltW (mg : Str → Option Value) : Prop where
  range : mg "range" = none
  tuple : mg "tuple" = none
section
variable {P : Program} {w : World} {K : PySem.W.Frag} {mg : Str → Option Value} {base : Heap}
theorem scWorld : FnScope ["_law_jar_here", "_law_most", "_law_labels_here", "_law_many", "_law_k", "_law_machines_here", "_law_cleanings_here", "_law_stuffs_here", "_law_goods", "_law_each"] ["_law_jar_here", "_law_most"] (defScope sWorld) := ⟨rfl, rfl, rfl, by decide +kernel, rfl, by decide +kernel, by decide +kernel⟩

theorem ok_world {f fD fO fL fS fN : Addr} {fd fdD fdO fdL fdS fdN : FuncData} (F : Fun K "_law_world" "_law_world" sWorld f fd) (T : BltW mg)
    (GD : FnOk P w K mg base CX0 1 fD fdD ["_law_jar_here", "_law_top"] spDip) (mD : mg "_law_dip" = some (.ref fD)) (kD : PySem.W.keepIn K (.ref fD) = true) (bD : Binds K fdD ["_law_jar_here", "_law_top"] [])
    (GO : FnOk P w K mg base CX0 2 fO fdO ["_law_jar_here", "_law_some"] spOne) (mO : mg "_law_one_of" = some (.ref fO)) (kO : PySem.W.keepIn K (.ref fO) = true) (bO : Binds K fdO ["_law_jar_here", "_law_some"] [])
    (GL : FnOk P w K mg base CX0 3 fL fdL ["_law_jar_here"] spLabels) (mL : mg "_law_labels" = some (.ref fL)) (kL : PySem.W.keepIn K (.ref fL) = true) (bL : Binds K fdL ["_law_jar_here"] [])
    (GS : FnOk P w K mg base CX0 3 fS fdS ["_law_jar_here"] (spBounds 1000)) (mS : mg "_law_shares" = some (.ref fS)) (kS : PySem.W.keepIn K (.ref fS) = true) (bS : Binds K fdS ["_law_jar_here"] [])
    (GN : FnOk P w K mg base CX0 3 fN fdN ["_law_jar_here"] (spBounds 1000000000000)) (mN : mg "_law_inside" = some (.ref fN)) (kN : PySem.W.keepIn K (.ref fN) = true) (bN : Binds K fdN ["_law_jar_here"] []) :
    FnOk P w K mg base CX0 4 f fd ["_law_jar_here", "_law_most"] spWorld := by
  refine F.ok scWorld (fun vs H Q E h => ?_) (fun cdv A outer s H vs Q E hr h => ?_)
  · obtain ⟨j, m, rfl, _⟩ := h
    rfl
  · obtain ⟨j, m, rfl, J, m0, m6, k⟩ := h
    have hr1 : Room 1 _ := hr.mono (by decide)
    have hr2 : Room 2 _ := hr.mono (by decide)
    have big : ∀ {n : Nat}, n ≤ 100 → n ≤ sizeLine := fun h => by rw [sizeLine_eq]; omega
    refine ⟨_, pss_cons (ps_asg (pe_tup (pa_cons (pe_call GL hr (by rfl) mL kL bL .nil pass0 (pa_cons (pv 0) pa_nil)) (pa_cons (pe_op op_add pe_int (pe_call GD hr1 (by rfl) mD kD bD .nil pass0 (pa_cons (pv 0) (pa_cons (pv 1) pa_nil)))) pa_nil))) (pg_tup (by rfl) (pgs_cons (pg_name (i := 2) scWorld.nd rfl (Or.inr rfl)) (pgs_cons (pg_name (i := 3) scWorld.nd rfl (Or.inl rfl)) pgs_nil))))
      (pss_cons (ps_setLc (i := 5) (own := [("_law_k", 4)]) (g := gName 4) (by rfl) scWorld.nd rfl rfl (sw_true rfl rfl rfl (by decide +kernel)) (pi_range1 (by rfl) T.range (pa_cons (pv 3) pa_nil)) (blkOk_by (own := [("_law_k", 4)]) (N := ["_law_jar_here", "_law_most", "_law_labels_here", "_law_many", "_law_k", "_law_machines_here", "_law_cleanings_here", "_law_stuffs_here", "_law_goods", "_law_each"]) (sc := defScope sWorld) (by decide +kernel)) (fun _ _ _ _ _ => pg_name (i := 4) scWorld.nd rfl (Or.inl rfl)) (fun _ _ _ _ _ => pts_nil) (fun _ _ _ _ _ => pe_op (show OpR _ _ (rCatT K) from op_catT) (pe_tup (pa_cons (pe_ix (show IxR _ (rIxL K) from ix_list) (pv 2) (pv 4) (fun _ _ => rfl)) pa_nil)) (pe_call GS hr (by rfl) mS kS bS .nil pass0 (pa_cons (pv 0) pa_nil))))
      (pss_cons (ps_setLc (i := 6) (own := [("_law_k", 4)]) (g := gName 4) (by rfl) scWorld.nd rfl rfl (sw_true rfl rfl rfl (by decide +kernel)) (pi_range1 (by rfl) T.range (pa_cons (pe_call GD hr1 (by rfl) mD kD bD .nil pass0 (pa_cons (pv 0) (pa_cons pe_int pa_nil))) pa_nil)) (blkOk_by (own := [("_law_k", 4)]) (N := ["_law_jar_here", "_law_most", "_law_labels_here", "_law_many", "_law_k", "_law_machines_here", "_law_cleanings_here", "_law_stuffs_here", "_law_goods", "_law_each"]) (sc := defScope sWorld) (by decide +kernel)) (fun _ _ _ _ _ => pg_name (i := 4) scWorld.nd rfl (Or.inl rfl)) (fun _ _ _ _ _ => pts_nil) (fun _ _ _ _ _ => pe_op (show OpR _ _ (rCatT K) from op_catT) (pe_tup (pa_cons (pe_ix (show IxR _ (rIxL K) from ix_list) (pv 2) (pe_op op_add pe_int (pv 4)) (fun _ _ => rfl)) pa_nil)) (pe_call GS hr (by rfl) mS kS bS .nil pass0 (pa_cons (pv 0) pa_nil))))
      (pss_cons (ps_par (i := 7) (j := 8) (by rfl) scWorld.nd rfl rfl (by decide) rfl rfl (pa_cons (pe_lst pa_nil) (pa_cons (pe_lst pa_nil) pa_nil)) (by rfl))
      (pss_cons (ps_for PassesOwn.never rfl (pi_range1 (by rfl) T.range (pa_cons (pe_op op_add pe_int (pe_call GD hr1 (by rfl) mD kD bD .nil pass0 (pa_cons (pv 0) (pa_cons pe_int pa_nil)))) pa_nil)) (pg_name (i := 4) scWorld.nd rfl (Or.inl rfl)) (pss_one (ps_expr (pe_bm PySem.F.plainAttrs_list PySem.F.slot_list_append PySem.F.type_list_append mt_append (pv 7) (pa_cons (pe_tup (pa_cons (pe_ix (show IxR _ (rIxL K) from ix_list) (pv 2) (pe_op op_add pe_int (pv 4)) (fun _ _ => rfl)) (pa_cons (pe_call GO hr2 (by rfl) mO kO bO .nil pass0 (pa_cons (pv 0) (pa_cons (pe_lst (pa_cons pe_int (pa_cons pe_int (pa_cons pe_int (pa_cons pe_int (pa_cons (pe_op op_pow pe_int pe_int) pa_nil)))))) pa_nil))) pa_nil))) pa_nil)))))
      (pss_cons (ps_for PassesOwn.never rfl (pi_range1 (by rfl) T.range (pa_cons (pe_op op_add pe_int (pe_call GD hr1 (by rfl) mD kD bD .nil pass0 (pa_cons (pv 0) (pa_cons pe_int pa_nil)))) pa_nil)) (pg_name (i := 4) scWorld.nd rfl (Or.inl rfl)) (pss_one (ps_expr (pe_bm PySem.F.plainAttrs_list PySem.F.slot_list_append PySem.F.type_list_append mt_append (pv 8) (pa_cons (pe_tup (pa_cons (pe_ix (show IxR _ (rIxL K) from ix_list) (pv 2) (pe_op op_add pe_int (pv 4)) (fun _ _ => rfl)) (pa_cons (pe_callTy call_tuple_of (by rfl) T.tuple (by decide +kernel) (pa_cons (pe_lc (own := [("_law_each", 9)]) (g := gName 9) (by rfl) scWorld.nd (pi_list (pv 7)) (blkOk_by (own := [("_law_each", 9)]) (N := ["_law_jar_here", "_law_most", "_law_labels_here", "_law_many", "_law_k", "_law_machines_here", "_law_cleanings_here", "_law_stuffs_here", "_law_goods", "_law_each"]) (sc := defScope sWorld) (by decide +kernel)) (fun _ _ _ _ _ => pg_name (i := 9) scWorld.nd rfl (Or.inl rfl)) (fun _ _ _ _ _ => pts_nil) (fun _ _ _ _ _ => pe_call GN hr (by rfl) mN kN bN .nil pass0 (pa_cons (pv 0) pa_nil))) pa_nil)) pa_nil))) pa_nil)))))
      (pss_one (ps_ret (pe_lst (pa_cons (pv 5) (pa_cons (pv 6) (pa_cons (pv 7) (pa_cons (pv 8) pa_nil)))))))))))), ?_⟩
    refine ⟨_, rfl, j, rfl, J, fun pl ls H1 hls hnd hin J1 b1 npl nl eL1 => ?_⟩
    refine ⟨_, rfl, _, rfl, j, m, rfl, J1, m0, by omega, fun r H2 r0 r1 J2 b2 => ⟨_, _, rfl, rfl, big (Nat.le_of_ble_eq_true rfl), fun t nt => ?_⟩⟩
    have eL2 := b2 _ _ nl eL1
    have eL3 : (upd H2 t (.tup [.ref pl, .int (1 + r)])) pl = some (.lst (ls.map V.str)) := by
      rw [upd_ne (ne_of_none eL2 nt)]
      exact eL2
    have B3 : But j H (upd H2 t (.tup [.ref pl, .int (1 + r)])) := (But.trans b1 b2).new nt
    have J3 : JarAt (upd H2 t (.tup [.ref pl, .int (1 + r)])) j := J2.new nt
    refine ⟨t, _, rfl, SqT.of upd_same, rfl, _, _, rfl, _, _, rfl, rfl, ?_⟩
    generalize upd H2 t (.tup [.ref pl, .int (1 + r)]) = H3 at eL3 B3 J3 ⊢
    refine ⟨_, rfl, _, rfl, by omega, by omega, fun D hD => lc_range (lo := 0) (fun n H2 => JarAt H2 j ∧ But j H3 H2 ∧ ∃ ms, Rows3 H2 D ls 0 n ms)
      ⟨J3.new hD, But.refl.new hD, [], ⟨⟨[], upd_same, rfl, .nil⟩, rfl, fun r hr => nomatch hr⟩⟩ ?_ ?_⟩
    · rintro n H2 hn ⟨J2, b2, ms, ⟨vs, hv, hvl, hpr⟩, hnm, hbd⟩
      have nle : 0 + n < 18 := by omega
      obtain ⟨x, hx⟩ : ∃ x, ls[0 + n]? = some x := ⟨ls[0 + n]'(by omega), List.getElem?_eq_getElem (by omega)⟩
      have dD : D ≠ j := J3.ne hD
      have eL := b2 _ _ nl eL3
      refine ⟨rfl, ?_⟩
      refine ⟨_, rfl, _, rfl, pl, _, _, _, rfl, rfl, SqL.of eL, lab_at (by omega) hx, big (Nat.le_of_ble_eq_true rfl), fun t1 nt1 => ?_⟩
      have mt1 := J2.ne nt1
      refine ⟨_, rfl, j, rfl, J2.new nt1, fun p lo hi G3 l0 l1 l2 JG bG np mp e3 => ?_⟩
      have e1 := bG _ _ mt1 upd_same
      refine ⟨t1, p, _, _, rfl, rfl, SqT.of e1, SqT.of e3, (by simp), big (Nat.le_of_ble_eq_true rfl), (fun z => by cases z), fun _ q nq => ?_⟩
      have mq := JG.ne nq
      have bb : But j H3 (upd G3 q (.tup [.str x, .int lo, .int hi])) := (But.trans (b2.new nt1) bG).new nq
      have eD : (upd G3 q (.tup [.str x, .int lo, .int hi])) D = some (.lst vs) := by
        have z := bG _ _ dD (show (upd H2 t1 (.tup [.str x])) D = some (.lst vs) by rw [upd_ne (ne_of_none hv nt1)]; exact hv)
        rw [upd_ne (ne_of_none z nq)]
        exact z
      have tt : Tup H2 (upd G3 q (.tup [.str x, .int lo, .int hi])) := Tup.trans (Tup.new nt1) (Tup.trans (Tup.of (J2.new nt1) bG) (Tup.new nq))
      have hq : (upd G3 q (.tup [.str x, .int lo, .int hi])) q = some (.tup [.str x, .int lo, .int hi]) := upd_same
      have J4 := JG.new nq (o := .tup [.str x, .int lo, .int hi])
      refine ⟨vs, eD, ?_, J4.put dD, bb.put hD, ms ++ [(x, lo, hi)], ⟨⟨vs ++ [.ref q], upd_same, by rw [List.length_append, hvl]; rfl, ?_⟩, ?_, ?_⟩⟩
      · rw [sizeLine_eq, hvl]
        omega
      · have t5 : Tup (upd G3 q (.tup [.str x, .int lo, .int hi])) (upd (upd G3 q (.tup [.str x, .int lo, .int hi])) D (.lst (vs ++ [.ref q]))) := Tup.put eD
        exact Paired.snoc (L2.Paired.mapP hpr fun a b z => Row3.seq (Tup.trans tt t5) z) ⟨q, rfl, t5 _ _ hq⟩
      · rw [List.map_append, hnm, names_succ hx]
        rfl
      · intro r hr
        rcases List.mem_append.mp hr with h | h
        · exact hbd r h
        · obtain rfl := List.mem_singleton.mp h
          exact ⟨l0, l1, l2⟩
    · rintro H4 ⟨J4, b4, ms, R4⟩
      have dD : D ≠ j := J3.ne hD
      have eL4 := b4 _ _ nl eL3
      refine ⟨_, rfl, j, 4, rfl, J4, by decide, by decide, fun r2 H5 q0 q1 J5 b5 => ⟨_, rfl, by omega, by omega, fun D2 hD2 => lc_range (lo := 0) (fun n H2 => JarAt H2 j ∧ But j H5 H2 ∧ ∃ ms, Rows3 H2 D2 ls 6 n ms)
      ⟨J5.new hD2, But.refl.new hD2, [], ⟨⟨[], upd_same, rfl, .nil⟩, rfl, fun r hr => nomatch hr⟩⟩ ?_ ?_⟩⟩
      · rintro n H2 hn ⟨J2, b2, ms, ⟨vs, hv, hvl, hpr⟩, hnm, hbd⟩
        have nle : 6 + n < 18 := by omega
        obtain ⟨x, hx⟩ : ∃ x, ls[6 + n]? = some x := ⟨ls[6 + n]'(by omega), List.getElem?_eq_getElem (by omega)⟩
        have dD2 : D2 ≠ j := J5.ne hD2
        have eL := b2 _ _ nl (b5 _ _ nl eL4)
        refine ⟨rfl, ?_⟩
        refine ⟨_, rfl, _, rfl, _, _, rfl, rfl, pl, _, _, _, rfl, rfl, SqL.of eL, lab_at (by omega) hx, big (Nat.le_of_ble_eq_true rfl), fun t1 nt1 => ?_⟩
        have mt1 := J2.ne nt1
        refine ⟨_, rfl, j, rfl, J2.new nt1, fun p lo hi G3 l0 l1 l2 JG bG np mp e3 => ?_⟩
        have e1 := bG _ _ mt1 upd_same
        refine ⟨t1, p, _, _, rfl, rfl, SqT.of e1, SqT.of e3, (by simp), big (Nat.le_of_ble_eq_true rfl), (fun z => by cases z), fun _ q nq => ?_⟩
        have mq := JG.ne nq
        have bb : But j H5 (upd G3 q (.tup [.str x, .int lo, .int hi])) := (But.trans (b2.new nt1) bG).new nq
        have eD : (upd G3 q (.tup [.str x, .int lo, .int hi])) D2 = some (.lst vs) := by
          have z := bG _ _ dD2 (show (upd H2 t1 (.tup [.str x])) D2 = some (.lst vs) by rw [upd_ne (ne_of_none hv nt1)]; exact hv)
          rw [upd_ne (ne_of_none z nq)]
          exact z
        have tt : Tup H2 (upd G3 q (.tup [.str x, .int lo, .int hi])) := Tup.trans (Tup.new nt1) (Tup.trans (Tup.of (J2.new nt1) bG) (Tup.new nq))
        have hq : (upd G3 q (.tup [.str x, .int lo, .int hi])) q = some (.tup [.str x, .int lo, .int hi]) := upd_same
        have J4 := JG.new nq (o := .tup [.str x, .int lo, .int hi])
        refine ⟨vs, eD, ?_, J4.put dD2, bb.put hD2, ms ++ [(x, lo, hi)], ⟨⟨vs ++ [.ref q], upd_same, by rw [List.length_append, hvl]; rfl, ?_⟩, ?_, ?_⟩⟩
        · rw [sizeLine_eq, hvl]
          omega
        · have t5 : Tup (upd G3 q (.tup [.str x, .int lo, .int hi])) (upd (upd G3 q (.tup [.str x, .int lo, .int hi])) D2 (.lst (vs ++ [.ref q]))) := Tup.put eD
          exact Paired.snoc (L2.Paired.mapP hpr fun a b z => Row3.seq (Tup.trans tt t5) z) ⟨q, rfl, t5 _ _ hq⟩
        · rw [List.map_append, hnm, names_succ hx]
          rfl
        · intro r hr
          rcases List.mem_append.mp hr with h | h
          · exact hbd r h
          · obtain rfl := List.mem_singleton.mp h
            exact ⟨l0, l1, l2⟩
      · rintro H6 ⟨J6, b6, cs, R6⟩
        have dD2 : D2 ≠ j := J5.ne hD2
        have bH6 : But j H H6 := But.trans B3 (But.trans b4 (But.trans b5 b6))
        have eL5 := b5 _ _ nl eL4
        have eL6 := b6 _ _ nl eL5
        have M6 : Rows3 H6 D ls 0 (1 + r).toNat ms := (R4.but J4 b5 dD).but J5 b6 dD
        clear R4 eL5 eL4 eL3
        refine ⟨big (Nat.le_of_ble_eq_true rfl), fun p7 n7 => ⟨big (Nat.le_of_ble_eq_true rfl), fun p8 n8 => ?_⟩⟩
        have m7 : p7 ≠ j := J6.ne n7
        have n86 : H6 p8 = none := by
          cases e : H6 p8 with
          | none => rfl
          | some o =>
            rw [upd_ne (ne_of_none e n7), e] at n8
            cases n8
        have m8 : p8 ≠ j := J6.ne n86
        have n78 : p7 ≠ p8 := ne_of_none upd_same n8
        have e7 : (upd (upd H6 p7 (.lst [])) p8 (.lst [])) p7 = some (.lst []) := by
          rw [upd_ne n78]
          exact upd_same
        have e8 : (upd (upd H6 p7 (.lst [])) p8 (.lst [])) p8 = some (.lst []) := upd_same
        have J8 : JarAt (upd (upd H6 p7 (.lst [])) p8 (.lst [])) j := (J6.new n7).put m8
        have b8 : But j H6 (upd (upd H6 p7 (.lst [])) p8 (.lst [])) := (But.refl.new n7).put n86
        refine ⟨_, _, rfl, ?_⟩
        generalize upd (upd H6 p7 (.lst [])) p8 (.lst []) = H8 at e7 e8 J8 b8 ⊢
        refine ⟨_, rfl, j, 2, rfl, J8, by decide, by decide, fun r3 H9 u0 u1 J9 b9 => ⟨_, _, rfl, rfl, _, rfl, by omega, by omega, for_range (lo := 0) (fun n σ G => (∃ v4 v9 : Option V, σ = [some (.ref j), some (.int m), some (.ref pl), some (.int (1 + r)), v4, some (.ref D), some (.ref D2), some (.ref p7), some (.ref p8), v9]) ∧ JarAt G j ∧ But j H6 G ∧ G p8 = some (.lst []) ∧ ∃ ss, Rows2 G p7 ls 9 n ss)
          ⟨⟨_, _, rfl⟩, J9, But.trans b8 b9, b9 _ _ m8 e8, [], ⟨⟨[], b9 _ _ m7 e7, rfl, .nil⟩, rfl, fun r hr => nomatch hr⟩⟩ ?_ ?_⟩⟩
        · rintro n σ G hn ⟨⟨v4, v9, rfl⟩, JG, bG, g8, ss, ⟨vs, hv, hvl, hpr⟩, hnm, hbd⟩
          have nle : 9 + n < 18 := by omega
          obtain ⟨x, hx⟩ : ∃ x, ls[9 + n]? = some x := ⟨ls[9 + n]'(by omega), List.getElem?_eq_getElem (by omega)⟩
          have gL := bG _ _ nl eL6
          refine ⟨_, rfl, .inl ⟨rfl, _, SqL.of hv⟩, _, rfl, _, rfl, _, _, rfl, rfl, pl, _, _, _, rfl, rfl, SqL.of gL, lab_at (by omega) hx, _, rfl, _, _, rfl, rfl, ⟨by decide, by decide, by decide⟩, big (Nat.le_of_ble_eq_true rfl), fun l nl2 => ?_⟩
          have ml := JG.ne nl2
          refine ⟨j, l, _, rfl, JG.new nl2, upd_same, ml, by exact (by decide : 0 < 5), by exact (by decide : 5 < 100000), fun i v G2 hvv JG2 bG2 => ?_⟩
          obtain ⟨z, rfl, z0, z1⟩ : ∃ z : Int, v = V.int z ∧ 0 ≤ z ∧ z ≤ 1000000000000 := by
            have hm := List.mem_of_getElem? hvv
            have p12 : (10 : Int) ^ ((12 : Int).toNat) = 1000000000000 := by decide
            simp only [List.mem_cons, List.not_mem_nil, or_false, p12] at hm
            rcases hm with rfl | rfl | rfl | rfl | rfl <;> exact ⟨_, rfl, by omega, by omega⟩
          have bb : But j G G2 := But.trans (But.refl.new nl2) bG2
          have gv := bb _ _ m7 hv
          have gg8 := bb _ _ m8 g8
          refine ⟨big (Nat.le_of_ble_eq_true rfl), fun q nq => ?_⟩
          have gv2 : (upd G2 q (.tup [.str x, .int z])) p7 = some (.lst vs) := by
            rw [upd_ne (ne_of_none gv nq)]
            exact gv
          have gg9 : (upd G2 q (.tup [.str x, .int z])) p8 = some (.lst []) := by
            rw [upd_ne (ne_of_none gg8 nq)]
            exact gg8
          have hq : (upd G2 q (.tup [.str x, .int z])) q = some (.tup [.str x, .int z]) := upd_same
          have tt : Tup G (upd G2 q (.tup [.str x, .int z])) := Tup.trans (Tup.of JG bb) (Tup.new nq)
          have J4' := JG2.new nq (o := .tup [.str x, .int z])
          have bb2 : But j H6 (upd G2 q (.tup [.str x, .int z])) := But.trans bG (bb.new nq)
          refine ⟨p7, _, _, rfl, rfl, gv2, by rw [sizeLine_eq, hvl]; omega, ⟨⟨_, _, rfl⟩, J4'.put m7, bb2.put n7, ?_, ss ++ [(x, z)], ⟨⟨vs ++ [.ref q], upd_same, by rw [List.length_append, hvl]; rfl, ?_⟩, ?_, ?_⟩⟩⟩
          · rw [upd_ne n78.symm]
            exact gg9
          · have t5 : Tup (upd G2 q (.tup [.str x, .int z])) (upd (upd G2 q (.tup [.str x, .int z])) p7 (.lst (vs ++ [.ref q]))) := Tup.put gv2
            exact Paired.snoc (L2.Paired.mapP hpr fun a b z => Row2.seq (Tup.trans tt t5) z) ⟨q, rfl, t5 _ _ hq⟩
          · rw [List.map_append, hnm, names_succ hx]
            rfl
          · intro r hr
            rcases List.mem_append.mp hr with h | h
            · exact hbd r h
            · obtain rfl := List.mem_singleton.mp h
              exact ⟨z0, z1⟩
        · rintro σ Ha ⟨⟨v4, v9, rfl⟩, Ja, ba, a8, ss, Ra⟩
          refine ⟨_, rfl, j, 4, rfl, Ja, by decide, by decide, fun r4 Hb w0 w1 Jb bb => ⟨_, _, rfl, rfl, _, rfl, by omega, by omega, ?_⟩⟩
          have eLb := bb _ _ nl (ba _ _ nl eL6)
          have Sb : Rows2 Hb p7 ls 9 (1 + r3).toNat ss := Ra.but Ja bb m7
          have b8b := bb _ _ m8 a8
          have bHb : But j H6 Hb := But.trans ba bb
          clear Ra a8
          refine for_range (lo := 0) (fun n σ G => (∃ v4 v9 : Option V, σ = [some (.ref j), some (.int m), some (.ref pl), some (.int (1 + r)), v4, some (.ref D), some (.ref D2), some (.ref p7), some (.ref p8), v9]) ∧ JarAt G j ∧ But j H6 G ∧ Rows2 G p7 ls 9 (1 + r3).toNat ss ∧ ∃ ps, RowsP G p8 ls 12 n (1 + r3).toNat ps)
            ⟨⟨_, _, rfl⟩, Jb, bHb, Sb, [], ⟨⟨[], b8b, rfl, .nil⟩, rfl, fun r hr => nomatch hr⟩⟩ ?_ ?_
          · rintro n σ G hn ⟨⟨v4, v9, rfl⟩, JG, bG, SG, ps, ⟨vs, hv, hvl, hpr⟩, hnm, hbd⟩
            have nle : 12 + n < 18 := by omega
            obtain ⟨x, hx⟩ : ∃ x, ls[12 + n]? = some x := ⟨ls[12 + n]'(by omega), List.getElem?_eq_getElem (by omega)⟩
            have gL := bG _ _ nl eL6
            obtain ⟨⟨v7, h7, l7, _⟩, _⟩ := id SG
            refine ⟨_, rfl, .inl ⟨rfl, _, SqL.of hv⟩, _, rfl, _, rfl, _, _, rfl, rfl, pl, _, _, _, rfl, rfl, SqL.of gL, lab_at (by omega) hx, ?_⟩
            refine ⟨_, rfl, p7, rfl, ⟨_, SqL.of h7⟩, fun E9 hE => lc_list (K := K) (a := p7) (xs := v7) (fun i G2 => JarAt G2 j ∧ But j G G2 ∧ ∃ (ws : List V) (bs : List (Int × Int)), G2 E9 = some (.lst ws) ∧ ws.length = i ∧ Paired (Bnd G2) ws bs ∧ ∀ b ∈ bs, 0 ≤ b.1 ∧ b.1 ≤ b.2 ∧ b.2 ≤ 1000000000000)
              ⟨JG.new hE, But.refl.new hE, [], [], upd_same, rfl, .nil, fun b hb => nomatch hb⟩ (fun i G2 _ ⟨_, b2, _⟩ => SqL.of (b2 _ _ m7 h7)) ?_ ?_⟩
            · rintro i y G2 hy ⟨JG2, bG2, ws, bs, hw, hwl, hwp, hwb⟩
              have il : i < v7.length := (List.getElem?_eq_some_iff.mp hy).1
              have dE : E9 ≠ j := JG.ne hE
              refine ⟨rfl, ?_⟩
              refine ⟨_, rfl, j, rfl, JG2, fun p lo hi G3 l0 l1 l2 JG3 bG3 np mp e3 => ?_⟩
              have hw3 := bG3 _ _ dE hw
              refine ⟨ws, hw3, ?_, JG3.put dE, (But.trans bG2 bG3).put hE, ws ++ [.ref p], bs ++ [(lo, hi)], upd_same, by rw [List.length_append, hwl]; rfl, ?_, ?_⟩
              · rw [sizeLine_eq, hwl]
                omega
              · have t5 : Tup G3 (upd G3 E9 (.lst (ws ++ [.ref p]))) := Tup.put hw3
                exact Paired.snoc (L2.Paired.mapP hwp fun a b z => Bnd.seq (Tup.trans (Tup.of JG2 bG3) t5) z) ⟨p, rfl, t5 _ _ e3⟩
              · intro b hb
                rcases List.mem_append.mp hb with h | h
                · exact hwb b h
                · obtain rfl := List.mem_singleton.mp h
                  exact ⟨l0, l1, l2⟩
            · rintro G2 ⟨JG2, bG2, ws, bs, hw, hwl, hwp, hwb⟩
              refine ⟨E9, ws, rfl, .inl ⟨SqL.of hw, fun t nt => ?_⟩⟩
              refine ⟨big (Nat.le_of_ble_eq_true rfl), fun q nq => ?_⟩
              have f1 : (upd (upd G2 t (.tup ws)) q (.tup [.str x, .ref t])) q = some (.tup [.str x, .ref t]) := upd_same
              have f2 : (upd (upd G2 t (.tup ws)) q (.tup [.str x, .ref t])) t = some (.tup ws) := by
                rw [upd_ne (ne_of_none upd_same nq)]
                exact upd_same
              have T1 : Tup G2 (upd (upd G2 t (.tup ws)) q (.tup [.str x, .ref t])) := Tup.trans (Tup.new nt) (Tup.new nq)
              have B1 : But j G (upd (upd G2 t (.tup ws)) q (.tup [.str x, .ref t])) := (bG2.new nt).new nq
              have JX : JarAt (upd (upd G2 t (.tup ws)) q (.tup [.str x, .ref t])) j := (JG2.new nt).new nq
              generalize upd (upd G2 t (.tup ws)) q (.tup [.str x, .ref t]) = G4 at f1 f2 T1 B1 JX ⊢
              have hv4 := B1 _ _ m8 hv
              have t5 : Tup G4 (upd G4 p8 (.lst (vs ++ [.ref q]))) := Tup.put hv4
              have tG : Tup G (upd G4 p8 (.lst (vs ++ [.ref q]))) := Tup.trans (Tup.of JG B1) t5
              refine ⟨p8, _, _, rfl, rfl, hv4, by rw [sizeLine_eq, hvl]; omega, ⟨⟨_, _, rfl⟩, JX.put m8, (But.trans bG B1).put n86, ?_, ps ++ [(x, bs)], ⟨⟨vs ++ [.ref q], upd_same, by rw [List.length_append, hvl]; rfl, ?_⟩, ?_, ?_⟩⟩⟩
              · obtain ⟨⟨v7, h7, l7, p7r⟩, rest⟩ := SG
                exact ⟨⟨v7, by rw [upd_ne n78]; exact B1 _ _ m7 h7, l7, L2.Paired.mapP p7r fun a b z => Row2.seq tG z⟩, rest⟩
              · exact Paired.snoc (L2.Paired.mapP hpr fun a b z => RowP.seq tG z) ⟨q, t, ws, rfl, t5 _ _ f1, t5 _ _ f2, L2.Paired.mapP hwp fun a b z => Bnd.seq (Tup.trans T1 t5) z⟩
              · rw [List.map_append, hnm, names_succ hx]
                rfl
              · intro r hr
                rcases List.mem_append.mp hr with h | h
                · exact hbd r h
                · obtain rfl := List.mem_singleton.mp h
                  exact ⟨by rw [← Paired.len hwp, hwl, l7], hwb⟩
          · rintro σ Hc ⟨⟨v4, v9, rfl⟩, Jc, bc, Sc, ps, Pc⟩
            refine ⟨_, rfl, _, rfl, _, rfl, _, rfl, big (Nat.le_of_ble_eq_true rfl), fun p np => ?_⟩
            have mp := Jc.ne np
            have Mc := M6.but J6 bc dD
            have Cc := R6.but J6 bc dD2
            have bn : But j Hc (upd Hc p (.lst [.ref D, .ref D2, .ref p7, .ref p8])) := But.refl.new np
            obtain ⟨⟨va, ha, la, pa⟩, na, ba'⟩ := Mc.but Jc bn dD
            obtain ⟨⟨vb, hb, lb, pb⟩, nb, bb'⟩ := Cc.but Jc bn dD2
            obtain ⟨⟨vc, hc, lc, pc⟩, nc, bc'⟩ := Sc.but Jc bn m7
            obtain ⟨⟨vd, hd, ld, pd⟩, nd', bd'⟩ := Pc.but Jc bn m8
            have sub := four_nodup hls hnd (n1 := (1 + r).toNat) (n2 := r2.toNat) (n3 := (1 + r3).toNat) (n4 := (1 + r4).toNat) (by omega) (by omega) (by omega) (by omega)
            have xa := Paired.len pa
            have xb := Paired.len pb
            have xc := Paired.len pc
            have xd := Paired.len pd
            refine k p ⟨ms, cs, ss, ps⟩ _ ⟨D, D2, p7, p8, va, vb, vc, vd, upd_same, ha, pa, hb, pb, hc, pc, hd, pd⟩ ?_ (Jc.new np) ((But.trans bH6 bc).new np) ((But.trans bH6 bc).gone mp np) mp
            refine ⟨?_, ?_, ?_, ?_, ?_, ?_, ?_, ba', bb', bc', ?_, ?_, ?_⟩
            · show 1 ≤ ms.length
              omega
            · show ms.length ≤ 6
              omega
            · show cs.length ≤ 3
              omega
            · show 1 ≤ ss.length
              omega
            · show ss.length ≤ 2
              omega
            · show 1 ≤ ps.length
              omega
            · show ps.length ≤ 4
              omega
            · intro r hr
              obtain ⟨h1, h2⟩ := bd' r hr
              exact ⟨by show _ = ss.length; omega, h2⟩
            · show (ms.map (·.1) ++ (cs.map (·.1) ++ (ss.map (·.1) ++ ps.map (·.1)))).Nodup
              rw [na, nb, nc, nd', List.drop_zero]
              exact List.Sublist.nodup sub hnd
            · show ∀ x ∈ ms.map (·.1) ++ (cs.map (·.1) ++ (ss.map (·.1) ++ ps.map (·.1))), x ∈ menu
              rw [na, nb, nc, nd', List.drop_zero]
              exact fun x hx => hin x (sub.subset hx)
end
end LJ
set_option Elab.async false
set_option linter.all false
set_option maxRecDepth 100000
set_option maxHeartbeats 8000000
namespace LJ
open PySem PySem.Spec L2
abbrev sLine : Stmt := top 41
/-- a number's digits -/
def num (i : Int) : Str := Str.ofString (toString i)
theorem num_len {i : Int} (h0 : 0 ≤ i) (h1 : i ≤ 1000000000000) : (num i).length ≤ 14 := by
  unfold num
  rw [ofString_length]
  exact int_text_length_le10 (k := 13) (by decide) (by have : (10 : Nat) ^ 13 = 10000000000000 := by decide
                                                       omega)
theorem num_log {i : Int} (h0 : 0 ≤ i) (h1 : i ≤ 1000000000000) : i.natAbs.log2 < 1920 := by
  by_cases z : i.natAbs = 0
  · rw [z]
    decide
  · have l : i.natAbs < 2 ^ 40 := by
      have : (2 : Nat) ^ 40 = 1099511627776 := by decide
      omega
    have := (Nat.log2_lt z).mpr l
    omega
def bline (b : Int × Int) : Str := Str.empty ++ Str.ofString " " ++ num b.1 ++ Str.ofString "-" ++ num b.2
def pline (n : Str) (bs : List (Int × Int)) : Str := (Str.empty ++ Str.ofString "product " ++ n) ++ Txt.join (Str.ofString "") (bs.map bline)
def Small (b : Int × Int) : Prop := 0 ≤ b.1 ∧ b.1 ≤ b.2 ∧ b.2 ≤ 1000000000000
theorem bl_len {b : Int × Int} (h : Small b) : (bline b).length ≤ 30 := by
  obtain ⟨s1, s2, s3⟩ := h
  have l1 := num_len s1 (Int.le_trans s2 s3)
  have l2 := num_len (Int.le_trans s1 s2) s3
  unfold bline
  rw [Str.length_append, Str.length_append, Str.length_append, Str.length_append, show Str.empty.length = 0 from rfl, show (Str.ofString " ").length = 1 by decide +kernel, show (Str.ofString "-").length = 1 by decide +kernel]
  omega
theorem sum_most {α : Type} {f : α → Nat} {B : Nat} : ∀ {xs : List α}, (∀ x ∈ xs, f x ≤ B) → (xs.map f).sum ≤ xs.length * B
  | [], _ => Nat.zero_le _
  | x :: xs, h => by
    have h1 := h x (List.mem_cons_self ..)
    have h2 := sum_most (B := B) fun y hy => h y (List.mem_cons_of_mem _ hy)
    rw [List.map_cons, List.sum_cons, List.length_cons, Nat.add_mul]
    omega
theorem blines_sum {bs : List (Int × Int)} (h : ∀ r ∈ bs, Small r) : ((bs.map bline).map (·.length)).sum ≤ bs.length * 30 := by
  rw [List.map_map]
  exact sum_most fun x hx => bl_len (h x hx)
theorem join_len {sep : Str} {ys : List Str} : (Txt.join sep ys).length = (ys.map (·.length)).sum + (ys.length - 1) * sep.length := size_glued sep ys
theorem pline_len {n : Str} {bs : List (Int × Int)} (hn : n.length ≤ 8) (hb : bs.length ≤ 10) (h : ∀ r ∈ bs, Small r) : (pline n bs).length ≤ 316 := by
  have s1 := blines_sum h
  unfold pline
  rw [Str.length_append, Str.length_append, join_len, show (Str.ofString "").length = 0 from rfl, Nat.mul_zero, Str.length_append, show Str.empty.length = 0 from rfl, show (Str.ofString "product ").length = 8 by decide +kernel]
  omega
def spLine : Sp := fun vs H Q _ => ∃ (n : Str) (b : Addr) (ys : List V) (bs : List (Int × Int)), vs = [.str n, .ref b] ∧ n.length ≤ 8 ∧ H b = some (.tup ys) ∧ Paired (Bnd H) ys bs ∧ (∀ r ∈ bs, Small r) ∧ bs.length ≤ 10 ∧ ∀ H1, Ex H H1 → Q (.str (pline n bs)) H1
section
variable {P : Program} {w : World} {K : PySem.W.Frag} {mg : Str → Option Value} {base : Heap}
theorem scLine : FnScope ["name", "contents", "low", "high"] ["name", "contents"] (defScope sLine) := ⟨rfl, rfl, rfl, by decide +kernel, rfl, by decide +kernel, by decide +kernel⟩
theorem ok_line {f : Addr} {fd : FuncData} (F : Fun K "_product_line" "_product_line" sLine f fd) : FnOk P w K mg base CX0 1 f fd ["name", "contents"] spLine := by
  refine F.ok scLine (fun vs H Q E h => ?_) (fun cdv A outer s H vs Q E hr h => ?_)
  · obtain ⟨n, b, ys, bs, rfl, _⟩ := h
    rfl
  · obtain ⟨n, b, ys, bs, rfl, nl, hb, pb, sm, bl, q⟩ := h
    refine ⟨_, pss_one (ps_ret (pe_op op_add_str (pe_joined (.cons pe_str (.cons (pe_fmt (pv 0)) .nil)))
      (pe_join pe_str (pe_lc (own := [("low", 2), ("high", 3)]) (g := gTup K 2 (gCons (gName 2) (gCons (gName 3) gNil))) (by rfl) scLine.nd (pi_tup (pv 1)) (blkOk_by (own := [("low", 2), ("high", 3)]) (N := ["name", "contents", "low", "high"]) (sc := defScope sLine) (by decide +kernel))
        (fun _ _ _ _ _ => pg_tup (by rfl) (pgs_cons (pg_name (i := 2) scLine.nd rfl (Or.inl rfl)) (pgs_cons (pg_name (i := 3) scLine.nd rfl (Or.inl rfl)) pgs_nil))) (fun _ _ _ _ _ => pts_nil)
        (fun _ _ _ _ _ => pe_joined (.cons pe_str (.cons (pe_fmt (pv 2)) (.cons pe_str (.cons (pe_fmt (pv 3)) .nil)))))))))  , ?_⟩
    have yl : ys.length = bs.length := Paired.size pb
    have sz : sizeLine = 16777216 := sizeLine_eq
    have hl : (Str.empty ++ Str.ofString "product ").length = 8 := by decide +kernel
    have hl2 : (Str.empty ++ Str.ofString "product " ++ n).length ≤ 16 := by
      rw [Str.length_append, hl]
      omega
    refine ⟨_, rfl, by rw [hl, sz]; decide, _, rfl, .inl ⟨n, rfl, by omega, n, rfl, by omega, ?_⟩⟩
    refine ⟨⟨_, rfl⟩, _, rfl, b, rfl, ⟨ys, SqT.of hb⟩, fun D hD => lc_it (te := fun σ H Q => tJs [tC (.str (Str.ofString " ")), tFmt (tVar 2), tC (.str (Str.ofString "-")), tFmt (tVar 3)] Str.empty σ H fun out H1 => Q (.str out) H1) walk_tup (fun i H2 => Ex H H2 ∧ H2 D = some (.lst (((bs.take i).map bline).map V.str))) ⟨Ex.refl.new hD, upd_same⟩ (fun i H2 _ h => SqT.of (h.1 _ _ hb)) ?_ ?_⟩
    · rintro i v _ H2 hi ⟨x2, e2⟩ ⟨rfl, hv⟩
      obtain ⟨⟨lo, hi2⟩, hr, a, rfl, ha⟩ := Paired.spot pb hv
      obtain ⟨s1, s2, s3⟩ := sm _ (List.mem_of_getElem? hr)
      have s1 : 0 ≤ lo := s1
      have s2 : lo ≤ hi2 := s2
      have s3 : hi2 ≤ 1000000000000 := s3
      have l1 := num_len s1 (Int.le_trans s2 s3)
      have l2 := num_len (Int.le_trans s1 s2) s3
      have k1 : (Str.empty ++ Str.ofString " ").length = 1 := by decide +kernel
      have k2 : (Str.empty ++ Str.ofString " " ++ num lo).length ≤ 15 := by
        rw [Str.length_append, k1]
        omega
      have k3 : (Str.empty ++ Str.ofString " " ++ num lo ++ Str.ofString "-").length ≤ 16 := by
        rw [Str.length_append, show (Str.ofString "-").length = 1 by decide +kernel]
        omega
      have k4 : (bline (lo, hi2)).length ≤ 30 := by
        show (Str.empty ++ Str.ofString " " ++ num lo ++ Str.ofString "-" ++ num hi2).length ≤ 30
        rw [Str.length_append]
        omega
      refine ⟨_, _, rfl, SqT.of (x2 _ _ ha), rfl, _, _, rfl, _, _, rfl, rfl, rfl, ?_⟩
      refine ⟨_, rfl, by omega, _, rfl, .inr ⟨lo, rfl, num_log s1 (Int.le_trans s2 s3), num lo, rfl, by omega, _, rfl, by omega, _, rfl, .inr ⟨hi2, rfl, num_log (Int.le_trans s1 s2) s3, num hi2, rfl, ?_, ?_⟩⟩⟩
      · exact Nat.le_trans k4 (by omega)
      · refine ⟨_, e2, ?_, x2.put hD, ?_⟩
        · rw [List.length_map, List.length_map, List.length_take]
          omega
        · rw [upd_same, List.take_succ, hr, List.map_append, List.map_append]
          rfl
    · rintro H2 ⟨x2, e2⟩
      rw [List.take_of_length_le (by omega)] at e2
      refine ⟨_, D, bs.map bline, rfl, rfl, .inl (SqL.of e2), ?_, _, _, rfl, rfl, ?_, q H2 x2⟩
      · have s1 := blines_sum sm
        rw [show (Str.ofString "").length = 0 from rfl, Nat.mul_zero]
        omega
      · have l := pline_len nl bl sm
        unfold pline at l
        rw [Str.length_append] at l
        omega
end
end LJ
set_option Elab.async false
set_option linter.all false
set_option maxRecDepth 100000
set_option maxHeartbeats 8000000
namespace LJ
open PySem PySem.Spec L2
abbrev sText : Stmt := top 40
abbrev nText : List Str := ["machines", "cleanings", "stuffs", "products", "lines", "name", "low", "high", "most", "contents"]
abbrev sp1 : Str := Str.ofString " "
def line3 (pre : Str) (r : Str × Int × Int) : Str := Str.empty ++ pre ++ r.1 ++ sp1 ++ num r.2.1 ++ sp1 ++ num r.2.2
def line2 (pre : Str) (r : Str × Int) : Str := Str.empty ++ pre ++ r.1 ++ sp1 ++ num r.2
def Fit3 (r : Str × Int × Int) : Prop := r.1.length ≤ 8 ∧ 0 ≤ r.2.1 ∧ r.2.1 ≤ r.2.2 ∧ r.2.2 ≤ 1000000000000
def Fit2 (r : Str × Int) : Prop := r.1.length ≤ 8 ∧ 0 ≤ r.2 ∧ r.2 ≤ 1000000000000
theorem sp1_len : sp1.length = 1 := by decide +kernel
theorem empty_len : Str.empty.length = 0 := rfl
theorem rd3 {pre n : Str} {lo hi : Int} {σ : St} {H : Hp} {Q : Str → Hp → Prop} (h5 : σ[5]? = some (some (.str n))) (h6 : σ[6]? = some (some (.int lo))) (h7 : σ[7]? = some (some (.int hi))) (pl : pre.length ≤ 20) (f : Fit3 (n, lo, hi)) (q : (line3 pre (n, lo, hi)).length ≤ 80 → Q (line3 pre (n, lo, hi)) H) :
    tJs [tC (.str pre), tFmt (tVar 5), tC (.str sp1), tFmt (tVar 6), tC (.str sp1), tFmt (tVar 7)] Str.empty σ H Q := by
  obtain ⟨f1, f2, f3, f4⟩ := f
  have f1 : n.length ≤ 8 := f1
  have f2 : 0 ≤ lo := f2
  have f3 : lo ≤ hi := f3
  have f4 : hi ≤ 1000000000000 := f4
  have l1 := num_len f2 (Int.le_trans f3 f4)
  have l2 := num_len (Int.le_trans f2 f3) f4
  have sz := sizeLine_eq
  have k1 : (Str.empty ++ pre).length ≤ 20 := by
    rw [Str.length_append, empty_len]
    omega
  have k2 : (Str.empty ++ pre ++ n).length ≤ 28 := by
    rw [Str.length_append]
    omega
  have k3 : (Str.empty ++ pre ++ n ++ sp1).length ≤ 29 := by
    rw [Str.length_append, sp1_len]
    omega
  have k4 : (Str.empty ++ pre ++ n ++ sp1 ++ num lo).length ≤ 43 := by
    rw [Str.length_append]
    omega
  have k5 : (Str.empty ++ pre ++ n ++ sp1 ++ num lo ++ sp1).length ≤ 44 := by
    rw [Str.length_append, sp1_len]
    omega
  have k6 : (Str.empty ++ pre ++ n ++ sp1 ++ num lo ++ sp1 ++ num hi).length ≤ 58 := by
    rw [Str.length_append]
    omega
  have b : ∀ {m : Nat}, m ≤ 80 → m ≤ sizeLine := fun h => by omega
  exact ⟨_, rfl, b (by omega), _, h5, .inl ⟨n, rfl, b (by omega), n, rfl, b (by omega), _, rfl, b (by omega), _, h6, .inr ⟨lo, rfl, num_log f2 (Int.le_trans f3 f4), num lo, rfl, b (by omega), _, rfl, b (by omega), _, h7, .inr ⟨hi, rfl, num_log (Int.le_trans f2 f3) f4, num hi, rfl, b (Nat.le_trans k6 (by omega)), q (Nat.le_trans k6 (by omega))⟩⟩⟩⟩
theorem rd2 {pre n : Str} {m : Int} {σ : St} {H : Hp} {Q : Str → Hp → Prop} (h5 : σ[5]? = some (some (.str n))) (h8 : σ[8]? = some (some (.int m))) (pl : pre.length ≤ 20) (f : Fit2 (n, m)) (q : Q (line2 pre (n, m)) H) :
    tJs [tC (.str pre), tFmt (tVar 5), tC (.str sp1), tFmt (tVar 8)] Str.empty σ H Q := by
  obtain ⟨f1, f2, f4⟩ := f
  have f1 : n.length ≤ 8 := f1
  have f2 : 0 ≤ m := f2
  have f4 : m ≤ 1000000000000 := f4
  have l1 := num_len f2 f4
  have sz := sizeLine_eq
  have k1 : (Str.empty ++ pre).length ≤ 20 := by
    rw [Str.length_append, empty_len]
    omega
  have k2 : (Str.empty ++ pre ++ n).length ≤ 28 := by
    rw [Str.length_append]
    omega
  have k3 : (Str.empty ++ pre ++ n ++ sp1).length ≤ 29 := by
    rw [Str.length_append, sp1_len]
    omega
  have k4 : (Str.empty ++ pre ++ n ++ sp1 ++ num m).length ≤ 43 := by
    rw [Str.length_append]
    omega
  have b : ∀ {m : Nat}, m ≤ 80 → m ≤ sizeLine := fun h => by omega
  exact ⟨_, rfl, b (by omega), _, h5, .inl ⟨n, rfl, b (by omega), n, rfl, b (by omega), _, rfl, b (by omega), _, h8, .inr ⟨m, rfl, num_log f2 f4, num m, rfl, b (Nat.le_trans k4 (by omega)), q⟩⟩⟩
theorem line3_len {pre : Str} {r : Str × Int × Int} (pl : pre.length ≤ 20) (f : Fit3 r) : (line3 pre r).length ≤ 400 := by
  obtain ⟨f1, f2, f3, f4⟩ := f
  have l1 := num_len f2 (Int.le_trans f3 f4)
  have l2 := num_len (Int.le_trans f2 f3) f4
  unfold line3
  rw [Str.length_append, Str.length_append, Str.length_append, Str.length_append, Str.length_append, Str.length_append, empty_len, sp1_len]
  omega
theorem line2_len {pre : Str} {r : Str × Int} (pl : pre.length ≤ 20) (f : Fit2 r) : (line2 pre r).length ≤ 400 := by
  obtain ⟨f1, f2, f4⟩ := f
  have l1 := num_len f2 f4
  unfold line2
  rw [Str.length_append, Str.length_append, Str.length_append, Str.length_append, empty_len, sp1_len]
  omega
def wlines (W : Wd) : List Str := W.ms.map (line3 (Str.ofString "machine ")) ++ W.cs.map (line3 (Str.ofString "cleaning ")) ++ W.ss.map (line2 (Str.ofString "stuff ")) ++ W.ps.map fun p => pline p.1 p.2
def wtext (W : Wd) : Str := Txt.join (Str.ofString "\n") (wlines W)
/-- works small enough to be told in a text -/
structure Told (W : Wd) : Prop where
  lm : W.ms.length ≤ 10
  lc : W.cs.length ≤ 10
  ls : W.ss.length ≤ 10
  lp : W.ps.length ≤ 10
  fm : ∀ r ∈ W.ms, Fit3 r
  fc : ∀ r ∈ W.cs, Fit3 r
  fs : ∀ r ∈ W.ss, Fit2 r
  fp : ∀ r ∈ W.ps, r.1.length ≤ 8 ∧ r.2.length ≤ 10 ∧ ∀ b ∈ r.2, Small b
def spText : Sp := fun vs H Q _ => ∃ (am ac as ap : Addr) (vm vc vs2 vp : List V) (W : Wd), vs = [.ref am, .ref ac, .ref as, .ref ap] ∧ H am = some (.tup vm) ∧ H ac = some (.tup vc) ∧ H as = some (.tup vs2) ∧ H ap = some (.tup vp) ∧
  Paired (Row3 H) vm W.ms ∧ Paired (Row3 H) vc W.cs ∧ Paired (Row2 H) vs2 W.ss ∧ Paired (RowP H) vp W.ps ∧ Told W ∧ ∀ H1, Ex H H1 → Q (.str (wtext W)) H1
section
variable {P : Program} {w : World} {K : PySem.W.Frag} {mg : Str → Option Value} {base : Heap}
theorem scText : FnScope nText ["machines", "cleanings", "stuffs", "products"] (defScope sText) := ⟨rfl, rfl, rfl, by decide +kernel, rfl, by decide +kernel, by decide +kernel⟩
theorem ok_text {f fP : Addr} {fd fdP : FuncData} (F : Fun K "_text_of" "_text_of" sText f fd) (GP : FnOk P w K mg base CX0 1 fP fdP ["name", "contents"] spLine) (mP : mg "_product_line" = some (.ref fP)) (kP : PySem.W.keepIn K (.ref fP) = true) (bP : Binds K fdP ["name", "contents"] []) :
    FnOk P w K mg base CX0 2 f fd ["machines", "cleanings", "stuffs", "products"] spText := by
  refine F.ok scText (fun vs H Q E h => ?_) (fun cdv A outer s H vs Q E hr h => ?_)
  · obtain ⟨am, ac, as, ap, vm, vc, vs2, vp, W, rfl, _⟩ := h
    rfl
  · obtain ⟨am, ac, as, ap, vm, vc, vs2, vp, W, rfl, hm, hc, hs, hp, pm, pc, ps, pp, T, q⟩ := h
    refine ⟨_, pss_cons (ps_setLc (i := 4) (own := [("name", 5), ("low", 6), ("high", 7)]) (g := gTup K 3 (gCons (gName 5) (gCons (gName 6) (gCons (gName 7) gNil)))) (by rfl) scText.nd rfl rfl (sw_true rfl rfl rfl (by decide +kernel)) (pi_tup (pv 0)) (blkOk_by (own := [("name", 5), ("low", 6), ("high", 7)]) (N := nText) (sc := defScope sText) (by decide +kernel))
        (fun _ _ _ _ _ => pg_tup (by rfl) (pgs_cons (pg_name (i := 5) scText.nd rfl (Or.inl rfl)) (pgs_cons (pg_name (i := 6) scText.nd rfl (Or.inl rfl)) (pgs_cons (pg_name (i := 7) scText.nd rfl (Or.inl rfl)) pgs_nil)))) (fun _ _ _ _ _ => pts_nil)
        (fun _ _ _ _ _ => pe_joined (.cons pe_str (.cons (pe_fmt (pv 5)) (.cons pe_str (.cons (pe_fmt (pv 6)) (.cons pe_str (.cons (pe_fmt (pv 7)) .nil))))))))
      (pss_cons (ps_expr (pe_bm PySem.F.plainAttrs_list PySem.F.slot_list_extend PySem.F.type_list_extend mt_extend (pv 4) (pa_cons (pe_lc (own := [("name", 5), ("low", 6), ("high", 7)]) (g := gTup K 3 (gCons (gName 5) (gCons (gName 6) (gCons (gName 7) gNil)))) (by rfl) scText.nd (pi_tup (pv 1)) (blkOk_by (own := [("name", 5), ("low", 6), ("high", 7)]) (N := nText) (sc := defScope sText) (by decide +kernel))
        (fun _ _ _ _ _ => pg_tup (by rfl) (pgs_cons (pg_name (i := 5) scText.nd rfl (Or.inl rfl)) (pgs_cons (pg_name (i := 6) scText.nd rfl (Or.inl rfl)) (pgs_cons (pg_name (i := 7) scText.nd rfl (Or.inl rfl)) pgs_nil)))) (fun _ _ _ _ _ => pts_nil)
        (fun _ _ _ _ _ => pe_joined (.cons pe_str (.cons (pe_fmt (pv 5)) (.cons pe_str (.cons (pe_fmt (pv 6)) (.cons pe_str (.cons (pe_fmt (pv 7)) .nil)))))))) pa_nil)))
      (pss_cons (ps_expr (pe_bm PySem.F.plainAttrs_list PySem.F.slot_list_extend PySem.F.type_list_extend mt_extend (pv 4) (pa_cons (pe_lc (own := [("name", 5), ("most", 8)]) (g := gTup K 2 (gCons (gName 5) (gCons (gName 8) gNil))) (by rfl) scText.nd (pi_tup (pv 2)) (blkOk_by (own := [("name", 5), ("most", 8)]) (N := nText) (sc := defScope sText) (by decide +kernel))
        (fun _ _ _ _ _ => pg_tup (by rfl) (pgs_cons (pg_name (i := 5) scText.nd rfl (Or.inl rfl)) (pgs_cons (pg_name (i := 8) scText.nd rfl (Or.inl rfl)) pgs_nil))) (fun _ _ _ _ _ => pts_nil)
        (fun _ _ _ _ _ => pe_joined (.cons pe_str (.cons (pe_fmt (pv 5)) (.cons pe_str (.cons (pe_fmt (pv 8)) .nil)))))) pa_nil)))
      (pss_cons (ps_expr (pe_bm PySem.F.plainAttrs_list PySem.F.slot_list_extend PySem.F.type_list_extend mt_extend (pv 4) (pa_cons (pe_lc (own := [("name", 5), ("contents", 9)]) (g := gTup K 2 (gCons (gName 5) (gCons (gName 9) gNil))) (by rfl) scText.nd (pi_tup (pv 3)) (blkOk_by (own := [("name", 5), ("contents", 9)]) (N := nText) (sc := defScope sText) (by decide +kernel))
        (fun _ _ _ _ _ => pg_tup (by rfl) (pgs_cons (pg_name (i := 5) scText.nd rfl (Or.inl rfl)) (pgs_cons (pg_name (i := 9) scText.nd rfl (Or.inl rfl)) pgs_nil))) (fun _ _ _ _ _ => pts_nil)
        (fun _ _ _ _ _ => pe_call GP hr (by rfl) mP kP bP .nil pass0 (pa_cons (pv 5) (pa_cons (pv 9) pa_nil)))) pa_nil)))
      (pss_one (ps_ret (pe_join pe_str (pv 4))))))), ?_⟩
    have sz := sizeLine_eq
    obtain ⟨t1, t2, t3, t4, f1, f2, f3, f4⟩ := T
    have n1 : vm.length = W.ms.length := Paired.size pm
    have n2 : vc.length = W.cs.length := Paired.size pc
    have n3 : vs2.length = W.ss.length := Paired.size ps
    have n4 : vp.length = W.ps.length := Paired.size pp
    refine ⟨_, rfl, am, rfl, ⟨vm, SqT.of hm⟩, fun D hD => lc_it (te := fun σ H Q => tJs [tC (.str (Str.ofString "machine ")), tFmt (tVar 5), tC (.str sp1), tFmt (tVar 6), tC (.str sp1), tFmt (tVar 7)] Str.empty σ H fun out H1 => Q (.str out) H1) walk_tup (fun i G => Ex H G ∧ G D = some (.lst (((W.ms.take i).map (line3 (Str.ofString "machine "))).map V.str))) ⟨Ex.refl.new hD, upd_same⟩ (fun i G _ h => SqT.of (h.1 _ _ hm)) ?_ ?_⟩
    · rintro i v _ G hi ⟨xG, eG⟩ ⟨rfl, hv⟩
      obtain ⟨⟨n, lo, up⟩, hr, a, rfl, ha⟩ := Paired.spot pm hv
      have f := f1 _ (List.mem_of_getElem? hr)
      have e : G a = some (.tup [.str n, .int lo, .int up]) := xG _ _ (Ex.refl _ _ ha)
      refine ⟨a, _, rfl, SqT.of e, rfl, _, _, rfl, _, _, rfl, _, _, rfl, rfl, rfl, ?_⟩
      refine rd3 rfl rfl rfl (by decide +kernel) f fun _ => ⟨_, eG, ?_, xG.put hD, ?_⟩
      · rw [List.length_map, List.length_map, List.length_take]
        omega
      · rw [upd_same, List.take_succ, hr, List.map_append, List.map_append]
        rfl
    rintro H1 ⟨x1, e1⟩
    rw [List.take_of_length_le (by omega)] at e1
    generalize hls1 : W.ms.map (line3 (Str.ofString "machine ")) = ls1 at e1
    have k1 : ls1.length ≤ 10 := by
      rw [← hls1, List.length_map]
      exact t1
    have nD := hD
    clear hD
    refine ⟨_, rfl, .inl ⟨rfl, _, SqL.of e1⟩, _, rfl, ac, rfl, ⟨vc, SqT.of (x1 _ _ hc)⟩, fun D2 hD => lc_it (te := fun σ H Q => tJs [tC (.str (Str.ofString "cleaning ")), tFmt (tVar 5), tC (.str sp1), tFmt (tVar 6), tC (.str sp1), tFmt (tVar 7)] Str.empty σ H fun out H1 => Q (.str out) H1) walk_tup (fun i G => Ex H1 G ∧ G D2 = some (.lst (((W.cs.take i).map (line3 (Str.ofString "cleaning "))).map V.str))) ⟨Ex.refl.new hD, upd_same⟩ (fun i G _ h => SqT.of (h.1 _ _ (x1 _ _ hc))) ?_ ?_⟩
    · rintro i v _ G hi ⟨xG, eG⟩ ⟨rfl, hv⟩
      obtain ⟨⟨n, lo, up⟩, hr, a, rfl, ha⟩ := Paired.spot pc hv
      have f := f2 _ (List.mem_of_getElem? hr)
      have e : G a = some (.tup [.str n, .int lo, .int up]) := xG _ _ (x1 _ _ ha)
      refine ⟨a, _, rfl, SqT.of e, rfl, _, _, rfl, _, _, rfl, _, _, rfl, rfl, rfl, ?_⟩
      refine rd3 rfl rfl rfl (by decide +kernel) f fun _ => ⟨_, eG, ?_, xG.put hD, ?_⟩
      · rw [List.length_map, List.length_map, List.length_take]
        omega
      · rw [upd_same, List.take_succ, hr, List.map_append, List.map_append]
        rfl
    rintro H2 ⟨x2, e2⟩
    rw [List.take_of_length_le (by omega)] at e2
    generalize hls2 : W.cs.map (line3 (Str.ofString "cleaning ")) = ls2 at e2
    have k2 : ls2.length ≤ 10 := by
      rw [← hls2, List.length_map]
      exact t2
    refine ⟨D, D2, _, _, rfl, rfl, x2 _ _ e1, e2, by rw [List.length_map, List.length_map]; omega, ?_⟩
    rw [← List.map_append]
    have x3 : Ex H (upd H2 D (.lst ((ls1 ++ ls2).map V.str))) := (x1.trans x2).put nD
    have e3 : (upd H2 D (.lst ((ls1 ++ ls2).map V.str))) D = some (.lst ((ls1 ++ ls2).map V.str)) := upd_same
    clear hD e2
    generalize upd H2 D (.lst ((ls1 ++ ls2).map V.str)) = H3 at x3 e3 ⊢
    refine ⟨_, rfl, .inl ⟨rfl, _, SqL.of e3⟩, _, rfl, as, rfl, ⟨vs2, SqT.of (x3 _ _ hs)⟩, fun D3 hD => lc_it (te := fun σ H Q => tJs [tC (.str (Str.ofString "stuff ")), tFmt (tVar 5), tC (.str sp1), tFmt (tVar 8)] Str.empty σ H fun out H1 => Q (.str out) H1) walk_tup (fun i G => Ex H3 G ∧ G D3 = some (.lst (((W.ss.take i).map (line2 (Str.ofString "stuff "))).map V.str))) ⟨Ex.refl.new hD, upd_same⟩ (fun i G _ h => SqT.of (h.1 _ _ (x3 _ _ hs))) ?_ ?_⟩
    · rintro i v _ G hi ⟨xG, eG⟩ ⟨rfl, hv⟩
      obtain ⟨⟨n, m⟩, hr, a, rfl, ha⟩ := Paired.spot ps hv
      have f := f3 _ (List.mem_of_getElem? hr)
      have e : G a = some (.tup [.str n, .int m]) := xG _ _ (x3 _ _ ha)
      refine ⟨a, _, rfl, SqT.of e, rfl, _, _, rfl, _, _, rfl, rfl, rfl, ?_⟩
      refine rd2 rfl rfl (by decide +kernel) f ⟨_, eG, ?_, xG.put hD, ?_⟩
      · rw [List.length_map, List.length_map, List.length_take]
        omega
      · rw [upd_same, List.take_succ, hr, List.map_append, List.map_append]
        rfl
    rintro H4 ⟨x4, e4⟩
    rw [List.take_of_length_le (by omega)] at e4
    generalize hls3 : W.ss.map (line2 (Str.ofString "stuff ")) = ls3 at e4
    have k3 : ls3.length ≤ 10 := by
      rw [← hls3, List.length_map]
      exact t3
    refine ⟨D, D3, _, _, rfl, rfl, x4 _ _ e3, e4, by rw [List.length_map, List.length_map, List.length_append]; omega, ?_⟩
    rw [← List.map_append]
    have x5 : Ex H (upd H4 D (.lst ((ls1 ++ ls2 ++ ls3).map V.str))) := (x3.trans x4).put nD
    have e5 : (upd H4 D (.lst ((ls1 ++ ls2 ++ ls3).map V.str))) D = some (.lst ((ls1 ++ ls2 ++ ls3).map V.str)) := upd_same
    clear hD e4
    generalize upd H4 D (.lst ((ls1 ++ ls2 ++ ls3).map V.str)) = H5 at x5 e5 ⊢
    refine ⟨_, rfl, .inl ⟨rfl, _, SqL.of e5⟩, _, rfl, ap, rfl, ⟨vp, SqT.of (x5 _ _ hp)⟩, fun D4 hD => lc_it walk_tup (fun i G => Ex H5 G ∧ G D4 = some (.lst (((W.ps.take i).map fun p => pline p.1 p.2).map V.str))) ⟨Ex.refl.new hD, upd_same⟩ (fun i G _ h => SqT.of (h.1 _ _ (x5 _ _ hp))) ?_ ?_⟩
    · rintro i v _ G hi ⟨xG, eG⟩ ⟨rfl, hv⟩
      obtain ⟨⟨n, bs⟩, hr, a, t, vb, rfl, ha, ht, pb⟩ := Paired.spot pp hv
      obtain ⟨g1, g2, g3⟩ := f4 _ (List.mem_of_getElem? hr)
      have xx := x5.trans xG
      refine ⟨a, _, rfl, SqT.of (xx _ _ ha), rfl, _, _, rfl, _, _, rfl, rfl, rfl, ?_⟩
      refine ⟨_, rfl, _, rfl, n, t, vb, bs, rfl, g1, xx _ _ ht, L2.Paired.mapP pb fun x y z => Bnd.seq (fun b xs e => xx b _ e) z, g3, g2, fun G2 xG2 => ⟨_, xG2 _ _ eG, ?_, (xG.trans xG2).put hD, ?_⟩⟩
      · rw [List.length_map, List.length_map, List.length_take]
        omega
      · rw [upd_same, List.take_succ, hr, List.map_append, List.map_append]
        rfl
    rintro H6 ⟨x6, e6⟩
    rw [List.take_of_length_le (by omega)] at e6
    refine ⟨D, D4, _, _, rfl, rfl, x6 _ _ e5, e6, by rw [List.length_map, List.length_map, List.length_map, List.length_append, List.length_append]; omega, ?_⟩
    rw [← List.map_append]
    have x7 : Ex H (upd H6 D (.lst ((ls1 ++ ls2 ++ ls3 ++ W.ps.map fun p => pline p.1 p.2).map V.str))) := (x5.trans x6).put nD
    refine ⟨⟨_, rfl⟩, _, rfl, _, D, ls1 ++ ls2 ++ ls3 ++ W.ps.map fun p => pline p.1 p.2, rfl, rfl, .inl (SqL.of upd_same), ?_, ?_⟩
    · have most : ∀ x ∈ ls1 ++ ls2 ++ ls3 ++ W.ps.map fun p => pline p.1 p.2, x.length ≤ 400 := fun x hx => by
        rcases List.mem_append.mp hx with h | h
        · rcases List.mem_append.mp h with h | h
          · rcases List.mem_append.mp h with h | h
            · rw [← hls1] at h
              obtain ⟨r, hr, rfl⟩ := List.mem_map.mp h
              exact line3_len (by decide +kernel) (f1 r hr)
            · rw [← hls2] at h
              obtain ⟨r, hr, rfl⟩ := List.mem_map.mp h
              exact line3_len (by decide +kernel) (f2 r hr)
          · rw [← hls3] at h
            obtain ⟨r, hr, rfl⟩ := List.mem_map.mp h
            exact line2_len (by decide +kernel) (f3 r hr)
        · obtain ⟨r, hr, rfl⟩ := List.mem_map.mp h
          obtain ⟨g1, g2, g3⟩ := f4 r hr
          exact Nat.le_trans (pline_len g1 g2 g3) (by decide)
      have sm := sum_most (f := fun x : Str => x.length) most
      have ll : (ls1 ++ ls2 ++ ls3 ++ W.ps.map fun p => pline p.1 p.2).length ≤ 40 := by
        rw [List.length_append, List.length_append, List.length_append, List.length_map]
        omega
      rw [show (Str.ofString "\n").length = 1 by decide +kernel]
      have sm : ((ls1 ++ ls2 ++ ls3 ++ W.ps.map fun p => pline p.1 p.2).map fun x => x.length).sum ≤ (ls1 ++ ls2 ++ ls3 ++ W.ps.map fun p => pline p.1 p.2).length * 400 := sm
      omega
    · have z := q _ x7
      unfold wtext wlines at z
      rw [hls1, hls2, hls3] at z
      exact z
end
end LJ
set_option Elab.async false
set_option linter.all false
set_option maxRecDepth 100000
set_option maxHeartbeats 8000000
namespace LJ
open PySem PySem.Spec L2
open LamX (ExtN TabB)
open NdefX (NTab TabsN)
def clsBody : Stmt → List Stmt
  | .ClassDef (body := b) .. => b
  | _ => []
def meth (i : Nat) : Stmt := (clsBody (top 30)).getD i (.Pass ⟨0, 0, 0, 0⟩)
abbrev sInit : Stmt := meth 0
abbrev nInit : List Str := ["self", "machines", "cleanings", "stuffs", "products", "name", "low", "high", "most", "contents"]
abbrev pInit : List Str := ["self", "machines", "cleanings", "stuffs", "products"]
/-- Works' own class -/
structure WCls (K : PySem.W.Frag) (C : Addr) : Prop where
  cl : Cls K C
  n1 : NoAttr K C "_machines"
  n2 : NoAttr K C "_cleanings"
  n3 : NoAttr K C "_stuffs"
  n4 : NoAttr K C "_products"
  n5 : NoAttr K C "_holds"
  n6 : NoAttr K C "_keeps"
  n7 : NoAttr K C "_limits"
  n8 : NoAttr K C "_contents"
  n9 : NoAttr K C "_text"
section
variable {P : Program} {w : World} {K : PySem.W.Frag} {mg : Str → Option Value} {base : Heap}
theorem scInit : FnScope nInit pInit (defScope sInit) := ⟨rfl, rfl, rfl, by decide +kernel, rfl, by decide +kernel, by decide +kernel⟩
/-- one name more -/
theorem under_snoc {ns : List Str} {vals : List V} {i : Nat} {n : Str} {v : V} (h : ns[i]? = some n) (l : vals.length = i) : under (ns.take (i + 1)) (vals ++ [v]) = under (ns.take i) vals ++ [(.inr n, v)] := by
  have li : i < ns.length := (List.getElem?_eq_some_iff.mp h).1
  unfold under
  rw [List.take_succ, h]
  show ((ns.take i ++ [n]).zip (vals ++ [v])).map _ = _
  rw [List.zip_append (by rw [List.length_take, l]; omega), List.map_append]
  rfl
/-- what a made object of Works holds -/
def WorksAt (C : Addr) (H : Hp) (x am ac as ap : Addr) (W : Wd) : Prop := ∃ (dx D1 D2 D3 D4 : Addr) (b1 b2 v4 : List V),
  H x = some (.ins C dx [("_machines", .ref am), ("_cleanings", .ref ac), ("_stuffs", .ref as), ("_products", .ref ap), ("_holds", .ref D1), ("_keeps", .ref D2), ("_limits", .ref D3), ("_contents", .ref D4), ("_text", .str (wtext W))]) ∧
  (H D1 = some (.dK (dictOf (W.ms.map (·.1)) b1)) ∧ Paired (Bnd H) b1 (W.ms.map (·.2))) ∧ (H D2 = some (.dK (dictOf (W.cs.map (·.1)) b2)) ∧ Paired (Bnd H) b2 (W.cs.map (·.2))) ∧ H D3 = some (.dK (dictOf (W.ss.map (·.1)) (W.ss.map fun r => .int r.2))) ∧
  H D4 = some (.dK (dictOf (W.ps.map (·.1)) v4)) ∧ Paired (fun v p => ∃ (Dp : Addr) (ys : List V), v = .ref Dp ∧ H Dp = some (.dK (dictOf (W.ss.map (·.1)) ys)) ∧ Paired (Bnd H) ys p.2) v4 W.ps
def spInit (K : PySem.W.Frag) (C : Addr) (T : List NTab) : Sp := fun vs H Q _ => ∃ (x dx am ac as ap : Addr) (vm vc vs2 vp : List V) (W : Wd), vs = [.ref x, .ref am, .ref ac, .ref as, .ref ap] ∧ H x = some (.ins C dx []) ∧ Fit K H am ac as ap vm vc vs2 vp ∧
  Paired (Row3 H) vm W.ms ∧ Paired (Row3 H) vc W.cs ∧ Paired (Row2 H) vs2 W.ss ∧ Paired (RowP H) vp W.ps ∧ Told W ∧ (∀ p ∈ W.ps, p.2.length = W.ss.length) ∧ TabsN T H ∧
  ∀ H1, (∀ b o, b ≠ x → H b = some o → (∀ ps, o ≠ .tbl ps) → H1 b = some o) → TabsN T H1 → WorksAt C H1 x am ac as ap W → Q .non H1
/-- all but the instance at x stays: so do tuples and tables -/
theorem But.tup {x C dx : Addr} {fs : List (Str × V)} {H H1 : Hp} (hx : H x = some (.ins C dx fs)) (b : But x H H1) : Tup H H1 := fun a xs e => b a _ (ne_of e hx fun z => nomatch z) e
theorem TabsN.but {T : List NTab} {x C dx : Addr} {fs : List (Str × V)} {H H1 : Hp} (hx : H x = some (.ins C dx fs)) (b : But x H H1) (t : TabsN T H) : TabsN T H1 := fun r hr => by
  obtain ⟨ps, h1, h2, h3⟩ := t r hr
  refine ⟨ps, b _ _ (ne_of h1 hx fun z => nomatch z) h1, h2, fun pos v hv => ?_⟩
  obtain ⟨c, e1, e2⟩ := h3 pos v hv
  exact ⟨c, e1, b _ _ (ne_of e2 hx fun z => nomatch (show HO.ext _ = HO.ins _ _ _ from z)) e2⟩
theorem But.ex {x : Addr} {H H1 : Hp} (e : Ex H H1) : But x H H1 := fun b o _ h => e b o h
theorem But.self {x : Addr} {H : Hp} {o : HO} : But x H (upd H x o) := fun b u n e => by
  rw [upd_ne n]
  exact e
theorem Ex.tup {H H1 : Hp} (e : Ex H H1) : Tup H H1 := fun a xs h => e a _ h
theorem rows3 {H H1 : Hp} (t : Tup H H1) {vs : List V} {rs : List (Str × Int × Int)} (p : Paired (Row3 H) vs rs) : Paired (Row3 H1) vs rs := L2.Paired.mapP p fun _ _ z => Row3.seq t z
theorem rows2 {H H1 : Hp} (t : Tup H H1) {vs : List V} {rs : List (Str × Int)} (p : Paired (Row2 H) vs rs) : Paired (Row2 H1) vs rs := L2.Paired.mapP p fun _ _ z => Row2.seq t z
theorem rowsP {H H1 : Hp} (t : Tup H H1) {vs : List V} {rs : List (Str × List (Int × Int))} (p : Paired (RowP H) vs rs) : Paired (RowP H1) vs rs := L2.Paired.mapP p fun _ _ z => RowP.seq t z
theorem bnds {H H1 : Hp} (t : Tup H H1) {vs : List V} {rs : List (Int × Int)} (p : Paired (Bnd H) vs rs) : Paired (Bnd H1) vs rs := L2.Paired.mapP p fun _ _ z => Bnd.seq t z
theorem paired_map {α β γ : Type} {F : α → γ → Prop} {g : β → γ} : ∀ {xs : List α} {ys : List β}, Paired (fun x y => F x (g y)) xs ys → Paired F xs (ys.map g)
  | _, _, .nil => .nil
  | _, _, .cons h t => .cons h (paired_map t)
/-- the contents of one product, by stuff; not the dict at D4 -/
def CBn (W : Wd) (D4 : Addr) (H : Hp) (v : V) (p : Str × List (Int × Int)) : Prop := ∃ (Dp : Addr) (ys : List V), v = .ref Dp ∧ Dp ≠ D4 ∧ H Dp = some (.dK (dictOf (W.ss.map (·.1)) ys)) ∧ Paired (Bnd H) ys p.2
theorem CBn.but {W : Wd} {D4 x C dx : Addr} {fs : List (Str × V)} {H H1 : Hp} {v : V} {p : Str × List (Int × Int)} (hx : H x = some (.ins C dx fs)) (b : But x H H1) (h : CBn W D4 H v p) : CBn W D4 H1 v p := by
  obtain ⟨D0, ys, e1, e2, e3, e4⟩ := h
  exact ⟨D0, ys, e1, e2, b _ _ (ne_of e3 hx fun z => nomatch z) e3, bnds (But.tup hx b) e4⟩
theorem ok_init {f fC fB fT C : Addr} {fd fdC fdB fdT : FuncData} {T : List NTab} (F : Fun K "__init__" "Works.__init__" sInit f fd) (c : WCls K C)
    (GC : FnOk P w K mg base CX0 6 fC fdC pCheck (spCheck K T)) (mC : mg "_check" = some (.ref fC)) (kC : PySem.W.keepIn K (.ref fC) = true) (bC : Binds K fdC pCheck [])
    (GB : FnOk P w K mg base CX0 1 fB fdB ["stuffs", "contents"] spBy) (mB : mg "_by_stuff" = some (.ref fB)) (kB : PySem.W.keepIn K (.ref fB) = true) (bB : Binds K fdB ["stuffs", "contents"] [])
    (GT : FnOk P w K mg base CX0 2 fT fdT ["machines", "cleanings", "stuffs", "products"] spText) (mT : mg "_text_of" = some (.ref fT)) (kT : PySem.W.keepIn K (.ref fT) = true) (bT : Binds K fdT ["machines", "cleanings", "stuffs", "products"] []) :
    FnOk P w K mg base CX0 7 f fd pInit (spInit K C T) := by
  refine F.ok scInit (fun vs H Q E h => ?_) (fun cdv A outer s H vs Q E hr h => ?_)
  · obtain ⟨x, dx, am, ac, as, ap, vm, vc, vs2, vp, W, rfl, _⟩ := h
    rfl
  · obtain ⟨x, dx, am, ac, as, ap, vm, vc, vs2, vp, W, rfl, hx, fit, pm, pc, ps, pp, T1, same, tabs, q⟩ := h
    have hr1 : Room 1 _ := hr.mono (by decide)
    have hr2 : Room 2 _ := hr.mono (by decide)
    refine ⟨_, pss_cons (ps_expr (pe_call GC hr (by rfl) mC kC bC .nil pass0 (pa_cons (pv 1) (pa_cons (pv 2) (pa_cons (pv 3) (pa_cons (pv 4) pa_nil))))))
      (pss_cons (ps_fld (pv 0) (pv 1) rfl)
      (pss_cons (ps_fld (pv 0) (pv 2) rfl)
      (pss_cons (ps_fld (pv 0) (pv 3) rfl)
      (pss_cons (ps_fld (pv 0) (pv 4) rfl)
      (pss_cons (ps_fld (pv 0) (pe_dc (own := [("name", 5), ("low", 6), ("high", 7)]) (g := gTup K 3 (gCons (gName 5) (gCons (gName 6) (gCons (gName 7) gNil)))) (by rfl) scInit.nd (pi_tup (pv 1)) (blkOk_by (own := [("name", 5), ("low", 6), ("high", 7)]) (N := nInit) (sc := defScope sInit) (by decide +kernel))
          (fun _ _ _ _ _ => pg_tup (by rfl) (pgs_cons (pg_name (i := 5) scInit.nd rfl (Or.inl rfl)) (pgs_cons (pg_name (i := 6) scInit.nd rfl (Or.inl rfl)) (pgs_cons (pg_name (i := 7) scInit.nd rfl (Or.inl rfl)) pgs_nil)))) (fun _ _ _ _ _ => pts_nil)
          (fun _ _ _ _ _ => pv 5) (fun _ _ _ _ _ => pe_tup (pa_cons (pv 6) (pa_cons (pv 7) pa_nil)))) rfl)
      (pss_cons (ps_fld (pv 0) (pe_dc (own := [("name", 5), ("low", 6), ("high", 7)]) (g := gTup K 3 (gCons (gName 5) (gCons (gName 6) (gCons (gName 7) gNil)))) (by rfl) scInit.nd (pi_tup (pv 2)) (blkOk_by (own := [("name", 5), ("low", 6), ("high", 7)]) (N := nInit) (sc := defScope sInit) (by decide +kernel))
          (fun _ _ _ _ _ => pg_tup (by rfl) (pgs_cons (pg_name (i := 5) scInit.nd rfl (Or.inl rfl)) (pgs_cons (pg_name (i := 6) scInit.nd rfl (Or.inl rfl)) (pgs_cons (pg_name (i := 7) scInit.nd rfl (Or.inl rfl)) pgs_nil)))) (fun _ _ _ _ _ => pts_nil)
          (fun _ _ _ _ _ => pv 5) (fun _ _ _ _ _ => pe_tup (pa_cons (pv 6) (pa_cons (pv 7) pa_nil)))) rfl)
      (pss_cons (ps_fld (pv 0) (pe_dc (own := [("name", 5), ("most", 8)]) (g := gTup K 2 (gCons (gName 5) (gCons (gName 8) gNil))) (by rfl) scInit.nd (pi_tup (pv 3)) (blkOk_by (own := [("name", 5), ("most", 8)]) (N := nInit) (sc := defScope sInit) (by decide +kernel))
          (fun _ _ _ _ _ => pg_tup (by rfl) (pgs_cons (pg_name (i := 5) scInit.nd rfl (Or.inl rfl)) (pgs_cons (pg_name (i := 8) scInit.nd rfl (Or.inl rfl)) pgs_nil))) (fun _ _ _ _ _ => pts_nil)
          (fun _ _ _ _ _ => pv 5) (fun _ _ _ _ _ => pv 8)) rfl)
      (pss_cons (ps_fld (pv 0) (pe_dc (own := [("name", 5), ("contents", 9)]) (g := gTup K 2 (gCons (gName 5) (gCons (gName 9) gNil))) (by rfl) scInit.nd (pi_tup (pv 4)) (blkOk_by (own := [("name", 5), ("contents", 9)]) (N := nInit) (sc := defScope sInit) (by decide +kernel))
          (fun _ _ _ _ _ => pg_tup (by rfl) (pgs_cons (pg_name (i := 5) scInit.nd rfl (Or.inl rfl)) (pgs_cons (pg_name (i := 9) scInit.nd rfl (Or.inl rfl)) pgs_nil))) (fun _ _ _ _ _ => pts_nil)
          (fun _ _ _ _ _ => pv 5) (fun _ _ _ _ _ => pe_call GB hr1 (by rfl) mB kB bB .nil pass0 (pa_cons (pv 3) (pa_cons (pv 9) pa_nil)))) rfl)
      (pss_one (ps_fld (pv 0) (pe_call GT hr2 (by rfl) mT kT bT .nil pass0 (pa_cons (pv 1) (pa_cons (pv 2) (pa_cons (pv 3) (pa_cons (pv 4) pa_nil))))) rfl)))))))))), ?_⟩
    have two : 2 ≤ sizeLine := by
      rw [sizeLine_eq]
      decide
    have few : ∀ {n : Nat}, n < 100 → n < 1000 := fun h => by omega
    have l1 : vm.length = W.ms.length := Paired.size pm
    have l2 : vc.length = W.cs.length := Paired.size pc
    have l3 : vs2.length = W.ss.length := Paired.size ps
    have l4 : vp.length = W.ps.length := Paired.size pp
    have w1 := T1.lm
    have w2 := T1.lc
    have w3 := T1.ls
    have w4 := T1.lp
    refine ⟨_, rfl, _, rfl, _, rfl, _, rfl, am, ac, as, ap, vm, vc, vs2, vp, rfl, fit, tabs, fun H1 x1 tabs1 => ?_⟩
    have hx1 : H1 x = some (.ins C dx []) := x1 _ _ hx fun _ z => nomatch z
    have fit1 := fit.exN x1
    have tt1 : Tup H H1 := fun a xs e => tup_n x1 e
    have pm1 := rows3 tt1 pm
    have pc1 := rows3 tt1 pc
    have ps1 := rows2 tt1 ps
    have pp1 := rowsP tt1 pp
    refine ⟨_, rfl, _, rfl, x, C, dx, _, rfl, hx1, c.cl, c.n1, few (by decide), ?_⟩
    refine ⟨_, rfl, _, rfl, x, C, dx, _, rfl, upd_same, c.cl, c.n2, (by decide : (1 : Nat) < 1000), ?_⟩
    refine ⟨_, rfl, _, rfl, x, C, dx, _, rfl, upd_same, c.cl, c.n3, (by decide : (2 : Nat) < 1000), ?_⟩
    refine ⟨_, rfl, _, rfl, x, C, dx, _, rfl, upd_same, c.cl, c.n4, (by decide : (3 : Nat) < 1000), ?_⟩
    rw [upd_upd, upd_upd, upd_upd]
    show tSeq _ _ _ _ (upd H1 x (.ins C dx [("_machines", .ref am), ("_cleanings", .ref ac), ("_stuffs", .ref as), ("_products", .ref ap)]))
    have B4 : But x H1 (upd H1 x (.ins C dx [("_machines", .ref am), ("_cleanings", .ref ac), ("_stuffs", .ref as), ("_products", .ref ap)])) := But.self
    have X4 : (upd H1 x (.ins C dx [("_machines", .ref am), ("_cleanings", .ref ac), ("_stuffs", .ref as), ("_products", .ref ap)])) x = some (.ins C dx [("_machines", .ref am), ("_cleanings", .ref ac), ("_stuffs", .ref as), ("_products", .ref ap)]) := upd_same
    generalize upd H1 x (.ins C dx [("_machines", .ref am), ("_cleanings", .ref ac), ("_stuffs", .ref as), ("_products", .ref ap)]) = H4 at B4 X4 ⊢
    have t4 := But.tup hx1 B4
    have pm4 := rows3 t4 pm1
    have hm4 := t4 _ _ fit1.m
    refine ⟨_, rfl, am, rfl, ⟨vm, SqT.of hm4⟩, fun D1 n1 => dc_it walk_tup (fun i G => Ex H4 G ∧ ∃ vals : List V, vals.length = i ∧ Paired (Bnd G) vals ((W.ms.map (·.2)).take i) ∧ G D1 = some (.dK (mergeK [] (under ((W.ms.map (·.1)).take i) vals)))) ⟨Ex.refl.new n1, [], rfl, .nil, upd_same⟩ (fun i G _ h => SqT.of (h.1 _ _ hm4)) ?_ ?_⟩
    · rintro i v _ G hi ⟨xG, vals, vl, pv, eG⟩ ⟨rfl, hv⟩
      obtain ⟨⟨n, lo, up⟩, hr, a, rfl, ha⟩ := Paired.spot pm4 hv
      have e : G a = some (.tup [.str n, .int lo, .int up]) := xG _ _ ha
      have hn : (W.ms.map (·.1))[i]? = some n := by
        rw [List.getElem?_map, hr]
        rfl
      have hb : (W.ms.map (·.2))[i]? = some (lo, up) := by
        rw [List.getElem?_map, hr]
        rfl
      refine ⟨a, _, rfl, SqT.of e, rfl, _, _, rfl, _, _, rfl, _, _, rfl, rfl, rfl, ?_⟩
      refine ⟨_, rfl, _, rfl, _, rfl, two, fun p np => ?_⟩
      have nDp : D1 ≠ p := ne_of_none eG np
      have eD : (upd G p (.tup [.int lo, .int up])) D1 = some (.dK (mergeK [] (under ((W.ms.map (·.1)).take i) vals))) := by
        rw [upd_ne nDp]
        exact eG
      refine ⟨_, .inr n, rfl, eD, ?_, (xG.new np).put n1, vals ++ [.ref p], by rw [List.length_append, vl]; rfl, ?_, ?_⟩
      · have m := merge_len (more := under ((W.ms.map (·.1)).take i) vals) (kvs := [])
        have m2 : (under ((W.ms.map (·.1)).take i) vals).length ≤ i := by
          unfold under
          rw [List.length_map, List.length_zip, vl]
          exact Nat.min_le_right _ _
        rw [List.length_nil] at m
        rw [sizeLine_eq]
        omega
      · have tt : Tup G (upd (upd G p (.tup [.int lo, .int up])) D1 (.dK (putK (mergeK [] (under ((W.ms.map (·.1)).take i) vals)) (.inr n) (.ref p)))) := fun b xs h => by
          rw [upd_ne (ne_of h eG fun z => nomatch z), upd_ne (ne_of_none h np)]
          exact h
        rw [List.take_succ, hb]
        exact Paired.snoc (bnds tt pv) ⟨p, rfl, by rw [upd_ne nDp.symm]; exact upd_same⟩
      · rw [upd_same, under_snoc hn vl, merge_snoc]
    rintro G1 ⟨xG1, b1, bl1, pb1, eG1⟩
    rw [List.take_of_length_le (by rw [List.length_map]; omega), ] at pb1
    rw [List.take_of_length_le (by rw [List.length_map]; omega)] at eG1
    refine ⟨_, rfl, x, C, dx, _, rfl, xG1 _ _ X4, c.cl, c.n5, (by decide : (4 : Nat) < 1000), ?_⟩
    show tSeq _ _ _ _ (upd G1 x (.ins C dx [("_machines", .ref am), ("_cleanings", .ref ac), ("_stuffs", .ref as), ("_products", .ref ap), ("_holds", .ref D1)]))
    have S5 : But x H4 (upd G1 x (.ins C dx [("_machines", .ref am), ("_cleanings", .ref ac), ("_stuffs", .ref as), ("_products", .ref ap), ("_holds", .ref D1)])) := But.trans (But.ex xG1) But.self
    have V5 : But x G1 (upd G1 x (.ins C dx [("_machines", .ref am), ("_cleanings", .ref ac), ("_stuffs", .ref as), ("_products", .ref ap), ("_holds", .ref D1)])) := But.self
    have X5 : (upd G1 x (.ins C dx [("_machines", .ref am), ("_cleanings", .ref ac), ("_stuffs", .ref as), ("_products", .ref ap), ("_holds", .ref D1)])) x = some (.ins C dx [("_machines", .ref am), ("_cleanings", .ref ac), ("_stuffs", .ref as), ("_products", .ref ap), ("_holds", .ref D1)]) := upd_same
    have XG5 := xG1 _ _ X4
    generalize upd G1 x (.ins C dx [("_machines", .ref am), ("_cleanings", .ref ac), ("_stuffs", .ref as), ("_products", .ref ap), ("_holds", .ref D1)]) = H5 at S5 V5 X5 ⊢
    have B5 : But x H1 H5 := But.trans B4 S5
    have t5 := But.tup hx1 B5
    have d1_5 := V5 _ _ (ne_of eG1 XG5 fun z => nomatch z) eG1
    have p1_5 := bnds (But.tup XG5 V5) pb1
    have pc5 := rows3 t5 pc1
    have hc5 := t5 _ _ fit1.c
    refine ⟨_, rfl, ac, rfl, ⟨vc, SqT.of hc5⟩, fun D2 n2 => dc_it walk_tup (fun i G => Ex H5 G ∧ ∃ vals : List V, vals.length = i ∧ Paired (Bnd G) vals ((W.cs.map (·.2)).take i) ∧ G D2 = some (.dK (mergeK [] (under ((W.cs.map (·.1)).take i) vals)))) ⟨Ex.refl.new n2, [], rfl, .nil, upd_same⟩ (fun i G _ h => SqT.of (h.1 _ _ hc5)) ?_ ?_⟩
    · rintro i v _ G hi ⟨xG, vals, vl, pv, eG⟩ ⟨rfl, hv⟩
      obtain ⟨⟨n, lo, up⟩, hr, a, rfl, ha⟩ := Paired.spot pc5 hv
      have e : G a = some (.tup [.str n, .int lo, .int up]) := xG _ _ ha
      have hn : (W.cs.map (·.1))[i]? = some n := by
        rw [List.getElem?_map, hr]
        rfl
      have hb : (W.cs.map (·.2))[i]? = some (lo, up) := by
        rw [List.getElem?_map, hr]
        rfl
      refine ⟨a, _, rfl, SqT.of e, rfl, _, _, rfl, _, _, rfl, _, _, rfl, rfl, rfl, ?_⟩
      refine ⟨_, rfl, _, rfl, _, rfl, two, fun p np => ?_⟩
      have nDp : D2 ≠ p := ne_of_none eG np
      have eD : (upd G p (.tup [.int lo, .int up])) D2 = some (.dK (mergeK [] (under ((W.cs.map (·.1)).take i) vals))) := by
        rw [upd_ne nDp]
        exact eG
      refine ⟨_, .inr n, rfl, eD, ?_, (xG.new np).put n2, vals ++ [.ref p], by rw [List.length_append, vl]; rfl, ?_, ?_⟩
      · have m := merge_len (more := under ((W.cs.map (·.1)).take i) vals) (kvs := [])
        have m2 : (under ((W.cs.map (·.1)).take i) vals).length ≤ i := by
          unfold under
          rw [List.length_map, List.length_zip, vl]
          exact Nat.min_le_right _ _
        rw [List.length_nil] at m
        rw [sizeLine_eq]
        omega
      · have tt : Tup G (upd (upd G p (.tup [.int lo, .int up])) D2 (.dK (putK (mergeK [] (under ((W.cs.map (·.1)).take i) vals)) (.inr n) (.ref p)))) := fun b xs h => by
          rw [upd_ne (ne_of h eG fun z => nomatch z), upd_ne (ne_of_none h np)]
          exact h
        rw [List.take_succ, hb]
        exact Paired.snoc (bnds tt pv) ⟨p, rfl, by rw [upd_ne nDp.symm]; exact upd_same⟩
      · rw [upd_same, under_snoc hn vl, merge_snoc]
    rintro G2 ⟨xG2, b2, bl2, pb2, eG2⟩
    rw [List.take_of_length_le (by rw [List.length_map]; omega), ] at pb2
    rw [List.take_of_length_le (by rw [List.length_map]; omega)] at eG2
    refine ⟨_, rfl, x, C, dx, _, rfl, xG2 _ _ X5, c.cl, c.n6, (by decide : (5 : Nat) < 1000), ?_⟩
    show tSeq _ _ _ _ (upd G2 x (.ins C dx [("_machines", .ref am), ("_cleanings", .ref ac), ("_stuffs", .ref as), ("_products", .ref ap), ("_holds", .ref D1), ("_keeps", .ref D2)]))
    have S6 : But x H5 (upd G2 x (.ins C dx [("_machines", .ref am), ("_cleanings", .ref ac), ("_stuffs", .ref as), ("_products", .ref ap), ("_holds", .ref D1), ("_keeps", .ref D2)])) := But.trans (But.ex xG2) But.self
    have V6 : But x G2 (upd G2 x (.ins C dx [("_machines", .ref am), ("_cleanings", .ref ac), ("_stuffs", .ref as), ("_products", .ref ap), ("_holds", .ref D1), ("_keeps", .ref D2)])) := But.self
    have X6 : (upd G2 x (.ins C dx [("_machines", .ref am), ("_cleanings", .ref ac), ("_stuffs", .ref as), ("_products", .ref ap), ("_holds", .ref D1), ("_keeps", .ref D2)])) x = some (.ins C dx [("_machines", .ref am), ("_cleanings", .ref ac), ("_stuffs", .ref as), ("_products", .ref ap), ("_holds", .ref D1), ("_keeps", .ref D2)]) := upd_same
    have XG6 := xG2 _ _ X5
    generalize upd G2 x (.ins C dx [("_machines", .ref am), ("_cleanings", .ref ac), ("_stuffs", .ref as), ("_products", .ref ap), ("_holds", .ref D1), ("_keeps", .ref D2)]) = H6 at S6 V6 X6 ⊢
    have B6 : But x H1 H6 := But.trans B5 S6
    have t6 := But.tup hx1 B6
    have d2_6 := V6 _ _ (ne_of eG2 XG6 fun z => nomatch z) eG2
    have p2_6 := bnds (But.tup XG6 V6) pb2
    have d1_6 := S6 _ _ (ne_of d1_5 X5 fun z => nomatch z) d1_5
    have p1_6 := bnds (But.tup X5 S6) p1_5
    have ps6 := rows2 t6 ps1
    have hs6 := t6 _ _ fit1.s
    refine ⟨_, rfl, as, rfl, ⟨vs2, SqT.of hs6⟩, fun D3 n3 => dc_it walk_tup (fun i G => Ex H6 G ∧ G D3 = some (.dK (mergeK [] (under ((W.ss.map (·.1)).take i) ((W.ss.map fun r => V.int r.2).take i))))) ⟨Ex.refl.new n3, upd_same⟩ (fun i G _ h => SqT.of (h.1 _ _ hs6)) ?_ ?_⟩
    · rintro i v _ G hi ⟨xG, eG⟩ ⟨rfl, hv⟩
      obtain ⟨⟨n, m⟩, hr, a, rfl, ha⟩ := Paired.spot ps6 hv
      have e : G a = some (.tup [.str n, .int m]) := xG _ _ ha
      have hn : (W.ss.map (·.1))[i]? = some n := by
        rw [List.getElem?_map, hr]
        rfl
      have hb : (W.ss.map fun r => V.int r.2)[i]? = some (.int m) := by
        rw [List.getElem?_map, hr]
        rfl
      have il : i < W.ss.length := (List.getElem?_eq_some_iff.mp hr).1
      have vl : ((W.ss.map fun r => V.int r.2).take i).length = i := by
        rw [List.length_take, List.length_map]
        omega
      refine ⟨a, _, rfl, SqT.of e, rfl, _, _, rfl, _, _, rfl, rfl, rfl, ?_⟩
      refine ⟨_, rfl, _, rfl, _, .inr n, rfl, eG, ?_, xG.put n3, ?_⟩
      · have m := merge_len (more := under ((W.ss.map (·.1)).take i) ((W.ss.map fun r => V.int r.2).take i)) (kvs := [])
        have m2 : (under ((W.ss.map (·.1)).take i) ((W.ss.map fun r => V.int r.2).take i)).length ≤ i := by
          unfold under
          rw [List.length_map, List.length_zip, vl]
          exact Nat.min_le_right _ _
        rw [List.length_nil] at m
        rw [sizeLine_eq]
        omega
      · rw [upd_same, List.take_succ (l := W.ss.map fun r => V.int r.2), hb]
        show _ = some (HO.dK (mergeK [] (under ((W.ss.map (·.1)).take (i + 1)) ((W.ss.map fun r => V.int r.2).take i ++ [.int m]))))
        rw [under_snoc hn vl, merge_snoc]
    rintro G3 ⟨xG3, eG3⟩
    rw [List.take_of_length_le (by rw [List.length_map]; omega), List.take_of_length_le (by rw [List.length_map]; omega)] at eG3
    refine ⟨_, rfl, x, C, dx, _, rfl, xG3 _ _ X6, c.cl, c.n7, (by decide : (6 : Nat) < 1000), ?_⟩
    show tSeq _ _ _ _ (upd G3 x (.ins C dx [("_machines", .ref am), ("_cleanings", .ref ac), ("_stuffs", .ref as), ("_products", .ref ap), ("_holds", .ref D1), ("_keeps", .ref D2), ("_limits", .ref D3)]))
    have S7 : But x H6 (upd G3 x (.ins C dx [("_machines", .ref am), ("_cleanings", .ref ac), ("_stuffs", .ref as), ("_products", .ref ap), ("_holds", .ref D1), ("_keeps", .ref D2), ("_limits", .ref D3)])) := But.trans (But.ex xG3) But.self
    have V7 : But x G3 (upd G3 x (.ins C dx [("_machines", .ref am), ("_cleanings", .ref ac), ("_stuffs", .ref as), ("_products", .ref ap), ("_holds", .ref D1), ("_keeps", .ref D2), ("_limits", .ref D3)])) := But.self
    have X7 : (upd G3 x (.ins C dx [("_machines", .ref am), ("_cleanings", .ref ac), ("_stuffs", .ref as), ("_products", .ref ap), ("_holds", .ref D1), ("_keeps", .ref D2), ("_limits", .ref D3)])) x = some (.ins C dx [("_machines", .ref am), ("_cleanings", .ref ac), ("_stuffs", .ref as), ("_products", .ref ap), ("_holds", .ref D1), ("_keeps", .ref D2), ("_limits", .ref D3)]) := upd_same
    have XG7 := xG3 _ _ X6
    generalize upd G3 x (.ins C dx [("_machines", .ref am), ("_cleanings", .ref ac), ("_stuffs", .ref as), ("_products", .ref ap), ("_holds", .ref D1), ("_keeps", .ref D2), ("_limits", .ref D3)]) = H7 at S7 V7 X7 ⊢
    have B7 : But x H1 H7 := But.trans B6 S7
    have t7 := But.tup hx1 B7
    have d3_7 := V7 _ _ (ne_of eG3 XG7 fun z => nomatch z) eG3
    have d1_7 := S7 _ _ (ne_of d1_6 X6 fun z => nomatch z) d1_6
    have p1_7 := bnds (But.tup X6 S7) p1_6
    have d2_7 := S7 _ _ (ne_of d2_6 X6 fun z => nomatch z) d2_6
    have p2_7 := bnds (But.tup X6 S7) p2_6
    have pp7 := rowsP t7 pp1
    have ps7 := rows2 t7 ps1
    have hs7 := t7 _ _ fit1.s
    have hp7 := t7 _ _ fit1.p
    have nm7 : ∀ {G : Hp}, Ex H7 G → Paired (Named G) vs2 (W.ss.map (·.1)) := fun {G} e => paired_map (L2.Paired.mapP ps7 fun v r z => by
      obtain ⟨a, e1, e2⟩ := z
      exact ⟨a, _, e1, e _ _ e2⟩)
    refine ⟨_, rfl, ap, rfl, ⟨vp, SqT.of hp7⟩, fun D4 n4 => dc_it walk_tup (fun i G => Ex H7 G ∧ ∃ vals : List V, vals.length = i ∧ Paired (CBn W D4 G) vals (W.ps.take i) ∧ G D4 = some (.dK (mergeK [] (under ((W.ps.map (·.1)).take i) vals)))) ⟨Ex.refl.new n4, [], rfl, .nil, upd_same⟩ (fun i G _ h => SqT.of (h.1 _ _ hp7)) ?_ ?_⟩
    · rintro i v _ G hi ⟨xG, vals, vl, pv, eG⟩ ⟨rfl, hv⟩
      obtain ⟨⟨n, bs⟩, hr, a, t, vb, rfl, ha, ht, pb⟩ := Paired.spot pp7 hv
      have hn : (W.ps.map (·.1))[i]? = some n := by
        rw [List.getElem?_map, hr]
        rfl
      have sm : bs.length = W.ss.length := same _ (List.mem_of_getElem? hr)
      have vbl : vb.length = bs.length := Paired.size pb
      refine ⟨a, _, rfl, SqT.of (xG _ _ ha), rfl, _, _, rfl, _, _, rfl, rfl, rfl, ?_⟩
      refine ⟨_, rfl, _, rfl, _, rfl, as, t, vs2, vb, W.ss.map (·.1), rfl, xG _ _ hs7, xG _ _ ht, nm7 xG, by omega, by omega, fun Dp G2 x2 nDp eDp => ?_⟩
      have eG2 := x2 _ _ eG
      have nD : Dp ≠ D4 := (ne_of_none eG nDp).symm
      refine ⟨_, .inr n, rfl, eG2, ?_, (xG.trans x2).put n4, vals ++ [.ref Dp], by rw [List.length_append, vl]; rfl, ?_, ?_⟩
      · have m := merge_len (more := under ((W.ps.map (·.1)).take i) vals) (kvs := [])
        have m2 : (under ((W.ps.map (·.1)).take i) vals).length ≤ i := by
          unfold under
          rw [List.length_map, List.length_zip, vl]
          exact Nat.min_le_right _ _
        rw [List.length_nil] at m
        rw [sizeLine_eq]
        omega
      · have tt : Tup G2 (upd G2 D4 (.dK (putK (mergeK [] (under ((W.ps.map (·.1)).take i) vals)) (.inr n) (.ref Dp)))) := fun b xs h => by
          rw [upd_ne (ne_of h eG2 fun z => nomatch z)]
          exact h
        rw [List.take_succ, hr]
        refine Paired.snoc (L2.Paired.mapP pv fun v p z => ?_) ⟨Dp, vb, rfl, nD, by rw [upd_ne nD]; exact eDp, bnds tt (bnds (Ex.tup (xG.trans x2)) pb)⟩
        obtain ⟨D0, ys, e1, e2, e3, e4⟩ := z
        exact ⟨D0, ys, e1, e2, by rw [upd_ne e2]; exact x2 _ _ e3, bnds tt (bnds (Ex.tup x2) e4)⟩
      · rw [upd_same, under_snoc hn vl, merge_snoc]
    rintro G4 ⟨xG4, b4, bl4, pb4, eG4⟩
    rw [List.take_of_length_le (by omega)] at pb4
    rw [List.take_of_length_le (by rw [List.length_map]; omega)] at eG4
    refine ⟨_, rfl, x, C, dx, _, rfl, xG4 _ _ X7, c.cl, c.n8, (by decide : (7 : Nat) < 1000), ?_⟩
    show tSeq _ _ _ _ (upd G4 x (.ins C dx [("_machines", .ref am), ("_cleanings", .ref ac), ("_stuffs", .ref as), ("_products", .ref ap), ("_holds", .ref D1), ("_keeps", .ref D2), ("_limits", .ref D3), ("_contents", .ref D4)]))
    have S8 : But x H7 (upd G4 x (.ins C dx [("_machines", .ref am), ("_cleanings", .ref ac), ("_stuffs", .ref as), ("_products", .ref ap), ("_holds", .ref D1), ("_keeps", .ref D2), ("_limits", .ref D3), ("_contents", .ref D4)])) := But.trans (But.ex xG4) But.self
    have V8 : But x G4 (upd G4 x (.ins C dx [("_machines", .ref am), ("_cleanings", .ref ac), ("_stuffs", .ref as), ("_products", .ref ap), ("_holds", .ref D1), ("_keeps", .ref D2), ("_limits", .ref D3), ("_contents", .ref D4)])) := But.self
    have X8 : (upd G4 x (.ins C dx [("_machines", .ref am), ("_cleanings", .ref ac), ("_stuffs", .ref as), ("_products", .ref ap), ("_holds", .ref D1), ("_keeps", .ref D2), ("_limits", .ref D3), ("_contents", .ref D4)])) x = some (.ins C dx [("_machines", .ref am), ("_cleanings", .ref ac), ("_stuffs", .ref as), ("_products", .ref ap), ("_holds", .ref D1), ("_keeps", .ref D2), ("_limits", .ref D3), ("_contents", .ref D4)]) := upd_same
    have XG8 := xG4 _ _ X7
    generalize upd G4 x (.ins C dx [("_machines", .ref am), ("_cleanings", .ref ac), ("_stuffs", .ref as), ("_products", .ref ap), ("_holds", .ref D1), ("_keeps", .ref D2), ("_limits", .ref D3), ("_contents", .ref D4)]) = H8 at S8 V8 X8 ⊢
    have B8 : But x H1 H8 := But.trans B7 S8
    have t8 := But.tup hx1 B8
    have d4_8 := V8 _ _ (ne_of eG4 XG8 fun z => nomatch z) eG4
    have p4_8 : Paired (CBn W D4 H8) b4 W.ps := L2.Paired.mapP pb4 fun v p z => CBn.but XG8 V8 z
    have d3_8 := S8 _ _ (ne_of d3_7 X7 fun z => nomatch z) d3_7
    have d1_8 := S8 _ _ (ne_of d1_7 X7 fun z => nomatch z) d1_7
    have p1_8 := bnds (But.tup X7 S8) p1_7
    have d2_8 := S8 _ _ (ne_of d2_7 X7 fun z => nomatch z) d2_7
    have p2_8 := bnds (But.tup X7 S8) p2_7
    refine ⟨_, rfl, _, rfl, _, rfl, _, rfl, am, ac, as, ap, vm, vc, vs2, vp, W, rfl, t8 _ _ fit1.m, t8 _ _ fit1.c, t8 _ _ fit1.s, t8 _ _ fit1.p, rows3 t8 pm1, rows3 t8 pc1, rows2 t8 ps1, rowsP t8 pp1, T1, fun G5 xG5 => ?_⟩
    refine ⟨_, rfl, x, C, dx, _, rfl, xG5 _ _ X8, c.cl, c.n9, (by decide : (8 : Nat) < 1000), ?_⟩
    show Q .non (upd G5 x (.ins C dx [("_machines", .ref am), ("_cleanings", .ref ac), ("_stuffs", .ref as), ("_products", .ref ap), ("_holds", .ref D1), ("_keeps", .ref D2), ("_limits", .ref D3), ("_contents", .ref D4), ("_text", .str (wtext W))]))
    have S9 : But x H8 (upd G5 x (.ins C dx [("_machines", .ref am), ("_cleanings", .ref ac), ("_stuffs", .ref as), ("_products", .ref ap), ("_holds", .ref D1), ("_keeps", .ref D2), ("_limits", .ref D3), ("_contents", .ref D4), ("_text", .str (wtext W))])) := But.trans (But.ex xG5) But.self
    have V9 : But x G5 (upd G5 x (.ins C dx [("_machines", .ref am), ("_cleanings", .ref ac), ("_stuffs", .ref as), ("_products", .ref ap), ("_holds", .ref D1), ("_keeps", .ref D2), ("_limits", .ref D3), ("_contents", .ref D4), ("_text", .str (wtext W))])) := But.self
    have X9 : (upd G5 x (.ins C dx [("_machines", .ref am), ("_cleanings", .ref ac), ("_stuffs", .ref as), ("_products", .ref ap), ("_holds", .ref D1), ("_keeps", .ref D2), ("_limits", .ref D3), ("_contents", .ref D4), ("_text", .str (wtext W))])) x = some (.ins C dx [("_machines", .ref am), ("_cleanings", .ref ac), ("_stuffs", .ref as), ("_products", .ref ap), ("_holds", .ref D1), ("_keeps", .ref D2), ("_limits", .ref D3), ("_contents", .ref D4), ("_text", .str (wtext W))]) := upd_same
    have XG9 := xG5 _ _ X8
    generalize upd G5 x (.ins C dx [("_machines", .ref am), ("_cleanings", .ref ac), ("_stuffs", .ref as), ("_products", .ref ap), ("_holds", .ref D1), ("_keeps", .ref D2), ("_limits", .ref D3), ("_contents", .ref D4), ("_text", .str (wtext W))]) = H9 at S9 V9 X9 ⊢
    have B9 : But x H1 H9 := But.trans B8 S9
    have t9 := But.tup hx1 B9
    have d4_9 := S9 _ _ (ne_of d4_8 X8 fun z => nomatch z) d4_8
    have p4_9 : Paired (CBn W D4 H9) b4 W.ps := L2.Paired.mapP p4_8 fun v p z => CBn.but X8 S9 z
    have d3_9 := S9 _ _ (ne_of d3_8 X8 fun z => nomatch z) d3_8
    have d1_9 := S9 _ _ (ne_of d1_8 X8 fun z => nomatch z) d1_8
    have p1_9 := bnds (But.tup X8 S9) p1_8
    have d2_9 := S9 _ _ (ne_of d2_8 X8 fun z => nomatch z) d2_8
    have p2_9 := bnds (But.tup X8 S9) p2_8
    exact q H9 (fun b o n e nt => B9 b o n (x1 b o e nt)) (TabsN.but hx1 B9 tabs1) ⟨dx, D1, D2, D3, D4, b1, b2, b4, X9, ⟨d1_9, p1_9⟩, ⟨d2_9, p2_9⟩, d3_9, d4_9, L2.Paired.mapP p4_9 fun v p z => by
      obtain ⟨D0, ys, e1, _, e3, e4⟩ := z
      exact ⟨D0, ys, e1, e3, e4⟩⟩
end
end LJ
set_option Elab.async false
set_option linter.all false
set_option maxRecDepth 100000
set_option maxHeartbeats 8000000
namespace LJ
open PySem PySem.Spec L2
/-! A drawn world fits. -/
theorem menu_w : ∀ x ∈ menu, isW x = true := by decide +kernel
theorem menu_8 : ∀ x ∈ menu, x.length ≤ 8 := by decide +kernel
theorem fwAt_none {R : V → Bool} {nm : V → Str} {most : Int} : ∀ {xs : List V} {tk : List Str} {i : Nat}, (∀ v ∈ xs, R v = true) → (i : Int) + xs.length ≤ most → (tk ++ xs.map nm).Nodup → fwAt R nm most tk i xs = none
  | [], _, _, _, _, _ => by
    unfold fwAt
    rfl
  | v :: xs, tk, i, hR, l, nd => by
    rw [List.length_cons] at l
    have nin : nm v ∉ tk := fun z => by
      rw [List.map_cons] at nd
      exact (List.nodup_append.mp nd).2.2 _ z _ (List.mem_cons_self ..) rfl
    have t := fwAt_none (R := R) (nm := nm) (most := most) (xs := xs) (tk := tk ++ [nm v]) (i := i + 1) (fun y hy => hR y (List.mem_cons_of_mem _ hy)) (by omega) (by rw [List.append_assoc]; exact nd)
    unfold fwAt
    rw [if_neg (by omega), if_neg (by rw [hR v (List.mem_cons_self ..)]; decide), if_neg nin, t]
theorem paired_mem {α β : Type} {F : α → β → Prop} : ∀ {xs : List α} {ys : List β}, Paired F xs ys → ∀ x ∈ xs, ∃ y ∈ ys, F x y
  | _, _, .nil, _, h => nomatch h
  | _, _, .cons f t, x, h => by
    rcases List.mem_cons.mp h with rfl | h
    · exact ⟨_, List.mem_cons_self .., f⟩
    · obtain ⟨y, hy, g⟩ := paired_mem t x h
      exact ⟨y, List.mem_cons_of_mem _ hy, g⟩
theorem paired_nm {α : Type} {F : V → α → Prop} {nm : V → Str} {g : α → Str} (h : ∀ v r, F v r → nm v = g r) : ∀ {xs : List V} {ys : List α}, Paired F xs ys → xs.map nm = ys.map g
  | _, _, .nil => rfl
  | _, _, .cons f t => by rw [List.map_cons, List.map_cons, h _ _ f, paired_nm h t]
section
variable {K : PySem.W.Frag} {H : Hp}
theorem kn_tup {a : Addr} {xs : List V} (h : H a = some (.tup xs)) (l : xs.length ≤ 1000) : Kn K H (.ref a) := .tup h (by rw [sizeLine_eq]; omega)
theorem kn_str {n : Str} (l : n.length ≤ 8) : Kn K H (.str n) := .str n (by rw [sizeLine_eq]; omega)
theorem deep_tup {n : Nat} {a : Addr} {xs : List V} (h : H a = some (.tup xs)) (l : xs.length ≤ 1000) (d : ∀ y ∈ xs, Deep K H n y) : Deep K H (n + 1) (.ref a) := ⟨kn_tup h l, fun ys e y hy => by
  rw [tup_at h] at e
  cases e
  exact d y hy⟩
theorem row3_deep {v : V} {r : Str × Int × Int} (h : Row3 H v r) (l : r.1.length ≤ 8) : Deep K H 1 v := by
  obtain ⟨a, rfl, e⟩ := h
  refine deep_tup e (by decide : 3 ≤ 1000) fun y hy => ?_
  simp only [List.mem_cons, List.not_mem_nil, or_false] at hy
  rcases hy with rfl | rfl | rfl
  · exact kn_str l
  · exact .int _
  · exact .int _
theorem row2_deep {v : V} {r : Str × Int} (h : Row2 H v r) (l : r.1.length ≤ 8) : Deep K H 1 v := by
  obtain ⟨a, rfl, e⟩ := h
  refine deep_tup e (by decide : 2 ≤ 1000) fun y hy => ?_
  simp only [List.mem_cons, List.not_mem_nil, or_false] at hy
  rcases hy with rfl | rfl
  · exact kn_str l
  · exact .int _
theorem int_deep {i : Int} : ∀ {n : Nat}, Deep K H n (.int i)
  | 0 => Kn.int i
  | n + 1 => ⟨.int i, fun _ e => nomatch e⟩
theorem str_deep {s : Str} (l : s.length ≤ 8) : ∀ {n : Nat}, Deep K H n (.str s)
  | 0 => kn_str l
  | n + 1 => ⟨kn_str l, fun _ e => nomatch e⟩
theorem bnd_deep {v : V} {b : Int × Int} (h : Bnd H v b) : Deep K H 1 v := by
  obtain ⟨a, rfl, e⟩ := h
  refine deep_tup e (by decide : 2 ≤ 1000) fun y hy => ?_
  simp only [List.mem_cons, List.not_mem_nil, or_false] at hy
  rcases hy with rfl | rfl <;> exact int_deep
theorem rowP_deep {v : V} {r : Str × List (Int × Int)} (h : RowP H v r) (l : r.1.length ≤ 8) (l2 : r.2.length ≤ 100) : Deep K H 3 v := by
  obtain ⟨a, t, vs, rfl, e, et, p⟩ := h
  have vl : vs.length = r.2.length := Paired.size p
  refine deep_tup e (by decide : 2 ≤ 1000) fun y hy => ?_
  simp only [List.mem_cons, List.not_mem_nil, or_false] at hy
  rcases hy with rfl | rfl
  · exact str_deep l
  · refine deep_tup et (by omega) fun z hz => ?_
    obtain ⟨b, _, hb⟩ := paired_mem p z hz
    exact bnd_deep hb
theorem row3_name {v : V} {r : Str × Int × Int} (h : Row3 H v r) : nameOf H v = r.1 := by
  obtain ⟨a, rfl, e⟩ := h
  unfold nameOf
  rw [tup_at e]
theorem row2_name {v : V} {r : Str × Int} (h : Row2 H v r) : nameOf H v = r.1 := by
  obtain ⟨a, rfl, e⟩ := h
  unfold nameOf
  rw [tup_at e]
theorem rowP_name {v : V} {r : Str × List (Int × Int)} (h : RowP H v r) : nameOf H v = r.1 := by
  obtain ⟨a, t, vs, rfl, e, _⟩ := h
  unfold nameOf
  rw [tup_at e]
theorem row3_right {v : V} {r : Str × Int × Int} (h : Row3 H v r) (w : isW r.1 = true) (b0 : 0 ≤ r.2.1) (b1 : r.2.1 ≤ r.2.2) (b2 : r.2.2 ≤ 1000) : onTup sharesOf H v = true := by
  obtain ⟨a, rfl, e⟩ := h
  unfold onTup
  rw [tup_at e]
  show (isW r.1 && (decide (0 ≤ r.2.1) && (decide (r.2.1 ≤ r.2.2) && decide (r.2.2 ≤ 1000)))) = true
  rw [w, decide_eq_true b0, decide_eq_true b1, decide_eq_true b2]
  rfl
theorem row2_right {v : V} {r : Str × Int} (h : Row2 H v r) (w : isW r.1 = true) (b0 : 0 ≤ r.2) (b1 : r.2 ≤ 1000000000000) : onTup limOf H v = true := by
  obtain ⟨a, rfl, e⟩ := h
  unfold onTup
  rw [tup_at e]
  show (isW r.1 && (decide (0 ≤ r.2) && decide (r.2 ≤ top12))) = true
  rw [w, decide_eq_true b0, decide_eq_true (show r.2 ≤ top12 from b1)]
  rfl
theorem rowP_right {v : V} {r : Str × List (Int × Int)} {m : Int} (h : RowP H v r) (w : isW r.1 = true) (l : (r.2.length : Int) = m) (b : ∀ x ∈ r.2, Small x) : onTup (contOf H m) H v = true := by
  obtain ⟨a, t, vs, rfl, e, et, p⟩ := h
  have vl : vs.length = r.2.length := Paired.size p
  unfold onTup
  rw [tup_at e]
  show (isW r.1 && pairsOf H m (tupOf H (.ref t))) = true
  rw [w, tup_at et]
  show (true && (decide ((vs.length : Int) = m) && vs.all fun y => isBnd H y top12)) = true
  rw [decide_eq_true (by rw [vl]; exact l), Bool.true_and, Bool.true_and, List.all_eq_true]
  intro y hy
  obtain ⟨x, hx, b1, rfl, b2⟩ := paired_mem p y hy
  obtain ⟨s1, s2, s3⟩ := b x hx
  unfold isBnd
  rw [tup_at b2]
  show (decide (0 ≤ x.1) && (decide (x.1 ≤ x.2) && decide (x.2 ≤ top12))) = true
  rw [decide_eq_true s1, decide_eq_true s2, decide_eq_true (show x.2 ≤ top12 from s3)]
  rfl
theorem good_fit {am ac as ap : Addr} {vm vc vs2 vp : List V} {W : Wd} (g : Good W) (hm : H am = some (.tup vm)) (hc : H ac = some (.tup vc)) (hs : H as = some (.tup vs2)) (hp : H ap = some (.tup vp))
    (pm : Paired (Row3 H) vm W.ms) (pc : Paired (Row3 H) vc W.cs) (ps : Paired (Row2 H) vs2 W.ss) (pp : Paired (RowP H) vp W.ps) : Fit K H am ac as ap vm vc vs2 vp := by
  have l1 : vm.length = W.ms.length := Paired.size pm
  have l2 : vc.length = W.cs.length := Paired.size pc
  have l3 : vs2.length = W.ss.length := Paired.size ps
  have l4 : vp.length = W.ps.length := Paired.size pp
  have g1 := g.m1
  have g2 := g.m2
  have g3 := g.c2
  have g4 := g.s1
  have g5 := g.s2
  have g6 := g.p1
  have g7 := g.p2
  have im : ∀ r ∈ W.ms, r.1 ∈ menu := fun r hr => g.nm _ (List.mem_append_left _ (List.mem_map_of_mem hr))
  have ic : ∀ r ∈ W.cs, r.1 ∈ menu := fun r hr => g.nm _ (List.mem_append_right _ (List.mem_append_left _ (List.mem_map_of_mem hr)))
  have is : ∀ r ∈ W.ss, r.1 ∈ menu := fun r hr => g.nm _ (List.mem_append_right _ (List.mem_append_right _ (List.mem_append_left _ (List.mem_map_of_mem hr))))
  have ip : ∀ r ∈ W.ps, r.1 ∈ menu := fun r hr => g.nm _ (List.mem_append_right _ (List.mem_append_right _ (List.mem_append_right _ (List.mem_map_of_mem hr))))
  have em : vm.map (nameOf H) = W.ms.map (·.1) := paired_nm (fun v r h => row3_name h) pm
  have ec : vc.map (nameOf H) = W.cs.map (·.1) := paired_nm (fun v r h => row3_name h) pc
  have es : vs2.map (nameOf H) = W.ss.map (·.1) := paired_nm (fun v r h => row2_name h) ps
  have ep : vp.map (nameOf H) = W.ps.map (·.1) := paired_nm (fun v r h => rowP_name h) pp
  have nd := g.nd
  have nd3 : ((W.ms.map (·.1) ++ W.cs.map (·.1)) ++ W.ss.map (·.1) ++ W.ps.map (·.1)).Nodup := by
    rw [List.append_assoc, List.append_assoc]
    exact nd
  have nd2 : ((W.ms.map (·.1) ++ W.cs.map (·.1)) ++ W.ss.map (·.1)).Nodup := (List.nodup_append.mp nd3).1
  have nd1 : (W.ms.map (·.1) ++ W.cs.map (·.1)).Nodup := (List.nodup_append.mp nd2).1
  have nd0 : (W.ms.map (·.1)).Nodup := (List.nodup_append.mp nd1).1
  refine ⟨hm, hc, hs, hp, deep_tup hm (by omega) fun v hv => ?_, deep_tup hc (by omega) fun v hv => ?_, deep_tup hs (by omega) fun v hv => ?_, deep_tup hp (by omega) fun v hv => ?_, by omega, by omega, by omega, ?_, ?_, ?_, ?_⟩
  · obtain ⟨r, hr, h⟩ := paired_mem pm v hv
    exact row3_deep h (menu_8 _ (im r hr))
  · obtain ⟨r, hr, h⟩ := paired_mem pc v hv
    exact row3_deep h (menu_8 _ (ic r hr))
  · obtain ⟨r, hr, h⟩ := paired_mem ps v hv
    exact row2_deep h (menu_8 _ (is r hr))
  · obtain ⟨r, hr, h⟩ := paired_mem pp v hv
    exact rowP_deep h (menu_8 _ (ip r hr)) (by have := (g.pb r hr).1; omega)
  · refine fwAt_none (fun v hv => ?_) (by omega) (by rw [em]; exact nd0)
    obtain ⟨r, hr, h⟩ := paired_mem pm v hv
    obtain ⟨a, b, c⟩ := g.mb r hr
    exact row3_right h (menu_w _ (im r hr)) a b c
  · refine fwAt_none (fun v hv => ?_) (by omega) (by rw [em, ec]; exact nd1)
    obtain ⟨r, hr, h⟩ := paired_mem pc v hv
    obtain ⟨a, b, c⟩ := g.cb r hr
    exact row3_right h (menu_w _ (ic r hr)) a b c
  · refine fwAt_none (fun v hv => ?_) (by omega) (by rw [List.map_append, em, ec, es]; exact nd2)
    obtain ⟨r, hr, h⟩ := paired_mem ps v hv
    obtain ⟨a, b⟩ := g.sb r hr
    exact row2_right h (menu_w _ (is r hr)) a b
  · refine fwAt_none (fun v hv => ?_) (by omega) (by rw [List.map_append, List.map_append, em, ec, es, ep]; exact nd3)
    obtain ⟨r, hr, h⟩ := paired_mem pp v hv
    obtain ⟨a, b⟩ := g.pb r hr
    exact rowP_right h (menu_w _ (ip r hr)) (by omega) b
theorem good_told {W : Wd} (g : Good W) : Told W := by
  have g2 := g.m2
  have g3 := g.c2
  have g5 := g.s2
  have g7 := g.p2
  refine ⟨by omega, by omega, by omega, by omega, fun r hr => ?_, fun r hr => ?_, fun r hr => ?_, fun r hr => ?_⟩
  · obtain ⟨a, b, c⟩ := g.mb r hr
    exact ⟨menu_8 _ (g.nm _ (List.mem_append_left _ (List.mem_map_of_mem hr))), a, b, by omega⟩
  · obtain ⟨a, b, c⟩ := g.cb r hr
    exact ⟨menu_8 _ (g.nm _ (List.mem_append_right _ (List.mem_append_left _ (List.mem_map_of_mem hr)))), a, b, by omega⟩
  · obtain ⟨a, b⟩ := g.sb r hr
    exact ⟨menu_8 _ (g.nm _ (List.mem_append_right _ (List.mem_append_right _ (List.mem_append_left _ (List.mem_map_of_mem hr))))), a, b⟩
  · obtain ⟨a, b⟩ := g.pb r hr
    exact ⟨menu_8 _ (g.nm _ (List.mem_append_right _ (List.mem_append_right _ (List.mem_append_right _ (List.mem_map_of_mem hr))))), by omega, b⟩
end
end LJ
set_option Elab.async false
set_option linter.all false
set_option maxRecDepth 100000
set_option maxHeartbeats 8000000
namespace LJ
open PySem PySem.Spec L2
open LamX (ExtN)
open NdefX (NTab TabsN)
abbrev sBuilt : Stmt := top 62
def spBuilt (C : Addr) (T : List NTab) : Sp := fun vs H Q _ => ∃ (p : Addr) (W : Wd), vs = [.ref p] ∧ WorldAt H p W ∧ Good W ∧ TabsN T H ∧
  ∀ (x am ac as ap : Addr) (H1 : Hp), ExtN H H1 → H x = none → TabsN T H1 → WorksAt C H1 x am ac as ap W → Q (.ref x) H1
section
variable {P : Program} {w : World} {K : PySem.W.Frag} {mg : Str → Option Value} {base : Heap}
theorem scBuilt : FnScope ["_law_world_here"] ["_law_world_here"] (defScope sBuilt) := ⟨rfl, rfl, rfl, by decide +kernel, rfl, by decide +kernel, by decide +kernel⟩
theorem ok_built {f fI C : Addr} {fd fdI : FuncData} {T : List NTab} (F : Fun K "_law_built" "_law_built" sBuilt f fd) (BT : mg "tuple" = none) (M : Mk K C fI) (mW : mg "Works" = some (.ref C))
    (GI : FnOk P w K mg base CX0 7 fI fdI pInit (spInit K C T)) (bI : Binds K fdI pInit []) :
    FnOk P w K mg base CX0 9 f fd ["_law_world_here"] (spBuilt C T) := by
  refine F.ok scBuilt (fun vs H Q E h => ?_) (fun cdv A outer s H vs Q E hr h => ?_)
  · obtain ⟨p, W, rfl, _⟩ := h
    rfl
  · obtain ⟨p, W, rfl, ⟨a, b, c, d, va, vb, vc, vd, hp, ha, pa, hb, pb, hc, pc, hd, pd⟩, g, tabs, q⟩ := h
    refine ⟨_, pss_one (ps_ret (pe_make M GI hr (by rfl) mW bI .nil pass0 (pa_cons (pe_tupleOf (by rfl) BT (pe_ix ix_list (pv 0) pe_int (fun _ _ => rfl))) (pa_cons (pe_tupleOf (by rfl) BT (pe_ix ix_list (pv 0) pe_int (fun _ _ => rfl)))
      (pa_cons (pe_tupleOf (by rfl) BT (pe_ix ix_list (pv 0) pe_int (fun _ _ => rfl))) (pa_cons (pe_tupleOf (by rfl) BT (pe_ix ix_list (pv 0) pe_int (fun _ _ => rfl))) pa_nil)))))), ?_⟩
    have at0 : atI [V.ref a, .ref b, .ref c, .ref d] 0 = some (.ref a) := atI_nat (j := 0) rfl
    have at1 : atI [V.ref a, .ref b, .ref c, .ref d] 1 = some (.ref b) := atI_nat (j := 1) rfl
    have at2 : atI [V.ref a, .ref b, .ref c, .ref d] 2 = some (.ref c) := atI_nat (j := 2) rfl
    have at3 : atI [V.ref a, .ref b, .ref c, .ref d] 3 = some (.ref d) := atI_nat (j := 3) rfl
    refine ⟨_, rfl, p, _, 0, _, rfl, rfl, SqL.of hp, at0, .inl ⟨a, va, rfl, SqL.of ha, fun am n1 => ?_⟩⟩
    have x1 : Ex H (upd H am (.tup va)) := Ex.refl.new n1
    have e1 : (upd H am (.tup va)) am = some (.tup va) := upd_same
    generalize upd H am (.tup va) = H1 at x1 e1 ⊢
    refine ⟨_, rfl, p, _, 1, _, rfl, rfl, SqL.of (x1 _ _ hp), at1, .inl ⟨b, vb, rfl, SqL.of (x1 _ _ hb), fun ac n2 => ?_⟩⟩
    have x2 : Ex H1 (upd H1 ac (.tup vb)) := Ex.refl.new n2
    have e2 : (upd H1 ac (.tup vb)) ac = some (.tup vb) := upd_same
    generalize upd H1 ac (.tup vb) = H2 at x2 e2 ⊢
    have y2 := x1.trans x2
    refine ⟨_, rfl, p, _, 2, _, rfl, rfl, SqL.of (y2 _ _ hp), at2, .inl ⟨c, vc, rfl, SqL.of (y2 _ _ hc), fun as n3 => ?_⟩⟩
    have x3 : Ex H2 (upd H2 as (.tup vc)) := Ex.refl.new n3
    have e3 : (upd H2 as (.tup vc)) as = some (.tup vc) := upd_same
    generalize upd H2 as (.tup vc) = H3 at x3 e3 ⊢
    have y3 := y2.trans x3
    refine ⟨_, rfl, p, _, 3, _, rfl, rfl, SqL.of (y3 _ _ hp), at3, .inl ⟨d, vd, rfl, SqL.of (y3 _ _ hd), fun ap n4 => ?_⟩⟩
    have x4 : Ex H3 (upd H3 ap (.tup vd)) := Ex.refl.new n4
    have e4 : (upd H3 ap (.tup vd)) ap = some (.tup vd) := upd_same
    generalize upd H3 ap (.tup vd) = H4 at x4 e4 ⊢
    have y4 := y3.trans x4
    intro x dx nx ndx ne
    have x5 : Ex H4 (upd (upd H4 dx (.own x)) x (.ins C dx [])) := (Ex.refl.new ndx).new (by rw [upd_ne ne.symm]; exact nx)
    have e5 : (upd (upd H4 dx (.own x)) x (.ins C dx [])) x = some (.ins C dx []) := upd_same
    generalize upd (upd H4 dx (.own x)) x (.ins C dx []) = H5 at x5 e5 ⊢
    have y5 := y4.trans x5
    have tt := Ex.tup y5
    refine ⟨x, dx, am, ac, as, ap, va, vb, vc, vd, W, rfl, e5, good_fit g (x5 _ _ (x4 _ _ (x3 _ _ (x2 _ _ e1)))) (x5 _ _ (x4 _ _ (x3 _ _ e2))) (x5 _ _ (x4 _ _ e3)) (x5 _ _ e4) (rows3 tt pa) (rows3 tt pb) (rows2 tt pc) (rowsP tt pd), rows3 tt pa, rows3 tt pb, rows2 tt pc, rowsP tt pd, good_told g, fun r hr => (g.pb r hr).1, TabsN.exs tabs y5, fun H6 keep t6 at6 => ⟨rfl, ?_⟩⟩
    have hxn : H x = none := y4.gone nx
    refine q x am ac as ap H6 (fun b o e nt => keep b o (fun z => ?_) (y5 _ _ e) nt) hxn t6 at6
    rw [z, hxn] at e
    cases e
end
end LJ
set_option Elab.async false
set_option linter.all false
set_option maxRecDepth 100000
set_option maxHeartbeats 8000000
namespace LJ
open PySem PySem.Spec L2
open LamX (ExtN)
open NdefX (NTab TabsN)
structure Data4 (H : Hp) (am ac as ap : Addr) (W : Wd) : Prop where
  m : ∃ v, H am = some (.tup v) ∧ Paired (Row3 H) v W.ms
  c : ∃ v, H ac = some (.tup v) ∧ Paired (Row3 H) v W.cs
  s : ∃ v, H as = some (.tup v) ∧ Paired (Row2 H) v W.ss
  p : ∃ v, H ap = some (.tup v) ∧ Paired (RowP H) v W.ps
def spBuiltD (C : Addr) (T : List NTab) : Sp := fun vs H Q _ => ∃ (p : Addr) (W : Wd), vs = [.ref p] ∧ WorldAt H p W ∧ Good W ∧ TabsN T H ∧
  ∀ (x am ac as ap : Addr) (H1 : Hp), ExtN H H1 → H x = none → TabsN T H1 → WorksAt C H1 x am ac as ap W → Data4 H1 am ac as ap W → Q (.ref x) H1
section
variable {P : Program} {w : World} {K : PySem.W.Frag} {mg : Str → Option Value} {base : Heap}
theorem scBuiltD : FnScope ["_law_world_here"] ["_law_world_here"] (defScope sBuilt) := ⟨rfl, rfl, rfl, by decide +kernel, rfl, by decide +kernel, by decide +kernel⟩
theorem ok_builtD {f fI C : Addr} {fd fdI : FuncData} {T : List NTab} (F : Fun K "_law_built" "_law_built" sBuilt f fd) (BT : mg "tuple" = none) (M : Mk K C fI) (mW : mg "Works" = some (.ref C))
    (GI : FnOk P w K mg base CX0 7 fI fdI pInit (spInit K C T)) (bI : Binds K fdI pInit []) :
    FnOk P w K mg base CX0 9 f fd ["_law_world_here"] (spBuiltD C T) := by
  refine F.ok scBuiltD (fun vs H Q E h => ?_) (fun cdv A outer s H vs Q E hr h => ?_)
  · obtain ⟨p, W, rfl, _⟩ := h
    rfl
  · obtain ⟨p, W, rfl, ⟨a, b, c, d, va, vb, vc, vd, hp, ha, pa, hb, pb, hc, pc, hd, pd⟩, g, tabs, q⟩ := h
    refine ⟨_, pss_one (ps_ret (pe_make M GI hr (by rfl) mW bI .nil pass0 (pa_cons (pe_tupleOf (by rfl) BT (pe_ix ix_list (pv 0) pe_int (fun _ _ => rfl))) (pa_cons (pe_tupleOf (by rfl) BT (pe_ix ix_list (pv 0) pe_int (fun _ _ => rfl)))
      (pa_cons (pe_tupleOf (by rfl) BT (pe_ix ix_list (pv 0) pe_int (fun _ _ => rfl))) (pa_cons (pe_tupleOf (by rfl) BT (pe_ix ix_list (pv 0) pe_int (fun _ _ => rfl))) pa_nil)))))), ?_⟩
    have at0 : atI [V.ref a, .ref b, .ref c, .ref d] 0 = some (.ref a) := atI_nat (j := 0) rfl
    have at1 : atI [V.ref a, .ref b, .ref c, .ref d] 1 = some (.ref b) := atI_nat (j := 1) rfl
    have at2 : atI [V.ref a, .ref b, .ref c, .ref d] 2 = some (.ref c) := atI_nat (j := 2) rfl
    have at3 : atI [V.ref a, .ref b, .ref c, .ref d] 3 = some (.ref d) := atI_nat (j := 3) rfl
    refine ⟨_, rfl, p, _, 0, _, rfl, rfl, SqL.of hp, at0, .inl ⟨a, va, rfl, SqL.of ha, fun am n1 => ?_⟩⟩
    have x1 : Ex H (upd H am (.tup va)) := Ex.refl.new n1
    have e1 : (upd H am (.tup va)) am = some (.tup va) := upd_same
    generalize upd H am (.tup va) = H1 at x1 e1 ⊢
    refine ⟨_, rfl, p, _, 1, _, rfl, rfl, SqL.of (x1 _ _ hp), at1, .inl ⟨b, vb, rfl, SqL.of (x1 _ _ hb), fun ac n2 => ?_⟩⟩
    have x2 : Ex H1 (upd H1 ac (.tup vb)) := Ex.refl.new n2
    have e2 : (upd H1 ac (.tup vb)) ac = some (.tup vb) := upd_same
    generalize upd H1 ac (.tup vb) = H2 at x2 e2 ⊢
    have y2 := x1.trans x2
    refine ⟨_, rfl, p, _, 2, _, rfl, rfl, SqL.of (y2 _ _ hp), at2, .inl ⟨c, vc, rfl, SqL.of (y2 _ _ hc), fun as n3 => ?_⟩⟩
    have x3 : Ex H2 (upd H2 as (.tup vc)) := Ex.refl.new n3
    have e3 : (upd H2 as (.tup vc)) as = some (.tup vc) := upd_same
    generalize upd H2 as (.tup vc) = H3 at x3 e3 ⊢
    have y3 := y2.trans x3
    refine ⟨_, rfl, p, _, 3, _, rfl, rfl, SqL.of (y3 _ _ hp), at3, .inl ⟨d, vd, rfl, SqL.of (y3 _ _ hd), fun ap n4 => ?_⟩⟩
    have x4 : Ex H3 (upd H3 ap (.tup vd)) := Ex.refl.new n4
    have e4 : (upd H3 ap (.tup vd)) ap = some (.tup vd) := upd_same
    generalize upd H3 ap (.tup vd) = H4 at x4 e4 ⊢
    have y4 := y3.trans x4
    intro x dx nx ndx ne
    have x5 : Ex H4 (upd (upd H4 dx (.own x)) x (.ins C dx [])) := (Ex.refl.new ndx).new (by rw [upd_ne ne.symm]; exact nx)
    have e5 : (upd (upd H4 dx (.own x)) x (.ins C dx [])) x = some (.ins C dx []) := upd_same
    generalize upd (upd H4 dx (.own x)) x (.ins C dx []) = H5 at x5 e5 ⊢
    have y5 := y4.trans x5
    have tt := Ex.tup y5
    have hm5 := x5 _ _ (x4 _ _ (x3 _ _ (x2 _ _ e1)))
    have hc5 := x5 _ _ (x4 _ _ (x3 _ _ e2))
    have hs5 := x5 _ _ (x4 _ _ e3)
    have hp5 := x5 _ _ e4
    refine ⟨x, dx, am, ac, as, ap, va, vb, vc, vd, W, rfl, e5, good_fit g (x5 _ _ (x4 _ _ (x3 _ _ (x2 _ _ e1)))) (x5 _ _ (x4 _ _ (x3 _ _ e2))) (x5 _ _ (x4 _ _ e3)) (x5 _ _ e4) (rows3 tt pa) (rows3 tt pb) (rows2 tt pc) (rowsP tt pd), rows3 tt pa, rows3 tt pb, rows2 tt pc, rowsP tt pd, good_told g, fun r hr => (g.pb r hr).1, TabsN.exs tabs y5, fun H6 keep t6 at6 => ⟨rfl, ?_⟩⟩
    have hxn : H x = none := y4.gone nx
    have far : ∀ {b : Addr} {xs : List V}, H5 b = some (.tup xs) → H6 b = some (.tup xs) := fun {b xs} e => keep b _ (ne_of e e5 fun z => nomatch z) e fun _ z => nomatch z
    have t56 : Tup H5 H6 := fun a xs e => far e
    refine q x am ac as ap H6 (fun b o e nt => keep b o (fun z => ?_) (y5 _ _ e) nt) hxn t6 at6 ⟨⟨va, far hm5, rows3 t56 (rows3 tt pa)⟩, ⟨vb, far hc5, rows3 t56 (rows3 tt pb)⟩, ⟨vc, far hs5, rows2 t56 (rows2 tt pc)⟩, ⟨vd, far hp5, rowsP t56 (rowsP tt pd)⟩⟩
    rw [z, hxn] at e
    cases e
end
end LJ
set_option Elab.async false
set_option linter.all false
set_option maxRecDepth 100000
set_option maxHeartbeats 4000000
/-! Static methods called by their class; own ==, != with both answers; str, repr and truth of own objects. -/
namespace OwnX
open PySem PySem.Spec PyProof.Rows L2
/-- m is a static method of C, the def at g -/
structure SMet (K : PySem.W.Frag) (C : Addr) (mc : Value) (m : Str) (p g : Addr) : Prop where
  ty : PySem.W.typeIn K (.ref C) = some mc
  at_ : PySem.W.findCls K (.ref C) mc m = some (.get (.builtin "staticmethod.__get__") (.ref p) .none (.ref C))
  rc : ∃ rest, PySem.W.recIn K p "staticmethod" = some (.ref g :: rest)
  kp : PySem.W.keepIn K (.ref g) = true
def tSMeth (C : Addr) (sp : Sp) (dvs : List V) (E : XK) (ta : TE) (t : TA) : TE := fun σ H Q => ta σ H fun x H1 => x = .ref C ∧ t σ H1 fun vs H2 => sp (vs ++ dvs) H2 Q E
def tSMethK (C : Addr) (sp : Sp) (n : Nat) (gV : List V → List V → List V) (E : XK) (ta : TE) (t : TA) : TE := fun σ H Q => ta σ H fun x H1 => x = .ref C ∧ t σ H1 fun zs H2 => zs.length = n ∧ sp (gV [] zs) H2 Q E
section
variable {X : Cx} {CX : CXT} {k : Nat} {p C g : Addr} {fd : FuncData} {ps ks : List Str} {sp : Sp} {dvs : List V} {ds : List Value} {mc : Value} {E : XK} {m : Str} {pos apos : Pos} {o e : Expr} {es : List Expr} {ta : TE} {t tk : TA} {kws : List Keyword} {gg : List Value → List Value → List Value} {gV : List V → List V → List V}
theorem getmeth_sm {pins : List (Addr × Obj)} {σ : L2.St} {H : Hp} {s : Shared} {A : Around} {E : Value → Shared → Prop} {pl : Sem Bool} {Q : Value × List Value → Shared → Prop}
    (I : Inv X pins σ H s) (r : ClX.CRead X.K C mc) (c : SMet X.K C mc m p g) (q : Q (.ref g, []) { s with toks := s.toks + 1 }) : wpAny (model X.prog X.w) A (getMethod (.ref C) m pl) Q E s := by
  obtain ⟨m1, fr⟩ := I.fr
  obtain ⟨rest, hrc⟩ := c.rc
  unfold getMethod
  refine wpAny_bind ((PySem.W.looks_specialIn I.kIn r.ga).at ?_)
  show wpAny _ _ (if (Manifest.canonical "type.__getattribute__" != "object.__getattribute__") = true then _ else _) _ _ _
  rw [if_pos (by decide +kernel)]
  refine wpAny_bind (PySem.W.cls_sm fr I.ok.mod.kin c.ty r.rd c.at_ hrc rfl ?_)
  exact wpAny_pure q
/-- C.m(e, ..) -/
theorem pe_smeth {pl : Sem Bool} (he : PE X o ta) (r : ClX.CRead X.K C mc) (c : SMet X.K C mc m p g) (F : FnOk X.prog X.w X.K X.mg X.base CX k g fd ps sp) (hr : Room k X.A) (hb : Binds X.K fd ps ds) (hd : Vals dvs ds) (hx : Passes CX X E) (ha : PA X (e :: es) t)
    (hs : starEach (e :: es) X.env = (false, eval e X.env) :: starEach es X.env := by rfl) (hp : (backTo pos (starEach es X.env)).any (·.1) = false := by rfl)
    (ht : eval (.Call (.Attribute o m apos) (e :: es) [] pos) X.env = (do
      let ov ← eval o X.env
      standAt apos.atName
      let (f, first) ← holding [ov] (getMethod ov m pl)
      callWith pos f first (backTo pos (starEach (e :: es) X.env)) (backToKw pos (keywordEach [] X.env))) := by rfl) :
    PE X (.Call (.Attribute o m apos) (e :: es) [] pos) (tSMeth C sp dvs E ta t) := by
  refine ⟨fun pins s σ H Q I h => ?_⟩
  refine PySem.W.methodCall_KW (pl := pl) (thn (he.run pins s σ H _ I h) fun u s1 ⟨x, H1, I1, rx, ex, q⟩ => ?_) ht
  subst ex
  obtain rfl : u = Value.ref C := rx
  refine getmeth_sm I1 r c ?_
  refine PySem.W.callWith_K (first := []) (h₀ := X.base) I.ok.mod.kin c.kp ?_ hs hp
  refine thn (ha.run pos pins _ σ H1 _ (I1.tok _) q) fun us s2 ⟨vs, H2, I2, rz, q2⟩ => ⟨I2.kIn, ?_⟩
  have r2 : Vals (vs ++ dvs) (us ++ ds) := Vals.append rz hd
  have l2 : (us ++ ds).length = ps.length := r2.length.symm.trans (F.len _ _ _ _ q2)
  refine wpAny_call (codeAny_mono (F.run X.A X.stack s2 H2 ⟨us, []⟩ (us ++ ds) (vs ++ dvs) Q E hr I2.env0 (hb s2 us I2.kIn l2) r2 q2) fun r s3 hq => ?_)
  cases r with
  | error e => exact hx pins σ H2 s2 e s3 I2 hq
  | ok fl =>
    cases fl with
    | ret u => exact I2.after hq
    | next => exact False.elim hq
    | brk => exact False.elim hq
    | cont => exact False.elim hq
/-- C.m(k = v, ..) -/
theorem pe_smethK {pl : Sem Bool} (he : PE X o ta) (r : ClX.CRead X.K C mc) (c : SMet X.K C mc m p g) (F : FnOk X.prog X.w X.K X.mg X.base CX k g fd ps sp) (hr : Room k X.A) (hb : KBn X.K fd ps 0 ks gg gV) (hx : Passes CX X E) (hkw : PK X kws tk)
    (hall : (backToKw pos (keywordEach kws X.env)).all (·.1.isSome) = true := by rfl) (hks : (backToKw pos (keywordEach kws X.env)).filterMap (·.1) = ks := by rfl)
    (hpl : ((backTo pos (starEach [] X.env)).any (·.1) || (backToKw pos (keywordEach kws X.env)).any (·.1.isNone)) = false := by rfl)
    (ht : eval (.Call (.Attribute o m apos) [] kws pos) X.env = (do
      let ov ← eval o X.env
      standAt apos.atName
      let (f, first) ← holding [ov] (getMethod ov m pl)
      callWith pos f first (backTo pos (starEach [] X.env)) (backToKw pos (keywordEach kws X.env))) := by rfl) :
    PE X (.Call (.Attribute o m apos) [] kws pos) (tSMethK C sp ks.length gV E ta tk) := by
  refine ⟨fun pins s σ H Q I h => ?_⟩
  refine PySem.W.methodCall_KW (pl := pl) (thn (he.run pins s σ H _ I h) fun u s1 ⟨x, H1, I1, rx, ex, q⟩ => ?_) ht
  subst ex
  obtain rfl : u = Value.ref C := rx
  refine getmeth_sm I1 r c ?_
  refine PySem.W.callWith_KW0 (first := []) (h₀ := X.base) I.ok.mod.kin c.kp hall ?_ hpl
  refine thn (hkw.run pos pins _ σ H1 _ (I1.tok _) q) fun ws s2 ⟨zs, H2, I2, rz, l2, q2⟩ => ⟨I2.kIn, ?_⟩
  rw [hks]
  show wpAny _ _ (call (.ref g) [] (ks.zip ws)) _ _ _
  have e2 : ws.length = ks.length := rz.length.symm.trans l2
  have r1 : Vals ([] : List V) ([] : List Value) := .nil
  refine wpAny_call (codeAny_mono (F.run X.A X.stack s2 H2 ⟨[], ks.zip ws⟩ (gg [] ws) (gV [] zs) Q E hr I2.env0 (hb.to s2 [] ws I2.kIn rfl e2) (hb.rel r1 rz) q2) fun r s3 hq => ?_)
  cases r with
  | error e => exact hx pins σ H2 s2 e s3 I2 hq
  | ok fl =>
    cases fl with
    | ret u => exact I2.after hq
    | next => exact False.elim hq
    | brk => exact False.elim hq
    | cont => exact False.elim hq
end
end OwnX
set_option Elab.async false
set_option linter.all false
set_option maxRecDepth 100000
set_option maxHeartbeats 4000000
namespace OwnX
open PySem PySem.Spec PyProof.Rows L2
section
variable {X : Cx} {CX : CXT} {k : Nat} {C f : Addr} {fd : FuncData} {sp : Sp} {E : XK} {pins : List (Addr × Obj)} {s : Shared} {σ : L2.St} {H : Hp}
/-- the instance as the machine sees it -/
theorem inst_of (I : Inv X pins σ H s) {a dx : Addr} {fs : List (Str × V)} (h : H a = some (.ins C dx fs)) : ∃ od, PySem.W.InstAt s.heap a (PySem.W.instObj C dx) C (some od) := by
  have z := I.hok a _ h
  unfold ObjOk at z
  obtain ⟨h1, h2, h3, h4, mA, h5, h6, h7⟩ := z
  obtain ⟨od, h8, _⟩ := ObjM.look ⟨h4, h5, h3⟩
  exact ⟨od, h8⟩
/-- the other side: of the same class, or a text -/
def OSide (K : PySem.W.Frag) (C : Addr) (H : Hp) (y : V) : Prop := (∃ a2 dx2 fs2, y = .ref a2 ∧ H a2 = some (.ins C dx2 fs2)) ∨ (∃ z, y = .str z) ∧ PySem.W.subIn K (.type "str") (.ref C) = some false
def rEqO (K : PySem.W.Frag) (C : Addr) (sp : Sp) (E : XK) : R2 := fun x y H Q => ∃ a dx fs, x = .ref a ∧ H a = some (.ins C dx fs) ∧ OSide K C H y ∧ sp [x, y] H (fun v H1 => ∃ b, v = .bl b ∧ Q (.bl b) H1) E
theorem op_eqO (c : Meth X.K C "__eq__" f) (F : FnOk X.prog X.w X.K X.mg X.base CX k f fd ["self", "other"] sp) (hr : Room k X.A) (hu : X.A.units + 1 < cLine) (hb : Binds X.K fd ["self", "other"] []) (hx : Passes CX X E) : OpR X (compareOp .Eq) (rEqO X.K C sp E) := by
  rintro pins s σ H x y v u Q I rx ry ⟨a, dx, fs, rfl, ha, hy, q⟩
  obtain rfl : v = Value.ref a := rx
  obtain ⟨od, J⟩ := inst_of I ha
  obtain ⟨m1, fr⟩ := I.fr
  have rv : Vals [V.ref a, y] [Value.ref a, u] := .cons rfl (.cons ry .nil)
  have go : wpAny (model X.prog X.w) X.A (call (.ref f) [.ref a, u]) (PySem.W.CmpBack (EP X pins σ Q)) X.xe s := by
    refine wpAny_call (codeAny_mono (F.run X.A X.stack s H ⟨[.ref a, u], []⟩ [.ref a, u] [.ref a, y] _ E hr I.env0 (hb s [.ref a, u] I.kIn rfl) rv q) fun r s3 hq => ?_)
    cases r with
    | error e => exact hx pins σ H s e s3 I hq
    | ok fl =>
      cases fl with
      | ret u3 =>
        obtain ⟨v3, H3, I3, r3, b, rfl, q3⟩ := I.after hq
        obtain rfl : u3 = Value.bool b := r3
        exact ⟨.bl b, H3, I3, rfl, q3⟩
      | next => exact False.elim hq
      | brk => exact False.elim hq
      | cont => exact False.elim hq
  have hu1 : X.A.units < cLine := by omega
  rcases hy with ⟨a2, dx2, fs2, rfl, h2⟩ | ⟨⟨z, rfl⟩, hz⟩
  · obtain rfl : u = Value.ref a2 := ry
    obtain ⟨od2, J2⟩ := inst_of I h2
    refine PySem.W.cmp_ofEq (PySem.W.cmp_K (h₀ := X.base) (tb := .ref C) hu1 fr I.ok.mod.kin J ?_ ?_ c.at_ c.fn go)
    · intro A Q E s1 kk qq
      exact wpAny_typeOf_ref (kk _ _ J2.at_) (by rw [J2.cls]; exact qq)
    · unfold PySem.W.notFirst
      rw [show ((Value.ref C : Value) == Value.ref C) = true from by simp]
      rfl
  · obtain ⟨t, rfl⟩ : ∃ t, u = Value.str z t := ry
    refine PySem.W.cmp_ofEq (PySem.W.cmp_K (h₀ := X.base) (tb := .type "str") hu1 fr I.ok.mod.kin J ?_ ?_ c.at_ c.fn go)
    · intro A Q E s1 kk qq
      exact wpAny_of_eq rfl qq
    · unfold PySem.W.notFirst
      rw [hz]
      rfl
end
end OwnX
set_option Elab.async false
set_option linter.all false
set_option maxRecDepth 100000
set_option maxHeartbeats 4000000
namespace OwnX
open PySem PySem.Spec PyProof.Rows L2
section
variable {X : Cx} {CX : CXT} {k : Nat} {C f : Addr} {fd : FuncData} {sp : Sp} {E : XK} {pins : List (Addr × Obj)} {s : Shared} {σ : L2.St} {H : Hp}
def rNeO (C : Addr) (sp : Sp) (E : XK) : R2 := fun x y H Q => ∃ a dx fs a2 dx2 fs2, x = .ref a ∧ y = .ref a2 ∧ H a = some (.ins C dx fs) ∧ H a2 = some (.ins C dx2 fs2) ∧ sp [x, y] H (fun v H1 => ∃ b, v = .bl b ∧ Q (.bl !b) H1) E
theorem op_neO (c : Meth X.K C "__eq__" f) (hn : PySem.W.findIn X.K (.ref C) "__ne__" = some (some (.builtin "object.__ne__"))) (so : PySem.W.subIn X.K (.ref C) (.type "object") = some true) (G : FnOk X.prog X.w X.K X.mg X.base CX k f fd ["self", "other"] sp) (hr : Room (k + 1) X.A) (hb : Binds X.K fd ["self", "other"] []) (hx : Passes CX X E) : OpR X (compareOp .NotEq) (rNeO C sp E) := by
  rintro pins s σ H x y v u Q I rx ry ⟨a, dx, fs, a2, dx2, fs2, rfl, rfl, ha, h2, q⟩
  obtain rfl : v = Value.ref a := rx
  obtain rfl : u = Value.ref a2 := ry
  obtain ⟨od, J⟩ := inst_of I ha
  obtain ⟨od2, J2⟩ := inst_of I h2
  have rv : Vals [V.ref a, V.ref a2] [Value.ref a, Value.ref a2] := .cons rfl (.cons rfl .nil)
  have ty : PySem.W.Looks (model X.prog X.w) s.heap (typeOf (.ref a)) (.ref C) := fun A Q E s1 kk qq => wpAny_typeOf_ref (kk _ _ J.at_) (by rw [J.cls]; exact qq)
  have ty2 : PySem.W.Looks (model X.prog X.w) s.heap (typeOf (.ref a2)) (.ref C) := fun A Q E s1 kk qq => wpAny_typeOf_ref (kk _ _ J2.at_) (by rw [J2.cls]; exact qq)
  have hu1 : X.A.units < cLine := by have := hr.un; omega
  have go : wpAny (model X.prog X.w) X.A.in1 (call (.ref f) [.ref a, .ref a2]) (fun v s' => ∃ b, v = .bool b ∧ EP X pins σ Q (.bool !b) s') X.xe s := by
    refine wpAny_call (codeAny_mono (G.run X.A.in1 X.stack s H ⟨[.ref a, .ref a2], []⟩ [.ref a, .ref a2] [.ref a, .ref a2] _ E ?_ ?_ (hb s [.ref a, .ref a2] I.kIn rfl) rv q) fun r s3 hq => ?_)
    · exact ⟨hr.hd, by have := hr.dp; show X.A.depth + 3 * k + 5 < recursionLimit; omega, by have := hr.un; show X.A.units + 1 + 16 * k + 200 < cLine; omega⟩
    · obtain ⟨e1, e2, e3, e4, e5, e6, e7, e8⟩ := I.env0
      exact ⟨e1, e2, e3, e4, e5, e6, e7, e8⟩
    cases r with
    | error e => exact hx pins σ H s e s3 I hq
    | ok fl =>
      cases fl with
      | ret u3 =>
        obtain ⟨v3, H3, I3, r3, b, rfl, q3⟩ := I.after hq
        obtain rfl : u3 = Value.bool b := r3
        exact ⟨b, rfl, .bl !b, H3, I3, rfl, q3⟩
      | next => exact False.elim hq
      | brk => exact False.elim hq
      | cont => exact False.elim hq
  refine PySem.W.cmp_ofNotEq ?_
  unfold richCompare
  refine wpAny_holding (wpAny_bind (wpAny_cRoomFor hu1 ?_))
  show wpAny _ _ (typeOf (.ref a) >>= fun ta => typeOf (.ref a2) >>= fun tb => _) _ _ _
  refine wpAny_bind (ty.at (wpAny_bind (ty2.at ?_)))
  rw [if_neg (by simp)]
  refine wpAny_bind (wpAny_pure ?_)
  dsimp only
  rw [if_neg (by decide)]
  refine wpAny_bind ?_
  unfold tryCompare
  refine wpAny_bind ?_
  have bs : ∀ self, bindSpecial (.builtin "object.__ne__") self = pure (.builtin "object.__ne__", [self]) := fun self => by rfl
  have fnd := PySem.W.looks_findIn (M := model X.prog X.w) I.kIn hn
  unfold callSpecialIfBound? bindSpecialIfBound? specialOf
  refine wpAny_holding (wpAny_bind (wpAny_bind (wpAny_bind (ty.at (fnd.at ?_)))))
  refine wpAny_bind (wpAny_askSetting ?_)
  have both : ∀ {c : Bool} {Q1 : Option (Value × List Value) → Shared → Prop}, Q1 (some (.builtin "object.__ne__", [.ref a])) s → wpAny (model X.prog X.w) X.A (if c = true then (do
        let z ← bindSpecial (Value.builtin "object.__ne__") (Value.ref a)
        pure (some z)) else ((do
        let z ← bindSpecial (Value.builtin "object.__ne__") (Value.ref a)
        pure (some z)).tryCatch fun _ => do
          rule "special.get-raises-dropped"
          pure none)) Q1 X.xe s := by
    intro c Q1 h
    have one : ∀ E, wpAny (model X.prog X.w) X.A (do
        let z ← bindSpecial (Value.builtin "object.__ne__") (Value.ref a)
        pure (some z)) Q1 E s := fun E => by
      rw [bs]
      exact wpAny_bind (wpAny_pure (wpAny_pure h))
    cases c
    · exact wpAny_tryCatch (one _)
    · exact one _
  refine both ?_
  refine wpAny_bind ?_
  show wpAny _ _ (call (.builtin "object.__ne__") [.ref a, .ref a2]) _ _ _
  have of_obj : PySem.W.Looks (model X.prog X.w) s.heap (isInstance (.ref a) (.type "object")) true := ty.andThen (PySem.W.looks_subIn I.kIn so)
  refine wpAny_call (codeAny_call_builtin (by decide +kernel) F.entry_object_ne (PySem.W.check_slot (owner := "object") (n := "__ne__") (by decide +kernel) (by decide +kernel) of_obj (F.args_object_ne_2 _ _) ?_))
  unfold Builtin.«object.__ne__»
  refine wpAny_bind (wpAny_of_eq (a := ((Value.ref a : Value), [Value.ref a2])) (by first | rfl | (simp only [slotArgs]; rfl)) ?_)
  refine wpAny_bind (wpAny_cRoomFor (by have := hr.un; show X.A.units + 1 < cLine; omega) ?_)
  refine wpAny_bind (PySem.W.ifBound_K I.kIn J c.at_ c.fn (thn go fun v s1 h => ?_))
  obtain ⟨b, rfl, h⟩ := h
  refine wpAny_bind (wpAny_pure ?_)
  refine wpAny_pure ?_
  exact wpAny_pure (wpAny_pure (wpAny_pure h))
end
end OwnX
set_option Elab.async false
set_option linter.all false
set_option maxRecDepth 100000
set_option maxHeartbeats 4000000
namespace OwnX
open PySem PySem.Spec PyProof.Rows L2
section
variable {X : Cx} {CX : CXT} {k : Nat} {C f : Addr} {fd : FuncData} {sp : Sp} {E : XK} {pins : List (Addr × Obj)} {s : Shared} {σ : L2.St} {H : Hp}
/-- str(o), repr(o) by a def of the class -/
def rTxtO (C : Addr) (sp : Sp) (E : XK) : List V → Hp → VK → Prop := fun xs H Q => ∃ a dx fs, xs = [.ref a] ∧ H a = some (.ins C dx fs) ∧ sp [.ref a] H (fun v H1 => ∃ z, v = .str z ∧ Q (.str z) H1) E
theorem env_in (I : Inv X pins σ H s) {A : Around} (h : A.frames = X.A.frames) : Env0 X.prog X.w X.K X.mg X.base A X.stack s H := by
  obtain ⟨e1, e2, e3, e4, e5, e6, e7, e8⟩ := I.env0
  exact ⟨h.trans e1, e2, e3, e4, e5, e6, e7, e8⟩
theorem call_of (I : Inv X pins σ H s) {A : Around} {a : Addr} {Q : VK} (h : A.frames = X.A.frames) (hr : Room k A) (G : FnOk X.prog X.w X.K X.mg X.base CX k f fd ["self"] sp) (hb : Binds X.K fd ["self"] []) (hx : Passes CX X E)
    (q : sp [.ref a] H (fun v H1 => ∃ z, v = .str z ∧ Q (.str z) H1) E) : wpAny (model X.prog X.w) A (call (.ref f) [.ref a]) (PySem.W.StrBack (EP X pins σ Q)) X.xe s := by
  refine wpAny_call (codeAny_mono (G.run A X.stack s H ⟨[.ref a], []⟩ [.ref a] [.ref a] _ E hr (env_in I h) (hb s [.ref a] I.kIn rfl) (.cons rfl .nil) q) fun r s3 hq => ?_)
  cases r with
  | error e => exact hx pins σ H s e s3 I hq
  | ok fl =>
    cases fl with
    | ret u3 =>
      obtain ⟨v3, H3, I3, r3, z, rfl, q3⟩ := I.after hq
      obtain ⟨t, rfl⟩ : ∃ t, u3 = Value.str z t := r3
      exact ⟨.str z, H3, I3, ⟨t, rfl⟩, q3⟩
    | next => exact False.elim hq
    | brk => exact False.elim hq
    | cont => exact False.elim hq
theorem call_strO (c : Meth X.K C "__str__" f) (G : FnOk X.prog X.w X.K X.mg X.base CX k f fd ["self"] sp) (hr : Room (k + 1) X.A) (hb : Binds X.K fd ["self"] []) (hx : Passes CX X E) : CallR X (.type "str") (rTxtO C sp E) := by
  rintro pins s σ H xs us Q I r ⟨a, dx, fs, rfl, ha, q⟩
  obtain rfl : us = [Value.ref a] := by
    cases r with
    | cons r1 r2 =>
      cases r2
      cases (show _ = Value.ref a from r1)
      rfl
  obtain ⟨od, J⟩ := inst_of I ha
  have h1 := hr.un
  have h2 := hr.dp
  exact PySem.W.kso_call (by show X.A.units + 1 + 1 < cLine; omega) I.kIn J c.at_ c.fn (call_of I rfl ⟨hr.hd, by show X.A.depth + 3 * k + 5 < recursionLimit; omega, by show X.A.units + 1 + 1 + 16 * k + 200 < cLine; omega⟩ G hb hx q)
theorem call_reprO (c : Meth X.K C "__repr__" f) (G : FnOk X.prog X.w X.K X.mg X.base CX k f fd ["self"] sp) (hr : Room (k + 1) X.A) (hb : Binds X.K fd ["self"] []) (hx : Passes CX X E) : CallR X (.builtin "repr") (rTxtO C sp E) := by
  rintro pins s σ H xs us Q I r ⟨a, dx, fs, rfl, ha, q⟩
  obtain rfl : us = [Value.ref a] := by
    cases r with
    | cons r1 r2 =>
      cases r2
      cases (show _ = Value.ref a from r1)
      rfl
  obtain ⟨od, J⟩ := inst_of I ha
  have h1 := hr.un
  have h2 := hr.dp
  have ty : PySem.W.Looks (model X.prog X.w) s.heap (typeOf (.ref a)) (.ref C) := fun A Q E s1 kk qq => wpAny_typeOf_ref (kk _ _ J.at_) (by rw [J.cls]; exact qq)
  have fnd := PySem.W.looks_findIn (M := model X.prog X.w) I.kIn c.at_
  refine wpAny_call (codeAny_call_builtin (by decide +kernel) F.entry_repr (wpAny_of_eq (a := ()) (by rfl) ?_))
  unfold Builtin.repr
  refine wpAny_bind (wpAny_of_eq (a := (Value.ref a)) (by first | rfl | (simp only [oneArg]; rfl)) ?_)
  refine wpAny_bind (wpAny_cRoomFor (by show X.A.units + 1 < cLine; omega) ?_)
  unfold specialOf
  refine wpAny_bind (wpAny_bind (ty.at (fnd.at ?_)))
  refine wpAny_bind (PySem.W.ifBound_K I.kIn J c.at_ c.fn (thn (call_of I (A := X.A.in1) rfl ⟨hr.hd, by show X.A.depth + 3 * k + 5 < recursionLimit; omega, by show X.A.units + 1 + 16 * k + 200 < cLine; omega⟩ G hb hx q) fun v s1 h => ?_))
  cases v with
  | str z t =>
    refine wpAny_bind (wpAny_of_eq (a := true) (by rfl) ?_)
    exact wpAny_pure h
  | _ => exact False.elim h
/-- an own object is true -/
theorem pt_truthO {e : Expr} {ta : TE} (he : PE X e ta) (hb : PySem.W.findIn X.K (.ref C) "__bool__" = some none) (hl : PySem.W.findIn X.K (.ref C) "__len__" = some none)
    (ht : ∀ (whole : Sem Value), PySem.isTrue e X.env whole = do
          let v ← whole
          standAt e.pos
          holding [v] (truthy v)) : PT X e (fun σ H Q => ta σ H fun x H1 => ∃ a dx fs, x = .ref a ∧ H1 a = some (.ins C dx fs) ∧ Q true H1) := by
  refine ⟨fun pins s σ H Q I h => ?_⟩
  rw [ht]
  refine wpAny_bind (thn (he.run pins s σ H _ I h) fun u s1 ⟨x, H1, I1, rx, a, dx, fs, ex, ea, q⟩ => ?_)
  subst ex
  obtain rfl : u = Value.ref a := rx
  obtain ⟨od, J⟩ := inst_of I1 ea
  obtain ⟨m1, fr⟩ := I1.fr
  refine wpAny_bind (wpAny_standAt (wpAny_holding (PySem.W.truthy_K0 fr I1.ok.mod.kin J hb hl ⟨H1, I1, q⟩)))
end
end OwnX
set_option Elab.async false
set_option linter.all false
set_option maxRecDepth 100000
set_option maxHeartbeats 8000000
namespace LJ
open PySem PySem.Spec L2
open LamX (ExtN)
open NdefX (NTab TabsN)
open OwnX
/-! Works: its other methods. -/
abbrev sStr : Stmt := meth 12
abbrev sRepr : Stmt := meth 13
abbrev sEq : Stmt := meth 11
abbrev sRead : Stmt := meth 1
/-- an object of Works that has these words as its text -/
def TextOf (C : Addr) (H : Hp) (x : Addr) (z : Str) : Prop := ∃ dx fs, H x = some (.ins C dx fs) ∧ fs.lookup ("_text" : Str) = some (.str z)
def spStrW (C : Addr) : Sp := fun vs H Q _ => ∃ x z, vs = [.ref x] ∧ TextOf C H x z ∧ Q (.str z) H
def spEqW (C : Addr) : Sp := fun vs H Q _ => ∃ x z y, vs = [.ref x, y] ∧ TextOf C H x z ∧ ((∃ a z2, y = .ref a ∧ TextOf C H a z2 ∧ Q (.bl (decide (z = z2))) H) ∨ (∃ z2, y = .str z2 ∧ Q (.bl false) H))
def reprW (m p : Int) : Str := Str.empty ++ Str.ofString "Works of " ++ num m ++ Str.ofString " machines and " ++ num p ++ Str.ofString " products"
def spReprW (C : Addr) : Sp := fun vs H Q _ => ∃ x dx fs am ap vm vp, vs = [.ref x] ∧ H x = some (.ins C dx fs) ∧ fs.lookup ("_machines" : Str) = some (.ref am) ∧ fs.lookup ("_products" : Str) = some (.ref ap) ∧ H am = some (.tup vm) ∧ H ap = some (.tup vp) ∧ vm.length ≤ 100 ∧ vp.length ≤ 100 ∧ Q (.str (reprW vm.length vp.length)) H
/-- what isinstance asks of Works -/
structure WIns (K : PySem.W.Frag) (C : Addr) : Prop where
  c1 : PySem.W.findIn K (.ref C) "__class__" = some (some (.builtin "object.__class__"))
  c2 : PySem.W.specialIn K (.builtin "object.__class__") "__get__" = some (some (.builtin "getset_descriptor.__get__"))
  c3 : PySem.W.takesIn K (.builtin "object.__class__") = some true
  c4 : PySem.W.mroIn K C (.type "object") = some true
  kt : PySem.W.kitOne K (.ref C) (.ref C) = some true
  kf : PySem.W.kitOne K (.type "str") (.ref C) = some false
structure BltS (mg : Str → Option Value) : Prop where
  str : mg "str" = none
  len : mg "len" = none
  isi : mg "isinstance" = none
section
variable {P : Program} {w : World} {K : PySem.W.Frag} {mg : Str → Option Value} {base : Heap} {C : Addr}
theorem scStr : FnScope ["self"] ["self"] (defScope sStr) := ⟨rfl, rfl, rfl, by decide +kernel, rfl, by decide +kernel, by decide +kernel⟩
theorem ok_str {f : Addr} {fd : FuncData} (F : Fun K "__str__" "Works.__str__" sStr f fd) (c : WCls K C) (B : BltS mg) : FnOk P w K mg base CX0 1 f fd ["self"] (spStrW C) := by
  refine F.ok scStr (fun vs H Q E h => ?_) (fun cdv A outer s H vs Q E hr h => ?_)
  · obtain ⟨x, z, rfl, _⟩ := h
    rfl
  · obtain ⟨x, z, rfl, ⟨dx, fs, hx, hf⟩, q⟩ := h
    refine ⟨_, pss_one (ps_ret (pe_callTy SkE.call_str_str (by rfl) B.str (by decide +kernel) (pa_cons (pe_fld (pv 0) rfl) pa_nil))), ?_⟩
    exact ⟨_, rfl, x, C, dx, fs, _, rfl, hx, c.cl, c.n9, hf, z, rfl, q⟩
theorem scRepr : FnScope ["self"] ["self"] (defScope sRepr) := ⟨rfl, rfl, rfl, by decide +kernel, rfl, by decide +kernel, by decide +kernel⟩
theorem ok_repr {f : Addr} {fd : FuncData} (F : Fun K "__repr__" "Works.__repr__" sRepr f fd) (c : WCls K C) (B : BltS mg) : FnOk P w K mg base CX0 1 f fd ["self"] (spReprW C) := by
  refine F.ok scRepr (fun vs H Q E h => ?_) (fun cdv A outer s H vs Q E hr h => ?_)
  · obtain ⟨x, dx, fs, am, ap, vm, vp, rfl, _⟩ := h
    rfl
  · obtain ⟨x, dx, fs, am, ap, vm, vp, rfl, hx, f1, f2, hm, hp, lm, lp, q⟩ := h
    refine ⟨_, pss_one (ps_ret (pe_joined (.cons pe_str (.cons (pe_fmt (pe_callB call_len_seq (by rfl) B.len (by decide +kernel) (pa_cons (pe_fld (pv 0) rfl) pa_nil))) (.cons pe_str (.cons (pe_fmt (pe_callB call_len_seq (by rfl) B.len (by decide +kernel) (pa_cons (pe_fld (pv 0) rfl) pa_nil))) (.cons pe_str .nil))))))), ?_⟩
    have sz := sizeLine_eq
    have l1 := num_len (i := (vm.length : Int)) (by omega) (by omega)
    have l2 := num_len (i := (vp.length : Int)) (by omega) (by omega)
    have k1 : (Str.empty ++ Str.ofString "Works of ").length = 9 := by decide +kernel
    have k2 : (Str.empty ++ Str.ofString "Works of " ++ num vm.length).length ≤ 23 := by
      rw [Str.length_append]
      omega
    have k3 : (Str.empty ++ Str.ofString "Works of " ++ num vm.length ++ Str.ofString " machines and ").length ≤ 37 := by
      rw [Str.length_append, show (Str.ofString " machines and ").length = 14 by decide +kernel]
      omega
    have k4 : (Str.empty ++ Str.ofString "Works of " ++ num vm.length ++ Str.ofString " machines and " ++ num vp.length).length ≤ 51 := by
      rw [Str.length_append]
      omega
    have k5 : (reprW vm.length vp.length).length ≤ 60 := by
      unfold reprW
      rw [Str.length_append, show (Str.ofString " products").length = 9 by decide +kernel]
      omega
    have b : ∀ {m : Nat}, m ≤ 80 → m ≤ sizeLine := fun h => by omega
    refine ⟨_, rfl, b (by omega), _, rfl, x, C, dx, fs, _, rfl, hx, c.cl, c.n1, f1, am, vm, rfl, .inr (SqT.of hm), .inr ⟨_, rfl, num_log (by omega) (by omega), num vm.length, rfl, b (by omega), _, rfl, b (by omega), _, rfl, x, C, dx, fs, _, rfl, hx, c.cl, c.n4, f2, ap, vp, rfl, .inr (SqT.of hp), .inr ⟨_, rfl, num_log (by omega) (by omega), num vp.length, rfl, b (by omega), _, rfl, b (Nat.le_trans k5 (by omega)), q⟩⟩⟩
theorem scEq : FnScope ["self", "other"] ["self", "other"] (defScope sEq) := ⟨rfl, rfl, rfl, by decide +kernel, rfl, by decide +kernel, by decide +kernel⟩
theorem ok_eq {f : Addr} {fd : FuncData} (F : Fun K "__eq__" "Works.__eq__" sEq f fd) (c : WCls K C) (B : BltS mg) (mW : mg "Works" = some (.ref C)) (I : WIns K C) : FnOk P w K mg base CX0 1 f fd ["self", "other"] (spEqW C) := by
  refine F.ok scEq (fun vs H Q E h => ?_) (fun cdv A outer s H vs Q E hr h => ?_)
  · obtain ⟨x, z, y, rfl, _⟩ := h
    rfl
  · obtain ⟨x, z, y, rfl, ⟨dx, fs, hx, hf⟩, hy⟩ := h
    refine ⟨_, pss_one (ps_ret (pe_and (pe_callB call_isi (by rfl) B.isi (by decide +kernel) (pa_cons (pv 1) (pa_cons (pe_glob (v := .ref C) (by rfl) mW rfl) pa_nil))) (pe_one (pe_cmpR op_eq (pe_fld (pv 0) rfl) (pe_fld (pv 1) rfl) (nomark _))))), ?_⟩
    rcases hy with ⟨a, z2, rfl, ⟨dx2, fs2, ha, hf2⟩, q⟩ | ⟨z2, rfl, q⟩
    · refine ⟨_, rfl, _, _, _, _, true, rfl, .own C, .base (.ins ha c.cl I.c1 I.c2 I.c3 I.c4), I.kt, true, rfl, ?_⟩
      refine ⟨_, rfl, x, C, dx, fs, _, rfl, hx, c.cl, c.n9, hf, _, rfl, a, C, dx2, fs2, _, rfl, ha, c.cl, c.n9, hf2, rfl, ?_⟩
      have e2 : decide (V.str z = V.str z2) = decide (z = z2) := decide_eq_decide.mpr ⟨fun e => V.str.inj e, fun e => by rw [e]⟩
      rw [e2]
      exact q
    · refine ⟨_, rfl, _, _, _, _, false, rfl, .own C, .base (.str z2), I.kf, false, rfl, ?_⟩
      exact q
end
end LJ
set_option Elab.async false
set_option linter.all false
set_option maxRecDepth 100000
set_option maxHeartbeats 4000000
namespace LJ
open PySem PySem.Spec L2
section
variable {P : Program} {w : World} {K : PySem.W.Frag} {mg : Str → Option Value} {base : Heap} {C : Addr}
theorem scG2 : FnScope ["self"] ["self"] (defScope (meth 2)) := ⟨rfl, rfl, rfl, by decide +kernel, rfl, by decide +kernel, by decide +kernel⟩
theorem scG3 : FnScope ["self"] ["self"] (defScope (meth 3)) := ⟨rfl, rfl, rfl, by decide +kernel, rfl, by decide +kernel, by decide +kernel⟩
theorem scG4 : FnScope ["self"] ["self"] (defScope (meth 4)) := ⟨rfl, rfl, rfl, by decide +kernel, rfl, by decide +kernel, by decide +kernel⟩
theorem scG5 : FnScope ["self"] ["self"] (defScope (meth 5)) := ⟨rfl, rfl, rfl, by decide +kernel, rfl, by decide +kernel, by decide +kernel⟩
theorem ok_get2 {f : Addr} {fd : FuncData} (F : Fun K "machines" "Works.machines" (meth 2) f fd) (c : WCls K C) : FnOk P w K mg base CX0 1 f fd ["self"] (getSp C "_machines") := by
  refine F.ok scG2 (fun vs H Q E h => ?_) (fun cdv A outer s H vs Q E hr h => ?_)
  · obtain ⟨x, dx, fs, v, rfl, _⟩ := h
    rfl
  · obtain ⟨x, dx, fs, v, rfl, hx, hf, q⟩ := h
    refine ⟨_, pss_one (ps_ret (pe_fld (pv 0) rfl)), ?_⟩
    exact ⟨_, rfl, x, C, dx, fs, _, rfl, hx, c.cl, c.n1, hf, q⟩
theorem ok_get3 {f : Addr} {fd : FuncData} (F : Fun K "cleanings" "Works.cleanings" (meth 3) f fd) (c : WCls K C) : FnOk P w K mg base CX0 1 f fd ["self"] (getSp C "_cleanings") := by
  refine F.ok scG3 (fun vs H Q E h => ?_) (fun cdv A outer s H vs Q E hr h => ?_)
  · obtain ⟨x, dx, fs, v, rfl, _⟩ := h
    rfl
  · obtain ⟨x, dx, fs, v, rfl, hx, hf, q⟩ := h
    refine ⟨_, pss_one (ps_ret (pe_fld (pv 0) rfl)), ?_⟩
    exact ⟨_, rfl, x, C, dx, fs, _, rfl, hx, c.cl, c.n2, hf, q⟩
theorem ok_get4 {f : Addr} {fd : FuncData} (F : Fun K "stuffs" "Works.stuffs" (meth 4) f fd) (c : WCls K C) : FnOk P w K mg base CX0 1 f fd ["self"] (getSp C "_stuffs") := by
  refine F.ok scG4 (fun vs H Q E h => ?_) (fun cdv A outer s H vs Q E hr h => ?_)
  · obtain ⟨x, dx, fs, v, rfl, _⟩ := h
    rfl
  · obtain ⟨x, dx, fs, v, rfl, hx, hf, q⟩ := h
    refine ⟨_, pss_one (ps_ret (pe_fld (pv 0) rfl)), ?_⟩
    exact ⟨_, rfl, x, C, dx, fs, _, rfl, hx, c.cl, c.n3, hf, q⟩
theorem ok_get5 {f : Addr} {fd : FuncData} (F : Fun K "products" "Works.products" (meth 5) f fd) (c : WCls K C) : FnOk P w K mg base CX0 1 f fd ["self"] (getSp C "_products") := by
  refine F.ok scG5 (fun vs H Q E h => ?_) (fun cdv A outer s H vs Q E hr h => ?_)
  · obtain ⟨x, dx, fs, v, rfl, _⟩ := h
    rfl
  · obtain ⟨x, dx, fs, v, rfl, hx, hf, q⟩ := h
    refine ⟨_, pss_one (ps_ret (pe_fld (pv 0) rfl)), ?_⟩
    exact ⟨_, rfl, x, C, dx, fs, _, rfl, hx, c.cl, c.n4, hf, q⟩
end
end LJ
set_option Elab.async false
set_option linter.all false
set_option maxRecDepth 100000
set_option maxHeartbeats 4000000
/-! Own errors over any base: raised; methods called by keywords; a lambda called in a try. -/
namespace L2
open PySem PySem.Spec PyProof.Rows PySem.ErrV
section
variable {X : Cx} {C fI : Addr} {x f : Str} {B nw ini : String} {bmB : List Value} {a : Expr} {p pos : Pos} {ta : TA}
/-- C(e), to be raised -/
def tMkE (C : Addr) (f : Str) (ta : TA) : St → Hp → XK → Prop := fun σ H Q => ta σ H fun vs H1 => ∃ v, vs = [v] ∧ ∀ d, H1 d = none → Q (.ref C) (some d) (upd H1 d (.xd [(f, v)]))
theorem pmk_err (hf : f = "given" ∨ f = "index") (T : ErrC X.K X.mg x f C fI nw bmB) (Bo : BaseOk B nw ini bmB) (exC : PySem.W.subIn X.K (.ref C) (.type "BaseException") = some true) (tyC : PySem.W.typeIn X.K (.ref C) = some (.type "type"))
    (hr : Room 1 X.A) (ha : PA X [a] ta) (hg : Gl X x) (hdb : (x == ("__debug__" : Str)) = false := by decide)
    (he : starEach (a :: []) X.env = (false, eval a X.env) :: starEach [] X.env := by rfl) (hpl : (backTo pos (starEach [] X.env)).any (·.1) = false := by rfl) :
    PMk X (.Call (.Name x p) [a] [] pos) (tMkE C f ta) := by
  intro pins s σ H Q I h
  refine wpAny_Call_Name_kw (ld_glob I hg T.gC ?_ hdb)
  refine PySem.W.callWith_K (h₀ := X.base) I.ok.mod.kin T.kC (thn (ha.run pos pins s σ H _ I h) fun us s1 hh => ?_) he hpl
  obtain ⟨vs, H1, I1, r1, v, ev, q1⟩ := hh
  subst ev
  refine ⟨I1.kIn, ?_⟩
  cases r1 with
  | cons rv rn =>
    rename_i u us
    cases rn
    show wpAny _ _ (call (.ref C) [u]) _ _ _
    have lim := I1.nolimit
    obtain ⟨hp, g, dr, tk, os⟩ := s1
    refine wpAny_call (err_made hf T Bo (v := u) (.inl ⟨rfl, rfl⟩) I1.kIn lim (by have := hr.dp; omega) fun h1 tk1 e d M => ?_)
    show MkP X pins σ Q (.ref e) ⟨h1, g, dr, tk1, os⟩
    obtain ⟨uo, hoe⟩ := M.obj
    have hns := M.ns
    obtain ⟨G1, g1, g2⟩ := restrict h1 fun b => decide (b ≠ e)
    have gk : ∀ b, b ≠ e → G1.get? b = h1.get? b := fun b hb => g1 b (decide_eq_true hb)
    have ge : G1.get? e = none := g2 e (by simp)
    have old : ∀ b o, hp.get? b = some o → G1.get? b = some o := fun b o q => (gk b (Nat.ne_of_lt (Nat.lt_of_lt_of_le (Heap.lt_size q) M.big))).trans (M.keep b o q)
    have ob : ObjOk X.prog X.w (upd H1 d (.xd [(f, v)])) G1 d (.xd [(f, v)]) :=
      ⟨_, hns.at (fun o q => (gk d M.ne).trans q), relO_put (fs := []) rv fun g => True.intro⟩
    have J : Inv X pins σ (upd H1 d (.xd [(f, v)])) ⟨G1, g, dr, tk1, os⟩ := I1.laid (t' := tk1) old M.dbig ob
    refine ⟨e, _, _, ⟨G1, g, dr, tk1, os⟩, _, .ref C, some d, rfl, J, fun b o q => ?_, ge, hoe, ⟨rfl, rfl⟩, rfl, rfl, ?_, rfl, I1.bare, raises_own exC tyC, q1 d (I1.hok.fresh M.dbig)⟩
    · by_cases hb : b = e
      · have q2 : G1.get? b = some o := q
        rw [hb, ge] at q2
        cases q2
      · exact (gk b hb).symm.trans q
    · rw [upd_ne (Ne.symm M.ne)]
      exact I1.hok.fresh M.big
/-- raise C(e) -/
theorem ps_raiseE {W : WX} {pos2 : Pos} (hc : X.calm = true) (hf : f = "given" ∨ f = "index") (T : ErrC X.K X.mg x f C fI nw bmB) (Bo : BaseOk B nw ini bmB) (exC : PySem.W.subIn X.K (.ref C) (.type "BaseException") = some true) (tyC : PySem.W.typeIn X.K (.ref C) = some (.type "type"))
    (hr : Room 1 X.A) (tk : Takes X W) (ha : PA X [a] ta) (hg : Gl X x) (hdb : (x == ("__debug__" : Str)) = false := by decide)
    (he : starEach (a :: []) X.env = (false, eval a X.env) :: starEach [] X.env := by rfl) (hpl : (backTo pos (starEach [] X.env)).any (·.1) = false := by rfl) :
    PS X (.Raise (some (.Call (.Name x p) [a] [] pos)) none pos2) (fun _ σ H => tMkE C f ta σ H fun cls d H1 => W cls d σ H1) := ps_raise hc tk (pmk_err hf T Bo exC tyC hr ha hg hdb he hpl)
end
/-! ### o.m(k = v, ..) -/
/-- by keywords alone: gV tells how the parameters behind the object are filled from the keywords' values -/
def tMethK (C : Addr) (m : Str) (sp : Sp) (n : Nat) (gV : List V → List V → List V) (E : XK) (ta : TE) (t : TA) : TE := fun σ H Q => ta σ H fun x H1 => ∃ a dx fs, x = .ref a ∧ H1 a = some (.ins C dx fs) ∧ fs.lookup m = none ∧
  t σ H1 fun zs H2 => zs.length = n ∧ sp (gV [x] zs) H2 Q E
section
variable {X : Cx} {CX : CXT} {k : Nat} {f C : Addr} {fd : FuncData} {ps ks : List Str} {sp : Sp} {E : XK} {m : Str} {pos apos : Pos} {o : Expr} {kws : List Keyword} {ta : TE} {tk : TA} {g : List Value → List Value → List Value} {gV : List V → List V → List V}
theorem pe_methK {pl : Sem Bool} (he : PE X o ta) (c : Cls X.K C) (hm : Meth X.K C m f) (F : FnOk X.prog X.w X.K X.mg X.base CX k f fd ps sp) (hr : Room k X.A) (hb : KBn X.K fd ps 1 ks g gV) (hx : Passes CX X E) (hkw : PK X kws tk)
    (hall : (backToKw pos (keywordEach kws X.env)).all (·.1.isSome) = true := by rfl) (hks : (backToKw pos (keywordEach kws X.env)).filterMap (·.1) = ks := by rfl)
    (hpl : ((backTo pos (starEach [] X.env)).any (·.1) || (backToKw pos (keywordEach kws X.env)).any (·.1.isNone)) = false := by rfl)
    (ht : eval (.Call (.Attribute o m apos) [] kws pos) X.env = (do
      let ov ← eval o X.env
      standAt apos.atName
      let (f, first) ← holding [ov] (getMethod ov m pl)
      callWith pos f first (backTo pos (starEach [] X.env)) (backToKw pos (keywordEach kws X.env))) := by rfl) :
    PE X (.Call (.Attribute o m apos) [] kws pos) (tMethK C m sp ks.length gV E ta tk) := by
  refine ⟨fun pins s σ H Q I h => ?_⟩
  refine PySem.W.methodCall_KW (pl := pl) (thn (he.run pins s σ H _ I h) fun u s1 ⟨x, H1, I1, rx, a, dx, fs, ex, ea, l, q⟩ => ?_) ht
  subst ex
  obtain rfl : u = Value.ref a := rx
  refine getmeth_ok I1 ea c hm l ?_
  refine PySem.W.callWith_KW0 (first := [.ref a]) (h₀ := X.base) I.ok.mod.kin hm.kp hall ?_ hpl
  refine thn (hkw.run pos pins s1 σ H1 _ I1 q) fun ws s2 ⟨zs, H2, I2, rz, l2, q2⟩ => ⟨I2.kIn, ?_⟩
  rw [hks]
  show wpAny _ _ (call (.ref f) [.ref a] (ks.zip ws)) _ _ _
  have e2 : ws.length = ks.length := rz.length.symm.trans l2
  have r1 : Vals [V.ref a] [Value.ref a] := .cons rfl .nil
  refine wpAny_call (codeAny_mono (F.run X.A X.stack s2 H2 ⟨[.ref a], ks.zip ws⟩ (g [.ref a] ws) (gV [.ref a] zs) Q E hr I2.env0 (hb.to s2 [.ref a] ws I2.kIn rfl e2) (hb.rel r1 rz) q2) fun r s3 hq => ?_)
  cases r with
  | error e => exact hx pins σ H2 s2 e s3 I2 hq
  | ok fl =>
    cases fl with
    | ret u => exact I2.after hq
    | next => exact False.elim hq
    | brk => exact False.elim hq
    | cont => exact False.elim hq
end
end L2
namespace LamV
open PySem PySem.Spec PyProof.Rows L2
open LamX (CodeO ExtN TabB)
open NdefX (NF NTab TabN TabsN CellsAt NScope startF ncx envF)
section
variable {Y : Cx} {pins : List (Addr × Obj)} {σ : L2.St} {H : Hp} {s : Shared} {f : Addr} {F : NF} {body : Expr} {fr : List Str} {ws : List (Option V)}
variable {CX : CXT} {n i j k : Nat} {x : Str} {sp : List (Option V) → Sp} {E : L2.St → XK} {t : TA} {e : Expr} {es : List Expr} {p pos : Pos}
/-- the reading: slot i holds the lambda without parameters; what it raises is wished for at the slots -/
def tCallL0S (f : Addr) (F : NF) (body : Expr) (i : Nat) (ws : List (Option V)) (sp : List (Option V) → Sp) (E : L2.St → XK) : TE := fun σ H Q =>
  (σ[i]? = some (some (.ref f)) ∧ H f = some (LnO f F body)) ∧ H F.c = some (CodeO F.c F.qual) ∧ sp ws [] H Q (E σ)
theorem pe_lact0S (G : LOk Y.prog Y.w Y.K Y.mg Y.base CX k f F body n fr sp) (C : CellsAt F.cl fr ws Y.s_0.heap Y.H_0) (ex : Y.ex = []) (room : Room j Y.A) (le : k ≤ j) (out : ∀ σ, PassesAt CX Y σ (E σ)) (slot : Y.N[i]? = some x) (vis : Vis Y.env.scope x)
    (d1 : (x == ("__debug__" : Str)) = false := by decide) (d2 : (x == ("__classdict__" : Str)) = false := by decide) :
    PE Y (.Call (.Name x p) [] [] pos) (tCallL0S f F body i ws sp E) := by
  constructor
  rintro pins s σ H Q I ⟨⟨hs, hf⟩, h2, q⟩
  apply wpAny_Call_Name_kw
  refine thn ((pe_var slot vis d1 d2).run pins s σ H (fun v H1 => v = .ref f ∧ H1 = H) I ⟨_, hs, rfl, rfl⟩) ?_
  rintro u s1 ⟨_, _, I1, ru, rfl, rfl⟩
  cases (show u = Value.ref f from ru)
  refine PySem.W.callWith_F0 (first := []) (fnAt I1 hf) ?_
  refine wpAny_call (codeAny_mono (G.call (room.mono le) I1.env0 ⟨hf, h2, cells_stay C ex I1⟩ .nil q) ?_)
  rintro (u | fl) s2 hq
  · exact out σ _ _ _ _ _ I1 hq
  · cases fl with
    | ret u => exact I1.after hq
    | _ => exact (hq : False).elim
end
end LamV
set_option Elab.async false
set_option linter.all false
set_option maxRecDepth 100000
set_option maxHeartbeats 4000000
/-! hold, keep, content, limit, declares: what is told of a name, and UnknownName. -/
namespace LJ
open PySem PySem.Spec L2 PySem.ErrV
open LamX (ExtN)
/-- a value that is asked for: a text, or one that is known to be none -/
inductive St (K : PySem.W.Frag) (H : Hp) : V → Prop
  | str (s : Str) (le : s.length ≤ sizeLine) : St K H (.str s)
  | oth {x : V} {t : Value} (ty : ∀ H1, ExtN H H1 → TyX K H1 x t) (s : PySem.W.kitOne K t (.type "str") = some false) (ns : ∀ z, x ≠ .str z) : St K H x
theorem St.exN {K : PySem.W.Frag} {H H1 : Hp} {x : V} (k : St K H x) (e : ExtN H H1) : St K H1 x := by
  cases k with
  | str s le => exact .str s le
  | oth ty s ns => exact .oth (fun H2 e2 => ty H2 (e.trans e2)) s ns
theorem St.ty {K : PySem.W.Frag} {H : Hp} {x : V} (k : St K H x) : ∃ t b, TyX K H x t ∧ PySem.W.kitOne K t (.type "str") = some b ∧ ((b = true ∧ ∃ s, x = .str s) ∨ (b = false ∧ ∀ z, x ≠ .str z)) := by
  cases k with
  | str s le => exact ⟨_, true, .base (.str s), kit_ty (by decide +kernel), .inl ⟨rfl, s, rfl⟩⟩
  | @oth _ t ty s ns => exact ⟨t, false, ty _ (ExtN.refl _), s, .inr ⟨rfl, ns⟩⟩
/-- what a table has under this value -/
def und (kvs : List (Key × V)) : V → Option V
  | .str s => valV kvs (.inr s)
  | _ => none
theorem und_none {kvs : List (Key × V)} {v : V} (h : ∀ z, v ≠ .str z) : und kvs v = none := by
  cases v with
  | str z => exact absurd rfl (h z)
  | _ => rfl
/-- o is what is told of v; nothing: UnknownName(v) -/
def Tells (CU : Addr) (o : Option V) (v : V) (H : Hp) (Q : VK) (E : XK) : Prop := match o with
  | some y => Q y H
  | none => ∀ d, H d = none → E (.ref CU) (some d) (upd H d (.xd [(("given" : Str), v)]))
/-- what the written part tells of UnknownName -/
structure Unk (K : PySem.W.Frag) (mg : Str → Option Value) (CU fU : Addr) : Prop where
  c : ∃ bm, ErrC K mg "UnknownName" "given" CU fU "LookupError.__new__" bm ∧ BaseOk "LookupError" "LookupError.__new__" "LookupError.__init__" bm
  exC : PySem.W.subIn K (.ref CU) (.type "BaseException") = some true
  tyC : PySem.W.typeIn K (.ref CU) = some (.type "type")
  xf : XfC K CU
  te : PySem.W.exmOne K (.ref CU) (.ref CU) = some true
abbrev sOf : Stmt := top 31
def spOf (K : PySem.W.Frag) (CU : Addr) : Sp := fun vs H Q E => ∃ (D : Addr) (kvs : List (Key × V)) (v : V), vs = [.ref D, v] ∧ H D = some (.dK kvs) ∧ St K H v ∧ Tells CU (und kvs v) v H Q E
section
variable {P : Program} {w : World} {K : PySem.W.Frag} {mg : Str → Option Value} {base : Heap} {CU fU C : Addr}
theorem scOf : FnScope ["table", "name"] ["table", "name"] (defScope sOf) := ⟨rfl, rfl, rfl, by decide +kernel, rfl, by decide +kernel, by decide +kernel⟩
theorem ok_of {f : Addr} {fd : FuncData} (F : Fun K "_of_name" "_of_name" sOf f fd) (B : BltI mg) (U : Unk K mg CU fU) : FnOk P w K mg base (L2.CX P w) 2 f fd ["table", "name"] (spOf K CU) := by
  refine F.okX scOf (fun vs H Q E h => ?_) (fun cdv A outer s H vs Q E hr h => ?_)
  · obtain ⟨D, kvs, v, rfl, _⟩ := h
    rfl
  · obtain ⟨D, kvs, v, rfl, hD, st, tl⟩ := h
    obtain ⟨bm, T, Bo⟩ := U.c
    have hu : (A.deeper (PyProof.Rows.envOfC "_of_name" (defScope sOf) s.heap.objs.size f cdv)).units + 1 < cLine := by
      have := hu_of hr
      omega
    refine ⟨_, pss_cons (ps_if (PW.pt (pw_or (pt_not (pt_truth (pe_callB call_isi (by rfl) B.isinstance (by decide +kernel) (pa_cons (pv 1) (pa_cons (pe_bltn (by rfl) B.str (by decide +kernel) (v := .ty "str") rfl) pa_nil))) (fun _ => rfl)))
        (pw_or1 (pt_cmp (pc_dnotin hu (pv 1) (pv 0)))))) (pss_one (ps_raiseE rfl (.inl rfl) T Bo U.exC U.tyC hr (takes_of rfl rfl rfl rfl) (pa_cons (pv 1) pa_nil) (by rfl))) pss_nil)
      (pss_one (ps_ret (pe_dget hu (pv 0) (pv 1) (fun _ _ => rfl)))), ?_⟩
    obtain ⟨t, b, ty, e, hb⟩ := st.ty
    refine ⟨_, rfl, _, _, t, _, b, rfl, .ty "str", ty, e, b, rfl, ?_⟩
    rcases hb with ⟨rfl, z, rfl⟩ | ⟨rfl, ns⟩
    · refine ⟨_, rfl, _, rfl, D, _, rfl, DGet.k (k := Sum.inr z) hD, _, rfl, ?_⟩
      cases ev : valV kvs (Sum.inr z) with
      | some y =>
        have ey : und kvs (.str z) = some y := ev
        rw [ey] at tl
        refine ⟨_, rfl, _, rfl, D, y, rfl, ?_, tl⟩
        have g := DGet.k (k := Sum.inr z) hD
        rw [ev] at g
        exact g
      | none =>
        have ey : und kvs (.str z) = none := ev
        rw [ey] at tl
        exact ⟨_, rfl, _, rfl, tl⟩
    · rw [und_none ns] at tl
      exact ⟨_, rfl, _, rfl, tl⟩
end
end LJ
set_option Elab.async false
set_option linter.all false
set_option maxRecDepth 100000
set_option maxHeartbeats 8000000
namespace LJ
open PySem PySem.Spec L2
open LamX (ExtN)
open NdefX (NTab TabsN)
/-! check_works, is_name_of. -/
abbrev sCw : Stmt := top 46
abbrev sNo : Stmt := top 47
/-- rows that begin with these names -/
def NRow (H : Hp) (v : V) (n : Str) : Prop := ∃ (a : Addr) (xs : List V), v = .ref a ∧ H a = some (.tup (.str n :: xs))
theorem NRow.tup {H H1 : Hp} {v : V} {n : Str} (t : Tup H H1) (h : NRow H v n) : NRow H1 v n := by
  obtain ⟨a, xs, rfl, e⟩ := h
  exact ⟨a, xs, rfl, t _ _ e⟩
def isOf (names : List Str) : V → Bool
  | .str z => names.contains z
  | _ => false
theorem isOf_no {names : List Str} {v : V} (h : ∀ z, v ≠ .str z) : isOf names v = false := by
  cases v with
  | str z => exact absurd rfl (h z)
  | _ => rfl
def spCw (C : Addr) : Sp := fun vs H Q _ => ∃ x dx fs, vs = [.ref x] ∧ H x = some (.ins C dx fs) ∧ Q .non H
def spNo (K : PySem.W.Frag) : Sp := fun vs H Q _ => ∃ (t : Addr) (v : V) (rs : List V) (names : List Str), vs = [.ref t, v] ∧ H t = some (.tup rs) ∧ Paired (NRow H) rs names ∧ names.length ≤ 100 ∧ St K H v ∧ ∀ H1, Ex H H1 → Q (.bl (isOf names v)) H1
theorem inV_strs (z : Str) : ∀ ns : List Str, inV (.str z) (ns.map V.str) = ns.contains z
  | [] => rfl
  | n :: ns => by
    have ih := inV_strs z ns
    unfold inV at ih ⊢
    rw [List.map_cons, List.any_cons, ih, List.contains_cons]
    show ((n == z) || _) = _
    have : (n == z) = (z == n) := by
      by_cases h : n = z
      · rw [h]
      · rw [beq_eq_false_iff_ne.mpr h, beq_eq_false_iff_ne.mpr (Ne.symm h)]
    rw [this]
theorem flat_strs : ∀ ns : List Str, (ns.map V.str).all flatV = true
  | [] => rfl
  | n :: ns => by
    rw [List.map_cons, List.all_cons, flat_strs ns]
    rfl
section
variable {P : Program} {w : World} {K : PySem.W.Frag} {mg : Str → Option Value} {base : Heap} {C : Addr}
theorem scCw : FnScope ["works"] ["works"] (defScope sCw) := ⟨rfl, rfl, rfl, by decide +kernel, rfl, by decide +kernel, by decide +kernel⟩
theorem scNo : FnScope ["rows", "value", "row"] ["rows", "value"] (defScope sNo) := ⟨rfl, rfl, rfl, by decide +kernel, rfl, by decide +kernel, by decide +kernel⟩
def teNo (K : PySem.W.Frag) : TE := tOp (rIxT K) (tVar 2) (tC (.int 0))
theorem ok_no {f : Addr} {fd : FuncData} (F : Fun K "is_name_of" "is_name_of" sNo f fd) (B : BltI mg) : FnOk P w K mg base CX0 1 f fd ["rows", "value"] (spNo K) := by
  refine F.ok scNo (fun vs H Q E h => ?_) (fun cdv A outer s H vs Q E hr h => ?_)
  · obtain ⟨t, v, rs, names, rfl, _⟩ := h
    rfl
  · obtain ⟨t, v, rs, names, rfl, ht, pr, ln, st, q⟩ := h
    refine ⟨_, pss_one (ps_ret (pe_and (pe_callB call_isi (by rfl) B.isinstance (by decide +kernel) (pa_cons (pv 1) (pa_cons (pe_bltn (by rfl) B.str (by decide +kernel) (v := .ty "str") rfl) pa_nil)))
      (pe_one (pe_cmpR op_in_seq (pv 1) (pe_lc (own := [("row", 2)]) (g := gName 2) (te := teNo K) (by rfl) scNo.nd (pi_tup (pv 0)) (blkOk_by (own := [("row", 2)]) (N := ["rows", "value", "row"]) (sc := defScope sNo) (by decide +kernel)) (fun _ _ _ _ _ => pg_name (i := 2) scNo.nd rfl (Or.inl rfl)) (fun _ _ _ _ _ => pts_nil)
        (fun _ _ _ _ _ => pe_ix ix_tup (pv 2) pe_int (fun _ _ => rfl))) rfl)))), ?_⟩
    obtain ⟨ty, b, tx, e, hb⟩ := st.ty
    refine ⟨_, rfl, _, _, ty, _, b, rfl, .ty "str", tx, e, b, rfl, ?_⟩
    have lr : rs.length = names.length := Paired.size pr
    rcases hb with ⟨rfl, z, rfl⟩ | ⟨rfl, ns⟩
    · refine ⟨_, rfl, _, rfl, t, rfl, ⟨_, SqT.of ht⟩, fun D hD => lc_tup (K := K) (a := t) (xs := rs) (fun i G => Ex H G ∧ G D = some (.lst ((names.take i).map V.str))) ⟨Ex.refl.new hD, upd_same⟩ (fun i G _ h => SqT.of (h.1 _ _ ht)) ?_ ?_⟩
      · rintro i v G hv ⟨xG, eG⟩
        obtain ⟨n, hn, a, xs, rfl, ea⟩ := Paired.spot pr hv
        refine ⟨rfl, _, rfl, a, _, _, _, rfl, rfl, SqT.of (xG _ _ ea), atI_nat (j := 0) rfl, _, eG, by rw [List.length_map, List.length_take, sizeLine_eq]; omega, xG.put hD, ?_⟩
        rw [upd_same, List.take_succ, hn, List.map_append]
        rfl
      · rintro G ⟨xG, eG⟩
        rw [lr, List.take_of_length_le (Nat.le_refl _)] at eG
        refine ⟨D, _, rfl, .inl (SqL.of eG), rfl, flat_strs _, ?_⟩
        show Q (.bl (inV (.str z) (names.map V.str))) G
        rw [inV_strs]
        exact q G xG
    · have := q H Ex.refl
      rw [isOf_no ns] at this
      exact this
theorem ok_cw {f : Addr} {fd : FuncData} (F : Fun K "check_works" "check_works" sCw f fd) (B : BltI mg) (c : WCls K C) (mW : mg "Works" = some (.ref C)) (I : WIns K C) : FnOk P w K mg base CX0 1 f fd ["works"] (spCw C) := by
  refine F.ok scCw (fun vs H Q E h => ?_) (fun cdv A outer s H vs Q E hr h => ?_)
  · obtain ⟨x, dx, fs, rfl, _⟩ := h
    rfl
  · obtain ⟨x, dx, fs, rfl, hx, q⟩ := h
    refine ⟨_, pss_one (ps_if (pt_not (pt_truth (pe_callB call_isi (by rfl) B.isinstance (by decide +kernel) (pa_cons (pv 0) (pa_cons (pe_glob (v := .ref C) (by rfl) mW rfl) pa_nil))) (fun _ => rfl))) (pss_one ps_never) pss_nil), ?_⟩
    refine ⟨_, rfl, _, _, _, _, true, rfl, .own C, .base (.ins hx c.cl I.c1 I.c2 I.c3 I.c4), I.kt, true, rfl, ?_⟩
    exact ite2 (fun z => by cases z) (fun _ => q)
end
end LJ
set_option Elab.async false
set_option linter.all false
set_option maxRecDepth 100000
set_option maxHeartbeats 8000000
namespace LJ
open PySem PySem.Spec L2
/-! read_number: the number that a word writes. -/
abbrev sNum : Stmt := top 6
def dgt (c : Nat) : Bool := decide (48 ≤ c) && decide (c ≤ 57)
/-- digits without needless zeros -/
def rdOk (z : Str) : Bool := decide (1 ≤ z.length) && (!(decide (z.cps.toList[0]? = some 48) && !decide (z = Str.ofString "0")) && z.cps.toList.all dgt)
def rdN (z : Str) : Option Int := if rdOk z = true then some (NumText.digitsVal z.cps.toList : Nat) else none
def optI : Option Int → V
  | some i => .int i
  | none => .non
def spNum : Sp := fun vs H Q _ => ∃ z : Str, vs = [.str z] ∧ z.length ≤ 600 ∧ ∀ H1, Ex H H1 → Q (optI (rdN z)) H1
theorem str1_eq {c : Nat} {z : Str} (h : z = ⟨#[c]⟩) (d : Nat) : (V.str z = V.str ⟨#[d]⟩) ↔ c = d := by
  subst h
  constructor
  · intro e
    cases e
    rfl
  · rintro rfl
    rfl
theorem rd_first {σ : L2.St} {H : Hp} {Qb : Bool → Hp → Prop} {z : Str} (h : σ[0]? = some (some (.str z))) (l1 : 1 ≤ z.length) (l : z.length ≤ 600) (q : Qb (decide (z.cps.toList[0]? = some 48) && !decide (z = Str.ofString "0")) H) :
    tAnd (tTest (tOp rEq (tOp rIxS (tVar 0) (tC (V.int 0))) (tC (V.str (Str.ofString "0"))))) (tTest (tOp rNe (tVar 0) (tC (V.str (Str.ofString "0"))))) σ H Qb := by
  have zsz : z.cps.toList.length = z.length := rfl
  obtain ⟨c, hc⟩ : ∃ c, z.cps.toList[0]? = some c := ⟨_, List.getElem?_eq_getElem (by omega)⟩
  refine ⟨_, h, z, 0, c, rfl, rfl, by rw [sizeLine_eq]; omega, atI_nat (j := 0) hc, rfl, _, rfl, ?_⟩
  have e : decide (V.str ⟨#[c]⟩ = V.str (Str.ofString "0")) = decide (z.cps.toList[0]? = some 48) := by
    have e1 : Str.ofString "0" = ⟨#[48]⟩ := by decide +kernel
    rw [hc, e1]
    exact decide_eq_decide.mpr ((str1_eq rfl 48).trans ⟨fun z => by rw [z], fun z => Option.some.inj z⟩)
  rw [e]
  refine ite2 (fun k1 => ?_) (fun k1 => ?_)
  · refine ⟨_, h, rfl, _, rfl, ?_⟩
    rw [k1, Bool.true_and] at q
    have e2 : decide (V.str z = V.str (Str.ofString "0")) = decide (z = Str.ofString "0") := decide_eq_decide.mpr ⟨fun e => V.str.inj e, fun e => by rw [e]⟩
    rw [e2]
    exact q
  · rw [Bool.eq_false_iff.mpr k1, Bool.false_and] at q
    exact q
section
variable {P : Program} {w : World} {K : PySem.W.Frag} {mg : Str → Option Value} {base : Heap}
theorem scNum : FnScope ["word", "digit"] ["word"] (defScope sNum) := ⟨rfl, rfl, rfl, by decide +kernel, rfl, by decide +kernel, by decide +kernel⟩
theorem ok_num {f : Addr} {fd : FuncData} {uL : Value} (F : Fun K "read_number" "read_number" sNum f fd) (B : BltI mg) (mL : mg "_MOST_DIGITS" = some uL) (rL : RelV (.int 4000) uL) : FnOk P w K mg base CX0 1 f fd ["word"] spNum := by
  refine F.ok scNum (fun vs H Q E h => ?_) (fun cdv A outer s H vs Q E hr h => ?_)
  · obtain ⟨z, rfl, _⟩ := h
    rfl
  · obtain ⟨z, rfl, zl, q⟩ := h
    refine ⟨_, pss_cons (ps_if (PW.pt (pw_or (pt_not (pt_chain op_le op_le pe_int (pe_callB call_len_str (by rfl) B.len (by decide +kernel) (pa_cons (pv 0) pa_nil)) (pe_glob (by rfl) mL rL)))
        (pw_or1 (PW.pt (pw_and (pt_cmpR op_eq (pe_ix ix_str (pv 0) pe_int (fun _ _ => rfl)) pe_str (nomark _)) (pw_and1 (pt_cmpR op_ne (pv 0) pe_str (nomark _)))))))) (pss_one (ps_ret pe_non)) pss_nil)
      (pss_cons (ps_if (pt_not (pt_truth (pe_callB (cr_all (by rfl)) (by rfl) B.all (by decide +kernel) (pa_cons (pe_lc (own := [("digit", 1)]) (g := gName 1) (by rfl) scNum.nd (pi_str (pv 0)) (blkOk_by (own := [("digit", 1)]) (N := ["word", "digit"]) (sc := defScope sNum) (by decide +kernel)) (fun _ _ _ _ _ => pg_name scNum.nd rfl (Or.inl rfl)) (fun _ _ _ _ _ => pts_nil) (fun _ _ _ _ _ => pe_chain op_le_str op_le_str pe_str (pv 1) pe_str)) pa_nil)) (fun _ => rfl))) (pss_one (ps_ret pe_non)) pss_nil)
      (pss_one (ps_ret (pe_callTy call_int_str (by rfl) B.int (by decide +kernel) (pa_cons (pv 0) pa_nil))))), ?_⟩
    have big : (600 : Nat) < sizeLine := by
      rw [sizeLine_eq]
      decide
    have zsz : z.cps.toList.length = z.length := rfl
    have none_ : rdOk z = false → Q .non H := fun e => by
      have h := q H Ex.refl
      unfold rdN at h
      rw [if_neg (by rw [e]; decide)] at h
      exact h
    refine ⟨_, rfl, z, rfl, by omega, 1, z.length, rfl, rfl, _, rfl, ?_⟩
    refine ite2 (fun c1 => ?_) (fun c1 => ?_)
    · have l1 : (1 : Int) ≤ z.length := of_decide_eq_true c1
      refine ⟨_, _, rfl, rfl, _, rfl, ?_⟩
      rw [decide_eq_true (show (z.length : Int) ≤ 4000 by omega)]
      refine rd_first (z := z) rfl (by omega) zl ?_
      refine ite2 (fun k1 => ?_) (fun k1 => ?_)
      · refine none_ ?_
        unfold rdOk
        rw [k1]
        simp
      · have k2 := Bool.eq_false_iff.mpr k1
        refine ⟨_, rfl, z, rfl, fun D hD => lc_it walk_str (fun n H2 => Ex H H2 ∧ H2 D = some (.lst (((z.cps.toList.take n).map dgt).map V.bl))) ⟨Ex.refl.new hD, upd_same⟩ (fun _ _ _ _ => True.intro) ?_ ?_⟩
        · rintro i y _ H2 hi ⟨x2, e2⟩ ⟨rfl, c, hc, rfl⟩
          refine ⟨rfl, ?_⟩
          have hc2 : z.cps.toList[i]? = some c := by rw [Array.getElem?_toList]; exact hc
          have done : ∃ acc, H2 D = some (.lst acc) ∧ acc.length < sizeLine ∧ Ex H (upd H2 D (.lst (acc ++ [.bl (dgt c)]))) ∧ (upd H2 D (.lst (acc ++ [.bl (dgt c)]))) D = some (.lst (((z.cps.toList.take (i + 1)).map dgt).map V.bl)) := by
            refine ⟨_, e2, ?_, x2.put hD, ?_⟩
            · rw [List.length_map, List.length_map, List.length_take]
              omega
            · rw [upd_same, List.take_succ, hc2, List.map_append, List.map_append]
              rfl
          refine ⟨_, rfl, _, _, rfl, rfl, _, rfl, ?_⟩
          rw [show (!decide ((⟨#[c]⟩ : Str).cps.toList < (Str.ofString "0").cps.toList)) = decide (48 ≤ c) from le_one 48 c]
          refine ite2 (fun k1 => ?_) (fun k1 => ?_)
          · refine ⟨_, _, rfl, rfl, ?_⟩
            rw [show (!decide ((Str.ofString "9").cps.toList < (⟨#[c]⟩ : Str).cps.toList)) = decide (c ≤ 57) from le_one c 57]
            have e : dgt c = decide (c ≤ 57) := by
              unfold dgt
              rw [k1, Bool.true_and]
            rw [← e]
            exact done
          · have e : dgt c = false := by
              unfold dgt
              rw [Bool.eq_false_iff.mpr k1, Bool.false_and]
            rw [e] at done
            exact done
        · rintro H2 ⟨x2, e2⟩
          refine ⟨D, _, rfl, SqL.of e2, _, rfl, ?_⟩
          have ea : (((z.cps.toList.take z.cps.size).map dgt).all id) = z.cps.toList.all dgt := by
            rw [List.take_of_length_le (by rw [Array.length_toList]; exact Nat.le_refl _), List.all_map]
            rfl
          rw [ea]
          have re : rdOk z = z.cps.toList.all dgt := by
            unfold rdOk
            rw [k2, decide_eq_true (p := 1 ≤ z.length) (by omega)]
            simp
          refine ite2 (fun k3 => ?_) (fun k3 => ?_)
          · have h := q H2 x2
            unfold rdN at h
            rw [re, if_neg (by intro y; rw [y] at k3; cases k3)] at h
            exact h
          · have k4 : z.cps.toList.all dgt = true := by
              cases e : z.cps.toList.all dgt with
              | true => rfl
              | false => rw [e] at k3; exact absurd rfl k3
            have h := q H2 x2
            unfold rdN at h
            rw [re, if_pos k4] at h
            refine ⟨_, rfl, z, _, rfl, intText_digits (fun c hc => ?_) (fun y => ?_) (by omega), by omega, h⟩
            · have := List.all_eq_true.mp k4 c hc
              unfold dgt at this
              rw [Bool.and_eq_true, decide_eq_true_eq, decide_eq_true_eq] at this
              exact this
            · rw [y] at zsz
              simp at zsz
              omega
    · have l1 : ¬ (1 : Int) ≤ z.length := fun w => c1 (decide_eq_true w)
      refine ⟨_, rfl, ?_⟩
      refine none_ ?_
      unfold rdOk
      rw [decide_eq_false (p := 1 ≤ z.length) (by omega)]
      rfl
end
end LJ
set_option Elab.async false
set_option linter.all false
set_option maxRecDepth 100000
set_option maxHeartbeats 8000000
namespace LJ
open PySem PySem.Spec L2
/-! What lines and words of told works are. -/
theorem tl_num {i : Int} (h0 : 0 ≤ i) : TL.tl (num i) = TL.numL i.toNat := by
  obtain ⟨n, rfl⟩ := Int.eq_ofNat_of_zero_le h0
  unfold num TL.numL
  rw [TL.tl_ofString]
  congr 1
  show (toString (n : Int)).toList = _
  have e : (toString (n : Int)) = Nat.repr n := rfl
  rw [e]
  unfold Nat.repr
  simp
theorem num_head {n : Nat} (h : 1 ≤ n) : (TL.numL n)[0]? ≠ some 48 := by
  induction n using Nat.strongRecOn with
  | _ n ih =>
    by_cases lt : n < 10
    · rw [TL.numL_lt lt]
      intro z
      have z := Option.some.inj z
      omega
    · rw [TL.numL_step (by omega)]
      have h2 := ih (n / 10) (by omega) (by omega)
      have ne := TL.numL_ne (n / 10)
      rw [List.getElem?_append_left (by cases e : TL.numL (n / 10) with
        | nil => exact absurd e ne
        | cons _ _ => exact Nat.zero_lt_succ _)]
      exact h2
theorem rdN_num {i : Int} (h0 : 0 ≤ i) : rdN (num i) = some i := by
  have tl := tl_num h0
  have tl2 : (num i).cps.toList = TL.numL i.toNat := tl
  have ok : rdOk (num i) = true := by
    unfold rdOk
    have l1 : 1 ≤ (num i).length := by
      have : (num i).cps.toList.length = (num i).length := rfl
      rw [tl2] at this
      cases e : TL.numL i.toNat with
      | nil => exact absurd e (TL.numL_ne _)
      | cons a b =>
        rw [e] at this
        simp at this
        omega
    rw [decide_eq_true l1, Bool.true_and, tl2]
    have dg : (TL.numL i.toNat).all dgt = true := List.all_eq_true.mpr fun c hc => by
      have := TL.numL_digits i.toNat c hc
      unfold dgt
      rw [decide_eq_true this.1, decide_eq_true this.2]
      rfl
    rw [dg, Bool.and_true]
    by_cases z : i.toNat = 0
    · have : num i = Str.ofString "0" := by
        apply TL.ext_tl
        rw [tl, z]
        decide +kernel
      rw [decide_eq_true this]
      simp
    · rw [decide_eq_false (num_head (by omega))]
      rfl
  unfold rdN
  rw [if_pos ok, tl2, TL.numL_val]
  congr 1
  omega
/-- signs of a text -/
def Free (c : Nat) (z : Str) : Prop := c ∉ TL.tl z
theorem free_num {i : Int} (h0 : 0 ≤ i) {c : Nat} (h : c < 48 ∨ 57 < c) : Free c (num i) := by
  unfold Free
  rw [tl_num h0]
  exact TL.numL_free h
theorem free_name {z : Str} (h : isW z = true) {c : Nat} (hc : c < 97 ∨ 122 < c) : Free c z := by
  unfold isW at h
  rw [Bool.and_eq_true, Bool.and_eq_true] at h
  intro m
  have := List.all_eq_true.mp h.2.2 c m
  rw [Bool.and_eq_true, decide_eq_true_eq, decide_eq_true_eq] at this
  omega
theorem free_app {c : Nat} {x y : Str} (hx : Free c x) (hy : Free c y) : Free c (x ++ y) := by
  unfold Free
  rw [TL.tl_append]
  exact fun m => (List.mem_append.mp m).elim hx hy
theorem split_at {c : Nat} {sep : Str} (hs : TL.tl sep = [c]) (h256 : c < 256) {ys : List Str} (ne : ys ≠ []) (h : ∀ y ∈ ys, Free c y) : Txt.split (Txt.join sep ys) sep = ys :=
  TL.split_join hs (by
    have e : sep = ⟨#[c]⟩ := TL.ext_tl hs
    rw [e]
    simpa using h256) ne h
theorem tl_join2 (sep : Str) : ∀ (ys : List Str), TL.tl (Txt.join sep ys) = TL.joinL (TL.tl sep) (ys.map TL.tl) := fun ys => by
  rw [TL.join_eq, TL.tl_join]
theorem tl_sp1 : TL.tl sp1 = [32] := by decide +kernel
theorem tl_nl : TL.tl (Str.ofString "\n") = [10] := by decide +kernel
theorem tl_hy : TL.tl (Str.ofString "-") = [45] := by decide +kernel
def kM : Str := Str.ofString "machine"
def kC : Str := Str.ofString "cleaning"
def kS : Str := Str.ofString "stuff"
def kP : Str := Str.ofString "product"
theorem tl_empty : TL.tl Str.empty = [] := rfl
theorem line3_join {pre k : Str} (h : TL.tl pre = TL.tl k ++ [32]) (r : Str × Int × Int) : line3 pre r = Txt.join sp1 [k, r.1, num r.2.1, num r.2.2] := by
  apply TL.ext_tl
  rw [tl_join2]
  unfold line3
  simp only [TL.tl_append, h, tl_sp1, tl_empty, List.map, TL.joinL, List.nil_append, List.append_assoc, List.cons_append]
theorem line2_join {pre k : Str} (h : TL.tl pre = TL.tl k ++ [32]) (r : Str × Int) : line2 pre r = Txt.join sp1 [k, r.1, num r.2] := by
  apply TL.ext_tl
  rw [tl_join2]
  unfold line2
  simp only [TL.tl_append, h, tl_sp1, tl_empty, List.map, TL.joinL, List.nil_append, List.append_assoc, List.cons_append]
/-- the word of a pair of bounds -/
def bword (b : Int × Int) : Str := num b.1 ++ Str.ofString "-" ++ num b.2
theorem bword_join (b : Int × Int) : bword b = Txt.join (Str.ofString "-") [num b.1, num b.2] := by
  apply TL.ext_tl
  rw [tl_join2]
  unfold bword
  simp only [TL.tl_append, List.map, TL.joinL, List.nil_append, List.append_assoc, List.cons_append]
theorem join_nil_sep : ∀ ys : List Str, TL.tl (Txt.join (Str.ofString "") ys) = (ys.map TL.tl).flatten
  | [] => by decide +kernel
  | [y] => by
    rw [tl_join2]
    simp only [List.map, TL.joinL]
    simp
  | y :: z :: r => by
    have ih := join_nil_sep (z :: r)
    rw [tl_join2] at ih ⊢
    simp only [List.map, TL.joinL] at ih ⊢
    rw [ih, show TL.tl (Str.ofString "") = [] from by decide +kernel]
    simp
theorem joinL_sp : ∀ (x : List Nat) (ys : List (List Nat)), TL.joinL [32] (x :: ys) = x ++ (ys.map fun y => 32 :: y).flatten
  | x, [] => by simp [TL.joinL]
  | x, y :: r => by
    have ih := joinL_sp y r
    simp only [TL.joinL] at ih ⊢
    rw [ih]
    simp
theorem pline_join (n : Str) (bs : List (Int × Int)) : pline n bs = Txt.join sp1 (kP :: n :: bs.map bword) := by
  apply TL.ext_tl
  rw [tl_join2]
  unfold pline
  rw [TL.tl_append, TL.tl_append, TL.tl_append, join_nil_sep, tl_empty, tl_sp1, List.map_cons, joinL_sp, List.map_cons, List.map_cons, List.flatten_cons,
    show TL.tl (Str.ofString "product ") = TL.tl kP ++ [32] from by decide +kernel]
  rw [List.map_map, List.map_map, List.map_map]
  have e : (bs.map (TL.tl ∘ bline)) = bs.map ((fun y => 32 :: y) ∘ (TL.tl ∘ bword)) := by
    apply List.map_congr_left
    intro b _
    show TL.tl (bline b) = 32 :: TL.tl (bword b)
    unfold bline bword
    simp only [TL.tl_append, tl_empty, show TL.tl (Str.ofString " ") = [32] from by decide +kernel, List.nil_append, List.append_assoc, List.cons_append]
  rw [e]
  simp
  rfl
/-- works as they may be, of any size that is let -/
structure GoodF (W : Wd) : Prop where
  m1 : 1 ≤ W.ms.length
  m2 : W.ms.length ≤ 6
  c2 : W.cs.length ≤ 6
  s1 : 1 ≤ W.ss.length
  s2 : W.ss.length ≤ 3
  p1 : 1 ≤ W.ps.length
  p2 : W.ps.length ≤ 8
  mb : ∀ r ∈ W.ms, 0 ≤ r.2.1 ∧ r.2.1 ≤ r.2.2 ∧ r.2.2 ≤ 1000
  cb : ∀ r ∈ W.cs, 0 ≤ r.2.1 ∧ r.2.1 ≤ r.2.2 ∧ r.2.2 ≤ 1000
  sb : ∀ r ∈ W.ss, 0 ≤ r.2 ∧ r.2 ≤ 1000000000000
  pb : ∀ r ∈ W.ps, r.2.length = W.ss.length ∧ ∀ b ∈ r.2, 0 ≤ b.1 ∧ b.1 ≤ b.2 ∧ b.2 ≤ 1000000000000
  nd : (W.ms.map (·.1) ++ (W.cs.map (·.1) ++ (W.ss.map (·.1) ++ W.ps.map (·.1)))).Nodup
  nm : ∀ x ∈ W.ms.map (·.1) ++ (W.cs.map (·.1) ++ (W.ss.map (·.1) ++ W.ps.map (·.1))), isW x = true
theorem isW_8 {x : Str} (h : isW x = true) : x.length ≤ 8 := by
  unfold isW at h
  rw [Bool.and_eq_true, Bool.and_eq_true, decide_eq_true_eq, decide_eq_true_eq] at h
  exact h.2.1
namespace GoodF
variable {W : Wd} (g : GoodF W)
include g
theorem wm {r : Str × Int × Int} (h : r ∈ W.ms) : isW r.1 = true := g.nm _ (List.mem_append_left _ (List.mem_map_of_mem h))
theorem wc {r : Str × Int × Int} (h : r ∈ W.cs) : isW r.1 = true := g.nm _ (List.mem_append_right _ (List.mem_append_left _ (List.mem_map_of_mem h)))
theorem ws {r : Str × Int} (h : r ∈ W.ss) : isW r.1 = true := g.nm _ (List.mem_append_right _ (List.mem_append_right _ (List.mem_append_left _ (List.mem_map_of_mem h))))
theorem wp {r : Str × List (Int × Int)} (h : r ∈ W.ps) : isW r.1 = true := g.nm _ (List.mem_append_right _ (List.mem_append_right _ (List.mem_append_right _ (List.mem_map_of_mem h))))
end GoodF
theorem free_join {c : Nat} {sep : Str} (hs : Free c sep) : ∀ {ys : List Str}, (∀ y ∈ ys, Free c y) → Free c (Txt.join sep ys)
  | [], _ => by
    unfold Free
    rw [tl_join2]
    simp [TL.joinL]
  | [y], h => by
    have := h y (List.mem_cons_self ..)
    unfold Free at this ⊢
    rw [tl_join2]
    simpa [TL.joinL] using this
  | y :: z :: r, h => by
    have ih := free_join hs (ys := z :: r) fun x hx => h x (List.mem_cons_of_mem _ hx)
    have hy := h y (List.mem_cons_self ..)
    unfold Free at ih hy hs ⊢
    rw [tl_join2] at ih ⊢
    simp only [List.map, TL.joinL] at ih ⊢
    intro m
    rcases List.mem_append.mp m with m | m
    · exact hy m
    · rcases List.mem_append.mp m with m | m
      · exact hs m
      · exact ih m
theorem kM_pre : TL.tl (Str.ofString "machine ") = TL.tl kM ++ [32] := by decide +kernel
theorem kC_pre : TL.tl (Str.ofString "cleaning ") = TL.tl kC ++ [32] := by decide +kernel
theorem kS_pre : TL.tl (Str.ofString "stuff ") = TL.tl kS ++ [32] := by decide +kernel
theorem k_free {c : Nat} (h : c < 97 ∨ 122 < c) {k : Str} (hk : k = kM ∨ k = kC ∨ k = kS ∨ k = kP) : Free c k := by
  rcases hk with rfl | rfl | rfl | rfl <;> exact free_name (by decide +kernel) h
/-- the words of the lines -/
def wordsM (k : Str) (r : Str × Int × Int) : List Str := [r.1, num r.2.1, num r.2.2]
def wordsS (r : Str × Int) : List Str := [r.1, num r.2]
def wordsP (r : Str × List (Int × Int)) : List Str := r.1 :: r.2.map bword
theorem bword_free {b : Int × Int} (h : Small b) {c : Nat} (hc : c < 45 ∨ 57 < c) : Free c (bword b) := by
  obtain ⟨s1, s2, s3⟩ := h
  refine free_app (free_app (free_num s1 (by omega)) ?_) (free_num (Int.le_trans s1 s2) (by omega))
  unfold Free
  rw [tl_hy]
  intro m
  have := List.mem_singleton.mp m
  omega
theorem wordsM_free {k : Str} {r : Str × Int × Int} (w : isW r.1 = true) (b : 0 ≤ r.2.1 ∧ r.2.1 ≤ r.2.2 ∧ r.2.2 ≤ 1000) {c : Nat} (hc : c < 48) : ∀ y ∈ wordsM k r, Free c y := by
  intro y hy
  unfold wordsM at hy
  simp only [List.mem_cons, List.not_mem_nil, or_false] at hy
  rcases hy with rfl | rfl | rfl
  · exact free_name w (by omega)
  · exact free_num b.1 (by omega)
  · exact free_num (by omega) (by omega)
theorem wordsS_free {r : Str × Int} (w : isW r.1 = true) (b : 0 ≤ r.2) {c : Nat} (hc : c < 48) : ∀ y ∈ wordsS r, Free c y := by
  intro y hy
  unfold wordsS at hy
  simp only [List.mem_cons, List.not_mem_nil, or_false] at hy
  rcases hy with rfl | rfl
  · exact free_name w (by omega)
  · exact free_num b (by omega)
theorem wordsP_free {r : Str × List (Int × Int)} (w : isW r.1 = true) (b : ∀ x ∈ r.2, Small x) {c : Nat} (hc : c < 45) : ∀ y ∈ wordsP r, Free c y := by
  intro y hy
  unfold wordsP at hy
  rcases List.mem_cons.mp hy with rfl | hy
  · exact free_name w (by omega)
  · obtain ⟨x, hx, rfl⟩ := List.mem_map.mp hy
    exact bword_free (b x hx) (by omega)
theorem sp1_free {c : Nat} (h : c ≠ 32) : Free c sp1 := by
  unfold Free
  rw [tl_sp1]
  exact fun m => h (List.mem_singleton.mp m)
theorem free_cons {c : Nat} {k : Str} {ws : List Str} (hk : Free c k) (h : ∀ y ∈ ws, Free c y) : ∀ y ∈ k :: ws, Free c y := fun y hy => by
  rcases List.mem_cons.mp hy with rfl | hy
  · exact hk
  · exact h y hy
theorem wlines_free {W : Wd} (g : GoodF W) : ∀ y ∈ wlines W, Free 10 y := by
  intro y hy
  unfold wlines at hy
  rcases List.mem_append.mp hy with hy | hy
  · rcases List.mem_append.mp hy with hy | hy
    · rcases List.mem_append.mp hy with hy | hy
      · obtain ⟨r, hr, rfl⟩ := List.mem_map.mp hy
        rw [line3_join kM_pre]
        exact free_join (sp1_free (by decide)) (free_cons (k_free (by omega) (.inl rfl)) (wordsM_free (k := kM) (g.wm hr) (g.mb r hr) (by omega)))
      · obtain ⟨r, hr, rfl⟩ := List.mem_map.mp hy
        rw [line3_join kC_pre]
        exact free_join (sp1_free (by decide)) (free_cons (k_free (by omega) (.inr (.inl rfl))) (wordsM_free (k := kC) (g.wc hr) (g.cb r hr) (by omega)))
    · obtain ⟨r, hr, rfl⟩ := List.mem_map.mp hy
      rw [line2_join kS_pre]
      exact free_join (sp1_free (by decide)) (free_cons (k_free (by omega) (.inr (.inr (.inl rfl)))) (wordsS_free (g.ws hr) (g.sb r hr).1 (by omega)))
  · obtain ⟨r, hr, rfl⟩ := List.mem_map.mp hy
    rw [pline_join]
    exact free_join (sp1_free (by decide)) (free_cons (k_free (by omega) (.inr (.inr (.inr rfl)))) (wordsP_free (g.wp hr) (g.pb r hr).2 (by omega)))
theorem split_text {W : Wd} (g : GoodF W) : Txt.split (wtext W) (Str.ofString "\n") = wlines W := by
  unfold wtext
  refine split_at tl_nl (by decide) (fun z => ?_) (wlines_free g)
  have l := g.m1
  have e := congrArg List.length z
  unfold wlines at e
  rw [List.length_append, List.length_append, List.length_append, List.length_map, List.length_nil] at e
  omega
theorem split_line {k : Str} {ws : List Str} (hk : k = kM ∨ k = kC ∨ k = kS ∨ k = kP) (h : ∀ y ∈ ws, Free 32 y) : Txt.split (Txt.join sp1 (k :: ws)) sp1 = k :: ws :=
  split_at tl_sp1 (by decide) (by simp) (free_cons (k_free (by omega) hk) h)
theorem split_bword {b : Int × Int} (h : Small b) : Txt.split (bword b) (Str.ofString "-") = [num b.1, num b.2] := by
  obtain ⟨s1, s2, s3⟩ := h
  rw [bword_join]
  refine split_at tl_hy (by decide) (by simp) fun y hy => ?_
  simp only [List.mem_cons, List.not_mem_nil, or_false] at hy
  rcases hy with rfl | rfl
  · exact free_num s1 (by omega)
  · exact free_num (Int.le_trans s1 s2) (by omega)
end LJ
set_option Elab.async false
set_option linter.all false
set_option maxRecDepth 100000
set_option maxHeartbeats 8000000
namespace LJ
open PySem PySem.Spec L2
/-! Deeds of plans: as data, as lines. -/
theorem Good.F {W : Wd} (g : Good W) : GoodF W := ⟨g.m1, g.m2, by have := g.c2; omega, g.s1, by have := g.s2; omega, g.p1, by have := g.p2; omega, g.mb, g.cb, g.sb, g.pb, g.nd, fun x hx => menu_w x (g.nm x hx)⟩
inductive Deed where
  | run (p : Str) (ms : List Str)
  | clean (m c : Str)
abbrev wRun : Str := Str.ofString "run"
abbrev wClean : Str := Str.ofString "clean"
abbrev nl : Str := Str.ofString "\n"
def Deed.words : Deed → List Str
  | .run p ms => wRun :: p :: ms
  | .clean m c => [wClean, m, c]
def Deed.lot : Deed → Option Str
  | .run p _ => some p
  | .clean .. => none
def dline (d : Deed) : Str := Txt.join sp1 d.words
def ptext (ds : List Deed) : Str := Txt.join nl (ds.map dline)
def lotsOf (ds : List Deed) : List Str := ds.filterMap Deed.lot
def DOk (W : Wd) : Deed → Prop
  | .run p ms => p ∈ W.ps.map (·.1) ∧ 1 ≤ ms.length ∧ ms.length ≤ 4 ∧ ms.Nodup ∧ ∀ m ∈ ms, m ∈ W.ms.map (·.1)
  | .clean m c => m ∈ W.ms.map (·.1) ∧ c ∈ W.cs.map (·.1)
structure DsOk (W : Wd) (ds : List Deed) : Prop where
  all : ∀ d ∈ ds, DOk W d
  len : ds.length ≤ 20
  lots : (lotsOf ds).length ≤ 8
def DeedAt (H : Hp) (v : V) : Deed → Prop
  | .run p ms => ∃ a t, v = .ref a ∧ H a = some (.tup [.str wRun, .str p, .ref t]) ∧ H t = some (.tup (ms.map V.str))
  | .clean m c => ∃ a, v = .ref a ∧ H a = some (.tup [.str wClean, .str m, .str c])
theorem DeedAt.tup {H H1 : Hp} {v : V} {d : Deed} (t : Tup H H1) (h : DeedAt H v d) : DeedAt H1 v d := by
  cases d with
  | run p ms =>
    obtain ⟨a, b, rfl, h1, h2⟩ := h
    exact ⟨a, b, rfl, t _ _ h1, t _ _ h2⟩
  | clean m c =>
    obtain ⟨a, rfl, h1⟩ := h
    exact ⟨a, rfl, t _ _ h1⟩
theorem deeds_tup {H H1 : Hp} {vs : List V} {ds : List Deed} (t : Tup H H1) (h : Paired (DeedAt H) vs ds) : Paired (DeedAt H1) vs ds := L2.Paired.mapP h fun _ _ z => z.tup t
theorem run_w : isW wRun = true := by decide +kernel
theorem clean_w : isW wClean = true := by decide +kernel
theorem words_ne (d : Deed) : d.words ≠ [] := by
  cases d <;> exact List.cons_ne_nil _ _
theorem words_len {W : Wd} {d : Deed} (h : DOk W d) : d.words.length ≤ 6 := by
  cases d with
  | run p ms =>
    have := h.2.2.1
    show (wRun :: p :: ms).length ≤ 6
    simp only [List.length_cons]
    omega
  | clean m c => exact (by decide : 3 ≤ 6)
section
variable {W : Wd} (g : GoodF W)
include g
theorem GoodF.nM {z : Str} (h : z ∈ W.ms.map (·.1)) : isW z = true := by
  obtain ⟨r, hr, rfl⟩ := List.mem_map.mp h
  exact g.wm hr
theorem GoodF.nC {z : Str} (h : z ∈ W.cs.map (·.1)) : isW z = true := by
  obtain ⟨r, hr, rfl⟩ := List.mem_map.mp h
  exact g.wc hr
theorem GoodF.nP {z : Str} (h : z ∈ W.ps.map (·.1)) : isW z = true := by
  obtain ⟨r, hr, rfl⟩ := List.mem_map.mp h
  exact g.wp hr
theorem words_w {d : Deed} (h : DOk W d) : ∀ y ∈ d.words, isW y = true := by
  cases d with
  | run p ms =>
    obtain ⟨hp, _, _, _, hm⟩ := h
    intro y hy
    rcases List.mem_cons.mp hy with rfl | hy
    · exact run_w
    · rcases List.mem_cons.mp hy with rfl | hy
      · exact g.nP hp
      · exact g.nM (hm y hy)
  | clean m c =>
    obtain ⟨hm, hc⟩ := h
    intro y hy
    rcases List.mem_cons.mp hy with rfl | hy
    · exact clean_w
    · rcases List.mem_cons.mp hy with rfl | hy
      · exact g.nM hm
      · obtain rfl := List.mem_singleton.mp hy
        exact g.nC hc
theorem split_dline {d : Deed} (h : DOk W d) : Txt.split (dline d) sp1 = d.words :=
  split_at tl_sp1 (by decide) (words_ne d) fun y hy => free_name (words_w g h y hy) (.inl (by decide))
theorem dline_free {d : Deed} (h : DOk W d) : Free 10 (dline d) :=
  free_join (sp1_free (by decide)) fun y hy => free_name (words_w g h y hy) (.inl (by decide))
theorem split_ptext {ds : List Deed} (ne : ds ≠ []) (h : ∀ d ∈ ds, DOk W d) : Txt.split (ptext ds) nl = ds.map dline :=
  split_at tl_nl (by decide) (by cases ds with
    | nil => exact absurd rfl ne
    | cons => exact List.cons_ne_nil _ _) fun y hy => by
    obtain ⟨d, hd, rfl⟩ := List.mem_map.mp hy
    exact dline_free g (h d hd)
end
end LJ
set_option Elab.async false
set_option linter.all false
set_option maxRecDepth 100000
set_option maxHeartbeats 8000000
namespace LJ
open PySem PySem.Spec L2
open LamX (ExtN)
open NdefX (NTab TabsN)
/-! _are_passed, _is_deed, _check_deeds over good deeds. -/
def pmeth (i : Nat) : Stmt := (clsBody (top 49)).getD i (.Pass ⟨0, 0, 0, 0⟩)
abbrev sPa : Stmt := top 52
abbrev sId : Stmt := top 51
abbrev sCd : Stmt := top 50
/-- the works that a plan is of: what their properties give -/
structure WkD (C : Addr) (H : Hp) (x : Addr) (W : Wd) : Prop where
  at_ : ∃ am ac as ap, WorksAt C H x am ac as ap W ∧ Data4 H am ac as ap W
theorem WkD.ex {C x : Addr} {W : Wd} {H H1 : Hp} (e : Ex H H1) (h : WkD C H x W) : WkD C H1 x W := by
  obtain ⟨am, ac, as, ap, ⟨dx, D1, D2, D3, D4, b1, b2, v4, hx, ⟨g1, g2⟩, ⟨g3, g4⟩, g5, g6, g7⟩, ⟨⟨v1, m1, m2⟩, ⟨v2, m3, m4⟩, ⟨v3, m5, m6⟩, ⟨v5, m7, m8⟩⟩⟩ := h
  have t := Ex.tup e
  refine ⟨am, ac, as, ap, ⟨dx, D1, D2, D3, D4, b1, b2, v4, e _ _ hx, ⟨e _ _ g1, bnds t g2⟩, ⟨e _ _ g3, bnds t g4⟩, e _ _ g5, e _ _ g6, L2.Paired.mapP g7 fun v q z => ?_⟩, ⟨⟨v1, e _ _ m1, rows3 t m2⟩, ⟨v2, e _ _ m3, rows3 t m4⟩, ⟨v3, e _ _ m5, rows2 t m6⟩, ⟨v5, e _ _ m7, rowsP t m8⟩⟩⟩
  obtain ⟨Dp, ys, z1, z2, z3⟩ := z
  exact ⟨Dp, ys, z1, e _ _ z2, bnds t z3⟩
theorem named3 {H : Hp} {vs : List V} {rs : List (Str × Int × Int)} (h : Paired (Row3 H) vs rs) : Paired (NRow H) vs (rs.map (·.1)) := by
  induction h with
  | nil => exact .nil
  | cons a t ih =>
    obtain ⟨b, rfl, e⟩ := a
    exact .cons ⟨b, _, rfl, e⟩ ih
theorem namedP {H : Hp} {vs : List V} {rs : List (Str × List (Int × Int))} (h : Paired (RowP H) vs rs) : Paired (NRow H) vs (rs.map (·.1)) := by
  induction h with
  | nil => exact .nil
  | cons a t ih =>
    obtain ⟨b, t1, ys, rfl, e, _⟩ := a
    exact .cons ⟨b, _, rfl, e⟩ ih
theorem cut_takeN (xs : List V) {i : Nat} (h : i ≤ xs.length) : cutV xs none (some (i : Int)) = xs.take i := by
  unfold cutV HT.sIx
  show List.take ((if (i : Int) < 0 then ((i : Int) + (xs.length : Int)).toNat else min (i : Int).toNat xs.length) - 0) (List.drop 0 xs) = _
  rw [if_neg (by omega), Int.toNat_natCast, Nat.min_eq_left h]
  rfl
theorem cut_dropN (xs : List V) {i : Nat} (h : i ≤ xs.length) : cutV xs (some (i : Int)) none = xs.drop i := by
  unfold cutV HT.sIx
  show List.take (xs.length - (if (i : Int) < 0 then ((i : Int) + (xs.length : Int)).toNat else min (i : Int).toNat xs.length)) (List.drop (if (i : Int) < 0 then ((i : Int) + (xs.length : Int)).toNat else min (i : Int).toNat xs.length) xs) = _
  rw [if_neg (by omega), Int.toNat_natCast, Nat.min_eq_left h]
  exact List.take_of_length_le (by rw [List.length_drop]; exact Nat.le_refl _)
theorem sIx_le {n i : Nat} (h : i ≤ n) : HT.sIx n n (some (i : Int)) = i := by
  show (if (i : Int) < 0 then ((i : Int) + (n : Int)).toNat else min (i : Int).toNat n) = i
  rw [if_neg (by omega), Int.toNat_natCast, Nat.min_eq_left h]
theorem not_mem_take {α : Type} : ∀ {xs : List α} {i : Nat} {x : α}, xs.Nodup → xs[i]? = some x → x ∉ xs.take i
  | [], _, _, _, h => by simp at h
  | y :: ys, 0, x, _, _ => by simp
  | y :: ys, i + 1, x, nd, h => by
    rw [List.getElem?_cons_succ] at h
    rw [List.take_succ_cons]
    intro z
    rcases List.mem_cons.mp z with rfl | z
    · exact (List.nodup_cons.mp nd).1 (List.mem_of_getElem? h)
    · exact not_mem_take (List.nodup_cons.mp nd).2 h z
/-- machines passed that are known, in a tuple -/
def spPa (C : Addr) : Sp := fun vs H Q _ => ∃ (x t : Addr) (W : Wd) (ms : List Str), vs = [.ref x, .ref t] ∧ WkD C H x W ∧ GoodF W ∧ H t = some (.tup (ms.map V.str)) ∧ 1 ≤ ms.length ∧ ms.length ≤ 4 ∧ ms.Nodup ∧ (∀ m ∈ ms, m ∈ W.ms.map (·.1)) ∧ ∀ H1, Ex H H1 → Q (.bl true) H1
section
variable {P : Program} {w : World} {K : PySem.W.Frag} {mg : Str → Option Value} {base : Heap} {C : Addr}
/-- a property of Works that gives a field -/
abbrev PrW (P : Program) (w : World) (K : PySem.W.Frag) (mg : Str → Option Value) (base : Heap) (C : Addr) (n f : Str) : Prop := ∃ p g fd, PropOf K C n p g ∧ FnOk P w K mg base CX0 1 g fd ["self"] (getSp C f) ∧ Binds K fd ["self"] []
theorem scPa : FnScope ["works", "machines", "at", "machine"] ["works", "machines"] (defScope sPa) := ⟨rfl, rfl, rfl, by decide +kernel, rfl, by decide +kernel, by decide +kernel⟩
theorem ok_pa {f fN : Addr} {fd fdN : FuncData} {uL : Value} (F : Fun K "_are_passed" "_are_passed" sPa f fd) (B : BltI mg) (c : WCls K C) (mL : mg "MOST_PASSED" = some uL) (rL : RelV (.int 4) uL)
    (PM : PrW P w K mg base C "machines" "_machines") (GN : FnOk P w K mg base CX0 1 fN fdN ["rows", "value"] (spNo K)) (mN : mg "is_name_of" = some (.ref fN)) (kN : PySem.W.keepIn K (.ref fN) = true) (bN : Binds K fdN ["rows", "value"] []) :
    FnOk P w K mg base CX0 3 f fd ["works", "machines"] (spPa C) := by
  refine F.ok scPa (fun vs H Q E h => ?_) (fun cdv A outer s H vs Q E hr h => ?_)
  · obtain ⟨x, t, W, ms, rfl, _⟩ := h
    rfl
  · obtain ⟨x, t, W, ms, rfl, wk, g, ht, l1, l4, nd, all, q⟩ := h
    obtain ⟨p1, g1, fd1, P1, G1, b1⟩ := PM
    have hr1 : Room 1 _ := hr.mono (by decide)
    refine ⟨_, pss_cons (ps_if (PW.pt (pw_or (pt_not (pt_truth (pe_callB call_isi (by rfl) B.isinstance (by decide +kernel) (pa_cons (pv 1) (pa_cons (pe_bltn (by rfl) B.tuple (by decide +kernel) (v := .ty "tuple") rfl) pa_nil))) (fun _ => rfl)))
        (pw_or1 (pt_not (pt_chain op_le op_le pe_int (pe_callB call_len_seq (by rfl) B.len (by decide +kernel) (pa_cons (pv 1) pa_nil)) (pe_glob (by rfl) mL rL)))))) (pss_one (ps_ret pe_bl)) pss_nil)
      (pss_cons (ps_for PassesOwn.never rfl (EnT.pi_enT (by rfl) B.enumerate (pa_cons (pv 1) pa_nil)) (pg_tup (by rfl) (pgs_cons (pg_name (i := 2) scPa.nd rfl (Or.inl rfl)) (pgs_cons (pg_name (i := 3) scPa.nd rfl (Or.inl rfl)) pgs_nil)))
        (pss_one (ps_if (PW.pt (pw_or (pt_not (pt_val (pe_call GN hr1 (by rfl) mN kN bN .nil pass0 (pa_cons (pe_prop (pv 0) c.cl P1 G1 hr b1 .nil pass0 (by rfl)) (pa_cons (pv 3) pa_nil)))))
          (pw_or1 (pt_cmpR op_in_seq (pv 3) (pe_slice sl_tup (pv 1) po_none (po_some (pv 2))) (by with_unfolding_all rfl))))) (pss_one (ps_ret pe_bl)) pss_nil)))
      (pss_one (ps_ret pe_bl))), ?_⟩
    have sz := sizeLine_eq
    have lm : (ms.map V.str).length = ms.length := List.length_map ..
    refine ⟨_, rfl, _, _, _, _, true, rfl, .ty "tuple", .base (.tup ht), kit_ty (by decide +kernel), true, rfl, ?_⟩
    refine ite2 (fun z => by cases z) (fun _ => ?_)
    refine ⟨_, rfl, t, _, rfl, .inr (SqT.of ht), 1, _, rfl, rfl, _, rfl, ?_⟩
    rw [lm]
    refine ite2 (fun _ => ?_) (fun z => absurd (decide_eq_true (show (1 : Int) ≤ (ms.length : Int) by omega)) z)
    refine ⟨_, _, rfl, rfl, _, rfl, ?_⟩
    rw [decide_eq_true (show (ms.length : Int) ≤ 4 by omega)]
    refine ite2 (fun z => by cases z) (fun _ => ?_)
    try dsimp only
    refine ⟨_, rfl, t, _, rfl, SqT.of ht, for_it walk_en (fun n σ G => (∃ v2 v3, σ = [some (.ref x), some (.ref t), v2, v3]) ∧ Ex H G) ⟨⟨_, _, rfl⟩, Ex.refl⟩ (fun n σ G _ h => SqT.of (h.2 _ _ ht)) ?_ ?_⟩
    · rintro i v σ G G1 hi ⟨⟨v2, v3, rfl⟩, xG⟩ ⟨T, y1, y2, rfl, nT, rfl, h1, h2⟩
      cases h1
      have h2 : (ms.map V.str)[i]? = some y2 := h2
      rw [List.getElem?_map] at h2
      obtain ⟨m, hm, rfl⟩ := Option.map_eq_some_iff.mp h2
      have mm := List.mem_of_getElem? hm
      have li : i < ms.length := (List.getElem?_eq_some_iff.mp hm).1
      have xT : Ex H (upd G T (.tup [.int (i : Nat), .str m])) := xG.new nT
      have eT : (upd G T (.tup [.int (i : Nat), .str m])) T = some (.tup [.int (i : Nat), .str m]) := upd_same
      generalize upd G T (.tup [.int (i : Nat), .str m]) = G1 at xT eT ⊢
      refine ⟨T, _, rfl, SqT.of eT, rfl, _, _, rfl, _, _, rfl, rfl, ?_⟩
      try dsimp only
      obtain ⟨am, ac, as, ap, wk1, dt1⟩ := wk.ex xT
      obtain ⟨dx, D1, D2, D3, D4, b1', b2', v4, hx, _⟩ := wk1
      obtain ⟨vm, em, pm⟩ := dt1.m
      have w8 := isW_8 (g.nM (all m mm))
      have nl : (W.ms.map (·.1)).length ≤ 100 := by
        rw [List.length_map]
        have := g.m2
        omega
      refine ⟨_, rfl, x, dx, _, rfl, hx, x, dx, _, _, rfl, hx, rfl, _, rfl, am, .str m, vm, _, rfl, em, named3 pm, nl, .str m (by omega), fun G2 x2 => ⟨_, rfl, ?_⟩⟩
      have isT : isOf (W.ms.map (·.1)) (.str m) = true := List.elem_eq_true_of_mem (all m mm)
      rw [isT]
      refine ite2 (fun z => by cases z) (fun _ => ?_)
      refine ⟨_, rfl, _, rfl, _, rfl, _, rfl, t, _, rfl, SqT.of (x2 _ _ (xT _ _ ht)), fun z => ?_, fun p np => ?_⟩
      · obtain ⟨_, z2⟩ := z
        rw [lm, sIx_le (by omega)] at z2
        omega
      · rw [cut_takeN _ (by rw [lm]; omega), ← List.map_take]
        refine ⟨p, _, rfl, .inr (SqT.of upd_same), rfl, flat_strs _, ?_⟩
        have no : inV (.str m) ((ms.take i).map V.str) = false := by
          rw [inV_strs]
          exact Bool.eq_false_iff.mpr fun z => not_mem_take nd hm (List.mem_of_elem_eq_true z)
        refine ⟨_, rfl, ?_⟩
        rw [if_neg (by decide), no]
        refine ite2 (fun z => by cases z) (fun _ => ?_)
        exact ⟨⟨_, _, rfl⟩, (xT.trans x2).new np⟩
    · rintro σ G ⟨_, xG⟩
      exact q G xG
end
end LJ
set_option Elab.async false
set_option linter.all false
set_option maxRecDepth 100000
set_option maxHeartbeats 8000000
namespace LJ
open PySem PySem.Spec L2
open LamX (ExtN)
open NdefX (NTab TabsN)
def spId (C : Addr) : Sp := fun vs H Q _ => ∃ (x : Addr) (v : V) (W : Wd) (d : Deed), vs = [.ref x, v] ∧ WkD C H x W ∧ GoodF W ∧ DeedAt H v d ∧ DOk W d ∧ ∀ H1, Ex H H1 → Q (.bl true) H1
section
variable {P : Program} {w : World} {K : PySem.W.Frag} {mg : Str → Option Value} {base : Heap} {C : Addr}
/-- is_name_of(works.x, word), for a known word -/
theorem rd_nameOf {K : PySem.W.Frag} {C x : Addr} {f : Str} {iw iz : Nat} {z : Str} {names : List Str} {σ : L2.St} {H : Hp} {Q : VK} {dx tp : Addr} {fs : List (Str × V)} {rs : List V} (hw : σ[iw]? = some (some (.ref x))) (hz : σ[iz]? = some (some (.str z))) (hx : H x = some (.ins C dx fs)) (hf : fs.lookup f = some (.ref tp)) (ht : H tp = some (.tup rs)) (pr : Paired (NRow H) rs names) (ln : names.length ≤ 100) (w8 : z.length ≤ 8) (m : z ∈ names)
    (q : ∀ H1, Ex H H1 → Q (.bl true) H1) : tCall (spNo K) [] E0 (tCons (tProp C (getSp C f) [] E0 (tVar iw)) (tCons (tVar iz) tNil)) σ H Q := by
  have sz := sizeLine_eq
  refine ⟨_, hw, x, dx, _, rfl, hx, x, dx, _, _, rfl, hx, hf, _, hz, tp, .str z, rs, names, rfl, ht, pr, ln, .str z (by omega), fun G2 x2 => ?_⟩
  have isT : isOf names (.str z) = true := List.elem_eq_true_of_mem m
  rw [isT]
  exact q G2 x2
theorem scId : FnScope ["works", "deed", "word", "first", "second"] ["works", "deed"] (defScope sId) := ⟨rfl, rfl, rfl, by decide +kernel, rfl, by decide +kernel, by decide +kernel⟩
theorem ok_id {f fN fP : Addr} {fd fdN fdP : FuncData} (F : Fun K "_is_deed" "_is_deed" sId f fd) (B : BltI mg) (c : WCls K C)
    (PM : PrW P w K mg base C "machines" "_machines") (PC' : PrW P w K mg base C "cleanings" "_cleanings") (PP : PrW P w K mg base C "products" "_products")
    (GN : FnOk P w K mg base CX0 1 fN fdN ["rows", "value"] (spNo K)) (mN : mg "is_name_of" = some (.ref fN)) (kN : PySem.W.keepIn K (.ref fN) = true) (bN : Binds K fdN ["rows", "value"] [])
    (GP : FnOk P w K mg base CX0 3 fP fdP ["works", "machines"] (spPa C)) (mP : mg "_are_passed" = some (.ref fP)) (kP : PySem.W.keepIn K (.ref fP) = true) (bP : Binds K fdP ["works", "machines"] []) :
    FnOk P w K mg base CX0 4 f fd ["works", "deed"] (spId C) := by
  refine F.ok scId (fun vs H Q E h => ?_) (fun cdv A outer s H vs Q E hr h => ?_)
  · obtain ⟨x, v, W, d, rfl, _⟩ := h
    rfl
  · obtain ⟨x, v, W, d, rfl, wk, g, dd, ok, q⟩ := h
    obtain ⟨p1, g1, fd1, P1, G1, b1⟩ := PM
    obtain ⟨p2, g2, fd2, P2, G2, b2⟩ := PC'
    obtain ⟨p4, g4, fd4, P4, G4, b4⟩ := PP
    have hr1 : Room 1 _ := hr.mono (by decide)
    have hr2 : Room 2 _ := hr.mono (by decide)
    refine ⟨_, pss_cons (ps_if (PW.pt (pw_or (pt_not (pt_truth (pe_callB call_isi (by rfl) B.isinstance (by decide +kernel) (pa_cons (pv 1) (pa_cons (pe_bltn (by rfl) B.tuple (by decide +kernel) (v := .ty "tuple") rfl) pa_nil))) (fun _ => rfl)))
        (pw_or (pt_cmpR op_ne (pe_callB call_len_seq (by rfl) B.len (by decide +kernel) (pa_cons (pv 1) pa_nil)) pe_int (nomark _))
        (pw_or1 (pt_not (pt_truth (pe_callB call_isi (by rfl) B.isinstance (by decide +kernel) (pa_cons (pe_ix ix_tup (pv 1) pe_int (fun _ _ => rfl)) (pa_cons (pe_bltn (by rfl) B.str (by decide +kernel) (v := .ty "str") rfl) pa_nil))) (fun _ => rfl))))))) (pss_one (ps_ret pe_bl)) pss_nil)
      (pss_cons (ps_asg (pv 1) (pg_tup (by rfl) (pgs_cons (pg_name (i := 2) scId.nd rfl (Or.inl rfl)) (pgs_cons (pg_name (i := 3) scId.nd rfl (Or.inl rfl)) (pgs_cons (pg_name (i := 4) scId.nd rfl (Or.inl rfl)) pgs_nil)))))
      (pss_cons (ps_if (pt_cmpR op_eq (pv 2) pe_str (nomark _)) (pss_one (ps_ret (pe_and (pe_call GN hr1 (by rfl) mN kN bN .nil pass0 (pa_cons (pe_prop (pv 0) c.cl P4 G4 hr2 b4 .nil pass0 (by rfl)) (pa_cons (pv 3) pa_nil)))
          (pe_one (pe_call GP hr (by rfl) mP kP bP .nil pass0 (pa_cons (pv 0) (pa_cons (pv 4) pa_nil))))))) pss_nil)
      (pss_one (ps_ret (pe_and (pe_cmpR op_eq (pv 2) pe_str (nomark _)) (pe_and (pe_call GN hr1 (by rfl) mN kN bN .nil pass0 (pa_cons (pe_prop (pv 0) c.cl P1 G1 hr2 b1 .nil pass0 (by rfl)) (pa_cons (pv 3) pa_nil)))
          (pe_one (pe_call GN hr1 (by rfl) mN kN bN .nil pass0 (pa_cons (pe_prop (pv 0) c.cl P2 G2 hr2 b2 .nil pass0 (by rfl)) (pa_cons (pv 4) pa_nil)))))))))), ?_⟩
    have sz := sizeLine_eq
    cases d with
    | run p ms =>
      obtain ⟨a, t, rfl, ha, ht⟩ := dd
      obtain ⟨hp, l1, l4, nd, hm⟩ := ok
      refine ⟨_, rfl, _, _, _, _, true, rfl, .ty "tuple", .base (.tup ha), kit_ty (by decide +kernel), true, rfl, ?_⟩
      refine ite2 (fun z => by cases z) (fun _ => ?_)
      refine ⟨_, rfl, a, _, rfl, .inr (SqT.of ha), rfl, _, rfl, ?_⟩
      refine ite2 (fun z => by cases z) (fun _ => ?_)
      refine ⟨_, rfl, a, _, _, _, rfl, rfl, SqT.of ha, atI_nat (j := 0) rfl, _, _, _, _, true, rfl, .ty "str", .base (.str _), kit_ty (by decide +kernel), true, rfl, ?_⟩
      refine ite2 (fun z => by cases z) (fun _ => ?_)
      refine ⟨_, rfl, a, _, rfl, SqT.of ha, rfl, _, _, rfl, _, _, rfl, _, _, rfl, rfl, ?_⟩
      refine ⟨_, rfl, rfl, _, rfl, ?_⟩
      refine ite2 (fun _ => ?_) (fun z => absurd (decide_eq_true rfl) z)
      obtain ⟨am, ac, as, ap, wk1, dt1⟩ := id wk
      obtain ⟨dx, D1, D2, D3, D4, b1', b2', v4, hx, _⟩ := wk1
      obtain ⟨vp, ep, pp⟩ := dt1.p
      refine rd_nameOf rfl rfl hx rfl ep (namedP pp) (by rw [List.length_map]; have := g.p2; omega) (isW_8 (g.nP hp)) hp fun H1 x1 => ?_
      refine ⟨true, rfl, ?_⟩
      refine ⟨_, rfl, _, rfl, x, t, W, ms, rfl, wk.ex x1, g, x1 _ _ ht, l1, l4, nd, hm, fun H2 x2 => q H2 (x1.trans x2)⟩
    | clean m cl =>
      obtain ⟨a, rfl, ha⟩ := dd
      obtain ⟨hm, hcl⟩ := ok
      refine ⟨_, rfl, _, _, _, _, true, rfl, .ty "tuple", .base (.tup ha), kit_ty (by decide +kernel), true, rfl, ?_⟩
      refine ite2 (fun z => by cases z) (fun _ => ?_)
      refine ⟨_, rfl, a, _, rfl, .inr (SqT.of ha), rfl, _, rfl, ?_⟩
      refine ite2 (fun z => by cases z) (fun _ => ?_)
      refine ⟨_, rfl, a, _, _, _, rfl, rfl, SqT.of ha, atI_nat (j := 0) rfl, _, _, _, _, true, rfl, .ty "str", .base (.str _), kit_ty (by decide +kernel), true, rfl, ?_⟩
      refine ite2 (fun z => by cases z) (fun _ => ?_)
      refine ⟨_, rfl, a, _, rfl, SqT.of ha, rfl, _, _, rfl, _, _, rfl, _, _, rfl, rfl, ?_⟩
      refine ⟨_, rfl, rfl, _, rfl, ?_⟩
      refine ite2 (fun z => absurd z (by decide +kernel)) (fun _ => ?_)
      obtain ⟨am, ac, as, ap, wk1, dt1⟩ := id wk
      obtain ⟨dx, D1, D2, D3, D4, b1', b2', v4, hx, _⟩ := wk1
      obtain ⟨vm, em, pm⟩ := dt1.m
      refine ⟨_, rfl, rfl, true, rfl, ?_⟩
      refine rd_nameOf rfl rfl hx rfl em (named3 pm) (by rw [List.length_map]; have := g.m2; omega) (isW_8 (g.nM hm)) hm fun H1 x1 => ?_
      obtain ⟨am2, ac2, as2, ap2, wk2, dt2⟩ := wk.ex x1
      obtain ⟨dx2, F1, F2, F3, F4, c1', c2', w4, hx2, _⟩ := wk2
      obtain ⟨vc, ec, pc⟩ := dt2.c
      refine ⟨true, rfl, ?_⟩
      exact rd_nameOf rfl rfl hx2 rfl ec (named3 pc) (by rw [List.length_map]; have := g.c2; omega) (isW_8 (g.nC hcl)) hcl fun H2 x2 => q H2 (x1.trans x2)
end
end LJ
set_option Elab.async false
set_option linter.all false
namespace LJ
open PySem L2
/-! Steps of a reading, each by its own name. -/
theorem rd_seqU {a b : TS} {D : Ends} {σ : L2.St} {H : Hp} (h : a { D with nx := b D } σ H) : tSeq a b D σ H := h
theorem rd_asgU {te : TE} {g : TG} {D : Ends} {σ : L2.St} {H : Hp} (h : te σ H fun v H1 => g v σ H1 D.nx) : tAsg te g D σ H := h
theorem rd_nameU {i : Nat} {v : V} {σ : L2.St} {H : Hp} {Q : L2.St → Hp → Prop} (h : Q (σ.set i (some v)) H) : gName i v σ H Q := h
theorem rd_nextU {D : Ends} {σ : L2.St} {H : Hp} (h : D.nx σ H) : tNext D σ H := h
theorem rd_cbU {r : List V → Hp → VK → Prop} {t : TA} {σ : L2.St} {H : Hp} {Q : VK} (h : t σ H fun vs H1 => r vs H1 Q) : tCB r t σ H Q := h
theorem rd_consU {te : TE} {t : TA} {σ : L2.St} {H : Hp} {Q : List V → Hp → Prop} (h : te σ H fun v H1 => t σ H1 fun vs H2 => Q (v :: vs) H2) : tCons te t σ H Q := h
theorem rd_ifU {c : TT} {t u : TS} {D : Ends} {σ : L2.St} {H : Hp} (h : c σ H fun b H1 => if b = true then t D σ H1 else u D σ H1) : tIfS c t u D σ H := h
theorem rd_testU {t : TE} {σ : L2.St} {H : Hp} {Q : Bool → Hp → Prop} (h : t σ H fun x H1 => ∃ k, x = .bl k ∧ Q k H1) : tTest t σ H Q := h
theorem rd_opU {r : R2} {ta tb : TE} {σ : L2.St} {H : Hp} {Q : VK} (h : ta σ H fun x H1 => tb σ H1 fun y H2 => r x y H2 Q) : tOp r ta tb σ H Q := h
end LJ
set_option Elab.async false
set_option linter.all false
set_option maxRecDepth 100000
set_option maxHeartbeats 8000000
namespace LJ
open PySem PySem.Spec L2
open LamX (ExtN)
open NdefX (NTab TabsN)
def spCd (C : Addr) : Sp := fun vs H Q _ => ∃ (x td : Addr) (W : Wd) (rs : List V) (ds : List Deed), vs = [.ref x, .ref td] ∧ WkD C H x W ∧ GoodF W ∧ H td = some (.tup rs) ∧ Paired (DeedAt H) rs ds ∧ DsOk W ds ∧ ∀ H1, Ex H H1 → Q .non H1
/-- the first thing of a deed -/
theorem DeedAt.head {H : Hp} {v : V} {d : Deed} (h : DeedAt H v d) : ∃ a xs w0, v = .ref a ∧ H a = some (.tup (.str w0 :: xs)) ∧ ((w0 = wRun ∧ ∃ p, d.lot = some p) ∨ (w0 = wClean ∧ d.lot = none)) := by
  cases d with
  | run p ms =>
    obtain ⟨a, t, rfl, h1, _⟩ := h
    exact ⟨a, _, _, rfl, h1, .inl ⟨rfl, p, rfl⟩⟩
  | clean m c =>
    obtain ⟨a, rfl, h1⟩ := h
    exact ⟨a, _, _, rfl, h1, .inr ⟨rfl, rfl⟩⟩
theorem lots_take {ds : List Deed} {i : Nat} {d : Deed} (h : ds[i]? = some d) : lotsOf (ds.take (i + 1)) = lotsOf (ds.take i) ++ d.lot.toList := by
  unfold lotsOf
  rw [List.take_succ, h, List.filterMap_append]
  show _ ++ List.filterMap Deed.lot [d] = _
  cases e : d.lot with
  | none => simp [e]
  | some z => simp [e]
theorem lots_le (ds : List Deed) (i : Nat) : (lotsOf (ds.take i)).length ≤ (lotsOf ds).length := by
  unfold lotsOf
  exact ((List.take_sublist i ds).filterMap _).length_le
section
variable {P : Program} {w : World} {K : PySem.W.Frag} {mg : Str → Option Value} {base : Heap} {C : Addr}
theorem scCd : FnScope ["works", "deeds", "lots", "at", "deed"] ["works", "deeds"] (defScope sCd) := ⟨rfl, rfl, rfl, by decide +kernel, rfl, by decide +kernel, by decide +kernel⟩
theorem ok_cd {f fD : Addr} {fd fdD : FuncData} {u1 u2 : Value} (F : Fun K "_check_deeds" "_check_deeds" sCd f fd) (B : BltI mg) (m1 : mg "MOST_DEEDS" = some u1) (r1 : RelV (.int 20) u1) (m2 : mg "MOST_LOTS" = some u2) (r2 : RelV (.int 8) u2)
    (GD : FnOk P w K mg base CX0 4 fD fdD ["works", "deed"] (spId C)) (mD : mg "_is_deed" = some (.ref fD)) (kD : PySem.W.keepIn K (.ref fD) = true) (bD : Binds K fdD ["works", "deed"] []) :
    FnOk P w K mg base CX0 5 f fd ["works", "deeds"] (spCd C) := by
  refine F.ok scCd (fun vs H Q E h => ?_) (fun cdv A outer s H vs Q E hr h => ?_)
  · obtain ⟨x, td, W, rs, ds, rfl, _⟩ := h
    rfl
  · obtain ⟨x, td, W, rs, ds, rfl, wk, g, ht, pr, ok, q⟩ := h
    refine ⟨_, pss_cons (ps_if (pt_not (pt_truth (pe_callB call_isi (by rfl) B.isinstance (by decide +kernel) (pa_cons (pv 1) (pa_cons (pe_bltn (by rfl) B.tuple (by decide +kernel) (v := .ty "tuple") rfl) pa_nil))) (fun _ => rfl))) (pss_one ps_never) pss_nil)
      (pss_cons (ps_set (i := 2) scCd.nd rfl (Or.inl rfl) pe_int)
      (pss_one (ps_for PassesOwn.never rfl (EnT.pi_enT (by rfl) B.enumerate (pa_cons (pv 1) pa_nil)) (pg_tup (by rfl) (pgs_cons (pg_name (i := 3) scCd.nd rfl (Or.inl rfl)) (pgs_cons (pg_name (i := 4) scCd.nd rfl (Or.inl rfl)) pgs_nil)))
        (pss_cons (ps_if (PW.pt (pw_or (pt_cmpR op_eq (pv 3) (pe_glob (by rfl) m1 r1) (nomark _)) (pw_or1 (pt_not (pt_val (pe_call GD hr (by rfl) mD kD bD .nil pass0 (pa_cons (pv 0) (pa_cons (pv 4) pa_nil)))))))) (pss_one ps_never) pss_nil)
        (pss_cons (ps_if (pt_cmpR op_eq (pe_ix ix_tup (pv 4) pe_int (fun _ _ => rfl)) pe_str (nomark _)) (pss_one (ps_aug (i := 2) scCd.nd rfl (Or.inl rfl) pe_int ip_add)) pss_nil)
        (pss_one (ps_if (pt_cmpR op_gt (pv 2) (pe_glob (by rfl) m2 r2) (nomark _)) (pss_one ps_never) pss_nil))))))), ?_⟩
    have sz := sizeLine_eq
    have lr : rs.length = ds.length := Paired.size pr
    refine ⟨_, rfl, _, _, _, _, true, rfl, .ty "tuple", .base (.tup ht), kit_ty (by decide +kernel), true, rfl, ?_⟩
    refine ite2 (fun z => by cases z) (fun _ => ?_)
    refine rd_nextU ?_
    try dsimp only
    refine ⟨_, rfl, td, _, rfl, SqT.of ht, for_it walk_en (fun n σ G => (∃ v3 v4, σ = [some (.ref x), some (.ref td), some (.int ((lotsOf (ds.take n)).length : Nat)), v3, v4]) ∧ Ex H G) ⟨⟨_, _, rfl⟩, Ex.refl⟩ (fun n σ G _ h => SqT.of (h.2 _ _ ht)) ?_ ?_⟩
    · rintro i v σ G G1 hi ⟨⟨v3, v4, rfl⟩, xG⟩ ⟨T, y1, y2, rfl, nT, rfl, h1, h2⟩
      cases h1
      have h2 : rs[i]? = some y2 := h2
      obtain ⟨d, hd, dd⟩ := Paired.spot pr h2
      have li : i < ds.length := (List.getElem?_eq_some_iff.mp hd).1
      have l20 := ok.len
      have xT : Ex H (upd G T (.tup [.int (i : Nat), y2])) := xG.new nT
      have eT : (upd G T (.tup [.int (i : Nat), y2])) T = some (.tup [.int (i : Nat), y2]) := upd_same
      generalize upd G T (.tup [.int (i : Nat), y2]) = G1 at xT eT ⊢
      refine ⟨T, _, rfl, SqT.of eT, rfl, _, _, rfl, _, _, rfl, rfl, ?_⟩
      try dsimp only
      refine rd_seqU (rd_ifU ?_)
      refine ⟨_, rfl, rfl, _, rfl, ?_⟩
      refine ite2 (fun z => absurd (of_decide_eq_true z) (fun z => by have := V.int.inj z; omega)) (fun _ => ?_)
      refine ⟨_, rfl, _, rfl, x, y2, W, d, rfl, wk.ex xT, g, dd.tup (Ex.tup xT), ok.all d (List.mem_of_getElem? hd), fun G2 x2 => ⟨_, rfl, ?_⟩⟩
      refine ite2 (fun z => by cases z) (fun _ => ?_)
      refine rd_nextU ?_
      try dsimp only
      have x2' := xT.trans x2
      obtain ⟨a, xs, w0, rfl, ha, kind⟩ := (dd.tup (Ex.tup x2')).head
      refine rd_seqU (rd_ifU ?_)
      refine ⟨_, rfl, a, _, _, _, rfl, rfl, SqT.of ha, atI_nat (j := 0) rfl, rfl, _, rfl, ?_⟩
      have e1 := lots_take hd
      have l8 : (lotsOf (ds.take (i + 1))).length ≤ 8 := Nat.le_trans (lots_le ds (i + 1)) ok.lots
      have last : ∀ (n : Nat), n = (lotsOf (ds.take (i + 1))).length → ∀ {D : Ends}, D.nx [some (.ref x), some (.ref td), some (.int (n : Nat)), some (.int (i : Nat)), some (.ref a)] G2 → tIfS (tTest (tOp (rI0 fun i j => V.bl (decide (j < i))) (tVar 2) (tC (V.int 8)))) tNever tNext D [some (.ref x), some (.ref td), some (.int (n : Nat)), some (.int (i : Nat)), some (.ref a)] G2 := fun n hn D h => by
        refine rd_ifU ⟨_, rfl, _, _, rfl, rfl, _, rfl, ?_⟩
        exact ite2 (fun z => absurd (of_decide_eq_true z) (by omega)) (fun _ => h)
      rcases kind with ⟨rfl, p, hl⟩ | ⟨rfl, hl⟩
      · refine ite2 (fun _ => ?_) (fun z => absurd (decide_eq_true rfl) z)
        refine ⟨_, rfl, _, _, rfl, rfl, ?_⟩
        try dsimp only
        have e2 : (lotsOf (ds.take i)).length + 1 = (lotsOf (ds.take (i + 1))).length := by
          rw [e1, hl]
          simp
        refine last ((lotsOf (ds.take i)).length + 1) e2 ?_
        rw [e2]
        exact ⟨⟨_, _, rfl⟩, x2'⟩
      · refine ite2 (fun z => absurd z (by decide +kernel)) (fun _ => ?_)
        refine rd_nextU ?_
        try dsimp only
        have e2 : (lotsOf (ds.take i)).length = (lotsOf (ds.take (i + 1))).length := by
          rw [e1, hl]
          simp
        refine last (lotsOf (ds.take i)).length e2 ?_
        rw [e2]
        exact ⟨⟨_, _, rfl⟩, x2'⟩
    · rintro σ G ⟨_, xG⟩
      exact q G xG
end
end LJ
set_option Elab.async false
set_option linter.all false
set_option maxRecDepth 100000
set_option maxHeartbeats 8000000
namespace LJ
open PySem PySem.Spec L2
open LamX (ExtN)
open NdefX (NTab TabsN)
abbrev sLn : Stmt := top 53
def spLn : Sp := fun vs H Q _ => ∃ (v : V) (W : Wd) (d : Deed), vs = [v] ∧ GoodF W ∧ DeedAt H v d ∧ DOk W d ∧ ∀ H1, Ex H H1 → Q (.str (dline d)) H1
theorem sum_le {xs : List Nat} {b : Nat} : (∀ x ∈ xs, x ≤ b) → xs.sum ≤ xs.length * b := by
  induction xs with
  | nil => intro _; exact Nat.zero_le _
  | cons x xs ih =>
    intro h
    rw [List.sum_cons, List.length_cons, Nat.add_mul, Nat.one_mul, Nat.add_comm]
    exact Nat.add_le_add (ih fun y hy => h y (List.mem_cons_of_mem _ hy)) (h x (List.mem_cons_self ..))
theorem words_sum {W : Wd} (g : GoodF W) {d : Deed} (h : DOk W d) : (d.words.map (·.length)).sum + d.words.length * sp1.length ≤ 60 := by
  have l6 := words_len h
  have s1 : (d.words.map (·.length)).sum ≤ d.words.length * 8 := by
    have := sum_le (xs := d.words.map (·.length)) (b := 8) (fun x hx => by
      obtain ⟨y, hy, rfl⟩ := List.mem_map.mp hx
      exact isW_8 (words_w g h y hy))
    rw [List.length_map] at this
    exact this
  have e1 : sp1.length = 1 := by decide +kernel
  rw [e1]
  omega
theorem dline_len {W : Wd} (g : GoodF W) {d : Deed} (h : DOk W d) : (dline d).length ≤ 60 := by
  have z := words_sum g h
  have e1 : sp1.length = 1 := by decide +kernel
  unfold dline
  rw [join_len, e1]
  rw [e1] at z
  omega
section
variable {P : Program} {w : World} {K : PySem.W.Frag} {mg : Str → Option Value} {base : Heap} {C : Addr}
theorem scLn : FnScope ["deed", "word", "first", "second"] ["deed"] (defScope sLn) := ⟨rfl, rfl, rfl, by decide +kernel, rfl, by decide +kernel, by decide +kernel⟩
theorem ok_ln {f : Addr} {fd : FuncData} (F : Fun K "_line" "_line" sLn f fd) : FnOk P w K mg base CX0 1 f fd ["deed"] spLn := by
  refine F.ok scLn (fun vs H Q E h => ?_) (fun cdv A outer s H vs Q E hr h => ?_)
  · obtain ⟨v, W, d, rfl, _⟩ := h
    rfl
  · obtain ⟨v, W, d, rfl, g, dd, ok, q⟩ := h
    refine ⟨_, pss_cons (ps_asg (pv 0) (pg_tup (by rfl) (pgs_cons (pg_name (i := 1) scLn.nd rfl (Or.inl rfl)) (pgs_cons (pg_name (i := 2) scLn.nd rfl (Or.inl rfl)) (pgs_cons (pg_name (i := 3) scLn.nd rfl (Or.inl rfl)) pgs_nil)))))
      (pss_cons (ps_if (pt_cmpR op_eq (pv 1) pe_str (nomark _)) (pss_one (ps_ret (pe_join pe_str (pe_lst (pa_cons (pv 1) (pa_cons (pv 2) (StX.pa_star (pv 3) pa_nil))))))) pss_nil)
      (pss_one (ps_ret (pe_join pe_str (pe_lst (pa_cons (pv 1) (pa_cons (pv 2) (pa_cons (pv 3) pa_nil)))))))), ?_⟩
    have sz := sizeLine_eq
    have ws := words_sum g ok
    have wl := words_len ok
    cases d with
    | run p ms =>
      obtain ⟨a, t, rfl, ha, ht⟩ := dd
      have l4 := ok.2.2.1
      refine ⟨_, rfl, a, _, rfl, SqT.of ha, rfl, _, _, rfl, _, _, rfl, _, _, rfl, rfl, ?_⟩
      refine ⟨_, rfl, rfl, _, rfl, ?_⟩
      refine ite2 (fun _ => ?_) (fun z => absurd (decide_eq_true rfl) z)
      refine ⟨⟨_, rfl⟩, _, rfl, _, rfl, _, rfl, t, _, rfl, .inl (SqT.of ht), ?_, fun pl npl => ?_⟩
      · simp only [List.length_cons, List.length_append, List.length_map, List.length_nil]
        omega
      · have e1 : (upd H pl (.lst (V.str wRun :: V.str p :: (ms.map V.str ++ [])))) pl = some (.lst ((Deed.run p ms).words.map V.str)) := by
          rw [upd_same, List.append_nil]
          rfl
        exact ⟨sp1, pl, (Deed.run p ms).words, rfl, rfl, .inl (SqL.of e1), by omega, q _ (Ex.refl.new npl)⟩
    | clean m c =>
      obtain ⟨a, rfl, ha⟩ := dd
      refine ⟨_, rfl, a, _, rfl, SqT.of ha, rfl, _, _, rfl, _, _, rfl, _, _, rfl, rfl, ?_⟩
      refine ⟨_, rfl, rfl, _, rfl, ?_⟩
      refine ite2 (fun z => absurd z (by decide +kernel)) (fun _ => ?_)
      refine ⟨⟨_, rfl⟩, _, rfl, _, rfl, _, rfl, ?_, fun pl npl => ?_⟩
      · simp only [List.length_cons, List.length_nil]
        omega
      · have e1 : (upd H pl (.lst [V.str wClean, .str m, .str c])) pl = some (.lst ((Deed.clean m c).words.map V.str)) := upd_same
        exact ⟨sp1, pl, (Deed.clean m c).words, rfl, rfl, .inl (SqL.of e1), by omega, q _ (Ex.refl.new npl)⟩
end
end LJ
set_option Elab.async false
set_option linter.all false
set_option maxRecDepth 100000
set_option maxHeartbeats 8000000
namespace LJ
open PySem PySem.Spec L2
open LamX (ExtN)
open NdefX (NTab TabsN)
abbrev sPI : Stmt := pmeth 0
structure PCls (K : PySem.W.Frag) (C : Addr) : Prop where
  cl : Cls K C
  n1 : NoAttr K C "_works"
  n2 : NoAttr K C "_deeds"
  n3 : NoAttr K C "_lots"
  n4 : NoAttr K C "_text"
/-- what a made object of Plan holds -/
structure PlanAt (PC C : Addr) (H : Hp) (y x : Addr) (W : Wd) (td : Addr) (ds : List Deed) : Prop where
  wk : WkD C H x W
  at_ : ∃ (dy tl : Addr) (rs : List V), H y = some (.ins PC dy [("_works", .ref x), ("_deeds", .ref td), ("_lots", .ref tl), ("_text", .str (ptext ds))]) ∧ H td = some (.tup rs) ∧ Paired (DeedAt H) rs ds ∧ H tl = some (.tup ((lotsOf ds).map V.str))
def spPI (PC C : Addr) : Sp := fun vs H Q _ => ∃ (y dy x td : Addr) (W : Wd) (rs : List V) (ds : List Deed), vs = [.ref y, .ref x, .ref td] ∧ H y = some (.ins PC dy []) ∧ WkD C H x W ∧ GoodF W ∧ H td = some (.tup rs) ∧ Paired (DeedAt H) rs ds ∧ DsOk W ds ∧
  ∀ H1, But y H H1 → PlanAt PC C H1 y x W td ds → Q .non H1
theorem WkD.but {C x y PC dy : Addr} {fs : List (Str × V)} {W : Wd} {H H1 : Hp} (hy : H y = some (.ins PC dy fs)) (ne : y ≠ x) (b : But y H H1) (h : WkD C H x W) : WkD C H1 x W := by
  obtain ⟨am, ac, as, ap, ⟨dx, D1, D2, D3, D4, b1, b2, v4, hx, ⟨g1, g2⟩, ⟨g3, g4⟩, g5, g6, g7⟩, ⟨⟨v1, m1, m2⟩, ⟨v2, m3, m4⟩, ⟨v3, m5, m6⟩, ⟨v5, m7, m8⟩⟩⟩ := h
  have t := But.tup hy b
  have k : ∀ {a : Addr} {kvs : List (Key × V)}, H a = some (.dK kvs) → H1 a = some (.dK kvs) := fun {a kvs} e => b a _ (ne_of e hy fun z => nomatch z) e
  refine ⟨am, ac, as, ap, ⟨dx, D1, D2, D3, D4, b1, b2, v4, b x _ ne.symm hx, ⟨k g1, bnds t g2⟩, ⟨k g3, bnds t g4⟩, k g5, k g6, L2.Paired.mapP g7 fun v q z => ?_⟩, ⟨⟨v1, t _ _ m1, rows3 t m2⟩, ⟨v2, t _ _ m3, rows3 t m4⟩, ⟨v3, t _ _ m5, rows2 t m6⟩, ⟨v5, t _ _ m7, rowsP t m8⟩⟩⟩
  obtain ⟨Dp, ys, z1, z2, z3⟩ := z
  exact ⟨Dp, ys, z1, k z2, bnds t z3⟩
theorem ptext_len {W : Wd} (g : GoodF W) {ds : List Deed} (ok : DsOk W ds) : ((ds.map dline).map (·.length)).sum + (ds.map dline).length * nl.length ≤ 1300 := by
  have l20 := ok.len
  have e1 : nl.length = 1 := by decide +kernel
  have s1 := sum_le (xs := (ds.map dline).map (·.length)) (b := 60) (fun x hx => by
    obtain ⟨y, hy, rfl⟩ := List.mem_map.mp hx
    obtain ⟨d, hd, rfl⟩ := List.mem_map.mp hy
    exact dline_len g (ok.all d hd))
  rw [List.length_map, List.length_map] at s1
  rw [e1, List.length_map]
  omega
section
variable {P : Program} {w : World} {K : PySem.W.Frag} {mg : Str → Option Value} {base : Heap} {C PC : Addr}
theorem scPI : FnScope ["self", "works", "deeds", "deed"] ["self", "works", "deeds"] (defScope sPI) := ⟨rfl, rfl, rfl, by decide +kernel, rfl, by decide +kernel, by decide +kernel⟩
def teLot (K : PySem.W.Frag) : TE := tOp (rIxT K) (tVar 3) (tC (.int 1))
def ttRun (K : PySem.W.Frag) : TT := tTest (tOp rEq (tOp (rIxT K) (tVar 3) (tC (.int 0))) (tC (.str wRun)))
theorem ok_pi {f fW fD fL : Addr} {fd fdW fdD fdL : FuncData} (F : Fun K "__init__" "Plan.__init__" sPI f fd) (c : PCls K PC) (BT : mg "tuple" = none)
    (GW : FnOk P w K mg base CX0 1 fW fdW ["works"] (spCw C)) (mW : mg "check_works" = some (.ref fW)) (kW : PySem.W.keepIn K (.ref fW) = true) (bW : Binds K fdW ["works"] [])
    (GD : FnOk P w K mg base CX0 5 fD fdD ["works", "deeds"] (spCd C)) (mD : mg "_check_deeds" = some (.ref fD)) (kD : PySem.W.keepIn K (.ref fD) = true) (bD : Binds K fdD ["works", "deeds"] [])
    (GL : FnOk P w K mg base CX0 1 fL fdL ["deed"] spLn) (mL : mg "_line" = some (.ref fL)) (kL : PySem.W.keepIn K (.ref fL) = true) (bL : Binds K fdL ["deed"] []) :
    FnOk P w K mg base CX0 6 f fd ["self", "works", "deeds"] (spPI PC C) := by
  refine F.ok scPI (fun vs H Q E h => ?_) (fun cdv A outer s H vs Q E hr h => ?_)
  · obtain ⟨y, dy, x, td, W, rs, ds, rfl, _⟩ := h
    rfl
  · obtain ⟨y, dy, x, td, W, rs, ds, rfl, hy, wk, g, ht, pr, ok, q⟩ := h
    have hr1 : Room 1 _ := hr.mono (by decide)
    refine ⟨_, pss_cons (ps_expr (pe_call GW hr1 (by rfl) mW kW bW .nil pass0 (pa_cons (pv 1) pa_nil)))
      (pss_cons (ps_expr (pe_call GD hr (by rfl) mD kD bD .nil pass0 (pa_cons (pv 1) (pa_cons (pv 2) pa_nil))))
      (pss_cons (ps_fld (pv 0) (pv 1) rfl)
      (pss_cons (ps_fld (pv 0) (pv 2) rfl)
      (pss_cons (ps_fld (pv 0) (pe_tupleOf (by rfl) BT (pe_lc (own := [("deed", 3)]) (g := gName 3) (te := teLot K) (by rfl) scPI.nd (pi_tup (pv 2)) (blkOk_by (own := [("deed", 3)]) (N := ["self", "works", "deeds", "deed"]) (sc := defScope sPI) (by decide +kernel)) (fun _ _ _ _ _ => pg_name (i := 3) scPI.nd rfl (Or.inl rfl))
          (fun _ _ _ _ _ => pts_one (pt_cmpR op_eq (pe_ix (show IxR _ (rIxT K) from ix_tup) (pv 3) pe_int (fun _ _ => rfl)) pe_str (nomark _))) (fun _ _ _ _ _ => pe_ix ix_tup (pv 3) pe_int (fun _ _ => rfl)))) rfl)
      (pss_one (ps_fld (pv 0) (pe_join pe_str (pe_lc (own := [("deed", 3)]) (g := gName 3) (te := tCall spLn [] E0 (tCons (tVar 3) tNil)) (by rfl) scPI.nd (pi_tup (pv 2)) (blkOk_by (own := [("deed", 3)]) (N := ["self", "works", "deeds", "deed"]) (sc := defScope sPI) (by decide +kernel)) (fun _ _ _ _ _ => pg_name (i := 3) scPI.nd rfl (Or.inl rfl))
          (fun _ _ _ _ _ => pts_nil) (fun _ _ _ _ _ => pe_call GL hr1 (by rfl) mL kL bL .nil pass0 (pa_cons (pv 3) pa_nil)))) rfl)))))), ?_⟩
    have sz := sizeLine_eq
    have lr : rs.length = ds.length := Paired.size pr
    have l20 := ok.len
    have ne : ∃ dx f0 fs, H x = some (.ins C dx (f0 :: fs)) := by
      obtain ⟨am, ac, as, ap, ⟨dx, D1, D2, D3, D4, b1, b2, v4, hx, _⟩, _⟩ := wk
      exact ⟨dx, _, _, hx⟩
    obtain ⟨dx, f0, fs, hx⟩ := ne
    have nyx : y ≠ x := fun z => by
      rw [z, hx] at hy
      cases hy
    refine ⟨_, rfl, x, dx, _, rfl, hx, ?_⟩
    refine ⟨_, rfl, _, rfl, x, td, W, rs, ds, rfl, wk, g, ht, pr, ok, fun H1 x1 => ?_⟩
    have hy1 := x1 _ _ hy
    refine ⟨_, rfl, _, rfl, y, PC, dy, _, rfl, hy1, c.cl, c.n1, (by decide : (0 : Nat) < 1000), ?_⟩
    refine ⟨_, rfl, _, rfl, y, PC, dy, _, rfl, upd_same, c.cl, c.n2, (by decide : (1 : Nat) < 1000), ?_⟩
    rw [upd_upd]
    show tSeq _ _ _ _ (upd H1 y (.ins PC dy [("_works", .ref x), ("_deeds", .ref td)]))
    have B2 : But y H1 (upd H1 y (.ins PC dy [("_works", .ref x), ("_deeds", .ref td)])) := But.self
    have X2 : (upd H1 y (.ins PC dy [("_works", .ref x), ("_deeds", .ref td)])) y = some (.ins PC dy [("_works", .ref x), ("_deeds", .ref td)]) := upd_same
    generalize upd H1 y (.ins PC dy [("_works", .ref x), ("_deeds", .ref td)]) = H2 at B2 X2 ⊢
    have B02 : But y H H2 := (But.ex x1).trans B2
    have t2 := But.tup hy B02
    have pr2 := deeds_tup t2 pr
    have ht2 := t2 _ _ ht
    refine ⟨_, rfl, td, rfl, ⟨_, SqT.of ht2⟩, fun D hD => lc_tup (K := K) (a := td) (xs := rs) (fun i G => Ex H2 G ∧ G D = some (.lst ((lotsOf (ds.take i)).map V.str))) ⟨Ex.refl.new hD, upd_same⟩ (fun i G _ h => SqT.of (h.1 _ _ ht2)) ?_ ?_⟩
    · rintro i v G hv ⟨xG, eG⟩
      obtain ⟨d, hd, dd⟩ := Paired.spot pr2 hv
      have dG := dd.tup (Ex.tup xG)
      have e1 := lots_take hd
      have ll : (lotsOf (ds.take i)).length ≤ 8 := Nat.le_trans (lots_le ds i) ok.lots
      refine ⟨rfl, ?_⟩
      cases d with
      | run p ms =>
        obtain ⟨a, t, rfl, h1, h2⟩ := dG
        refine ⟨_, rfl, a, _, _, _, rfl, rfl, SqT.of h1, atI_nat (j := 0) rfl, rfl, _, rfl, ?_⟩
        refine ite2 (fun _ => ?_) (fun z => absurd (decide_eq_true rfl) z)
        refine ⟨_, rfl, a, _, _, _, rfl, rfl, SqT.of h1, atI_nat (j := 1) rfl, _, eG, by rw [List.length_map]; omega, xG.put hD, ?_⟩
        rw [upd_same, e1, List.map_append]
        rfl
      | clean m cl =>
        obtain ⟨a, rfl, h1⟩ := dG
        refine ⟨_, rfl, a, _, _, _, rfl, rfl, SqT.of h1, atI_nat (j := 0) rfl, rfl, _, rfl, ?_⟩
        refine ite2 (fun z => absurd z (by decide +kernel)) (fun _ => ?_)
        refine ⟨xG, ?_⟩
        rw [eG, e1]
        rw [show (Deed.clean m cl).lot.toList = [] from rfl, List.append_nil]
    · rintro G ⟨xG, eG⟩
      rw [lr, List.take_of_length_le (Nat.le_refl _)] at eG
      refine .inl ⟨D, _, rfl, SqL.of eG, fun tl ntl => ?_⟩
      have x3 : Ex H2 (upd G tl (.tup ((lotsOf ds).map V.str))) := xG.new ntl
      have e3 : (upd G tl (.tup ((lotsOf ds).map V.str))) tl = some (.tup ((lotsOf ds).map V.str)) := upd_same
      generalize upd G tl (.tup ((lotsOf ds).map V.str)) = H3 at x3 e3 ⊢
      refine ⟨_, rfl, y, PC, dy, _, rfl, x3 _ _ X2, c.cl, c.n3, (by decide : (2 : Nat) < 1000), ?_⟩
      have B4 : But y H3 (upd H3 y (.ins PC dy [("_works", .ref x), ("_deeds", .ref td), ("_lots", .ref tl)])) := But.self
      have X4 : (upd H3 y (.ins PC dy [("_works", .ref x), ("_deeds", .ref td), ("_lots", .ref tl)])) y = some (.ins PC dy [("_works", .ref x), ("_deeds", .ref td), ("_lots", .ref tl)]) := upd_same
      show tSeq _ _ _ _ (upd H3 y (.ins PC dy [("_works", .ref x), ("_deeds", .ref td), ("_lots", .ref tl)]))
      generalize upd H3 y (.ins PC dy [("_works", .ref x), ("_deeds", .ref td), ("_lots", .ref tl)]) = H4 at B4 X4 ⊢
      have hy3 := x3 _ _ X2
      have B04 : But y H H4 := (B02.trans (But.ex x3)).trans B4
      have t4 := But.tup hy B04
      have pr4 := deeds_tup t4 pr
      have ht4 := t4 _ _ ht
      have htl := (But.tup hy3 B4) _ _ e3
      refine ⟨⟨_, rfl⟩, _, rfl, td, rfl, ⟨_, SqT.of ht4⟩, fun D2 hD2 => lc_tup (K := K) (a := td) (xs := rs) (fun i G => Ex H4 G ∧ G D2 = some (.lst (((ds.take i).map dline).map V.str))) ⟨Ex.refl.new hD2, upd_same⟩ (fun i G _ h => SqT.of (h.1 _ _ ht4)) ?_ ?_⟩
      · rintro i v G hv ⟨xG, eG⟩
        obtain ⟨d, hd, dd⟩ := Paired.spot pr4 hv
        refine ⟨rfl, _, rfl, v, W, d, rfl, g, dd.tup (Ex.tup xG), ok.all d (List.mem_of_getElem? hd), fun G2 x2 => ⟨_, x2 _ _ eG, ?_, (xG.trans x2).put hD2, ?_⟩⟩
        · rw [List.length_map, List.length_map, List.length_take]
          omega
        · rw [upd_same, List.take_succ, hd, List.map_append, List.map_append]
          rfl
      · rintro G ⟨xG, eG⟩
        rw [lr, List.take_of_length_le (Nat.le_refl _)] at eG
        have pl := ptext_len g ok
        refine ⟨nl, D2, ds.map dline, rfl, rfl, .inl (SqL.of eG), by omega, ?_⟩
        refine ⟨_, rfl, y, PC, dy, _, rfl, xG _ _ X4, c.cl, c.n4, (by decide : (3 : Nat) < 1000), ?_⟩
        have B5 : But y G (upd G y (.ins PC dy [("_works", .ref x), ("_deeds", .ref td), ("_lots", .ref tl), ("_text", .str (ptext ds))])) := But.self
        have X5 : (upd G y (.ins PC dy [("_works", .ref x), ("_deeds", .ref td), ("_lots", .ref tl), ("_text", .str (ptext ds))])) y = some (.ins PC dy [("_works", .ref x), ("_deeds", .ref td), ("_lots", .ref tl), ("_text", .str (ptext ds))]) := upd_same
        have B06 : But y H _ := (B04.trans (But.ex xG)).trans B5
        have t6 := But.tup hy B06
        exact q _ B06 ⟨WkD.but hy nyx B06 wk, dy, tl, rs, X5, t6 _ _ ht, deeds_tup t6 pr, (But.tup (xG _ _ X4) B5) _ _ (xG _ _ htl)⟩
end
end LJ
set_option Elab.async false
set_option linter.all false
set_option maxRecDepth 100000
set_option maxHeartbeats 8000000
namespace LJ
open PySem PySem.Spec L2
open LamX (ExtN)
open NdefX (NTab TabsN)
abbrev sRD : Stmt := top 54
def spRD : Sp := fun vs H Q _ => ∃ (W : Wd) (d : Deed), vs = [.str (dline d)] ∧ GoodF W ∧ DOk W d ∧ ∀ v H1, Ex H H1 → DeedAt H1 v d → Q v H1
section
variable {P : Program} {w : World} {K : PySem.W.Frag} {mg : Str → Option Value} {base : Heap} {C PC : Addr}
theorem scRD : FnScope ["line", "words"] ["line"] (defScope sRD) := ⟨rfl, rfl, rfl, by decide +kernel, rfl, by decide +kernel, by decide +kernel⟩
theorem ok_rd {f : Addr} {fd : FuncData} (F : Fun K "_read_deed" "_read_deed" sRD f fd) (B : BltI mg) : FnOk P w K mg base CX0 1 f fd ["line"] spRD := by
  refine F.ok scRD (fun vs H Q E h => ?_) (fun cdv A outer s H vs Q E hr h => ?_)
  · obtain ⟨W, d, rfl, _⟩ := h
    rfl
  · obtain ⟨W, d, rfl, g, ok, q⟩ := h
    refine ⟨_, pss_cons (ps_set (i := 1) scRD.nd rfl (Or.inl rfl) (pe_split (pv 0) pe_str))
      (pss_cons (ps_if (PW.pt (pw_and (pt_cmpR op_eq (pe_ix ix_list (pv 1) pe_int (fun _ _ => rfl)) pe_str (nomark _)) (pw_and1 (pt_cmpR op_gt (pe_callB call_len_seq (by rfl) B.len (by decide +kernel) (pa_cons (pv 1) pa_nil)) pe_int (nomark _)))))
        (pss_one (ps_ret (pe_tup (pa_cons pe_str (pa_cons (pe_ix ix_list (pv 1) pe_int (fun _ _ => rfl)) (pa_cons (pe_tupleOf (by rfl) B.tuple (pe_slice sl_list (pv 1) (po_some pe_int) po_none)) pa_nil)))))) pss_nil)
      (pss_one (ps_ret (pe_tupleOf (by rfl) B.tuple (pv 1))))), ?_⟩
    have sz := sizeLine_eq
    have dl := dline_len g ok
    refine ⟨_, rfl, ⟨_, rfl⟩, dline d, sp1, rfl, rfl, by decide +kernel, by omega, fun lw nlw => ?_⟩
    rw [split_dline g ok]
    have x1 : Ex H (upd H lw (.lst (d.words.map V.str))) := Ex.refl.new nlw
    have e1 : (upd H lw (.lst (d.words.map V.str))) lw = some (.lst (d.words.map V.str)) := upd_same
    generalize upd H lw (.lst (d.words.map V.str)) = H1 at x1 e1 ⊢
    refine rd_nameU ?_
    try dsimp only
    refine rd_seqU (rd_ifU ?_)
    cases d with
    | run p ms =>
      have l4 := ok.2.2.1
      refine ⟨_, rfl, lw, _, _, _, rfl, rfl, SqL.of e1, atI_nat (j := 0) rfl, rfl, _, rfl, ?_⟩
      refine ite2 (fun _ => ?_) (fun z => absurd (decide_eq_true rfl) z)
      refine ⟨_, rfl, lw, _, rfl, .inl (SqL.of e1), _, _, rfl, rfl, _, rfl, ?_⟩
      refine ite2 (fun _ => ?_) (fun z => absurd (decide_eq_true ?_) z)
      · refine ⟨_, rfl, lw, _, _, _, rfl, rfl, SqL.of e1, atI_nat (j := 1) rfl, ?_⟩
        refine ⟨_, rfl, 2, rfl, lw, _, rfl, SqL.of e1, fun p2 n2 => ?_⟩
        rw [show (some 2 : Option Int) = some ((2 : Nat) : Int) from rfl, cut_dropN _ (by show 2 ≤ (V.str wRun :: V.str p :: ms.map V.str).length; simp)]
        show kTup _ _ (upd H1 p2 (.lst (ms.map V.str))) _
        have x2 : Ex H1 (upd H1 p2 (.lst (ms.map V.str))) := Ex.refl.new n2
        have e2 : (upd H1 p2 (.lst (ms.map V.str))) p2 = some (.lst (ms.map V.str)) := upd_same
        generalize upd H1 p2 (.lst (ms.map V.str)) = H2 at x2 e2 ⊢
        refine .inl ⟨p2, _, rfl, SqL.of e2, fun t nt => ?_⟩
        have x3 : Ex H2 (upd H2 t (.tup (ms.map V.str))) := Ex.refl.new nt
        have e3 : (upd H2 t (.tup (ms.map V.str))) t = some (.tup (ms.map V.str)) := upd_same
        generalize upd H2 t (.tup (ms.map V.str)) = H3 at x3 e3 ⊢
        refine ⟨by rw [sizeLine_eq]; show 3 ≤ 16777216; decide, fun a na => ?_⟩
        have x4 : Ex H3 (upd H3 a (.tup [.str wRun, .str p, .ref t])) := Ex.refl.new na
        exact q _ _ (((x1.trans x2).trans x3).trans x4) ⟨a, t, rfl, upd_same, x4 _ _ e3⟩
      · show (1 : Int) < ((V.str wRun :: V.str p :: ms.map V.str).length : Int)
        simp only [List.length_cons]
        omega
    | clean m c =>
      refine ⟨_, rfl, lw, _, _, _, rfl, rfl, SqL.of e1, atI_nat (j := 0) rfl, rfl, _, rfl, ?_⟩
      refine ite2 (fun z => absurd z (by decide +kernel)) (fun _ => ?_)
      refine ite2 (fun z => by cases z) (fun _ => ?_)
      refine rd_nextU ?_
      try dsimp only
      refine ⟨_, rfl, .inl ⟨lw, _, rfl, SqL.of e1, fun t nt => ?_⟩⟩
      exact q _ _ (x1.new nt) ⟨t, rfl, upd_same⟩
end
end LJ
set_option Elab.async false
set_option linter.all false
set_option maxRecDepth 100000
set_option maxHeartbeats 8000000
namespace LJ
open PySem PySem.Spec L2
open LamX (ExtN)
open NdefX (NTab TabsN)
/-! Any text in lines, any line in words; _read_deed of any line. -/
theorem spl_ne (S : List Nat) : ∀ (L : List Nat) (k : Nat) (acc : List Nat), TL.spl S k acc L ≠ []
  | [], k, acc => by
    rw [TL.spl.eq_1]
    exact List.cons_ne_nil _ _
  | c :: r, 0, acc => by
    rw [TL.spl.eq_2]
    split
    · exact List.cons_ne_nil _ _
    · exact spl_ne S r 0 _
  | c :: r, k + 1, acc => by
    rw [show k + 1 = k.succ from rfl, TL.spl.eq_3]
    exact spl_ne S r k acc
theorem spl_sum (S : List Nat) : ∀ (L : List Nat) (k : Nat) (acc : List Nat), ((TL.spl S k acc L).map List.length).sum ≤ acc.length + L.length ∧ (TL.spl S k acc L).length ≤ L.length + 1
  | [], k, acc => by
    rw [TL.spl.eq_1]
    simp
  | c :: r, 0, acc => by
    rw [TL.spl.eq_2]
    split
    · have h := spl_sum S r (S.length - 1) []
      simp only [List.map_cons, List.sum_cons, List.length_cons, List.length_nil] at h ⊢
      omega
    · have h := spl_sum S r 0 (acc ++ [c])
      simp only [List.length_append, List.length_cons, List.length_nil] at h ⊢
      omega
  | c :: r, k + 1, acc => by
    rw [show k + 1 = k.succ from rfl, TL.spl.eq_3]
    have h := spl_sum S r k acc
    simp only [List.length_cons]
    omega
theorem mem_sum {xs : List Nat} {n : Nat} (h : n ∈ xs) : n ≤ xs.sum := by
  induction xs with
  | nil => cases h
  | cons m r ih =>
    rw [List.sum_cons]
    rcases List.mem_cons.mp h with rfl | h
    · omega
    · have := ih h
      omega
theorem kind_1 {y : Str} {c : Nat} (hy : TL.tl y = [c]) (h : c < 256) (x : Str) : ¬ Builtin.Str.strKind x < Builtin.Str.strKind y := by
  have e : y = ⟨#[c]⟩ := TL.ext_tl hy
  have k1 : Builtin.Str.strKind y = 1 := by
    rw [e]
    unfold Builtin.Str.strKind
    rw [if_pos (by simpa using h)]
  rw [k1]
  unfold Builtin.Str.strKind
  split
  · decide
  · split <;> decide
section
variable {x y : Str} {c : Nat} (hy : TL.tl y = [c]) (h : c < 256)
include hy h
theorem split_spl1 : (Txt.split x y).map TL.tl = TL.spl [c] 0 [] (TL.tl x) := by
  rw [← hy]
  exact TL.split_spl x y (by rw [hy]; exact List.cons_ne_nil _ _) (kind_1 hy h x)
theorem split_ne : Txt.split x y ≠ [] := fun z => by
  have e := split_spl1 (x := x) hy h
  rw [z] at e
  exact spl_ne _ _ _ _ e.symm
theorem split_sum : ((Txt.split x y).map Str.length).sum ≤ x.length ∧ (Txt.split x y).length ≤ x.length + 1 := by
  have e := split_spl1 (x := x) hy h
  have s := spl_sum [c] (TL.tl x) 0 []
  rw [← e, List.map_map, List.length_map] at s
  have e2 : (List.length ∘ TL.tl : Str → Nat) = Str.length := by
    funext z
    show z.cps.toList.length = z.length
    rw [Array.length_toList]
    rfl
  rw [e2] at s
  have e3 : (TL.tl x).length = x.length := congrFun e2 x
  rw [e3] at s
  simpa using s
theorem split_le {p : Str} (hp : p ∈ Txt.split x y) : p.length ≤ x.length := by
  have s := (split_sum (x := x) hy h).1
  have := mem_sum (List.mem_map_of_mem (f := Str.length) hp)
  omega
end
/-- the words of a line -/
def wordsOf (line : Str) : List Str := Txt.split line sp1
/-- does this read as a run -/
def runW (ws : List Str) : Bool := decide (ws.head? = some wRun) && decide (1 < ws.length)
/-- what is told by words, as it stands -/
def RawAt (H : Hp) (v : V) (ws : List Str) : Prop := if runW ws = true then ∃ a t p ms, ws = wRun :: p :: ms ∧ v = .ref a ∧ H a = some (.tup [.str wRun, .str p, .ref t]) ∧ H t = some (.tup (ms.map V.str)) else ∃ a, v = .ref a ∧ H a = some (.tup (ws.map V.str))
theorem RawAt.tup {H H1 : Hp} {v : V} {ws : List Str} (t : Tup H H1) (h : RawAt H v ws) : RawAt H1 v ws := by
  unfold RawAt at h ⊢
  split at h
  · rename_i z
    rw [if_pos z]
    obtain ⟨a, b, p, ms, e, rfl, h1, h2⟩ := h
    exact ⟨a, b, p, ms, e, rfl, t _ _ h1, t _ _ h2⟩
  · rename_i z
    rw [if_neg z]
    obtain ⟨a, rfl, h1⟩ := h
    exact ⟨a, rfl, t _ _ h1⟩
def spRDV : Sp := fun vs H Q _ => ∃ line : Str, vs = [.str line] ∧ line.length ≤ 1000000 ∧ ∀ v H1, Ex H H1 → RawAt H1 v (wordsOf line) → Q v H1
section
variable {P : Program} {w : World} {K : PySem.W.Frag} {mg : Str → Option Value} {base : Heap} {C PC : Addr}
theorem ok_rdV {f : Addr} {fd : FuncData} (F : Fun K "_read_deed" "_read_deed" sRD f fd) (B : BltI mg) : FnOk P w K mg base CX0 1 f fd ["line"] spRDV := by
  refine F.ok scRD (fun vs H Q E h => ?_) (fun cdv A outer s H vs Q E hr h => ?_)
  · obtain ⟨line, rfl, _⟩ := h
    rfl
  · obtain ⟨line, rfl, ll, q⟩ := h
    refine ⟨_, pss_cons (ps_set (i := 1) scRD.nd rfl (Or.inl rfl) (pe_split (pv 0) pe_str))
      (pss_cons (ps_if (PW.pt (pw_and (pt_cmpR op_eq (pe_ix ix_list (pv 1) pe_int (fun _ _ => rfl)) pe_str (nomark _)) (pw_and1 (pt_cmpR op_gt (pe_callB call_len_seq (by rfl) B.len (by decide +kernel) (pa_cons (pv 1) pa_nil)) pe_int (nomark _)))))
        (pss_one (ps_ret (pe_tup (pa_cons pe_str (pa_cons (pe_ix ix_list (pv 1) pe_int (fun _ _ => rfl)) (pa_cons (pe_tupleOf (by rfl) B.tuple (pe_slice sl_list (pv 1) (po_some pe_int) po_none)) pa_nil)))))) pss_nil)
      (pss_one (ps_ret (pe_tupleOf (by rfl) B.tuple (pv 1))))), ?_⟩
    have sz := sizeLine_eq
    have ne := split_ne (x := line) tl_sp1 (by decide)
    have sl := (split_sum (x := line) tl_sp1 (by decide)).2
    refine ⟨_, rfl, ⟨_, rfl⟩, line, sp1, rfl, rfl, by decide +kernel, by omega, fun lw nlw => ?_⟩
    have x1 : Ex H (upd H lw (.lst ((Txt.split line sp1).map V.str))) := Ex.refl.new nlw
    have e1 : (upd H lw (.lst ((Txt.split line sp1).map V.str))) lw = some (.lst ((Txt.split line sp1).map V.str)) := upd_same
    generalize upd H lw (.lst ((Txt.split line sp1).map V.str)) = H1 at x1 e1 ⊢
    have q : ∀ v H1, Ex H H1 → RawAt H1 v (Txt.split line sp1) → Q v H1 := q
    generalize Txt.split line sp1 = ws at ne sl e1 q
    obtain ⟨w0, wr, rfl⟩ := List.exists_cons_of_ne_nil ne
    refine rd_nameU ?_
    try dsimp only
    refine rd_seqU (rd_ifU ?_)
    refine ⟨_, rfl, lw, _, _, _, rfl, rfl, SqL.of e1, atI_nat (j := 0) rfl, ?_⟩
    refine ⟨rfl, _, rfl, ?_⟩
    have fin : runW (w0 :: wr) = false → kTup K (.ref lw) H1 Q := fun hr => by
      refine .inl ⟨lw, _, rfl, SqL.of e1, fun t nt => ?_⟩
      refine q _ _ (x1.new nt) ?_
      unfold RawAt
      rw [if_neg (by rw [hr]; exact Bool.false_ne_true)]
      exact ⟨t, rfl, upd_same⟩
    by_cases hw : w0 = wRun
    · subst hw
      refine ite2 (fun _ => ?_) (fun z => absurd (decide_eq_true rfl) z)
      refine ⟨_, rfl, lw, _, rfl, .inl (SqL.of e1), _, _, rfl, rfl, _, rfl, ?_⟩
      cases wr with
      | nil =>
        refine ite2 (fun z => absurd z (by simp)) (fun _ => ?_)
        refine rd_nextU ?_
        try dsimp only
        exact ⟨_, rfl, fin (by unfold runW; simp)⟩
      | cons p ms =>
        refine ite2 (fun _ => ?_) (fun z => absurd (decide_eq_true ?_) z)
        · refine ⟨_, rfl, lw, _, _, _, rfl, rfl, SqL.of e1, atI_nat (j := 1) rfl, ?_⟩
          refine ⟨_, rfl, 2, rfl, lw, _, rfl, SqL.of e1, fun p2 n2 => ?_⟩
          rw [show (some 2 : Option Int) = some ((2 : Nat) : Int) from rfl, cut_dropN _ (by show 2 ≤ (V.str wRun :: V.str p :: ms.map V.str).length; simp)]
          show kTup _ _ (upd H1 p2 (.lst (ms.map V.str))) _
          have x2 : Ex H1 (upd H1 p2 (.lst (ms.map V.str))) := Ex.refl.new n2
          have e2 : (upd H1 p2 (.lst (ms.map V.str))) p2 = some (.lst (ms.map V.str)) := upd_same
          generalize upd H1 p2 (.lst (ms.map V.str)) = H2 at x2 e2 ⊢
          refine .inl ⟨p2, _, rfl, SqL.of e2, fun t nt => ?_⟩
          have x3 : Ex H2 (upd H2 t (.tup (ms.map V.str))) := Ex.refl.new nt
          have e3 : (upd H2 t (.tup (ms.map V.str))) t = some (.tup (ms.map V.str)) := upd_same
          generalize upd H2 t (.tup (ms.map V.str)) = H3 at x3 e3 ⊢
          refine ⟨by rw [sizeLine_eq]; show 3 ≤ 16777216; decide, fun a na => ?_⟩
          have x4 : Ex H3 (upd H3 a (.tup [.str wRun, .str p, .ref t])) := Ex.refl.new na
          refine q _ _ (((x1.trans x2).trans x3).trans x4) ?_
          unfold RawAt
          rw [if_pos (by unfold runW; simp)]
          exact ⟨a, t, p, ms, rfl, rfl, upd_same, x4 _ _ e3⟩
        · show (1 : Int) < ((V.str wRun :: V.str p :: ms.map V.str).length : Int)
          simp only [List.length_cons]
          omega
    · refine ite2 (fun z => absurd (by simpa using z) hw) (fun _ => ?_)
      refine ite2 (fun z => by cases z) (fun _ => ?_)
      refine rd_nextU ?_
      try dsimp only
      exact ⟨_, rfl, fin (by unfold runW; simp [hw])⟩
end
end LJ
set_option Elab.async false
set_option linter.all false
set_option maxRecDepth 100000
set_option maxHeartbeats 4000000
/-! Values of a bounded size and depth; what stands beside the jar; a tuple beside the empty one. -/
namespace LJ
open PySem PySem.Spec L2
open LamX (ExtN TabB)
open NdefX (NTab TabsN)
/-- known, to this depth, and no tuple longer than B -/
def Bd (K : PySem.W.Frag) (H : Hp) (B : Nat) : Nat → V → Prop
  | 0, x => Kn K H x ∧ ∀ xs, tupOf H x = some xs → xs.length ≤ B
  | n + 1, x => Kn K H x ∧ ∀ xs, tupOf H x = some xs → xs.length ≤ B ∧ ∀ y ∈ xs, Bd K H B n y
section
variable {K : PySem.W.Frag} {H H1 : Hp} {B B1 : Nat}
theorem Bd.kn : ∀ {n : Nat} {x : V}, Bd K H B n x → Kn K H x
  | 0, _, d => d.1
  | _ + 1, _, d => d.1
theorem Bd.len : ∀ {n : Nat} {x : V} {xs : List V}, Bd K H B n x → tupOf H x = some xs → xs.length ≤ B
  | 0, _, _, d, e => d.2 _ e
  | _ + 1, _, _, d, e => (d.2 _ e).1
theorem Bd.deep : ∀ {n : Nat} {x : V}, Bd K H B n x → Deep K H n x
  | 0, _, d => d.1
  | _ + 1, _, d => ⟨d.1, fun xs e y hy => Bd.deep ((d.2 xs e).2 y hy)⟩
theorem Bd.exN (e : ExtN H H1) : ∀ {n : Nat} {x : V}, Bd K H B n x → Bd K H1 B n x
  | 0, x, d => ⟨d.1.exN e, fun xs h => d.2 xs (by rw [← d.1.tupsN e]; exact h)⟩
  | n + 1, x, d => ⟨d.1.exN e, fun xs h => ⟨(d.2 xs (by rw [← d.1.tupsN e]; exact h)).1, fun y hy => Bd.exN e ((d.2 xs (by rw [← d.1.tupsN e]; exact h)).2 y hy)⟩⟩
theorem Bd.more (l : B ≤ B1) : ∀ {n : Nat} {x : V}, Bd K H B n x → Bd K H B1 n x
  | 0, x, d => ⟨d.1, fun xs h => Nat.le_trans (d.2 xs h) l⟩
  | n + 1, x, d => ⟨d.1, fun xs h => ⟨Nat.le_trans (d.2 xs h).1 l, fun y hy => Bd.more l ((d.2 xs h).2 y hy)⟩⟩
theorem Bd.down : ∀ {n : Nat} {x : V}, Bd K H B (n + 1) x → Bd K H B n x
  | 0, _, d => ⟨d.1, fun xs h => (d.2 xs h).1⟩
  | n + 1, _, d => ⟨d.1, fun xs h => ⟨(d.2 xs h).1, fun y hy => Bd.down ((d.2 xs h).2 y hy)⟩⟩
theorem Bd.flat {x : V} (k : Kn K H x) (n : tupOf H x = none) : ∀ {m : Nat}, Bd K H B m x
  | 0 => ⟨k, fun xs e => by rw [n] at e; cases e⟩
  | _ + 1 => ⟨k, fun xs e => by rw [n] at e; cases e⟩
theorem Bd.int {i : Int} {m : Nat} : Bd K H B m (.int i) := .flat (.int i) rfl
theorem Bd.str {s : Str} {m : Nat} (l : s.length ≤ 1000) : Bd K H B m (.str s) := .flat (.str s (by rw [sizeLine_eq]; omega)) rfl
theorem Bd.non {m : Nat} : Bd K H B m .non := .flat (.oth (t := .type "NoneType") (b := false) (fun _ _ => .base .non) (kit_ty (by decide +kernel)) (kit_ty (by decide +kernel)) (kit_ty (by decide +kernel)) (kit_ty (by decide +kernel)) rfl rfl fun _ _ => rfl) rfl
theorem Bd.bl {b : Bool} {m : Nat} : Bd K H B m (.bl b) := .flat (.oth (t := .type "bool") (b := true) (fun _ _ => .base (.bl b)) (kit_ty (by decide +kernel)) (kit_ty (by decide +kernel)) (kit_ty (by decide +kernel)) (kit_ty (by decide +kernel)) rfl rfl fun _ _ => rfl) rfl
theorem no_tup {a : Addr} {o : HO} (h : H a = some o) (n : ∀ xs, o ≠ .tup xs) : tupOf H (.ref a) = none := by
  show (match H a with
    | some (.tup ys) => some ys
    | _ => none) = none
  rw [h]
  cases o <;> first | rfl | exact absurd rfl (n _)
theorem Bd.lst {a : Addr} {xs : List V} {m : Nat} (h : H a = some (.lst xs)) : Bd K H B m (.ref a) :=
  .flat (.oth (t := .type "list") (b := false) (fun H1 e => .base (.lst (e _ _ h fun _ z => nomatch z))) (kit_ty (by decide +kernel)) (kit_ty (by decide +kernel)) (kit_ty (by decide +kernel)) (kit_ty (by decide +kernel)) rfl rfl
    fun H1 e => no_tup (e _ _ h fun _ z => nomatch z) fun _ z => nomatch z) (no_tup h fun _ z => nomatch z)
theorem Bd.dct {a : Addr} {kvs : List (Key × V)} {m : Nat} (h : H a = some (.dK kvs)) : Bd K H B m (.ref a) :=
  .flat (.oth (t := .type "dict") (b := false) (fun H1 e => .base (.dK (e _ _ h fun _ z => nomatch z))) (kit_ty (by decide +kernel)) (kit_ty (by decide +kernel)) (kit_ty (by decide +kernel)) (kit_ty (by decide +kernel)) rfl rfl
    fun H1 e => no_tup (e _ _ h fun _ z => nomatch z) fun _ z => nomatch z) (no_tup h fun _ z => nomatch z)
theorem Bd.tup {a : Addr} {xs : List V} {n : Nat} (h : H a = some (.tup xs)) (l : xs.length ≤ B) (b : B ≤ 100000) (d : ∀ y ∈ xs, Bd K H B n y) : Bd K H B (n + 1) (.ref a) :=
  ⟨.tup h (by rw [sizeLine_eq]; omega), fun ys e => by
    rw [tup_at h] at e
    cases e
    exact ⟨l, d⟩⟩
theorem Bd.at {a : Addr} {xs : List V} {n : Nat} (d : Bd K H B (n + 1) (.ref a)) (h : H a = some (.tup xs)) : xs.length ≤ B ∧ ∀ y ∈ xs, Bd K H B n y := d.2 xs (tup_at h)
theorem Bd.tup0 {a : Addr} {n : Nat} (h : H a = some (.tup [])) : Bd K H B n (.ref a) := by
  cases n with
  | zero => exact ⟨.tup h (Nat.zero_le _), fun ys e => by
      rw [tup_at h] at e
      cases e
      exact Nat.zero_le _⟩
  | succ n => exact ⟨.tup h (Nat.zero_le _), fun ys e => by
      rw [tup_at h] at e
      cases e
      exact ⟨Nat.zero_le _, fun _ z => nomatch z⟩⟩
end
/-! beside the jar, and what else is still changed -/
def cut (js : List Addr) (H : Hp) : Hp := fun b => if b ∈ js then none else H b
theorem cut_ne {js : List Addr} {b : Addr} {H : Hp} (h : b ∉ js) : cut js H b = H b := if_neg h
theorem cut_same {js : List Addr} {b : Addr} {H : Hp} (h : b ∈ js) : cut js H b = none := if_pos h
/-- all these stand -/
def Held (js : List Addr) (H : Hp) : Prop := ∀ a ∈ js, H a ≠ none
theorem Held.ne {js : List Addr} {H : Hp} {p : Addr} (h : Held js H) (n : H p = none) : p ∉ js := fun m => h p m n
/-- all but j and the tables stays -/
def Kp (j : Addr) (H H1 : Hp) : Prop := ∀ b o, b ≠ j → H b = some o → (∀ ps, o ≠ .tbl ps) → H1 b = some o
theorem Kp.of_but {j : Addr} {H H1 : Hp} (b : But j H H1) : Kp j H H1 := fun a o n e _ => b a o n e
theorem Kp.of_ext {j : Addr} {H H1 : Hp} (e : ExtN H H1) : Kp j H H1 := fun a o _ h n => e a o h n
theorem Kp.of_ex {j : Addr} {H H1 : Hp} (e : Ex H H1) : Kp j H H1 := fun a o _ h _ => e a o h
theorem Kp.trans {j : Addr} {H H1 H2 : Hp} (a : Kp j H H1) (b : Kp j H1 H2) : Kp j H H2 := fun c o n e t => b c o n (a c o n e t) t
theorem Kp.refl {j : Addr} {H : Hp} : Kp j H H := fun _ _ _ e _ => e
theorem tabs_but {j : Addr} {T : List NTab} {H H1 : Hp} (J : JarAt H j) (b : But j H H1) (t : TabsN T H) : TabsN T H1 := fun r hr => by
  obtain ⟨d, m, c, e, _⟩ := J
  obtain ⟨ps, h1, h2, h3⟩ := t r hr
  refine ⟨ps, b _ _ (ne_of h1 e fun z => nomatch z) h1, h2, fun pos v hv => ?_⟩
  obtain ⟨c, e1, e2⟩ := h3 pos v hv
  exact ⟨c, e1, b _ _ (ne_of e2 e fun z => nomatch (show HO.ext _ = HO.lst _ from z)) e2⟩
theorem Ex.jar {j : Addr} {H H1 : Hp} (e : Ex H H1) (h : JarAt H j) : JarAt H1 j := by
  obtain ⟨d, m, c, z, r⟩ := h
  exact ⟨d, m, c, e _ _ z, r⟩
theorem ExtN.jar {j : Addr} {H H1 : Hp} (e : ExtN H H1) (h : JarAt H j) : JarAt H1 j := by
  obtain ⟨d, m, c, z, r⟩ := h
  exact ⟨d, m, c, e _ _ z (fun _ q => nomatch q), r⟩
theorem But.cut {j : Addr} {js : List Addr} {H H1 : Hp} (b : But j H H1) (m : j ∈ js) : ExtN (cut js H) (cut js H1) := fun a o e _ => by
  by_cases z : a ∈ js
  · rw [cut_same z] at e
    cases e
  · rw [cut_ne z] at e ⊢
    exact b a o (fun y => z (y ▸ m)) e
theorem Ex.cut {js : List Addr} {H H1 : Hp} (b : Ex H H1) : ExtN (cut js H) (cut js H1) := fun a o e _ => by
  by_cases z : a ∈ js
  · rw [cut_same z] at e
    cases e
  · rw [cut_ne z] at e ⊢
    exact b a o e
theorem cut_up {js : List Addr} {H : Hp} : ExtN (cut js H) H := fun a o e _ => by
  by_cases z : a ∈ js
  · rw [cut_same z] at e
    cases e
  · rw [cut_ne z] at e
    exact e
theorem cut_at {js : List Addr} {a : Addr} {H : Hp} {o : HO} (e : cut js H a = some o) : H a = some o ∧ a ∉ js := by
  by_cases z : a ∈ js
  · rw [cut_same z] at e
    cases e
  · exact ⟨by rw [cut_ne z] at e; exact e, z⟩
theorem cut_of {js : List Addr} {a : Addr} {H : Hp} {o : HO} (e : H a = some o) (n : a ∉ js) : cut js H a = some o := by
  rw [cut_ne n]
  exact e
theorem Held.ex {js : List Addr} {H H1 : Hp} (e : Ex H H1) (h : Held js H) : Held js H1 := fun a m z => by
  cases q : H a with
  | none => exact h a m q
  | some o =>
    rw [e a o q] at z
    cases z
theorem Held.but {j : Addr} {js : List Addr} {H H1 : Hp} (b : But j H H1) (J : JarAt H1 j) (h : Held js H) : Held js H1 := fun a m z => by
  by_cases y : a = j
  · obtain ⟨d, m, c, e, _⟩ := J
    rw [y, e] at z
    cases z
  · cases q : H a with
    | none => exact h a m q
    | some o =>
      rw [b a o y q] at z
      cases z
end LJ
set_option Elab.async false
set_option linter.all false
set_option maxRecDepth 100000
set_option maxHeartbeats 8000000
namespace LJ
open PySem PySem.Spec L2
open LamX (ExtN)
open NdefX (NTab TabsN)
/-! _are_passed over any known value. -/
theorem Kn.st {K : PySem.W.Frag} {H : Hp} {x : V} (k : Kn K H x) : St K H x := by
  cases k with
  | int i => exact .oth (t := .type "int") (fun _ _ => .base (.int i)) (kit_ty (by decide +kernel)) fun z e => nomatch e
  | str s le => exact .str s le
  | @tup a xs e le => exact .oth (t := .type "tuple") (fun H1 e1 => .base (.tup (tup_n e1 e))) (kit_ty (by decide +kernel)) fun z e => nomatch e
  | @oth _ t b ty i l s u ni nn nt =>
    refine .oth ty s fun z e => ?_
    subst e
    have h := ty H (ExtN.refl _)
    cases h with
    | base h =>
      cases h with
      | str _ =>
        have : PySem.W.kitOne K (.type "str") (.type "str") = some true := kit_ty (by decide +kernel)
        rw [this] at s
        cases s
theorem isOf_noN {names : List Str} {v : V} (nw : ∀ n ∈ names, isW n = true) (h : isN v = false) : isOf names v = false := by
  cases v with
  | str z =>
    refine Bool.eq_false_iff.mpr fun c => ?_
    have := nw z (List.mem_of_elem_eq_true c)
    rw [show isN (.str z) = isW z from rfl, this] at h
    cases h
  | _ => rfl
theorem isOf_at {names : List Str} {v : V} (h : isOf names v = true) : ∃ z, v = .str z ∧ z ∈ names := by
  cases v with
  | str z => exact ⟨z, rfl, List.mem_of_elem_eq_true h⟩
  | _ => cases h
theorem isOf_mem {names : List Str} {z : Str} (h : z ∈ names) : isOf names (.str z) = true := List.elem_eq_true_of_mem h
theorem both {a b : Bool} (h : (a && b) = true) : a = true ∧ b = true := by
  rw [Bool.and_eq_true] at h
  exact h
def strOf : V → Str
  | .str z => z
  | _ => Str.ofString ""
/-- machines that a lot can pass -/
def passF (names : List Str) (vs : List V) : Bool := decide (1 ≤ vs.length) && (decide (vs.length ≤ 4) && (vs.all (isOf names) && decide ((vs.map strOf).Nodup)))
section
variable {names : List Str} {vs : List V}
theorem pass_len (h : ¬ (1 ≤ vs.length ∧ vs.length ≤ 4)) : passF names vs = false := by
  unfold passF
  by_cases h1 : 1 ≤ vs.length
  · rw [decide_eq_false (p := vs.length ≤ 4) fun h2 => h ⟨h1, h2⟩, Bool.false_and, Bool.and_false]
  · rw [decide_eq_false h1, Bool.false_and]
theorem pass_no {y : V} (h : y ∈ vs) (n : isOf names y = false) : passF names vs = false := by
  unfold passF
  have : vs.all (isOf names) = false := Bool.eq_false_iff.mpr fun c => by
    have := List.all_eq_true.mp c y h
    rw [n] at this
    cases this
  rw [this, Bool.false_and, Bool.and_false, Bool.and_false]
theorem pass_dup {i : Nat} {m : Str} (h : vs[i]? = some (.str m)) (d : m ∈ (vs.take i).map strOf) : passF names vs = false := by
  unfold passF
  have : decide ((vs.map strOf).Nodup) = false := decide_eq_false fun nd => by
    have e : (vs.map strOf)[i]? = some m := by
      rw [List.getElem?_map, h]
      rfl
    refine not_mem_take nd e ?_
    rw [← List.map_take]
    exact d
  rw [this, Bool.and_false, Bool.and_false, Bool.and_false]
theorem pass_yes (l1 : 1 ≤ vs.length) (l4 : vs.length ≤ 4) (a : ∀ y ∈ vs, isOf names y = true) (nd : (vs.map strOf).Nodup) : passF names vs = true := by
  unfold passF
  rw [decide_eq_true l1, decide_eq_true l4, decide_eq_true nd, List.all_eq_true.mpr a]
  rfl
theorem pass_of (h : passF names vs = true) : 1 ≤ vs.length ∧ vs.length ≤ 4 ∧ (∀ y ∈ vs, isOf names y = true) ∧ (vs.map strOf).Nodup := by
  unfold passF at h
  obtain ⟨h1, h⟩ := both h
  obtain ⟨h2, h⟩ := both h
  obtain ⟨h3, h4⟩ := both h
  exact ⟨of_decide_eq_true h1, of_decide_eq_true h2, List.all_eq_true.mp h3, of_decide_eq_true h4⟩
/-- all strings: the values are what is told of them -/
theorem strs_of : ∀ {vs : List V}, (∀ y ∈ vs, isOf names y = true) → vs = (vs.map strOf).map V.str
  | [], _ => rfl
  | y :: ys, h => by
    obtain ⟨z, rfl, _⟩ := isOf_at (h y (List.mem_cons_self ..))
    show V.str z :: ys = V.str z :: (ys.map strOf).map V.str
    rw [← strs_of fun u hu => h u (List.mem_cons_of_mem _ hu)]
end
def spPaV (K : PySem.W.Frag) (C : Addr) : Sp := fun vs H Q _ => ∃ (x : Addr) (v : V) (W : Wd), vs = [.ref x, v] ∧ WkD C H x W ∧ GoodF W ∧ Deep K H 1 v ∧ ∀ H1, Ex H H1 → Q (.bl (onTup (passF (W.ms.map (·.1))) H v)) H1
section
variable {P : Program} {w : World} {K : PySem.W.Frag} {mg : Str → Option Value} {base : Heap} {C : Addr}
theorem on_none {f : List V → Bool} {H : Hp} {v : V} (h : tupOf H v = none) : onTup f H v = false := by
  unfold onTup
  rw [h]
theorem on_some {f : List V → Bool} {H : Hp} {v : V} {xs : List V} (h : tupOf H v = some xs) : onTup f H v = f xs := by
  unfold onTup
  rw [h]
theorem ok_paV {f fN : Addr} {fd fdN : FuncData} {uL : Value} (F : Fun K "_are_passed" "_are_passed" sPa f fd) (B : BltI mg) (c : WCls K C) (mL : mg "MOST_PASSED" = some uL) (rL : RelV (.int 4) uL)
    (PM : PrW P w K mg base C "machines" "_machines") (GN : FnOk P w K mg base CX0 1 fN fdN ["rows", "value"] (spNo K)) (mN : mg "is_name_of" = some (.ref fN)) (kN : PySem.W.keepIn K (.ref fN) = true) (bN : Binds K fdN ["rows", "value"] []) :
    FnOk P w K mg base CX0 3 f fd ["works", "machines"] (spPaV K C) := by
  refine F.ok scPa (fun vs H Q E h => ?_) (fun cdv A outer s H vs Q E hr h => ?_)
  · obtain ⟨x, v, W, rfl, _⟩ := h
    rfl
  · obtain ⟨x, v, W, rfl, wk, g, dv, q⟩ := h
    obtain ⟨p1, g1, fd1, P1, G1, b1⟩ := PM
    have hr1 : Room 1 _ := hr.mono (by decide)
    refine ⟨_, pss_cons (ps_if (PW.pt (pw_or (pt_not (pt_truth (pe_callB call_isi (by rfl) B.isinstance (by decide +kernel) (pa_cons (pv 1) (pa_cons (pe_bltn (by rfl) B.tuple (by decide +kernel) (v := .ty "tuple") rfl) pa_nil))) (fun _ => rfl)))
        (pw_or1 (pt_not (pt_chain op_le op_le pe_int (pe_callB call_len_seq (by rfl) B.len (by decide +kernel) (pa_cons (pv 1) pa_nil)) (pe_glob (by rfl) mL rL)))))) (pss_one (ps_ret pe_bl)) pss_nil)
      (pss_cons (ps_for PassesOwn.never rfl (EnT.pi_enT (by rfl) B.enumerate (pa_cons (pv 1) pa_nil)) (pg_tup (by rfl) (pgs_cons (pg_name (i := 2) scPa.nd rfl (Or.inl rfl)) (pgs_cons (pg_name (i := 3) scPa.nd rfl (Or.inl rfl)) pgs_nil)))
        (pss_one (ps_if (PW.pt (pw_or (pt_not (pt_val (pe_call GN hr1 (by rfl) mN kN bN .nil pass0 (pa_cons (pe_prop (pv 0) c.cl P1 G1 hr b1 .nil pass0 (by rfl)) (pa_cons (pv 3) pa_nil)))))
          (pw_or1 (pt_cmpR op_in_seq (pv 3) (pe_slice sl_tup (pv 1) po_none (po_some (pv 2))) (by with_unfolding_all rfl))))) (pss_one (ps_ret pe_bl)) pss_nil)))
      (pss_one (ps_ret pe_bl))), ?_⟩
    have sz := sizeLine_eq
    obtain ⟨t1, b, ty, e, hb⟩ := dv.1.atTup
    refine ⟨_, rfl, _, _, t1, _, b, rfl, .ty "tuple", ty, e, b, rfl, ?_⟩
    rcases hb with ⟨rfl, t, xs, rfl, ht, tx⟩ | ⟨rfl, tx⟩
    case inr =>
      refine ite2 (fun _ => ?_) (fun z => absurd rfl z)
      have := q H Ex.refl
      rw [on_none tx] at this
      exact this
    rw [on_some tx] at q
    refine ite2 (fun z => by cases z) (fun _ => ?_)
    refine ⟨_, rfl, t, _, rfl, .inr (SqT.of ht), 1, _, rfl, rfl, _, rfl, ?_⟩
    refine ite2 (fun c1 => ?_) (fun c1 => ?_)
    rotate_left
    · refine ⟨_, rfl, ?_⟩
      refine ite2 (fun _ => ?_) (fun z => absurd rfl z)
      have := q H Ex.refl
      rw [pass_len fun z => c1 (decide_eq_true (by have := z.1; omega))] at this
      exact this
    have l1 : 1 ≤ xs.length := by
      have := of_decide_eq_true c1
      omega
    refine ⟨_, _, rfl, rfl, _, rfl, ?_⟩
    by_cases l4 : xs.length ≤ 4
    case neg =>
      rw [decide_eq_false (show ¬ (xs.length : Int) ≤ 4 by omega)]
      refine ite2 (fun _ => ?_) (fun z => absurd rfl z)
      have := q H Ex.refl
      rw [pass_len fun z => l4 z.2] at this
      exact this
    rw [decide_eq_true (show (xs.length : Int) ≤ 4 by omega)]
    refine ite2 (fun z => by cases z) (fun _ => ?_)
    try dsimp only
    refine ⟨_, rfl, t, _, rfl, SqT.of ht, for_it walk_en (fun n σ G => (∃ v2 v3, σ = [some (.ref x), some (.ref t), v2, v3]) ∧ Ex H G ∧ (∀ y ∈ xs.take n, isOf (W.ms.map (·.1)) y = true) ∧ ((xs.take n).map strOf).Nodup) ⟨⟨_, _, rfl⟩, Ex.refl, fun y hy => by simp at hy, by simp⟩ (fun n σ G _ h => SqT.of (h.2.1 _ _ ht)) ?_ ?_⟩
    · rintro i v σ G G1 hi ⟨⟨v2, v3, rfl⟩, xG, al, nd⟩ ⟨T, y1, y2, rfl, nT, rfl, h1, h2⟩
      cases h1
      have h2 : xs[i]? = some y2 := h2
      have mm := List.mem_of_getElem? h2
      have li : i < xs.length := (List.getElem?_eq_some_iff.mp h2).1
      have xT : Ex H (upd G T (.tup [.int (i : Nat), y2])) := xG.new nT
      have eT : (upd G T (.tup [.int (i : Nat), y2])) T = some (.tup [.int (i : Nat), y2]) := upd_same
      generalize upd G T (.tup [.int (i : Nat), y2]) = G1 at xT eT ⊢
      refine ⟨T, _, rfl, SqT.of eT, rfl, _, _, rfl, _, _, rfl, rfl, ?_⟩
      try dsimp only
      obtain ⟨am, ac, as, ap, wk1, dt1⟩ := wk.ex xT
      obtain ⟨dx, D1, D2, D3, D4, b1', b2', v4, hx, _⟩ := wk1
      obtain ⟨vm, em, pm⟩ := dt1.m
      have nl : (W.ms.map (·.1)).length ≤ 100 := by
        rw [List.length_map]
        have := g.m2
        omega
      have sy : St K G1 y2 := ((dv.2 xs tx y2 mm).exN xT.n).st
      refine ⟨_, rfl, x, dx, _, rfl, hx, x, dx, _, _, rfl, hx, rfl, _, rfl, am, y2, vm, _, rfl, em, named3 pm, nl, sy, fun G2 x2 => ⟨_, rfl, ?_⟩⟩
      cases is1 : isOf (W.ms.map (·.1)) y2 with
      | false =>
        refine ite2 (fun _ => ?_) (fun z => absurd rfl z)
        have := q G2 (xT.trans x2)
        rw [pass_no mm is1] at this
        exact this
      | true =>
        obtain ⟨m, rfl, hm⟩ := isOf_at is1
        refine ite2 (fun z => by cases z) (fun _ => ?_)
        refine ⟨_, rfl, _, rfl, _, rfl, _, rfl, t, _, rfl, SqT.of (x2 _ _ (xT _ _ ht)), fun z => ?_, fun p np => ?_⟩
        · obtain ⟨_, z2⟩ := z
          rw [sIx_le (by omega)] at z2
          omega
        · rw [cut_takeN _ (by omega), strs_of al]
          refine ⟨p, _, rfl, .inr (SqT.of upd_same), rfl, flat_strs _, ?_⟩
          refine ⟨_, rfl, ?_⟩
          rw [if_neg (by decide), inV_strs]
          refine ite2 (fun d => ?_) (fun d => ?_)
          · rw [pass_dup h2 (List.mem_of_elem_eq_true d)] at q
            exact q _ ((xT.trans x2).new np)
          · refine ⟨⟨_, _, rfl⟩, (xT.trans x2).new np, fun y hy => ?_, ?_⟩
            · rw [List.take_succ, h2] at hy
              rcases List.mem_append.mp hy with hy | hy
              · exact al y hy
              · obtain rfl := List.mem_singleton.mp hy
                exact is1
            · rw [List.take_succ, h2, List.map_append]
              refine List.nodup_append.mpr ⟨nd, by simp, fun a ha b hb => ?_⟩
              obtain rfl := List.mem_singleton.mp hb
              rintro rfl
              exact d (List.elem_eq_true_of_mem ha)
    · rintro σ G ⟨_, xG, al, nd⟩
      rw [List.take_of_length_le (Nat.le_refl _)] at al nd
      have := q G xG
      rw [pass_yes l1 l4 al nd] at this
      exact this
end
end LJ
set_option Elab.async false
set_option linter.all false
set_option maxRecDepth 100000
set_option maxHeartbeats 8000000
namespace LJ
open PySem PySem.Spec L2
open LamX (ExtN)
open NdefX (NTab TabsN)
/-! _is_deed over any known value. -/
/-- the three things of a deed -/
def ddF (H : Hp) (W : Wd) : List V → Bool
  | [a, b, c] => if a = .str wRun then isOf (W.ps.map (·.1)) b && onTup (passF (W.ms.map (·.1))) H c else decide (a = .str wClean) && (isOf (W.ms.map (·.1)) b && isOf (W.cs.map (·.1)) c)
  | _ => false
def isDd (H : Hp) (W : Wd) (v : V) : Bool := onTup (ddF H W) H v
def spIdV (K : PySem.W.Frag) (C : Addr) : Sp := fun vs H Q _ => ∃ (x : Addr) (v : V) (W : Wd), vs = [.ref x, v] ∧ WkD C H x W ∧ GoodF W ∧ Deep K H 2 v ∧ ∀ H1, Ex H H1 → Q (.bl (isDd H W v)) H1
theorem ddF_len {H : Hp} {W : Wd} {xs : List V} (h : xs.length ≠ 3) : ddF H W xs = false := by
  match xs, h with
  | [], _ => rfl
  | [_], _ => rfl
  | [_, _], _ => rfl
  | [_, _, _], h => exact absurd rfl h
  | _ :: _ :: _ :: _ :: _, _ => rfl
theorem ddF_head {H : Hp} {W : Wd} {a : V} {xs : List V} (h : isN a = false) : ddF H W (a :: xs) = false := by
  have n1 : a ≠ .str wRun := fun e => by
    rw [e] at h
    exact absurd h (by decide +kernel)
  have n2 : a ≠ .str wClean := fun e => by
    rw [e] at h
    exact absurd h (by decide +kernel)
  match xs with
  | [] => rfl
  | [_] => rfl
  | [b, c] =>
    show (if a = .str wRun then _ else decide (a = .str wClean) && _) = false
    rw [if_neg n1, decide_eq_false n2, Bool.false_and]
  | _ :: _ :: _ :: _ => rfl
section
variable {P : Program} {w : World} {K : PySem.W.Frag} {mg : Str → Option Value} {base : Heap} {C : Addr}
/-- is_name_of(works.x, v), for any known value -/
theorem rd_nameV {K : PySem.W.Frag} {C x : Addr} {f : Str} {iw iz : Nat} {z : V} {names : List Str} {σ : L2.St} {H : Hp} {Q : VK} {dx tp : Addr} {fs : List (Str × V)} {rs : List V} (hw : σ[iw]? = some (some (.ref x))) (hz : σ[iz]? = some (some z)) (hx : H x = some (.ins C dx fs)) (hf : fs.lookup f = some (.ref tp)) (ht : H tp = some (.tup rs)) (pr : Paired (NRow H) rs names) (ln : names.length ≤ 100) (kz : Kn K H z)
    (q : ∀ H1, Ex H H1 → Q (.bl (isOf names z)) H1) : tCall (spNo K) [] E0 (tCons (tProp C (getSp C f) [] E0 (tVar iw)) (tCons (tVar iz) tNil)) σ H Q :=
  ⟨_, hw, x, dx, fs, rfl, hx, x, dx, fs, _, rfl, hx, hf, _, hz, tp, z, rs, names, rfl, ht, pr, ln, kz.st, q⟩
theorem ok_idV {f fN fP : Addr} {fd fdN fdP : FuncData} (F : Fun K "_is_deed" "_is_deed" sId f fd) (B : BltI mg) (c : WCls K C)
    (PP : PrW P w K mg base C "products" "_products") (PM : PrW P w K mg base C "machines" "_machines") (PC : PrW P w K mg base C "cleanings" "_cleanings")
    (GN : FnOk P w K mg base CX0 1 fN fdN ["rows", "value"] (spNo K)) (mN : mg "is_name_of" = some (.ref fN)) (kN : PySem.W.keepIn K (.ref fN) = true) (bN : Binds K fdN ["rows", "value"] [])
    (GP : FnOk P w K mg base CX0 3 fP fdP ["works", "machines"] (spPaV K C)) (mP : mg "_are_passed" = some (.ref fP)) (kP : PySem.W.keepIn K (.ref fP) = true) (bP : Binds K fdP ["works", "machines"] []) :
    FnOk P w K mg base CX0 4 f fd ["works", "deed"] (spIdV K C) := by
  refine F.ok scId (fun vs H Q E h => ?_) (fun cdv A outer s H vs Q E hr h => ?_)
  · obtain ⟨x, v, W, rfl, _⟩ := h
    rfl
  · obtain ⟨x, v, W, rfl, wk, g, dv, q⟩ := h
    obtain ⟨p1, g1, fd1, P1, G1, b1⟩ := PM
    obtain ⟨p2, g2, fd2, P2, G2, b2⟩ := PC
    obtain ⟨p4, g4, fd4, P4, G4, b4⟩ := PP
    have hr1 : Room 1 _ := hr.mono (by decide)
    have hr2 : Room 2 _ := hr.mono (by decide)
    refine ⟨_, pss_cons (ps_if (PW.pt (pw_or (pt_not (pt_truth (pe_callB call_isi (by rfl) B.isinstance (by decide +kernel) (pa_cons (pv 1) (pa_cons (pe_bltn (by rfl) B.tuple (by decide +kernel) (v := .ty "tuple") rfl) pa_nil))) (fun _ => rfl)))
        (pw_or (pt_cmpR op_ne (pe_callB call_len_seq (by rfl) B.len (by decide +kernel) (pa_cons (pv 1) pa_nil)) pe_int (nomark _))
        (pw_or1 (pt_not (pt_truth (pe_callB call_isi (by rfl) B.isinstance (by decide +kernel) (pa_cons (pe_ix ix_tup (pv 1) pe_int (fun _ _ => rfl)) (pa_cons (pe_bltn (by rfl) B.str (by decide +kernel) (v := .ty "str") rfl) pa_nil))) (fun _ => rfl))))))) (pss_one (ps_ret pe_bl)) pss_nil)
      (pss_cons (ps_asg (pv 1) (pg_tup (by rfl) (pgs_cons (pg_name (i := 2) scId.nd rfl (Or.inl rfl)) (pgs_cons (pg_name (i := 3) scId.nd rfl (Or.inl rfl)) (pgs_cons (pg_name (i := 4) scId.nd rfl (Or.inl rfl)) pgs_nil)))))
      (pss_cons (ps_if (pt_cmpR op_eq (pv 2) pe_str (nomark _)) (pss_one (ps_ret (pe_and (pe_call GN hr1 (by rfl) mN kN bN .nil pass0 (pa_cons (pe_prop (pv 0) c.cl P4 G4 hr2 b4 .nil pass0 (by rfl)) (pa_cons (pv 3) pa_nil)))
          (pe_one (pe_call GP hr (by rfl) mP kP bP .nil pass0 (pa_cons (pv 0) (pa_cons (pv 4) pa_nil))))))) pss_nil)
      (pss_one (ps_ret (pe_and (pe_cmpR op_eq (pv 2) pe_str (nomark _)) (pe_and (pe_call GN hr1 (by rfl) mN kN bN .nil pass0 (pa_cons (pe_prop (pv 0) c.cl P1 G1 hr2 b1 .nil pass0 (by rfl)) (pa_cons (pv 3) pa_nil)))
          (pe_one (pe_call GN hr1 (by rfl) mN kN bN .nil pass0 (pa_cons (pe_prop (pv 0) c.cl P2 G2 hr2 b2 .nil pass0 (by rfl)) (pa_cons (pv 4) pa_nil)))))))))), ?_⟩
    have sz := sizeLine_eq
    have no : ∀ {b : Bool}, isDd H W v = b → b = false → Q (.bl false) H := fun e1 e2 => by
      have := q H Ex.refl
      rw [e1, e2] at this
      exact this
    obtain ⟨t1, b, ty, e, hb⟩ := dv.1.atTup
    refine ⟨_, rfl, _, _, t1, _, b, rfl, .ty "tuple", ty, e, b, rfl, ?_⟩
    rcases hb with ⟨rfl, a, xs, rfl, ha, tx⟩ | ⟨rfl, tx⟩
    case inr =>
      refine ite2 (fun _ => ?_) (fun z => absurd rfl z)
      exact no (on_none tx) rfl
    have dx1 := dv.2 xs tx
    have eD : isDd H W (.ref a) = ddF H W xs := on_some tx
    refine ite2 (fun z => by cases z) (fun _ => ?_)
    refine ⟨_, rfl, a, _, rfl, .inr (SqT.of ha), rfl, _, rfl, ?_⟩
    by_cases l3 : xs.length = 3
    case neg =>
      refine ite2 (fun _ => ?_) (fun z => absurd (by
        refine Bool.not_eq_true' _ |>.mpr (decide_eq_false fun z2 => l3 ?_)
        have := V.int.inj z2
        omega) z)
      exact no (eD.trans (ddF_len l3)) rfl
    match xs, l3 with
    | [y0, y1, y2], _ =>
    refine ite2 (fun z => by cases z) (fun _ => ?_)
    have d0 := dx1 y0 (by simp)
    have d1 := dx1 y1 (by simp)
    have d2 := dx1 y2 (by simp)
    obtain ⟨t2, b, ty2, e2, hb⟩ := d0.1.atStr
    refine ⟨_, rfl, a, _, _, _, rfl, rfl, SqT.of ha, atI_nat (j := 0) rfl, _, _, t2, _, b, rfl, .ty "str", ty2, e2, b, rfl, ?_⟩
    rcases hb with ⟨rfl, z0, rfl, _⟩ | ⟨rfl, nn⟩
    case inr =>
      refine ite2 (fun _ => ?_) (fun z => absurd rfl z)
      exact no (eD.trans (ddF_head nn)) rfl
    refine ite2 (fun z => by cases z) (fun _ => ?_)
    refine ⟨_, rfl, a, _, rfl, SqT.of ha, rfl, _, _, rfl, _, _, rfl, _, _, rfl, rfl, ?_⟩
    refine ⟨_, rfl, rfl, _, rfl, ?_⟩
    obtain ⟨am, ac, as, ap, wk1, dt1⟩ := id wk
    obtain ⟨dx, D1, D2, D3, D4, b1', b2', v4, hx, _⟩ := wk1
    have eD2 : isDd H W (.ref a) = if V.str z0 = .str wRun then isOf (W.ps.map (·.1)) y1 && onTup (passF (W.ms.map (·.1))) H y2 else decide (V.str z0 = .str wClean) && (isOf (W.ms.map (·.1)) y1 && isOf (W.cs.map (·.1)) y2) := eD
    rw [eD2] at q
    refine ite2 (fun c1 => ?_) (fun c1 => ?_)
    · rw [if_pos (of_decide_eq_true c1)] at q
      obtain ⟨vp, ep, pp⟩ := dt1.p
      refine rd_nameV rfl rfl hx rfl ep (namedP pp) (by rw [List.length_map]; have := g.p2; omega) d1.kn fun H1 x1 => ?_
      refine ⟨_, rfl, ?_⟩
      refine ite2 (fun c2 => ?_) (fun c2 => ?_)
      · rw [c2, Bool.true_and] at q
        refine ⟨_, rfl, _, rfl, x, y2, W, rfl, wk.ex x1, g, d2.ex x1, fun H2 x2 => ?_⟩
        have z := q H2 (x1.trans x2)
        have e3 : onTup (passF (W.ms.map (·.1))) H1 y2 = onTup (passF (W.ms.map (·.1))) H y2 := by
          unfold onTup
          rw [d2.kn.tups x1]
        rw [e3]
        exact z
      · rw [Bool.eq_false_iff.mpr c2, Bool.false_and] at q
        exact q H1 x1
    · rw [if_neg fun z => c1 (decide_eq_true z)] at q
      refine ⟨_, rfl, rfl, _, rfl, ?_⟩
      refine ite2 (fun c2 => ?_) (fun c2 => ?_)
      · rw [c2, Bool.true_and] at q
        obtain ⟨vm, em, pm⟩ := dt1.m
        refine rd_nameV rfl rfl hx rfl em (named3 pm) (by rw [List.length_map]; have := g.m2; omega) d1.kn fun H1 x1 => ?_
        refine ⟨_, rfl, ?_⟩
        refine ite2 (fun c3 => ?_) (fun c3 => ?_)
        · rw [c3, Bool.true_and] at q
          obtain ⟨am2, ac2, as2, ap2, wk2, dt2⟩ := wk.ex x1
          obtain ⟨dx2, F1, F2, F3, F4, c1', c2', w4, hx2, _⟩ := wk2
          obtain ⟨vc, ec, pc⟩ := dt2.c
          exact rd_nameV rfl rfl hx2 rfl ec (named3 pc) (by rw [List.length_map]; have := g.c2; omega) (d2.kn.ex x1) fun H2 x2 => q H2 (x1.trans x2)
        · rw [Bool.eq_false_iff.mpr c3, Bool.false_and] at q
          exact q H1 x1
      · rw [Bool.eq_false_iff.mpr c2, Bool.false_and] at q
        exact q H Ex.refl
end
end LJ
set_option Elab.async false
set_option linter.all false
set_option maxRecDepth 100000
set_option maxHeartbeats 8000000
namespace LJ
open PySem PySem.Spec L2 PySem.ErrV
open LamX (ExtN)
open NdefX (NTab TabsN)
/-! _check_deeds and check_works over any known value: what is raised, or nothing. -/
/-- an error of one field over ValueError -/
structure Er1 (K : PySem.W.Frag) (mg : Str → Option Value) (x f : Str) (C : Addr) : Prop where
  c : ∃ fI bm, ErrC K mg x f C fI "ValueError.__new__" bm ∧ BaseOk "ValueError" "ValueError.__new__" "ValueError.__init__" bm
  exC : PySem.W.subIn K (.ref C) (.type "BaseException") = some true
  tyC : PySem.W.typeIn K (.ref C) = some (.type "type")
  xf : XfC K C
def isRunV (H : Hp) (v : V) : Bool := match tupOf H v with
  | some (a :: _) => decide (a = .str wRun)
  | _ => false
/-- the first index that is no deed, is beyond twenty deeds or eight runs -/
def dueAt (H : Hp) (W : Wd) : Nat → Nat → List V → Option Nat
  | _, _, [] => none
  | i, r, y :: ys => if 20 ≤ i ∨ isDd H W y = false then some i else if 8 < r + (isRunV H y).toNat then some i else dueAt H W (i + 1) (r + (isRunV H y).toNat) ys
def dueD (H : Hp) (W : Wd) (v : V) : Option V := match tupOf H v with
  | none => some .non
  | some xs => (dueAt H W 0 0 xs).map fun i => V.int (i : Nat)
/-- u raised in the end: what is wished for -/
def Raised (ce : Addr) (f : Str) (u : V) (H : Hp) (E : XK) : Prop := ∀ H1 d, Ex H H1 → H1 d = some (.xd [(f, u)]) → E (.ref ce) (some d) H1
def spCdV (K : PySem.W.Frag) (C ce : Addr) : Sp := fun vs H Q E => ∃ (x : Addr) (v : V) (W : Wd), vs = [.ref x, v] ∧ WkD C H x W ∧ GoodF W ∧ Deep K H 3 v ∧ (dueD H W v = none → ∀ H1, Ex H H1 → Q .non H1) ∧ ∀ u, dueD H W v = some u → Raised ce "index" u H E
theorem Deep.dd {K : PySem.W.Frag} {H H1 : Hp} {W : Wd} {v : V} (d : Deep K H 2 v) (e : Ex H H1) : isDd H1 W v = isDd H W v ∧ isRunV H1 v = isRunV H v := by
  have t := d.1.tups e
  unfold isDd onTup isRunV
  rw [t]
  refine ⟨?_, rfl⟩
  cases h : tupOf H v with
  | none => rfl
  | some xs =>
    match xs with
    | [] => rfl
    | [_] => rfl
    | [_, _] => rfl
    | [a, b, c] =>
      have dc := d.2 _ h c (by simp)
      show (if a = .str wRun then isOf _ b && onTup _ H1 c else _) = (if a = .str wRun then isOf _ b && onTup _ H c else _)
      have e3 : onTup (passF (W.ms.map (·.1))) H1 c = onTup (passF (W.ms.map (·.1))) H c := by
        unfold onTup
        rw [dc.kn.tups e]
      rw [e3]
    | _ :: _ :: _ :: _ :: _ => rfl
theorem dueAt_ex {K : PySem.W.Frag} {H H1 : Hp} {W : Wd} (e : Ex H H1) : ∀ {xs : List V} {i r : Nat}, (∀ y ∈ xs, Deep K H 2 y) → dueAt H1 W i r xs = dueAt H W i r xs
  | [], _, _, _ => rfl
  | y :: ys, i, r, h => by
    unfold dueAt
    obtain ⟨e1, e2⟩ := (h y (List.mem_cons_self ..)).dd (W := W) e
    rw [e1, e2, dueAt_ex e fun z hz => h z (List.mem_cons_of_mem _ hz)]
theorem dueD_ex {K : PySem.W.Frag} {H H1 : Hp} {W : Wd} {v : V} (e : Ex H H1) (d : Deep K H 3 v) : dueD H1 W v = dueD H W v := by
  unfold dueD
  rw [d.1.tups e]
  cases h : tupOf H v with
  | none => rfl
  | some xs => simp only [dueAt_ex e (d.2 xs h)]
/-- a deed begins with a word -/
theorem isDd_head {H : Hp} {W : Wd} {v : V} (h : isDd H W v = true) : ∃ a z b c, v = .ref a ∧ H a = some (.tup [.str z, b, c]) ∧ isRunV H v = decide (V.str z = .str wRun) := by
  cases t : tupOf H v with
  | none =>
    unfold isDd at h
    rw [on_none t] at h
    cases h
  | some xs =>
    obtain ⟨a, rfl, ha⟩ := tup_ref t
    unfold isDd at h
    rw [on_some t] at h
    by_cases l3 : xs.length = 3
    · match xs, l3 with
      | [y0, y1, y2], _ =>
        cases hn : isN y0 with
        | false =>
          rw [ddF_head hn] at h
          cases h
        | true =>
          cases y0 with
          | str z =>
            refine ⟨a, z, y1, y2, rfl, ha, ?_⟩
            unfold isRunV
            rw [t]
          | _ => cases hn
    · rw [ddF_len l3] at h
      cases h
section
variable {P : Program} {w : World} {K : PySem.W.Frag} {mg : Str → Option Value} {base : Heap} {C ce : Addr}
theorem ok_cdV {f fD : Addr} {fd fdD : FuncData} {u1 u2 : Value} (F : Fun K "_check_deeds" "_check_deeds" sCd f fd) (B : BltI mg) (e0 : Er1 K mg "InvalidDeeds" "index" ce) (m1 : mg "MOST_DEEDS" = some u1) (r1 : RelV (.int 20) u1) (m2 : mg "MOST_LOTS" = some u2) (r2 : RelV (.int 8) u2)
    (GD : FnOk P w K mg base CX0 4 fD fdD ["works", "deed"] (spIdV K C)) (mD : mg "_is_deed" = some (.ref fD)) (kD : PySem.W.keepIn K (.ref fD) = true) (bD : Binds K fdD ["works", "deed"] []) :
    FnOk P w K mg base (L2.CX P w) 5 f fd ["works", "deeds"] (spCdV K C ce) := by
  refine F.okX scCd (fun vs H Q E h => ?_) (fun cdv A outer s H vs Q E hr h => ?_)
  · obtain ⟨x, v, W, rfl, _⟩ := h
    rfl
  · obtain ⟨x, v, W, rfl, wk, g, dv, good, bad⟩ := h
    obtain ⟨f0, b0, T0, B0⟩ := e0.c
    have hr1 : Room 1 _ := hr.mono (by decide)
    refine ⟨_, pss_cons (ps_if (pt_not (pt_truth (pe_callB call_isi (by rfl) B.isinstance (by decide +kernel) (pa_cons (pv 1) (pa_cons (pe_bltn (by rfl) B.tuple (by decide +kernel) (v := .ty "tuple") rfl) pa_nil))) (fun _ => rfl))) (pss_one (ps_raiseE rfl (.inr rfl) T0 B0 e0.exC e0.tyC hr1 (takes_of rfl rfl rfl rfl) (pa_cons pe_non pa_nil) (by rfl))) pss_nil)
      (pss_cons (ps_set (i := 2) scCd.nd rfl (Or.inl rfl) pe_int)
      (pss_one (ps_for PassesOwn.leaving rfl (EnT.pi_enT (by rfl) B.enumerate (pa_cons (pv 1) pa_nil)) (pg_tup (by rfl) (pgs_cons (pg_name (i := 3) scCd.nd rfl (Or.inl rfl)) (pgs_cons (pg_name (i := 4) scCd.nd rfl (Or.inl rfl)) pgs_nil)))
        (pss_cons (ps_if (PW.pt (pw_or (pt_cmpR op_eq (pv 3) (pe_glob (by rfl) m1 r1) (nomark _)) (pw_or1 (pt_not (pt_val (pe_call GD hr (by rfl) mD kD bD .nil pass0 (pa_cons (pv 0) (pa_cons (pv 4) pa_nil)))))))) (pss_one (ps_raiseE rfl (.inr rfl) T0 B0 e0.exC e0.tyC hr1 (takes_of rfl rfl rfl rfl) (pa_cons (pv 3) pa_nil) (by rfl))) pss_nil)
        (pss_cons (ps_if (pt_cmpR op_eq (pe_ix ix_tup (pv 4) pe_int (fun _ _ => rfl)) pe_str (nomark _)) (pss_one (ps_aug (i := 2) scCd.nd rfl (Or.inl rfl) pe_int ip_add)) pss_nil)
        (pss_one (ps_if (pt_cmpR op_gt (pv 2) (pe_glob (by rfl) m2 r2) (nomark _)) (pss_one (ps_raiseE rfl (.inr rfl) T0 B0 e0.exC e0.tyC hr1 (takes_of rfl rfl rfl rfl) (pa_cons (pv 3) pa_nil) (by rfl))) pss_nil))))))), ?_⟩
    have sz := sizeLine_eq
    obtain ⟨t1, b, ty, e, hb⟩ := dv.1.atTup
    refine ⟨_, rfl, _, _, t1, _, b, rfl, .ty "tuple", ty, e, b, rfl, ?_⟩
    rcases hb with ⟨rfl, t, xs, rfl, ht, tx⟩ | ⟨rfl, tx⟩
    case inr =>
      refine ite2 (fun _ => ?_) (fun z => absurd rfl z)
      exact ⟨_, rfl, fun d nd => bad .non (by unfold dueD; rw [tx]) _ d (Ex.refl.new nd) upd_same⟩
    have eD : dueD H W (.ref t) = (dueAt H W 0 0 xs).map fun i => V.int (i : Nat) := by
      unfold dueD
      rw [tx]
    have dx1 := dv.2 xs tx
    refine ite2 (fun z => by cases z) (fun _ => ?_)
    refine rd_nextU ?_
    try dsimp only
    refine ⟨_, rfl, t, _, rfl, SqT.of ht, for_it walk_en (fun n σ G => (∃ (r : Nat) (v3 v4 : Option V), σ = [some (.ref x), some (.ref t), some (.int (r : Nat)), v3, v4] ∧ n ≤ 20 ∧ dueAt H W 0 0 xs = dueAt H W n r (xs.drop n)) ∧ Ex H G) ⟨⟨0, _, _, rfl, by decide, rfl⟩, Ex.refl⟩ (fun n σ G _ h => SqT.of (h.2 _ _ ht)) ?_ ?_⟩
    · rintro i v σ G G1 hi ⟨⟨r, v3, v4, rfl, i20, dd⟩, xG⟩ ⟨T, y1, y2, rfl, nT, rfl, h1, h2⟩
      cases h1
      have h2 : xs[i]? = some y2 := h2
      have mm := List.mem_of_getElem? h2
      have li : i < xs.length := (List.getElem?_eq_some_iff.mp h2).1
      have ed : xs.drop i = y2 :: xs.drop (i + 1) := by
        rw [List.drop_eq_getElem_cons li]
        rw [List.getElem?_eq_getElem li] at h2
        rw [Option.some.inj h2]
      rw [ed] at dd
      have xT : Ex H (upd G T (.tup [.int (i : Nat), y2])) := xG.new nT
      have eT : (upd G T (.tup [.int (i : Nat), y2])) T = some (.tup [.int (i : Nat), y2]) := upd_same
      generalize upd G T (.tup [.int (i : Nat), y2]) = G1 at xT eT ⊢
      refine ⟨T, _, rfl, SqT.of eT, rfl, _, _, rfl, _, _, rfl, rfl, ?_⟩
      try dsimp only
      have raise : dueAt H W i r (y2 :: xs.drop (i + 1)) = some i → ∀ G2 d, Ex H G2 → G2 d = none → E (.ref ce) (some d) (upd G2 d (.xd [(("index" : Str), .int (i : Nat))])) := fun z G2 d x2 nd => bad _ (by rw [eD, dd, z]; rfl) _ d (x2.new nd) upd_same
      refine rd_seqU (rd_ifU ?_)
      refine ⟨_, rfl, rfl, _, rfl, ?_⟩
      have here : 20 ≤ i ∨ isDd H W y2 = false → dueAt H W i r (y2 :: xs.drop (i + 1)) = some i := fun c => by
        show (if 20 ≤ i ∨ isDd H W y2 = false then some i else _) = _
        rw [if_pos c]
      refine ite2 (fun c1 => ?_) (fun c1 => ?_)
      · have c2 : 20 ≤ i := by
          have := V.int.inj (of_decide_eq_true c1)
          omega
        exact ⟨_, rfl, _, rfl, fun d nd => raise (here (.inl c2)) G1 d xT nd⟩
      · have i19 : ¬ 20 ≤ i := fun z => c1 (decide_eq_true (congrArg V.int (by omega)))
        have d2 := dx1 y2 mm
        refine ⟨_, rfl, _, rfl, x, y2, W, rfl, wk.ex xT, g, d2.ex xT, fun G2 x2 => ⟨_, rfl, ?_⟩⟩
        have x2' := xT.trans x2
        rw [(d2.dd xT).1]
        cases is1 : isDd H W y2 with
        | false =>
          refine ite2 (fun _ => ?_) (fun z => absurd rfl z)
          exact ⟨_, rfl, _, rfl, fun d nd => raise (here (.inr is1)) G2 d x2' nd⟩
        | true =>
          refine ite2 (fun z => by cases z) (fun _ => ?_)
          refine rd_nextU ?_
          try dsimp only
          obtain ⟨a, z0, y4, y5, rfl, ha, er⟩ := isDd_head is1
          refine rd_seqU (rd_ifU ?_)
          refine ⟨_, rfl, a, _, _, _, rfl, rfl, SqT.of (x2' _ _ ha), atI_nat (j := 0) rfl, rfl, _, rfl, ?_⟩
          have step : dueAt H W i r (V.ref a :: xs.drop (i + 1)) = if 8 < r + (isRunV H (.ref a)).toNat then some i else dueAt H W (i + 1) (r + (isRunV H (.ref a)).toNat) (xs.drop (i + 1)) := by
            show (if 20 ≤ i ∨ isDd H W (.ref a) = false then some i else _) = _
            rw [if_neg]
            rintro (z | z)
            · exact i19 z
            · rw [is1] at z
              cases z
          have fin_ : ∀ (n : Nat), n = r + (isRunV H (.ref a)).toNat → 8 < n → ∀ d, G2 d = none → E (.ref ce) (some d) (upd G2 d (.xd [(("index" : Str), .int (i : Nat))])) := fun n hn h8 d nd => raise (by rw [step, if_pos (by omega)]) G2 d x2' nd
          have on : ∀ (n : Nat), n = r + (isRunV H (.ref a)).toNat → ¬ 8 < n → dueAt H W 0 0 xs = dueAt H W (i + 1) n (xs.drop (i + 1)) := fun n hn h8 => by
            rw [dd, step, if_neg (by omega), hn]
          refine ite2 (fun c3 => ?_) (fun c3 => ?_)
          · have e2 : r + 1 = r + (isRunV H (.ref a)).toNat := by
              rw [er, c3]
              rfl
            refine ⟨_, rfl, _, _, rfl, rfl, ?_⟩
            try dsimp only
            refine rd_ifU ⟨_, rfl, _, _, rfl, rfl, _, rfl, ?_⟩
            refine ite2 (fun z => ?_) (fun z => ?_)
            · exact ⟨_, rfl, _, rfl, fun d nd => fin_ (r + 1) e2 (by have := of_decide_eq_true z; omega) d nd⟩
            · exact ⟨⟨r + 1, _, _, rfl, by omega, on (r + 1) e2 fun h8 => z (decide_eq_true (by omega))⟩, x2'⟩
          · have e2 : r = r + (isRunV H (.ref a)).toNat := by
              rw [er, Bool.eq_false_iff.mpr c3]
              rfl
            refine rd_nextU ?_
            try dsimp only
            refine rd_ifU ⟨_, rfl, _, _, rfl, rfl, _, rfl, ?_⟩
            refine ite2 (fun z => ?_) (fun z => ?_)
            · exact ⟨_, rfl, _, rfl, fun d nd => fin_ r e2 (by have := of_decide_eq_true z; omega) d nd⟩
            · exact ⟨⟨r, _, _, rfl, by omega, on r e2 fun h8 => z (decide_eq_true (by omega))⟩, x2'⟩
    · rintro σ G ⟨⟨r, v3, v4, rfl, _, dd⟩, xG⟩
      rw [List.drop_of_length_le (Nat.le_refl _)] at dd
      refine good ?_ G xG
      rw [eD, dd]
      rfl
end
end LJ
set_option Elab.async false
set_option linter.all false
set_option maxRecDepth 100000
set_option maxHeartbeats 8000000
namespace LJ
open PySem PySem.Spec L2 PySem.ErrV
open LamX (ExtN)
open NdefX (NTab TabsN)
/-! check_works over any known value; what is let is a row of good deeds. -/
/-- whether this is an object of the class, known at every later heap -/
def IsW (K : PySem.W.Frag) (C : Addr) (H : Hp) (v : V) (b : Bool) : Prop := ∃ t, (∀ H1, ExtN H H1 → TyX K H1 v t) ∧ PySem.W.kitOne K t (.ref C) = some b
theorem IsW.exN {K : PySem.W.Frag} {C : Addr} {H H1 : Hp} {v : V} {b : Bool} (h : IsW K C H v b) (e : ExtN H H1) : IsW K C H1 v b := by
  obtain ⟨t, h1, h2⟩ := h
  exact ⟨t, fun H2 e2 => h1 H2 (e.trans e2), h2⟩
def spCwV (K : PySem.W.Frag) (C cW : Addr) : Sp := fun vs H Q E => ∃ (v : V) (b : Bool), vs = [v] ∧ IsW K C H v b ∧ (b = true → Q .non H) ∧ (b = false → Raised cW "given" v H E)
theorem deed_of {H : Hp} {W : Wd} {v : V} (h : isDd H W v = true) : ∃ d, DeedAt H v d ∧ DOk W d ∧ d.lot.toList.length = (isRunV H v).toNat := by
  obtain ⟨a, z, b, c, rfl, ha, er⟩ := isDd_head h
  have t : tupOf H (.ref a) = some [.str z, b, c] := tup_at ha
  have e : (if V.str z = .str wRun then isOf (W.ps.map (·.1)) b && onTup (passF (W.ms.map (·.1))) H c else decide (V.str z = .str wClean) && (isOf (W.ms.map (·.1)) b && isOf (W.cs.map (·.1)) c)) = true := by
    unfold isDd at h
    rw [on_some t] at h
    exact h
  rw [er]
  by_cases c1 : V.str z = .str wRun
  · rw [if_pos c1] at e
    obtain ⟨e1, e2⟩ := both e
    obtain ⟨p, rfl, hp⟩ := isOf_at e1
    cases tc : tupOf H c with
    | none =>
      rw [on_none tc] at e2
      cases e2
    | some vs =>
      rw [on_some tc] at e2
      obtain ⟨t2, rfl, ht⟩ := tup_ref tc
      obtain ⟨l1, l4, al, nd⟩ := pass_of e2
      refine ⟨.run p (vs.map strOf), ⟨a, t2, rfl, ?_, ?_⟩, ⟨hp, by rw [List.length_map]; exact l1, by rw [List.length_map]; exact l4, nd, fun m hm => ?_⟩, ?_⟩
      · rw [ha, c1]
      · rw [ht, ← strs_of al]
      · obtain ⟨y, hy, rfl⟩ := List.mem_map.mp hm
        obtain ⟨u, rfl, hu⟩ := isOf_at (al y hy)
        exact hu
      · rw [decide_eq_true c1]
        rfl
  · rw [if_neg c1] at e
    obtain ⟨e1, e2⟩ := both e
    obtain ⟨e2, e3⟩ := both e2
    obtain ⟨m, rfl, hm⟩ := isOf_at e2
    obtain ⟨cl, rfl, hc⟩ := isOf_at e3
    refine ⟨.clean m cl, ⟨a, rfl, ?_⟩, ⟨hm, hc⟩, ?_⟩
    · rw [ha, of_decide_eq_true e1]
    · rw [decide_eq_false c1]
      rfl
theorem due_deeds {H : Hp} {W : Wd} : ∀ {xs : List V} {i r : Nat}, dueAt H W i r xs = none → i ≤ 20 → r ≤ 8 → i + xs.length ≤ 20 ∧ ∃ ds, Paired (DeedAt H) xs ds ∧ (∀ d ∈ ds, DOk W d) ∧ r + (lotsOf ds).length ≤ 8
  | [], i, r, _, h1, h2 => ⟨h1, [], .nil, (fun _ z => nomatch z), h2⟩
  | y :: ys, i, r, h, h1, h2 => by
    unfold dueAt at h
    split at h
    · cases h
    · rename_i c1
      split at h
      · cases h
      · rename_i c2
        have i20 : ¬ 20 ≤ i := fun z => c1 (.inl z)
        have is1 : isDd H W y = true := by
          cases q : isDd H W y with
          | true => rfl
          | false => exact absurd (Or.inr q) c1
        obtain ⟨d, d1, d2, d3⟩ := deed_of is1
        obtain ⟨l, ds, p1, p2, p3⟩ := due_deeds h (by omega) (by omega)
        refine ⟨by rw [List.length_cons]; omega, d :: ds, .cons d1 p1, fun u hu => ?_, ?_⟩
        · rcases List.mem_cons.mp hu with rfl | hu
          · exact d2
          · exact p2 u hu
        · have : (lotsOf (d :: ds)).length = d.lot.toList.length + (lotsOf ds).length := by
            unfold lotsOf
            cases e : d.lot with
            | none => simp [List.filterMap_cons, e]
            | some z =>
              simp [List.filterMap_cons, e]
              omega
          omega
theorem due_good {H : Hp} {W : Wd} {v : V} (h : dueD H W v = none) : ∃ td rs ds, v = .ref td ∧ H td = some (.tup rs) ∧ Paired (DeedAt H) rs ds ∧ DsOk W ds := by
  unfold dueD at h
  cases t : tupOf H v with
  | none =>
    rw [t] at h
    cases h
  | some xs =>
    rw [t] at h
    obtain ⟨a, rfl, ha⟩ := tup_ref t
    have h : (dueAt H W 0 0 xs).map (fun i => V.int (i : Nat)) = none := h
    rw [Option.map_eq_none_iff] at h
    obtain ⟨l, ds, p1, p2, p3⟩ := due_deeds h (by decide) (by decide)
    have lr : xs.length = ds.length := Paired.size p1
    exact ⟨a, xs, ds, rfl, ha, p1, p2, by omega, by omega⟩
section
variable {P : Program} {w : World} {K : PySem.W.Frag} {mg : Str → Option Value} {base : Heap} {C cW : Addr}
theorem ok_cwV {f : Addr} {fd : FuncData} (F : Fun K "check_works" "check_works" sCw f fd) (B : BltI mg) (mW : mg "Works" = some (.ref C)) (e0 : Er1 K mg "NotWorks" "given" cW) : FnOk P w K mg base (L2.CX P w) 2 f fd ["works"] (spCwV K C cW) := by
  refine F.okX scCw (fun vs H Q E h => ?_) (fun cdv A outer s H vs Q E hr h => ?_)
  · obtain ⟨v, b, rfl, _⟩ := h
    rfl
  · obtain ⟨v, b, rfl, ⟨t, ty, hk⟩, good, bad⟩ := h
    obtain ⟨f0, b0, T0, B0⟩ := e0.c
    refine ⟨_, pss_one (ps_if (pt_not (pt_truth (pe_callB call_isi (by rfl) B.isinstance (by decide +kernel) (pa_cons (pv 0) (pa_cons (pe_glob (v := .ref C) (by rfl) mW rfl) pa_nil))) (fun _ => rfl))) (pss_one (ps_raiseE rfl (.inl rfl) T0 B0 e0.exC e0.tyC hr (takes_of rfl rfl rfl rfl) (pa_cons (pv 0) pa_nil) (by rfl))) pss_nil), ?_⟩
    refine ⟨_, rfl, _, _, t, _, b, rfl, .own C, ty H (ExtN.refl _), hk, b, rfl, ?_⟩
    cases b with
    | true => exact ite2 (fun z => by cases z) (fun _ => good rfl)
    | false =>
      refine ite2 (fun _ => ?_) (fun z => absurd rfl z)
      exact ⟨_, rfl, _, rfl, fun d nd => bad rfl _ d (Ex.refl.new nd) upd_same⟩
end
end LJ
set_option Elab.async false
set_option linter.all false
set_option maxRecDepth 100000
set_option maxHeartbeats 8000000
namespace LJ
open PySem PySem.Spec L2
open LamX (ExtN)
open NdefX (NTab TabsN)
/-! What a text reads as: deeds, or none. -/
/-- are these the words of a deed -/
def okW (W : Wd) : List Str → Bool
  | a :: p :: ms => if a = wRun then (W.ps.map (·.1)).contains p && (decide (1 ≤ ms.length) && (decide (ms.length ≤ 4) && (ms.all (fun m => (W.ms.map (·.1)).contains m) && decide ms.Nodup)))
    else decide (a = wClean) && (match ms with
      | [c] => (W.ms.map (·.1)).contains p && (W.cs.map (·.1)).contains c
      | _ => false)
  | _ => false
def deedW : List Str → Deed
  | a :: p :: ms => if a = wRun then .run p ms else .clean p (ms.headD Str.empty)
  | _ => .clean Str.empty Str.empty
theorem okW_cons {W : Wd} {a p : Str} {ms : List Str} : okW W (a :: p :: ms) = if a = wRun then (W.ps.map (·.1)).contains p && (decide (1 ≤ ms.length) && (decide (ms.length ≤ 4) && (ms.all (fun m => (W.ms.map (·.1)).contains m) && decide ms.Nodup)))
    else decide (a = wClean) && (match ms with
      | [c] => (W.ms.map (·.1)).contains p && (W.cs.map (·.1)).contains c
      | _ => false) := rfl
theorem deedW_cons {a p : Str} {ms : List Str} : deedW (a :: p :: ms) = if a = wRun then .run p ms else .clean p (ms.headD Str.empty) := rfl
theorem isOf_str {names : List Str} {z : Str} : isOf names (.str z) = names.contains z := rfl
theorem okW_ok {W : Wd} {ws : List Str} (h : okW W ws = true) : DOk W (deedW ws) := by
  match ws, h with
  | a :: p :: ms, h =>
    rw [okW_cons] at h
    rw [deedW_cons]
    by_cases e : a = wRun
    · rw [if_pos e] at h ⊢
      simp only [Bool.and_eq_true, decide_eq_true_eq, List.all_eq_true] at h
      obtain ⟨h1, h2, h3, h4, h5⟩ := h
      exact ⟨List.mem_of_elem_eq_true h1, h2, h3, h5, fun m hm => List.mem_of_elem_eq_true (h4 m hm)⟩
    · rw [if_neg e] at h ⊢
      rw [Bool.and_eq_true] at h
      obtain ⟨_, h⟩ := h
      match ms, h with
      | [c], h =>
        rw [Bool.and_eq_true] at h
        exact ⟨List.mem_of_elem_eq_true h.1, List.mem_of_elem_eq_true h.2⟩
      | [], h => cases h
      | _ :: _ :: _, h => cases h
  | [], h => cases h
  | [_], h => cases h
theorem raw_deed {W : Wd} {H : Hp} {v : V} {ws : List Str} (r : RawAt H v ws) (h : okW W ws = true) : DeedAt H v (deedW ws) := by
  unfold RawAt at r
  match ws, h with
  | a :: p :: ms, h =>
    rw [okW_cons] at h
    rw [deedW_cons]
    by_cases e : a = wRun
    · subst e
      rw [if_pos (by unfold runW; simp)] at r
      rw [if_pos rfl]
      obtain ⟨b, t, p', ms', e1, rfl, h1, h2⟩ := r
      cases e1
      exact ⟨b, t, rfl, h1, h2⟩
    · rw [if_neg (by unfold runW; simp [e])] at r
      rw [if_neg e] at h ⊢
      rw [Bool.and_eq_true, decide_eq_true_eq] at h
      obtain ⟨rfl, h⟩ := h
      obtain ⟨b, rfl, h1⟩ := r
      match ms, h, h1 with
      | [c], _, h1 => exact ⟨b, rfl, h1⟩
      | [], h, _ => cases h
      | _ :: _ :: _, h, _ => cases h
  | [], h => cases h
  | [_], h => cases h
theorem strs_all : ∀ {ms : List Str} {names : List Str}, ((ms.map V.str).all (isOf names)) = ms.all (fun m => names.contains m)
  | [], _ => rfl
  | m :: r, names => by
    rw [List.map_cons, List.all_cons, List.all_cons, strs_all (ms := r)]
    rfl
theorem ddF3 {H : Hp} {W : Wd} {a b c : V} : ddF H W [a, b, c] = (if a = .str wRun then isOf (W.ps.map (·.1)) b && onTup (passF (W.ms.map (·.1))) H c else decide (a = .str wClean) && (isOf (W.ms.map (·.1)) b && isOf (W.cs.map (·.1)) c)) := rfl
theorem raw_dd {W : Wd} {H : Hp} {v : V} {ws : List Str} (r : RawAt H v ws) : isDd H W v = okW W ws := by
  unfold RawAt at r
  by_cases hr : runW ws = true
  · rw [if_pos hr] at r
    obtain ⟨a, t, p, ms, rfl, rfl, h1, h2⟩ := r
    unfold isDd onTup
    rw [tup_at h1]
    show ddF H W [.str wRun, .str p, .ref t] = _
    rw [ddF3, if_pos rfl, okW_cons, if_pos rfl]
    unfold onTup
    rw [tup_at h2]
    show (_ && passF _ _) = _
    unfold passF
    rw [List.length_map, strs_all]
    have e : (ms.map V.str).map strOf = ms := by
      rw [List.map_map]
      exact List.map_id' _
    rw [e]
    rfl
  · rw [if_neg hr] at r
    obtain ⟨a, rfl, h1⟩ := r
    unfold isDd onTup
    rw [tup_at h1]
    show ddF H W (ws.map V.str) = _
    match ws with
    | [] => rfl
    | [_] => rfl
    | [x, y] =>
      rw [okW_cons]
      have n : x ≠ wRun := fun z => hr (by subst z; unfold runW; simp)
      rw [if_neg n]
      simp
      rfl
    | [x, y, z] =>
      have n : x ≠ wRun := fun q => hr (by subst q; unfold runW; simp)
      rw [okW_cons, if_neg n]
      show ddF H W [.str x, .str y, .str z] = _
      rw [ddF3, if_neg (fun q => n (V.str.inj q))]
      congr 1
      simp
    | x :: y :: z :: u :: r =>
      have n : x ≠ wRun := fun q => hr (by subst q; unfold runW; simp)
      rw [ddF_len (by simp), okW_cons, if_neg n]
      simp
theorem raw_run {W : Wd} {H : Hp} {v : V} {ws : List Str} (r : RawAt H v ws) (h : okW W ws = true) : (deedW ws).lot.toList.length = (isRunV H v).toNat := by
  have d := raw_deed r h
  cases e : deedW ws with
  | run p ms =>
    rw [e] at d
    obtain ⟨a, t, rfl, h1, h2⟩ := d
    unfold isRunV
    rw [tup_at h1]
    show 1 = (decide (V.str wRun = .str wRun)).toNat
    rw [decide_eq_true rfl]
    rfl
  | clean m c =>
    rw [e] at d
    obtain ⟨a, rfl, h1⟩ := d
    unfold isRunV
    rw [tup_at h1]
    show 0 = (decide (V.str wClean = .str wRun)).toNat
    rw [decide_eq_false (by decide +kernel)]
    rfl
theorem lots_cons (d : Deed) (ds : List Deed) : (lotsOf (d :: ds)).length = d.lot.toList.length + (lotsOf ds).length := by
  unfold lotsOf
  cases e : d.lot with
  | none => simp [List.filterMap_cons, e]
  | some z =>
    simp [List.filterMap_cons, e]
    omega
theorem due_raw {W : Wd} {H : Hp} : ∀ {vs : List V} {wss : List (List Str)} {i r : Nat}, Paired (RawAt H) vs wss → i ≤ 20 → r ≤ 8 →
    (dueAt H W i r vs = none ↔ (∀ ws ∈ wss, okW W ws = true) ∧ i + wss.length ≤ 20 ∧ r + (lotsOf (wss.map deedW)).length ≤ 8)
  | _, _, i, r, .nil, hi, hr => by
    show none = none ↔ _
    simp [lotsOf, hi, hr]
  | v :: vs, ws :: wss, i, r, .cons h t, hi, hr => by
    unfold dueAt
    rw [raw_dd h]
    have lc := lots_cons (deedW ws) (wss.map deedW)
    rw [List.map_cons, List.length_cons, lc]
    by_cases c1 : 20 ≤ i ∨ okW W ws = false
    · rw [if_pos c1]
      constructor
      · intro z
        cases z
      · rintro ⟨h1, h2, h3⟩
        rcases c1 with c1 | c1
        · omega
        · rw [h1 ws (List.mem_cons_self ..)] at c1
          cases c1
    · rw [if_neg c1]
      have ok : okW W ws = true := by
        cases e : okW W ws with
        | true => rfl
        | false => exact absurd (Or.inr e) c1
      have i20 : ¬ 20 ≤ i := fun z => c1 (.inl z)
      rw [raw_run h ok]
      by_cases c2 : 8 < r + (isRunV H v).toNat
      · rw [if_pos c2]
        constructor
        · intro z
          cases z
        · rintro ⟨h1, h2, h3⟩
          omega
      · rw [if_neg c2, due_raw t (by omega) (by omega)]
        constructor
        · rintro ⟨h1, h2, h3⟩
          refine ⟨fun u hu => ?_, by omega, by omega⟩
          rcases List.mem_cons.mp hu with rfl | hu
          · exact ok
          · exact h1 u hu
        · rintro ⟨h1, h2, h3⟩
          exact ⟨fun u hu => h1 u (List.mem_cons_of_mem _ hu), by omega, by omega⟩
/-- the lines of a text of a plan -/
def linesOf (z : Str) : List Str := if z.length = 0 then [] else Txt.split z nl
def wssOf (z : Str) : List (List Str) := (linesOf z).map wordsOf
/-- the deeds that a text tells, if it is the text of a plan -/
def planOf (W : Wd) (z : Str) : Option (List Deed) := if ((wssOf z).all (okW W) && (decide ((wssOf z).length ≤ 20) && decide ((lotsOf ((wssOf z).map deedW)).length ≤ 8))) = true then some ((wssOf z).map deedW) else none
theorem raw_deeds {W : Wd} {H : Hp} : ∀ {vs : List V} {wss : List (List Str)}, Paired (RawAt H) vs wss → (∀ ws ∈ wss, okW W ws = true) → Paired (DeedAt H) vs (wss.map deedW)
  | _, _, .nil, _ => .nil
  | _, _, .cons h t, ok => .cons (raw_deed h (ok _ (List.mem_cons_self ..))) (raw_deeds t fun u hu => ok u (List.mem_cons_of_mem _ hu))
theorem plan_some {W : Wd} {H : Hp} {z : Str} {t : Addr} {vs : List V} {ds : List Deed} (ht : H t = some (.tup vs)) (p : Paired (RawAt H) vs (wssOf z)) (h : planOf W z = some ds) : dueD H W (.ref t) = none ∧ Paired (DeedAt H) vs ds ∧ DsOk W ds := by
  unfold planOf at h
  split at h
  · rename_i c
    cases h
    simp only [Bool.and_eq_true, decide_eq_true_eq, List.all_eq_true] at c
    obtain ⟨c1, c2, c3⟩ := c
    refine ⟨?_, raw_deeds p c1, fun d hd => ?_, by rw [List.length_map]; exact c2, c3⟩
    · unfold dueD
      rw [tup_at ht]
      show (dueAt H W 0 0 vs).map _ = none
      rw [Option.map_eq_none_iff, due_raw p (by decide) (by decide)]
      exact ⟨c1, by omega, by omega⟩
    · obtain ⟨ws, hw, rfl⟩ := List.mem_map.mp hd
      exact okW_ok (c1 ws hw)
  · cases h
theorem plan_none {W : Wd} {H : Hp} {z : Str} {t : Addr} {vs : List V} (ht : H t = some (.tup vs)) (p : Paired (RawAt H) vs (wssOf z)) (h : planOf W z = none) : ∃ u, dueD H W (.ref t) = some u := by
  cases e : dueD H W (.ref t) with
  | some u => exact ⟨u, rfl⟩
  | none =>
    unfold dueD at e
    rw [tup_at ht] at e
    have e : (dueAt H W 0 0 vs).map (fun i => V.int (i : Nat)) = none := e
    rw [Option.map_eq_none_iff, due_raw p (by decide) (by decide)] at e
    obtain ⟨c1, c2, c3⟩ := e
    unfold planOf at h
    rw [if_pos (by simp only [Bool.and_eq_true, decide_eq_true_eq, List.all_eq_true]; exact ⟨c1, by omega, by omega⟩)] at h
    cases h
end LJ
set_option Elab.async false
set_option linter.all false
set_option maxRecDepth 100000
set_option maxHeartbeats 8000000
namespace LJ
open PySem PySem.Spec L2 PySem.ErrV
open LamX (ExtN)
open NdefX (NTab TabsN)
/-! Plan.__init__ over any known values. -/
def spPIV (K : PySem.W.Frag) (PC C cI cW : Addr) : Sp := fun vs H Q E => ∃ (y dy : Addr) (wv dv : V) (b : Bool), vs = [.ref y, wv, dv] ∧ H y = some (.ins PC dy []) ∧ IsW K C H wv b ∧ Deep K H 3 dv ∧
  (b = false → Raised cW "given" wv H E) ∧
  (b = true → ∃ (x : Addr) (W : Wd), wv = .ref x ∧ WkD C H x W ∧ GoodF W ∧ (∀ u, dueD H W dv = some u → Raised cI "index" u H E) ∧
    ∀ (td : Addr) (rs : List V) (ds : List Deed), dueD H W dv = none → dv = .ref td → H td = some (.tup rs) → Paired (DeedAt H) rs ds → DsOk W ds → ∀ H1, But y H H1 → PlanAt PC C H1 y x W td ds → Q .non H1)
section
variable {P : Program} {w : World} {K : PySem.W.Frag} {mg : Str → Option Value} {base : Heap} {C PC cI cW : Addr}
theorem ok_piV {f fW fD fL : Addr} {fd fdW fdD fdL : FuncData} (F : Fun K "__init__" "Plan.__init__" sPI f fd) (c : PCls K PC) (BT : mg "tuple" = none)
    (GW : FnOk P w K mg base (L2.CX P w) 2 fW fdW ["works"] (spCwV K C cW)) (mW : mg "check_works" = some (.ref fW)) (kW : PySem.W.keepIn K (.ref fW) = true) (bW : Binds K fdW ["works"] [])
    (GD : FnOk P w K mg base (L2.CX P w) 5 fD fdD ["works", "deeds"] (spCdV K C cI)) (mD : mg "_check_deeds" = some (.ref fD)) (kD : PySem.W.keepIn K (.ref fD) = true) (bD : Binds K fdD ["works", "deeds"] [])
    (GL : FnOk P w K mg base CX0 1 fL fdL ["deed"] spLn) (mL : mg "_line" = some (.ref fL)) (kL : PySem.W.keepIn K (.ref fL) = true) (bL : Binds K fdL ["deed"] []) :
    FnOk P w K mg base (L2.CX P w) 6 f fd ["self", "works", "deeds"] (spPIV K PC C cI cW) := by
  refine F.okX scPI (fun vs H Q E h => ?_) (fun cdv A outer s H vs Q E hr h => ?_)
  · obtain ⟨y, dy, wv, dv, b, rfl, _⟩ := h
    rfl
  · obtain ⟨y, dy, wv, dv, b, rfl, hy, iw, dd, badW, h⟩ := h
    have hr1 : Room 1 _ := hr.mono (by decide)
    have hr2 : Room 2 _ := hr.mono (by decide)
    refine ⟨_, pss_cons (ps_expr (pe_call GW hr2 (by rfl) mW kW bW .nil (passes_call (W := fun cls d _ H => E cls d H) (takes_of rfl rfl rfl rfl) (fun _ _ _ _ z => z)) (pa_cons (pv 1) pa_nil)))
      (pss_cons (ps_expr (pe_call GD hr (by rfl) mD kD bD .nil (passes_call (W := fun cls d _ H => E cls d H) (takes_of rfl rfl rfl rfl) (fun _ _ _ _ z => z)) (pa_cons (pv 1) (pa_cons (pv 2) pa_nil))))
      (pss_cons (ps_fld (pv 0) (pv 1) rfl)
      (pss_cons (ps_fld (pv 0) (pv 2) rfl)
      (pss_cons (ps_fld (pv 0) (pe_tupleOf (by rfl) BT (pe_lc (own := [("deed", 3)]) (g := gName 3) (te := teLot K) (by rfl) scPI.nd (pi_tup (pv 2)) (blkOk_by (own := [("deed", 3)]) (N := ["self", "works", "deeds", "deed"]) (sc := defScope sPI) (by decide +kernel)) (fun _ _ _ _ _ => pg_name (i := 3) scPI.nd rfl (Or.inl rfl))
          (fun _ _ _ _ _ => pts_one (pt_cmpR op_eq (pe_ix (show IxR _ (rIxT K) from ix_tup) (pv 3) pe_int (fun _ _ => rfl)) pe_str (nomark _))) (fun _ _ _ _ _ => pe_ix ix_tup (pv 3) pe_int (fun _ _ => rfl)))) rfl)
      (pss_one (ps_fld (pv 0) (pe_join pe_str (pe_lc (own := [("deed", 3)]) (g := gName 3) (te := tCall spLn [] E0 (tCons (tVar 3) tNil)) (by rfl) scPI.nd (pi_tup (pv 2)) (blkOk_by (own := [("deed", 3)]) (N := ["self", "works", "deeds", "deed"]) (sc := defScope sPI) (by decide +kernel)) (fun _ _ _ _ _ => pg_name (i := 3) scPI.nd rfl (Or.inl rfl))
          (fun _ _ _ _ _ => pts_nil) (fun _ _ _ _ _ => pe_call GL hr1 (by rfl) mL kL bL .nil pass0 (pa_cons (pv 3) pa_nil)))) rfl)))))), ?_⟩
    have sz := sizeLine_eq
    refine ⟨_, rfl, wv, b, rfl, iw, fun hb => ?_, fun hb => badW hb⟩
    obtain ⟨x, W, rfl, wk, g, badD, q0⟩ := h hb
    refine ⟨_, rfl, _, rfl, x, dv, W, rfl, wk, g, dd, fun hd => ?_, fun u hu => badD u hu⟩
    obtain ⟨td, rs, ds, rfl, ht, pr, ok⟩ := due_good hd
    have q := q0 td rs ds hd rfl ht pr ok
    intro H1 x1
    have lr : rs.length = ds.length := Paired.size pr
    have l20 := ok.len
    have ne : ∃ dx f0 fs, H x = some (.ins C dx (f0 :: fs)) := by
      obtain ⟨am, ac, as, ap, ⟨dx, D1, D2, D3, D4, b1, b2, v4, hx, _⟩, _⟩ := wk
      exact ⟨dx, _, _, hx⟩
    obtain ⟨dx, f0, fs, hx⟩ := ne
    have nyx : y ≠ x := fun z => by
      rw [z, hx] at hy
      cases hy
    have hy1 := x1 _ _ hy
    refine ⟨_, rfl, _, rfl, y, PC, dy, _, rfl, hy1, c.cl, c.n1, (by decide : (0 : Nat) < 1000), ?_⟩
    refine ⟨_, rfl, _, rfl, y, PC, dy, _, rfl, upd_same, c.cl, c.n2, (by decide : (1 : Nat) < 1000), ?_⟩
    rw [upd_upd]
    show tSeq _ _ _ _ (upd H1 y (.ins PC dy [("_works", .ref x), ("_deeds", .ref td)]))
    have B2 : But y H1 (upd H1 y (.ins PC dy [("_works", .ref x), ("_deeds", .ref td)])) := But.self
    have X2 : (upd H1 y (.ins PC dy [("_works", .ref x), ("_deeds", .ref td)])) y = some (.ins PC dy [("_works", .ref x), ("_deeds", .ref td)]) := upd_same
    generalize upd H1 y (.ins PC dy [("_works", .ref x), ("_deeds", .ref td)]) = H2 at B2 X2 ⊢
    have B02 : But y H H2 := (But.ex x1).trans B2
    have t2 := But.tup hy B02
    have pr2 := deeds_tup t2 pr
    have ht2 := t2 _ _ ht
    refine ⟨_, rfl, td, rfl, ⟨_, SqT.of ht2⟩, fun D hD => lc_tup (K := K) (a := td) (xs := rs) (fun i G => Ex H2 G ∧ G D = some (.lst ((lotsOf (ds.take i)).map V.str))) ⟨Ex.refl.new hD, upd_same⟩ (fun i G _ h => SqT.of (h.1 _ _ ht2)) ?_ ?_⟩
    · rintro i v G hv ⟨xG, eG⟩
      obtain ⟨d, hd, dd⟩ := Paired.spot pr2 hv
      have dG := dd.tup (Ex.tup xG)
      have e1 := lots_take hd
      have ll : (lotsOf (ds.take i)).length ≤ 8 := Nat.le_trans (lots_le ds i) ok.lots
      refine ⟨rfl, ?_⟩
      cases d with
      | run p ms =>
        obtain ⟨a, t, rfl, h1, h2⟩ := dG
        refine ⟨_, rfl, a, _, _, _, rfl, rfl, SqT.of h1, atI_nat (j := 0) rfl, rfl, _, rfl, ?_⟩
        refine ite2 (fun _ => ?_) (fun z => absurd (decide_eq_true rfl) z)
        refine ⟨_, rfl, a, _, _, _, rfl, rfl, SqT.of h1, atI_nat (j := 1) rfl, _, eG, by rw [List.length_map]; omega, xG.put hD, ?_⟩
        rw [upd_same, e1, List.map_append]
        rfl
      | clean m cl =>
        obtain ⟨a, rfl, h1⟩ := dG
        refine ⟨_, rfl, a, _, _, _, rfl, rfl, SqT.of h1, atI_nat (j := 0) rfl, rfl, _, rfl, ?_⟩
        refine ite2 (fun z => absurd z (by decide +kernel)) (fun _ => ?_)
        refine ⟨xG, ?_⟩
        rw [eG, e1]
        rw [show (Deed.clean m cl).lot.toList = [] from rfl, List.append_nil]
    · rintro G ⟨xG, eG⟩
      rw [lr, List.take_of_length_le (Nat.le_refl _)] at eG
      refine .inl ⟨D, _, rfl, SqL.of eG, fun tl ntl => ?_⟩
      have x3 : Ex H2 (upd G tl (.tup ((lotsOf ds).map V.str))) := xG.new ntl
      have e3 : (upd G tl (.tup ((lotsOf ds).map V.str))) tl = some (.tup ((lotsOf ds).map V.str)) := upd_same
      generalize upd G tl (.tup ((lotsOf ds).map V.str)) = H3 at x3 e3 ⊢
      refine ⟨_, rfl, y, PC, dy, _, rfl, x3 _ _ X2, c.cl, c.n3, (by decide : (2 : Nat) < 1000), ?_⟩
      have B4 : But y H3 (upd H3 y (.ins PC dy [("_works", .ref x), ("_deeds", .ref td), ("_lots", .ref tl)])) := But.self
      have X4 : (upd H3 y (.ins PC dy [("_works", .ref x), ("_deeds", .ref td), ("_lots", .ref tl)])) y = some (.ins PC dy [("_works", .ref x), ("_deeds", .ref td), ("_lots", .ref tl)]) := upd_same
      show tSeq _ _ _ _ (upd H3 y (.ins PC dy [("_works", .ref x), ("_deeds", .ref td), ("_lots", .ref tl)]))
      generalize upd H3 y (.ins PC dy [("_works", .ref x), ("_deeds", .ref td), ("_lots", .ref tl)]) = H4 at B4 X4 ⊢
      have hy3 := x3 _ _ X2
      have B04 : But y H H4 := (B02.trans (But.ex x3)).trans B4
      have t4 := But.tup hy B04
      have pr4 := deeds_tup t4 pr
      have ht4 := t4 _ _ ht
      have htl := (But.tup hy3 B4) _ _ e3
      refine ⟨⟨_, rfl⟩, _, rfl, td, rfl, ⟨_, SqT.of ht4⟩, fun D2 hD2 => lc_tup (K := K) (a := td) (xs := rs) (fun i G => Ex H4 G ∧ G D2 = some (.lst (((ds.take i).map dline).map V.str))) ⟨Ex.refl.new hD2, upd_same⟩ (fun i G _ h => SqT.of (h.1 _ _ ht4)) ?_ ?_⟩
      · rintro i v G hv ⟨xG, eG⟩
        obtain ⟨d, hd, dd⟩ := Paired.spot pr4 hv
        refine ⟨rfl, _, rfl, v, W, d, rfl, g, dd.tup (Ex.tup xG), ok.all d (List.mem_of_getElem? hd), fun G2 x2 => ⟨_, x2 _ _ eG, ?_, (xG.trans x2).put hD2, ?_⟩⟩
        · rw [List.length_map, List.length_map, List.length_take]
          omega
        · rw [upd_same, List.take_succ, hd, List.map_append, List.map_append]
          rfl
      · rintro G ⟨xG, eG⟩
        rw [lr, List.take_of_length_le (Nat.le_refl _)] at eG
        have pl := ptext_len g ok
        refine ⟨nl, D2, ds.map dline, rfl, rfl, .inl (SqL.of eG), by omega, ?_⟩
        refine ⟨_, rfl, y, PC, dy, _, rfl, xG _ _ X4, c.cl, c.n4, (by decide : (3 : Nat) < 1000), ?_⟩
        have B5 : But y G (upd G y (.ins PC dy [("_works", .ref x), ("_deeds", .ref td), ("_lots", .ref tl), ("_text", .str (ptext ds))])) := But.self
        have X5 : (upd G y (.ins PC dy [("_works", .ref x), ("_deeds", .ref td), ("_lots", .ref tl), ("_text", .str (ptext ds))])) y = some (.ins PC dy [("_works", .ref x), ("_deeds", .ref td), ("_lots", .ref tl), ("_text", .str (ptext ds))]) := upd_same
        have B06 : But y H _ := (B04.trans (But.ex xG)).trans B5
        have t6 := But.tup hy B06
        exact q _ B06 ⟨WkD.but hy nyx B06 wk, dy, tl, rs, X5, t6 _ _ ht, deeds_tup t6 pr, (But.tup (xG _ _ X4) B5) _ _ (xG _ _ htl)⟩
end
end LJ
set_option Elab.async false
set_option linter.all false
set_option maxRecDepth 100000
set_option maxHeartbeats 4000000
/-! Own errors whose context is told: none. Raised, also in an except suite from None. -/
namespace L2
open PySem PySem.Spec PyProof.Rows PySem.ErrV
section
variable {X : Cx} {C fI : Addr} {x f : Str} {B nw ini : String} {bmB : List Value} {a : Expr} {p pos : Pos} {ta : TA}
theorem pmk5_err (hf : f = "given" ∨ f = "index") (T : ErrC X.K X.mg x f C fI nw bmB) (Bo : BaseOk B nw ini bmB) (exC : PySem.W.subIn X.K (.ref C) (.type "BaseException") = some true) (tyC : PySem.W.typeIn X.K (.ref C) = some (.type "type"))
    (hr : X.A.depth + 3 * 1 + 5 < recursionLimit) (ha : PA X [a] ta) (hg : Gl X x) (hdb : (x == ("__debug__" : Str)) = false := by decide)
    (he : starEach (a :: []) X.env = (false, eval a X.env) :: starEach [] X.env := by rfl) (hpl : (backTo pos (starEach [] X.env)).any (·.1) = false := by rfl) :
    L2H.PMk5 X (.Call (.Name x p) [a] [] pos) (tMkE C f ta) := by
  intro pins s σ H Q I h
  refine wpAny_Call_Name_kw (ld_glob I hg T.gC ?_ hdb)
  refine PySem.W.callWith_K (h₀ := X.base) I.ok.mod.kin T.kC (thn (ha.run pos pins s σ H _ I h) fun us s1 hh => ?_) he hpl
  obtain ⟨vs, H1, I1, r1, v, ev, q1⟩ := hh
  subst ev
  refine ⟨I1.kIn, ?_⟩
  cases r1 with
  | cons rv rn =>
    rename_i u us
    cases rn
    show wpAny _ _ (call (.ref C) [u]) _ _ _
    have lim := I1.nolimit
    obtain ⟨hp, g, dr, tk, os⟩ := s1
    refine wpAny_call (err_made hf T Bo (v := u) (.inl ⟨rfl, rfl⟩) I1.kIn lim (by omega) fun h1 tk1 e d M => ?_)
    show L2N.MkP X pins σ Q (.ref e) ⟨h1, g, dr, tk1, os⟩ ∧ _
    obtain ⟨uo, hoe⟩ := M.obj
    have hns := M.ns
    obtain ⟨G1, g1, g2⟩ := restrict h1 fun b => decide (b ≠ e)
    have gk : ∀ b, b ≠ e → G1.get? b = h1.get? b := fun b hb => g1 b (decide_eq_true hb)
    have ge : G1.get? e = none := g2 e (by simp)
    have old : ∀ b o, hp.get? b = some o → G1.get? b = some o := fun b o q => (gk b (Nat.ne_of_lt (Nat.lt_of_lt_of_le (Heap.lt_size q) M.big))).trans (M.keep b o q)
    have ob : ObjOk X.prog X.w (upd H1 d (.xd [(f, v)])) G1 d (.xd [(f, v)]) :=
      ⟨_, hns.at (fun o q => (gk d M.ne).trans q), relO_put (fs := []) rv fun g => True.intro⟩
    have J : Inv X pins σ (upd H1 d (.xd [(f, v)])) ⟨G1, g, dr, tk1, os⟩ := I1.laid (t' := tk1) old M.dbig ob
    refine ⟨⟨e, _, _, ⟨G1, g, dr, tk1, os⟩, _, .ref C, some d, rfl, J, fun b o q => ?_, ge, hoe, ⟨rfl, rfl, fun vs hv => by cases hv; rfl⟩, rfl, rfl, ?_, rfl, I1.bare, raises_own exC tyC, q1 d (I1.hok.fresh M.dbig)⟩, fun a2 oe2 vs2 e1 e2 e3 => ?_⟩
    · by_cases hb : b = e
      · have q2 : G1.get? b = some o := q
        rw [hb, ge] at q2
        cases q2
      · exact (gk b hb).symm.trans q
    · rw [upd_ne (Ne.symm M.ne)]
      exact I1.hok.fresh M.big
    · cases e1
      have e2 : h1.get? e = some oe2 := e2
      rw [hoe] at e2
      cases e2
      cases e3
      show 4 < 6
      decide
theorem ps_raiseEN {W : WX} {pos2 : Pos} (hc : X.calm = true) (hf : f = "given" ∨ f = "index") (T : ErrC X.K X.mg x f C fI nw bmB) (Bo : BaseOk B nw ini bmB) (exC : PySem.W.subIn X.K (.ref C) (.type "BaseException") = some true) (tyC : PySem.W.typeIn X.K (.ref C) = some (.type "type"))
    (hr : Room 1 X.A) (tk : L2N.Takes X W) (ha : PA X [a] ta) (hg : Gl X x) (hdb : (x == ("__debug__" : Str)) = false := by decide)
    (he : starEach (a :: []) X.env = (false, eval a X.env) :: starEach [] X.env := by rfl) (hpl : (backTo pos (starEach [] X.env)).any (·.1) = false := by rfl) :
    PS X (.Raise (some (.Call (.Name x p) [a] [] pos)) none pos2) (fun _ σ H => tMkE C f ta σ H fun cls d H1 => W cls d σ H1) := L2N.ps_raise hc tk (pmk5_err hf T Bo exC tyC (by have := hr.dp; omega) ha hg hdb he hpl).pmk
end
theorem Fun.okC {CX : CXT} {P : Program} {w : World} {K : PySem.W.Frag} {mg : Str → Option Value} {base : Heap} {x qual : Str} {st : Stmt} {f : Addr} {fd : FuncData} {N ps : List Str} {k : Nat} {sp : Sp} (F : Fun K x qual st f fd) (S : FnScope N ps (defScope st)) (len : ∀ vs H Q E, sp vs H Q E → vs.length = ps.length)
    (hb : ∀ (cdv : Value) (A : Around) (outer : List Env) (s : Shared) (H : Hp) (vs : List V) (Q : VK) (E : XK), Room k (A.deeper (envOfC qual (defScope st) s.heap.objs.size f cdv)) → sp vs H Q E →
      ∃ t, PSs (cxOf CX P w K mg base N qual (defScope st) f cdv A outer s H E) (defBody st) t ∧ t { nx := fun _ H' => Q V.non H', rt := Q } (L2.start N vs) H) : FnOk P w K mg base CX (k + 1) f fd ps sp := by
  obtain ⟨oc, od, kV, doc, pm, an, cdv, ct, osl, rfl, lk, hcd⟩ := F.ex
  exact fn_of lk hcd S len fun A outer s H vs Q E hr h => hb cdv A outer s H vs Q E hr h
section
variable {X : Cx} {CX : CXT} {k : Nat} {f C : Addr} {fd : FuncData} {ps : List Str} {sp : Sp} {E : St → XK} {x : Str} {p pos : Pos} {e : PySem.Expr} {es : List PySem.Expr} {t : TA}
/-- C(..) whose error is passed on with what the slots hold -/
def tMakeS (C : Addr) (sp : Sp) (E : St → XK) (t : TA) : TE := fun σ H Q => t σ H fun vs H1 => ∀ (x dx : Addr), H1 x = none → H1 dx = none → dx ≠ x → sp (V.ref x :: vs) (upd (upd H1 dx (.own x)) x (.ins C dx [])) (fun v H2 => v = V.non ∧ Q (V.ref x) H2) (E σ)
theorem run_makeS {pins : List (Addr × Obj)} {σ : St} {H : Hp} {s : Shared} {Q : VK} {us : List Value} {vs : List V} {E : XK} (M : Mk X.K C f) (F : FnOk X.prog X.w X.K X.mg X.base CX k f fd ps sp) (hr : Room (k + 1) X.A) (hb : Binds X.K fd ps []) (hx : PassesAt CX X σ E) (I : Inv X pins σ H s) (r : Vals vs us)
    (h : ∀ (x dx : Addr), H x = none → H dx = none → dx ≠ x → sp (V.ref x :: vs) (upd (upd H dx (.own x)) x (.ins C dx [])) (fun v H2 => v = V.non ∧ Q (V.ref x) H2) E) : wpAny (model X.prog X.w) X.A (call (.ref C) us) (EP X pins σ Q) X.xe s := by
  have hq := h (s.heap.objs.size + 1) s.heap.objs.size (HOk.fresh I.hok (Nat.le_succ _)) (HOk.fresh I.hok (Nat.le_refl _)) (Nat.ne_of_lt (Nat.lt_succ_self _))
  have I2 := Inv.made (C := C) I
  have r2 : Vals (V.ref (s.heap.objs.size + 1) :: vs) (Value.ref (s.heap.objs.size + 1) :: us) := .cons rfl r
  have hl : (Value.ref (s.heap.objs.size + 1) :: us).length = ps.length := by
    rw [← F.len _ _ _ _ hq]
    exact (Vals.length r2).symm
  have hb2 := hb { s with heap := (s.heap.push PySem.W.emptyDict).push (PySem.W.instObj C s.heap.objs.size) } (Value.ref (s.heap.objs.size + 1) :: us) I2.kIn (by rw [List.append_nil]; exact hl)
  rw [List.append_nil] at hb2
  refine wpAny_call (make_map I.kIn M.makes M.init (beq_iff_eq.mp M.fn) (codeAny_mono (F.run (X.A.under (.builtin "type.__call__" { pos := .ref C :: us })) X.stack _ _ { pos := .ref (s.heap.objs.size + 1) :: us } (.ref (s.heap.objs.size + 1) :: us) (.ref (s.heap.objs.size + 1) :: vs) _ E (Room.make hr C us []) (Env0.make I2.env0 C us []) hb2 r2 hq) fun r s' hq' => ?_))
  cases r with
  | error e => exact hx pins _ _ e s' I2 hq'
  | ok fl =>
    cases fl with
    | ret u =>
      obtain ⟨v, H', I3, rv, ev, q3⟩ := I2.after hq'
      subst ev
      have eu : u = .none := rv
      subst eu
      exact ⟨rfl, .ref _, H', I3, rfl, q3⟩
    | next => exact False.elim hq'
    | brk => exact False.elim hq'
    | cont => exact False.elim hq'
theorem pe_makeS (M : Mk X.K C f) (F : FnOk X.prog X.w X.K X.mg X.base CX k f fd ps sp) (hr : Room (k + 1) X.A) (hg : Gl X x) (hm : X.mg x = some (.ref C)) (hb : Binds X.K fd ps []) (hx : ∀ σ, PassesAt CX X σ (E σ)) (ha : PA X (e :: es) t) (hdb : (x == ("__debug__" : Str)) = false := by decide)
    (he : starEach (e :: es) X.env = (false, eval e X.env) :: starEach es X.env := by rfl) (hpl : (backTo pos (starEach es X.env)).any (·.1) = false := by rfl) : PE X (.Call (.Name x p) (e :: es) [] pos) (tMakeS C sp E t) :=
  ⟨fun pins s σ H Q I h => wpAny_Call_Name_kw (ld_glob I hg hm (PySem.W.callWith_K I.ok.mod.kin M.kp (thn (ha.run pos pins s σ H _ I h) fun us s1 z => by
    obtain ⟨vs, H1, I1, r, q⟩ := z
    exact ⟨I1.kIn, run_makeS M F hr hb (hx σ) I1 r q⟩) he hpl) hdb)⟩
/-- an error is passed on with what the slots hold -/
theorem passesAtN {W : WX} {E : St → XK} (tk : L2N.Takes X W) (i : ∀ σ cls d H, E σ cls d H → W cls d σ H) : ∀ σ, PassesAt (L2N.CX X.prog X.w) X σ (E σ) := fun σ pins H s e s' I h => by
  exact tk e s' (L2N.XE.of_call I (fun cls d H' hh => i σ cls d H' hh) h)
end
end L2
set_option Elab.async false
set_option linter.all false
set_option maxRecDepth 100000
set_option maxHeartbeats 8000000
namespace LJ
open PySem PySem.Spec L2 PySem.ErrV
open LamX (ExtN)
open NdefX (NTab TabsN)
section
variable {P : Program} {w : World} {K : PySem.W.Frag} {mg : Str → Option Value} {base : Heap} {C PC cI cW : Addr}
theorem ok_cdN {f fD : Addr} {fd fdD : FuncData} {u1 u2 : Value} (F : Fun K "_check_deeds" "_check_deeds" sCd f fd) (B : BltI mg) (e0 : Er1 K mg "InvalidDeeds" "index" ce) (m1 : mg "MOST_DEEDS" = some u1) (r1 : RelV (.int 20) u1) (m2 : mg "MOST_LOTS" = some u2) (r2 : RelV (.int 8) u2)
    (GD : FnOk P w K mg base CX0 4 fD fdD ["works", "deed"] (spIdV K C)) (mD : mg "_is_deed" = some (.ref fD)) (kD : PySem.W.keepIn K (.ref fD) = true) (bD : Binds K fdD ["works", "deed"] []) :
    FnOk P w K mg base (L2N.CX P w) 5 f fd ["works", "deeds"] (spCdV K C ce) := by
  refine F.okC scCd (fun vs H Q E h => ?_) (fun cdv A outer s H vs Q E hr h => ?_)
  · obtain ⟨x, v, W, rfl, _⟩ := h
    rfl
  · obtain ⟨x, v, W, rfl, wk, g, dv, good, bad⟩ := h
    obtain ⟨f0, b0, T0, B0⟩ := e0.c
    have hr1 : Room 1 _ := hr.mono (by decide)
    refine ⟨_, pss_cons (ps_if (pt_not (pt_truth (pe_callB call_isi (by rfl) B.isinstance (by decide +kernel) (pa_cons (pv 1) (pa_cons (pe_bltn (by rfl) B.tuple (by decide +kernel) (v := .ty "tuple") rfl) pa_nil))) (fun _ => rfl))) (pss_one (ps_raiseEN rfl (.inr rfl) T0 B0 e0.exC e0.tyC hr1 (L2N.takes_of rfl rfl rfl rfl) (pa_cons pe_non pa_nil) (by rfl))) pss_nil)
      (pss_cons (ps_set (i := 2) scCd.nd rfl (Or.inl rfl) pe_int)
      (pss_one (ps_for PassesOwn.leaving rfl (EnT.pi_enT (by rfl) B.enumerate (pa_cons (pv 1) pa_nil)) (pg_tup (by rfl) (pgs_cons (pg_name (i := 3) scCd.nd rfl (Or.inl rfl)) (pgs_cons (pg_name (i := 4) scCd.nd rfl (Or.inl rfl)) pgs_nil)))
        (pss_cons (ps_if (PW.pt (pw_or (pt_cmpR op_eq (pv 3) (pe_glob (by rfl) m1 r1) (nomark _)) (pw_or1 (pt_not (pt_val (pe_call GD hr (by rfl) mD kD bD .nil pass0 (pa_cons (pv 0) (pa_cons (pv 4) pa_nil)))))))) (pss_one (ps_raiseEN rfl (.inr rfl) T0 B0 e0.exC e0.tyC hr1 (L2N.takes_of rfl rfl rfl rfl) (pa_cons (pv 3) pa_nil) (by rfl))) pss_nil)
        (pss_cons (ps_if (pt_cmpR op_eq (pe_ix ix_tup (pv 4) pe_int (fun _ _ => rfl)) pe_str (nomark _)) (pss_one (ps_aug (i := 2) scCd.nd rfl (Or.inl rfl) pe_int ip_add)) pss_nil)
        (pss_one (ps_if (pt_cmpR op_gt (pv 2) (pe_glob (by rfl) m2 r2) (nomark _)) (pss_one (ps_raiseEN rfl (.inr rfl) T0 B0 e0.exC e0.tyC hr1 (L2N.takes_of rfl rfl rfl rfl) (pa_cons (pv 3) pa_nil) (by rfl))) pss_nil))))))), ?_⟩
    have sz := sizeLine_eq
    obtain ⟨t1, b, ty, e, hb⟩ := dv.1.atTup
    refine ⟨_, rfl, _, _, t1, _, b, rfl, .ty "tuple", ty, e, b, rfl, ?_⟩
    rcases hb with ⟨rfl, t, xs, rfl, ht, tx⟩ | ⟨rfl, tx⟩
    case inr =>
      refine ite2 (fun _ => ?_) (fun z => absurd rfl z)
      exact ⟨_, rfl, fun d nd => bad .non (by unfold dueD; rw [tx]) _ d (Ex.refl.new nd) upd_same⟩
    have eD : dueD H W (.ref t) = (dueAt H W 0 0 xs).map fun i => V.int (i : Nat) := by
      unfold dueD
      rw [tx]
    have dx1 := dv.2 xs tx
    refine ite2 (fun z => by cases z) (fun _ => ?_)
    refine rd_nextU ?_
    try dsimp only
    refine ⟨_, rfl, t, _, rfl, SqT.of ht, for_it walk_en (fun n σ G => (∃ (r : Nat) (v3 v4 : Option V), σ = [some (.ref x), some (.ref t), some (.int (r : Nat)), v3, v4] ∧ n ≤ 20 ∧ dueAt H W 0 0 xs = dueAt H W n r (xs.drop n)) ∧ Ex H G) ⟨⟨0, _, _, rfl, by decide, rfl⟩, Ex.refl⟩ (fun n σ G _ h => SqT.of (h.2 _ _ ht)) ?_ ?_⟩
    · rintro i v σ G G1 hi ⟨⟨r, v3, v4, rfl, i20, dd⟩, xG⟩ ⟨T, y1, y2, rfl, nT, rfl, h1, h2⟩
      cases h1
      have h2 : xs[i]? = some y2 := h2
      have mm := List.mem_of_getElem? h2
      have li : i < xs.length := (List.getElem?_eq_some_iff.mp h2).1
      have ed : xs.drop i = y2 :: xs.drop (i + 1) := by
        rw [List.drop_eq_getElem_cons li]
        rw [List.getElem?_eq_getElem li] at h2
        rw [Option.some.inj h2]
      rw [ed] at dd
      have xT : Ex H (upd G T (.tup [.int (i : Nat), y2])) := xG.new nT
      have eT : (upd G T (.tup [.int (i : Nat), y2])) T = some (.tup [.int (i : Nat), y2]) := upd_same
      generalize upd G T (.tup [.int (i : Nat), y2]) = G1 at xT eT ⊢
      refine ⟨T, _, rfl, SqT.of eT, rfl, _, _, rfl, _, _, rfl, rfl, ?_⟩
      try dsimp only
      have raise : dueAt H W i r (y2 :: xs.drop (i + 1)) = some i → ∀ G2 d, Ex H G2 → G2 d = none → E (.ref ce) (some d) (upd G2 d (.xd [(("index" : Str), .int (i : Nat))])) := fun z G2 d x2 nd => bad _ (by rw [eD, dd, z]; rfl) _ d (x2.new nd) upd_same
      refine rd_seqU (rd_ifU ?_)
      refine ⟨_, rfl, rfl, _, rfl, ?_⟩
      have here : 20 ≤ i ∨ isDd H W y2 = false → dueAt H W i r (y2 :: xs.drop (i + 1)) = some i := fun c => by
        show (if 20 ≤ i ∨ isDd H W y2 = false then some i else _) = _
        rw [if_pos c]
      refine ite2 (fun c1 => ?_) (fun c1 => ?_)
      · have c2 : 20 ≤ i := by
          have := V.int.inj (of_decide_eq_true c1)
          omega
        exact ⟨_, rfl, _, rfl, fun d nd => raise (here (.inl c2)) G1 d xT nd⟩
      · have i19 : ¬ 20 ≤ i := fun z => c1 (decide_eq_true (congrArg V.int (by omega)))
        have d2 := dx1 y2 mm
        refine ⟨_, rfl, _, rfl, x, y2, W, rfl, wk.ex xT, g, d2.ex xT, fun G2 x2 => ⟨_, rfl, ?_⟩⟩
        have x2' := xT.trans x2
        rw [(d2.dd xT).1]
        cases is1 : isDd H W y2 with
        | false =>
          refine ite2 (fun _ => ?_) (fun z => absurd rfl z)
          exact ⟨_, rfl, _, rfl, fun d nd => raise (here (.inr is1)) G2 d x2' nd⟩
        | true =>
          refine ite2 (fun z => by cases z) (fun _ => ?_)
          refine rd_nextU ?_
          try dsimp only
          obtain ⟨a, z0, y4, y5, rfl, ha, er⟩ := isDd_head is1
          refine rd_seqU (rd_ifU ?_)
          refine ⟨_, rfl, a, _, _, _, rfl, rfl, SqT.of (x2' _ _ ha), atI_nat (j := 0) rfl, rfl, _, rfl, ?_⟩
          have step : dueAt H W i r (V.ref a :: xs.drop (i + 1)) = if 8 < r + (isRunV H (.ref a)).toNat then some i else dueAt H W (i + 1) (r + (isRunV H (.ref a)).toNat) (xs.drop (i + 1)) := by
            show (if 20 ≤ i ∨ isDd H W (.ref a) = false then some i else _) = _
            rw [if_neg]
            rintro (z | z)
            · exact i19 z
            · rw [is1] at z
              cases z
          have fin_ : ∀ (n : Nat), n = r + (isRunV H (.ref a)).toNat → 8 < n → ∀ d, G2 d = none → E (.ref ce) (some d) (upd G2 d (.xd [(("index" : Str), .int (i : Nat))])) := fun n hn h8 d nd => raise (by rw [step, if_pos (by omega)]) G2 d x2' nd
          have on : ∀ (n : Nat), n = r + (isRunV H (.ref a)).toNat → ¬ 8 < n → dueAt H W 0 0 xs = dueAt H W (i + 1) n (xs.drop (i + 1)) := fun n hn h8 => by
            rw [dd, step, if_neg (by omega), hn]
          refine ite2 (fun c3 => ?_) (fun c3 => ?_)
          · have e2 : r + 1 = r + (isRunV H (.ref a)).toNat := by
              rw [er, c3]
              rfl
            refine ⟨_, rfl, _, _, rfl, rfl, ?_⟩
            try dsimp only
            refine rd_ifU ⟨_, rfl, _, _, rfl, rfl, _, rfl, ?_⟩
            refine ite2 (fun z => ?_) (fun z => ?_)
            · exact ⟨_, rfl, _, rfl, fun d nd => fin_ (r + 1) e2 (by have := of_decide_eq_true z; omega) d nd⟩
            · exact ⟨⟨r + 1, _, _, rfl, by omega, on (r + 1) e2 fun h8 => z (decide_eq_true (by omega))⟩, x2'⟩
          · have e2 : r = r + (isRunV H (.ref a)).toNat := by
              rw [er, Bool.eq_false_iff.mpr c3]
              rfl
            refine rd_nextU ?_
            try dsimp only
            refine rd_ifU ⟨_, rfl, _, _, rfl, rfl, _, rfl, ?_⟩
            refine ite2 (fun z => ?_) (fun z => ?_)
            · exact ⟨_, rfl, _, rfl, fun d nd => fin_ r e2 (by have := of_decide_eq_true z; omega) d nd⟩
            · exact ⟨⟨r, _, _, rfl, by omega, on r e2 fun h8 => z (decide_eq_true (by omega))⟩, x2'⟩
    · rintro σ G ⟨⟨r, v3, v4, rfl, _, dd⟩, xG⟩
      rw [List.drop_of_length_le (Nat.le_refl _)] at dd
      refine good ?_ G xG
      rw [eD, dd]
      rfl
theorem ok_cwN {f : Addr} {fd : FuncData} (F : Fun K "check_works" "check_works" sCw f fd) (B : BltI mg) (mW : mg "Works" = some (.ref C)) (e0 : Er1 K mg "NotWorks" "given" cW) : FnOk P w K mg base (L2N.CX P w) 2 f fd ["works"] (spCwV K C cW) := by
  refine F.okC scCw (fun vs H Q E h => ?_) (fun cdv A outer s H vs Q E hr h => ?_)
  · obtain ⟨v, b, rfl, _⟩ := h
    rfl
  · obtain ⟨v, b, rfl, ⟨t, ty, hk⟩, good, bad⟩ := h
    obtain ⟨f0, b0, T0, B0⟩ := e0.c
    refine ⟨_, pss_one (ps_if (pt_not (pt_truth (pe_callB call_isi (by rfl) B.isinstance (by decide +kernel) (pa_cons (pv 0) (pa_cons (pe_glob (v := .ref C) (by rfl) mW rfl) pa_nil))) (fun _ => rfl))) (pss_one (ps_raiseEN rfl (.inl rfl) T0 B0 e0.exC e0.tyC hr (L2N.takes_of rfl rfl rfl rfl) (pa_cons (pv 0) pa_nil) (by rfl))) pss_nil), ?_⟩
    refine ⟨_, rfl, _, _, t, _, b, rfl, .own C, ty H (ExtN.refl _), hk, b, rfl, ?_⟩
    cases b with
    | true => exact ite2 (fun z => by cases z) (fun _ => good rfl)
    | false =>
      refine ite2 (fun _ => ?_) (fun z => absurd rfl z)
      exact ⟨_, rfl, _, rfl, fun d nd => bad rfl _ d (Ex.refl.new nd) upd_same⟩
theorem ok_piN {f fW fD fL : Addr} {fd fdW fdD fdL : FuncData} (F : Fun K "__init__" "Plan.__init__" sPI f fd) (c : PCls K PC) (BT : mg "tuple" = none)
    (GW : FnOk P w K mg base (L2N.CX P w) 2 fW fdW ["works"] (spCwV K C cW)) (mW : mg "check_works" = some (.ref fW)) (kW : PySem.W.keepIn K (.ref fW) = true) (bW : Binds K fdW ["works"] [])
    (GD : FnOk P w K mg base (L2N.CX P w) 5 fD fdD ["works", "deeds"] (spCdV K C cI)) (mD : mg "_check_deeds" = some (.ref fD)) (kD : PySem.W.keepIn K (.ref fD) = true) (bD : Binds K fdD ["works", "deeds"] [])
    (GL : FnOk P w K mg base CX0 1 fL fdL ["deed"] spLn) (mL : mg "_line" = some (.ref fL)) (kL : PySem.W.keepIn K (.ref fL) = true) (bL : Binds K fdL ["deed"] []) :
    FnOk P w K mg base (L2N.CX P w) 6 f fd ["self", "works", "deeds"] (spPIV K PC C cI cW) := by
  refine F.okC scPI (fun vs H Q E h => ?_) (fun cdv A outer s H vs Q E hr h => ?_)
  · obtain ⟨y, dy, wv, dv, b, rfl, _⟩ := h
    rfl
  · obtain ⟨y, dy, wv, dv, b, rfl, hy, iw, dd, badW, h⟩ := h
    have hr1 : Room 1 _ := hr.mono (by decide)
    have hr2 : Room 2 _ := hr.mono (by decide)
    refine ⟨_, pss_cons (ps_expr (pe_call GW hr2 (by rfl) mW kW bW .nil (L2N.passes_call (W := fun cls d _ H => E cls d H) (L2N.takes_of rfl rfl rfl rfl) (fun _ _ _ _ z => z)) (pa_cons (pv 1) pa_nil)))
      (pss_cons (ps_expr (pe_call GD hr (by rfl) mD kD bD .nil (L2N.passes_call (W := fun cls d _ H => E cls d H) (L2N.takes_of rfl rfl rfl rfl) (fun _ _ _ _ z => z)) (pa_cons (pv 1) (pa_cons (pv 2) pa_nil))))
      (pss_cons (ps_fld (pv 0) (pv 1) rfl)
      (pss_cons (ps_fld (pv 0) (pv 2) rfl)
      (pss_cons (ps_fld (pv 0) (pe_tupleOf (by rfl) BT (pe_lc (own := [("deed", 3)]) (g := gName 3) (te := teLot K) (by rfl) scPI.nd (pi_tup (pv 2)) (blkOk_by (own := [("deed", 3)]) (N := ["self", "works", "deeds", "deed"]) (sc := defScope sPI) (by decide +kernel)) (fun _ _ _ _ _ => pg_name (i := 3) scPI.nd rfl (Or.inl rfl))
          (fun _ _ _ _ _ => pts_one (pt_cmpR op_eq (pe_ix (show IxR _ (rIxT K) from ix_tup) (pv 3) pe_int (fun _ _ => rfl)) pe_str (nomark _))) (fun _ _ _ _ _ => pe_ix ix_tup (pv 3) pe_int (fun _ _ => rfl)))) rfl)
      (pss_one (ps_fld (pv 0) (pe_join pe_str (pe_lc (own := [("deed", 3)]) (g := gName 3) (te := tCall spLn [] E0 (tCons (tVar 3) tNil)) (by rfl) scPI.nd (pi_tup (pv 2)) (blkOk_by (own := [("deed", 3)]) (N := ["self", "works", "deeds", "deed"]) (sc := defScope sPI) (by decide +kernel)) (fun _ _ _ _ _ => pg_name (i := 3) scPI.nd rfl (Or.inl rfl))
          (fun _ _ _ _ _ => pts_nil) (fun _ _ _ _ _ => pe_call GL hr1 (by rfl) mL kL bL .nil pass0 (pa_cons (pv 3) pa_nil)))) rfl)))))), ?_⟩
    have sz := sizeLine_eq
    refine ⟨_, rfl, wv, b, rfl, iw, fun hb => ?_, fun hb => badW hb⟩
    obtain ⟨x, W, rfl, wk, g, badD, q0⟩ := h hb
    refine ⟨_, rfl, _, rfl, x, dv, W, rfl, wk, g, dd, fun hd => ?_, fun u hu => badD u hu⟩
    obtain ⟨td, rs, ds, rfl, ht, pr, ok⟩ := due_good hd
    have q := q0 td rs ds hd rfl ht pr ok
    intro H1 x1
    have lr : rs.length = ds.length := Paired.size pr
    have l20 := ok.len
    have ne : ∃ dx f0 fs, H x = some (.ins C dx (f0 :: fs)) := by
      obtain ⟨am, ac, as, ap, ⟨dx, D1, D2, D3, D4, b1, b2, v4, hx, _⟩, _⟩ := wk
      exact ⟨dx, _, _, hx⟩
    obtain ⟨dx, f0, fs, hx⟩ := ne
    have nyx : y ≠ x := fun z => by
      rw [z, hx] at hy
      cases hy
    have hy1 := x1 _ _ hy
    refine ⟨_, rfl, _, rfl, y, PC, dy, _, rfl, hy1, c.cl, c.n1, (by decide : (0 : Nat) < 1000), ?_⟩
    refine ⟨_, rfl, _, rfl, y, PC, dy, _, rfl, upd_same, c.cl, c.n2, (by decide : (1 : Nat) < 1000), ?_⟩
    rw [upd_upd]
    show tSeq _ _ _ _ (upd H1 y (.ins PC dy [("_works", .ref x), ("_deeds", .ref td)]))
    have B2 : But y H1 (upd H1 y (.ins PC dy [("_works", .ref x), ("_deeds", .ref td)])) := But.self
    have X2 : (upd H1 y (.ins PC dy [("_works", .ref x), ("_deeds", .ref td)])) y = some (.ins PC dy [("_works", .ref x), ("_deeds", .ref td)]) := upd_same
    generalize upd H1 y (.ins PC dy [("_works", .ref x), ("_deeds", .ref td)]) = H2 at B2 X2 ⊢
    have B02 : But y H H2 := (But.ex x1).trans B2
    have t2 := But.tup hy B02
    have pr2 := deeds_tup t2 pr
    have ht2 := t2 _ _ ht
    refine ⟨_, rfl, td, rfl, ⟨_, SqT.of ht2⟩, fun D hD => lc_tup (K := K) (a := td) (xs := rs) (fun i G => Ex H2 G ∧ G D = some (.lst ((lotsOf (ds.take i)).map V.str))) ⟨Ex.refl.new hD, upd_same⟩ (fun i G _ h => SqT.of (h.1 _ _ ht2)) ?_ ?_⟩
    · rintro i v G hv ⟨xG, eG⟩
      obtain ⟨d, hd, dd⟩ := Paired.spot pr2 hv
      have dG := dd.tup (Ex.tup xG)
      have e1 := lots_take hd
      have ll : (lotsOf (ds.take i)).length ≤ 8 := Nat.le_trans (lots_le ds i) ok.lots
      refine ⟨rfl, ?_⟩
      cases d with
      | run p ms =>
        obtain ⟨a, t, rfl, h1, h2⟩ := dG
        refine ⟨_, rfl, a, _, _, _, rfl, rfl, SqT.of h1, atI_nat (j := 0) rfl, rfl, _, rfl, ?_⟩
        refine ite2 (fun _ => ?_) (fun z => absurd (decide_eq_true rfl) z)
        refine ⟨_, rfl, a, _, _, _, rfl, rfl, SqT.of h1, atI_nat (j := 1) rfl, _, eG, by rw [List.length_map]; omega, xG.put hD, ?_⟩
        rw [upd_same, e1, List.map_append]
        rfl
      | clean m cl =>
        obtain ⟨a, rfl, h1⟩ := dG
        refine ⟨_, rfl, a, _, _, _, rfl, rfl, SqT.of h1, atI_nat (j := 0) rfl, rfl, _, rfl, ?_⟩
        refine ite2 (fun z => absurd z (by decide +kernel)) (fun _ => ?_)
        refine ⟨xG, ?_⟩
        rw [eG, e1]
        rw [show (Deed.clean m cl).lot.toList = [] from rfl, List.append_nil]
    · rintro G ⟨xG, eG⟩
      rw [lr, List.take_of_length_le (Nat.le_refl _)] at eG
      refine .inl ⟨D, _, rfl, SqL.of eG, fun tl ntl => ?_⟩
      have x3 : Ex H2 (upd G tl (.tup ((lotsOf ds).map V.str))) := xG.new ntl
      have e3 : (upd G tl (.tup ((lotsOf ds).map V.str))) tl = some (.tup ((lotsOf ds).map V.str)) := upd_same
      generalize upd G tl (.tup ((lotsOf ds).map V.str)) = H3 at x3 e3 ⊢
      refine ⟨_, rfl, y, PC, dy, _, rfl, x3 _ _ X2, c.cl, c.n3, (by decide : (2 : Nat) < 1000), ?_⟩
      have B4 : But y H3 (upd H3 y (.ins PC dy [("_works", .ref x), ("_deeds", .ref td), ("_lots", .ref tl)])) := But.self
      have X4 : (upd H3 y (.ins PC dy [("_works", .ref x), ("_deeds", .ref td), ("_lots", .ref tl)])) y = some (.ins PC dy [("_works", .ref x), ("_deeds", .ref td), ("_lots", .ref tl)]) := upd_same
      show tSeq _ _ _ _ (upd H3 y (.ins PC dy [("_works", .ref x), ("_deeds", .ref td), ("_lots", .ref tl)]))
      generalize upd H3 y (.ins PC dy [("_works", .ref x), ("_deeds", .ref td), ("_lots", .ref tl)]) = H4 at B4 X4 ⊢
      have hy3 := x3 _ _ X2
      have B04 : But y H H4 := (B02.trans (But.ex x3)).trans B4
      have t4 := But.tup hy B04
      have pr4 := deeds_tup t4 pr
      have ht4 := t4 _ _ ht
      have htl := (But.tup hy3 B4) _ _ e3
      refine ⟨⟨_, rfl⟩, _, rfl, td, rfl, ⟨_, SqT.of ht4⟩, fun D2 hD2 => lc_tup (K := K) (a := td) (xs := rs) (fun i G => Ex H4 G ∧ G D2 = some (.lst (((ds.take i).map dline).map V.str))) ⟨Ex.refl.new hD2, upd_same⟩ (fun i G _ h => SqT.of (h.1 _ _ ht4)) ?_ ?_⟩
      · rintro i v G hv ⟨xG, eG⟩
        obtain ⟨d, hd, dd⟩ := Paired.spot pr4 hv
        refine ⟨rfl, _, rfl, v, W, d, rfl, g, dd.tup (Ex.tup xG), ok.all d (List.mem_of_getElem? hd), fun G2 x2 => ⟨_, x2 _ _ eG, ?_, (xG.trans x2).put hD2, ?_⟩⟩
        · rw [List.length_map, List.length_map, List.length_take]
          omega
        · rw [upd_same, List.take_succ, hd, List.map_append, List.map_append]
          rfl
      · rintro G ⟨xG, eG⟩
        rw [lr, List.take_of_length_le (Nat.le_refl _)] at eG
        have pl := ptext_len g ok
        refine ⟨nl, D2, ds.map dline, rfl, rfl, .inl (SqL.of eG), by omega, ?_⟩
        refine ⟨_, rfl, y, PC, dy, _, rfl, xG _ _ X4, c.cl, c.n4, (by decide : (3 : Nat) < 1000), ?_⟩
        have B5 : But y G (upd G y (.ins PC dy [("_works", .ref x), ("_deeds", .ref td), ("_lots", .ref tl), ("_text", .str (ptext ds))])) := But.self
        have X5 : (upd G y (.ins PC dy [("_works", .ref x), ("_deeds", .ref td), ("_lots", .ref tl), ("_text", .str (ptext ds))])) y = some (.ins PC dy [("_works", .ref x), ("_deeds", .ref td), ("_lots", .ref tl), ("_text", .str (ptext ds))]) := upd_same
        have B06 : But y H _ := (B04.trans (But.ex xG)).trans B5
        have t6 := But.tup hy B06
        exact q _ B06 ⟨WkD.but hy nyx B06 wk, dy, tl, rs, X5, t6 _ _ ht, deeds_tup t6 pr, (But.tup (xG _ _ X4) B5) _ _ (xG _ _ htl)⟩
end
end LJ
set_option Elab.async false
set_option linter.all false
set_option maxRecDepth 100000
set_option maxHeartbeats 8000000
namespace LJ
open PySem PySem.Spec L2 PySem.ErrV
open LamX (ExtN)
open NdefX (NTab TabsN)
open OwnX
/-! Plan.read of any value. -/
theorem takes_lenN {X : Cx} {W : WX} (tk : L2N.Takes X W) : L2N.Takes X (fun cls d _ H => ∀ σ, σ.length = X.N.length → W cls d σ H) := fun u s' ⟨a, B, sI, pins, σ, H, cls, d, e, I, nb, up, sky, na, os, ag, w⟩ =>
  tk u s' ⟨a, B, sI, pins, σ, H, cls, d, e, I, nb, up, sky, na, os, ag, w σ I.len⟩
abbrev sPR : Stmt := pmeth 1
abbrev nPR : List Str := ["works", "text", "lines", "plan", "line"]
/-- the plan of these works with this text, or what is raised -/
def spPRV (K : PySem.W.Frag) (PC C cW cT : Addr) : Sp := fun vs H Q E => ∃ (wv tv : V) (b : Bool), vs = [wv, tv] ∧ IsW K C H wv b ∧ Kn K H tv ∧ (b = false → Raised cW "given" wv H E) ∧
  (b = true → ∃ (x : Addr) (W : Wd), wv = .ref x ∧ WkD C H x W ∧ GoodF W ∧ ((∀ z, tv ≠ .str z) → Raised cT "given" tv H E) ∧
    ∀ z, tv = .str z → z.length ≤ 1000000 ∧ (planOf W z = none → Raised cT "given" tv H E) ∧ ∀ ds, planOf W z = some ds → ∀ (y td : Addr) (H1 : Hp), Ex H H1 → H y = none → PlanAt PC C H1 y x W td ds → Q (.ref y) H1)
theorem deep_s {K : PySem.W.Frag} {H : Hp} {z : Str} (h : z.length ≤ sizeLine) : ∀ {n : Nat}, Deep K H n (.str z)
  | 0 => .str z h
  | _ + 1 => ⟨.str z h, fun xs e => nomatch e⟩
theorem deep_t {K : PySem.W.Frag} {H : Hp} {n : Nat} {a : Addr} {xs : List V} (h : H a = some (.tup xs)) (l : xs.length ≤ sizeLine) (d : ∀ y ∈ xs, Deep K H n y) : Deep K H (n + 1) (.ref a) := ⟨.tup h l, fun ys e y hy => by
  rw [tup_at h] at e
  cases e
  exact d y hy⟩
theorem raw_deep {K : PySem.W.Frag} {H : Hp} {v : V} {ws : List Str} (r : RawAt H v ws) (hs : ∀ s ∈ ws, s.length ≤ sizeLine) (hl : ws.length ≤ sizeLine) : Deep K H 2 v := by
  have sz := sizeLine_eq
  unfold RawAt at r
  split at r
  · obtain ⟨a, t, p, ms, rfl, rfl, h1, h2⟩ := r
    refine deep_t h1 (by show 3 ≤ _; omega) fun y hy => ?_
    simp only [List.mem_cons, List.not_mem_nil, or_false] at hy
    rcases hy with rfl | rfl | rfl
    · exact deep_s (hs _ (List.mem_cons_self ..))
    · exact deep_s (hs _ (List.mem_cons_of_mem _ (List.mem_cons_self ..)))
    · refine deep_t h2 (by rw [List.length_map]; simp only [List.length_cons] at hl; omega) fun y hy => ?_
      obtain ⟨m, hm, rfl⟩ := List.mem_map.mp hy
      exact deep_s (hs m (List.mem_cons_of_mem _ (List.mem_cons_of_mem _ hm)))
  · obtain ⟨a, rfl, h1⟩ := r
    refine deep_t h1 (by rw [List.length_map]; exact hl) fun y hy => ?_
    obtain ⟨m, hm, rfl⟩ := List.mem_map.mp hy
    exact deep_s (hs m hm)
theorem strs_inj : ∀ {a b : List Str}, a.map V.str = b.map V.str → a = b
  | [], [], _ => rfl
  | [], _ :: _, h => nomatch h
  | _ :: _, [], h => nomatch h
  | x :: a, y :: b, h => by
    rw [List.map_cons, List.map_cons] at h
    obtain ⟨h1, h2⟩ := List.cons.inj h
    rw [V.str.inj h1, strs_inj h2]
theorem deed_one {H : Hp} {v : V} {d e : Deed} (h : DeedAt H v d) (k : DeedAt H v e) : d = e := by
  cases d with
  | run p ms =>
    obtain ⟨a, t, rfl, h1, h2⟩ := h
    cases e with
    | run q ns =>
      obtain ⟨b, u, e1, k1, k2⟩ := k
      cases e1
      rw [h1] at k1
      cases k1
      rw [h2] at k2
      have k3 : ms.map V.str = ns.map V.str := by
        injection k2 with k2
        injection k2
      rw [strs_inj k3]
    | clean m c =>
      obtain ⟨b, e1, k1⟩ := k
      cases e1
      rw [h1] at k1
      cases k1
  | clean m c =>
    obtain ⟨a, rfl, h1⟩ := h
    cases e with
    | run q ns =>
      obtain ⟨b, u, e1, k1, k2⟩ := k
      cases e1
      rw [h1] at k1
      cases k1
    | clean m2 c2 =>
      obtain ⟨b, e1, k1⟩ := k
      cases e1
      rw [h1] at k1
      cases k1
      rfl
theorem deeds_one {H : Hp} : ∀ {vs : List V} {ds es : List Deed}, Paired (DeedAt H) vs ds → Paired (DeedAt H) vs es → ds = es
  | _, _, _, .nil, .nil => rfl
  | _, _, _, .cons h t, .cons k u => by rw [deed_one h k, deeds_one t u]
theorem lines_in {z ln : Str} (h : ln ∈ linesOf z) : ln.length ≤ z.length := by
  unfold linesOf at h
  split at h
  · cases h
  · exact split_le tl_nl (by decide) h
theorem lines_n {z : Str} : (linesOf z).length ≤ z.length + 1 := by
  unfold linesOf
  split
  · exact Nat.zero_le _
  · exact (split_sum tl_nl (by decide)).2
theorem rd_linesV {K : PySem.W.Frag} {σ : L2.St} {H : Hp} {Q : VK} {z : Str} (ht : σ[1]? = some (some (.str z))) (lz : z.length ≤ 1000000) (q : ∀ (l : Addr) (H1 : Hp), Ex H H1 → H1 l = some (.lst ((linesOf z).map V.str)) → Q (.ref l) H1) :
    tIf (fun σ H Q => tVar 1 σ H fun x H' => ∃ k, TruV K x H' k ∧ Q k H') (tM1 (fun x xs H Q => ∃ a b, x = .str a ∧ xs = [.str b] ∧ (b.length == 0) = false ∧ a.length + 2 ≤ sizeLine ∧ rNewStrs (Txt.split a b) H Q) (tVar 1) (tC (.str nl))) (tLst tNil) σ H Q := by
  have sz := sizeLine_eq
  refine ⟨_, ht, _, ⟨by omega, rfl⟩, ?_⟩
  by_cases h : z.length = 0
  · have e : linesOf z = [] := by
      unfold linesOf
      rw [if_pos h]
    rw [e] at q
    refine ite2 (fun y => absurd y (by simp [h])) (fun _ => ?_)
    exact ⟨by rw [sizeLine_eq]; exact Nat.zero_le _, fun l nl => q l _ (Ex.refl.new nl) upd_same⟩
  · have e : linesOf z = Txt.split z nl := by
      unfold linesOf
      rw [if_neg h]
    rw [e] at q
    refine ite2 (fun _ => ?_) (fun y => absurd ?_ y)
    · exact ⟨_, ht, ⟨_, rfl⟩, _, nl, rfl, rfl, by decide +kernel, by omega, fun l nnl => q l _ (Ex.refl.new nnl) upd_same⟩
    · show (((z.length : Nat) : Int) != 0) = true
      rw [bne_iff_ne]
      omega
def tryBody : Stmt → List Stmt
  | .Try (body := b) .. => b
  | _ => []
/-- what the try's suite asks -/
def tbPR (K : PySem.W.Frag) (PC C cI cW : Addr) (W : WX) : TS := tAsg (tMakeS PC (spPIV K PC C cI cW) (fun σ cls d H => W cls d σ H)
  (tCons (tVar 0) (tCons (tThen (tLc (iList K (tVar 2)) (gName 4) tYes (tCall spRDV [] E0 (tCons (tVar 4) tNil)) [4]) (kTup K)) tNil))) (gName 3)
section
variable {P : Program} {w : World} {K : PySem.W.Frag} {mg : Str → Option Value} {base : Heap} {C PC cI cW cT : Addr}
theorem scPR : FnScope nPR ["works", "text"] (defScope sPR) := ⟨rfl, rfl, rfl, by decide +kernel, rfl, by decide +kernel, by decide +kernel⟩
theorem ok_prV {f fW fD fP : Addr} {fd fdW fdD fdP : FuncData} (F : Fun K "read" "Plan.read" sPR f fd) (B : BltI mg) (e0 : Er1 K mg "InvalidText" "given" cT) (eI : Er1 K mg "InvalidDeeds" "index" cI) (fit : PySem.W.exmOne K (.ref cI) (.ref cI) = some true)
    (GW : FnOk P w K mg base (L2.CX P w) 2 fW fdW ["works"] (spCwV K C cW)) (mW : mg "check_works" = some (.ref fW)) (kW : PySem.W.keepIn K (.ref fW) = true) (bW : Binds K fdW ["works"] [])
    (GD : FnOk P w K mg base CX0 1 fD fdD ["line"] spRDV) (mD : mg "_read_deed" = some (.ref fD)) (kD : PySem.W.keepIn K (.ref fD) = true) (bD : Binds K fdD ["line"] [])
    (M : Mk K PC fP) (GP : FnOk P w K mg base (L2N.CX P w) 6 fP fdP ["self", "works", "deeds"] (spPIV K PC C cI cW)) (mP : mg "Plan" = some (.ref PC)) (bP : Binds K fdP ["self", "works", "deeds"] []) :
    FnOk P w K mg base (L2.CX P w) 8 f fd ["works", "text"] (spPRV K PC C cW cT) := by
  refine F.okX scPR (fun vs H Q E h => ?_) (fun cdv A outer s H vs Q E hr h => ?_)
  · obtain ⟨wv, tv, b, rfl, _⟩ := h
    rfl
  · obtain ⟨wv, tv, b, rfl, iw, kt, bad, good⟩ := h
    have hr1 : Room 1 _ := hr.mono (by decide)
    have hr2 : Room 2 _ := hr.mono (by decide)
    obtain ⟨f0, b0, T0, B0⟩ := e0.c
    obtain ⟨f1, b1, T1, B1⟩ := eI.c
    have hb : ∀ (W : WX) (pn : List (Addr × Obj)) (xe : Value → Shared → Prop), L2N.Takes ((cxOf (L2.CX P w) P w K mg base nPR "Plan.read" (defScope sPR) f cdv A outer s H E).tr pn xe) W → PSs ((cxOf (L2.CX P w) P w K mg base nPR "Plan.read" (defScope sPR) f cdv A outer s H E).tr pn xe) (tryBody ((defBody sPR).getD 3 (.Pass ⟨0, 0, 0, 0⟩))) (tbPR K PC C cI cW W) := by
      intro W pn xe tk
      exact pss_one (ps_set (i := 3) scPR.nd rfl (Or.inl rfl) (pe_makeS M GP hr (by rfl) mP bP (passesAtN (E := fun σ cls d H => W cls d σ H) tk (fun _ _ _ _ z => z)) (pa_cons (pv 0) (pa_cons (pe_tupleOf (X := ((cxOf (L2.CX P w) P w K mg base nPR "Plan.read" (defScope sPR) f cdv A outer s H E).tr pn xe)) (by rfl) B.tuple
            (pe_lc (X := ((cxOf (L2.CX P w) P w K mg base nPR "Plan.read" (defScope sPR) f cdv A outer s H E).tr pn xe)) (own := [("line", 4)]) (g := gName 4) (te := tCall spRDV [] E0 (tCons (tVar 4) tNil)) (by rfl) scPR.nd (pi_list (pv 2)) (blkOk_by (own := [("line", 4)]) (N := nPR) (sc := defScope sPR) (by decide +kernel)) (fun _ _ _ _ _ => pg_name (i := 4) scPR.nd rfl (Or.inl rfl)) (fun _ _ _ _ _ => pts_nil) (fun _ _ _ _ _ => pe_call GD hr1 (by rfl) mD kD bD .nil pass0 (pa_cons (pv 4) pa_nil)))) pa_nil))))
    refine ⟨_, pss_cons (ps_expr (pe_call GW hr2 (by rfl) mW kW bW .nil (passes_call (W := fun cls d _ H => E cls d H) (takes_of rfl rfl rfl rfl) (fun _ _ _ _ z => z)) (pa_cons (pv 0) pa_nil)))
      (pss_cons (ps_if (pt_not (pt_truth (pe_callB call_isi (by rfl) B.isinstance (by decide +kernel) (pa_cons (pv 1) (pa_cons (pe_bltn (by rfl) B.str (by decide +kernel) (v := .ty "str") rfl) pa_nil))) (fun _ => rfl))) (pss_one (ps_raiseE rfl (.inl rfl) T0 B0 e0.exC e0.tyC hr1 (takes_of rfl rfl rfl rfl) (pa_cons (pv 1) pa_nil) (by rfl))) pss_nil)
      (pss_cons (ps_set (i := 2) scPR.nd rfl (Or.inl rfl) (pe_ifExp (pt_truth (pv 1) (fun _ => rfl)) (pe_split (pv 1) pe_str) (pe_lst pa_nil)))
      (pss_cons (L2H.ps_try_onlyX (Wout := fun cls d _ H => E cls d H) rfl rfl ⟨rfl, by decide, .inl T1.gC⟩ (L2H.passesAt_of rfl) (takes_of rfl rfl rfl rfl)
          (tb := tbPR K PC C cI cW) (fun W pn xe tk _ _ => hb W pn xe tk)
          (fun a oe cls d pn hz hf tk hot => pss_one (L2H.ps_raiseHN hot tk (pmk5_err (.inl rfl) T0 B0 e0.exC e0.tyC (by have := hr1.dp; exact this) (pa_cons (pv 1) pa_nil) (by rfl)))))
      (pss_one (ps_ret (pv 3)))))), ?_⟩
    have sz := sizeLine_eq
    refine ⟨_, rfl, wv, b, rfl, iw, fun e => ?_, bad⟩
    obtain ⟨x, W, rfl, wk, g, nt, gd⟩ := good e
    obtain ⟨t, bs, ty, es, hb2⟩ := kt.st.ty
    refine ⟨_, rfl, _, _, t, _, bs, rfl, .ty "str", ty, es, bs, rfl, ?_⟩
    rcases hb2 with ⟨rfl, z, rfl⟩ | ⟨rfl, ns⟩
    · refine ite2 (fun q => by cases q) (fun _ => ?_)
      refine rd_nextU ?_
      try dsimp only
      obtain ⟨lz, pn, ps⟩ := gd z rfl
      refine rd_seqU (rd_asgU (rd_linesV (K := K) rfl lz fun l H1 x1 e1 => ?_))
      refine rd_nameU ?_
      try dsimp only
      have ln0 := lines_n (z := z)
      have lw : (wssOf z).length = (linesOf z).length := by
        unfold wssOf
        rw [List.length_map]
      refine ⟨_, rfl, _, rfl, l, rfl, ⟨_, SqL.of e1⟩, fun D hD => lc_list (K := K) (a := l) (xs := (linesOf z).map V.str) (fun i G => Ex H1 G ∧ ∃ vals, G D = some (.lst vals) ∧ Paired (RawAt G) vals ((wssOf z).take i)) ⟨Ex.refl.new hD, [], upd_same, .nil⟩ (fun i G _ h => SqL.of (h.1 _ _ e1)) ?_ ?_⟩
      · rintro i v G hv ⟨xG, vals, eG, pG⟩
        rw [List.getElem?_map] at hv
        obtain ⟨ln, hl, rfl⟩ := Option.map_eq_some_iff.mp hv
        have vl := Paired.size pG
        rw [List.length_take] at vl
        have ll := lines_in (List.mem_of_getElem? hl)
        refine ⟨rfl, _, rfl, ln, rfl, by omega, fun v G2 x2 ra => ⟨vals, x2 _ _ eG, by omega, (xG.trans x2).put hD, vals ++ [v], upd_same, ?_⟩⟩
        have t2 : Tup G2 (upd G2 D (.lst (vals ++ [v]))) := Tup.put (x2 _ _ eG)
        have hw : (wssOf z)[i]? = some (wordsOf ln) := by
          unfold wssOf
          rw [List.getElem?_map, hl]
          rfl
        rw [List.take_succ, hw]
        exact Paired.snoc (L2.Paired.mapP pG fun _ _ h => (h.tup (Ex.tup x2)).tup t2) (ra.tup t2)
      · rintro G ⟨xG, vals, eG, pG⟩
        rw [List.length_map, ← lw, List.take_length] at pG
        refine .inl ⟨D, _, rfl, SqL.of eG, fun t nt2 => ?_⟩
        have x3 : Ex G (upd G t (.tup vals)) := Ex.refl.new nt2
        have e3 : (upd G t (.tup vals)) t = some (.tup vals) := upd_same
        generalize upd G t (.tup vals) = G3 at x3 e3 ⊢
        have y3 := (x1.trans xG).trans x3
        intro y dy n1 n2 ne
        have x5 : Ex G3 (upd (upd G3 dy (.own y)) y (.ins PC dy [])) := (Ex.refl.new n2).new (by rw [upd_ne ne.symm]; exact n1)
        have e5 : (upd (upd G3 dy (.own y)) y (.ins PC dy [])) y = some (.ins PC dy []) := upd_same
        generalize upd (upd G3 dy (.own y)) y (.ins PC dy []) = G5 at x5 e5 ⊢
        have y5 := y3.trans x5
        have e6 := x5 _ _ e3
        have p5 : Paired (RawAt G5) vals (wssOf z) := L2.Paired.mapP pG fun _ _ h => h.tup (Ex.tup (x3.trans x5))
        have nyH : H y = none := by
          cases q : H y with
          | none => rfl
          | some o => rw [y3 _ _ q] at n1; cases n1
        have lv := Paired.size pG
        have dp : Deep K G5 3 (.ref t) := by
          refine deep_t e6 (by omega) fun v hv => ?_
          obtain ⟨i, hi⟩ := List.mem_iff_getElem?.mp hv
          obtain ⟨ws, hws, ra⟩ := Paired.spot p5 hi
          have mws := List.mem_of_getElem? hws
          unfold wssOf at mws
          obtain ⟨ln, hln, rfl⟩ := List.mem_map.mp mws
          have l1 := lines_in hln
          have l2 := (split_sum (x := ln) tl_sp1 (by decide)).2
          refine raw_deep ra (fun s hs => ?_) (by show (Txt.split ln sp1).length ≤ _; omega)
          have := split_le tl_sp1 (by decide) (show s ∈ Txt.split ln sp1 from hs)
          omega
        cases hp : planOf W z with
        | some ds =>
          obtain ⟨du, pd, okd⟩ := plan_some e6 p5 hp
          refine ⟨y, dy, .ref x, .ref t, true, rfl, e5, e ▸ iw.exN y5.n, dp, (fun q => absurd q Bool.false_ne_true.symm), fun _ => ⟨x, W, rfl, wk.ex y5, g, fun u hu => (by rw [du] at hu; cases hu), fun td rs2 ds2 _ h1 h2 pr2 ok2 H6 b6 pl => ⟨rfl, ?_⟩⟩⟩
          cases h1
          rw [e6] at h2
          cases h2
          have := deeds_one pr2 pd
          subst this
          exact ⟨_, rfl, ps _ hp y t H6 (fun b o hb => b6 b o (fun z => by rw [z, nyH] at hb; cases hb) (y5 _ _ hb)) nyH pl⟩
        | none =>
          obtain ⟨u, hu⟩ := plan_none e6 p5 hp
          refine ⟨y, dy, .ref x, .ref t, true, rfl, e5, e ▸ iw.exN y5.n, dp, (fun q => absurd q Bool.false_ne_true.symm), fun _ => ⟨x, W, rfl, wk.ex y5, g, fun u2 _ H6 d x6 _ => ?_, fun td rs2 ds2 hd => (by rw [hu] at hd; cases hd)⟩⟩
          refine ⟨true, fit, fun _ a ha => ?_, fun q => absurd q Bool.false_ne_true.symm⟩
          exact ⟨_, rfl, _, rfl, fun d2 n2 => pn hp _ d2 ((y5.trans x6).new n2) upd_same⟩
    · refine ite2 (fun _ => ?_) (fun q => absurd rfl q)
      exact ⟨_, rfl, _, rfl, fun d nd => nt ns _ d (Ex.refl.new nd) upd_same⟩
end
end LJ
set_option Elab.async false
set_option linter.all false
set_option maxRecDepth 100000
set_option maxHeartbeats 4000000
/-! len(set(t)), t a tuple of a few texts, the same ones among them or not. -/
namespace SetX
open PySem PySem.Spec PyProof.Rows L2
/-- what a set knows, and how much, once these are added one behind another -/
def told (f : Str → Bool) (c : Nat) : List Str → (Str → Bool) × Nat
  | [] => (f, c)
  | x :: xs => told (fun k => f k || decide (k = x)) (if f x then c else c + 1) xs
theorem told_le : ∀ (xs : List Str) (f : Str → Bool) (c : Nat), (told f c xs).2 ≤ c + xs.length
  | [], _, _ => Nat.le_refl _
  | x :: xs, f, c => by
    have h := told_le xs (fun k => f k || decide (k = x)) (if f x then c else c + 1)
    show (told (fun k => f k || decide (k = x)) (if f x then c else c + 1) xs).2 ≤ c + (xs.length + 1)
    split at h <;> split <;> first | omega | (rename_i a b; exact absurd b (by simpa using a)) | (rename_i a b; exact absurd a (by simpa using b))
theorem told_all : ∀ (xs : List Str) (f : Str → Bool) (c : Nat), (told f c xs).2 = c + xs.length ↔ xs.Nodup ∧ ∀ x ∈ xs, f x = false
  | [], _, _ => by simp [told]
  | x :: xs, f, c => by
    show (told (fun k => f k || decide (k = x)) (if f x then c else c + 1) xs).2 = c + (xs.length + 1) ↔ _
    cases fx : f x with
    | true =>
      have h := told_le xs (fun k => f k || decide (k = x)) c
      rw [if_pos rfl]
      refine ⟨fun z => ?_, fun z => ?_⟩
      · omega
      · have := z.2 x (List.mem_cons_self ..)
        rw [fx] at this
        cases this
    | false =>
      rw [if_neg (by decide)]
      have h := told_all xs (fun k => f k || decide (k = x)) (c + 1)
      rw [show c + (xs.length + 1) = c + 1 + xs.length by omega, h, List.nodup_cons]
      refine ⟨fun z => ⟨⟨fun m => ?_, z.1⟩, fun y hy => ?_⟩, fun z => ⟨z.1.2, fun y hy => ?_⟩⟩
      · have := z.2 x m
        simp at this
      · rcases List.mem_cons.mp hy with rfl | hy
        · exact fx
        · have := z.2 y hy
          simp at this
          exact this.1
      · have h1 := z.2 y (List.mem_cons_of_mem _ hy)
        have h2 : y ≠ x := fun e => z.1.1 (e ▸ hy)
        simp [h1, h2]
/-- how many different ones there are -/
def many (xs : List Str) : Nat := (told (fun _ => false) 0 xs).2
theorem many_all (xs : List Str) : many xs = xs.length ↔ xs.Nodup := by
  have h := told_all xs (fun _ => false) 0
  unfold many
  rw [Nat.zero_add] at h
  rw [h]
  simp
theorem many_le (xs : List Str) : many xs ≤ xs.length := by
  have := told_le xs (fun _ => false) 0
  unfold many
  omega
abbrev sk (prog : Program) (w : World) := PySem.strKind prog w
section
variable {prog : Program} {w : World} {A : Around} {R : Result → Shared → Prop} {I : Addr} {fp wr : List Addr} {G : Array GenState → Array GenState → Prop} {n : Nat} {P : Nat → Value → Prop} {St : Nat → Shared → Prop}
theorem set_same {h h1 : Heap} {S : Addr} {f : Str → Bool} {c : Nat} (q : h.SetOf (sk prog w) S f c) (k : ∀ o, h.get? S = some o → h1.get? S = some o) : h1.SetOf (sk prog w) S f c := by
  obtain ⟨o, es, ep, t, ho, r⟩ := q
  exact ⟨o, es, ep, t, k o ho, r⟩
theorem add_all (W : WalksS prog w A.in1 I fp wr G n P St) (S : Addr) (out : S ∉ fp) (xs : List Str) (few : n ≤ 60) (val : ∀ i v, P i v → ∃ z t, xs[i]? = some z ∧ v = .str z t) :
    ∀ (ys : List Str) (i : Nat) (s : Shared) (f : Str → Bool) (c : Nat), xs.drop i = ys → i + ys.length = n → c ≤ i → St i s → s.heap.SetOf (sk prog w) S f c →
      (∀ s', Moved (S :: wr) G s s' → s'.heap.SetOf (sk prog w) S (told f c ys).1 (told f c ys).2 → R (.ok (.ret .none)) s') →
      codeAny (model prog w) A (.builtin "set.update.loop" ⟨[.ref S, .ref I], []⟩) R s := by
  have outw : S ∉ wr := fun h => out (W.sub _ h)
  have more : ∀ b ∈ wr, b ∈ S :: wr := fun b hb => List.mem_cons_of_mem _ hb
  intro ys
  induction ys with
  | nil =>
    intro i s f c _ ln _ st so fin_
    obtain rfl : i = n := ln
    refine codeAny_builtin PyProof.Rows.F.entry_set_update_loop ?_
    rw [Around.under_plainId PyProof.Rows.F.plain_set_update_loop _]
    refine wpAny_bind (m := pyNext (.ref I)) (W.done s _ _ st fun s1 mv => ?_)
    exact wpAny_pure (fin_ s1 (mv.mono more) (set_same so fun o e => mv.heap S o outw e))
  | cons y ys ih =>
    intro i s f c dr ln ci st so fin_
    have hi : i < n := by
      rw [List.length_cons] at ln
      omega
    refine codeAny_builtin PyProof.Rows.F.entry_set_update_loop ?_
    rw [Around.under_plainId PyProof.Rows.F.plain_set_update_loop _]
    refine wpAny_bind (m := pyNext (.ref I)) (W.item i s _ _ hi st fun v s1 pv st1 mv => ?_)
    obtain ⟨z, t, hz, rfl⟩ := val i v pv
    obtain rfl : z = y := by
      have : (xs.drop i)[0]? = some z := by rw [List.getElem?_drop]; exact hz
      rw [dr] at this
      exact (Option.some.inj this).symm
    have so1 : s1.heap.SetOf (sk prog w) S f c := set_same so fun o e => mv.heap S o outw e
    refine wpAny_bind (m := holding [Value.str z t] (setAdd S (.str z t))) (wpAny_holding ?_)
    unfold setAdd
    refine wpAny_holding (wpAny_bind ((sk prog w).pyHash (k := z) (strKind_is _ _ _ _) ?_))
    refine wpAny_setAddHashed_of (knd := sk prog w) (s := { s1 with toks := s1.toks + 1 }) (strKind_is _ _ _ _) rfl so1 (by unfold scanBound; omega) fun h2 sb so2 => ?_
    have dr2 : xs.drop (i + 1) = ys := by rw [← List.drop_drop, dr]; rfl
    refine wpAny_pure ⟨plainId_quiet PyProof.Rows.F.plain_set_update_loop _, ih (i + 1) _ _ _ dr2 (by rw [List.length_cons] at ln; omega) (by split <;> omega) (W.frame _ s1 _ _ st1 (Nat.le_succ _) fun b hb o e => ?_) so2 fun s3 mv3 so3 => ?_⟩
    · rw [sb.2 b fun z => out (z ▸ hb)]
      exact e
    · refine fin_ s3 (Moved.trans W.gtrans ((mv.mono more).then_heap (Nat.le_succ _) fun b o nb e => ?_) mv3) so3
      rw [sb.2 b fun z => nb (z ▸ List.mem_cons_self)]
      exact e
end
section
variable {prog : Program} {w : World} {A : Around} {E : Value → Shared → Prop} {s : Shared}
/-- a set that was just made -/
abbrev mt (led : Bool) : Obj := { cls := .type "set", dict := none, data := .set #[] 0 (.fresh 0 0 led) }
/-- from what the making of the set's things comes to, to the call of the class -/
theorem by_init {x : Value} {Q : Value → Shared → Prop}
    (go : ∀ led : Bool, codeAny (model prog w) A.in1 (.call (.builtin "set.__init__") ⟨[.ref s.heap.objs.size, x], []⟩) (wants (fun r s2 => r = .none ∧ Q (.ref s.heap.objs.size) s2) E) { s with heap := s.heap.push (mt led) }) :
    wpAny (model prog w) A (call (.type "set") [x]) Q E s := by
  obtain ⟨c, tl, hm⟩ := PySem.F.called_set.mro
  have f1 := PySem.F.called_set.made
  have f2 := PySem.F.called_set.sub
  have f3 := PySem.F.called_set.notType
  have f4 := PySem.F.called_set.canCreate
  have f5 := PySem.F.typeCall_set_1 x
  refine wpAny_call (codeAny_of_tree (show wpAny _ _ (callAny (.type "set") _) _ _ _ from wpAny_pure ⟨Code.quiet_builtin _ (by decide +kernel), codeAny_builtin PySem.F.entry_type_call ?_⟩))
  rw [Around.under_plain (weight_type_call_type "set" [x] []) rfl]
  repeat (any_goals (first | assumption | wp_step))
  refine codeAny_mono (code_set_new_1 x (E := E) (Q₁ := fun o s1 => ∃ led : Bool, o = .ref s.heap.objs.size ∧ s1 = { s with heap := s.heap.push (mt led) }) fun led => ⟨led, rfl, rfl⟩) fun r s1 hr => ?_
  match r, hr with
  | .error e, hr => exact hr
  | .ok .next, hr => exact hr.elim
  | .ok .brk, hr => exact hr.elim
  | .ok .cont, hr => exact hr.elim
  | .ok (.ret o), ⟨led, e1, e2⟩ =>
    subst e1
    subst e2
    have ty : Shared.TypeIs { s with heap := s.heap.push (mt led) } (.ref s.heap.objs.size) "set" := ⟨_, Heap.get?_push_size _ rfl, rfl⟩
    have f6 := PySem.F.called_set.init.lookup
    have f7 := PySem.F.called_set.init.bind (.ref s.heap.objs.size)
    repeat (any_goals (first | assumption | wp_step))
    refine codeAny_mono (go led) fun r2 s2 hr2 => ?_
    match r2, hr2 with
    | .error e, hr2 => exact hr2
    | .ok .next, hr2 => exact hr2.elim
    | .ok .brk, hr2 => exact hr2.elim
    | .ok .cont, hr2 => exact hr2.elim
    | .ok (.ret u), ⟨e3, q⟩ =>
      subst e3
      repeat (any_goals (first | assumption | wp_step))
theorem init_tup {l : Addr} {us : List Value} {xs : List Str} {Z : Shared → Prop} (hh : A.handled = none) (tup : s.heap.IsTuple l us.toArray) (rv : Vals (xs.map V.str) us) (few : xs.length ≤ 60)
    (q : ∀ (h1 : Heap) (tk : Nat), h1.SetOf (sk prog w) s.heap.objs.size (fun k => (told (fun _ => false) 0 xs).1 k) (many xs) → (∀ b o, s.heap.get? b = some o → h1.get? b = some o) → Z { s with heap := h1, toks := tk }) (led : Bool) :
    codeAny (model prog w) A.in1 (.call (.builtin "set.__init__") ⟨[.ref s.heap.objs.size, .ref l], []⟩) (wants (fun r s2 => r = .none ∧ Z s2) E) { s with heap := s.heap.push (mt led) } := by
  have at0 : (s.heap.push (mt led)).get? s.heap.objs.size = some (mt led) := Heap.get?_push_size _ rfl
  refine codeAny_call_builtin PySem.F.called_set.init.plain PySem.F.entry_set_init (check_set_init_1 ⟨_, at0, rfl⟩ ?_)
  obtain ⟨⟨tc, td, tdt, ts⟩, t1, t2, nt, t3⟩ := tup
  simp only at t2 t3
  subst t2
  subst t3
  have t4 := Heap.get?_push_of_some (mt led) t1
  have n1 := PySem.F.sub_tuple_set
  have n2 := PySem.F.sub_tuple_frozenset
  have n3 : (Value.type "tuple" == Value.type "dict") = false := by decide
  have tup1 : (s.heap.push (mt led)).IsTuple l us.toArray := ⟨_, t4, rfl, nt, rfl⟩
  unfold Builtin.«set.__init__» noKeywords Builtin.Frozenset.updateFrom
  generalize hIt : pyIter = It
  wp_walk
  subst hIt
  refine wpAny_pyIter_tuple tup1 (wpAny_bind (wpAny_runValue ?_))
  have ls : l < s.heap.objs.size := Heap.lt_size t1
  have sz2 : (s.heap.push (mt led)).objs.size = s.heap.objs.size + 1 := Heap.size_push ..
  have out1 : l ≠ (s.heap.push (mt led)).objs.size := by
    rw [sz2]
    exact Nat.ne_of_lt (Nat.lt_succ_of_lt ls)
  have out2 : s.heap.objs.size ∉ [(s.heap.push (mt led)).objs.size, l] := by
    rw [sz2]
    simp only [List.mem_cons, List.not_mem_nil, or_false, not_or]
    exact ⟨Nat.ne_of_lt (Nat.lt_succ_self _), Nat.ne_of_gt ls⟩
  have len : xs.length = us.toArray.size := by rw [List.size_toArray, ← rv.length, List.length_map]
  have val : ∀ (i : Nat) (v : Value), us.toArray[i]? = some v → ∃ z t, xs[i]? = some z ∧ v = .str z t := fun i v hv => by
    rw [List.getElem?_toArray] at hv
    have li : i < us.length := (List.getElem?_eq_some_iff.mp hv).1
    have lx : i < xs.length := by
      rw [len, List.size_toArray]
      exact li
    obtain ⟨u, hu, t, e⟩ := rv.get (i := i) (x := .str xs[i]) (by simp [lx])
    rw [hu] at hv
    cases hv
    exact ⟨xs[i], t, List.getElem?_eq_getElem lx, e⟩
  have so : ((s.heap.push (mt led)).push { cls := .type "tuple_iterator", data := .fields #[.ref l, .int 0 0] }).SetOf (sk prog w) s.heap.objs.size (fun _ => false) 0 :=
    PyProof.Rows.SetOf_congr ((PyProof.Rows.setObjOf_fresh (knd := sk prog w) led).setOf (Heap.get?_push_of_some _ at0) (by unfold scanBound; omega)) (fun _ => rfl) rfl
  refine add_all ((Walks.tuple (A := A.in1.in1.in1) (by simp [hh]) _ l out1 us.toArray).toS) s.heap.objs.size out2 xs (by rw [← len]; exact few) val xs 0 _ _ 0 rfl (by rw [Nat.zero_add]; exact len) (Nat.le_refl _)
    ⟨⟨_, Heap.get?_push_size _ rfl, rfl, rfl⟩, tup1.push _⟩ so fun s2 mv so2 => ?_
  obtain ⟨h2, g2, d2, tk2, os2⟩ := s2
  obtain rfl : g2 = s.gens := mv.gens
  obtain rfl : d2 = s.drawn := mv.drawn
  obtain rfl : os2 = s.os := mv.os
  refine wpAny_pure (wpAny_pure ⟨rfl, q h2 tk2 so2 fun b o e => ?_⟩)
  have lb := Heap.lt_size e
  refine mv.heap b o ?_ (Heap.get?_push_of_some _ (Heap.get?_push_of_some _ e))
  rw [sz2]
  simp only [List.mem_cons, List.not_mem_nil, or_false, not_or]
  exact ⟨Nat.ne_of_lt lb, Nat.ne_of_lt (Nat.lt_succ_of_lt lb)⟩
end
section
variable {X : Cx}
/-- len(set(t)) -/
def tLenSetT (K : PySem.W.Frag) (ta : TE) : TE := fun σ H Q => ta σ H fun x H1 => ∃ (l : Addr) (xs : List Str), x = .ref l ∧ SqT K H1 l (xs.map V.str) ∧ xs.length ≤ 60 ∧ Q (.int (many xs : Nat)) H1
theorem pe_lenSetT {e : Expr} {ta : TE} {p1 p2 p3 pos : Pos} (hc : X.calm = true) (g1 : Gl X "len") (m1 : X.mg "len" = none) (g2 : Gl X "set") (m2 : X.mg "set" = none) (he : PE X e ta)
    (no : starEach [e] X.env = (false, eval e X.env) :: starEach [] X.env := by rfl) : PE X (.Call (.Name "len" p1) [.Call (.Name "set" p2) [e] [] p3] [] pos) (tLenSetT X.K ta) := by
  constructor
  intro pins s σ H Q I h
  refine Call_ (ld_blt I g1 m1 boot_len (PyProof.Rows.callWith_builtin1 (PyProof.Rows.args_cons (Call_ (ld_blt I g2 m2 boot_set (PyProof.Rows.callWith_type1 (PyProof.Rows.args_cons (thn (he.run pins s σ H _ I h) ?_) no) no rfl))) rfl) rfl rfl))
  rintro v s1 ⟨x, H1, I1, rx, l, xs, rfl, hq, few, q⟩
  obtain rfl : v = Value.ref l := rx
  obtain ⟨us, rv, tup, _⟩ := I1.tuple hq
  refine PyProof.Rows.args_nil (by_init (init_tup (I1.ok.hd hc) tup rv few fun h1 tk so k => ?_))
  have I2 : Inv X pins σ H1 { s1 with heap := h1, toks := tk } := I1.kept k
  obtain ⟨o, es, ep, t, ho, ex, hd, _, _, _, hf, hn⟩ := so
  have small := many_le xs
  exact PyProof.Rows.args_nil (call_len_set ho ex hd hf (by rw [hn]; omega) ⟨.int (many xs : Nat), H1, I2.tok _, ⟨_, by rw [hn]⟩, q⟩)
end
end SetX
set_option Elab.async false
set_option linter.all false
set_option maxRecDepth 100000
set_option maxHeartbeats 4000000
/-! len(set(xs)) of a list of texts. -/
namespace SetX
open PySem PySem.Spec PyProof.Rows L2
section
variable {prog : Program} {w : World} {A : Around} {E : Value → Shared → Prop} {s : Shared}
theorem init_lst {l : Addr} {us : List Value} {xs : List Str} {Z : Shared → Prop} (hh : A.handled = none) (tup : s.heap.IsList l us.toArray) (rv : Vals (xs.map V.str) us) (few : xs.length ≤ 60)
    (q : ∀ (h1 : Heap) (tk : Nat), h1.SetOf (sk prog w) s.heap.objs.size (fun k => (told (fun _ => false) 0 xs).1 k) (many xs) → (∀ b o, s.heap.get? b = some o → h1.get? b = some o) → Z { s with heap := h1, toks := tk }) (led : Bool) :
    codeAny (model prog w) A.in1 (.call (.builtin "set.__init__") ⟨[.ref s.heap.objs.size, .ref l], []⟩) (wants (fun r s2 => r = .none ∧ Z s2) E) { s with heap := s.heap.push (mt led) } := by
  have at0 : (s.heap.push (mt led)).get? s.heap.objs.size = some (mt led) := Heap.get?_push_size _ rfl
  refine codeAny_call_builtin PySem.F.called_set.init.plain PySem.F.entry_set_init (check_set_init_1 ⟨_, at0, rfl⟩ ?_)
  obtain ⟨⟨tc, td, tdt, ts⟩, t1, t2, nt, t3⟩ := tup
  simp only at t2 t3
  subst t2
  subst t3
  have t4 := Heap.get?_push_of_some (mt led) t1
  have n1 := PySem.F.sub_list_set
  have n2 := PySem.F.sub_list_frozenset
  have n3 : (Value.type "list" == Value.type "dict") = false := by decide
  have tup1 : (s.heap.push (mt led)).IsList l us.toArray := ⟨_, t4, rfl, nt, rfl⟩
  unfold Builtin.«set.__init__» noKeywords Builtin.Frozenset.updateFrom
  generalize hIt : pyIter = It
  wp_walk
  subst hIt
  refine wpAny_pyIter_list tup1 (wpAny_bind (wpAny_runValue ?_))
  have ls : l < s.heap.objs.size := Heap.lt_size t1
  have sz2 : (s.heap.push (mt led)).objs.size = s.heap.objs.size + 1 := Heap.size_push ..
  have out1 : l ≠ (s.heap.push (mt led)).objs.size := by
    rw [sz2]
    exact Nat.ne_of_lt (Nat.lt_succ_of_lt ls)
  have out2 : s.heap.objs.size ∉ [(s.heap.push (mt led)).objs.size, l] := by
    rw [sz2]
    simp only [List.mem_cons, List.not_mem_nil, or_false, not_or]
    exact ⟨Nat.ne_of_lt (Nat.lt_succ_self _), Nat.ne_of_gt ls⟩
  have len : xs.length = us.toArray.size := by rw [List.size_toArray, ← rv.length, List.length_map]
  have val : ∀ (i : Nat) (v : Value), us.toArray[i]? = some v → ∃ z t, xs[i]? = some z ∧ v = .str z t := fun i v hv => by
    rw [List.getElem?_toArray] at hv
    have li : i < us.length := (List.getElem?_eq_some_iff.mp hv).1
    have lx : i < xs.length := by
      rw [len, List.size_toArray]
      exact li
    obtain ⟨u, hu, t, e⟩ := rv.get (i := i) (x := .str xs[i]) (by simp [lx])
    rw [hu] at hv
    cases hv
    exact ⟨xs[i], t, List.getElem?_eq_getElem lx, e⟩
  have so : ((s.heap.push (mt led)).push { cls := .type "list_iterator", data := .fields #[.ref l, .int 0 0] }).SetOf (sk prog w) s.heap.objs.size (fun _ => false) 0 :=
    PyProof.Rows.SetOf_congr ((PyProof.Rows.setObjOf_fresh (knd := sk prog w) led).setOf (Heap.get?_push_of_some _ at0) (by unfold scanBound; omega)) (fun _ => rfl) rfl
  refine add_all ((Walks.list (A := A.in1.in1.in1) (by simp [hh]) _ l out1 us.toArray).toS) s.heap.objs.size out2 xs (by rw [← len]; exact few) val xs 0 _ _ 0 rfl (by rw [Nat.zero_add]; exact len) (Nat.le_refl _)
    ⟨⟨_, Heap.get?_push_size _ rfl, rfl, rfl⟩, tup1.push _⟩ so fun s2 mv so2 => ?_
  obtain ⟨h2, g2, d2, tk2, os2⟩ := s2
  obtain rfl : g2 = s.gens := mv.gens
  obtain rfl : d2 = s.drawn := mv.drawn
  obtain rfl : os2 = s.os := mv.os
  refine wpAny_pure (wpAny_pure ⟨rfl, q h2 tk2 so2 fun b o e => ?_⟩)
  have lb := Heap.lt_size e
  refine mv.heap b o ?_ (Heap.get?_push_of_some _ (Heap.get?_push_of_some _ e))
  rw [sz2]
  simp only [List.mem_cons, List.not_mem_nil, or_false, not_or]
  exact ⟨Nat.ne_of_lt lb, Nat.ne_of_lt (Nat.lt_succ_of_lt lb)⟩
end
section
variable {X : Cx}
/-- len(set(t)) -/
def tLenSetL (K : PySem.W.Frag) (ta : TE) : TE := fun σ H Q => ta σ H fun x H1 => ∃ (l : Addr) (xs : List Str), x = .ref l ∧ SqL K H1 l (xs.map V.str) ∧ xs.length ≤ 60 ∧ Q (.int (many xs : Nat)) H1
theorem pe_lenSetL {e : Expr} {ta : TE} {p1 p2 p3 pos : Pos} (hc : X.calm = true) (g1 : Gl X "len") (m1 : X.mg "len" = none) (g2 : Gl X "set") (m2 : X.mg "set" = none) (he : PE X e ta)
    (no : starEach [e] X.env = (false, eval e X.env) :: starEach [] X.env := by rfl) : PE X (.Call (.Name "len" p1) [.Call (.Name "set" p2) [e] [] p3] [] pos) (tLenSetL X.K ta) := by
  constructor
  intro pins s σ H Q I h
  refine Call_ (ld_blt I g1 m1 boot_len (PyProof.Rows.callWith_builtin1 (PyProof.Rows.args_cons (Call_ (ld_blt I g2 m2 boot_set (PyProof.Rows.callWith_type1 (PyProof.Rows.args_cons (thn (he.run pins s σ H _ I h) ?_) no) no rfl))) rfl) rfl rfl))
  rintro v s1 ⟨x, H1, I1, rx, l, xs, rfl, hq, few, q⟩
  obtain rfl : v = Value.ref l := rx
  obtain ⟨us, rv, tup, _⟩ := I1.list hq
  refine PyProof.Rows.args_nil (by_init (init_lst (I1.ok.hd hc) (PlainL.isList tup) rv few fun h1 tk so k => ?_))
  have I2 : Inv X pins σ H1 { s1 with heap := h1, toks := tk } := I1.kept k
  obtain ⟨o, es, ep, t, ho, ex, hd, _, _, _, hf, hn⟩ := so
  have small := many_le xs
  exact PyProof.Rows.args_nil (call_len_set ho ex hd hf (by rw [hn]; omega) ⟨.int (many xs : Nat), H1, I2.tok _, ⟨_, by rw [hn]⟩, q⟩)
end
end SetX
set_option Elab.async false
set_option linter.all false
set_option maxRecDepth 100000
set_option maxHeartbeats 4000000
/-! Data that can be shown. -/
namespace LJ
open PySem L2 PySem.ErrV
open LamX (ExtN)
section
variable {H H1 : Hp}
mutual
theorem rp_seqN (s : ExtN H H1) : ∀ (d : PyData) (x : V), rp H d x → rp H1 d x
  | .none, x, e => by
    unfold rp at e ⊢
    exact e
  | .bool b, x, e => by
    unfold rp at e ⊢
    exact e
  | .int i, x, e => by
    unfold rp at e ⊢
    exact e
  | .str z, x, e => by
    unfold rp at e ⊢
    exact e
  | .list ds, x, e => by
    unfold rp at e ⊢
    obtain ⟨a, xs, h1, h2, h3⟩ := e
    exact ⟨a, xs, h1, s _ _ h2 (fun _ z => nomatch z), rpAll_seqN s ds xs h3⟩
  | .tuple ds, x, e => by
    unfold rp at e ⊢
    obtain ⟨a, xs, h1, h2, h3⟩ := e
    exact ⟨a, xs, h1, s _ _ h2 (fun _ z => nomatch z), rpAll_seqN s ds xs h3⟩
  | .dict ds, x, e => by
    unfold rp at e
    exact e.elim
theorem rpAll_seqN (s : ExtN H H1) : ∀ (ds : List PyData) (xs : List V), rpAll H ds xs → rpAll H1 ds xs
  | [], xs, e => by
    unfold rpAll at e ⊢
    exact e
  | d :: ds, xs, e => by
    unfold rpAll at e ⊢
    obtain ⟨y, ys, h1, h2, h3⟩ := e
    exact ⟨y, ys, h1, rp_seqN s d y h2, rpAll_seqN s ds ys h3⟩
end
theorem rpD_seqN (s : ExtN H H1) {d : PyData} {x : V} (e : rpD H d x) : rpD H1 d x := by
  obtain ⟨a, kvs, ds, h1, h2, h3⟩ := e
  exact ⟨a, kvs, ds, h1, s _ _ h2 (fun _ z => nomatch z), h3⟩
end
/-- x is the datum d, small enough to be shown -/
structure Dat (H : Hp) (d : PyData) (x : V) : Prop where
  at_ : rp H d x ∨ rpD H d x
  sh : d.showable = true
  dp : d.depth ≤ 100
  sz : d.shown.length ≤ sizeLine
  ok : PyData.strOk d.shown = true
theorem Dat.exN {H H1 : Hp} {d : PyData} {x : V} (h : Dat H d x) (s : ExtN H H1) : Dat H1 d x :=
  ⟨h.at_.elim (fun e => .inl (rp_seqN s d x e)) fun e => .inr (rpD_seqN s e), h.sh, h.dp, h.sz, h.ok⟩
end LJ
set_option Elab.async false
set_option linter.all false
set_option maxRecDepth 100000
set_option maxHeartbeats 8000000
namespace LJ
open PySem PySem.Spec L2 PySem.ErrV
/-! Works as data. -/
/-- data that can be shown and compared -/
structure Shw (dep wt : Nat) (d : PyData) : Prop where
  lay : d.canLay0 = true
  dp : d.depth ≤ dep
  wt : d.weight ≤ wt
  ish : PyData.intsShort 13 d = true
  sh : d.showable = true
theorem num_len13 {i : Int} (h0 : 0 ≤ i) (h1 : i ≤ 1000000000000) : (num i).length ≤ 13 := by
  show (TL.tl (num i)).length ≤ 13
  rw [tl_num h0]
  refine TL.numL_len (by decide) ?_
  have : (10 : Nat) ^ 13 = 10000000000000 := by decide
  omega
theorem shw_int {i : Int} (h0 : 0 ≤ i) (h1 : i ≤ 1000000000000) : Shw 0 60 (.int i) where
  lay := rfl
  dp := Nat.le_refl _
  wt := by
    unfold PyData.weight
    split
    · omega
    · rename_i z
      have l : i.natAbs < 2 ^ 41 := by
        have : (2 : Nat) ^ 41 = 2199023255552 := by decide
        omega
      by_cases e : i.natAbs = 0
      · rw [e]
        decide
      · have := (Nat.log2_lt e).mpr l
        omega
  ish := decide_eq_true (num_len13 h0 h1)
  sh := decide_eq_true (num_log h0 h1)
theorem shw_str {z : Str} (h : isW z = true) : Shw 0 60 (.str z) where
  lay := by
    show PyData.strOk z = true
    unfold PyData.strOk
    rw [← Array.all_toList, List.all_eq_true]
    intro c hc
    unfold isW at h
    rw [Bool.and_eq_true, Bool.and_eq_true] at h
    have := List.all_eq_true.mp h.2.2 c hc
    rw [Bool.and_eq_true, decide_eq_true_eq, decide_eq_true_eq] at this
    exact decide_eq_true (by omega)
  dp := Nat.le_refl _
  wt := by
    show z.length ≤ 60
    have := isW_8 h
    omega
  ish := rfl
  sh := rfl
theorem Shw.mono {a b n m : Nat} {d : PyData} (h : Shw a n d) (x : a ≤ b) (y : n ≤ m) : Shw b m d := ⟨h.lay, Nat.le_trans h.dp x, Nat.le_trans h.wt y, h.ish, h.sh⟩
theorem shw_all {a n : Nat} : ∀ {ds : List PyData}, (∀ d ∈ ds, Shw a n d) → PyData.canLayAll0 ds = true ∧ PyData.depthAll ds ≤ a ∧ PyData.weightAll ds ≤ ds.length * (n + 1) ∧ PyData.intsShortAll 13 ds = true ∧ PyData.showableAll ds = true
  | [], _ => ⟨rfl, Nat.zero_le _, Nat.zero_le _, rfl, rfl⟩
  | d :: ds, h => by
    obtain ⟨h1, h2, h3, h4, h5⟩ := shw_all (ds := ds) fun x hx => h x (List.mem_cons_of_mem _ hx)
    obtain ⟨k1, k2, k3, k4, k5⟩ := h d (List.mem_cons_self ..)
    refine ⟨?_, ?_, ?_, ?_, ?_⟩
    · unfold PyData.canLayAll0
      rw [k1, h1]
      rfl
    · unfold PyData.depthAll
      omega
    · unfold PyData.weightAll
      rw [List.length_cons, Nat.add_mul]
      omega
    · unfold PyData.intsShortAll
      rw [k4, h4]
      rfl
    · unfold PyData.showableAll
      rw [k5, h5]
      rfl
theorem shw_tuple {a n m : Nat} {ds : List PyData} (h : ∀ d ∈ ds, Shw a n d) (l : ds.length ≤ m) : Shw (a + 1) (m * (n + 1)) (.tuple ds) := by
  obtain ⟨h1, h2, h3, h4, h5⟩ := shw_all h
  have l2 : ds.length * (n + 1) ≤ m * (n + 1) := Nat.mul_le_mul_right _ l
  refine ⟨h1, ?_, ?_, h4, h5⟩
  · unfold PyData.depth
    omega
  · unfold PyData.weight
    omega
theorem shw_list {a n m : Nat} {ds : List PyData} (h : ∀ d ∈ ds, Shw a n d) (l : ds.length ≤ m) : Shw (a + 1) (m * (n + 1)) (.list ds) := by
  obtain ⟨h1, h2, h3, h4, h5⟩ := shw_all h
  have l2 : ds.length * (n + 1) ≤ m * (n + 1) := Nat.mul_le_mul_right _ l
  refine ⟨h1, ?_, ?_, h4, h5⟩
  · unfold PyData.depth
    omega
  · unfold PyData.weight
    omega
theorem Shw.len {a n : Nat} {d : PyData} (h : Shw a n d) (x : a ≤ 64) (y : n ≤ 1000000) : d.shown.length ≤ sizeLine := by
  have z : d.layable0 = true := by
    unfold PyData.layable0
    rw [h.lay, decide_eq_true (p := d.depth ≤ 64) (Nat.le_trans h.dp x), decide_eq_true (p := d.weight ≤ 2 ^ 20) (Nat.le_trans h.wt (Nat.le_trans y (by decide)))]
    rfl
  have := PyData.shown_le_of_layable0 z h.ish
  rw [sizeLine_eq]
  omega
theorem Shw.shaped {a n : Nat} {d : PyData} (h : Shw a n d) (x : a ≤ 64) : SeqAt.shaped d = true := by
  unfold SeqAt.shaped
  rw [h.lay, decide_eq_true (p := d.depth ≤ 64) (Nat.le_trans h.dp x)]
  rfl
def dB (b : Int × Int) : PyData := .tuple [.int b.1, .int b.2]
def d3 (r : Str × Int × Int) : PyData := .tuple [.str r.1, .int r.2.1, .int r.2.2]
def d2 (r : Str × Int) : PyData := .tuple [.str r.1, .int r.2]
def dP (r : Str × List (Int × Int)) : PyData := .tuple [.str r.1, .tuple (r.2.map dB)]
def dW (W : Wd) : List PyData := [.tuple (W.ms.map d3), .tuple (W.cs.map d3), .tuple (W.ss.map d2), .tuple (W.ps.map dP)]
theorem shw_B {b : Int × Int} (s : Small b) : Shw 1 122 (dB b) := by
  obtain ⟨s1, s2, s3⟩ := s
  refine shw_tuple (a := 0) (n := 60) (ds := [.int b.1, .int b.2]) (m := 2) (fun d hd => ?_) (Nat.le_refl 2)
  simp only [List.mem_cons, List.not_mem_nil, or_false] at hd
  rcases hd with rfl | rfl
  · exact shw_int s1 (Int.le_trans s2 s3)
  · exact shw_int (Int.le_trans s1 s2) s3
theorem shw_3 {r : Str × Int × Int} (w : isW r.1 = true) (b : 0 ≤ r.2.1 ∧ r.2.1 ≤ r.2.2 ∧ r.2.2 ≤ 1000) : Shw 1 183 (d3 r) := by
  refine shw_tuple (a := 0) (n := 60) (ds := [.str r.1, .int r.2.1, .int r.2.2]) (m := 3) (fun d hd => ?_) (Nat.le_refl 3)
  simp only [List.mem_cons, List.not_mem_nil, or_false] at hd
  rcases hd with rfl | rfl | rfl
  · exact shw_str w
  · exact shw_int (by omega) (by omega)
  · exact shw_int (by omega) (by omega)
theorem shw_2 {r : Str × Int} (w : isW r.1 = true) (b : 0 ≤ r.2 ∧ r.2 ≤ 1000000000000) : Shw 1 122 (d2 r) := by
  refine shw_tuple (a := 0) (n := 60) (ds := [.str r.1, .int r.2]) (m := 2) (fun d hd => ?_) (Nat.le_refl 2)
  simp only [List.mem_cons, List.not_mem_nil, or_false] at hd
  rcases hd with rfl | rfl
  · exact shw_str w
  · exact shw_int b.1 b.2
theorem shw_P {r : Str × List (Int × Int)} (w : isW r.1 = true) (l : r.2.length ≤ 3) (b : ∀ x ∈ r.2, Small x) : Shw 3 1000 (dP r) := by
  have h1 : Shw 2 369 (.tuple (r.2.map dB)) := shw_tuple (m := 3) (fun d hd => by
    obtain ⟨x, hx, rfl⟩ := List.mem_map.mp hd
    exact shw_B (b x hx)) (by rw [List.length_map]; exact l)
  refine (shw_tuple (ds := [.str r.1, .tuple (r.2.map dB)]) (a := 2) (n := 369) (m := 2) (fun d hd => ?_) (Nat.le_refl 2)).mono (Nat.le_refl _) (by decide)
  simp only [List.mem_cons, List.not_mem_nil, or_false] at hd
  rcases hd with rfl | rfl
  · exact (shw_str w).mono (by decide) (by decide)
  · exact h1
theorem shw_W {W : Wd} (g : GoodF W) : Shw 5 100000 (.list (dW W)) := by
  have g1 := g.m2
  have g2 := g.c2
  have g3 := g.s2
  have g4 := g.p2
  refine (shw_list (ds := dW W) (a := 4) (n := 8008) (m := 4) (fun d hd => ?_) (Nat.le_refl 4)).mono (Nat.le_refl _) (by decide)
  unfold dW at hd
  simp only [List.mem_cons, List.not_mem_nil, or_false] at hd
  rcases hd with rfl | rfl | rfl | rfl
  · exact (shw_tuple (a := 1) (n := 183) (m := 8) (fun d hd => by
      obtain ⟨x, hx, rfl⟩ := List.mem_map.mp hd
      exact shw_3 (g.wm hx) (g.mb x hx)) (by rw [List.length_map]; omega)).mono (by decide) (by decide)
  · exact (shw_tuple (a := 1) (n := 183) (m := 8) (fun d hd => by
      obtain ⟨x, hx, rfl⟩ := List.mem_map.mp hd
      exact shw_3 (g.wc hx) (g.cb x hx)) (by rw [List.length_map]; omega)).mono (by decide) (by decide)
  · exact (shw_tuple (a := 1) (n := 122) (m := 8) (fun d hd => by
      obtain ⟨x, hx, rfl⟩ := List.mem_map.mp hd
      exact shw_2 (g.ws hx) (g.sb x hx)) (by rw [List.length_map]; omega)).mono (by decide) (by decide)
  · exact (shw_tuple (a := 3) (n := 1000) (m := 8) (fun d hd => by
      obtain ⟨x, hx, rfl⟩ := List.mem_map.mp hd
      have h := g.pb x hx
      exact shw_P (g.wp hx) (by omega) h.2) (by rw [List.length_map]; omega)).mono (by decide) (by decide)
/-! as what is shown -/
theorem rpAll_of {α : Type} {H : Hp} {f : α → PyData} : ∀ {vs : List V} {rs : List α}, Paired (fun v r => rp H (f r) v) vs rs → rpAll H (rs.map f) vs
  | _, _, .nil => by
    unfold rpAll
    rfl
  | v :: vs, r :: rs, .cons a t => by
    show rpAll H (f r :: rs.map f) (v :: vs)
    unfold rpAll
    exact ⟨v, vs, rfl, a, rpAll_of t⟩
theorem rp_B {H : Hp} {v : V} {b : Int × Int} (h : Bnd H v b) : rp H (dB b) v := by
  obtain ⟨a, rfl, e⟩ := h
  unfold dB rp
  exact ⟨a, _, rfl, e, by simp [rpAll, rp]⟩
theorem rp_3 {H : Hp} {v : V} {r : Str × Int × Int} (h : Row3 H v r) : rp H (d3 r) v := by
  obtain ⟨a, rfl, e⟩ := h
  unfold d3 rp
  exact ⟨a, _, rfl, e, by simp [rpAll, rp]⟩
theorem rp_2 {H : Hp} {v : V} {r : Str × Int} (h : Row2 H v r) : rp H (d2 r) v := by
  obtain ⟨a, rfl, e⟩ := h
  unfold d2 rp
  exact ⟨a, _, rfl, e, by simp [rpAll, rp]⟩
theorem rp_tup {α : Type} {H : Hp} {f : α → PyData} {a : Addr} {vs : List V} {rs : List α} (e : H a = some (.tup vs)) (h : Paired (fun v r => rp H (f r) v) vs rs) : rp H (.tuple (rs.map f)) (.ref a) := by
  unfold rp
  exact ⟨a, vs, rfl, e, rpAll_of h⟩
theorem rp_P {H : Hp} {v : V} {r : Str × List (Int × Int)} (h : RowP H v r) : rp H (dP r) v := by
  obtain ⟨a, t, vs, rfl, e, et, p⟩ := h
  have h1 : rp H (.tuple (r.2.map dB)) (.ref t) := rp_tup et (L2.Paired.mapP p fun _ _ z => rp_B z)
  unfold dP
  unfold rp
  refine ⟨a, _, rfl, e, ?_⟩
  unfold rpAll
  refine ⟨_, _, rfl, by unfold rp; rfl, ?_⟩
  unfold rpAll
  exact ⟨_, _, rfl, h1, by unfold rpAll; rfl⟩
end LJ
set_option Elab.async false
set_option linter.all false
set_option maxRecDepth 100000
set_option maxHeartbeats 8000000
namespace LJ
open PySem PySem.Spec L2 PySem.ErrV
open LamX (ExtN)
open NdefX (NTab TabsN)
open OwnX
/-! Deeds as data; Plan's small methods. -/
def dD : Deed → PyData
  | .run p ms => .tuple [.str wRun, .str p, .tuple (ms.map PyData.str)]
  | .clean m c => .tuple [.str wClean, .str m, .str c]
def dDs (ds : List Deed) : PyData := .tuple (ds.map dD)
theorem shw_D {W : Wd} (g : GoodF W) {d : Deed} (h : DOk W d) : Shw 2 2000 (dD d) := by
  cases d with
  | run p ms =>
    obtain ⟨hp, l1, l4, nd, hm⟩ := h
    have h1 : Shw 1 244 (.tuple (ms.map PyData.str)) := shw_tuple (a := 0) (n := 60) (m := 4) (fun d hd => by
      obtain ⟨x, hx, rfl⟩ := List.mem_map.mp hd
      exact shw_str (g.nM (hm x hx))) (by rw [List.length_map]; exact l4)
    refine (shw_tuple (a := 1) (n := 244) (m := 3) (ds := [.str wRun, .str p, .tuple (ms.map PyData.str)]) (fun d hd => ?_) (Nat.le_refl 3)).mono (by decide) (by decide)
    simp only [List.mem_cons, List.not_mem_nil, or_false] at hd
    rcases hd with rfl | rfl | rfl
    · exact (shw_str run_w).mono (by decide) (by decide)
    · exact (shw_str (g.nP hp)).mono (by decide) (by decide)
    · exact h1
  | clean m c =>
    obtain ⟨hm, hc⟩ := h
    refine (shw_tuple (a := 0) (n := 60) (m := 3) (ds := [.str wClean, .str m, .str c]) (fun d hd => ?_) (Nat.le_refl 3)).mono (by decide) (by decide)
    simp only [List.mem_cons, List.not_mem_nil, or_false] at hd
    rcases hd with rfl | rfl | rfl
    · exact shw_str clean_w
    · exact shw_str (g.nM hm)
    · exact shw_str (g.nC hc)
theorem shw_Ds {W : Wd} (g : GoodF W) {ds : List Deed} (ok : DsOk W ds) : Shw 3 50000 (dDs ds) :=
  (shw_tuple (a := 2) (n := 2000) (m := 20) (fun d hd => by
    obtain ⟨x, hx, rfl⟩ := List.mem_map.mp hd
    exact shw_D g (ok.all x hx)) (by rw [List.length_map]; exact ok.len)).mono (by decide) (by decide)
theorem rpAll_strs {H : Hp} : ∀ ns : List Str, rpAll H (ns.map PyData.str) (ns.map V.str)
  | [] => by
    unfold rpAll
    rfl
  | n :: ns => by
    show rpAll H (.str n :: ns.map PyData.str) (.str n :: ns.map V.str)
    unfold rpAll
    refine ⟨.str n, _, rfl, ?_, rpAll_strs ns⟩
    unfold rp
    rfl
theorem rp_D {H : Hp} {v : V} {d : Deed} (h : DeedAt H v d) : rp H (dD d) v := by
  cases d with
  | run p ms =>
    obtain ⟨a, t, rfl, h1, h2⟩ := h
    unfold dD rp
    refine ⟨a, _, rfl, h1, ?_⟩
    unfold rpAll rpAll rpAll rpAll
    refine ⟨_, _, rfl, ?_, _, _, rfl, ?_, _, _, rfl, ?_, rfl⟩
    · unfold rp
      rfl
    · unfold rp
      rfl
    · unfold rp
      exact ⟨t, _, rfl, h2, rpAll_strs ms⟩
  | clean m c =>
    obtain ⟨a, rfl, h1⟩ := h
    unfold dD rp
    refine ⟨a, _, rfl, h1, ?_⟩
    unfold rpAll rpAll rpAll rpAll
    refine ⟨_, _, rfl, ?_, _, _, rfl, ?_, _, _, rfl, ?_, rfl⟩
    · unfold rp
      rfl
    · unfold rp
      rfl
    · unfold rp
      rfl
theorem dpAll_of {α : Type} {K : PySem.W.Frag} {H : Hp} {f : α → PyData} : ∀ {vs : List V} {rs : List α}, Paired (fun v r => Dp K H v (f r)) vs rs → DpAll K H vs (rs.map f)
  | _, _, .nil => .nil
  | _, _, .cons a t => .cons a (dpAll_of t)
theorem dpAll_strs {K : PySem.W.Frag} {H : Hp} : ∀ ns : List Str, DpAll K H (ns.map V.str) (ns.map PyData.str)
  | [] => .nil
  | n :: ns => .cons (.str n) (dpAll_strs ns)
theorem dp_D {K : PySem.W.Frag} {H : Hp} {v : V} {d : Deed} (h : DeedAt H v d) : Dp K H v (dD d) := by
  cases d with
  | run p ms =>
    obtain ⟨a, t, rfl, h1, h2⟩ := h
    exact .tup (SqT.of h1) (.cons (.str _) (.cons (.str _) (.cons (.tup (SqT.of h2) (dpAll_strs ms)) .nil)))
  | clean m c =>
    obtain ⟨a, rfl, h1⟩ := h
    exact .tup (SqT.of h1) (.cons (.str _) (.cons (.str _) (.cons (.str _) .nil)))
theorem dp_Ds {K : PySem.W.Frag} {H : Hp} {td : Addr} {rs : List V} {ds : List Deed} (e : H td = some (.tup rs)) (h : Paired (DeedAt H) rs ds) : Dp K H (.ref td) (dDs ds) := .tup (SqT.of e) (dpAll_of (L2.Paired.mapP h fun _ _ z => dp_D z))
theorem rp_Ds {H : Hp} {td : Addr} {rs : List V} {ds : List Deed} (e : H td = some (.tup rs)) (h : Paired (DeedAt H) rs ds) : rp H (dDs ds) (.ref td) := rp_tup e (L2.Paired.mapP h fun _ _ z => rp_D z)
theorem eqvAll_len : ∀ {xs ys : List PyData}, xs.length ≠ ys.length → PyData.eqvAll xs ys = false
  | [], [], h => absurd rfl h
  | [], _ :: _, _ => by
    unfold PyData.eqvAll
    rfl
  | _ :: _, [], _ => by
    unfold PyData.eqvAll
    rfl
  | x :: xs, y :: ys, h => by
    unfold PyData.eqvAll
    rw [eqvAll_len (xs := xs) (ys := ys) fun z => h (by rw [List.length_cons, List.length_cons, z]), Bool.and_false]
theorem eqv_len {ds es : List Deed} (h : ds.length ≠ es.length) : (dDs ds).eqv (dDs es) = false := by
  unfold dDs PyData.eqv
  exact eqvAll_len (by rw [List.length_map, List.length_map]; exact h)
end LJ
set_option Elab.async false
set_option linter.all false
set_option maxRecDepth 100000
set_option maxHeartbeats 8000000
namespace LJ
open PySem PySem.Spec L2 PySem.ErrV
open LamX (ExtN)
open NdefX (NTab TabsN)
open OwnX
/-- deeds in a list, as the law has them -/
structure DeedsAt (H : Hp) (l : Addr) (ds : List Deed) : Prop where
  at_ : ∃ vals, H l = some (.lst vals) ∧ Paired (DeedAt H) vals ds
theorem DeedsAt.ex {H H1 : Hp} {l : Addr} {ds : List Deed} (e : Ex H H1) (h : DeedsAt H l ds) : DeedsAt H1 l ds := by
  obtain ⟨vals, h1, h2⟩ := h
  exact ⟨vals, e _ _ h1, deeds_tup (Ex.tup e) h2⟩
theorem JarAt.exx {j : Addr} {H H1 : Hp} (J : JarAt H j) (e : Ex H H1) : JarAt H1 j := by
  obtain ⟨d, m, c, h, r⟩ := J
  exact ⟨d, m, c, e _ _ h, r⟩
theorem PlanAt.ex {PC C y x td : Addr} {W : Wd} {ds : List Deed} {H H1 : Hp} (e : Ex H H1) (h : PlanAt PC C H y x W td ds) : PlanAt PC C H1 y x W td ds := by
  obtain ⟨wk, dy, tl, rs, h1, h2, h3, h4⟩ := h
  exact ⟨wk.ex e, dy, tl, rs, e _ _ h1, e _ _ h2, deeds_tup (Ex.tup e) h3, e _ _ h4⟩
theorem WkD.butJ {C x j : Addr} {W : Wd} {H H1 : Hp} (J : JarAt H j) (b : But j H H1) (h : WkD C H x W) : WkD C H1 x W := by
  obtain ⟨d, m, c, hj, _⟩ := J
  obtain ⟨am, ac, as, ap, ⟨dx, D1, D2, D3, D4, b1, b2, v4, hx, ⟨g1, g2⟩, ⟨g3, g4⟩, g5, g6, g7⟩, ⟨⟨v1, m1, m2⟩, ⟨v2, m3, m4⟩, ⟨v3, m5, m6⟩, ⟨v5, m7, m8⟩⟩⟩ := h
  have t : Tup H H1 := fun a xs e => b a _ (ne_of e hj fun z => nomatch z) e
  have k : ∀ {a : Addr} {kvs : List (Key × V)}, H a = some (.dK kvs) → H1 a = some (.dK kvs) := fun {a kvs} e => b a _ (ne_of e hj fun z => nomatch z) e
  refine ⟨am, ac, as, ap, ⟨dx, D1, D2, D3, D4, b1, b2, v4, b x _ (ne_of hx hj fun z => nomatch z) hx, ⟨k g1, bnds t g2⟩, ⟨k g3, bnds t g4⟩, k g5, k g6, L2.Paired.mapP g7 fun v q z => ?_⟩, ⟨⟨v1, t _ _ m1, rows3 t m2⟩, ⟨v2, t _ _ m3, rows3 t m4⟩, ⟨v3, t _ _ m5, rows2 t m6⟩, ⟨v5, t _ _ m7, rowsP t m8⟩⟩⟩
  obtain ⟨Dp, ys, z1, z2, z3⟩ := z
  exact ⟨Dp, ys, z1, k z2, bnds t z3⟩
theorem PlanAt.butJ {PC C y x td j : Addr} {W : Wd} {ds : List Deed} {H H1 : Hp} (J : JarAt H j) (b : But j H H1) (h : PlanAt PC C H y x W td ds) : PlanAt PC C H1 y x W td ds := by
  obtain ⟨wk, dy, tl, rs, h1, h2, h3, h4⟩ := h
  have wk' := wk.butJ J b
  obtain ⟨d, m, c, hj, _⟩ := J
  have t : Tup H H1 := fun a xs e => b a _ (ne_of e hj fun z => nomatch z) e
  exact ⟨wk', dy, tl, rs, b _ _ (ne_of h1 hj fun z => nomatch z) h1, t _ _ h2, deeds_tup t h3, t _ _ h4⟩
section
variable {P : Program} {w : World} {K : PySem.W.Frag} {mg : Str → Option Value} {base : Heap} {C PC : Addr}
theorem scQ3 : FnScope ["self"] ["self"] (defScope (pmeth 3)) := ⟨rfl, rfl, rfl, by decide +kernel, rfl, by decide +kernel, by decide +kernel⟩
theorem ok_q3 {f : Addr} {fd : FuncData} (F : Fun K "deeds" "Plan.deeds" (pmeth 3) f fd) (c : PCls K PC) : FnOk P w K mg base CX0 1 f fd ["self"] (getSp PC "_deeds") := by
  refine F.ok scQ3 (fun vs H Q E h => ?_) (fun cdv A outer s H vs Q E hr h => ?_)
  · obtain ⟨x, dx, fs, v, rfl, _⟩ := h
    rfl
  · obtain ⟨x, dx, fs, v, rfl, hx, hf, q⟩ := h
    refine ⟨_, pss_one (ps_ret (pe_fld (pv 0) rfl)), ?_⟩
    exact ⟨_, rfl, x, PC, dx, fs, _, rfl, hx, c.cl, c.n2, hf, q⟩
end
end LJ
set_option Elab.async false
set_option linter.all false
set_option maxRecDepth 100000
set_option maxHeartbeats 8000000
namespace LJ
open PySem PySem.Spec L2 PySem.ErrV
open LamX (ExtN)
open NdefX (NTab TabsN)
open OwnX
/-! What a turn of _law_some_deeds reads. -/
def rLenS (K : PySem.W.Frag) : List V → Hp → VK → Prop := fun xs H Q => ∃ p ys, xs = [.ref p] ∧ (SqL K H p ys ∨ SqT K H p ys) ∧ Q (.int ys.length) H
def rInt1 : List V → Hp → VK → Prop := fun xs H Q => (∃ i, xs = [V.int i] ∧ Q (V.int i) H) ∨ ∃ k, xs = [V.bl k] ∧ Q (V.int (if k = true then 1 else 0)) H
theorem dp_3 {K : PySem.W.Frag} {H : Hp} {v : V} {r : Str × Int × Int} (h : Row3 H v r) : Dp K H v (d3 r) := by
  obtain ⟨a, rfl, e⟩ := h
  exact .tup (SqT.of e) (.cons (.str _) (.cons (.int _) (.cons (.int _) .nil)))
theorem eqv_nil : ∀ xs : List PyData, (PyData.list xs).eqv (.list []) = xs.isEmpty
  | [] => by
    unfold PyData.eqv PyData.eqvAll
    rfl
  | x :: xs => by
    unfold PyData.eqv PyData.eqvAll
    rfl
/-- a list of references is not the jar -/
theorem refs_ne {H : Hp} {j a : Addr} {vs : List V} (J : JarAt H j) (h : H a = some (.lst vs)) (r : ∀ v ∈ vs, ∃ b, v = .ref b) : a ≠ j := by
  rintro rfl
  obtain ⟨d, m, c, hj, _⟩ := J
  rw [h] at hj
  have e : vs = [.int d, .int m, .int c] := HO.lst.inj (Option.some.inj hj)
  obtain ⟨b, hb⟩ := r (.int d) (by rw [e]; exact List.mem_cons_self ..)
  cases hb
theorem rows3_ref {H : Hp} {vs : List V} {rs : List (Str × Int × Int)} (p : Paired (Row3 H) vs rs) : ∀ v ∈ vs, ∃ b, v = .ref b := by
  induction p with
  | nil => intro v h; exact (List.not_mem_nil h).elim
  | cons a t ih =>
    intro v h
    rcases List.mem_cons.mp h with rfl | h
    · obtain ⟨b, rfl, _⟩ := a
      exact ⟨b, rfl⟩
    · exact ih v h
theorem rowsP_ref {H : Hp} {vs : List V} {rs : List (Str × List (Int × Int))} (p : Paired (RowP H) vs rs) : ∀ v ∈ vs, ∃ b, v = .ref b := by
  induction p with
  | nil => intro v h; exact (List.not_mem_nil h).elim
  | cons a t ih =>
    intro v h
    rcases List.mem_cons.mp h with rfl | h
    · obtain ⟨b, _, _, rfl, _⟩ := a
      exact ⟨b, rfl⟩
    · exact ih v h
theorem deeds_ref {H : Hp} {vs : List V} {ds : List Deed} (p : Paired (DeedAt H) vs ds) : ∀ v ∈ vs, ∃ b, v = .ref b := by
  induction p with
  | nil => intro v h; exact (List.not_mem_nil h).elim
  | @cons x d xs ds a t ih =>
    intro v h
    rcases List.mem_cons.mp h with rfl | h
    · cases d with
      | run p ms =>
        obtain ⟨b, _, rfl, _⟩ := a
        exact ⟨b, rfl⟩
      | clean m c =>
        obtain ⟨b, rfl, _⟩ := a
        exact ⟨b, rfl⟩
    · exact ih v h
/-- the world, by its parts, while the jar changes -/
structure Wo (H : Hp) (j p a b c d : Addr) (va vb vc vd : List V) (W : Wd) : Prop where
  jar : JarAt H j
  hp : H p = some (.lst [.ref a, .ref b, .ref c, .ref d])
  ha : H a = some (.lst va)
  pa : Paired (Row3 H) va W.ms
  hb : H b = some (.lst vb)
  pb : Paired (Row3 H) vb W.cs
  hd : H d = some (.lst vd)
  pd : Paired (RowP H) vd W.ps
theorem but_tup {H H1 : Hp} {j : Addr} (J : JarAt H j) (b : But j H H1) : Tup H H1 := fun a xs e => by
  obtain ⟨d, m, c, hj, _⟩ := J
  exact b a _ (ne_of e hj fun z => nomatch z) e
theorem Wo.but {H H1 : Hp} {j p a b c d : Addr} {va vb vc vd : List V} {W : Wd} (h : Wo H j p a b c d va vb vc vd W) (bt : But j H H1) (J1 : JarAt H1 j) : Wo H1 j p a b c d va vb vc vd W := by
  have t := but_tup h.jar bt
  refine ⟨J1, bt _ _ (refs_ne h.jar h.hp ?_) h.hp, bt _ _ (refs_ne h.jar h.ha (rows3_ref h.pa)) h.ha, rows3 t h.pa, bt _ _ (refs_ne h.jar h.hb (rows3_ref h.pb)) h.hb, rows3 t h.pb, bt _ _ (refs_ne h.jar h.hd (rowsP_ref h.pd)) h.hd, rowsP t h.pd⟩
  intro v hv
  simp only [List.mem_cons, List.not_mem_nil, or_false] at hv
  rcases hv with rfl | rfl | rfl | rfl <;> exact ⟨_, rfl⟩
theorem Wo.ex {H H1 : Hp} {j p a b c d : Addr} {va vb vc vd : List V} {W : Wd} (h : Wo H j p a b c d va vb vc vd W) (e : Ex H H1) : Wo H1 j p a b c d va vb vc vd W := h.but (But.ex e) (h.jar.exx e)
theorem DeedsAt.but {H H1 : Hp} {j l : Addr} {ds : List Deed} (J : JarAt H j) (b : But j H H1) (h : DeedsAt H l ds) : DeedsAt H1 l ds := by
  obtain ⟨vals, h1, h2⟩ := h
  exact ⟨vals, b _ _ (refs_ne J h1 (deeds_ref h2)) h1, deeds_tup (but_tup J b) h2⟩
/-- world[1] != [] and dip(jar, 3) == 0 -/
theorem rd_cond {K : PySem.W.Frag} {σ : L2.St} {G : Hp} {Q : Bool → Hp → Prop} {j p a b c d : Addr} {va vb vc vd : List V} {W : Wd} (g : GoodF W) (h0 : σ[0]? = some (some (.ref j))) (h1 : σ[1]? = some (some (.ref p))) (w : Wo G j p a b c d va vb vc vd W)
    (q : ∀ (x : Bool) (G1 : Hp), JarAt G1 j → But j G G1 → (x = true → W.cs ≠ []) → Q x G1) :
    tAnd (tTest (tOp (rNeD K) (tOp (rIxL K) (tVar 1) (tC (.int 1))) (tLst tNil))) (tTest (tOp rEq (tCall spDip [] E0 (tCons (tVar 0) (tCons (tC (.int 3)) tNil))) (tC (.int 0)))) σ G Q := by
  refine ⟨_, h1, p, _, _, _, rfl, rfl, SqL.of w.hp, atI_nat (j := 1) rfl, by rw [sizeLine_eq]; exact Nat.zero_le _, fun pe npe => ?_⟩
  have x1 : Ex G (upd G pe (.lst [])) := Ex.refl.new npe
  have w1 := w.ex x1
  have SH : Shw 2 10000 (.list (W.cs.map d3)) := (shw_list (a := 1) (n := 183) (m := 6) (fun d hd => by
    obtain ⟨r, hr, rfl⟩ := List.mem_map.mp hd
    exact shw_3 (g.wc hr) (g.cb r hr)) (by rw [List.length_map]; exact g.c2)).mono (by decide) (by decide)
  refine ⟨.list (W.cs.map d3), .list [], .lst (SqL.of w1.hb) (dpAll_of (L2.Paired.mapP w1.pb fun _ _ z => dp_3 z)), .lst (SqL.of upd_same) .nil, SH.shaped (by decide), by decide +kernel, _, rfl, ?_⟩
  rw [eqv_nil]
  generalize upd G pe (.lst []) = G1 at x1 w1
  cases e : W.cs with
  | nil =>
    rw [e] at q
    exact q false G1 w1.jar (But.ex x1) fun z => nomatch z
  | cons r rs =>
    rw [e] at q
    show (tTest (tOp rEq (tCall spDip [] E0 (tCons (tVar 0) (tCons (tC (.int 3)) tNil))) (tC (.int 0)))) σ G1 Q
    refine ⟨_, h0, j, 3, rfl, w1.jar, by decide, by decide, fun n G2 n0 n3 J2 b2 => ?_⟩
    exact ⟨rfl, _, rfl, q _ G2 J2 ((But.ex x1).trans b2) fun _ => List.cons_ne_nil _ _⟩
end LJ
set_option Elab.async false
set_option linter.all false
set_option maxRecDepth 100000
set_option maxHeartbeats 8000000
namespace LJ
open PySem PySem.Spec L2
open LamX (ExtN)
open NdefX (NTab TabsN)
/-! The names of the world's parts, as the law lists them (from k08's LqA). -/
def nss (W : Wd) : List (List Str) := [W.ms.map (·.1), W.cs.map (·.1), W.ss.map (·.1), W.ps.map (·.1)]
/-- a part of the world: rows with these names -/
def PartAt (H : Hp) (v : V) (ns : List Str) : Prop := ∃ (a : Addr) (vs : List V), v = .ref a ∧ H a = some (.lst vs) ∧ Paired (NRow H) vs ns ∧ vs.length ≤ 10
theorem name2 {H : Hp} {vs : List V} {rs : List (Str × Int)} (h : Paired (Row2 H) vs rs) : Paired (NRow H) vs (rs.map (·.1)) := by
  induction h with
  | nil => exact .nil
  | cons a t ih =>
    obtain ⟨b, rfl, e⟩ := a
    exact .cons ⟨b, _, rfl, e⟩ ih
theorem parts_of {G : Hp} {wd : Addr} {W : Wd} (g : GoodF W) (h : WorldAt G wd W) : ∃ ys : List V, G wd = some (.lst ys) ∧ Paired (PartAt G) ys (nss W) := by
  obtain ⟨a, b, c, d, va, vb, vc, vd, hp, ha, pa, hb, pb, hc, pc, hd, pd⟩ := h
  have l1 := Paired.len pa
  have l2 := Paired.len pb
  have l3 := Paired.len pc
  have l4 := Paired.len pd
  have := g.m2
  have := g.c2
  have := g.s2
  have := g.p2
  exact ⟨_, hp, .cons ⟨a, va, rfl, ha, named3 pa, by omega⟩ (.cons ⟨b, vb, rfl, hb, named3 pb, by omega⟩ (.cons ⟨c, vc, rfl, hc, name2 pc, by omega⟩ (.cons ⟨d, vd, rfl, hd, namedP pd, by omega⟩ .nil)))⟩
/-- the kinds: four lists of names -/
def KindsAt (G : Hp) (k : Addr) (W : Wd) : Prop := ∃ a b c d : Addr, G k = some (.lst [.ref a, .ref b, .ref c, .ref d]) ∧ G a = some (.lst ((W.ms.map (·.1)).map V.str)) ∧ G b = some (.lst ((W.cs.map (·.1)).map V.str)) ∧ G c = some (.lst ((W.ss.map (·.1)).map V.str)) ∧ G d = some (.lst ((W.ps.map (·.1)).map V.str))
theorem kinds_of {G : Hp} {k : Addr} {W : Wd} {ps : List Addr} (h : G k = some (.lst (ps.map V.ref))) (p : Paired (fun p (ns : List Str) => G p = some (.lst (ns.map V.str))) ps (nss W)) : KindsAt G k W := by
  unfold nss at p
  cases p with
  | cons p1 p =>
    cases p with
    | cons p2 p =>
      cases p with
      | cons p3 p =>
        cases p with
        | cons p4 p =>
          cases p
          exact ⟨_, _, _, _, h, p1, p2, p3, p4⟩
theorem KindsAt.ex {G G1 : Hp} {k : Addr} {W : Wd} (e : Ex G G1) (h : KindsAt G k W) : KindsAt G1 k W := by
  obtain ⟨a, b, c, d, h1, h2, h3, h4, h5⟩ := h
  exact ⟨a, b, c, d, e _ _ h1, e _ _ h2, e _ _ h3, e _ _ h4, e _ _ h5⟩
end LJ
set_option Elab.async false
set_option linter.all false
set_option maxRecDepth 100000
set_option maxHeartbeats 8000000
namespace LJ
open PySem PySem.Spec L2
open LamX (ExtN)
open NdefX (NTab TabsN)
/-! The tests of _law_deed, each as one Bool. -/
def tWd (K : PySem.W.Frag) (i : Int) : TE := tOp (rIxL K) (tVar 1) (tC (.int i))
def tKd (K : PySem.W.Frag) (i : Int) : TE := tOp (rIxL K) (tVar 2) (tC (.int i))
def rLnW (K : PySem.W.Frag) : List V → Hp → VK → Prop := fun xs H Q => ∃ p ys, xs = [V.ref p] ∧ (SqL K H p ys ∨ SqT K H p ys) ∧ Q (.int ys.length) H
def tLnW (K : PySem.W.Frag) : TE := tCB (rLnW K) (tCons (tVar 1) tNil)
section
variable {K : PySem.W.Frag} {W : Wd} {σ : L2.St} {H : Hp} {Qb : Bool → Hp → Prop} {l D : Addr} {w0 : Str} {wr : List Str}
theorem rd_clean (s1 : σ[1]? = some (some (.ref l))) (s2 : σ[2]? = some (some (.ref D))) (hl : H l = some (.lst ((w0 :: wr).map V.str))) (kd : KindsAt H D W) (q : Qb (decide (w0 = wClean) && okW W (w0 :: wr)) H) :
    tAnd (tTest (tOp rEq (tWd K 0) (tC (.str wClean)))) (tAnd (tTest (tOp rEq (tLnW K) (tC (.int 3)))) (tAnd (tTest (tOp (rIn K false) (tWd K 1) (tKd K 0))) (tTest (tOp (rIn K false) (tWd K 2) (tKd K 1))))) σ H Qb := by
  obtain ⟨ka, kb, kc, kd4, h0, ha, hb, hc, hd⟩ := kd
  refine ⟨_, s1, l, _, _, _, rfl, rfl, SqL.of hl, atI_nat (j := 0) rfl, rfl, _, rfl, ?_⟩
  by_cases c0 : w0 = wClean
  · subst c0
    have nr : wClean ≠ wRun := by decide +kernel
    refine ite2 (fun _ => ?_) (fun z => absurd (decide_eq_true rfl) z)
    rw [decide_eq_true rfl, Bool.true_and] at q
    refine ⟨_, s1, l, _, rfl, .inl (SqL.of hl), rfl, _, rfl, ?_⟩
    match wr, hl, q with
    | [m, c], hl, q =>
      refine ite2 (fun _ => ?_) (fun z => absurd (by simp) z)
      rw [okW_cons, if_neg nr, decide_eq_true rfl, Bool.true_and] at q
      refine ⟨_, s1, l, _, _, _, rfl, rfl, SqL.of hl, atI_nat (j := 1) rfl, _, s2, D, _, _, _, rfl, rfl, SqL.of h0, atI_nat (j := 0) rfl, ?_⟩
      refine ⟨ka, _, rfl, .inl (SqL.of ha), rfl, flat_strs _, _, rfl, ?_⟩
      show if (inV (.str m) ((W.ms.map (·.1)).map V.str)) = true then _ else _
      rw [inV_strs]
      cases e1 : (W.ms.map (·.1)).contains m with
      | false =>
        rw [e1] at q
        have q : Qb (false && (W.cs.map (·.1)).contains c) H := q
        rw [Bool.false_and] at q
        exact ite2 (fun z => by cases z) (fun _ => q)
      | true =>
        rw [e1] at q
        have q : Qb (true && (W.cs.map (·.1)).contains c) H := q
        rw [Bool.true_and] at q
        refine ite2 (fun _ => ?_) (fun z => absurd rfl z)
        refine ⟨_, s1, l, _, _, _, rfl, rfl, SqL.of hl, atI_nat (j := 2) rfl, _, s2, D, _, _, _, rfl, rfl, SqL.of h0, atI_nat (j := 1) rfl, ?_⟩
        refine ⟨kb, _, rfl, .inl (SqL.of hb), rfl, flat_strs _, _, rfl, ?_⟩
        show Qb (inV (.str c) ((W.cs.map (·.1)).map V.str)) H
        rw [inV_strs]
        exact q
    | [], hl, q => exact ite2 (fun z => absurd z (by simp)) (fun _ => q)
    | [_], hl, q =>
      rw [okW_cons, if_neg nr, decide_eq_true rfl, Bool.true_and] at q
      exact ite2 (fun z => absurd z (by simp)) (fun _ => q)
    | _ :: _ :: _ :: _, hl, q =>
      rw [okW_cons, if_neg nr, decide_eq_true rfl, Bool.true_and] at q
      exact ite2 (fun z => absurd (of_decide_eq_true z) (by simp; omega)) (fun _ => q)
  · refine ite2 (fun z => absurd (by simpa using z) c0) (fun _ => ?_)
    rw [decide_eq_false c0, Bool.false_and] at q
    exact q
/-- words that begin as a run of a known product with one to four machines -/
def runB (W : Wd) : List Str → Bool
  | a :: p :: ms => decide (a = wRun) && (decide (1 ≤ ms.length) && (decide (ms.length ≤ 4) && (W.ps.map (·.1)).contains p))
  | _ => false
theorem rd_norun (s1 : σ[1]? = some (some (.ref l))) (s2 : σ[2]? = some (some (.ref D))) (hl : H l = some (.lst ((w0 :: wr).map V.str))) (kd : KindsAt H D W) (q : Qb (!runB W (w0 :: wr)) H) :
    tOr (tTest (tOp rNe (tWd K 0) (tC (.str wRun)))) (tOr (tNot (tTest (tChain (rI0 fun i j => V.bl (decide (i < j))) (rI0 fun i j => V.bl (decide (i < j))) (tC (.int 2)) (tLnW K) (tC (.int 7))))) (tTest (tOp (rIn K true) (tWd K 1) (tKd K 3)))) σ H Qb := by
  obtain ⟨ka, kb, kc, kd4, h0, ha, hb, hc, hd⟩ := kd
  refine ⟨_, s1, l, _, _, _, rfl, rfl, SqL.of hl, atI_nat (j := 0) rfl, rfl, _, rfl, ?_⟩
  by_cases c0 : w0 = wRun
  · subst c0
    refine ite2 (fun z => absurd z (by simp)) (fun _ => ?_)
    refine ⟨_, s1, l, _, rfl, .inl (SqL.of hl), ?_⟩
    refine ⟨2, _, rfl, rfl, _, rfl, ?_⟩
    match wr, hl, q with
    | [], hl, q =>
      refine ite2 (fun z => absurd (of_decide_eq_true z) (by simp)) (fun _ => ?_)
      exact ⟨_, rfl, ite2 (fun _ => q) (fun z => absurd rfl z)⟩
    | p :: ms, hl, q =>
      have ln : (List.map V.str (wRun :: p :: ms)).length = ms.length + 2 := by simp
      rw [ln]
      have e : runB W (wRun :: p :: ms) = (decide (1 ≤ ms.length) && (decide (ms.length ≤ 4) && (W.ps.map (·.1)).contains p)) := by
        show (decide (wRun = wRun) && _) = _
        rw [decide_eq_true rfl]
        exact Bool.true_and _
      rw [e] at q
      by_cases c1 : 1 ≤ ms.length
      · rw [decide_eq_true c1, Bool.true_and] at q
        refine ite2 (fun _ => ?_) (fun z => absurd (decide_eq_true (by omega)) z)
        refine ⟨_, 7, rfl, rfl, _, rfl, ?_⟩
        by_cases c2 : ms.length ≤ 4
        · rw [decide_eq_true c2, Bool.true_and] at q
          rw [decide_eq_true (show (((ms.length + 2 : Nat) : Int) < 7) by omega)]
          refine ite2 (fun z => absurd z (by decide)) (fun _ => ?_)
          refine ⟨_, s1, l, _, _, _, rfl, rfl, SqL.of hl, atI_nat (j := 1) rfl, _, s2, D, _, _, _, rfl, rfl, SqL.of h0, atI_nat (j := 3) rfl, ?_⟩
          refine ⟨kd4, _, rfl, .inl (SqL.of hd), rfl, flat_strs _, _, rfl, ?_⟩
          show Qb (!inV (.str p) ((W.ps.map (·.1)).map V.str)) H
          rw [inV_strs]
          exact q
        · rw [decide_eq_false c2, Bool.false_and] at q
          rw [decide_eq_false (show ¬ (((ms.length + 2 : Nat) : Int) < 7) by omega)]
          exact ite2 (fun _ => q) (fun z => absurd rfl z)
      · rw [decide_eq_false c1, Bool.false_and] at q
        refine ite2 (fun z => absurd (of_decide_eq_true z) (by omega)) (fun _ => ?_)
        exact ⟨_, rfl, ite2 (fun _ => q) (fun z => absurd rfl z)⟩
  · have e : runB W (w0 :: wr) = false := by
      cases wr with
      | nil => rfl
      | cons p ms =>
        show (decide (w0 = wRun) && _) = false
        rw [decide_eq_false c0, Bool.false_and]
    rw [e] at q
    exact ite2 (fun _ => q) (fun z => absurd (by simpa using c0) z)
end
end LJ
set_option Elab.async false
set_option linter.all false
set_option maxRecDepth 100000
set_option maxHeartbeats 8000000
namespace LJ
open PySem PySem.Spec L2
open LamX (ExtN)
open NdefX (NTab TabsN)
/-! The third test of _law_deed as one Bool. -/
abbrev nLde : List Str := ["_law_world_here", "_law_words", "_law_kinds", "_law_part", "_law_row", "_law_word"]
def teNk (K : PySem.W.Frag) : TT := tTest (tOp (rIn K true) (tVar 5) (tOp (rIxL K) (tVar 2) (tC (.int 0))))
def tSlW (K : PySem.W.Frag) : TE := tSl (rSlL K) (tVar 1) (tPart (tC (.int 2))) tNoPart
abbrev SDe (p l D : Addr) : L2.St := (L2.start nLde [.ref p, .ref l]).set 2 (some (.ref D))
theorem str_shaped {zs : List Str} (h : ∀ z ∈ zs, PyData.strOk z = true) : SeqAt.shaped (.list (zs.map PyData.str)) = true := by
  unfold SeqAt.shaped
  have h1 : ∀ zs : List Str, (∀ z ∈ zs, PyData.strOk z = true) → PyData.canLayAll0 (zs.map PyData.str) = true := by
    intro zs
    induction zs with
    | nil => exact fun _ => rfl
    | cons z zs ih =>
      intro h
      show (PyData.strOk z && PyData.canLayAll0 (zs.map PyData.str)) = true
      rw [h z (List.mem_cons_self ..), ih (fun y hy => h y (List.mem_cons_of_mem _ hy))]
      rfl
  have h2 : ∀ zs : List Str, PyData.depthAll (zs.map PyData.str) = 0 := by
    intro zs
    induction zs with
    | nil => rfl
    | cons z zs ih =>
      show max (PyData.depth (.str z)) (PyData.depthAll (zs.map PyData.str)) = 0
      rw [ih]
      rfl
  rw [Bool.and_eq_true]
  refine ⟨h1 zs h, decide_eq_true ?_⟩
  show PyData.depthAll (zs.map PyData.str) + 1 ≤ 64
  rw [h2]
  decide
theorem dp_strs {K : PySem.W.Frag} {H : Hp} : ∀ zs : List Str, DpAll K H (zs.map V.str) (zs.map PyData.str)
  | [] => .nil
  | z :: zs => .cons (.str z) (dp_strs zs)
section
variable {K : PySem.W.Frag} {W : Wd} {H : Hp} {Qb : Bool → Hp → Prop} {p l D : Addr} {a b : Str} {ms : List Str}
theorem cut2 : cutV ((a :: b :: ms).map V.str) (some 2) none = ms.map V.str := by
  have := cut_dropN ((a :: b :: ms).map V.str) (i := 2) (by simp)
  exact this
theorem rd_bad (hl : H l = some (.lst ((a :: b :: ms).map V.str))) (kd : KindsAt H D W) (ok : ∀ z ∈ ms, PyData.strOk z = true) (m4 : ms.length ≤ 4) (q : ∀ H1, Ex H H1 → Qb (!(ms.all (fun m => (W.ms.map (·.1)).contains m) && decide ms.Nodup)) H1) :
    tOr (tTest (tOp (rNeD K) (tLc (iList K (tSlW K)) (gName 5) (teNk K) (tVar 5) [5]) (tLst tNil))) (tTest (tOp (rI0 fun i j => V.bl (decide (i < j))) (SetX.tLenSetL K (tSlW K)) (tOp (rI0 fun i j => V.int (i - j)) (tLnW K) (tC (.int 2))))) (SDe p l D) H Qb := by
  obtain ⟨ka, kb, kc, kd4, h0, ha, hb, hc, hd⟩ := kd
  have sz := sizeLine_eq
  refine ⟨_, rfl, _, rfl, l, _, rfl, SqL.of hl, fun L1 nL1 => ?_⟩
  have x1 : Ex H (upd H L1 (.lst (cutV ((a :: b :: ms).map V.str) (some 2) none))) := Ex.refl.new nL1
  rw [cut2] at x1 ⊢
  have e1 : (upd H L1 (.lst (ms.map V.str))) L1 = some (.lst (ms.map V.str)) := upd_same
  generalize upd H L1 (.lst (ms.map V.str)) = H1 at x1 e1 ⊢
  refine ⟨L1, rfl, ⟨_, SqL.of e1⟩, fun D2 nD2 => lc_list (K := K) (a := L1) (xs := ms.map V.str) (fun i H2 => Ex H1 H2 ∧ H2 D2 = some (.lst (((ms.take i).filter (fun m => !(W.ms.map (·.1)).contains m)).map V.str))) ⟨Ex.refl.new nD2, upd_same⟩ (fun i H2 _ ⟨e, _⟩ => SqL.of (e _ _ e1)) ?_ ?_⟩
  · rintro i v H2 hv ⟨x2, h2⟩
    rw [List.getElem?_map] at hv
    obtain ⟨m, hm, rfl⟩ := Option.map_eq_some_iff.mp hv
    have il : i < ms.length := (List.getElem?_eq_some_iff.mp hm).1
    have X := x1.trans x2
    refine ⟨rfl, ?_⟩
    refine ⟨_, rfl, _, rfl, D, _, _, _, rfl, rfl, SqL.of (X _ _ h0), atI_nat (j := 0) rfl, ka, _, rfl, .inl (SqL.of (X _ _ ha)), rfl, flat_strs _, _, rfl, ?_⟩
    show if (!inV (.str m) ((W.ms.map (·.1)).map V.str)) = true then _ else _
    rw [inV_strs]
    have tk : (ms.take (i + 1)).filter (fun m => !(W.ms.map (·.1)).contains m) = (ms.take i).filter (fun m => !(W.ms.map (·.1)).contains m) ++ (if (!(W.ms.map (·.1)).contains m) = true then [m] else []) := by
      rw [List.take_succ, hm, List.filter_append]
      show _ ++ [m].filter _ = _
      cases e : (W.ms.map (·.1)).contains m with
      | true => rw [List.filter_cons_of_neg (by rw [e]; decide), List.filter_nil]; rfl
      | false => rw [List.filter_cons_of_pos (by rw [e]; rfl), List.filter_nil]; rfl
    rw [tk]
    cases ec : (W.ms.map (·.1)).contains m with
    | true =>
      refine ite2 (fun z => by cases z) (fun _ => ?_)
      refine ⟨x2, ?_⟩
      show H2 D2 = some (.lst ((_ ++ []).map V.str))
      rw [List.append_nil]
      exact h2
    | false =>
      refine ite2 (fun _ => ?_) (fun z => absurd rfl z)
      refine ⟨_, rfl, _, h2, ?_, x2.put nD2, ?_⟩
      · have := List.length_filter_le (fun m => !(W.ms.map (·.1)).contains m) (ms.take i)
        rw [List.length_map]
        rw [List.length_take] at this
        omega
      · show _ = some (HO.lst ((_ ++ [m]).map V.str))
        rw [List.map_append]
        exact upd_same
  · rintro H2 ⟨x2, h2⟩
    rw [List.length_map, List.take_length] at h2
    generalize ez : ms.filter (fun m => !(W.ms.map (·.1)).contains m) = zs at h2
    refine ⟨by rw [sz]; exact Nat.zero_le _, fun E3 nE3 => ?_⟩
    have x3 : Ex H2 (upd H2 E3 (.lst [])) := Ex.refl.new nE3
    have e3 : (upd H2 E3 (.lst [])) E3 = some (.lst []) := upd_same
    generalize upd H2 E3 (.lst []) = H3 at x3 e3 ⊢
    refine ⟨.list (zs.map PyData.str), .list [], .lst (SqL.of (x3 _ _ h2)) (dp_strs zs), .lst (SqL.of e3) .nil, str_shaped (fun z hz => ok z ((List.mem_filter.mp (by rw [ez]; exact hz)).1)), by decide +kernel, _, rfl, ?_⟩
    rw [eqv_nil]
    have X := (x1.trans x2).trans x3
    have al : zs = [] ↔ ms.all (fun m => (W.ms.map (·.1)).contains m) = true := by
      rw [← ez, List.filter_eq_nil_iff, List.all_eq_true]
      refine forall_congr' fun m => forall_congr' fun _ => ?_
      simp
    cases zs with
    | cons z zt =>
      refine ite2 (fun _ => ?_) (fun z => absurd rfl z)
      have e : ms.all (fun m => (W.ms.map (·.1)).contains m) = false := by
        cases e : ms.all (fun m => (W.ms.map (·.1)).contains m) with
        | false => rfl
        | true => exact absurd (al.mpr e) (List.cons_ne_nil _ _)
      have q := q _ X
      rw [e] at q
      exact q
    | nil =>
      refine ite2 (fun z => by cases z) (fun _ => ?_)
      rw [al.mp rfl] at q
      refine ⟨_, rfl, _, rfl, l, _, rfl, SqL.of (X _ _ hl), fun L4 nL4 => ?_⟩
      have x4 : Ex H3 (upd H3 L4 (.lst (cutV ((a :: b :: ms).map V.str) (some 2) none))) := Ex.refl.new nL4
      rw [cut2] at x4 ⊢
      have e4 : (upd H3 L4 (.lst (ms.map V.str))) L4 = some (.lst (ms.map V.str)) := upd_same
      generalize upd H3 L4 (.lst (ms.map V.str)) = H4 at x4 e4 ⊢
      refine ⟨L4, ms, rfl, SqL.of e4, by omega, ?_⟩
      refine ⟨_, rfl, l, _, rfl, .inl (SqL.of (x4 _ _ (X _ _ hl))), ?_⟩
      have q := q _ (X.trans x4)
      rw [Bool.true_and] at q
      refine ⟨_, 2, rfl, rfl, _, _, rfl, rfl, _, rfl, ?_⟩
      have ll : ((List.map V.str (a :: b :: ms)).length : Int) - 2 = (ms.length : Nat) := by simp; omega
      rw [ll]
      have e : decide (((SetX.many ms : Nat) : Int) < (ms.length : Nat)) = !decide ms.Nodup := by
        have h1 := SetX.many_le ms
        have h2 := SetX.many_all ms
        by_cases c : ms.Nodup
        · rw [decide_eq_true c]
          exact decide_eq_false (by have := h2.mpr c; omega)
        · rw [decide_eq_false c]
          refine decide_eq_true ?_
          have : SetX.many ms ≠ ms.length := fun z => c (h2.mp z)
          omega
      rw [e]
      exact q
end
end LJ
set_option Elab.async false
set_option linter.all false
set_option maxRecDepth 100000
set_option maxHeartbeats 8000000
namespace LJ
open PySem PySem.Spec L2
open LamX (ExtN)
open NdefX (NTab TabsN)
/-! _law_deed: the deed that words tell. -/
abbrev sLde : Stmt := top 66
/-- what the law has for words: a deed as a tuple, or None -/
def DeedOr (H : Hp) (v : V) : Option Deed → Prop
  | some d => DeedAt H v d
  | none => v = .non
def spLde (K : PySem.W.Frag) : Sp := fun vs H Q _ => ∃ (p l : Addr) (W : Wd) (ws : List Str), vs = [.ref p, .ref l] ∧ WorldAt H p W ∧ GoodF W ∧ H l = some (.lst (ws.map V.str)) ∧ ws ≠ [] ∧ ws.length ≤ 2000000 ∧ (∀ s ∈ ws, PyData.strOk s = true) ∧
  ∀ v H1, Ex H H1 → DeedOr H1 v (if okW W ws = true then some (deedW ws) else none) → Q v H1
theorem clean_two {W : Wd} {wr : List Str} (ok : okW W (wClean :: wr) = true) : ∃ m c, wr = [m, c] := by
  match wr, ok with
  | [m, c], _ => exact ⟨m, c, rfl⟩
  | [], ok => cases ok
  | [_], ok =>
    rw [okW_cons, if_neg (by decide +kernel), Bool.and_eq_true] at ok
    cases ok.2
  | _ :: _ :: _ :: _, ok =>
    rw [okW_cons, if_neg (by decide +kernel), Bool.and_eq_true] at ok
    cases ok.2
theorem no_ok {W : Wd} {w0 : Str} {wr : List Str} (b1 : (decide (w0 = wClean) && okW W (w0 :: wr)) = false) (b2 : runB W (w0 :: wr) = false) : okW W (w0 :: wr) = false := by
  cases wr with
  | nil => rfl
  | cons p ms =>
    by_cases c : w0 = wRun
    · rw [okW_cons, if_pos c]
      have b2 : (decide (w0 = wRun) && (decide (1 ≤ ms.length) && (decide (ms.length ≤ 4) && (W.ps.map (·.1)).contains p))) = false := b2
      rw [decide_eq_true c, Bool.true_and] at b2
      revert b2
      cases (W.ps.map (·.1)).contains p <;> cases decide (1 ≤ ms.length) <;> cases decide (ms.length ≤ 4) <;> intro b2 <;> first | rfl | cases b2
    · by_cases d : w0 = wClean
      · rw [decide_eq_true d, Bool.true_and] at b1
        exact b1
      · rw [okW_cons, if_neg c, decide_eq_false d]
        rfl
theorem run_more {W : Wd} {w0 : Str} {wr : List Str} (b2 : runB W (w0 :: wr) = true) : ∃ b ms, wr = b :: ms ∧ ms.length ≤ 4 ∧ w0 = wRun ∧ okW W (w0 :: wr) = (ms.all (fun m => (W.ms.map (·.1)).contains m) && decide ms.Nodup) := by
  cases wr with
  | nil => cases b2
  | cons p ms =>
    have b2 : (decide (w0 = wRun) && (decide (1 ≤ ms.length) && (decide (ms.length ≤ 4) && (W.ps.map (·.1)).contains p))) = true := b2
    rw [Bool.and_eq_true, Bool.and_eq_true, Bool.and_eq_true] at b2
    obtain ⟨h1, h2, h3, h4⟩ := b2
    refine ⟨p, ms, rfl, of_decide_eq_true h3, of_decide_eq_true h1, ?_⟩
    rw [okW_cons, if_pos (of_decide_eq_true h1), h2, h3, h4]
    rfl
section
variable {P : Program} {w : World} {K : PySem.W.Frag} {mg : Str → Option Value} {base : Heap} {C : Addr}
theorem scLde : FnScope nLde ["_law_world_here", "_law_words"] (defScope sLde) := ⟨rfl, rfl, rfl, by decide +kernel, rfl, by decide +kernel, by decide +kernel⟩
theorem ok_lde {f : Addr} {fd : FuncData} (F : Fun K "_law_deed" "_law_deed" sLde f fd) (B : BltI mg) (bS : mg "set" = none) : FnOk P w K mg base CX0 1 f fd ["_law_world_here", "_law_words"] (spLde K) := by
  refine F.ok scLde (fun vs H Q E h => ?_) (fun cdv A outer s H vs Q E hr h => ?_)
  · obtain ⟨p, l, W, ws, rfl, _⟩ := h
    rfl
  · obtain ⟨p, l, W, ws, rfl, wa, g, hl, ne, lw, ls, q⟩ := h
    have hu : (A.deeper (PyProof.Rows.envOfC "_law_deed" (defScope sLde) s.heap.objs.size f cdv)).units + 64 < cLine := by
      have := hr.un
      omega
    refine ⟨_, pss_cons (ps_set (i := 2) scLde.nd rfl (Or.inr rfl) (pe_lc (own := [("_law_part", 3)]) (g := gName 3) (te := tLc (iList K (tVar 3)) (gName 4) tYes (tOp (rIxT K) (tVar 4) (tC (.int 0))) [4]) (by rfl) scLde.nd (pi_list (pv 0))
        (blkOk_by (own := [("_law_part", 3)]) (N := nLde) (sc := defScope sLde) (by decide +kernel)) (fun _ _ _ _ _ => pg_name (i := 3) scLde.nd rfl (Or.inl rfl)) (fun _ _ _ _ _ => pts_nil)
        (fun _ _ _ _ _ => pe_lc (own := [("_law_row", 4)]) (g := gName 4) (by rfl) scLde.nd (pi_list (pv 3)) (blkOk_by (own := [("_law_row", 4)]) (N := nLde) (by rfl)) (fun _ _ _ _ _ => pg_name (i := 4) scLde.nd rfl (Or.inl rfl)) (fun _ _ _ _ _ => pts_nil)
          (fun _ _ _ _ _ => pe_ix (show IxR _ (rIxT K) from ix_tup) (pv 4) pe_int (fun _ _ => rfl)))))
      (pss_cons (ps_if (PW.pt (pw_and (pt_cmpR op_eq (pe_ix ix_list (pv 1) pe_int (fun _ _ => rfl)) pe_str (nomark _)) (pw_and (pt_cmpR op_eq (pe_callB call_len_seq (by rfl) B.len (by decide +kernel) (pa_cons (pv 1) pa_nil)) pe_int (nomark _))
          (pw_and (pt_cmpR op_in_seq (pe_ix ix_list (pv 1) pe_int (fun _ _ => rfl)) (pe_ix ix_list (pv 2) pe_int (fun _ _ => rfl)) rfl) (pw_and1 (pt_cmpR op_in_seq (pe_ix ix_list (pv 1) pe_int (fun _ _ => rfl)) (pe_ix ix_list (pv 2) pe_int (fun _ _ => rfl)) rfl))))))
        (pss_one (ps_ret (pe_tup (pa_cons pe_str (pa_cons (pe_ix ix_list (pv 1) pe_int (fun _ _ => rfl)) (pa_cons (pe_ix ix_list (pv 1) pe_int (fun _ _ => rfl)) pa_nil)))))) pss_nil)
      (pss_cons (ps_if (PW.pt (pw_or (pt_cmpR op_ne (pe_ix ix_list (pv 1) pe_int (fun _ _ => rfl)) pe_str (nomark _)) (pw_or (pt_not (pt_chain op_lt op_lt pe_int (pe_callB call_len_seq (by rfl) B.len (by decide +kernel) (pa_cons (pv 1) pa_nil)) pe_int))
          (pw_or1 (pt_cmpR op_notIn_seq (pe_ix ix_list (pv 1) pe_int (fun _ _ => rfl)) (pe_ix ix_list (pv 2) pe_int (fun _ _ => rfl)) rfl))))) (pss_one (ps_ret pe_non)) pss_nil)
      (pss_cons (ps_if (PW.pt (pw_or (pt_cmpR (op_neD hu) (pe_lc (own := [("_law_word", 5)]) (g := gName 5) (tt := teNk K) (by rfl) scLde.nd (pi_list (pe_slice sl_list (pv 1) (po_some pe_int) po_none)) (blkOk_by (own := [("_law_word", 5)]) (N := nLde) (sc := defScope sLde) (by decide +kernel)) (fun _ _ _ _ _ => pg_name (i := 5) scLde.nd rfl (Or.inl rfl))
            (fun _ _ _ _ _ => pts_one (pt_cmpR (show OpR _ _ (rIn K true) from op_notIn_seq) (pv 5) (pe_ix (show IxR _ (rIxL K) from ix_list) (pv 2) pe_int (fun _ _ => rfl)) rfl)) (fun _ _ _ _ _ => pv 5)) (pe_lst pa_nil) (nomark _))
          (pw_or1 (pt_cmpR op_lt (SetX.pe_lenSetL rfl (by rfl) B.len (by rfl) bS (pe_slice sl_list (pv 1) (po_some pe_int) po_none)) (pe_op op_sub (pe_callB call_len_seq (by rfl) B.len (by decide +kernel) (pa_cons (pv 1) pa_nil)) pe_int) (nomark _))))) (pss_one (ps_ret pe_non)) pss_nil)
      (pss_one (ps_ret (pe_tup (pa_cons pe_str (pa_cons (pe_ix ix_list (pv 1) pe_int (fun _ _ => rfl)) (pa_cons (pe_tupleOf (by rfl) B.tuple (pe_slice sl_list (pv 1) (po_some pe_int) po_none)) pa_nil))))))))), ?_⟩
    have sz := sizeLine_eq
    obtain ⟨ys, hw, pt⟩ := parts_of g wa
    refine ⟨_, rfl, p, rfl, ⟨_, SqL.of hw⟩, fun D1 nD => lc_list (K := K) (a := p) (xs := ys)
      (fun i H1 => Ex H H1 ∧ ∃ ps : List Addr, ps.length = i ∧ H1 D1 = some (.lst (ps.map V.ref)) ∧ Paired (fun p (ns : List Str) => H1 p = some (.lst (ns.map V.str)) ∧ p ≠ D1) ps ((nss W).take i)) ⟨Ex.refl.new nD, [], rfl, upd_same, .nil⟩ (fun i H1 _ ⟨e, _⟩ => SqL.of (e _ _ hw)) ?_ ?_⟩
    · rintro i y H1 hy ⟨e1, ps, lp, hD, pp⟩
      obtain ⟨ns, hn, a, vs, rfl, ha, pn, lv⟩ := Paired.spot pt hy
      have hA := e1 _ _ ha
      have pn1 : Paired (NRow H1) vs ns := L2.Paired.mapP pn fun _ _ z => z.tup (Ex.tup e1)
      refine ⟨rfl, ?_⟩
      refine ⟨_, rfl, a, rfl, ⟨_, SqL.of hA⟩, fun D2 nD2 => lc_list (K := K) (a := a) (xs := vs) (fun n H2 => Ex H1 H2 ∧ H2 D2 = some (.lst ((ns.take n).map V.str))) ⟨Ex.refl.new nD2, upd_same⟩ (fun n H2 _ ⟨e, _⟩ => SqL.of (e _ _ hA)) ?_ ?_⟩
      · rintro n v2 H2 hv ⟨e2, h2⟩
        obtain ⟨nm, hnm, aR, r, rfl, hR⟩ := Paired.spot pn1 hv
        have nlt : n < vs.length := (List.getElem?_eq_some_iff.mp hv).1
        refine ⟨rfl, ?_⟩
        refine ⟨_, rfl, aR, _, 0, .str nm, rfl, rfl, SqT.of (e2 _ _ hR), atI_nat (j := 0) rfl, _, h2, by rw [List.length_map, List.length_take]; omega, e2.put nD2, ?_⟩
        rw [List.take_succ, hnm, List.map_append]
        exact upd_same
      · rintro H2 ⟨e2, h2⟩
        have ln := Paired.len pn
        rw [List.take_of_length_le (by omega)] at h2
        have ilt : i < ys.length := (List.getElem?_eq_some_iff.mp hy).1
        have n4 : ys.length = 4 := Paired.len pt
        have d2 : D2 ≠ D1 := fun z => by
          rw [z, hD] at nD2
          cases nD2
        refine ⟨ps.map V.ref, e2 _ _ hD, by rw [List.length_map]; omega, (e1.trans e2).put nD, ps ++ [D2], by rw [List.length_append, lp]; rfl, ?_, ?_⟩
        · rw [List.map_append]
          exact upd_same
        · rw [List.take_succ, hn]
          refine Paired.snoc (L2.Paired.mapP pp fun p ns z => ⟨by rw [upd_ne z.2]; exact e2 _ _ z.1, z.2⟩) ⟨by rw [upd_ne d2]; exact h2, d2⟩
    rintro H1 ⟨x1, ps, lp, hD, pp⟩
    have n4 : ys.length = 4 := Paired.len pt
    rw [List.take_of_length_le (by rw [n4]; exact Nat.le_refl 4)] at pp
    have kd : KindsAt H1 D1 W := kinds_of hD (L2.Paired.mapP pp fun _ _ z => z.1)
    refine rd_nameU ?_
    try dsimp only
    have hl1 := x1 _ _ hl
    have qn : ∀ H2, Ex H1 H2 → okW W ws = false → Q .non H2 := fun H2 x2 e => q _ _ (x1.trans x2) (by rw [e]; exact rfl)
    have qs : ∀ v H2, Ex H1 H2 → okW W ws = true → DeedAt H2 v (deedW ws) → Q v H2 := fun v H2 x2 e dv => q _ _ (x1.trans x2) (by rw [e, if_pos rfl]; exact dv)
    clear q
    obtain ⟨w0, wr, rfl⟩ := List.exists_cons_of_ne_nil ne
    refine rd_seqU (rd_ifU (rd_clean rfl rfl hl1 kd ?_))
    cases b1 : (decide (w0 = wClean) && okW W (w0 :: wr)) with
    | true =>
      refine ite2 (fun _ => ?_) (fun z => absurd rfl z)
      rw [Bool.and_eq_true, decide_eq_true_eq] at b1
      obtain ⟨rfl, ok⟩ := b1
      obtain ⟨m, c, rfl⟩ := clean_two ok
      refine ⟨_, rfl, l, _, _, _, rfl, rfl, SqL.of hl1, atI_nat (j := 1) rfl, _, rfl, l, _, _, _, rfl, rfl, SqL.of hl1, atI_nat (j := 2) rfl, by rw [sz]; show 3 ≤ 16777216; decide, fun T nT => ?_⟩
      refine qs _ _ (Ex.refl.new nT) ok ?_
      rw [deedW_cons, if_neg (by decide +kernel)]
      exact ⟨T, rfl, upd_same⟩
    | false =>
      refine ite2 (fun z => by cases z) (fun _ => ?_)
      refine rd_nextU ?_
      try dsimp only
      refine rd_seqU (rd_ifU (rd_norun rfl rfl hl1 kd ?_))
      cases b2 : runB W (w0 :: wr) with
      | false =>
        refine ite2 (fun _ => ?_) (fun z => absurd rfl z)
        exact qn _ Ex.refl (no_ok b1 b2)
      | true =>
        refine ite2 (fun z => by cases z) (fun _ => ?_)
        refine rd_nextU ?_
        try dsimp only
        obtain ⟨b, ms, rfl, m4, rfl, ok⟩ := run_more b2
        refine rd_seqU (rd_ifU (rd_bad hl1 kd (fun z hz => ls z (List.mem_cons_of_mem _ (List.mem_cons_of_mem _ hz))) m4 fun H2 x2 => ?_))
        cases b3 : (ms.all (fun m => (W.ms.map (·.1)).contains m) && decide ms.Nodup) with
        | false =>
          refine ite2 (fun _ => ?_) (fun z => absurd rfl z)
          exact qn _ x2 (by rw [ok, b3])
        | true =>
          refine ite2 (fun z => by cases z) (fun _ => ?_)
          refine rd_nextU ?_
          try dsimp only
          refine ⟨_, rfl, l, _, _, _, rfl, rfl, SqL.of (x2 _ _ hl1), atI_nat (j := 1) rfl, _, rfl, _, rfl, l, _, rfl, SqL.of (x2 _ _ hl1), fun L5 nL5 => .inl ⟨L5, _, rfl, SqL.of upd_same, fun T nT => ?_⟩⟩
          rw [cut2] at nT ⊢
          have x5 : Ex H2 (upd H2 L5 (.lst (ms.map V.str))) := Ex.refl.new nL5
          generalize upd H2 L5 (.lst (ms.map V.str)) = H5 at x5 nT ⊢
          have x6 : Ex H5 (upd H5 T (.tup (ms.map V.str))) := Ex.refl.new nT
          have e6 : (upd H5 T (.tup (ms.map V.str))) T = some (.tup (ms.map V.str)) := upd_same
          generalize upd H5 T (.tup (ms.map V.str)) = H6 at x6 e6 ⊢
          refine ⟨by rw [sz]; show 3 ≤ 16777216; decide, fun T2 nT2 => ?_⟩
          have x7 : Ex H6 (upd H6 T2 (.tup [.str wRun, .str b, .ref T])) := Ex.refl.new nT2
          refine qs _ _ (x2.trans (x5.trans (x6.trans x7))) (by rw [ok, b3]) ?_
          rw [deedW_cons, if_pos rfl]
          exact ⟨T2, T, rfl, upd_same, x7 _ _ e6⟩
end
end LJ
set_option Elab.async false
set_option linter.all false
set_option maxRecDepth 100000
set_option maxHeartbeats 8000000
namespace LJ
open PySem PySem.Spec L2 PySem.ErrV
open LamX (ExtN)
open NdefX (NTab TabsN)
open OwnX
/-! The law's page of a plan (from k06). -/
abbrev sLPg : Stmt := top 65
abbrev nLPg : List Str := ["_law_deeds_here", "_law_deed_here"]
def rJoinK (K : PySem.W.Frag) : V → List V → Hp → VK → Prop := fun x xs H Q => ∃ a p, ∃ ys : List Str, x = .str a ∧ xs = [.ref p] ∧ (SqL K H p (ys.map V.str) ∨ SqT K H p (ys.map V.str)) ∧ (ys.map (·.length)).sum + ys.length * a.length ≤ 16777216 ∧ Q (.str (Txt.join a ys)) H
def teDl (K : PySem.W.Frag) : TE := tM1 (rJoinK K) (tC (.str sp1)) (tOp (rCatA K) (tSl (rSlT K) (tVar 1) tNoPart (tPart (tC (.int 2)))) (tIf (tTest (tOp rEq (tOp (rIxT K) (tVar 1) (tC (.int 0))) (tC (.str wRun)))) (tOp (rIxT K) (tVar 1) (tC (.int 2))) (tSl (rSlT K) (tVar 1) (tPart (tC (.int 2))) tNoPart)))
def spLPg : Sp := fun vs H Q _ => ∃ (l : Addr) (W : Wd) (ds : List Deed), vs = [.ref l] ∧ DeedsAt H l ds ∧ GoodF W ∧ DsOk W ds ∧ ∀ H1, Ex H H1 → Q (.str (ptext ds)) H1
section
variable {P : Program} {w : World} {K : PySem.W.Frag} {mg : Str → Option Value} {base : Heap} {C : Addr}
theorem scLPg : FnScope nLPg ["_law_deeds_here"] (defScope sLPg) := ⟨rfl, rfl, rfl, by decide +kernel, rfl, by decide +kernel, by decide +kernel⟩
theorem ok_lpg {f : Addr} {fd : FuncData} (F : Fun K "_law_page" "_law_page" sLPg f fd) : FnOk P w K mg base CX0 1 f fd ["_law_deeds_here"] spLPg := by
  refine F.ok scLPg (fun vs H Q E h => ?_) (fun cdv A outer s H vs Q E hr h => ?_)
  · obtain ⟨l, W, ds, rfl, _⟩ := h
    rfl
  · obtain ⟨l, W, ds, rfl, ⟨vals, hl, pr⟩, g, ok, q⟩ := h
    refine ⟨_, pss_one (ps_ret (pe_join pe_str (pe_lc (own := [("_law_deed_here", 1)]) (g := gName 1) (te := teDl K) (by rfl) scLPg.nd (pi_list (pv 0)) (blkOk_by (own := [("_law_deed_here", 1)]) (N := nLPg) (sc := defScope sLPg) (by decide +kernel)) (fun _ _ _ _ _ => pg_name (i := 1) scLPg.nd rfl (Or.inl rfl)) (fun _ _ _ _ _ => pts_nil)
      (fun _ _ _ _ _ => pe_join pe_str (pe_op (show OpR _ _ (rCatA K) from op_catA) (pe_slice (show SlR _ (rSlT K) from sl_tup) (pv 1) po_none (po_some pe_int)) (pe_ifExp (pt_cmpR op_eq (pe_ix (show IxR _ (rIxT K) from ix_tup) (pv 1) pe_int (fun _ _ => rfl)) pe_str (nomark _)) (pe_ix (show IxR _ (rIxT K) from ix_tup) (pv 1) pe_int (fun _ _ => rfl)) (pe_slice (show SlR _ (rSlT K) from sl_tup) (pv 1) (po_some pe_int) po_none))))))), ?_⟩
    have sz := sizeLine_eq
    have l20 := ok.len
    have lv : vals.length = ds.length := Paired.size pr
    refine ⟨⟨_, rfl⟩, _, rfl, l, rfl, ⟨_, SqL.of hl⟩, fun D hD => lc_list (K := K) (a := l) (xs := vals) (fun i G => Ex H G ∧ G D = some (.lst (((ds.take i).map dline).map V.str))) ⟨Ex.refl.new hD, upd_same⟩ (fun i G _ h => SqL.of (h.1 _ _ hl)) ?_ ?_⟩
    · rintro i v G hv ⟨xG, eG⟩
      obtain ⟨d, hd, dd⟩ := Paired.spot pr hv
      have dG := dd.tup (Ex.tup xG)
      have okd := ok.all d (List.mem_of_getElem? hd)
      have wsum := words_sum g okd
      have l6 := words_len okd
      have fin : ∀ (t : Addr) (G1 : Hp), Ex G G1 → G1 t = some (.tup (d.words.map V.str)) → rJoinK K (.str sp1) [.ref t] G1 (fun y H4 => ∃ acc, H4 D = some (.lst acc) ∧ acc.length < sizeLine ∧ Ex H (upd H4 D (.lst (acc ++ [y]))) ∧ (upd H4 D (.lst (acc ++ [y]))) D = some (.lst (((ds.take (i + 1)).map dline).map V.str))) := fun t G1 x1 e1 => by
        refine ⟨sp1, t, d.words, rfl, rfl, .inr (SqT.of e1), by omega, _, x1 _ _ eG, ?_, (xG.trans x1).put hD, ?_⟩
        · rw [List.length_map, List.length_map, List.length_take]
          omega
        · rw [upd_same, List.take_succ, hd, List.map_append, List.map_append]
          rfl
      refine ⟨rfl, ⟨_, rfl⟩, ?_⟩
      cases d with
      | run p ms =>
        obtain ⟨a, t, rfl, h1, h2⟩ := dG
        have l1 := okd.2.1
        refine ⟨_, rfl, 2, rfl, a, _, rfl, SqT.of h1, fun z => (by obtain ⟨_, z2⟩ := z; cases z2), fun p1 np1 => ?_⟩
        have x1 : Ex G (upd G p1 (.tup [.str wRun, .str p])) := Ex.refl.new np1
        have e1 : (upd G p1 (.tup [.str wRun, .str p])) p1 = some (.tup [.str wRun, .str p]) := upd_same
        show tIf _ _ _ _ (upd G p1 (.tup [.str wRun, .str p])) _
        generalize upd G p1 (.tup [.str wRun, .str p]) = G1 at x1 e1 ⊢
        refine ⟨_, rfl, a, _, _, _, rfl, rfl, SqT.of (x1 _ _ h1), atI_nat (j := 0) rfl, rfl, _, rfl, ?_⟩
        refine ite2 (fun _ => ?_) (fun z => absurd (decide_eq_true rfl) z)
        refine ⟨_, rfl, a, _, _, _, rfl, rfl, SqT.of (x1 _ _ h1), atI_nat (j := 2) rfl, ?_⟩
        refine ⟨p1, t, _, _, rfl, rfl, SqT.of e1, SqT.of (x1 _ _ h2), ?_, fun z => (by cases z), fun _ z => ?_, fun _ _ p3 np3 => fin p3 _ (x1.new np3) upd_same⟩
        · rw [List.length_map]
          show 2 + ms.length ≤ sizeLine
          have := okd.2.2.1
          omega
        · have : (ms.map V.str).length = 0 := by rw [z]; rfl
          rw [List.length_map] at this
          omega
      | clean m c =>
        obtain ⟨a, rfl, h1⟩ := dG
        refine ⟨_, rfl, 2, rfl, a, _, rfl, SqT.of h1, fun z => (by obtain ⟨_, z2⟩ := z; cases z2), fun p1 np1 => ?_⟩
        have x1 : Ex G (upd G p1 (.tup [.str wClean, .str m])) := Ex.refl.new np1
        have e1 : (upd G p1 (.tup [.str wClean, .str m])) p1 = some (.tup [.str wClean, .str m]) := upd_same
        show tIf _ _ _ _ (upd G p1 (.tup [.str wClean, .str m])) _
        generalize upd G p1 (.tup [.str wClean, .str m]) = G1 at x1 e1 ⊢
        refine ⟨_, rfl, a, _, _, _, rfl, rfl, SqT.of (x1 _ _ h1), atI_nat (j := 0) rfl, rfl, _, rfl, ?_⟩
        refine ite2 (fun z => absurd z (by decide +kernel)) (fun _ => ?_)
        refine ⟨_, rfl, 2, rfl, a, _, rfl, SqT.of (x1 _ _ h1), fun z => (by obtain ⟨z1, _⟩ := z; cases z1), fun p2 np2 => ?_⟩
        have x2 : Ex G1 (upd G1 p2 (.tup [.str c])) := Ex.refl.new np2
        have e2 : (upd G1 p2 (.tup [.str c])) p2 = some (.tup [.str c]) := upd_same
        show rCatA _ _ _ (upd G1 p2 (.tup [.str c])) _
        generalize upd G1 p2 (.tup [.str c]) = G2 at x2 e2 ⊢
        refine ⟨p1, p2, _, _, rfl, rfl, SqT.of (x2 _ _ e1), SqT.of e2, by rw [sizeLine_eq]; show 3 ≤ 16777216; decide, fun z => (by cases z), fun _ z => (by cases z), fun _ _ p3 np3 => fin p3 _ ((x1.trans x2).new np3) upd_same⟩
    · rintro G ⟨xG, eG⟩
      rw [lv, List.take_of_length_le (Nat.le_refl _)] at eG
      have pl := ptext_len g ok
      exact ⟨nl, D, ds.map dline, rfl, rfl, .inl (SqL.of eG), by omega, q G xG⟩
end
end LJ
set_option Elab.async false
set_option linter.all false
set_option maxRecDepth 100000
set_option maxHeartbeats 8000000
namespace LJ
open PySem PySem.Spec L2 PySem.ErrV
open LamX (ExtN)
open NdefX (NTab TabsN)
open OwnX
theorem rot_ix {n s i : Nat} (hs : s < n) (hi : i < n) : (s + i) % n = if s + i < n then s + i else s + i - n := by
  by_cases h : s + i < n
  · rw [if_pos h, Nat.mod_eq_of_lt h]
  · rw [if_neg h, Nat.mod_eq_sub_mod (by omega), Nat.mod_eq_of_lt (by omega)]
/-- the names from s on, around -/
def rot (ns : List Str) (s k : Nat) : List Str := (List.range k).map fun i => ns.getD ((s + i) % ns.length) Str.empty
theorem rot_len (ns : List Str) (s k : Nat) : (rot ns s k).length = k := by
  unfold rot
  rw [List.length_map, List.length_range]
theorem rot_mem {ns : List Str} {s k : Nat} (hs : s < ns.length) : ∀ x ∈ rot ns s k, x ∈ ns := by
  intro x hx
  unfold rot at hx
  obtain ⟨i, _, rfl⟩ := List.mem_map.mp hx
  have h : (s + i) % ns.length < ns.length := Nat.mod_lt _ (by omega)
  rw [List.getD_eq_getElem?_getD, List.getElem?_eq_getElem h]
  exact List.getElem_mem h
theorem rot_nodup {ns : List Str} {s k : Nat} (nd : ns.Nodup) (hs : s < ns.length) (hk : k ≤ ns.length) : (rot ns s k).Nodup := by
  unfold rot
  refine List.pairwise_map.mpr (List.Pairwise.imp_of_mem (fun {a b} ha hb h => ?_) (List.pairwise_lt_range (n := k)))
  have ha := List.mem_range.mp ha
  have hb := List.mem_range.mp hb
  have la : (s + a) % ns.length < ns.length := Nat.mod_lt _ (by omega)
  have lb : (s + b) % ns.length < ns.length := Nat.mod_lt _ (by omega)
  intro e
  have e2 : ns[(s + a) % ns.length]? = ns[(s + b) % ns.length]? := by
    rw [List.getD_eq_getElem?_getD, List.getD_eq_getElem?_getD, List.getElem?_eq_getElem la, List.getElem?_eq_getElem lb] at e
    rw [List.getElem?_eq_getElem la, List.getElem?_eq_getElem lb]
    exact congrArg some e
  have := (List.getElem?_inj la nd).mp e2
  rw [rot_ix hs (by omega), rot_ix hs (by omega)] at this
  split at this <;> split at this <;> omega
theorem rot_succ (ns : List Str) (s k : Nat) : rot ns s (k + 1) = rot ns s k ++ [ns.getD ((s + k) % ns.length) Str.empty] := by
  unfold rot
  rw [List.range_succ, List.map_append]
  rfl
abbrev S15 (j p : Addr) (m st : Int) (v4 v5 v6 v7 v8 v9 v10 v11 v12 v13 v14 : Option V) : L2.St := [some (.ref j), some (.ref p), some (.int m), some (.int st), v4, v5, v6, v7, v8, v9, v10, v11, v12, v13, v14]
def tePs (K : PySem.W.Frag) : TE := tOp (rIxT K) (tOp (rIxL K) (tOp (rIxL K) (tVar 1) (tC (.int 0))) (tOp (rI (fun _ j => 0 < j) fun i j => .int (i % j)) (tCB rInt1 (tCons (tOp (rI0 fun i j => .int (i + j)) (tVar 10) (tVar 14)) tNil)) (tCB (rLenS K) (tCons (tOp (rIxL K) (tVar 1) (tC (.int 0))) tNil)))) (tC (.int 0))
theorem rd_passed {K : PySem.W.Frag} {j p a b c d : Addr} {va vb vc vd : List V} {W : Wd} {m st : Int} {s k : Nat} {v4 v5 v6 v7 v8 v9 v12 v13 v14 : Option V} {G : Hp} {Q : VK} (w : Wo G j p a b c d va vb vc vd W) (hs : s < W.ms.length) (hk : k ≤ 4) (q : ∀ (t : Addr) (G1 : Hp), Ex G G1 → G1 t = some (.tup ((rot (W.ms.map (·.1)) s k).map V.str)) → Q (.ref t) G1) :
    tThen (tLc (iRng1 (tCons (tVar 11) tNil)) (gName 14) tYes (tePs K) [14]) (kTup K) (S15 j p m st v4 v5 v6 v7 v8 v9 (some (.int (s : Int))) (some (.int (k : Int))) v12 v13 v14) G Q := by
  have sz := sizeLine_eq
  have lv : va.length = W.ms.length := Paired.size w.pa
  have ln : (W.ms.map (·.1)).length = W.ms.length := List.length_map ..
  refine ⟨_, rfl, _, rfl, by omega, by omega, fun D hD => lc_range (lo := 0) (n := k) (fun i H2 => Ex G H2 ∧ H2 D = some (.lst ((rot (W.ms.map (·.1)) s i).map V.str))) ⟨Ex.refl.new hD, upd_same⟩ ?_ ?_⟩
  · rintro i H2 hi ⟨x2, e2⟩
    have w2 := w.ex x2
    have ix : (s + i) % va.length < va.length := Nat.mod_lt _ (by omega)
    obtain ⟨v, hv⟩ : ∃ v, va[(s + i) % va.length]? = some v := ⟨_, List.getElem?_eq_getElem ix⟩
    obtain ⟨r, hr, a1, rfl, ea1⟩ := Paired.spot w2.pa hv
    have em : (((s : Int) + (0 + (i : Int))) % (va.length : Int)) = (((s + i) % va.length : Nat) : Int) := by
      rw [Int.zero_add]
      exact (Int.natCast_emod (s + i) va.length).symm
    refine ⟨rfl, _, rfl, p, _, _, _, rfl, rfl, SqL.of w2.hp, atI_nat (j := 0) rfl, _, rfl, _, rfl, _, _, rfl, rfl, .inl ⟨_, rfl, ?_⟩⟩
    refine ⟨_, rfl, p, _, _, _, rfl, rfl, SqL.of w2.hp, atI_nat (j := 0) rfl, a, va, rfl, .inl (SqL.of w2.ha), _, _, rfl, rfl, by omega, ?_⟩
    dsimp only
    rw [em]
    refine ⟨a, va, _, _, rfl, rfl, SqL.of w2.ha, atI_nat hv, a1, _, _, _, rfl, rfl, SqT.of ea1, atI_nat (j := 0) rfl, _, e2, ?_, x2.put hD, ?_⟩
    · rw [List.length_map, rot_len]
      omega
    · rw [upd_same, rot_succ, List.map_append, ln, ← lv, List.getD_eq_getElem?_getD, List.getElem?_map, hr]
      rfl
  · rintro H2 ⟨x2, e2⟩
    exact .inl ⟨D, _, rfl, SqL.of e2, fun t nt => q t _ (x2.new nt) upd_same⟩
end LJ
set_option Elab.async false
set_option linter.all false
set_option maxRecDepth 100000
set_option maxHeartbeats 8000000
namespace LJ
open PySem PySem.Spec L2 PySem.ErrV
open LamX (ExtN)
open NdefX (NTab TabsN)
open OwnX
def tB3 (K : PySem.W.Frag) : TE := tIf (tTest (tOp rEq (tOp (rIxT K) (tVar 9) (tC (.int 0))) (tC (.str wRun)))) (tCB (rLenS K) (tCons (tOp (rIxT K) (tVar 9) (tC (.int 2))) tNil)) (tC (.int 1))
def tB4c (K : PySem.W.Frag) : TT := tAnd (tTest (tOp (rI0 fun i j => .bl (decide (i ≤ j))) (tOp (rI0 fun i j => .int (i + j)) (tVar 5) (tVar 13)) (tVar 3))) (tOr (tTest (tOp rEq (tOp (rIxT K) (tVar 9) (tC (.int 0))) (tC (.str wClean)))) (tTest (tOp (rI0 fun i j => .bl (decide (i < j))) (tVar 6) (tC (.int 8)))))
def tB4s (K : PySem.W.Frag) : TS := tPar3 4 5 6 (tCons (tOp rCat (tVar 4) (tLst (tCons (tVar 9) tNil))) (tCons (tOp (rI0 fun i j => .int (i + j)) (tVar 5) (tVar 13)) (tCons (tOp (rI0 fun i j => .int (i + j)) (tVar 6) (tCB rInt1 (tCons (tOp rEq (tOp (rIxT K) (tVar 9) (tC (.int 0))) (tC (.str wRun))) tNil))) tNil)))
theorem lots_snoc (ds : List Deed) (d : Deed) : lotsOf (ds ++ [d]) = lotsOf ds ++ d.lot.toList := by
  unfold lotsOf
  rw [List.filterMap_append]
  cases e : d.lot <;> simp [e]
theorem rd_kept {K : PySem.W.Frag} {j p lf : Addr} {W : Wd} {m st sp more : Int} {ds : List Deed} {d : Deed} {v : V} {v7 v8 v10 v11 v12 v14 : Option V} {G : Hp} {D : Ends} (dl : DeedsAt G lf ds) (dd : DeedAt G v d) (l20 : ds.length ≤ 20)
    (q : ∀ (lf' : Addr) (sp' : Int) (G' : Hp), Ex G G' → DeedsAt G' lf' (ds ++ [d]) → G lf' = none → D.nx (S15 j p m st (some (.ref lf')) (some (.int sp')) (some (.int ((lotsOf (ds ++ [d])).length : Nat))) v7 v8 (some v) v10 v11 v12 (some (.int more)) v14) G') :
    tB4s K D (S15 j p m st (some (.ref lf)) (some (.int sp)) (some (.int ((lotsOf ds).length : Nat))) v7 v8 (some v) v10 v11 v12 (some (.int more)) v14) G := by
  obtain ⟨vals, hl, pr⟩ := dl
  have lv : vals.length = ds.length := Paired.size pr
  refine ⟨_, rfl, _, rfl, by rw [sizeLine_eq]; show 1 ≤ 16777216; decide, fun p1 n1 => ?_⟩
  have x1 : Ex G (upd G p1 (.lst [v])) := Ex.refl.new n1
  have e1 : (upd G p1 (.lst [v])) p1 = some (.lst [v]) := upd_same
  generalize upd G p1 (.lst [v]) = G1 at x1 e1 ⊢
  refine ⟨lf, p1, _, _, rfl, rfl, x1 _ _ hl, e1, by rw [sizeLine_eq]; show vals.length + 1 ≤ 16777216; omega, fun p2 n2 => ?_⟩
  have x2 : Ex G (upd G1 p2 (.lst (vals ++ [v]))) := x1.new n2
  have e2 : (upd G1 p2 (.lst (vals ++ [v]))) p2 = some (.lst (vals ++ [v])) := upd_same
  generalize upd G1 p2 (.lst (vals ++ [v])) = G2 at x2 e2 ⊢
  have d2 := dd.tup (Ex.tup x2)
  have dl2 : DeedsAt G2 p2 (ds ++ [d]) := ⟨_, e2, Paired.snoc (deeds_tup (Ex.tup x2) pr) d2⟩
  have fin := q p2 (sp + more) G2 x2 dl2 (x1.gone n2)
  obtain ⟨a, xs, w0, rfl, ha, kind⟩ := d2.head
  refine ⟨_, rfl, _, rfl, _, _, rfl, rfl, _, rfl, _, rfl, a, _, _, _, rfl, rfl, SqT.of ha, atI_nat (j := 0) rfl, rfl, .inr ⟨_, rfl, ?_⟩⟩
  refine ⟨_, _, rfl, rfl, ?_⟩
  refine ⟨_, _, _, rfl, ?_⟩
  rw [lots_snoc] at fin
  rcases kind with ⟨rfl, pn, hl'⟩ | ⟨rfl, hl'⟩
  · rw [hl'] at fin
    rw [decide_eq_true rfl]
    have : (((lotsOf ds ++ (some pn).toList).length : Nat) : Int) = ((lotsOf ds).length : Nat) + (if true = true then (1 : Int) else 0) := by
      rw [List.length_append]
      simp
    rw [this] at fin
    exact fin
  · rw [hl'] at fin
    rw [show decide (V.str wClean = V.str (Str.ofString "run")) = false by decide +kernel]
    have : (((lotsOf ds ++ (none : Option Str).toList).length : Nat) : Int) = ((lotsOf ds).length : Nat) + (if false = true then (1 : Int) else 0) := by
      simp
    rw [this] at fin
    exact fin
end LJ
set_option Elab.async false
set_option linter.all false
set_option maxRecDepth 100000
set_option maxHeartbeats 8000000
namespace LJ
open PySem PySem.Spec L2 PySem.ErrV
open LamX (ExtN)
open NdefX (NTab TabsN)
open OwnX
theorem rd_rest {K : PySem.W.Frag} {j p lf : Addr} {W : Wd} {m st sp : Int} {ds : List Deed} {d : Deed} {v : V} {v7 v8 v10 v11 v12 v13 v14 : Option V} {G : Hp} {D : Ends} (dl : DeedsAt G lf ds) (dd : DeedAt G v d) (l20 : ds.length ≤ 20) (l8 : (lotsOf ds).length ≤ 8)
    (q1 : ∀ (lf' : Addr) (sp' more : Int) (G' : Hp), Ex G G' → DeedsAt G' lf' (ds ++ [d]) → G lf' = none → (lotsOf (ds ++ [d])).length ≤ 8 → D.nx (S15 j p m st (some (.ref lf')) (some (.int sp')) (some (.int ((lotsOf (ds ++ [d])).length : Nat))) v7 v8 (some v) v10 v11 v12 (some (.int more)) v14) G')
    (q2 : ∀ more : Int, D.nx (S15 j p m st (some (.ref lf)) (some (.int sp)) (some (.int ((lotsOf ds).length : Nat))) v7 v8 (some v) v10 v11 v12 (some (.int more)) v14) G) :
    tSeq (tAsg (tB3 K) (gName 13)) (tIfS (tB4c K) (tB4s K) tNext) D (S15 j p m st (some (.ref lf)) (some (.int sp)) (some (.int ((lotsOf ds).length : Nat))) v7 v8 (some v) v10 v11 v12 v13 v14) G := by
  have sn := lots_snoc ds d
  cases d with
  | run pn ms =>
    obtain ⟨a, t, rfl, ha, ht⟩ := id dd
    refine ⟨_, rfl, a, _, _, _, rfl, rfl, SqT.of ha, atI_nat (j := 0) rfl, rfl, _, rfl, ?_⟩
    refine ite2 (fun _ => ?_) (fun z => absurd (decide_eq_true rfl) z)
    refine ⟨_, rfl, a, _, _, _, rfl, rfl, SqT.of ha, atI_nat (j := 2) rfl, t, _, rfl, .inr (SqT.of ht), ?_⟩
    refine rd_nameU ?_
    try dsimp only
    refine rd_ifU ?_
    refine ⟨_, rfl, _, rfl, _, _, rfl, rfl, _, rfl, _, _, rfl, rfl, _, rfl, ?_⟩
    refine ite2 (fun _ => ?_) (fun _ => ?_)
    · refine ⟨_, rfl, a, _, _, _, rfl, rfl, SqT.of ha, atI_nat (j := 0) rfl, rfl, _, rfl, ?_⟩
      refine ite2 (fun z => absurd z (by decide +kernel)) (fun _ => ?_)
      refine ⟨_, rfl, _, _, rfl, rfl, _, rfl, ?_⟩
      refine ite2 (fun z => ?_) (fun _ => q2 _)
      have l7 : ((lotsOf ds).length : Int) < 8 := of_decide_eq_true z
      refine rd_kept (K := K) (W := W) dl dd l20 fun lf' sp' G' x d' n => q1 lf' sp' _ G' x d' n ?_
      rw [sn]
      show (lotsOf ds ++ [pn]).length ≤ 8
      rw [List.length_append]
      show (lotsOf ds).length + 1 ≤ 8
      omega
    · refine ite2 (fun z => by cases z) (fun _ => q2 _)
  | clean mn c =>
    obtain ⟨a, rfl, ha⟩ := id dd
    refine ⟨_, rfl, a, _, _, _, rfl, rfl, SqT.of ha, atI_nat (j := 0) rfl, rfl, _, rfl, ?_⟩
    refine ite2 (fun z => absurd z (by decide +kernel)) (fun _ => ?_)
    refine rd_nameU ?_
    try dsimp only
    refine rd_ifU ?_
    refine ⟨_, rfl, _, rfl, _, _, rfl, rfl, _, rfl, _, _, rfl, rfl, _, rfl, ?_⟩
    refine ite2 (fun _ => ?_) (fun _ => ?_)
    · refine ⟨_, rfl, a, _, _, _, rfl, rfl, SqT.of ha, atI_nat (j := 0) rfl, rfl, _, rfl, ?_⟩
      refine ite2 (fun _ => ?_) (fun z => absurd (decide_eq_true rfl) z)
      refine ite2 (fun _ => ?_) (fun z => absurd rfl z)
      refine rd_kept (K := K) (W := W) dl dd l20 fun lf' sp' G' x d' n => q1 lf' sp' _ G' x d' n ?_
      rw [sn]
      show (lotsOf ds ++ []).length ≤ 8
      rw [List.append_nil]
      exact l8
    · refine ite2 (fun z => by cases z) (fun _ => q2 _)
end LJ
set_option Elab.async false
set_option linter.all false
set_option maxRecDepth 100000
set_option maxHeartbeats 8000000
namespace LJ
open PySem PySem.Spec L2 PySem.ErrV
open LamX (ExtN)
open NdefX (NTab TabsN)
open OwnX
/-! _law_some_deeds. -/
abbrev sSd : Stmt := top 63
abbrev pSd : List Str := ["_law_jar_here", "_law_world_here", "_law_most", "_law_steps"]
abbrev nSd : List Str := ["_law_jar_here", "_law_world_here", "_law_most", "_law_steps", "_law_found_here", "_law_spent", "_law_runs", "_law_turn", "_law_spot", "_law_fresh", "_law_start", "_law_many", "_law_passed", "_law_more", "_law_k"]
def spSd : Sp := fun vs H Q _ => ∃ (j p : Addr) (W : Wd) (m st : Int), vs = [.ref j, .ref p, .int m, .int st] ∧ JarAt H j ∧ WorldAt H p W ∧ Good W ∧ 0 ≤ m ∧ m ≤ 20 ∧ ∀ (l : Addr) (ds : List Deed) (H1 : Hp), DeedsAt H1 l ds → DsOk W ds → (ds.length : Int) ≤ m → JarAt H1 j → But j H H1 → H l = none → Q (.ref l) H1
section
variable {P : Program} {w : World} {K : PySem.W.Frag} {mg : Str → Option Value} {base : Heap} {C PC CI : Addr}
theorem scSd : FnScope nSd pSd (defScope sSd) := ⟨rfl, rfl, rfl, by decide +kernel, rfl, by decide +kernel, by decide +kernel⟩
theorem ok_sd {f fD fO : Addr} {fd fdD fdO : FuncData} (F : Fun K "_law_some_deeds" "_law_some_deeds" sSd f fd) (B : BltI mg) (bRg : mg "range" = none) (bMin : mg "min" = none)
    (GD : FnOk P w K mg base CX0 1 fD fdD ["_law_jar_here", "_law_top"] spDip) (mD : mg "_law_dip" = some (.ref fD)) (kD : PySem.W.keepIn K (.ref fD) = true) (bD : Binds K fdD ["_law_jar_here", "_law_top"] [])
    (GO : FnOk P w K mg base CX0 2 fO fdO ["_law_jar_here", "_law_some"] spOne) (mO : mg "_law_one_of" = some (.ref fO)) (kO : PySem.W.keepIn K (.ref fO) = true) (bO : Binds K fdO ["_law_jar_here", "_law_some"] []) :
    FnOk P w K mg base CX0 3 f fd pSd spSd := by
  refine F.ok scSd (fun vs H Q E h => ?_) (fun cdv A outer s H vs Q E hr h => ?_)
  · obtain ⟨j, p, W, m, st, rfl, _⟩ := h
    rfl
  · obtain ⟨j, p, W, m, st, rfl, J, wa, g, m0, m20, q⟩ := h
    have hr1 : Room 1 (A.deeper (PyProof.Rows.envOfC "_law_some_deeds" (defScope sSd) s.heap.objs.size f cdv)) := hr.mono (by decide)
    have hu64 : (A.deeper (PyProof.Rows.envOfC "_law_some_deeds" (defScope sSd) s.heap.objs.size f cdv)).units + 64 < cLine := by
      have := hr1.un
      omega
    refine ⟨_, pss_cons (ps_par3 (i := 4) (j := 5) (l := 6) (by rfl) scSd.nd rfl rfl rfl (by decide) (by decide) (by decide) rfl rfl rfl (pa_cons (pe_lst pa_nil) (pa_cons pe_int (pa_cons pe_int pa_nil))) (by rfl))
      (pss_cons (ps_for PassesOwn.never rfl (pi_range1 (by rfl) bRg (pa_cons (pe_call GD hr1 (by rfl) mD kD bD .nil pass0 (pa_cons (pv 0) (pa_cons (pe_op op_add (pv 2) pe_int) pa_nil))) pa_nil)) (pg_name (i := 7) scSd.nd rfl (Or.inl rfl))
        (pss_cons (ps_set (i := 8) scSd.nd rfl (Or.inl rfl) (pe_ix ix_tup (pe_call GO hr (by rfl) mO kO bO .nil pass0 (pa_cons (pv 0) (pa_cons (pe_ix ix_list (pv 1) pe_int (fun _ _ => rfl)) pa_nil))) pe_int (fun _ _ => rfl)))
        (pss_cons (ps_if (PW.pt (pw_and (pt_cmpR (op_neD hu64) (pe_ix ix_list (pv 1) pe_int (fun _ _ => rfl)) (pe_lst pa_nil) (nomark _)) (pw_and1 (pt_cmpR op_eq (pe_call GD hr1 (by rfl) mD kD bD .nil pass0 (pa_cons (pv 0) (pa_cons pe_int pa_nil))) pe_int (nomark _)))))
          (pss_one (ps_set (i := 9) scSd.nd rfl (Or.inl rfl) (pe_tup (pa_cons pe_str (pa_cons (pv 8) (pa_cons (pe_ix ix_tup (pe_call GO hr (by rfl) mO kO bO .nil pass0 (pa_cons (pv 0) (pa_cons (pe_ix ix_list (pv 1) pe_int (fun _ _ => rfl)) pa_nil))) pe_int (fun _ _ => rfl)) pa_nil))))))
          (pss_cons (ps_asg (pe_tup (pa_cons (pe_call GD hr1 (by rfl) mD kD bD .nil pass0 (pa_cons (pv 0) (pa_cons (pe_callB call_len_seq (by rfl) B.len (by decide +kernel) (pa_cons (pe_ix ix_list (pv 1) pe_int (fun _ _ => rfl)) pa_nil)) pa_nil))) (pa_cons (pe_op op_add pe_int (pe_call GD hr1 (by rfl) mD kD bD .nil pass0 (pa_cons (pv 0) (pa_cons (pe_callB (call_min2 rfl) (by rfl) bMin (by decide +kernel) (pa_cons (pe_callB call_len_seq (by rfl) B.len (by decide +kernel) (pa_cons (pe_ix ix_list (pv 1) pe_int (fun _ _ => rfl)) pa_nil)) (pa_cons pe_int pa_nil))) pa_nil)))) pa_nil))) (pg_tup (by rfl) (pgs_cons (pg_name (i := 10) scSd.nd rfl (Or.inr rfl)) (pgs_cons (pg_name (i := 11) scSd.nd rfl (Or.inl rfl)) pgs_nil))))
          (pss_cons (ps_set (i := 12) scSd.nd rfl (Or.inl rfl) (pe_tupleOf (by rfl) B.tuple (pe_lc (own := [("_law_k", 14)]) (g := gName 14) (te := tePs K) (by rfl) scSd.nd (pi_range1 (by rfl) bRg (pa_cons (pv 11) pa_nil)) (blkOk_by (own := [("_law_k", 14)]) (N := nSd) (sc := defScope sSd) (by decide +kernel)) (fun _ _ _ _ _ => pg_name (i := 14) scSd.nd rfl (Or.inl rfl)) (fun _ _ _ _ _ => pts_nil)
          (fun _ _ _ _ _ => pe_ix (show IxR _ (rIxT K) from ix_tup) (pe_ix (show IxR _ (rIxL K) from ix_list) (pe_ix (show IxR _ (rIxL K) from ix_list) (pv 1) pe_int (fun _ _ => rfl)) (pe_op op_mod (pe_callTy (show CallR _ _ rInt1 from call_int1) (by rfl) B.int (by decide +kernel) (pa_cons (pe_op op_add (pv 10) (pv 14)) pa_nil)) (pe_callB (show CallR _ _ (rLenS K) from call_len_seq) (by rfl) B.len (by decide +kernel) (pa_cons (pe_ix (show IxR _ (rIxL K) from ix_list) (pv 1) pe_int (fun _ _ => rfl)) pa_nil))) (fun _ _ => rfl)) pe_int (fun _ _ => rfl)))))
          (pss_one (ps_set (i := 9) scSd.nd rfl (Or.inl rfl) (pe_tup (pa_cons pe_str (pa_cons (pe_ix ix_tup (pe_call GO hr (by rfl) mO kO bO .nil pass0 (pa_cons (pv 0) (pa_cons (pe_ix ix_list (pv 1) pe_int (fun _ _ => rfl)) pa_nil))) pe_int (fun _ _ => rfl)) (pa_cons (pv 12) pa_nil)))))))))
        (pss_cons (ps_set (i := 13) scSd.nd rfl (Or.inl rfl) (pe_ifExp (pt_cmpR op_eq (pe_ix ix_tup (pv 9) pe_int (fun _ _ => rfl)) pe_str (nomark _)) (pe_callB call_len_seq (by rfl) B.len (by decide +kernel) (pa_cons (pe_ix ix_tup (pv 9) pe_int (fun _ _ => rfl)) pa_nil)) pe_int))
        (pss_one (ps_if (PW.pt (pw_and (pt_cmpR op_le (pe_op op_add (pv 5) (pv 13)) (pv 3) (nomark _)) (pw_and1 (PW.pt (pw_or (pt_cmpR op_eq (pe_ix ix_tup (pv 9) pe_int (fun _ _ => rfl)) pe_str (nomark _)) (pw_or1 (pt_cmpR op_lt (pv 6) pe_int (nomark _))))))))
          (pss_one (ps_par3 (i := 4) (j := 5) (l := 6) (by rfl) scSd.nd rfl rfl rfl (by decide) (by decide) (by decide) rfl rfl rfl (pa_cons (pe_op op_cat (pv 4) (pe_lst (pa_cons (pv 9) pa_nil))) (pa_cons (pe_op op_add (pv 5) (pv 13)) (pa_cons (pe_op op_add (pv 6) (pe_callTy call_int1 (by rfl) B.int (by decide +kernel) (pa_cons (pe_cmpR op_eq (pe_ix ix_tup (pv 9) pe_int (fun _ _ => rfl)) pe_str (nomark _)) pa_nil))) pa_nil))) (by rfl))) pss_nil))))))
      (pss_one (ps_ret (pv 4)))), ?_⟩
    have sz := sizeLine_eq
    have gf := g.F
    obtain ⟨a, b, cc, d, va, vb, vc, vd, hp, ha, pa, hb, pb, hc, pc, hd, pd⟩ := id wa
    have lva : va.length = W.ms.length := Paired.size pa
    have lvb : vb.length = W.cs.length := Paired.size pb
    have lvd : vd.length = W.ps.length := Paired.size pd
    have m1 := gf.m1
    have m2 := gf.m2
    have c2 := gf.c2
    have p1' := gf.p1
    have p2' := gf.p2
    have w0 : Wo H j p a b cc d va vb vc vd W := ⟨J, hp, ha, pa, hb, pb, hd, pd⟩
    refine rd_seqU ?_
    refine ⟨by rw [sizeLine_eq]; exact Nat.zero_le _, fun l0 nl0 => ⟨_, _, _, rfl, ?_⟩⟩
    have x0 : Ex H (upd H l0 (.lst [])) := Ex.refl.new nl0
    have e0 : (upd H l0 (.lst [])) l0 = some (.lst []) := upd_same
    have nlj := J.ne nl0
    generalize upd H l0 (.lst []) = G0 at x0 e0 ⊢
    try dsimp only
    refine rd_seqU ?_
    refine ⟨_, rfl, _, rfl, m, 1, rfl, rfl, j, m + 1, rfl, J.exx x0, by omega, by omega, fun r G1 r0 r1 J1 b1 => ⟨r, rfl, by omega, by omega, ?_⟩⟩
    refine for_range (lo := 0) (n := r.toNat) (fun i σ G => ∃ (lf : Addr) (sp : Int) (ds : List Deed), (∃ v7 v8 v9 v10 v11 v12 v13 v14, σ = S15 j p m st (some (.ref lf)) (some (.int sp)) (some (.int ((lotsOf ds).length : Nat))) v7 v8 v9 v10 v11 v12 v13 v14) ∧ JarAt G j ∧ But j H G ∧ DeedsAt G lf ds ∧ H lf = none ∧ (∀ d ∈ ds, DOk W d) ∧ ds.length ≤ i ∧ (lotsOf ds).length ≤ 8) ⟨l0, 0, [], ⟨_, _, _, _, _, _, _, _, rfl⟩, J1, (But.ex x0).trans b1, ⟨[], b1 _ _ nlj e0, .nil⟩, nl0, fun _ h => (List.not_mem_nil h).elim, Nat.zero_le _, Nat.zero_le _⟩ ?_ ?_
    · rintro i σ G hi ⟨lf, sp, ds, ⟨v7, v8, v9, v10, v11, v12, v13, v14, rfl⟩, JG, bG, dl, nlf, all, li, l8⟩
      have wG := w0.but bG JG
      have l20 : ds.length < 20 := by omega
      refine rd_nameU ?_
      try dsimp only
      refine rd_seqU (rd_asgU ?_)
      refine ⟨_, rfl, _, rfl, p, _, _, _, rfl, rfl, SqL.of wG.hp, atI_nat (j := 0) rfl, j, a, va, rfl, JG, wG.ha, refs_ne JG wG.ha (rows3_ref wG.pa), by omega, by omega, fun n v G2 hv J2 b2 => ?_⟩
      have wG2 := wG.but b2 J2
      obtain ⟨⟨nm, lo, up⟩, hr, a1, rfl, ea1⟩ := Paired.spot wG2.pa hv
      have hnm : nm ∈ W.ms.map (·.1) := List.mem_map_of_mem (f := (·.1)) (List.mem_of_getElem? hr)
      refine ⟨a1, _, _, _, rfl, rfl, SqT.of ea1, atI_nat (j := 0) rfl, ?_⟩
      refine rd_nameU ?_
      try dsimp only
      refine rd_seqU (rd_ifU ?_)
      refine rd_cond (K := K) gf rfl rfl wG2 fun x G3 J3 b3 hx => ?_
      have wG3 := wG2.but b3 J3
      have bG3 : But j G G3 := b2.trans b3
      have rest : ∀ (dd : Deed) (v : V) (v10 v11 v12 : Option V) (G4 : Hp), JarAt G4 j → But j G G4 → DeedAt G4 v dd → DOk W dd → ∀ {D : Ends}, (∀ σ' G', (∃ (lf : Addr) (sp : Int) (ds : List Deed), (∃ v7 v8 v9 v10 v11 v12 v13 v14, σ' = S15 j p m st (some (.ref lf)) (some (.int sp)) (some (.int ((lotsOf ds).length : Nat))) v7 v8 v9 v10 v11 v12 v13 v14) ∧ JarAt G' j ∧ But j H G' ∧ DeedsAt G' lf ds ∧ H lf = none ∧ (∀ d ∈ ds, DOk W d) ∧ ds.length ≤ i + 1 ∧ (lotsOf ds).length ≤ 8) → D.nx σ' G') →
          tSeq (tAsg (tB3 K) (gName 13)) (tIfS (tB4c K) (tB4s K) tNext) D (S15 j p m st (some (.ref lf)) (some (.int sp)) (some (.int ((lotsOf ds).length : Nat))) (some (.int (0 + (i : Int)))) (some (.str nm)) (some v) v10 v11 v12 v13 v14) G4 := by
        intro dd v v10 v11 v12 G4 J4 b4 dv okd D fin
        have dl4 := dl.but JG b4
        have bH4 := bG.trans b4
        refine rd_rest (K := K) (W := W) dl4 dv (by omega) l8 (fun lf' sp' more G' x' d' n' l' => ?_) (fun more => ?_)
        · refine fin _ _ ⟨lf', sp', ds ++ [dd], ⟨_, _, _, _, _, _, _, _, rfl⟩, J4.exx x', bH4.trans (But.ex x'), d', bH4.gone (J4.ne n') n', fun e he => ?_, by rw [List.length_append]; show ds.length + 1 ≤ i + 1; omega, l'⟩
          rcases List.mem_append.mp he with h | h
          · exact all e h
          · obtain rfl := List.mem_singleton.mp h
            exact okd
        · exact fin _ _ ⟨lf, sp, ds, ⟨_, _, _, _, _, _, _, _, rfl⟩, J4, bH4, dl4, nlf, all, by omega, l8⟩
      refine ite2 (fun z => ?_) (fun _ => ?_)
      · have nb : W.cs ≠ [] := hx z
        have lb : 0 < W.cs.length := List.length_pos_iff.mpr nb
        refine ⟨_, rfl, _, rfl, _, rfl, p, _, _, _, rfl, rfl, SqL.of wG3.hp, atI_nat (j := 1) rfl, j, b, vb, rfl, J3, wG3.hb, refs_ne J3 wG3.hb (rows3_ref wG3.pb), by omega, by omega, fun n3 v3 G4 hv3 J4 b4 => ?_⟩
        have wG4 := wG3.but b4 J4
        obtain ⟨⟨cn, lo3, up3⟩, hr3, a3, rfl, ea3⟩ := Paired.spot wG4.pb hv3
        have hcn : cn ∈ W.cs.map (·.1) := List.mem_map_of_mem (f := (·.1)) (List.mem_of_getElem? hr3)
        refine ⟨a3, _, _, _, rfl, rfl, SqT.of ea3, atI_nat (j := 0) rfl, ?_⟩
        refine ⟨by rw [sizeLine_eq]; show 3 ≤ 16777216; decide, fun td ntd => ?_⟩
        refine rd_nameU ?_
        try dsimp only
        have x5 : Ex G4 (upd G4 td (.tup [.str wClean, .str nm, .str cn])) := Ex.refl.new ntd
        exact rest (.clean nm cn) (.ref td) _ _ _ _ (J4.exx x5) ((bG3.trans b4).trans (But.ex x5)) ⟨td, rfl, upd_same⟩ ⟨hnm, hcn⟩ fun σ' G' h => h
      · refine rd_seqU (rd_asgU ?_)
        refine ⟨_, rfl, _, rfl, p, _, _, _, rfl, rfl, SqL.of wG3.hp, atI_nat (j := 0) rfl, a, va, rfl, .inl (SqL.of wG3.ha), j, _, rfl, J3, by omega, by omega, fun s1 G4 s0 s2 J4 b4 => ?_⟩
        have wG4 := wG3.but b4 J4
        refine ⟨_, rfl, _, rfl, p, _, _, _, rfl, rfl, SqL.of wG4.hp, atI_nat (j := 0) rfl, a, va, rfl, .inl (SqL.of wG4.ha), _, _, rfl, j, _, rfl, J4, ?_, ?_, fun k1 G5 k0 k2 J5 b5 => ?_⟩
        · split <;> omega
        · split <;> omega
        have k4 : k1 < 4 ∧ k1 < va.length := by
          split at k2 <;> omega
        obtain ⟨s, rfl⟩ := Int.eq_ofNat_of_zero_le s0
        obtain ⟨kk, rfl⟩ := Int.eq_ofNat_of_zero_le k0
        have wG5 := wG4.but b5 J5
        refine ⟨_, _, rfl, rfl, by rw [sizeLine_eq]; show 2 ≤ 16777216; decide, fun tt ntt => ?_⟩
        dsimp only
        rw [show (1 + (kk : Int)) = ((kk + 1 : Nat) : Int) by omega]
        have x6 : Ex G5 (upd G5 tt (.tup [.int (s : Int), .int ((kk + 1 : Nat) : Int)])) := Ex.refl.new ntt
        have e6 : (upd G5 tt (.tup [.int (s : Int), .int ((kk + 1 : Nat) : Int)])) tt = some (.tup [.int (s : Int), .int ((kk + 1 : Nat) : Int)]) := upd_same
        generalize upd G5 tt (.tup [.int (s : Int), .int ((kk + 1 : Nat) : Int)]) = G6 at x6 e6 ⊢
        refine ⟨tt, _, rfl, SqT.of e6, rfl, _, _, rfl, _, _, rfl, rfl, ?_⟩
        try dsimp only
        have wG6 := wG5.ex x6
        have hs : s < W.ms.length := by omega
        refine rd_seqU (rd_asgU (rd_passed (K := K) wG6 hs (by omega) fun t G7 x7 e7 => ?_))
        have wG7 := wG6.ex x7
        refine rd_nameU ?_
        try dsimp only
        refine ⟨_, rfl, _, rfl, p, _, _, _, rfl, rfl, SqL.of wG7.hp, atI_nat (j := 3) rfl, j, d, vd, rfl, wG7.jar, wG7.hd, refs_ne wG7.jar wG7.hd (rowsP_ref wG7.pd), by omega, by omega, fun n8 v8 G8 hv8 J8 b8 => ?_⟩
        have wG8 := wG7.but b8 J8
        obtain ⟨⟨pn, bs⟩, hr8, a8, t8, ys8, rfl, ea8, _⟩ := Paired.spot wG8.pd hv8
        have hpn : pn ∈ W.ps.map (·.1) := List.mem_map_of_mem (f := (·.1)) (List.mem_of_getElem? hr8)
        have e8 := but_tup wG7.jar b8 _ _ e7
        refine ⟨a8, _, _, _, rfl, rfl, SqT.of ea8, atI_nat (j := 0) rfl, _, rfl, by rw [sizeLine_eq]; show 3 ≤ 16777216; decide, fun td ntd => ?_⟩
        refine rd_nameU ?_
        try dsimp only
        have x9 : Ex G8 (upd G8 td (.tup [.str wRun, .str pn, .ref t])) := Ex.refl.new ntd
        have nl : (W.ms.map (·.1)).length = W.ms.length := List.length_map ..
        have ndm : (W.ms.map (·.1)).Nodup := (List.nodup_append.mp gf.nd).1
        exact rest (.run pn (rot (W.ms.map (·.1)) s (kk + 1))) (.ref td) _ _ _ _ (J8.exx x9) ((((((bG3.trans b4).trans b5).trans (But.ex x6)).trans (But.ex x7)).trans b8).trans (But.ex x9)) ⟨td, t, rfl, upd_same, x9 _ _ e8⟩ ⟨hpn, by rw [rot_len]; omega, by rw [rot_len]; omega, rot_nodup ndm (by omega) (by omega), rot_mem (by omega)⟩ fun σ' G' h => h
    · rintro σ G ⟨lf, sp, ds, ⟨v7, v8, v9, v10, v11, v12, v13, v14, rfl⟩, JG, bG, dl, nlf, all, li, l8⟩
      exact ⟨_, rfl, q lf ds G dl ⟨all, by omega, l8⟩ (by omega) JG bG nlf⟩

end
end LJ
set_option Elab.async false
set_option linter.all false
set_option maxRecDepth 100000
set_option maxHeartbeats 8000000
namespace LJ
open PySem PySem.Spec L2 PySem.ErrV
open LamX (ExtN)
open NdefX (NTab TabsN)
open OwnX
/-! _law_right of plans: what stands from turn to turn. -/
theorem Kp.of_n {j : Addr} {H H1 : Hp} (e : ExtN H H1) : Kp j H H1 := fun b o _ h t => e b o h t
theorem Kp.put {j p : Addr} {H H1 : Hp} {o : HO} (k : Kp j H H1) (n : H p = none) : Kp j H (upd H1 p o) := fun b u m e t => by
  rw [upd_ne (ne_of_none e n)]
  exact k b u m e t
theorem JarAt.exN {j : Addr} {H H1 : Hp} (J : JarAt H j) (e : ExtN H H1) : JarAt H1 j := by
  obtain ⟨d, m, c, h, r⟩ := J
  exact ⟨d, m, c, e _ _ h (fun _ z => nomatch z), r⟩
theorem TabsN.butJ {T : List NTab} {j : Addr} {H H1 : Hp} (J : JarAt H j) (b : But j H H1) (t : TabsN T H) : TabsN T H1 := fun r hr => by
  obtain ⟨d, m, c, hj, _⟩ := J
  obtain ⟨ps, h1, h2, h3⟩ := t r hr
  refine ⟨ps, b _ _ (ne_of h1 hj fun z => nomatch z) h1, h2, fun pos v hv => ?_⟩
  obtain ⟨c, e1, e2⟩ := h3 pos v hv
  exact ⟨c, e1, b _ _ (ne_of e2 hj fun z => nomatch (show HO.ext _ = HO.lst _ from z)) e2⟩
theorem TabsN.putL {T : List NTab} {l : Addr} {H : Hp} {xs ys : List V} (h : H l = some (.lst xs)) (t : TabsN T H) : TabsN T (upd H l (.lst ys)) := fun r hr => by
  obtain ⟨ps, h1, h2, h3⟩ := t r hr
  refine ⟨ps, by rw [upd_ne (ne_of h1 h fun z => nomatch z)]; exact h1, h2, fun pos v hv => ?_⟩
  obtain ⟨c, e1, e2⟩ := h3 pos v hv
  exact ⟨c, e1, by rw [upd_ne (ne_of e2 h fun z => nomatch (show HO.ext _ = HO.lst _ from z))]; exact e2⟩
theorem rows2_ref {H : Hp} {vs : List V} {rs : List (Str × Int)} (p : Paired (Row2 H) vs rs) : ∀ v ∈ vs, ∃ b, v = .ref b := by
  induction p with
  | nil => intro v h; exact (List.not_mem_nil h).elim
  | cons a t ih =>
    intro v h
    rcases List.mem_cons.mp h with rfl | h
    · obtain ⟨b, rfl, _⟩ := a
      exact ⟨b, rfl⟩
    · exact ih v h
theorem four_ref {a b c d : Addr} : ∀ v ∈ [V.ref a, .ref b, .ref c, .ref d], ∃ x, v = .ref x := by
  intro v hv
  simp only [List.mem_cons, List.not_mem_nil, or_false] at hv
  rcases hv with rfl | rfl | rfl | rfl <;> exact ⟨_, rfl⟩
theorem WorldAt.butJ {j p : Addr} {W : Wd} {H H1 : Hp} (J : JarAt H j) (bt : But j H H1) (h : WorldAt H p W) : WorldAt H1 p W := by
  obtain ⟨a, b, c, d, va, vb, vc, vd, hp, ha, pa, hb, pb, hc, pc, hd, pd⟩ := h
  have t := but_tup J bt
  exact ⟨a, b, c, d, va, vb, vc, vd, bt _ _ (refs_ne J hp four_ref) hp, bt _ _ (refs_ne J ha (rows3_ref pa)) ha, rows3 t pa, bt _ _ (refs_ne J hb (rows3_ref pb)) hb, rows3 t pb, bt _ _ (refs_ne J hc (rows2_ref pc)) hc, rows2 t pc, bt _ _ (refs_ne J hd (rowsP_ref pd)) hd, rowsP t pd⟩
theorem WorldAt.exN2 {p : Addr} {W : Wd} {H H1 : Hp} (e : ExtN H H1) (h : WorldAt H p W) : WorldAt H1 p W := by
  obtain ⟨a, b, c, d, va, vb, vc, vd, hp, ha, pa, hb, pb, hc, pc, hd, pd⟩ := h
  have n : ∀ {b : Addr} {xs : List V}, H b = some (.lst xs) → H1 b = some (.lst xs) := fun h => e _ _ h fun _ z => nomatch z
  have t : Tup H H1 := fun a xs h => e _ _ h fun _ z => nomatch z
  exact ⟨a, b, c, d, va, vb, vc, vd, n hp, n ha, rows3 t pa, n hb, rows3 t pb, n hc, rows2 t pc, n hd, rowsP t pd⟩
theorem WkD.exN {C x : Addr} {W : Wd} {H H1 : Hp} (e : ExtN H H1) (h : WkD C H x W) : WkD C H1 x W := by
  obtain ⟨am, ac, as, ap, ⟨dx, D1, D2, D3, D4, b1, b2, v4, hx, ⟨g1, g2⟩, ⟨g3, g4⟩, g5, g6, g7⟩, ⟨⟨v1, m1, m2⟩, ⟨v2, m3, m4⟩, ⟨v3, m5, m6⟩, ⟨v5, m7, m8⟩⟩⟩ := h
  have t : Tup H H1 := fun a xs h => e _ _ h fun _ z => nomatch z
  have k : ∀ {a : Addr} {kvs : List (Key × V)}, H a = some (.dK kvs) → H1 a = some (.dK kvs) := fun {a kvs} h => e a _ h fun _ z => nomatch z
  refine ⟨am, ac, as, ap, ⟨dx, D1, D2, D3, D4, b1, b2, v4, e x _ hx (fun _ z => nomatch z), ⟨k g1, bnds t g2⟩, ⟨k g3, bnds t g4⟩, k g5, k g6, L2.Paired.mapP g7 fun v q z => ?_⟩, ⟨⟨v1, t _ _ m1, rows3 t m2⟩, ⟨v2, t _ _ m3, rows3 t m4⟩, ⟨v3, t _ _ m5, rows2 t m6⟩, ⟨v5, t _ _ m7, rowsP t m8⟩⟩⟩
  obtain ⟨Dp, ys, z1, z2, z3⟩ := z
  exact ⟨Dp, ys, z1, k z2, bnds t z3⟩
theorem PlanAt.exN {PC C y x td : Addr} {W : Wd} {ds : List Deed} {H H1 : Hp} (e : ExtN H H1) (h : PlanAt PC C H y x W td ds) : PlanAt PC C H1 y x W td ds := by
  obtain ⟨wk, dy, tl, rs, h1, h2, h3, h4⟩ := h
  have t : Tup H H1 := fun a xs h => e _ _ h fun _ z => nomatch z
  exact ⟨wk.exN e, dy, tl, rs, e _ _ h1 (fun _ z => nomatch z), t _ _ h2, deeds_tup t h3, t _ _ h4⟩
/-- all but lists stays: objects of Works and Plan know no list -/
theorem WkD.putL {C x l : Addr} {W : Wd} {H : Hp} {xs ys : List V} (hl : H l = some (.lst xs)) (h : WkD C H x W) : WkD C (upd H l (.lst ys)) x W := by
  obtain ⟨am, ac, as, ap, ⟨dx, D1, D2, D3, D4, b1, b2, v4, hx, ⟨g1, g2⟩, ⟨g3, g4⟩, g5, g6, g7⟩, ⟨⟨v1, m1, m2⟩, ⟨v2, m3, m4⟩, ⟨v3, m5, m6⟩, ⟨v5, m7, m8⟩⟩⟩ := h
  have n : ∀ {b : Addr} {o : HO}, H b = some o → o ≠ .lst xs → (upd H l (.lst ys)) b = some o := fun {b o} e z => by
    rw [upd_ne (ne_of e hl z)]
    exact e
  have t : Tup H (upd H l (.lst ys)) := fun a xs h => n h fun z => nomatch z
  have k : ∀ {a : Addr} {kvs : List (Key × V)}, H a = some (.dK kvs) → (upd H l (.lst ys)) a = some (.dK kvs) := fun {a kvs} h => n h fun z => nomatch z
  refine ⟨am, ac, as, ap, ⟨dx, D1, D2, D3, D4, b1, b2, v4, n hx (fun z => nomatch z), ⟨k g1, bnds t g2⟩, ⟨k g3, bnds t g4⟩, k g5, k g6, L2.Paired.mapP g7 fun v q z => ?_⟩, ⟨⟨v1, t _ _ m1, rows3 t m2⟩, ⟨v2, t _ _ m3, rows3 t m4⟩, ⟨v3, t _ _ m5, rows2 t m6⟩, ⟨v5, t _ _ m7, rowsP t m8⟩⟩⟩
  obtain ⟨Dp, ys, z1, z2, z3⟩ := z
  exact ⟨Dp, ys, z1, k z2, bnds t z3⟩
theorem PlanAt.putL {PC C y x td l : Addr} {W : Wd} {ds : List Deed} {H : Hp} {xs ys : List V} (hl : H l = some (.lst xs)) (h : PlanAt PC C H y x W td ds) : PlanAt PC C (upd H l (.lst ys)) y x W td ds := by
  obtain ⟨wk, dy, tl, rs, h1, h2, h3, h4⟩ := h
  have t : Tup H (upd H l (.lst ys)) := Tup.put hl
  exact ⟨wk.putL hl, dy, tl, rs, by rw [upd_ne (ne_of h1 hl fun z => nomatch z)]; exact h1, t _ _ h2, deeds_tup t h3, t _ _ h4⟩
theorem same_text {W V : Wd} {ds : List Deed} {g : GoodF W} (ok : DsOk W ds) : (decide (wtext W = wtext V) && (dDs ds).eqv (dDs ds)) = decide (wtext W = wtext V) := by
  rw [SeqAt.eqv_refl _ (shw_Ds g ok).lay, Bool.and_true]
/-- a world by its parts -/
structure Wx (H : Hp) (p a b c d : Addr) (va vb vc vd : List V) (W : Wd) : Prop where
  hp : H p = some (.lst [.ref a, .ref b, .ref c, .ref d])
  ha : H a = some (.lst va)
  pa : Paired (Row3 H) va W.ms
  hb : H b = some (.lst vb)
  pb : Paired (Row3 H) vb W.cs
  hc : H c = some (.lst vc)
  pc : Paired (Row2 H) vc W.ss
  hd : H d = some (.lst vd)
  pd : Paired (RowP H) vd W.ps
section
variable {H H1 : Hp} {p a b c d : Addr} {va vb vc vd : List V} {W : Wd}
theorem Wx.world (h : Wx H p a b c d va vb vc vd W) : WorldAt H p W := ⟨a, b, c, d, va, vb, vc, vd, h.hp, h.ha, h.pa, h.hb, h.pb, h.hc, h.pc, h.hd, h.pd⟩
theorem Wx.exN (e : ExtN H H1) (h : Wx H p a b c d va vb vc vd W) : Wx H1 p a b c d va vb vc vd W := by
  have n : ∀ {b : Addr} {xs : List V}, H b = some (.lst xs) → H1 b = some (.lst xs) := fun h => e _ _ h fun _ z => nomatch z
  have t : Tup H H1 := fun a xs h => e _ _ h fun _ z => nomatch z
  exact ⟨n h.hp, n h.ha, rows3 t h.pa, n h.hb, rows3 t h.pb, n h.hc, rows2 t h.pc, n h.hd, rowsP t h.pd⟩
theorem Wx.butJ {j : Addr} (J : JarAt H j) (bt : But j H H1) (h : Wx H p a b c d va vb vc vd W) : Wx H1 p a b c d va vb vc vd W := by
  have t := but_tup J bt
  exact ⟨bt _ _ (refs_ne J h.hp four_ref) h.hp, bt _ _ (refs_ne J h.ha (rows3_ref h.pa)) h.ha, rows3 t h.pa, bt _ _ (refs_ne J h.hb (rows3_ref h.pb)) h.hb, rows3 t h.pb, bt _ _ (refs_ne J h.hc (rows2_ref h.pc)) h.hc, rows2 t h.pc, bt _ _ (refs_ne J h.hd (rowsP_ref h.pd)) h.hd, rowsP t h.pd⟩
theorem Wx.putK {k : Addr} {xs ys : List V} (hk : H k = some (.lst xs)) (n1 : p ≠ k) (n2 : a ≠ k) (n3 : b ≠ k) (n4 : c ≠ k) (n5 : d ≠ k) (h : Wx H p a b c d va vb vc vd W) : Wx (upd H k (.lst ys)) p a b c d va vb vc vd W := by
  have t : Tup H (upd H k (.lst ys)) := Tup.put hk
  have n : ∀ {b : Addr} {o : HO}, b ≠ k → H b = some o → (upd H k (.lst ys)) b = some o := fun z e => by rw [upd_ne z]; exact e
  exact ⟨n n1 h.hp, n n2 h.ha, rows3 t h.pa, n n3 h.hb, rows3 t h.pb, n n4 h.hc, rows2 t h.pc, n n5 h.hd, rowsP t h.pd⟩
end
end LJ
set_option Elab.async false
set_option linter.all false
set_option maxRecDepth 100000
set_option maxHeartbeats 8000000
namespace LJ
open PySem PySem.Spec L2
open LamX (ExtN)
open NdefX (NTab TabsN)
/-! _law_found: the deeds of the plan with a text. -/
theorem spl_mem (S : List Nat) : ∀ (L : List Nat) (k : Nat) (acc : List Nat), ∀ p ∈ TL.spl S k acc L, ∀ c ∈ p, c ∈ acc ∨ c ∈ L
  | [], k, acc, p, hp, c, hc => by
    rw [TL.spl.eq_1] at hp
    obtain rfl := List.mem_singleton.mp hp
    exact .inl hc
  | d :: r, 0, acc, p, hp, c, hc => by
    rw [TL.spl.eq_2] at hp
    split at hp
    · rcases List.mem_cons.mp hp with rfl | hp
      · exact .inl hc
      · rcases spl_mem S r _ [] p hp c hc with z | z
        · cases z
        · exact .inr (List.mem_cons_of_mem _ z)
    · rcases spl_mem S r 0 (acc ++ [d]) p hp c hc with z | z
      · rcases List.mem_append.mp z with z | z
        · exact .inl z
        · obtain rfl := List.mem_singleton.mp z
          exact .inr (List.mem_cons_self ..)
      · exact .inr (List.mem_cons_of_mem _ z)
  | d :: r, k + 1, acc, p, hp, c, hc => by
    rw [show k + 1 = k.succ from rfl, TL.spl.eq_3] at hp
    rcases spl_mem S r k acc p hp c hc with z | z
    · exact .inl z
    · exact .inr (List.mem_cons_of_mem _ z)
theorem ok_iff {z : Str} : PyData.strOk z = true ↔ ∀ c ∈ TL.tl z, c < 1114112 := by
  unfold PyData.strOk
  rw [← Array.all_toList, List.all_eq_true]
  exact forall_congr' fun c => forall_congr' fun _ => ⟨of_decide_eq_true, decide_eq_true⟩
theorem split_mem {x y : Str} {c : Nat} (hy : TL.tl y = [c]) (h : c < 256) {p : Str} (hp : p ∈ Txt.split x y) : ∀ d ∈ TL.tl p, d ∈ TL.tl x := fun d hd => by
  have e := split_spl1 (x := x) hy h
  have m : TL.tl p ∈ TL.spl [c] 0 [] (TL.tl x) := e ▸ List.mem_map_of_mem (f := TL.tl) hp
  rcases spl_mem _ _ _ _ _ m d hd with z | z
  · cases z
  · exact z
theorem split_ok {x y : Str} {c : Nat} (hy : TL.tl y = [c]) (h : c < 256) (ok : PyData.strOk x = true) {p : Str} (hp : p ∈ Txt.split x y) : PyData.strOk p = true :=
  ok_iff.mpr fun d hd => ok_iff.mp ok d (split_mem hy h hp d hd)
/-- what the law has for words of a line -/
def DW (W : Wd) (H : Hp) (v : V) (ws : List Str) : Prop := DeedOr H v (if okW W ws = true then some (deedW ws) else none)
theorem DW.tup {W : Wd} {H H1 : Hp} {v : V} {ws : List Str} (h : DW W H v ws) (t : Tup H H1) : DW W H1 v ws := by
  unfold DW at h ⊢
  split at h
  · rename_i c
    rw [if_pos c]
    exact DeedAt.tup t h
  · rename_i c
    rw [if_neg c]
    exact h
def dW1 (W : Wd) (ws : List Str) : PyData := if okW W ws = true then dD (deedW ws) else .none
theorem DW.dp {K : PySem.W.Frag} {W : Wd} {H : Hp} {v : V} {ws : List Str} (h : DW W H v ws) : Dp K H v (dW1 W ws) := by
  unfold DW at h
  unfold dW1
  split at h
  · rename_i c
    rw [if_pos c]
    exact dp_D h
  · rename_i c
    rw [if_neg c]
    obtain rfl : v = .non := h
    exact .non
theorem shw_non : Shw 0 60 .none := ⟨rfl, by decide, by decide, rfl, rfl⟩
theorem shw_dW1 {W : Wd} (g : GoodF W) (ws : List Str) : Shw 2 2000 (dW1 W ws) := by
  unfold dW1
  split
  · rename_i c
    exact shw_D g (okW_ok c)
  · exact shw_non.mono (by decide) (by decide)
theorem eqv_dW1 {W : Wd} (ws : List Str) : PyData.eqv (dW1 W ws) .none = !okW W ws := by
  unfold dW1
  cases c : okW W ws with
  | true =>
    rw [if_pos rfl]
    generalize deedW ws = d
    cases d <;> (unfold dD; simp [PyData.eqv])
  | false => rfl
theorem any_none {W : Wd} (wss : List (List Str)) : (wss.map (dW1 W)).any (fun z => PyData.eqv z .none) = !wss.all (okW W) := by
  induction wss with
  | nil => rfl
  | cons ws r ih =>
    rw [List.map_cons, List.any_cons, List.all_cons, ih, eqv_dW1]
    cases okW W ws <;> rfl
abbrev sLf : Stmt := top 67
abbrev nLf : List Str := ["_law_world_here", "_law_page_here", "_law_found_here", "_law_line", "_law_deed_here"]
/-- what the law has for the plan of a text: its deeds in a list, or None -/
def FoundAt (H : Hp) (v : V) : Option (List Deed) → Prop
  | some ds => ∃ l, v = .ref l ∧ DeedsAt H l ds
  | none => v = .non
def foundOf (W : Wd) : V → Option (List Deed)
  | .str z => planOf W z
  | _ => none
def spLf (K : PySem.W.Frag) : Sp := fun vs H Q _ => ∃ (p : Addr) (W : Wd) (tv : V), vs = [.ref p, tv] ∧ WorldAt H p W ∧ GoodF W ∧ Kn K H tv ∧ (∀ z, tv = .str z → z.length ≤ 1000000 ∧ PyData.strOk z = true) ∧
  ∀ v H1, Ex H H1 → FoundAt H1 v (foundOf W tv) → Q v H1
def teLf (K : PySem.W.Frag) : TE := tCall (spLde K) [] E0 (tCons (tVar 0) (tCons (tM1 (fun x xs H Q => ∃ a b, x = .str a ∧ xs = [.str b] ∧ (b.length == 0) = false ∧ a.length + 2 ≤ sizeLine ∧ rNewStrs (Txt.split a b) H Q) (tVar 3) (tC (.str sp1))) tNil))
def tfLf (K : PySem.W.Frag) : TT := tTest (tOp rEq (tOp (rIxT K) (tVar 4) (tC (.int 0))) (tC (.str wRun)))
theorem Paired.map_of {α β : Type} {R : V → α → Prop} {S : V → β → Prop} {f : α → β} : ∀ {vs : List V} {ws : List α}, Paired R vs ws → (∀ v ws', ws' ∈ ws → R v ws' → S v (f ws')) → Paired S vs (ws.map f)
  | _, _, .nil, _ => .nil
  | _, _, .cons a t, h => .cons (h _ _ (List.mem_cons_self ..) a) (Paired.map_of t fun v w hw => h v w (List.mem_cons_of_mem _ hw))
theorem lotsOf_len {H : Hp} {v : V} {d : Deed} (h : DeedAt H v d) {K : PySem.W.Frag} : ∃ a xs, v = .ref a ∧ H a = some (.tup xs) ∧ xs[0]? = some (.str (if d.lot.toList.length = 1 then wRun else wClean)) ∧ (d.lot.toList.length = 1 ∨ d.lot.toList.length = 0) := by
  cases d with
  | run p ms =>
    obtain ⟨a, t, rfl, h1, h2⟩ := h
    exact ⟨a, _, rfl, h1, rfl, .inl rfl⟩
  | clean m c =>
    obtain ⟨a, rfl, h1⟩ := h
    exact ⟨a, _, rfl, h1, rfl, .inr rfl⟩
section
variable {K : PySem.W.Frag} {W : Wd} {H : Hp} {p : Addr} {z : Str}
theorem rd_fl {Q : VK} (wa : WorldAt H p W) (g : GoodF W) (lz : z.length ≤ 1000000) (ok : PyData.strOk z = true) (q : ∀ l vals H1, Ex H H1 → H1 l = some (.lst vals) → Paired (DW W H1) vals (wssOf z) → Q (.ref l) H1) :
    tIf (tTest (tOp rNe (tVar 1) (tC (.str (Str.ofString ""))))) (tLc (iList K (tM1 (fun x xs H Q => ∃ a b, x = .str a ∧ xs = [.str b] ∧ (b.length == 0) = false ∧ a.length + 2 ≤ sizeLine ∧ rNewStrs (Txt.split a b) H Q) (tVar 1) (tC (.str nl)))) (gName 3) tYes (teLf K) [3]) (tLst tNil) (L2.start nLf [.ref p, .str z]) H Q := by
  have sz := sizeLine_eq
  refine ⟨_, rfl, rfl, _, rfl, ?_⟩
  by_cases h : z.length = 0
  · have e : z = Str.ofString "" := by
      obtain ⟨cs⟩ := z
      have : cs = #[] := Array.size_eq_zero_iff.mp h
      rw [this]
      rfl
    subst e
    refine ite2 (fun y => absurd y (by simp)) (fun _ => ?_)
    refine ⟨by rw [sz]; exact Nat.zero_le _, fun l n => q l [] _ (Ex.refl.new n) upd_same ?_⟩
    unfold wssOf linesOf
    rw [if_pos h]
    exact .nil
  · have e : linesOf z = Txt.split z nl := by
      unfold linesOf
      rw [if_neg h]
    have ne : z ≠ Str.ofString "" := fun y => h (by rw [y]; rfl)
    refine ite2 (fun _ => ?_) (fun y => absurd (by simpa using ne) y)
    refine ⟨_, rfl, ⟨_, rfl⟩, z, nl, rfl, rfl, by decide +kernel, by omega, fun l nlz => ?_⟩
    have ln0 := lines_n (z := z)
    have ll0 : ∀ ln ∈ linesOf z, ln.length ≤ z.length ∧ PyData.strOk ln = true := fun ln hl => ⟨lines_in hl, by rw [e] at hl; exact split_ok tl_nl (by decide) ok hl⟩
    have x1 : Ex H (upd H l (.lst ((Txt.split z nl).map V.str))) := Ex.refl.new nlz
    have e1 : (upd H l (.lst ((Txt.split z nl).map V.str))) l = some (.lst ((linesOf z).map V.str)) := by rw [e]; exact upd_same
    generalize upd H l (.lst ((Txt.split z nl).map V.str)) = H1 at x1 e1 ⊢
    refine ⟨l, rfl, ⟨_, SqL.of e1⟩, fun D hD => lc_list (K := K) (a := l) (xs := (linesOf z).map V.str) (fun i G => Ex H1 G ∧ ∃ vals, G D = some (.lst vals) ∧ Paired (DW W G) vals ((wssOf z).take i)) ⟨Ex.refl.new hD, [], upd_same, .nil⟩ (fun i G _ h => SqL.of (h.1 _ _ e1)) ?_ ?_⟩
    · rintro i v G hv ⟨xG, vals, eG, pG⟩
      rw [List.getElem?_map] at hv
      obtain ⟨ln, hl, rfl⟩ := Option.map_eq_some_iff.mp hv
      have vl := Paired.size pG
      rw [List.length_take] at vl
      have il : i < (linesOf z).length := (List.getElem?_eq_some_iff.mp hl).1
      obtain ⟨ll, lo⟩ := ll0 ln (List.mem_of_getElem? hl)
      refine ⟨rfl, ?_⟩
      refine ⟨_, rfl, _, rfl, ⟨_, rfl⟩, ln, sp1, rfl, rfl, by decide +kernel, by omega, fun lw nlw => ?_⟩
      have x2 : Ex G (upd G lw (.lst ((Txt.split ln sp1).map V.str))) := Ex.refl.new nlw
      have e2 : (upd G lw (.lst ((Txt.split ln sp1).map V.str))) lw = some (.lst ((Txt.split ln sp1).map V.str)) := upd_same
      generalize upd G lw (.lst ((Txt.split ln sp1).map V.str)) = G2 at x2 e2 ⊢
      have sl := (split_sum (x := ln) tl_sp1 (by decide)).2
      refine ⟨p, lw, W, Txt.split ln sp1, rfl, wa.exN2 ((x1.trans xG).trans x2).n, g, e2, split_ne tl_sp1 (by decide), by omega, fun s hs => split_ok tl_sp1 (by decide) lo hs, fun v G3 x3 dv => ?_⟩
      refine ⟨vals, x3 _ _ (x2 _ _ eG), by omega, (xG.trans (x2.trans x3)).put hD, vals ++ [v], upd_same, ?_⟩
      have t2 : Tup G3 (upd G3 D (.lst (vals ++ [v]))) := Tup.put (x3 _ _ (x2 _ _ eG))
      have hw : (wssOf z)[i]? = some (wordsOf ln) := by
        unfold wssOf
        rw [List.getElem?_map, hl]
        rfl
      rw [List.take_succ, hw]
      exact Paired.snoc (L2.Paired.mapP pG fun _ _ h => (h.tup (Ex.tup (x2.trans x3))).tup t2) (DW.tup (ws := wordsOf ln) dv t2)
    · rintro G ⟨xG, vals, eG, pG⟩
      have lw : (wssOf z).length = (linesOf z).length := by
        unfold wssOf
        rw [List.length_map]
      rw [List.length_map, ← lw, List.take_length] at pG
      exact q _ _ _ (x1.trans xG) eG pG
theorem rd_fr {Qb : Bool → Hp → Prop} {l : Addr} {vals : List V} (g : GoodF W) (lz : z.length ≤ 1000000) (hl : H l = some (.lst vals)) (pr : Paired (DW W H) vals (wssOf z)) (q : ∀ H1, Ex H H1 → Qb (planOf W z).isNone H1) {tv : V} :
    tOr (tTest (tOp (rInD K) (tC .non) (tVar 2))) (tOr (tTest (tOp (rI0 fun i j => V.bl (decide (j < i))) (tCB (fun xs H Q => ∃ p ys, xs = [V.ref p] ∧ (SqL K H p ys ∨ SqT K H p ys) ∧ Q (.int ys.length) H) (tCons (tVar 2) tNil)) (tC (.int 20))))
      (tTest (tOp (rI0 fun i j => V.bl (decide (j < i))) (tCB (fun xs H Q => ∃ p ys, xs = [V.ref p] ∧ (SqL K H p ys ∨ SqT K H p ys) ∧ Q (.int ys.length) H) (tCons (tLc (iList K (tVar 2)) (gName 4) (tfLf K) (tVar 4) [4]) tNil)) (tC (.int 8))))) ((L2.start nLf [.ref p, tv]).set 2 (some (.ref l))) H Qb := by
  have sz := sizeLine_eq
  have lv : vals.length = (wssOf z).length := Paired.size pr
  have SH : Shw 3 (2000001 * 2001) (.list ((wssOf z).map (dW1 W))) := shw_list (a := 2) (n := 2000) (m := 2000001) (fun d hd => by
    obtain ⟨ws, _, rfl⟩ := List.mem_map.mp hd
    exact shw_dW1 g ws) (by
      have ln0 := lines_n (z := z)
      unfold wssOf
      rw [List.length_map, List.length_map]
      omega)
  refine ⟨_, rfl, .none, _, .non, .lst (SqL.of hl) (dpAll_of (L2.Paired.mapP pr fun _ _ h => h.dp)), by decide +kernel, SH.shaped (by decide), _, rfl, ?_⟩
  rw [any_none]
  cases ea : (wssOf z).all (okW W) with
  | false =>
    refine ite2 (fun _ => ?_) (fun z => absurd rfl z)
    have e : planOf W z = none := by
      unfold planOf
      rw [ea]
      rfl
    rw [e] at q
    exact q _ Ex.refl
  | true =>
    refine ite2 (fun z => by cases z) (fun _ => ?_)
    have e0 : planOf W z = if (decide ((wssOf z).length ≤ 20) && decide ((lotsOf ((wssOf z).map deedW)).length ≤ 8)) = true then some ((wssOf z).map deedW) else none := by
      unfold planOf
      rw [ea, Bool.true_and]
    have pd : Paired (DeedAt H) vals ((wssOf z).map deedW) := Paired.map_of pr fun v ws hw h => by
      have := List.all_eq_true.mp ea ws hw
      unfold DW at h
      rw [this, if_pos rfl] at h
      exact h
    generalize (wssOf z).map deedW = ds at e0 pd
    refine ⟨_, rfl, l, _, rfl, .inl (SqL.of hl), _, _, rfl, rfl, _, rfl, ?_⟩
    rw [lv]
    by_cases c20 : (wssOf z).length ≤ 20
    · refine ite2 (fun z => absurd (of_decide_eq_true z) (by omega)) (fun _ => ?_)
      rw [decide_eq_true c20, Bool.true_and] at e0
      have ld : vals.length = ds.length := Paired.size pd
      refine ⟨_, rfl, l, rfl, ⟨_, SqL.of hl⟩, fun D hD => lc_list (K := K) (a := l) (xs := vals) (fun i G => Ex H G ∧ ∃ acc, G D = some (.lst acc) ∧ acc.length = (lotsOf (ds.take i)).length) ⟨Ex.refl.new hD, [], upd_same, rfl⟩ (fun i G _ h => SqL.of (h.1 _ _ hl)) ?_ ?_⟩
      · rintro i v G hv ⟨xG, acc, eG, la⟩
        obtain ⟨d, hd, dd⟩ := Paired.spot pd hv
        have lt := lots_take hd
        have il : i < vals.length := (List.getElem?_eq_some_iff.mp hv).1
        obtain ⟨a, xs, rfl, ha, h0, h01⟩ := lotsOf_len (K := K) (dd.tup (Ex.tup xG))
        refine ⟨rfl, ?_⟩
        refine ⟨_, rfl, a, _, _, _, rfl, rfl, SqT.of ha, atI_nat (j := 0) h0, rfl, _, rfl, ?_⟩
        rcases h01 with h1 | h1
        · rw [if_pos h1]
          refine ite2 (fun _ => ?_) (fun z => absurd (decide_eq_true rfl) z)
          have la8 : acc.length ≤ i := by
            rw [la]
            exact Nat.le_trans (List.length_filterMap_le _ _) (by rw [List.length_take]; omega)
          refine ⟨_, rfl, _, eG, by omega, xG.put hD, _, upd_same, ?_⟩
          rw [lt, List.length_append, List.length_append, la, h1]
          rfl
        · rw [if_neg (show ¬ d.lot.toList.length = 1 by omega)]
          refine ite2 (fun z => absurd z (by decide +kernel)) (fun _ => ?_)
          exact ⟨xG, acc, eG, by rw [lt, List.length_append, la, h1]; rfl⟩
      · rintro G ⟨xG, acc, eG, la⟩
        rw [ld, List.take_length] at la
        refine ⟨D, acc, rfl, .inl (SqL.of eG), _, _, rfl, rfl, _, rfl, ?_⟩
        rw [la]
        have q := q _ xG
        rw [e0] at q
        by_cases c8 : (lotsOf ds).length ≤ 8
        · rw [if_pos (decide_eq_true c8)] at q
          rw [decide_eq_false (by omega)]
          exact q
        · rw [if_neg (by simpa using c8)] at q
          rw [decide_eq_true (by omega)]
          exact q
    · refine ite2 (fun _ => ?_) (fun z => absurd (decide_eq_true (by omega)) z)
      rw [decide_eq_false c20, Bool.false_and] at e0
      have q := q _ Ex.refl
      rw [e0] at q
      exact q
end
section
variable {P : Program} {w : World} {K : PySem.W.Frag} {mg : Str → Option Value} {base : Heap} {C : Addr}
theorem scLf : FnScope nLf ["_law_world_here", "_law_page_here"] (defScope sLf) := ⟨rfl, rfl, rfl, by decide +kernel, rfl, by decide +kernel, by decide +kernel⟩
theorem ok_lf {f fD : Addr} {fd fdD : FuncData} (F : Fun K "_law_found" "_law_found" sLf f fd) (B : BltI mg)
    (GD : FnOk P w K mg base CX0 1 fD fdD ["_law_world_here", "_law_words"] (spLde K)) (mD : mg "_law_deed" = some (.ref fD)) (kD : PySem.W.keepIn K (.ref fD) = true) (bD : Binds K fdD ["_law_world_here", "_law_words"] []) :
    FnOk P w K mg base CX0 2 f fd ["_law_world_here", "_law_page_here"] (spLf K) := by
  refine F.ok scLf (fun vs H Q E h => ?_) (fun cdv A outer s H vs Q E hr h => ?_)
  · obtain ⟨p, W, tv, rfl, _⟩ := h
    rfl
  · obtain ⟨p, W, tv, rfl, wa, g, kt, hz, q⟩ := h
    have hu : (A.deeper (PyProof.Rows.envOfC "_law_found" (defScope sLf) s.heap.objs.size f cdv)).units + 65 < cLine := by
      have := hr.un
      omega
    have hr1 : Room 1 (A.deeper (PyProof.Rows.envOfC "_law_found" (defScope sLf) s.heap.objs.size f cdv)) := hr.mono (by decide)
    refine ⟨_, pss_cons (ps_if (pt_not (pt_truth (pe_callB call_isi (by rfl) B.isinstance (by decide +kernel) (pa_cons (pv 1) (pa_cons (pe_bltn (by rfl) B.str (by decide +kernel) (v := .ty "str") rfl) pa_nil))) (fun _ => rfl))) (pss_one (ps_ret pe_non)) pss_nil)
      (pss_cons (ps_set (i := 2) scLf.nd rfl (Or.inl rfl) (pe_ifExp (pt_cmpR op_ne (pv 1) pe_str (nomark _))
          (pe_lc (own := [("_law_line", 3)]) (g := gName 3) (tt := tYes) (te := teLf K) (by rfl) scLf.nd (pi_list (pe_split (pv 1) pe_str)) (blkOk_by (own := [("_law_line", 3)]) (N := nLf) (sc := defScope sLf) (by decide +kernel)) (fun _ _ _ _ _ => pg_name (i := 3) scLf.nd rfl (Or.inl rfl)) (fun _ _ _ _ _ => pts_nil)
            (fun _ _ _ _ _ => pe_call GD hr1 (by rfl) mD kD bD .nil pass0 (pa_cons (pv 0) (pa_cons (pe_split (pv 3) pe_str) pa_nil))))
          (pe_lst pa_nil)))
      (pss_cons (ps_if (PW.pt (pw_or (pt_cmpR (op_inD hu) pe_non (pv 2) rfl) (pw_or (pt_cmpR op_gt (pe_callB call_len_seq (by rfl) B.len (by decide +kernel) (pa_cons (pv 2) pa_nil)) pe_int (nomark _))
          (pw_or1 (pt_cmpR op_gt (pe_callB call_len_seq (by rfl) B.len (by decide +kernel) (pa_cons (pe_lc (own := [("_law_deed_here", 4)]) (g := gName 4) (tt := tfLf K) (by rfl) scLf.nd (pi_list (pv 2)) (blkOk_by (own := [("_law_deed_here", 4)]) (N := nLf) (sc := defScope sLf) (by decide +kernel)) (fun _ _ _ _ _ => pg_name (i := 4) scLf.nd rfl (Or.inl rfl))
              (fun _ _ _ _ _ => pts_one (pt_cmpR op_eq (pe_ix (show IxR _ (rIxT K) from ix_tup) (pv 4) pe_int (fun _ _ => rfl)) pe_str (nomark _))) (fun _ _ _ _ _ => pv 4)) pa_nil)) pe_int (nomark _)))))) (pss_one (ps_ret pe_non)) pss_nil)
      (pss_one (ps_ret (pv 2))))), ?_⟩
    have sz := sizeLine_eq
    obtain ⟨t, bs, ty, es, hb2⟩ := kt.st.ty
    refine ⟨_, rfl, _, _, t, _, bs, rfl, .ty "str", ty, es, bs, rfl, ?_⟩
    rcases hb2 with ⟨rfl, z, rfl⟩ | ⟨rfl, ns⟩
    · refine ite2 (fun q => by cases q) (fun _ => ?_)
      refine rd_nextU ?_
      try dsimp only
      obtain ⟨lz, ok⟩ := hz z rfl
      refine rd_seqU (rd_asgU (rd_fl (K := K) wa g lz ok fun l vals H1 x1 e1 pr => ?_))
      refine rd_nameU ?_
      try dsimp only
      refine rd_seqU (rd_ifU (rd_fr (K := K) g lz e1 pr fun H2 x2 => ?_))
      have q : ∀ v H1, Ex H H1 → FoundAt H1 v (planOf W z) → Q v H1 := q
      cases hp : planOf W z with
      | none =>
        rw [hp] at q
        refine ite2 (fun _ => ?_) (fun z => absurd rfl z)
        exact q _ _ (x1.trans x2) rfl
      | some ds =>
        rw [hp] at q
        refine ite2 (fun z => by cases z) (fun _ => ?_)
        refine rd_nextU ?_
        try dsimp only
        refine ⟨_, rfl, q _ _ (x1.trans x2) ⟨l, rfl, vals, x2 _ _ e1, ?_⟩⟩
        unfold planOf at hp
        split at hp
        · rename_i c
          cases hp
          rw [Bool.and_eq_true] at c
          exact Paired.map_of pr fun v ws hw h => by
            have := List.all_eq_true.mp c.1 ws hw
            unfold DW at h
            rw [this, if_pos rfl] at h
            exact DeedAt.tup (Ex.tup x2) h
        · cases hp
    · refine ite2 (fun _ => ?_) (fun q => absurd rfl q)
      refine q _ _ Ex.refl ?_
      unfold foundOf
      split
      · exact absurd rfl (ns _)
      · rfl
end
end LJ
set_option Elab.async false
set_option linter.all false
set_option maxRecDepth 100000
set_option maxHeartbeats 8000000
/-! list(s) of a text. -/
namespace SetX
open PySem PySem.Spec L2
theorem vals_of : ∀ {xs : List V} {us : List Value}, xs.length = us.length → (∀ (i : Nat) (x : V) (u : Value), xs[i]? = some x → us[i]? = some u → RelV x u) → Vals xs us
  | [], [], _, _ => .nil
  | [], _ :: _, h, _ => nomatch h
  | _ :: _, [], h, _ => nomatch h
  | x :: xs, u :: us, h, r => .cons (r 0 x u rfl rfl) (vals_of (Nat.succ.inj h) fun i y v hy hv => r (i + 1) y v hy hv)
/-- the signs of a text -/
def signs (z : Str) : List Str := z.cps.toList.map fun c => ⟨#[c]⟩
theorem call_listS {X : Cx} (hc : X.calm = true) : CallR X (.type "list") fun xs H Q => ∃ z : Str, xs = [.str z] ∧ z.length ≤ sizeLine ∧ ∀ l, H l = none → Q (.ref l) (upd H l (.lst ((signs z).map V.str))) := by
  intro pins s σ H xs us Q I r ⟨z, e, lz, q⟩
  subst e
  obtain ⟨u, rfl, t, rfl⟩ := vals1 r
  refine call_list_str (I.ok.hd hc) z t (fun h' tk acc' c' k e it => ?_) lz
  obtain ⟨sz, at_⟩ := it
  have ll : ((signs z).map V.str).length = z.cps.size := by
    unfold signs
    rw [List.length_map, List.length_map, Array.length_toList]
  refine ⟨.ref s.heap.objs.size, upd H s.heap.objs.size (.lst ((signs z).map V.str)), I.laid k (Nat.le_refl _) (show ObjOk X.prog X.w _ h' _ (HO.lst ((signs z).map V.str)) from ⟨by rw [ll]; exact lz, acc'.toList, c', vals_of (by rw [ll, Array.length_toList, sz]) fun i x u hx hu => ?_, e⟩), rfl, q _ (HOk.fresh I.hok (Nat.le_refl _))⟩
  rw [Array.getElem?_toList] at hu
  obtain ⟨c, t2, hc2, rfl⟩ := at_ i u hu
  unfold signs at hx
  rw [List.map_map, List.getElem?_map, Array.getElem?_toList, hc2] at hx
  cases hx
  exact ⟨t2, rfl⟩
end SetX
set_option Elab.async false
set_option linter.all false
set_option maxRecDepth 100000
set_option maxHeartbeats 8000000
/-! Texts cut and joined: their signs and lengths. -/
namespace LJ
open PySem PySem.Spec L2
/-- signs below 200 alone -/
abbrev Tk (z : Str) : Prop := (TL.tl z).all (fun c => decide (c < 200)) = true
theorem tk_iff {z : Str} : Tk z ↔ ∀ c ∈ TL.tl z, c < 200 := by
  unfold Tk
  rw [List.all_eq_true]
  exact forall_congr' fun c => forall_congr' fun _ => ⟨of_decide_eq_true, decide_eq_true⟩
theorem tk_free {z : Str} : Tk z ↔ ∀ c, 200 ≤ c → Free c z := by
  rw [tk_iff]
  exact ⟨fun h c hc hm => by have := h c hm; omega, fun h c hc => Decidable.byContradiction fun n => h c (by omega) hc⟩
theorem tk_str {z : Str} (h : Tk z) : PyData.strOk z = true := by
  rw [ok_iff]
  exact fun c hc => Nat.lt_of_lt_of_le (tk_iff.mp h c hc) (by decide)
theorem tk_app {a b : Str} (ha : Tk a) (hb : Tk b) : Tk (a ++ b) := by
  rw [tk_iff] at *
  intro c hc
  rw [TL.tl_append] at hc
  rcases List.mem_append.mp hc with h | h
  · exact ha c h
  · exact hb c h
theorem tk_join {sep : Str} {ys : List Str} (hs : Tk sep) (h : ∀ y ∈ ys, Tk y) : Tk (Txt.join sep ys) :=
  tk_free.mpr fun c hc => free_join (tk_free.mp hs c hc) fun y hy => tk_free.mp (h y hy) c hc
theorem tk_cut {z : Str} {lo hi : Option Int} (h : Tk z) : Tk (cutS z lo hi) := by
  rw [tk_iff] at *
  intro c hc
  unfold cutS at hc
  exact h c (List.mem_of_mem_drop (List.mem_of_mem_take hc))
theorem tk_split {x y : Str} {c : Nat} (hy : TL.tl y = [c]) (h : c < 256) (ok : Tk x) {p : Str} (hp : p ∈ Txt.split x y) : Tk p :=
  tk_iff.mpr fun d hd => tk_iff.mp ok d (split_mem hy h hp d hd)
theorem len_app (a b : Str) : (a ++ b).length = a.length + b.length := by
  show (a ++ b).cps.size = a.cps.size + b.cps.size
  rw [← Array.length_toList, ← Array.length_toList, ← Array.length_toList, ← List.length_append]
  exact congrArg List.length (TL.tl_append a b)
theorem len_tl (z : Str) : z.cps.toList.length = z.length := Array.length_toList
theorem cut_lo {z : Str} {i : Int} (h0 : 0 ≤ i) : (cutS z none (some i)).length ≤ i.toNat := by
  unfold cutS HT.sIx
  show (List.toArray _).size ≤ _
  rw [List.size_toArray, List.length_take]
  simp only
  rw [if_neg (by omega)]
  omega
theorem cut_hi {z : Str} {i : Int} (h0 : 0 ≤ i) : (cutS z (some i) none).length + i.toNat ≤ z.length + (i.toNat - z.length) := by
  unfold cutS HT.sIx
  show (List.toArray _).size + _ ≤ _
  rw [List.size_toArray, List.length_take, List.length_drop, len_tl]
  simp only
  rw [if_neg (by omega)]
  omega
theorem split_tot {x y : Str} {c : Nat} (hy : TL.tl y = [c]) (h : c < 256) : ((Txt.split x y).map Str.length).sum + (Txt.split x y).length = x.length + 1 := by
  have e := split_spl1 (x := x) hy h
  have go : ∀ (L acc : List Nat), ((TL.spl [c] 0 acc L).map List.length).sum + (TL.spl [c] 0 acc L).length = acc.length + L.length + 1 := by
    intro L
    induction L with
    | nil =>
      intro acc
      rw [TL.spl.eq_1]
      simp
    | cons d r ih =>
      intro acc
      rw [TL.spl.eq_2]
      split
      · have := ih []
        show ((acc :: TL.spl [c] 0 [] r).map List.length).sum + (acc :: TL.spl [c] 0 [] r).length = _
        simp only [List.map_cons, List.sum_cons, List.length_cons, List.length_nil] at this ⊢
        omega
      · have := ih (acc ++ [d])
        simp only [List.length_append, List.length_cons, List.length_nil] at this ⊢
        omega
  have s := go (TL.tl x) []
  rw [← e, List.map_map, List.length_map] at s
  have e2 : (List.length ∘ TL.tl : Str → Nat) = Str.length := by
    funext z
    exact len_tl z
  rw [e2] at s
  have e3 : (TL.tl x).length = x.length := len_tl x
  rw [e3] at s
  simpa using s
theorem sum_at {xs : List Nat} : ∀ {i : Nat} (h : i < xs.length), (xs.take i).sum + xs[i] + (xs.drop (i + 1)).sum = xs.sum := fun {i} h => by
  have e : xs = xs.take i ++ xs[i] :: xs.drop (i + 1) := by rw [List.getElem_cons_drop, List.take_append_drop]
  have := congrArg List.sum e
  rw [List.sum_append, List.sum_cons] at this
  omega
/-- a thing in a list exchanged for some -/
def edit (ys : List Str) (i : Nat) (ms : List Str) : List Str := ys.take i ++ ms ++ ys.drop (i + 1)
theorem edit_mem {ys ms : List Str} {i : Nat} {p : Str} (h : p ∈ edit ys i ms) : p ∈ ys ∨ p ∈ ms := by
  unfold edit at h
  rcases List.mem_append.mp h with h | h
  · rcases List.mem_append.mp h with h | h
    · exact .inl (List.mem_of_mem_take h)
    · exact .inr h
  · exact .inl (List.mem_of_mem_drop h)
theorem edit_n {ys ms : List Str} {i : Nat} (lt : i < ys.length) : (edit ys i ms).length + 1 = ys.length + ms.length := by
  unfold edit
  rw [List.length_append, List.length_append, List.length_take, List.length_drop]
  omega
theorem edit_sum {ys ms : List Str} {i : Nat} (lt : i < ys.length) : ((edit ys i ms).map Str.length).sum + ys[i].length = (ys.map Str.length).sum + (ms.map Str.length).sum := by
  have := sum_at (xs := ys.map Str.length) (i := i) (by rw [List.length_map]; exact lt)
  unfold edit
  rw [List.map_append, List.map_append, List.sum_append, List.sum_append, List.map_take, List.map_drop]
  rw [List.getElem_map] at this
  omega
theorem edit_len {sep : Str} (hs : sep.length = 1) {ys ms : List Str} {i L : Nat} (lt : i < ys.length) (hS : (ys.map Str.length).sum + ys.length ≤ L + 1) : (Txt.join sep (edit ys i ms)).length + ys[i].length ≤ L + (ms.map Str.length).sum + ms.length := by
  have h1 := edit_n (ms := ms) lt
  have h2 := edit_sum (ms := ms) lt
  rw [join_len, hs, Nat.mul_one]
  have h3 : ((edit ys i ms).map (·.length)).sum = ((edit ys i ms).map Str.length).sum := rfl
  rw [h3]
  generalize ((edit ys i ms).map Str.length).sum = S at *
  cases hn : (edit ys i ms).length with
  | zero => 
    have : edit ys i ms = [] := List.length_eq_zero_iff.mp hn
    omega
  | succ n => omega
theorem shw_txt {z : Str} {n : Nat} (ok : Tk z) (l : z.length ≤ n) : Shw 0 n (.str z) := ⟨tk_str ok, Nat.le_refl _, l, rfl, rfl⟩
end LJ
set_option Elab.async false
set_option linter.all false
set_option maxRecDepth 100000
set_option maxHeartbeats 8000000
/-! Data of texts can be shown, and what is shown is a text. -/
namespace LJ
open PySem PySem.Spec L2 PySem.ErrV
open Builtin.Str in
theorem rc_ok : ∀ c : Fin 200, (reprChar 34 c.val).all (fun x => decide (x < 1114112)) = true ∧ (reprChar 39 c.val).all (fun x => decide (x < 1114112)) = true := by decide +kernel
open Builtin.Str in
theorem fold_ok {q : Nat} (hq : ∀ c, c < 200 → ∀ x ∈ reprChar q c, x < 1114112) : ∀ (l : List Nat) (acc : Array Nat), (∀ c ∈ l, c < 200) → (∀ x ∈ acc.toList, x < 1114112) → ∀ x ∈ (l.foldl (fun out c => out ++ (reprChar q c).toArray) acc).toList, x < 1114112
  | [], _, _, h => h
  | c :: l, acc, hl, h => by
    rw [List.foldl_cons]
    refine fold_ok hq l _ (fun d hd => hl d (List.mem_cons_of_mem _ hd)) fun x hx => ?_
    rw [Array.toList_append] at hx
    rcases List.mem_append.mp hx with hx | hx
    · exact h x hx
    · exact hq c (hl c (List.mem_cons_self ..)) x (by simpa using hx)
open Builtin.Str in
theorem repr_tk {z : Str} (h : Tk z) : PyData.strOk (reprText z) = true := by
  have quote : reprQuote z = 34 ∨ reprQuote z = 39 := by
    unfold reprQuote
    split <;> simp
  have hq : ∀ c, c < 200 → ∀ x ∈ reprChar (reprQuote z) c, x < 1114112 := fun c hc x hx => by
    have r := rc_ok ⟨c, hc⟩
    rcases quote with e | e
    · rw [e] at hx
      exact of_decide_eq_true (List.all_eq_true.mp r.1 x hx)
    · rw [e] at hx
      exact of_decide_eq_true (List.all_eq_true.mp r.2 x hx)
  have cs : ∀ c ∈ z.cps.toList, c < 200 := tk_iff.mp h
  unfold PyData.strOk reprText
  rw [← Array.all_toList, List.all_eq_true]
  intro x hx
  refine decide_eq_true ?_
  rw [Array.toList_push, List.mem_append] at hx
  rcases hx with hx | hx
  · rw [← Array.foldl_toList] at hx
    exact fold_ok hq _ _ cs (fun y hy => by
      simp only [List.mem_cons, List.not_mem_nil, or_false] at hy
      rcases quote with e | e <;> rw [hy, e] <;> decide) x hx
  · simp only [List.mem_cons, List.not_mem_nil, or_false] at hx
    rcases quote with e | e <;> rw [hx, e] <;> decide
theorem so_app {a b : Str} (ha : PyData.strOk a = true) (hb : PyData.strOk b = true) : PyData.strOk (a ++ b) = true := by
  rw [ok_iff] at *
  intro c hc
  rw [TL.tl_append] at hc
  rcases List.mem_append.mp hc with h | h
  · exact ha c h
  · exact hb c h
theorem so_from : ∀ (ts : List Str) (k : Nat) (acc : Str), PyData.strOk acc = true → (∀ t ∈ ts, PyData.strOk t = true) → PyData.strOk (textFrom k acc ts) = true
  | [], _, _, h, _ => h
  | t :: ts, k, acc, h, ht => by
    show PyData.strOk (textFrom (k + 1) _ ts) = true
    refine so_from ts (k + 1) _ (so_app (so_app h ?_) (ht t (List.mem_cons_self ..))) fun u hu => ht u (List.mem_cons_of_mem _ hu)
    split <;> decide +kernel
theorem so_join : ∀ (ts : List Str), (∀ t ∈ ts, PyData.strOk t = true) → PyData.strOk (Str.join (Str.ofString ", ") ts) = true
  | [], _ => by decide +kernel
  | [x], h => h x (List.mem_cons_self ..)
  | x :: y :: r, h => by
    show PyData.strOk (x ++ Str.ofString ", " ++ Str.join (Str.ofString ", ") (y :: r)) = true
    exact so_app (so_app (h x (List.mem_cons_self ..)) (by decide +kernel)) (so_join (y :: r) fun t ht => h t (List.mem_cons_of_mem _ ht))
theorem all_shown : ∀ (ds : List PyData), PyData.shownAll ds = ds.map PyData.shown
  | [] => PyData.shownAll.eq_1
  | d :: ds => by rw [PyData.shownAll.eq_2, all_shown ds, List.map_cons]
/-- data of texts -/
inductive Nice : PyData → Prop
  | flat {d : PyData} (h : PyData.strOk d.shown = true) : Nice d
  | str {z : Str} (h : Tk z) : Nice (.str z)
  | list {ds : List PyData} (h : ∀ d ∈ ds, Nice d) : Nice (.list ds)
  | tuple {ds : List PyData} (h : ∀ d ∈ ds, Nice d) : Nice (.tuple ds)
theorem Nice.shown {d : PyData} (h : Nice d) : PyData.strOk d.shown = true := by
  induction h with
  | flat h => exact h
  | str h =>
    rw [PyData.shown.eq_4]
    exact repr_tk h
  | @list ds h ih =>
    rw [PyData.shown.eq_5, all_shown]
    unfold listText
    refine so_app (so_from _ _ _ (by decide +kernel) fun t ht => ?_) (by decide +kernel)
    obtain ⟨d, hd, rfl⟩ := List.mem_map.mp ht
    exact ih d hd
  | @tuple ds h ih =>
    rw [PyData.shown.eq_6, all_shown]
    unfold tupleText
    refine so_app (so_app (by decide +kernel) (so_join _ fun t ht => ?_)) ?_
    · obtain ⟨d, hd, rfl⟩ := List.mem_map.mp ht
      exact ih d hd
    · split <;> decide +kernel
theorem dat_nice {H : Hp} {v : V} {d : PyData} {a n : Nat} (r : rp H d v) (s : Shw a n d) (x : a ≤ 64) (y : n ≤ 1000000) (k : Nice d) : Dat H d v := ⟨.inl r, s.sh, by have := s.dp; omega, s.len x y, k.shown⟩
theorem tk_name {z : Str} (h : isW z = true) : Tk z := tk_free.mpr fun c hc => free_name h (by omega)
theorem nice_D {W : Wd} (g : GoodF W) {d : Deed} (h : DOk W d) : Nice (dD d) := by
  cases d with
  | run p ms =>
    obtain ⟨hp, l1, l4, nd, hm⟩ := h
    refine .tuple fun d hd => ?_
    simp only [List.mem_cons, List.not_mem_nil, or_false] at hd
    rcases hd with rfl | rfl | rfl
    · exact .str (by decide +kernel)
    · exact .str (tk_name (g.nP hp))
    · refine .tuple fun d hd => ?_
      obtain ⟨m, h, rfl⟩ := List.mem_map.mp hd
      exact .str (tk_name (g.nM (hm m h)))
  | clean m c =>
    obtain ⟨hm, hc⟩ := h
    refine .tuple fun d hd => ?_
    simp only [List.mem_cons, List.not_mem_nil, or_false] at hd
    rcases hd with rfl | rfl | rfl
    · exact .str (by decide +kernel)
    · exact .str (tk_name (g.nM hm))
    · exact .str (tk_name (g.nC hc))
theorem dat_Ds {H : Hp} {W : Wd} {td : Addr} {rs : List V} {ds : List Deed} (g : GoodF W) (ok : DsOk W ds) (e : H td = some (.tup rs)) (h : Paired (DeedAt H) rs ds) : Dat H (dDs ds) (.ref td) :=
  dat_nice (rp_Ds e h) (shw_Ds g ok) (by decide) (by decide) (.tuple fun d hd => by
    obtain ⟨x, hx, rfl⟩ := List.mem_map.mp hd
    exact nice_D g (ok.all x hx))
theorem plan_ok {W : Wd} {z : Str} {ds : List Deed} (h : planOf W z = some ds) : DsOk W ds := by
  unfold planOf at h
  split at h
  · rename_i c
    cases h
    simp only [Bool.and_eq_true, decide_eq_true_eq, List.all_eq_true] at c
    obtain ⟨c1, c2, c3⟩ := c
    refine ⟨fun d hd => ?_, by rw [List.length_map]; exact c2, c3⟩
    obtain ⟨ws, hw, rfl⟩ := List.mem_map.mp hd
    exact okW_ok (c1 ws hw)
  · cases h
theorem dat_str {H : Hp} {z : Str} (h : Tk z) (l : z.length ≤ 1000000) : Dat H (.str z) (.str z) := dat_nice (by unfold rp; rfl) (shw_txt h l) (by decide) (Nat.le_refl _) (.str h)
end LJ
set_option Elab.async false
set_option linter.all false
set_option maxRecDepth 100000
set_option maxHeartbeats 8000000
namespace LJ
open PySem PySem.Spec L2
open LamX (ExtN)
/-! _law_bent: a page bent. -/
abbrev sBe : Stmt := top 68
abbrev nBe : List Str := ["_law_jar_here", "_law_page_here", "_law_words", "_law_kind", "_law_lines", "_law_at", "_law_spot", "_law_sign", "_law_more", "_law_some", "_law_k", "_law_fresh"]
def rAd : R2 := rI0 fun i j => V.int (i + j)
/-- xs[:i] + mid + xs[i + 1:] -/
def tEdit (K : PySem.W.Frag) (a b : Nat) (tm : TE) : TE :=
  tOp rCat (tOp rCat (tSl (rSlL K) (tVar a) tNoPart (tPart (tVar b))) tm) (tSl (rSlL K) (tVar a) (tPart (tOp (rI0 fun i j => V.int (i + j)) (tVar b) (tC (.int 1)))) tNoPart)
theorem cutV_lo {xs : List Str} {i : Int} (h0 : 0 ≤ i) (h : i.toNat < xs.length) : cutV (xs.map V.str) none (some i) = (xs.take i.toNat).map V.str := by
  unfold cutV
  rw [HT.sIx_none]
  unfold HT.sIx
  simp only
  rw [if_neg (by omega), List.length_map, Nat.sub_zero, List.drop_zero, Nat.min_eq_left (by omega), List.map_take]
theorem cutV_hi {xs : List Str} {i : Int} (h0 : 0 ≤ i) (h : i.toNat < xs.length) : cutV (xs.map V.str) (some (i + 1)) none = (xs.drop (i.toNat + 1)).map V.str := by
  unfold cutV
  rw [HT.sIx_none]
  unfold HT.sIx
  simp only
  rw [if_neg (by omega), List.length_map, show (i + 1).toNat = i.toNat + 1 by omega, Nat.min_eq_left (by omega), List.map_drop, List.take_of_length_le (by rw [List.length_drop, List.length_map]; exact Nat.le_refl _)]
section
variable {K : PySem.W.Frag} {σ : L2.St} {H : Hp} {Q : VK} {j la : Addr} {a b : Nat} {tm : TE} {xs : List Str} {i : Int}
theorem rd_edit {Pm : List Str → Prop} (s1 : σ[a]? = some (some (.ref la))) (s2 : σ[b]? = some (some (.int i))) (J : JarAt H j) (hl : H la = some (.lst (xs.map V.str))) (nj : la ≠ j)
    (h0 : 0 ≤ i) (hi : i.toNat < xs.length) (hx : xs.length ≤ 100000)
    (mid : ∀ (H1 : Hp) (Q1 : VK), JarAt H1 j → But j H H1 → (∀ (lm : Addr) (ms : List Str) (H2 : Hp), H2 lm = some (.lst (ms.map V.str)) → ms.length ≤ 1000 → Pm ms → JarAt H2 j → But j H1 H2 → Q1 (.ref lm) H2) → tm σ H1 Q1)
    (q : ∀ (p : Addr) (ms : List Str) (H2 : Hp), Pm ms → ms.length ≤ 1000 → H2 p = some (.lst ((edit xs i.toNat ms).map V.str)) → p ≠ j → JarAt H2 j → But j H H2 → Q (.ref p) H2) : tEdit K a b tm σ H Q := by
  have sz := sizeLine_eq
  refine ⟨_, s1, _, s2, _, rfl, la, _, rfl, SqL.of hl, fun p1 n1 => ?_⟩
  rw [cutV_lo h0 hi]
  have J1 : JarAt (upd H p1 (.lst ((xs.take i.toNat).map V.str))) j := J.new n1
  have b1 : But j H (upd H p1 (.lst ((xs.take i.toNat).map V.str))) := But.refl.new n1
  have e1 : (upd H p1 (.lst ((xs.take i.toNat).map V.str))) p1 = some (.lst ((xs.take i.toNat).map V.str)) := upd_same
  have m1 := J.ne n1
  generalize upd H p1 (.lst ((xs.take i.toNat).map V.str)) = H1 at J1 b1 e1 ⊢
  refine mid H1 _ J1 b1 fun lm ms H2 e2 l2 pm J2 b2 => ?_
  refine ⟨p1, lm, _, _, rfl, rfl, b2 _ _ m1 e1, e2, by rw [List.length_map, List.length_map, List.length_take]; omega, fun p3 n3 => ?_⟩
  have J3 : JarAt (upd H2 p3 (.lst ((xs.take i.toNat).map V.str ++ ms.map V.str))) j := J2.new n3
  have b3 : But j H (upd H2 p3 (.lst ((xs.take i.toNat).map V.str ++ ms.map V.str))) := (b1.trans b2).new n3
  have e3 : (upd H2 p3 (.lst ((xs.take i.toNat).map V.str ++ ms.map V.str))) p3 = some (.lst ((xs.take i.toNat).map V.str ++ ms.map V.str)) := upd_same
  have m3 := J2.ne n3
  generalize upd H2 p3 (.lst ((xs.take i.toNat).map V.str ++ ms.map V.str)) = H3 at J3 b3 e3 ⊢
  refine ⟨_, s1, _, s2, _, _, rfl, rfl, _, rfl, la, _, rfl, SqL.of (b3 _ _ nj hl), fun p4 n4 => ?_⟩
  rw [cutV_hi h0 hi]
  have J4 : JarAt (upd H3 p4 (.lst ((xs.drop (i.toNat + 1)).map V.str))) j := J3.new n4
  have b4 : But j H3 (upd H3 p4 (.lst ((xs.drop (i.toNat + 1)).map V.str))) := But.refl.new n4
  have e4 : (upd H3 p4 (.lst ((xs.drop (i.toNat + 1)).map V.str))) p4 = some (.lst ((xs.drop (i.toNat + 1)).map V.str)) := upd_same
  generalize upd H3 p4 (.lst ((xs.drop (i.toNat + 1)).map V.str)) = H4 at J4 b4 e4 ⊢
  refine ⟨p3, p4, _, _, rfl, rfl, b4 _ _ m3 e3, e4, by rw [List.length_append, List.length_map, List.length_map, List.length_map, List.length_take, List.length_drop]; omega, fun p5 n5 => ?_⟩
  refine q p5 ms _ pm l2 ?_ (J4.ne n5) (J4.new n5) ((b3.trans b4).new n5)
  rw [upd_same, ← List.map_append, ← List.map_append]
  rfl
end
theorem strs_ne {H : Hp} {j l : Addr} {xs : List Str} (J : JarAt H j) (h : H l = some (.lst (xs.map V.str))) : l ≠ j := fun e => by
  subst e
  obtain ⟨d, m, c, hj, _⟩ := J
  rw [h] at hj
  cases xs with
  | nil => cases hj
  | cons a t => cases hj
/-- the signs that are put in -/
def more4 : List Str := [Str.ofString "  ", Str.ofString "\n\n", Str.ofString "clean", Str.ofString "run"]
def sgs : List Str := SetX.signs (Str.ofString " \nax") ++ more4
theorem sgs_ok : ∀ s ∈ sgs, s.length ≤ 5 ∧ Tk s := by decide +kernel
theorem k3_len {z m : Str} {i o : Int} (h0 : 0 ≤ i) (h1 : i ≤ z.length) (ho : o = 0 ∨ o = 1) (m5 : m.length ≤ 5) : (cutS z none (some i) ++ m ++ cutS z (some (i + o)) none).length ≤ z.length + 6 := by
  have l1 := cut_lo (z := z) h0
  have l2 := cut_hi (z := z) (i := i + o) (by omega)
  rw [len_app, len_app]
  omega
theorem k3_tk {z m : Str} {i o : Int} (h : Tk z) (hm : Tk m) : Tk (cutS z none (some i) ++ m ++ cutS z (some (i + o)) none) := tk_app (tk_app (tk_cut h) hm) (tk_cut h)
section
variable {K : PySem.W.Frag} {σ : L2.St} {H : Hp} {Q : VK} {j : Addr} {z sg m : Str} {i k o : Int}
def rAddS : R2 := fun x y H Q => ∃ i j, x = .str i ∧ y = .str j ∧ i.length + j.length ≤ sizeLine ∧ Q (.str (i ++ j)) H
theorem rd_k3 (s1 : σ[1]? = some (some (.str z))) (s3 : σ[3]? = some (some (.int k))) (s5 : σ[5]? = some (some (.int i))) (s7 : σ[7]? = some (some (.str sg))) (h0 : 0 ≤ i) (h1 : i ≤ z.length) (lz : z.length ≤ 40000) (J : JarAt H j)
    (hA : atI [V.str (Str.ofString ""), .str sg, .str sg] k = some (.str m)) (hO : atI [V.int 1, .int 0, .int 1] k = some (.int o)) (ho : o = 0 ∨ o = 1) (m5 : m.length ≤ 5) (mk : Tk m) (tk : Tk z)
    (q : ∀ (y : Str) (H1 : Hp), Tk y → y.length ≤ z.length + 6 → JarAt H1 j → But j H H1 → Q (.str y) H1) :
    tOp rAddS (tOp rAddS (tSl rSlS (tVar 1) tNoPart (tPart (tVar 5))) (tOp (rIxL K) (tLst (tCons (tC (.str (Str.ofString ""))) (tCons (tVar 7) (tCons (tVar 7) tNil)))) (tVar 3)))
      (tSl rSlS (tVar 1) (tPart (tOp (rI0 fun i j => V.int (i + j)) (tVar 5) (tOp (rIxL K) (tLst (tCons (tC (.int 1)) (tCons (tC (.int 0)) (tCons (tC (.int 1)) tNil)))) (tVar 3)))) tNoPart) σ H Q := by
  have sz := sizeLine_eq
  have L := k3_len (z := z) (m := m) (o := o) h0 h1 ho m5
  have L2 := L
  rw [len_app, len_app] at L2
  refine ⟨_, s1, _, s5, _, rfl, z, rfl, by omega, ?_⟩
  refine ⟨_, s7, _, s7, by rw [sz]; show 3 ≤ 16777216; decide, fun p1 n1 => ?_⟩
  have J1 := J.new (o := .lst [V.str (Str.ofString ""), .str sg, .str sg]) n1
  have b1 := (But.refl (j := j) (H := H)).new (o := .lst [V.str (Str.ofString ""), .str sg, .str sg]) n1
  refine ⟨_, s3, p1, _, _, _, rfl, rfl, SqL.of upd_same, hA, _, _, rfl, rfl, by omega, ?_⟩
  generalize upd H p1 (.lst [V.str (Str.ofString ""), .str sg, .str sg]) = H1 at J1 b1 ⊢
  refine ⟨_, s1, _, s5, by rw [sz]; show 3 ≤ 16777216; decide, fun p2 n2 => ?_⟩
  have J2 := J1.new (o := .lst [V.int 1, .int 0, .int 1]) n2
  have b2 := b1.new (o := .lst [V.int 1, .int 0, .int 1]) n2
  refine ⟨_, s3, p2, _, _, _, rfl, rfl, SqL.of upd_same, hO, _, _, rfl, rfl, _, rfl, z, rfl, by omega, _, _, rfl, rfl, by rw [len_app]; omega, ?_⟩
  exact q _ _ (k3_tk tk mk) L J2 b2
end
/-- what comes in a line's place -/
def PmB (ln : Str) (ms : List Str) : Prop := (∀ m ∈ ms, Tk m) ∧ (ms.map Str.length).sum + ms.length ≤ 21 * ln.length + 21
section
variable {K : PySem.W.Frag} {σ : L2.St} {H : Hp} {Q : VK} {j la : Addr} {tm : TE} {z ln : Str} {i : Int} {M : Nat}
theorem rd_fin (s4 : σ[4]? = some (some (.ref la))) (s6 : σ[6]? = some (some (.int i))) (J : JarAt H j) (hl : H la = some (.lst ((Txt.split z nl).map V.str))) (h0 : 0 ≤ i) (hln : (Txt.split z nl)[i.toNat]? = some ln) (lz : z.length ≤ 40000) (tk : Tk z) (lM : ∀ ln ∈ Txt.split z nl, ln.length ≤ M)
    (mid : ∀ (H1 : Hp) (Q1 : VK), JarAt H1 j → But j H H1 → (∀ (lm : Addr) (ms : List Str) (H2 : Hp), H2 lm = some (.lst (ms.map V.str)) → ms.length ≤ 1000 → PmB ln ms → JarAt H2 j → But j H1 H2 → Q1 (.ref lm) H2) → tm σ H1 Q1)
    (q : ∀ (y : Str) (H1 : Hp), Tk y → y.length ≤ z.length + 20 * M + 21 → JarAt H1 j → But j H H1 → Q (.str y) H1) : tM1 (rJoinK K) (tC (.str nl)) (tEdit K 4 6 tm) σ H Q := by
  have hs : ((Txt.split z nl).map Str.length).sum ≤ z.length ∧ (Txt.split z nl).length ≤ z.length + 1 := split_sum (x := z) tl_nl (by decide)
  have ht : ((Txt.split z nl).map Str.length).sum + (Txt.split z nl).length = z.length + 1 := split_tot (x := z) tl_nl (by decide)
  obtain ⟨lt, el⟩ := List.getElem?_eq_some_iff.mp hln
  have hm := List.mem_of_getElem? hln
  have l1 := split_le tl_nl (by decide) hm
  have l2 := lM ln hm
  refine ⟨⟨_, rfl⟩, rd_edit (Pm := PmB ln) s4 s6 J hl (strs_ne J hl) h0 lt (by omega) mid fun p ms H2 pm lm e2 np J2 b2 => ?_⟩
  have E := edit_len (sep := nl) (by decide +kernel) (ms := ms) lt (L := z.length) (by omega)
  have en := edit_n (ms := ms) lt
  have es := edit_sum (ms := ms) lt
  rw [el] at E es
  obtain ⟨pk, pl⟩ := pm
  refine ⟨nl, p, edit (Txt.split z nl) i.toNat ms, rfl, rfl, .inl (SqL.of e2), ?_, q _ _ ?_ (by omega) J2 b2⟩
  · have h3 : ((edit (Txt.split z nl) i.toNat ms).map (·.length)).sum = ((edit (Txt.split z nl) i.toNat ms).map Str.length).sum := rfl
    rw [h3, show nl.length = 1 by decide +kernel]
    omega
  · refine tk_join (by decide +kernel) fun y hy => ?_
    rcases edit_mem hy with h | h
    · exact tk_split tl_nl (by decide) tk h
    · exact pk y h
end
section
variable {K : PySem.W.Frag} {σ : L2.St} {H : Hp} {Q : VK} {j la : Addr} {ln : Str} {xs : List Str} {i k : Int}
theorem rd_more (s0 : σ[0]? = some (some (.ref j))) (s3 : σ[3]? = some (some (.int k))) (s4 : σ[4]? = some (some (.ref la))) (s6 : σ[6]? = some (some (.int i))) (J : JarAt H j) (hl : H la = some (.lst (xs.map V.str))) (atl : atI (xs.map V.str) i = some (.str ln)) (tk : Tk ln)
    (q : ∀ (lm : Addr) (ms : List Str) (G : Hp), G lm = some (.lst (ms.map V.str)) → ms.length ≤ 1000 → PmB ln ms → JarAt G j → But j H G → Q (.ref lm) G) :
    tIf (tTest (tOp rEq (tVar 3) (tC (.int 4)))) (tOp rRep (tLst (tCons (tOp (rIxL K) (tVar 4) (tVar 6)) tNil)) (tCall spOne [] E0 (tCons (tVar 0) (tCons (tLst (tCons (tC (.int 2)) (tCons (tC (.int 9)) (tCons (tC (.int 21)) tNil)))) tNil)))) (tLst tNil) σ H Q := by
  have sz := sizeLine_eq
  refine ⟨_, s3, rfl, _, rfl, ?_⟩
  refine ite2 (fun _ => ?_) (fun _ => ?_)
  · refine ⟨_, s4, _, s6, la, _, _, _, rfl, rfl, SqL.of hl, atl, by rw [sz]; show 1 ≤ 16777216; decide, fun p1 n1 => ?_⟩
    have J1 := J.new (o := .lst [V.str ln]) n1
    have b1 := (But.refl (j := j) (H := H)).new (o := .lst [V.str ln]) n1
    have e1 : (upd H p1 (.lst [V.str ln])) p1 = some (.lst ([ln].map V.str)) := upd_same
    have m1 := J.ne n1
    generalize upd H p1 (.lst [V.str ln]) = H1 at J1 b1 e1 ⊢
    refine ⟨_, s0, by rw [sz]; show 3 ≤ 16777216; decide, fun p2 n2 => ?_⟩
    have J2 := J1.new (o := .lst [V.int 2, .int 9, .int 21]) n2
    have b2 := b1.new (o := .lst [V.int 2, .int 9, .int 21]) n2
    have c2 := (But.refl (j := j) (H := H1)).new (o := .lst [V.int 2, .int 9, .int 21]) n2
    refine ⟨j, p2, _, rfl, J2, upd_same, J1.ne n2, by show 0 < 3; decide, by show 3 < 100000; decide, fun n v H3 hv J3 b3 => ?_⟩
    obtain ⟨r, rfl, hr⟩ : ∃ r : Int, v = .int r ∧ (r = 2 ∨ r = 9 ∨ r = 21) := by
      match n, hv with
      | 0, hv => cases hv; exact ⟨_, rfl, .inl rfl⟩
      | 1, hv => cases hv; exact ⟨_, rfl, .inr (.inl rfl)⟩
      | 2, hv => cases hv; exact ⟨_, rfl, .inr (.inr rfl)⟩
      | n + 3, hv => cases hv
    refine ⟨p1, r, _, rfl, rfl, (c2.trans b3) _ _ m1 e1, by omega, by omega, by show 1 * r.toNat ≤ sizeLine; omega, fun p4 n4 => ?_⟩
    have er : (List.replicate r.toNat ([ln].map V.str)).flatten = (List.replicate r.toNat ln).map V.str := by
      rw [List.map_replicate]
      exact List.flatten_replicate_singleton
    rw [er]
    refine q p4 _ _ upd_same (by rw [List.length_replicate]; omega) ⟨fun m hm => ?_, ?_⟩ (J3.new n4) ((b2.trans b3).new n4)
    · rw [List.eq_of_mem_replicate hm]
      exact tk
    · rw [List.map_replicate, List.sum_replicate_nat, List.length_replicate]
      rcases hr with rfl | rfl | rfl
      · show 2 * ln.length + 2 ≤ _
        omega
      · show 9 * ln.length + 9 ≤ _
        omega
      · show 21 * ln.length + 21 ≤ _
        omega
  · refine ⟨by rw [sz]; show 0 ≤ 16777216; decide, fun p1 n1 => q p1 [] _ upd_same (by decide) ⟨fun _ h => (by cases h), by show 0 + 0 ≤ _; omega⟩ (J.new n1) (But.refl.new n1)⟩
end
def spBe : Sp := fun vs H Q _ => ∃ (j l : Addr) (z : Str) (ws : List Str) (M : Nat), vs = [.ref j, .str z, .ref l] ∧ JarAt H j ∧ H l = some (.lst (ws.map V.str)) ∧ ws ≠ [] ∧ ws.length ≤ 1000 ∧ (∀ w ∈ ws, w.length ≤ 8 ∧ Tk w) ∧ Tk z ∧ z.length ≤ 40000 ∧ (∀ ln ∈ Txt.split z nl, ln.length ≤ M) ∧
  ∀ (y : Str) (H1 : Hp), Tk y → y.length ≤ z.length + 20 * M + 21 → JarAt H1 j → But j H H1 → Q (.str y) H1
section
variable {P : Program} {w : World} {K : PySem.W.Frag} {mg : Str → Option Value} {base : Heap} {C : Addr}
theorem scBe : FnScope nBe ["_law_jar_here", "_law_page_here", "_law_words"] (defScope sBe) := ⟨rfl, rfl, rfl, by decide +kernel, rfl, by decide +kernel, by decide +kernel⟩
theorem ok_be {f fD fO : Addr} {fd fdD fdO : FuncData} (F : Fun K "_law_bent" "_law_bent" sBe f fd) (B : BltI mg) (bL : mg "list" = none)
    (GD : FnOk P w K mg base CX0 1 fD fdD ["_law_jar_here", "_law_top"] spDip) (mD : mg "_law_dip" = some (.ref fD)) (kD : PySem.W.keepIn K (.ref fD) = true) (bD : Binds K fdD ["_law_jar_here", "_law_top"] [])
    (GO : FnOk P w K mg base CX0 2 fO fdO ["_law_jar_here", "_law_some"] spOne) (mO : mg "_law_one_of" = some (.ref fO)) (kO : PySem.W.keepIn K (.ref fO) = true) (bO : Binds K fdO ["_law_jar_here", "_law_some"] []) :
    FnOk P w K mg base CX0 3 f fd ["_law_jar_here", "_law_page_here", "_law_words"] spBe := by
  refine F.ok scBe (fun vs H Q E h => ?_) (fun cdv A outer s H vs Q E hr h => ?_)
  · obtain ⟨j, l, z, ws, M, rfl, _⟩ := h
    rfl
  · obtain ⟨j, l, z, ws, M, rfl, J, hl, ne, lw, hw, tk, lz, lM, q⟩ := h
    have hr2 : Room 2 (A.deeper (PyProof.Rows.envOfC "_law_bent" (defScope sBe) s.heap.objs.size f cdv)) := hr.mono (by decide)
    have hr1 : Room 1 (A.deeper (PyProof.Rows.envOfC "_law_bent" (defScope sBe) s.heap.objs.size f cdv)) := hr.mono (by decide)
    refine ⟨_, pss_cons (ps_par (i := 3) (j := 4) (by rfl) scBe.nd rfl rfl (by decide) rfl rfl (pa_cons (pe_call GD hr1 (by rfl) mD kD bD .nil pass0 (pa_cons (pv 0) (pa_cons pe_int pa_nil))) (pa_cons (pe_split (pv 1) pe_str) pa_nil)) (by rfl))
      (pss_cons (ps_par (i := 5) (j := 6) (by rfl) scBe.nd rfl rfl (by decide) rfl rfl (pa_cons (pe_call GD hr1 (by rfl) mD kD bD .nil pass0 (pa_cons (pv 0) (pa_cons (pe_op op_add (pe_callB call_len_str (by rfl) B.len (by decide +kernel) (pa_cons (pv 1) pa_nil)) pe_int) pa_nil)))
          (pa_cons (pe_call GD hr1 (by rfl) mD kD bD .nil pass0 (pa_cons (pv 0) (pa_cons (pe_callB call_len_seq (by rfl) B.len (by decide +kernel) (pa_cons (pv 4) pa_nil)) pa_nil))) pa_nil)) (by rfl))
      (pss_cons (ps_set (i := 7) scBe.nd rfl (Or.inl rfl) (pe_call GO hr2 (by rfl) mO kO bO .nil pass0 (pa_cons (pv 0) (pa_cons (pe_op op_cat (pe_callTy (SetX.call_listS (by rfl)) (by rfl) bL (by decide +kernel) (pa_cons pe_str pa_nil)) (pe_lst (pa_cons pe_str (pa_cons pe_str (pa_cons pe_str (pa_cons pe_str pa_nil)))))) pa_nil))))
      (pss_cons (ps_if (pt_cmpR op_lt (pv 3) pe_int (nomark _)) (pss_one (ps_ret (pe_op op_add_str (pe_op op_add_str (pe_slice sl_str (pv 1) po_none (po_some (pv 5))) (pe_ix ix_list (pe_lst (pa_cons pe_str (pa_cons (pv 7) (pa_cons (pv 7) pa_nil)))) (pv 3) (fun _ _ => rfl)))
          (pe_slice sl_str (pv 1) (po_some (pe_op op_add (pv 5) (pe_ix ix_list (pe_lst (pa_cons pe_int (pa_cons pe_int (pa_cons pe_int pa_nil)))) (pv 3) (fun _ _ => rfl)))) po_none)))) pss_nil)
      (pss_cons (ps_if (pt_cmpR op_lt (pv 3) pe_int (nomark _))
          (pss_cons (ps_set (i := 8) scBe.nd rfl (Or.inl rfl) (pe_ifExp (pt_cmpR op_eq (pv 3) pe_int (nomark _)) (pe_op op_rep (pe_lst (pa_cons (pe_ix ix_list (pv 4) (pv 6) (fun _ _ => rfl)) pa_nil)) (pe_call GO hr2 (by rfl) mO kO bO .nil pass0 (pa_cons (pv 0) (pa_cons (pe_lst (pa_cons pe_int (pa_cons pe_int (pa_cons pe_int pa_nil)))) pa_nil)))) (pe_lst pa_nil)))
          (pss_cons (ps_if (pt_cmpR op_eq (pv 3) pe_int (nomark _)) (pss_one (ps_set (i := 8) scBe.nd rfl (Or.inl rfl) (pe_lst (pa_cons (pe_op op_add_str (pe_op op_add_str (pe_ix ix_list (pv 4) (pv 6) (fun _ _ => rfl)) pe_str) (pe_call GO hr2 (by rfl) mO kO bO .nil pass0 (pa_cons (pv 0) (pa_cons (pv 2) pa_nil)))) pa_nil)))) pss_nil)
          (pss_one (ps_ret (pe_join pe_str (show PE _ _ (tEdit K 4 6 (tVar 8)) from pe_op op_cat (pe_op op_cat (pe_slice sl_list (pv 4) po_none (po_some (pv 6))) (pv 8)) (pe_slice sl_list (pv 4) (po_some (pe_op op_add (pv 6) pe_int)) po_none))))))) pss_nil)
      (pss_cons (ps_set (i := 9) scBe.nd rfl (Or.inl rfl) (pe_split (pe_ix ix_list (pv 4) (pv 6) (fun _ _ => rfl)) pe_str))
      (pss_cons (ps_set (i := 10) scBe.nd rfl (Or.inl rfl) (pe_call GD hr1 (by rfl) mD kD bD .nil pass0 (pa_cons (pv 0) (pa_cons (pe_callB call_len_seq (by rfl) B.len (by decide +kernel) (pa_cons (pv 9) pa_nil)) pa_nil))))
      (pss_cons (ps_set (i := 11) scBe.nd rfl (Or.inl rfl) (show PE _ _ (tEdit K 9 10 _) from pe_op op_cat (pe_op op_cat (pe_slice sl_list (pv 9) po_none (po_some (pv 10))) (pe_ifExp (pt_cmpR op_eq (pv 3) pe_int (nomark _)) (pe_lst pa_nil) (pe_lst (pa_cons (pe_call GO hr2 (by rfl) mO kO bO .nil pass0 (pa_cons (pv 0) (pa_cons (pv 2) pa_nil))) pa_nil)))) (pe_slice sl_list (pv 9) (po_some (pe_op op_add (pv 10) pe_int)) po_none)))
      (pss_one (ps_ret (pe_join pe_str (show PE _ _ (tEdit K 4 6 _) from pe_op op_cat (pe_op op_cat (pe_slice sl_list (pv 4) po_none (po_some (pv 6))) (pe_lst (pa_cons (pe_join pe_str (pv 11)) pa_nil))) (pe_slice sl_list (pv 4) (po_some (pe_op op_add (pv 6) pe_int)) po_none)))))))))))), ?_⟩
    have sz := sizeLine_eq
    have hs : ((Txt.split z nl).map Str.length).sum ≤ z.length ∧ (Txt.split z nl).length ≤ z.length + 1 := split_sum (x := z) tl_nl (by decide)
    have hne : Txt.split z nl ≠ [] := split_ne (x := z) tl_nl (by decide)
    have hp0 : 0 < (Txt.split z nl).length := List.length_pos_iff.mpr hne
    refine rd_seqU ?_
    refine ⟨_, rfl, j, 8, rfl, J, by decide, by decide, fun kind H1 k0 k8 J1 b1 => ?_⟩
    refine ⟨_, rfl, ⟨_, rfl⟩, z, nl, rfl, rfl, by decide +kernel, by omega, fun l2 n2 => ?_⟩
    have J2 : JarAt (upd H1 l2 (.lst ((Txt.split z nl).map V.str))) j := J1.new n2
    have b2 : But j H (upd H1 l2 (.lst ((Txt.split z nl).map V.str))) := b1.new n2
    have e2 : (upd H1 l2 (.lst ((Txt.split z nl).map V.str))) l2 = some (.lst ((Txt.split z nl).map V.str)) := upd_same
    generalize upd H1 l2 (.lst ((Txt.split z nl).map V.str)) = H2 at J2 b2 e2 ⊢
    refine ⟨_, _, rfl, ?_⟩
    try dsimp only
    refine rd_seqU ?_
    refine ⟨_, rfl, _, rfl, z, rfl, by omega, _, _, rfl, rfl, j, _, rfl, J2, by omega, by omega, fun at_ H3 a0 a1 J3 b3 => ?_⟩
    have e3 := b3 _ _ (strs_ne J2 e2) e2
    refine ⟨_, rfl, _, rfl, l2, _, rfl, .inl (SqL.of e3), j, _, rfl, J3, by rw [List.length_map]; omega, by rw [List.length_map]; omega, fun spot H4 s0 s1 J4 b4 => ?_⟩
    rw [List.length_map] at s1
    have e4 := b4 _ _ (strs_ne J3 e3) e3
    have B4 : But j H H4 := (b2.trans b3).trans b4
    refine ⟨_, _, rfl, ?_⟩
    try dsimp only
    refine rd_seqU (rd_asgU ?_)
    refine ⟨_, rfl, Str.ofString " \nax", rfl, by rw [sz]; decide +kernel, fun g1 m1 => ?_⟩
    have J5 : JarAt (upd H4 g1 (.lst ((SetX.signs (Str.ofString " \nax")).map V.str))) j := J4.new m1
    have b5 : But j H4 (upd H4 g1 (.lst ((SetX.signs (Str.ofString " \nax")).map V.str))) := But.refl.new m1
    have e5 : (upd H4 g1 (.lst ((SetX.signs (Str.ofString " \nax")).map V.str))) g1 = some (.lst ((SetX.signs (Str.ofString " \nax")).map V.str)) := upd_same
    generalize upd H4 g1 (.lst ((SetX.signs (Str.ofString " \nax")).map V.str)) = H5 at J5 b5 e5 ⊢
    refine ⟨by rw [sz]; show 4 ≤ 16777216; decide, fun g2 m2 => ?_⟩
    have J6 := J5.new (o := .lst (more4.map V.str)) m2
    have b6 := b5.new (o := .lst (more4.map V.str)) m2
    have e6 : (upd H5 g2 (.lst (more4.map V.str))) g2 = some (.lst (more4.map V.str)) := upd_same
    have e56 : (upd H5 g2 (.lst (more4.map V.str))) g1 = some (.lst ((SetX.signs (Str.ofString " \nax")).map V.str)) := by
      rw [upd_ne (ne_of_none e5 m2)]
      exact e5
    show rCat _ _ (upd H5 g2 (.lst (more4.map V.str))) _
    generalize upd H5 g2 (.lst (more4.map V.str)) = H6 at J6 b6 e6 e56 ⊢
    refine ⟨g1, g2, _, _, rfl, rfl, e56, e6, by rw [sz]; decide +kernel, fun g3 m3 => ?_⟩
    have e7 : (upd H6 g3 (.lst ((SetX.signs (Str.ofString " \nax")).map V.str ++ more4.map V.str))) g3 = some (.lst (sgs.map V.str)) := by
      rw [upd_same]
      unfold sgs
      rw [List.map_append]
    have J7 := J6.new (o := .lst ((SetX.signs (Str.ofString " \nax")).map V.str ++ more4.map V.str)) m3
    have b7 := b6.new (o := .lst ((SetX.signs (Str.ofString " \nax")).map V.str ++ more4.map V.str)) m3
    generalize upd H6 g3 (.lst ((SetX.signs (Str.ofString " \nax")).map V.str ++ more4.map V.str)) = H7 at J7 b7 e7 ⊢
    refine ⟨j, g3, _, rfl, J7, e7, J6.ne m3, by rw [List.length_map]; decide +kernel, by rw [List.length_map]; decide +kernel, fun n sv H8 hn J8 b8 => ?_⟩
    rw [List.getElem?_map] at hn
    obtain ⟨sg, hn2, rfl⟩ := Option.map_eq_some_iff.mp hn
    obtain ⟨sg5, sgk⟩ := sgs_ok sg (List.mem_of_getElem? hn2)
    have B8 : But j H H8 := (B4.trans b7).trans b8
    have e8 : H8 l2 = some (.lst ((Txt.split z nl).map V.str)) := (b7.trans b8) _ _ (strs_ne J4 e4) e4
    have hl8 := B8 _ _ (strs_ne J hl) hl
    clear e7 e6 e56 e5 e4 e3 e2 m1 m2 m3 n2 hn hn2 b1 b2 b3 b4 b5 b6 b7 b8 J1 J2 J3 J4 J5 J6 J7 B4
    clear H1 H2 H3 H4 H5 H6 H7
    refine rd_nameU ?_
    try dsimp only
    refine rd_seqU (rd_ifU ?_)
    refine ⟨_, rfl, _, _, rfl, rfl, _, rfl, ?_⟩
    refine ite2 (fun c3 => ?_) (fun c3 => ?_)
    · have c3 := of_decide_eq_true c3
      rcases (by omega : kind = 0 ∨ kind = 1 ∨ kind = 2) with rfl | rfl | rfl
      · exact rd_k3 (K := K) rfl rfl rfl rfl a0 (by omega) lz J8 (atI_nat (j := 0) rfl) (atI_nat (j := 0) rfl) (.inr rfl) (by decide +kernel) (by decide +kernel) tk fun y Hy ty ly Jy by_ => q _ _ ty (by omega) Jy (B8.trans by_)
      · exact rd_k3 (K := K) rfl rfl rfl rfl a0 (by omega) lz J8 (atI_nat (j := 1) rfl) (atI_nat (j := 1) rfl) (.inl rfl) sg5 sgk tk fun y Hy ty ly Jy by_ => q _ _ ty (by omega) Jy (B8.trans by_)
      · exact rd_k3 (K := K) rfl rfl rfl rfl a0 (by omega) lz J8 (atI_nat (j := 2) rfl) (atI_nat (j := 2) rfl) (.inr rfl) sg5 sgk tk fun y Hy ty ly Jy by_ => q _ _ ty (by omega) Jy (B8.trans by_)
    · have c3 : ¬ kind < 3 := fun h => c3 (decide_eq_true h)
      refine rd_nextU ?_
      try dsimp only
      obtain ⟨ln, hln⟩ : ∃ ln, (Txt.split z nl)[spot.toNat]? = some ln := ⟨_, List.getElem?_eq_getElem (by omega)⟩
      have tln := tk_split tl_nl (by decide) tk (List.mem_of_getElem? hln)
      have lln := split_le tl_nl (by decide) (List.mem_of_getElem? hln)
      have atl : atI ((Txt.split z nl).map V.str) spot = some (.str ln) := by
        rw [show spot = ((spot.toNat : Nat) : Int) by omega]
        exact atI_nat (by rw [List.getElem?_map, hln]; rfl)
      refine rd_seqU (rd_ifU ?_)
      refine ⟨_, rfl, _, _, rfl, rfl, _, rfl, ?_⟩
      refine ite2 (fun c6 => ?_) (fun c6 => ?_)
      · refine rd_seqU (rd_asgU (rd_more (K := K) (xs := Txt.split z nl) rfl rfl rfl rfl J8 e8 atl tln fun lm ms G eG lms pG JG bG => ?_))
        refine rd_nameU ?_
        try dsimp only
        have e9 := bG _ _ (strs_ne J8 e8) e8
        have hl9 := bG _ _ (strs_ne J8 hl8) hl8
        have B9 := B8.trans bG
        refine rd_seqU (rd_ifU ?_)
        refine ⟨_, rfl, rfl, _, rfl, ?_⟩
        refine ite2 (fun c5 => ?_) (fun c5 => ?_)
        · refine rd_asgU ?_
          refine ⟨_, rfl, _, rfl, l2, _, _, _, rfl, rfl, SqL.of e9, atl, _, _, rfl, rfl, by rw [show sp1.length = 1 by decide +kernel]; omega, _, rfl, _, rfl, j, l, _, rfl, JG, hl9, strs_ne JG hl9, by rw [List.length_map]; exact List.length_pos_iff.mpr ne, by rw [List.length_map]; omega, fun n v H10 hv J10 b10 => ?_⟩
          rw [List.getElem?_map] at hv
          obtain ⟨wd, hwd, rfl⟩ := Option.map_eq_some_iff.mp hv
          obtain ⟨w8, wk⟩ := hw wd (List.mem_of_getElem? hwd)
          have l9 : (ln ++ sp1).length = ln.length + 1 := by rw [len_app]; rfl
          refine ⟨_, _, rfl, rfl, by rw [l9]; omega, by rw [sz]; show 1 ≤ 16777216; decide, fun p n11 => ?_⟩
          have J11 := J10.new (o := .lst ([ln ++ sp1 ++ wd].map V.str)) n11
          have b11 := b10.new (o := .lst ([ln ++ sp1 ++ wd].map V.str)) n11
          have e11 : (upd H10 p (.lst ([ln ++ sp1 ++ wd].map V.str))) p = some (.lst ([ln ++ sp1 ++ wd].map V.str)) := upd_same
          show gName 8 (.ref p) _ (upd H10 p (.lst ([ln ++ sp1 ++ wd].map V.str))) _
          generalize upd H10 p (.lst ([ln ++ sp1 ++ wd].map V.str)) = H11 at J11 b11 e11 ⊢
          refine rd_nameU ?_
          try dsimp only
          refine rd_fin (K := K) rfl rfl J11 (b11 _ _ (strs_ne JG e9) e9) s0 hln lz tk lM (fun G1 Q1 JG1 bG1 qq => ⟨_, rfl, qq p _ G1 (bG1 _ _ (strs_ne J11 e11) e11) (by show 1 ≤ 1000; decide) ⟨fun m hm => ?_, ?_⟩ JG1 But.refl⟩) fun y H12 ky ly J12 b12 => q y _ ky ly J12 ((B9.trans b11).trans b12)
          · obtain rfl := List.mem_singleton.mp hm
            exact tk_app (tk_app tln (by decide +kernel)) wk
          · show (ln ++ sp1 ++ wd).length + 0 + 1 ≤ _
            rw [len_app, l9]
            omega
        · refine rd_nextU ?_
          try dsimp only
          exact rd_fin (K := K) rfl rfl JG e9 s0 hln lz tk lM (fun G1 Q1 JG1 bG1 qq => ⟨_, rfl, qq lm ms G1 (bG1 _ _ (strs_ne JG eG) eG) lms pG JG1 But.refl⟩) fun y H12 ky ly J12 b12 => q y _ ky ly J12 (B9.trans b12)
      · refine rd_nextU ?_
        try dsimp only
        have hws := split_sum (x := ln) tl_sp1 (by decide)
        have htw := split_tot (x := ln) tl_sp1 (by decide)
        have hwn := split_ne (x := ln) tl_sp1 (by decide)
        have hwp : 0 < (Txt.split ln sp1).length := List.length_pos_iff.mpr hwn
        refine rd_seqU (rd_asgU ?_)
        refine ⟨_, rfl, _, rfl, l2, _, _, _, rfl, rfl, SqL.of e8, atl, ⟨_, rfl⟩, ln, sp1, rfl, rfl, by decide +kernel, by omega, fun l9 n9 => ?_⟩
        have J9 := J8.new (o := .lst ((Txt.split ln sp1).map V.str)) n9
        have b9 := (But.refl (j := j) (H := H8)).new (o := .lst ((Txt.split ln sp1).map V.str)) n9
        have e9 : (upd H8 l9 (.lst ((Txt.split ln sp1).map V.str))) l9 = some (.lst ((Txt.split ln sp1).map V.str)) := upd_same
        generalize upd H8 l9 (.lst ((Txt.split ln sp1).map V.str)) = H9 at J9 b9 e9 ⊢
        refine rd_nameU ?_
        try dsimp only
        refine rd_seqU (rd_asgU ?_)
        refine ⟨_, rfl, _, rfl, l9, _, rfl, .inl (SqL.of e9), j, _, rfl, J9, by rw [List.length_map]; omega, by rw [List.length_map]; omega, fun kk H10 kk0 kk1 J10 b10 => ?_⟩
        rw [List.length_map] at kk1
        refine rd_nameU ?_
        try dsimp only
        have e10 := b10 _ _ (strs_ne J9 e9) e9
        have b810 := b9.trans b10
        refine rd_seqU (rd_asgU (rd_edit (K := K) (Pm := fun ms => ms.length ≤ 1 ∧ ∀ m ∈ ms, m.length ≤ 8 ∧ Tk m) rfl rfl J10 e10 (strs_ne J10 e10) kk0 (by omega) (by omega) (fun G1 Q1 JG1 bG1 qq => ?_) fun p ms H12 pm lms e12 np J12 b12 => ?_))
        · refine ⟨_, rfl, rfl, _, rfl, ?_⟩
          refine ite2 (fun _ => ?_) (fun _ => ?_)
          · exact ⟨by rw [sz]; show 0 ≤ 16777216; decide, fun p n => qq p [] _ upd_same (by decide) ⟨by decide, fun _ h => (by cases h)⟩ (JG1.new n) (But.refl.new n)⟩
          · have hlG := (b810.trans bG1) _ _ (strs_ne J8 hl8) hl8
            refine ⟨_, rfl, _, rfl, j, l, _, rfl, JG1, hlG, strs_ne JG1 hlG, by rw [List.length_map]; exact List.length_pos_iff.mpr ne, by rw [List.length_map]; omega, fun n v G2 hv JG2 bG2 => ?_⟩
            rw [List.getElem?_map] at hv
            obtain ⟨wd, hwd, rfl⟩ := Option.map_eq_some_iff.mp hv
            refine ⟨by rw [sz]; show 1 ≤ 16777216; decide, fun p n11 => ?_⟩
            exact qq p [wd] _ upd_same (by show 1 ≤ 1000; decide) ⟨by show 1 ≤ 1; decide, fun m hm => (List.mem_singleton.mp hm) ▸ hw wd (List.mem_of_getElem? hwd)⟩ (JG2.new n11) (bG2.new n11)
        · refine rd_nameU ?_
          try dsimp only
          have b812 := b810.trans b12
          have e13 := b812 _ _ (strs_ne J8 e8) e8
          have lt9 : kk.toNat < (Txt.split ln sp1).length := by omega
          have E := edit_len (sep := sp1) (by decide +kernel) (ms := ms) lt9 (L := ln.length) (by omega)
          have en := edit_n (ms := ms) lt9
          have es := edit_sum (ms := ms) lt9
          have sm : (ms.map Str.length).sum ≤ 8 := by
            obtain ⟨p1, p2⟩ := pm
            match ms, p1, p2 with
            | [], _, _ => exact Nat.zero_le _
            | [m], _, p2 => 
              have := (p2 m (List.mem_singleton.mpr rfl)).1
              show m.length + 0 ≤ 8
              omega
          have jk : Tk (Txt.join sp1 (edit (Txt.split ln sp1) kk.toNat ms)) := tk_join (by decide +kernel) fun y hy => by
            rcases edit_mem hy with h | h
            · exact tk_split tl_sp1 (by decide) tln h
            · exact (pm.2 y h).2
          refine rd_fin (K := K) rfl rfl J12 e13 s0 hln lz tk lM (fun G1 Q1 JG1 bG1 qq => ?_) fun y H14 ky ly J14 b14 => q y _ ky ly J14 ((B8.trans b812).trans b14)
          refine ⟨⟨_, rfl⟩, _, rfl, sp1, p, _, rfl, rfl, .inl (SqL.of (bG1 _ _ np e12)), ?_, by rw [sz]; show 1 ≤ 16777216; decide, fun p15 n15 => qq p15 [Txt.join sp1 (edit (Txt.split ln sp1) kk.toNat ms)] _ upd_same (by show 1 ≤ 1000; decide) ⟨fun m hm => (List.mem_singleton.mp hm) ▸ jk, ?_⟩ (JG1.new n15) (But.refl.new n15)⟩
          · have h3 : ((edit (Txt.split ln sp1) kk.toNat ms).map (·.length)).sum = ((edit (Txt.split ln sp1) kk.toNat ms).map Str.length).sum := rfl
            rw [h3, show sp1.length = 1 by decide +kernel]
            omega
          · show (Txt.join sp1 (edit (Txt.split ln sp1) kk.toNat ms)).length + 0 + 1 ≤ _
            have := pm.1
            omega
end
end LJ
set_option Elab.async false
set_option linter.all false
set_option maxRecDepth 100000
set_option maxHeartbeats 4000000
/-! Defs that raise nothing, called wherever an object stands pinned: also in an except suite, whatever is handled there. -/
namespace OwnX
open PySem PySem.Spec PyProof.Rows L2
open L2H (RoomH PinOk cxH)
structure FnW (P : Program) (w : World) (K : PySem.W.Frag) (mg : Str → Option Value) (base : Heap) (k : Nat) (f : Addr) (fd : FuncData) (ps : List Str) (sp : Sp) : Prop where
  len : ∀ vs H Q E, sp vs H Q E → vs.length = ps.length
  run : ∀ (A : Around) (outer : List Env) (s : Shared) (H : Hp) (args : Args) (us : List Value) (vs : List V) (Q : VK) (E : XK) (p : Addr × Obj), RoomH k A → PinOk outer H s p →
    Env0 P w K mg base A outer s H → BindsTo s fd args (ps.zip us) → Vals vs us → sp vs H Q E → codeAny (model P w) A (.call (.ref f) args) (CR CX0 outer P w H s Q E) s
section
variable {P : Program} {w : World} {K : PySem.W.Frag} {mg : Str → Option Value} {base : Heap} {k : Nat} {f : Addr} {fd : FuncData} {N ps : List Str} {sp : Sp}
theorem okW {x qual : Str} {st : Stmt} (F : Fun K x qual st f fd) (S : FnScope N ps (defScope st)) (len : ∀ vs H Q E, sp vs H Q E → vs.length = ps.length)
    (hbody : ∀ (cdv : Value) (A : Around) (outer : List Env) (s : Shared) (H : Hp) (vs : List V) (Q : VK) (E : XK) (p : Addr × Obj), RoomH k (A.deeper (envOfC qual (defScope st) s.heap.objs.size f cdv)) → sp vs H Q E →
      ∃ t, PSs (cxH CX0 P w K mg base N qual (defScope st) f cdv A outer s H E p) (defBody st) t ∧ t { nx := fun _ H1 => Q .non H1, rt := Q } (start N vs) H) :
    FnW P w K mg base (k + 1) f fd ps sp := by
  obtain ⟨oc, od, kV, doc, pm, an, cdv, ct, osl, rfl, lk, hcd⟩ := F.ex
  refine ⟨len, fun A outer s H args us vs Q E p hr hp e0 hb r hsp => ?_⟩
  have hl := len _ _ _ _ hsp
  have up : ∀ b o, base.get? b = some o → s.heap.get? b = some o := fun b o e => (e0.bs b o e).1
  have X1 : K.In s.heap := e0.mod.kin.keeps up
  have nl : s.heap.NoLimit := e0.mod.nolimit.keeps up
  have slots : ∀ y ∈ ps.zip us, (defScope st).names.lookup y.1 = some .local ∨
      ((defScope st).names.lookup y.1 = some .cell ∧ ((cellsFrom (s.heap.objs.size + 1) (defScope st).names []).lookup y.1).isSome = true) := fun ⟨n, v⟩ hy =>
    (S.par n (List.of_mem_zip hy).1).elim (fun q => .inl q) fun q => .inr ⟨q, PySem.W.cellsFrom_some _ _ _ (.inl q)⟩
  refine codeAny_call_function hr.depth (X1 _ _ lk) rfl S.co S.gen rfl (PySem.W.codeRec_of X1 hcd) (hb _ _ _ _ ?_)
  refine wpAny_newFunctionEnv_cells S.kind slots fun env he s1 x1 => ?_
  subst he
  refine ⟨nl.keeps x1.toInCall.keep, codeAny_func ?_⟩
  obtain ⟨t, ht, hq⟩ := hbody cdv A outer s H vs Q E p (hr.deeper _) hsp
  have J : Inv (cxH CX0 P w K mg base N qual (defScope st) f cdv A outer s H E p) [] (start N vs) H s1 := L2H.inv_startH S hp e0 hl r x1
  refine wpAny_mono (ht.run [] s1 (start N vs) H _ J hq) (fun fl s2 hs => ?_) fun e s2 hs => hs
  cases fl with
  | ret u =>
    obtain ⟨v, σ1, H1, I1, rv, q⟩ := hs
    exact ⟨v, H1, I1.os, I1.bare, I1.base, I1.hok, rv, q⟩
  | next =>
    obtain ⟨σ1, H1, I1, q⟩ := hs
    exact ⟨.non, H1, I1.os, I1.bare, I1.base, I1.hok, rfl, q⟩
  | brk =>
    obtain ⟨_, _, _, q⟩ := hs
    exact q.elim
  | cont =>
    obtain ⟨_, _, _, q⟩ := hs
    exact q.elim
end
/-- the def at f may be called for a text of o, a little deeper than here -/
def Runs (X : Cx) (f : Addr) (sp : Sp) (E : XK) : Prop := ∀ {pins : List (Addr × Obj)} {s : Shared} {σ : L2.St} {H : Hp} (I : Inv X pins σ H s) {A : Around} {a : Addr} {Q : VK}, A.frames = X.A.frames → A.handled = X.A.handled → A.depth ≤ X.A.depth + 1 → A.units ≤ X.A.units + 8 →
  sp [.ref a] H (fun v H1 => ∃ z, v = .str z ∧ Q (.str z) H1) E → wpAny (model X.prog X.w) A (call (.ref f) [.ref a]) (PySem.W.StrBack (EP X pins σ Q)) X.xe s
section
variable {X : Cx} {CX : CXT} {k : Nat} {f : Addr} {fd : FuncData} {sp : Sp} {E : XK}
theorem runs_calm (G : FnOk X.prog X.w X.K X.mg X.base CX k f fd ["self"] sp) (hr : Room (k + 1) X.A) (hb : Binds X.K fd ["self"] []) (hx : Passes CX X E) : Runs X f sp E := by
  intro pins s σ H I A a Q e1 e2 e3 e4 q
  have h1 := hr.un
  have h2 := hr.dp
  exact call_of I e1 ⟨e2.trans hr.hd, by omega, by omega⟩ G hb hx q
theorem runs_pin {p : Addr × Obj} (hp : p ∈ X.pn) (G : FnW X.prog X.w X.K X.mg X.base k f fd ["self"] sp) (hr : RoomH (k + 1) X.A) (hb : Binds X.K fd ["self"] []) : Runs X f sp E := by
  intro pins s σ H I A a Q e1 _ e3 e4 q
  have h1 := hr.un
  have h2 := hr.dp
  have P1 := I.pin p (List.mem_append_left _ hp)
  have pin : PinOk X.stack H s p := ⟨P1.1, P1.2.1, fun m => (List.mem_cons.mp (I.stkSub p.1 m)).elim P1.2.2.1 P1.2.2.2.1, P1.2.2.2.2⟩
  refine wpAny_call (codeAny_mono (G.run A X.stack s H ⟨[.ref a], []⟩ [.ref a] [.ref a] _ E p ⟨by omega, by omega⟩ pin (env_in I e1) (hb s [.ref a] I.kIn rfl) (.cons rfl .nil) q) fun r s3 hq => ?_)
  cases r with
  | error e => exact False.elim hq
  | ok fl =>
    cases fl with
    | ret u3 =>
      obtain ⟨v3, H3, I3, r3, z, rfl, q3⟩ := I.after hq
      obtain ⟨t, rfl⟩ : ∃ t, u3 = Value.str z t := r3
      exact ⟨.str z, H3, I3, ⟨t, rfl⟩, q3⟩
    | next => exact False.elim hq
    | brk => exact False.elim hq
    | cont => exact False.elim hq
end
end OwnX
set_option Elab.async false
set_option linter.all false
set_option maxRecDepth 100000
set_option maxHeartbeats 4000000
/-! repr of a list with one own object in it, that has a __repr__ of its own. -/
namespace OwnX
open PySem PySem.Spec PyProof.Rows L2
section
variable {X : Cx} {CX : CXT} {E : XK} {k : Nat} {C f : Addr} {fd : FuncData} {sp : Sp} {pins : List (Addr × Obj)} {s : Shared} {σ : L2.St} {H : Hp}
/-- what stands while the list is gone over: an empty new list beside -/
def rReprL (C : Addr) (sp : Sp) (E : XK) : List V → Hp → VK → Prop := fun xs H Q => ∃ (p a dx : Addr) (fs : List (Str × V)) (z : Str), xs = [.ref p] ∧ H p = some (.lst [.ref a]) ∧ H a = some (.ins C dx fs) ∧ z.length + 64 ≤ sizeLine ∧
  ∀ P, H P = none → sp [.ref a] (upd H P (.lst [])) (fun v H1 => ∃ u, v = .str u ∧ (V.str u = .str z ∧ H1 P = some (.lst []) ∧ H1 p = some (.lst [.ref a]) ∧ Q (.str (listText [z])) (upd H1 P (.lst [.str z])))) E
theorem under_frames (A : Around) (args : Args) : (A.under (.builtin "list.__repr__.loop" args)).frames = A.frames := by
  first | rfl | simp [Around.under, Code.cUnits, Code.frames, Code.isFrame]
theorem under_depth (A : Around) (args : Args) : (A.under (.builtin "list.__repr__.loop" args)).depth ≤ A.depth + 1 := by
  have : (Code.builtin "list.__repr__.loop" args).weight ≤ 1 := by
    unfold Code.weight
    rw [if_pos (isGuard_list_loop args)]
    first | decide | (simp [Code.frames, Code.isFrame, Code.isCreation, Code.isCaller]) | exact Nat.le_refl _
  show A.depth + _ ≤ _
  omega
theorem under_handled (A : Around) (args : Args) : (A.under (.builtin "list.__repr__.loop" args)).handled = A.handled := by
  first | rfl | simp [Around.under, Code.cUnits, Code.frames, Code.isFrame]
theorem call_repr_listO (hg : X.A.guards = some []) (c : Meth X.K C "__repr__" f) (G : Runs X f sp E) (hu8 : X.A.units + 8 < cLine) : CallR X (.builtin "repr") (rReprL C sp E) := by
  rintro pins s σ H xs us Q I r ⟨p, a, dx, fs, z, rfl, hp, ha, hz, q⟩
  obtain rfl : us = [Value.ref p] := by
    cases r with
    | cons r1 r2 =>
      cases r2
      cases (show _ = Value.ref p from r1)
      rfl
  obtain ⟨_, its, n, rv, g⟩ := (show ObjOk X.prog X.w H s.heap p (.lst [.ref a]) from I.hok p _ hp)
  obtain rfl : its = [Value.ref a] := by
    cases rv with
    | cons r1 r2 =>
      cases r2
      cases (show _ = Value.ref a from r1)
      rfl
  have hu0 : X.A.units + 1 < cLine := by omega
  refine call_repr_slot hu0 ⟨_, g, rfl⟩ F.slot_list_repr.toG ?_
  refine wpAny_call (codeAny_call_builtin F.slot_list_repr.plain F.entry_list_repr (F.slot_list_repr.check _ _ _ _ _ _ _ _ ⟨_, g, rfl⟩ (F.args_list_repr_1 _) ?_))
  refine wpAny_list_repr_head (A := X.A.in1.in1) (b := 0) (g := []) hg (fun _ _ _ hm => nomatch hm) g rfl ?_
  refine wpAny_bind (m := newList []) (wpAny_newObj_type ?_)
  refine wpAny_pure ⟨F.quiet_list_repr_loop _, ?_⟩
  have nP : H s.heap.objs.size = none := I.hok.fresh (Nat.le_refl _)
  have I1 : Inv X pins σ (upd H s.heap.objs.size (.lst [])) { s with heap := s.heap.push { cls := .type "list", data := .seq #[] } } := I.laid (t' := s.toks) (fun b u e => Heap.get?_push_of_some _ e) (Nat.le_refl _) ⟨Nat.zero_le _, [], 0, .nil, Heap.get?_push_size _ rfl⟩
  have q1 := q _ nP
  have npP : p ≠ s.heap.objs.size := Nat.ne_of_lt (Heap.lt_size g)
  have g1 : (s.heap.push { cls := .type "list", data := .seq #[] }).get? p = _ := Heap.get?_push_of_some _ g
  generalize s.heap.push { cls := .type "list", data := .seq #[] } = hp1 at I1 g1 ⊢
  generalize s.heap.objs.size = P at I1 q1 npP nP ⊢
  refine codeAny_builtin F.entry_list_repr_loop ?_
  show wpAny _ _ (Builtin.«list.__repr__.loop» ⟨[.ref p, .int 0 0, .ref P, .int 0 0], []⟩) _ _ _
  rw [repr_loop_tree]
  refine wpAny_bind (wpAny_listItems g1 rfl ?_)
  show wpAny _ _ (do
      let s ← holding [Value.ref a] (pyReprUnder ((0 : Int).toNat + 1) (Value.ref a))
      let signs := (0 : Int).toNat + (s.length + 2)
      let r ← mkStr s
      Builtin.List.listUpdate (.ref P) (·.push r)
      again (.builtin "list.__repr__.loop" ⟨[.ref p, rawInt (0 + 1), .ref P, rawInt signs], []⟩)) _ _ _
  have hA : (X.A.in1.under (.builtin "list.__repr__.loop" ⟨[.ref p, rawInt 0, .ref P, rawInt ↑(0 : Nat)], []⟩)).handled = X.A.handled := under_handled ..
  have dA : (X.A.in1.under (.builtin "list.__repr__.loop" ⟨[.ref p, rawInt 0, .ref P, rawInt ↑(0 : Nat)], []⟩)).depth ≤ X.A.depth + 1 := under_depth ..
  have nA : (X.A.in1.under (.builtin "list.__repr__.loop" ⟨[.ref p, rawInt 0, .ref P, rawInt ↑(0 : Nat)], []⟩)).units ≤ X.A.units + 8 := by
    rw [units_under_list_loop]
    show X.A.units + 1 + 1 ≤ X.A.units + 8
    omega
  have fA : (X.A.in1.under (.builtin "list.__repr__.loop" ⟨[.ref p, rawInt 0, .ref P, rawInt ↑(0 : Nat)], []⟩)).frames = X.A.frames := under_frames ..
  have uA : (X.A.in1.under (.builtin "list.__repr__.loop" ⟨[.ref p, rawInt 0, .ref P, rawInt ↑(0 : Nat)], []⟩)).units < cLine := by
    rw [units_under_list_loop]
    show X.A.units + 1 + 1 < cLine
    omega
  generalize X.A.in1.under (.builtin "list.__repr__.loop" ⟨[.ref p, rawInt 0, .ref P, rawInt ↑(0 : Nat)], []⟩) = A1 at hA dA nA fA uA ⊢
  have naP : a ≠ P := fun z => by
    rw [z, nP] at ha
    cases ha
  obtain ⟨od, J⟩ := inst_of I1 (by rw [upd_ne naP]; exact ha)
  have go := G I1 (A := A1) (a := a) (Q := fun v H1 => v = .str z ∧ H1 P = some (.lst []) ∧ H1 p = some (.lst [.ref a]) ∧ Q (.str (listText [z])) (upd H1 P (.lst [.str z]))) fA hA dA nA q1
  refine wpAny_bind (wpAny_holding (wpAny_pyReprUnder_ref (by rw [sizeLine_eq]; decide) ?_))
  unfold pyReprObjUnder pyReprObjBy
  refine wpAny_bind (wpAny_cRoomFor uA ?_)
  have ty : PySem.W.Looks (model X.prog X.w) hp1 (typeOf (.ref a)) (.ref C) := fun A Q E s1 kk qq => wpAny_typeOf_ref (kk _ _ J.at_) (by rw [J.cls]; exact qq)
  have fnd := PySem.W.looks_findIn (M := model X.prog X.w) I1.kIn c.at_
  unfold specialOf
  refine wpAny_bind (wpAny_bind (ty.at (fnd.at ?_)))
  rw [if_neg (by simp)]
  dsimp only
  unfold callSpecialIfBoundBy? bindSpecialIfBound? specialOf
  refine wpAny_bind ?_
  refine wpAny_holding (wpAny_bind (wpAny_bind (wpAny_bind (J.type.here ((PySem.W.looks_findIn I1.kIn c.at_).here ?_)))))
  refine wpAny_bind (wpAny_askSetting (wpAny_ite ?_))
  have fin_ : wpAny (model X.prog X.w) A1 (call (.ref f) [.ref a] >>= fun v => pure (some v)) (fun (r : Option Value) s' => ∃ t H2, r = some (.str z t) ∧ Inv X pins σ H2 s' ∧ H2 P = some (.lst []) ∧ H2 p = some (.lst [.ref a]) ∧ Q (.str (listText [z])) (upd H2 P (.lst [.str z]))) X.xe { heap := hp1, gens := s.gens, drawn := s.drawn, toks := s.toks, os := s.os } := by
    refine wpAny_bind (thn go fun v s1 h => wpAny_pure ?_)
    cases v with
    | str z2 t =>
      obtain ⟨v, H2, I2, rv, ev, e1, e2, e3⟩ := h
      subst ev
      obtain ⟨t2, e4⟩ : ∃ t2, Value.str z2 t = Value.str z t2 := rv
      exact ⟨t2, H2, by rw [e4], I2, e1, e2, e3⟩
    | _ => exact False.elim h
  have bf := PySem.W.bind_fn (M := model X.prog X.w) I1.kIn (.ref a) (beq_iff_eq.mp c.fn)
  split
  refine wpAny_bind (bf.here (wpAny_pure ?_))
  rotate_left
  refine wpAny_tryCatch (wpAny_bind (bf.here (wpAny_pure ?_)))
  all_goals
    show wpAny _ _ (call (.ref f) [.ref a] >>= fun v => pure (some v)) _ _ _
    refine thn fin_ ?_
    rintro r s2 ⟨t, H2, rfl, I2, e1, e2, e3⟩
    refine wpAny_bind (wpAny_of_eq (a := true) (by rfl) ?_)
    refine wpAny_pure ?_
    refine ⟨z, t, rfl, ?_⟩
    refine wpAny_bind (wpAny_mkStr ?_ (by omega))
    refine wpAny_bind ?_
    show wpAny _ _ (updateSeq P _) _ _ _
    obtain ⟨_, its2, n2, rv2, gP⟩ := (show ObjOk X.prog X.w H2 s2.heap P (.lst []) from I2.hok P _ e1)
    obtain rfl : its2 = [] := by
      cases rv2
      rfl
    refine wpAny_updateSeq gP rfl (wpAny_pure ⟨F.quiet_list_repr_loop _, ?_⟩) (by decide)
    obtain ⟨_, its3, n3, rv3, gp⟩ := (show ObjOk X.prog X.w H2 s2.heap p (.lst [.ref a]) from I2.hok p _ e2)
    obtain rfl : its3 = [Value.ref a] := by
      cases rv3 with
      | cons r1 r2 =>
        cases r2
        cases (show _ = Value.ref a from r1)
        rfl
    have sz := sizeLine_eq
    have I3 := I2.write (x := P) (e := P) (o := .lst [.str z]) (h' := s2.heap.update P (Obj.mapSeq fun x => x.push (.str z s2.toks))) (t' := s2.toks + 1) (by rw [e1]; exact True.intro) (.inl rfl) (fun b u nb e => (Heap.get?_update_other _ _ (fun h : P = b => nb h.symm)).trans e) ⟨_, Heap.get?_update_self _ gP rfl⟩ ⟨by rw [List.length_singleton]; omega, [.str z s2.toks], _, .cons ⟨_, rfl⟩ .nil, Heap.get?_update_self _ gP rfl⟩
    have gp3 : (s2.heap.update P (Obj.mapSeq fun x => x.push (.str z s2.toks))).get? p = _ := (Heap.get?_update_other _ _ (fun h : P = p => npP h.symm)).trans gp
    have gP3 := Heap.get?_update_self (Obj.mapSeq fun x => x.push (.str z s2.toks)) gP rfl
    generalize s2.heap.update P (Obj.mapSeq fun x => x.push (.str z s2.toks)) = hp3 at I3 gp3 gP3 ⊢
    refine codeAny_builtin F.entry_list_repr_loop ?_
    generalize Int.toNat 0 + (z.length + 2) = sg
    show wpAny _ _ (Builtin.«list.__repr__.loop» ⟨[.ref p, .int 1 0, .ref P, .int (sg : Int) 0], []⟩) _ _ _
    rw [repr_loop_tree]
    refine wpAny_bind (wpAny_listItems gp3 rfl ?_)
    show wpAny _ _ (reprEnd (.ref P)) _ _ _
    unfold reprEnd
    refine wpAny_bind (wpAny_listItems gP3 rfl ?_)
    show wpAny _ _ (forIn ((strValues [(z, s2.toks)]).zipIdx 0) ("[" : Str) reprBody >>= fun r => retStr (r ++ "]")) _ _ _
    rw [repr_fold]
    refine wpAny_bind (wpAny_pure ?_)
    show wpAny _ _ (retStr (listText [z])) _ _ _
    have lz : (listText [z]).length ≤ sizeLine := by
      have e : (listText [z]).length = z.length + 2 := by
        show (("[" : Str) ++ (if (0 : Nat) > 0 then ", " else "" : String) ++ z ++ "]").length = _
        rw [strLen_append, strLen_append, strLen_append]
        show 1 + 0 + z.length + 1 = _
        omega
      omega
    exact wpAny_bind (wpAny_mkStr (wpAny_pure ⟨_, _, rfl, .str (listText [z]), _, I3.tok _, ⟨_, rfl⟩, e3⟩) lz)
end
end OwnX
set_option Elab.async false
set_option linter.all false
set_option maxRecDepth 100000
set_option maxHeartbeats 8000000
namespace LJ
open PySem PySem.Spec L2
/-! Works.__repr__, called also in an except suite. -/
theorem reprW_len {m p : Nat} (lm : m ≤ 100) (lp : p ≤ 100) : (reprW m p).length ≤ 60 := by
  have l1 := num_len (i := (m : Int)) (by omega) (by omega)
  have l2 := num_len (i := (p : Int)) (by omega) (by omega)
  have k1 : (Str.empty ++ Str.ofString "Works of ").length = 9 := by decide +kernel
  unfold reprW
  rw [Str.length_append, Str.length_append, Str.length_append, Str.length_append, k1, show (Str.ofString " machines and ").length = 14 by decide +kernel, show (Str.ofString " products").length = 9 by decide +kernel]
  omega
section
variable {P : Program} {w : World} {K : PySem.W.Frag} {mg : Str → Option Value} {base : Heap} {C : Addr}
theorem ok_reprW {f : Addr} {fd : FuncData} (F : Fun K "__repr__" "Works.__repr__" sRepr f fd) (c : WCls K C) (B : BltS mg) : OwnX.FnW P w K mg base 1 f fd ["self"] (spReprW C) := by
  refine OwnX.okW F scRepr (fun vs H Q E h => ?_) (fun cdv A outer s H vs Q E p hr h => ?_)
  · obtain ⟨x, dx, fs, am, ap, vm, vp, rfl, _⟩ := h
    rfl
  · obtain ⟨x, dx, fs, am, ap, vm, vp, rfl, hx, f1, f2, hm, hp, lm, lp, q⟩ := h
    refine ⟨_, pss_one (ps_ret (pe_joined (.cons pe_str (.cons (pe_fmt (pe_callB call_len_seq (by rfl) B.len (by decide +kernel) (pa_cons (pe_fld (pv 0) rfl) pa_nil))) (.cons pe_str (.cons (pe_fmt (pe_callB call_len_seq (by rfl) B.len (by decide +kernel) (pa_cons (pe_fld (pv 0) rfl) pa_nil))) (.cons pe_str .nil))))))), ?_⟩
    have sz := sizeLine_eq
    have l1 := num_len (i := (vm.length : Int)) (by omega) (by omega)
    have l2 := num_len (i := (vp.length : Int)) (by omega) (by omega)
    have k1 : (Str.empty ++ Str.ofString "Works of ").length = 9 := by decide +kernel
    have k2 : (Str.empty ++ Str.ofString "Works of " ++ num vm.length).length ≤ 23 := by
      rw [Str.length_append]
      omega
    have k3 : (Str.empty ++ Str.ofString "Works of " ++ num vm.length ++ Str.ofString " machines and ").length ≤ 37 := by
      rw [Str.length_append, show (Str.ofString " machines and ").length = 14 by decide +kernel]
      omega
    have k4 : (Str.empty ++ Str.ofString "Works of " ++ num vm.length ++ Str.ofString " machines and " ++ num vp.length).length ≤ 51 := by
      rw [Str.length_append]
      omega
    have k5 : (reprW vm.length vp.length).length ≤ 60 := by
      unfold reprW
      rw [Str.length_append, show (Str.ofString " products").length = 9 by decide +kernel]
      omega
    have b : ∀ {m : Nat}, m ≤ 80 → m ≤ sizeLine := fun h => by omega
    refine ⟨_, rfl, b (by omega), _, rfl, x, C, dx, fs, _, rfl, hx, c.cl, c.n1, f1, am, vm, rfl, .inr (SqT.of hm), .inr ⟨_, rfl, num_log (by omega) (by omega), num vm.length, rfl, b (by omega), _, rfl, b (by omega), _, rfl, x, C, dx, fs, _, rfl, hx, c.cl, c.n4, f2, ap, vp, rfl, .inr (SqT.of hp), .inr ⟨_, rfl, num_log (by omega) (by omega), num vp.length, rfl, b (by omega), _, rfl, b (Nat.le_trans k5 (by omega)), q⟩⟩⟩
end
end LJ
set_option Elab.async false
set_option linter.all false
set_option maxRecDepth 100000
/-! Several clauses «except x as n», one behind another, all with the same name n. -/
namespace ManyAs
open PySem PySem.Spec PyProof.Rows L2
/-- what the clauses wish: the first that fits is asked, at slot i the exception -/
def wish (K : PySem.W.Frag) (i : Nat) (Wout : WX) (D : Ends) : List (Value × (Addr → Value → Option Addr → TS)) → WX
  | [] => Wout
  | (c, ts) :: r => wAs K c i ts (wish K i Wout D r) D
/-- an exception that was caught: it stands at a, and its flight is over -/
structure Stands (X : Cx) (pins : List (Addr × Obj)) (σ : L2.St) (H : Hp) (cls : Value) (d : Option Addr) (a : Addr) (B : Heap) (sI s : Shared) : Prop where
  inv : Inv X pins σ H sI
  old : ∀ b o, sI.heap.get? b = some o → b ∉ frs X.stack → B.get? b = some o
  near : sI.heap.UpToSlots s.heap
  fly : HandSPX.FlyingZ B X.stack a (Zc cls d) s.heap
  new : H a = none
  os : s.os = sI.os
  bare : AllBare s.gens
section
variable {X : Cx} {pins : List (Addr × Obj)} {σ : L2.St} {H : Hp} {cls : Value} {d : Option Addr} {a : Addr} {B : Heap} {sI s : Shared} {D : Ends} {Wout : WX} {n x : Str} {i : Nat} {c : Value} {np pos pos' : Pos}
variable {ts : Addr → Value → Option Addr → TS} {b₀ : Stmt} {suite body : List Stmt}
theorem Stands.now (S : Stands X pins σ H cls d a B sI s) : Inv X pins σ H s := S.inv.landed S.old S.fly.1 S.near S.os S.bare
theorem Stands.on (S : Stands X pins σ H cls d a B sI s) {h : Heap} (f : HandSPX.FlyingZ B X.stack a (Zc cls d) h) (u : s.heap.UpToSlots h) : Stands X pins σ H cls d a B sI { s with heap := h } :=
  ⟨S.inv, S.old, S.near.trans u, f, S.new, S.os, S.bare⟩
/-- the object of the exception is no frame -/
theorem Stands.obj (S : Stands X pins σ H cls d a B sI s) (hs : X.stack = X.env :: X.outer) (hf : X.env.frame = some X.env.locals) :
    ∃ oe vs, s.heap.get? a = some oe ∧ Zc cls d oe ∧ oe.data = .fields vs ∧ a ≠ X.env.locals ∧ a ∉ X.fs := by
  obtain ⟨oe, vs, e1, e2, e3⟩ := S.fly.there
  have out : a ∉ frs X.stack := fun m => by
    obtain ⟨_, o, e4, e5⟩ := S.fly.2.2.1.mem m
    rw [e1] at e4
    cases e4
    exact e5 _ e3
  rw [hs] at out
  refine ⟨oe, vs, e1, e2, e3, fun z => out ?_, fun m => out ?_⟩
  · rw [z]
    exact List.mem_filterMap.mpr ⟨_, List.mem_cons_self, hf⟩
  · obtain ⟨e, h1, h2⟩ := List.mem_filterMap.mp m
    exact List.mem_filterMap.mpr ⟨e, List.mem_cons_of_mem _ h1, h2⟩
/-- no clause is left: it goes on -/
theorem Stands.leave {R : Flow → Shared → Prop} (S : Stands X pins σ H cls d a B sI s) (hs : X.stack = X.env :: X.outer) (hf : X.env.frame = some X.env.locals) (tk : Takes X Wout) (w : Wout cls d σ H) :
    wpAny (model X.prog X.w) X.A (handleBy (.ref a) X.env []) R X.xe s := by
  have go : wpAny (model X.prog X.w) X.A (setFlight (.ref a) X.env.frame) (fun _ s1 => wpAny (model X.prog X.w) X.A (throw (.ref a) : Sem Flow) R X.xe s1) X.xe s := by
    rw [hf]
    exact HandSPX.setFlight_upZ S.fly fun h held u => wpAny_throw (tk _ _ ⟨a, B, sI, pins, σ, H, cls, d, rfl, S.inv, S.old, S.near.trans u, .inr (.inr held), S.new, S.os, S.bare, w⟩)
  refine wpAny_handleBy_nil ?_
  obtain ⟨_, _, _, oe, vs, T, oT, t1, e1, _, e2, e3, _⟩ := id S.fly
  unfold PySem.passOn
  refine wpAny_bind (wpAny_field e1 e2 e3 ?_)
  rw [if_neg (show ¬ ((Value.ref T == Value.none) = true) by simp)]
  first
    | exact wpAny_bind go
    | exact wpAny_bind (wpAny_pure (wpAny_bind go))
/-- one clause: its suite, or those behind it -/
theorem Stands.clause {r : List ExceptHandler} {Wr : WX} (S : Stands X pins σ H cls d a B sI s) (hs : X.stack = X.env :: X.outer) (hf : X.env.frame = some X.env.locals) (hN : X.N.Nodup) (hi : X.N[i]? = some n) (hl : X.env.kindOf n = some .local) (hc : Names X x c)
    (hsu : ∀ (a : Addr) (oe : Obj) (cls : Value) (d : Option Addr) (pn : List (Addr × Obj)), Zc cls d oe → (∃ vs, oe.data = .fields vs) → PSs (X.suite a ((a, oe) :: pn)) (b₀ :: suite) (ts a cls d))
    (rest : Wr cls d σ H → wpAny (model X.prog X.w) X.A (handleBy (.ref a) X.env r) (SP X pins D) X.xe s) (w : wAs X.K c i ts Wr D cls d σ H) :
    wpAny (model X.prog X.w) X.A (handleBy (.ref a) X.env (.ExceptHandler (some (.Name x np)) (some n) (b₀ :: suite) pos' :: r)) (SP X pins D) X.xe s := by
  obtain ⟨oe, vs, e1, e2, e3, nL, nF⟩ := S.obj hs hf
  have I0 := S.now
  have I1 := I0.suite e1 e3 S.new nL nF
  obtain ⟨b, hb, yes, no⟩ := w
  have look : PySem.W.Looks (model X.prog X.w) s.heap (typeOf (.ref a)) cls := fun A Q E s1 k q => wpAny_typeOf_ref (k _ _ e1) (by rw [e2.1]; exact q)
  have fits := PySem.W.exm_one (M := model X.prog X.w) I0.kIn look hb
  have named : ∀ {Q : Value → Shared → Prop} {E : Value → Shared → Prop}, Q c s → wpAny (model X.prog X.w) (X.A.mark (some (.ref a))) (eval (.Name x np) X.env) Q E s := fun q => by
    rcases hc with ⟨g, nd, m | ⟨m, v, nn⟩⟩
    · exact ld_glob (X := X.suite a ((a, oe) :: (X.pn ++ pins))) I1 g m q nd
    · exact ld_blt (X := X.suite a ((a, oe) :: (X.pn ++ pins))) I1 g m v q nn nd
  refine wpAny_handleBy_cons (codeAny_handlers_test (named (fits.here ?_))) (by intro q; cases q)
  cases b with
  | false => exact rest (no rfl)
  | true =>
    refine codeAny_handlers_suite_as (HandSPX.lands_againZ S.fly fun h f u => ?_)
    have S2 := S.on f u
    obtain ⟨oe2, vs2, f1, f2, f3, _, _⟩ := S2.obj hs hf
    refine store_ok (X := X.suite a ((a, oe2) :: (X.pn ++ pins))) (v := .ref a) (S2.now.suite f1 f3 S.new nL nF) hN hi (.inl hl) rfl (fun s1 I2 => ?_) (.inr hl)
    refine wpAny_mono ((hsu a oe2 cls d (X.pn ++ pins) f2 ⟨_, f3⟩).run [] s1 _ H _ I2 (yes rfl a S.new)) (fun fl s2 out => ?_) fun _ _ z => z.elim
    have name_gone : ∀ {σ2 : L2.St} {H2 : Hp} {Q : Shared → Prop}, Inv (X.suite a ((a, oe2) :: (X.pn ++ pins))) [] σ2 H2 s2 → (∀ s3, Inv X pins (σ2.set i none) H2 s3 → Q s3) →
        wpAny (model X.prog X.w) X.A (do bindName X.env n .none; unbindBehindTheSuite X.env n pos') (fun _ s3 => Q s3) X.xe s2 := fun I3 q => gone_ok (I3.unsuite I0.ok) hN hi hl q
    match fl, out with
    | .ret u, ⟨v2, σ2, H2, I3, r2, q2⟩ => exact name_gone I3 fun s3 I4 => ⟨v2, _, _, I4, r2, q2⟩
    | .next, ⟨σ2, H2, I3, q2⟩ => exact name_gone I3 fun s3 I4 => ⟨_, _, I4, q2⟩
    | .brk, ⟨σ2, H2, I3, q2⟩ => exact name_gone I3 fun s3 I4 => ⟨_, _, I4, q2⟩
    | .cont, ⟨σ2, H2, I3, q2⟩ => exact name_gone I3 fun s3 I4 => ⟨_, _, I4, q2⟩
/-- the clauses and what each of them does -/
inductive Cls (X : Cx) (n : Str) : List ExceptHandler → List (Value × (Addr → Value → Option Addr → TS)) → Prop
  | done : Cls X n [] []
  | more {x : Str} {c : Value} {ts : Addr → Value → Option Addr → TS} {b₀ : Stmt} {suite : List Stmt} {np pos' : Pos} {r : List ExceptHandler} {l : List (Value × (Addr → Value → Option Addr → TS))} (hc : Names X x c)
      (hsu : ∀ (a : Addr) (oe : Obj) (cls : Value) (d : Option Addr) (pn : List (Addr × Obj)), Zc cls d oe → (∃ vs, oe.data = .fields vs) → PSs (X.suite a ((a, oe) :: pn)) (b₀ :: suite) (ts a cls d)) (rest : Cls X n r l) :
      Cls X n (.ExceptHandler (some (.Name x np)) (some n) (b₀ :: suite) pos' :: r) ((c, ts) :: l)
theorem Stands.all {r : List ExceptHandler} {l : List (Value × (Addr → Value → Option Addr → TS))} (S : Stands X pins σ H cls d a B sI s) (hs : X.stack = X.env :: X.outer) (hf : X.env.frame = some X.env.locals) (hN : X.N.Nodup) (hi : X.N[i]? = some n) (hl : X.env.kindOf n = some .local)
    (tk : Takes X Wout) (C : Cls X n r l) : wish X.K i Wout D l cls d σ H → wpAny (model X.prog X.w) X.A (handleBy (.ref a) X.env r) (SP X pins D) X.xe s := by
  induction C with
  | done => exact fun w => S.leave hs hf tk w
  | more hc hsu _ ih => exact fun w => S.clause hs hf hN hi hl hc hsu ih w
theorem ps_try {h₀ : ExceptHandler} {r : List ExceptHandler} {l : List (Value × (Addr → Value → Option Addr → TS))} {tb : WX → TS} (hs : X.stack = X.env :: X.outer) (hf : X.env.frame = some X.env.locals) (hN : X.N.Nodup) (hi : X.N[i]? = some n) (hl : X.env.kindOf n = some .local) (tk : Takes X Wout)
    (hb : ∀ (W : WX) (pn : List (Addr × Obj)) (xe : Value → Shared → Prop), Takes (X.tr pn xe) W → PassesOwn (model X.prog X.w) X.A X.env xe → PSs (X.tr pn xe) body (tb W)) (C : Cls X n (h₀ :: r) l) :
    PS X (.Try body (h₀ :: r) [] [] pos) (fun D σ H => tb (wish X.K i Wout D l) D σ H) := by
  constructor
  intro pins s σ H D I h
  have frames : X.A.frames = some (X.env :: X.outer) := by rw [I.ok.frames, hs]
  let catch_ : Value → Shared → Prop := fun e s1 => wpAny (model X.prog X.w) X.A (noteFrame e X.env) (fun _ s2 => wpAny (model X.prog X.w) X.A (setFlight e none) (fun _ s3 => wpAny (model X.prog X.w) X.A (handleBy e X.env (h₀ :: r)) (SP X pins D) X.xe s3) X.xe s2) X.xe s1
  have caught : Takes (X.tr (X.pn ++ pins) catch_) (wish X.K i Wout D l) := by
    rintro _ s1 ⟨a, B, sI, pins1, σ1, H1, cls, d, rfl, J, old, near, sky, new, os, bare, w⟩
    have sky : Sky B (X.env :: X.outer) a (Zc cls d) X.env.locals s1.heap := by
      rw [← hs]
      exact sky
    refine Sky.land Zc.steady frames hf sky fun h2 fly u => ?_
    have S : Stands X pins σ1 H1 cls d a B sI { s1 with heap := h2 } := ⟨J.ofTry I.ok, old, near.trans u, by rw [hs]; exact fly, new, os, bare⟩
    exact S.all hs hf hN hi hl tk C w
  refine wpAny_Try_except (wpAny_mono ((hb _ _ catch_ caught PassesOwn.looking).run [] s σ H D (I.toTry _) h) (fun f s1 out => ?_) fun _ _ z => z)
  match f, out with
  | .ret u, ⟨v, σ1, H1, J, e, q⟩ => exact ⟨v, _, _, J.ofTry I.ok, e, q⟩
  | .next, ⟨σ1, H1, J, q⟩ => exact wpAny_execs_nil ⟨_, _, J.ofTry I.ok, q⟩
  | .brk, ⟨σ1, H1, J, q⟩ => exact ⟨_, _, J.ofTry I.ok, q⟩
  | .cont, ⟨σ1, H1, J, q⟩ => exact ⟨_, _, J.ofTry I.ok, q⟩
end
end ManyAs
set_option Elab.async false
set_option linter.all false
set_option maxRecDepth 100000
set_option maxHeartbeats 8000000
namespace LJ
open PySem PySem.Spec L2 PySem.ErrV
open LamX (ExtN)
open NdefX (NTab TabsN)
open OwnX
/-! _law_read. -/
abbrev sLrd : Stmt := top 69
abbrev pLrd : List Str := ["_law_works_here", "_law_page_here", "_law_named"]
abbrev nLrd : List Str := ["_law_works_here", "_law_page_here", "_law_named", "_law_found_here", "e"]
abbrev wWorks : Str := Str.ofString "works"
abbrev wText : Str := Str.ofString "text"
abbrev wRead : Str := Str.ofString "read"
def Callee (K : PySem.W.Frag) (mg : Str → Option Value) (name : Str) (ps : List Str) (G : Addr → FuncData → Prop) : Prop := ∃ f fd, G f fd ∧ mg name = some (.ref f) ∧ PySem.W.keepIn K (.ref f) = true ∧ Binds K fd ps []
def Method (K : PySem.W.Frag) (C : Addr) (name : Str) (G : Addr → FuncData → Prop) (B : FuncData → Prop) : Prop := ∃ f fd, G f fd ∧ Meth K C name f ∧ B fd
/-- what repr tells of a value: of data, or of a list with works in it -/
inductive Shown (C : Addr) (H : Hp) : V → Str → Prop
  | dat {d : PyData} {v : V} (h : Dat H d v) : Shown C H v d.shown
  | works {p x : Addr} {W : Wd} (h : H p = some (.lst [.ref x])) (wk : WkD C H x W) (g : GoodF W) : Shown C H (.ref p) (listText [reprW W.ms.length W.ps.length])
theorem Shown.ex {C : Addr} {H H1 : Hp} {v : V} {z : Str} (h : Shown C H v z) (e : Ex H H1) : Shown C H1 v z := by
  cases h with
  | dat h => exact .dat (h.exN e.n)
  | works h wk g => exact .works (e _ _ h) (wk.ex e) g
theorem takes_len {X : Cx} {W : WX} (tk : Takes X W) : Takes X (fun cls d _ H => ∀ σ, σ.length = X.N.length → W cls d σ H) := fun u s' ⟨a, B, sI, pins, σ, H, cls, d, e, I, nb, up, sky, na, os, ag, w⟩ =>
  tk u s' ⟨a, B, sI, pins, σ, H, cls, d, e, I, nb, up, sky, na, os, ag, w σ I.len⟩
def tTru (K : PySem.W.Frag) (i : Nat) : TT := fun σ H Q => tVar i σ H fun x H' => ∃ k, TruV K x H' k ∧ Q k H'
/-- which clause fits which error -/
structure Fits2 (K : PySem.W.Frag) (cI cW : Addr) : Prop where
  ii : PySem.W.exmOne K (.ref cI) (.ref cI) = some true
  wi : PySem.W.exmOne K (.ref cW) (.ref cI) = some false
  ww : PySem.W.exmOne K (.ref cW) (.ref cW) = some true
def rReprA (C : Addr) (sp : Sp) : List V → Hp → VK → Prop := fun xs H Q => rRepr xs H Q ∨ rReprL C sp E0 xs H Q
theorem call_reprA {X : Cx} {C f : Addr} {sp : Sp} (hg : X.A.guards = some []) (hu : X.A.units + 150 < cLine) (c : Meth X.K C "__repr__" f) (G : Runs X f sp E0) : CallR X (.builtin "repr") (rReprA C sp) :=
  fun pins s σ H xs us Q I r h => h.elim (call_repr_data hg hu pins s σ H xs us Q I r) (call_repr_listO hg c G (by omega) pins s σ H xs us Q I r)
/-- repr of such a value -/
theorem Shown.repr {C : Addr} {H : Hp} {v : V} {z : Str} {Q : VK} (h : Shown C H v z) (q : ∀ H1, Ex H H1 → Q (.str z) H1) : rReprA C (spReprW C) [v] H Q := by
  cases h with
  | @dat d v h => exact .inl ⟨v, d, rfl, h.at_, h.sh, h.dp, h.sz, q H Ex.refl⟩
  | @works p x W h wk g =>
    obtain ⟨am, ac, as, ap, wk1, dt1⟩ := id wk
    obtain ⟨dx, D1, D2, D3, D4, b1, b2, v4, hx, _⟩ := wk1
    obtain ⟨vm, em, pm⟩ := dt1.m
    obtain ⟨vp, ep, pp⟩ := dt1.p
    have lm : vm.length = W.ms.length := Paired.len pm
    have lp : vp.length = W.ps.length := Paired.len pp
    have m6 := g.m2
    have p8 := g.p2
    have small : (reprW W.ms.length W.ps.length).length + 64 ≤ sizeLine := by
      have := reprW_len (m := W.ms.length) (p := W.ps.length) (by omega) (by omega)
      have sz := sizeLine_eq
      omega
    refine .inr ⟨p, x, dx, _, reprW W.ms.length W.ps.length, rfl, h, hx, small, fun P nP => ?_⟩
    have nx : x ≠ P := fun z => by
      rw [z, nP] at hx
      cases hx
    have np : p ≠ P := fun z => by
      rw [z, nP] at h
      cases h
    have t : Tup H (upd H P (.lst [])) := Ex.tup (Ex.refl.new nP)
    refine ⟨x, dx, _, am, ap, vm, vp, rfl, by rw [upd_ne nx]; exact hx, rfl, rfl, t _ _ em, t _ _ ep, by omega, by omega, ?_⟩
    rw [lm, lp]
    refine ⟨_, rfl, rfl, upd_same, by rw [upd_ne np]; exact h, ?_⟩
    rw [upd_upd]
    exact q _ (Ex.refl.new nP)
def spRead (K : PySem.W.Frag) (C : Addr) : Sp := fun vs H Q _ => ∃ (wv tv : V) (b iw : Bool) (d : PyData), vs = [wv, tv, .bl b] ∧ IsW K C H wv iw ∧ Kn K H tv ∧ Dat H d tv ∧ (∀ z, tv = .str z → z.length ≤ 1000000) ∧
  (iw = true → ∃ (x : Addr) (W : Wd), wv = .ref x ∧ WkD C H x W ∧ GoodF W ∧
    (foundOf W tv = none → ∀ q H1, Ex H H1 → H1 q = some (.lst [.str wText, .str d.shown]) → Q (.ref q) H1) ∧
    (∀ ds, foundOf W tv = some ds → ∀ q H1, Ex H H1 → H1 q = some (.lst [.str wRead, .str (dDs ds).shown]) → Q (.ref q) H1)) ∧
  (iw = false → ∃ z : Str, Shown C H wv z ∧ ∀ q H1, Ex H H1 → H1 q = some (.lst [.str wWorks, .str z]) → Q (.ref q) H1)
theorem rd_sm2 {PC : Addr} {sp : Sp} {E : XK} {σ : L2.St} {H : Hp} {Q : VK} {u v : V} (h0 : σ[0]? = some (some u)) (h1 : σ[1]? = some (some v)) (h : sp [u, v] H Q E) : tSMeth PC sp [] E (tC (.ref PC)) (tCons (tVar 0) (tCons (tVar 1) tNil)) σ H Q := ⟨rfl, _, h0, _, h1, h⟩
section
variable {P : Program} {w : World} {K : PySem.W.Frag} {mg : Str → Option Value} {base : Heap} {C PC cT cW : Addr} {mc : Value} {pR : Addr}
theorem scLrd : FnScope nLrd pLrd (defScope sLrd) := ⟨rfl, rfl, rfl, by decide +kernel, rfl, by decide +kernel, by decide +kernel⟩
theorem ok_lrd {f fP : Addr} {fd fdP : FuncData} {gg : List Value → List Value → List Value} (F : Fun K "_law_read" "_law_read" sLrd f fd) (bR : mg "repr" = none) (mP : mg "Plan" = some (.ref PC)) (c : PCls K PC)
    (cr : ClX.CRead K PC mc) (sm : SMet K PC mc "read" pR fP) (GP : FnOk P w K mg base (L2.CX P w) 8 fP fdP ["works", "text"] (spPRV K PC C cW cT)) (bP : Binds K fdP ["works", "text"] []) (bPK : KBn K fdP ["works", "text"] 0 ["text", "works"] gg (fun vs zs => vs ++ zs.reverse))
    (PD : PrW P w K mg base PC "deeds" "_deeds") (e1 : Er1 K mg "InvalidText" "given" cT) (e2 : Er1 K mg "NotWorks" "given" cW) (X2 : Fits2 K cT cW)
    (RW : Method K C "__repr__" (fun f fd => FnW P w K mg base 1 f fd ["self"] (spReprW C)) fun fd => Binds K fd ["self"] []) :
    FnG P w K mg base 10 f fd pLrd (spRead K C) := by
  refine F.okG scLrd (fun vs H Q E h => ?_) (fun cdv A outer s H vs Q hgA hr h => ?_)
  · obtain ⟨wv, tv, b, iw, d, rfl, _⟩ := h
    rfl
  · obtain ⟨wv, tv, b, iw, d, rfl, iW, kt, dt, lz, good, bad⟩ := h
    have hgd : (A.deeper (PyProof.Rows.envOfC "_law_read" (defScope sLrd) s.heap.objs.size f cdv)).guards = some [] := hgA
    have hu : (A.deeper (PyProof.Rows.envOfC "_law_read" (defScope sLrd) s.heap.objs.size f cdv)).units + 150 < cLine := by
      have := hr.un
      omega
    have hr2 : Room 2 (A.deeper (PyProof.Rows.envOfC "_law_read" (defScope sLrd) s.heap.objs.size f cdv)) := hr.mono (by decide)
    have hr8 : Room 8 (A.deeper (PyProof.Rows.envOfC "_law_read" (defScope sLrd) s.heap.objs.size f cdv)) := hr.mono (by decide)
    obtain ⟨f1, b1, T1, B1⟩ := e1.c
    obtain ⟨f2, b2, T2, B2⟩ := e2.c
    obtain ⟨p2, g2, fd2, P2, G2, bP2⟩ := PD
    obtain ⟨fR, fdR, GR, cR, bRp⟩ := RW
    refine ⟨_, pss_cons (ManyAs.ps_try (i := 4) (n := "e") (Wout := fun _ _ _ _ => False) rfl rfl scLrd.nd rfl rfl takes0
        (fun W pn xe tk _ => pss_one (ps_set (i := 3) scLrd.nd rfl (Or.inl rfl) (pe_ifExp (show PT _ _ (tTru K 2) from pt_truth (pv 2) (fun _ => rfl))
          (pe_smethK (pe_glob (v := .ref PC) (by rfl) mP rfl) cr sm GP (by exact hr8) bPK (passes_call (E := fun cls d H => ∀ σ : L2.St, σ.length = 5 → W cls d σ H) (takes_len tk) (fun _ _ _ _ z => z)) (pk_cons (pv 1) (pk_cons (pv 0) pk_nil)))
          (pe_smeth (pe_glob (v := .ref PC) (by rfl) mP rfl) cr sm GP (by exact hr8) bP .nil (passes_call (E := fun cls d H => ∀ σ : L2.St, σ.length = 5 → W cls d σ H) (takes_len tk) (fun _ _ _ _ z => z)) (pa_cons (pv 0) (pa_cons (pv 1) pa_nil))))))
        (.more ⟨rfl, by decide, .inl T1.gC⟩ (fun a oe cls d pn hz hf => pss_one (ps_ret (pe_lst (pa_cons pe_str (pa_cons (pe_callB (call_reprA hgd hu cR (runs_pin (List.mem_cons_self ..) GR ⟨hr2.dp, hr2.un⟩ bRp)) (by rfl) bR (by decide +kernel) (pa_cons (pe_xf e1.xf T1.noN hz hf (pv 4)) pa_nil)) pa_nil)))))
        (.more ⟨rfl, by decide, .inl T2.gC⟩ (fun a oe cls d pn hz hf => pss_one (ps_ret (pe_lst (pa_cons pe_str (pa_cons (pe_callB (call_reprA hgd hu cR (runs_pin (List.mem_cons_self ..) GR ⟨hr2.dp, hr2.un⟩ bRp)) (by rfl) bR (by decide +kernel) (pa_cons (pe_xf e2.xf T2.noN hz hf (pv 4)) pa_nil)) pa_nil))))) .done)))
      (pss_one (ps_ret (pe_lst (pa_cons pe_str (pa_cons (pe_callB (call_repr_data hgd hu) (by rfl) bR (by decide +kernel) (pa_cons (pe_prop (pv 3) c.cl P2 G2 hr2 bP2 .nil pass0 (by rfl)) pa_nil)) pa_nil))))), ?_⟩
    have set4 : ∀ {σ : L2.St} {a : Addr}, σ.length = 5 → (σ.set 4 (some (V.ref a)))[4]? = some (some (.ref a)) := fun {σ a} l => List.getElem?_set_self (by omega)
    have two : 2 ≤ sizeLine := by
      rw [sizeLine_eq]
      decide
    have ends : ∀ (D : Ends) (cls : Value) (d : Addr) (u : V) (H1 : Hp) (σ : L2.St), σ.length = 5 → D.rt = Q → H1 d = some (.xd [(("given" : Str), u)]) →
        ((cls = .ref cT ∧ ∃ z, Shown C H1 u z ∧ ∀ q H2, Ex H1 H2 → H2 q = some (.lst [.str wText, .str z]) → Q (.ref q) H2) ∨ (cls = .ref cW ∧ ∃ z, Shown C H1 u z ∧ ∀ q H2, Ex H1 H2 → H2 q = some (.lst [.str wWorks, .str z]) → Q (.ref q) H2)) →
        ManyAs.wish K 4 (fun _ _ _ _ => False) D [(Value.ref cT, fun a cls d => tRet (tLst (tCons (tC (V.str (Str.ofString "text"))) (tCons (tCB (rReprA C (spReprW C)) (tCons (tXf a cls d cT (Str.ofString "given") (tVar 4)) tNil)) tNil)))), (Value.ref cW, fun a cls d => tRet (tLst (tCons (tC (V.str (Str.ofString "works"))) (tCons (tCB (rReprA C (spReprW C)) (tCons (tXf a cls d cW (Str.ofString "given") (tVar 4)) tNil)) tNil))))] cls (some d) σ H1 := by
      intro D cls d u H1 σ ls eQ hd h
      rcases h with ⟨rfl, z, sh, q⟩ | ⟨rfl, z, sh, q⟩
      · refine ⟨true, X2.ii, fun _ a ha => ?_, (nomatch ·)⟩
        refine ⟨_, set4 ls, rfl, rfl, d, _, u, rfl, hd, rfl, sh.repr fun H2 x2 => ⟨two, fun q2 nq => ?_⟩⟩
        show D.rt (.ref q2) _
        rw [eQ]
        exact q q2 _ (x2.new nq) upd_same
      · refine ⟨false, X2.wi, (nomatch ·), fun _ => ⟨true, X2.ww, fun _ a ha => ?_, (nomatch ·)⟩⟩
        refine ⟨_, set4 ls, rfl, rfl, d, _, u, rfl, hd, rfl, sh.repr fun H2 x2 => ⟨two, fun q2 nq => ?_⟩⟩
        show D.rt (.ref q2) _
        rw [eQ]
        exact q q2 _ (x2.new nq) upd_same
    have core : ∀ (Q' : VK) (E' : XK),
        (∀ (y x td : Addr) (W : Wd) (ds : List Deed) H1, GoodF W → DsOk W ds → Ex H H1 → PlanAt PC C H1 y x W td ds → (∀ q H2, Ex H H2 → H2 q = some (.lst [.str wRead, .str (dDs ds).shown]) → Q (.ref q) H2) → Q' (.ref y) H1) →
        (∀ d u H1, Ex H H1 → H1 d = some (.xd [(("given" : Str), u)]) → ∀ cls, ((cls = Value.ref cT ∧ ∃ z, Shown C H1 u z ∧ ∀ q H2, Ex H1 H2 → H2 q = some (.lst [.str wText, .str z]) → Q (.ref q) H2) ∨ (cls = .ref cW ∧ ∃ z, Shown C H1 u z ∧ ∀ q H2, Ex H1 H2 → H2 q = some (.lst [.str wWorks, .str z]) → Q (.ref q) H2)) → E' cls (some d) H1) →
        spPRV K PC C cW cT [wv, tv] H Q' E' := fun Q' E' g1 g2 => by
      refine ⟨wv, tv, iw, rfl, iW, kt, fun e H1 d x1 hd => ?_, fun e => ?_⟩
      · obtain ⟨z, sh, q⟩ := bad e
        exact g2 d _ H1 x1 hd _ (.inr ⟨rfl, z, sh.ex x1, fun q2 H2 x2 h2 => q q2 H2 (x1.trans x2) h2⟩)
      · obtain ⟨x, W, ew, wk, g, no, yes⟩ := good e
        have txt : foundOf W tv = none → Raised cT "given" tv H E' := fun en H1 d1 x1 hd => g2 d1 _ H1 x1 hd _ (.inl ⟨rfl, _, (Shown.dat dt).ex x1, fun q2 H2 x2 h2 => no en q2 H2 (x1.trans x2) h2⟩)
        refine ⟨x, W, ew, wk, g, fun ns => txt (by
          unfold foundOf
          split
          · exact absurd rfl (ns _)
          · rfl), fun z ez => ?_⟩
        subst ez
        exact ⟨lz z rfl, fun en => txt en, fun ds eds y td H1 x1 _ pl => g1 y x td W ds H1 g (plan_ok eds) x1 pl fun q2 H2 x2 h2 => yes ds eds q2 H2 x2 h2⟩
    have last : ∀ (y x td : Addr) (W : Wd) (ds : List Deed) (σ : L2.St) (H1 : Hp), GoodF W → DsOk W ds → Ex H H1 → PlanAt PC C H1 y x W td ds → σ[3]? = some (some (.ref y)) → (∀ q H2, Ex H H2 → H2 q = some (.lst [.str wRead, .str (dDs ds).shown]) → Q (.ref q) H2) →
        tRet (tLst (tCons (tC (V.str (Str.ofString "read"))) (tCons (tCB rRepr (tCons (tProp PC (getSp PC (Str.ofString "_deeds")) [] E0 (tVar 3)) tNil)) tNil))) { nx := fun _ H1 => Q .non H1, rt := Q } σ H1 := by
      intro y x td W ds σ H1 g ok x1 pl h3 q
      obtain ⟨dy, tl, rs, hy, ht, pr, _⟩ := pl.at_
      have da := dat_Ds g ok ht pr
      refine ⟨_, h3, y, dy, _, rfl, hy, y, dy, _, _, rfl, hy, rfl, _, _, rfl, da.at_, da.sh, da.dp, da.sz, two, fun q2 nq => ?_⟩
      exact q q2 _ (x1.new nq) upd_same
    refine ⟨_, rfl, b, rfl, ?_⟩
    cases b with
    | true =>
      refine ⟨rfl, _, rfl, _, rfl, rfl, core _ _ (fun y x td W ds H1 g ok x1 pl q => rd_nameU (last y x td W ds _ H1 g ok x1 pl rfl q)) fun d1 u H1 x1 hd cls h σ ls => ends _ _ d1 u H1 σ ls rfl hd h⟩
    | false =>
      refine rd_sm2 rfl rfl (core _ _ (fun y x td W ds H1 g ok x1 pl q => rd_nameU (last y x td W ds _ H1 g ok x1 pl rfl q)) fun d1 u H1 x1 hd cls h σ ls => ends _ _ d1 u H1 σ ls rfl hd h)
end
end LJ
set_option Elab.async false
set_option linter.all false
set_option maxRecDepth 100000
set_option maxHeartbeats 8000000
namespace LJ
open PySem PySem.Spec L2
/-! The text of drawn works, and of drawn plans: signs and lengths. -/
def Lw (z : Str) : Prop := ∀ c, 200 ≤ c → Free c z
theorem lw_const {z : Str} (h : (TL.tl z).all (fun c => decide (c < 200)) = true) : Lw z := fun c hc m => by
  have := List.all_eq_true.mp h c m
  have := of_decide_eq_true this
  omega
theorem lw_app {x y : Str} (a : Lw x) (b : Lw y) : Lw (x ++ y) := fun c hc => free_app (a c hc) (b c hc)
theorem lw_num {i : Int} (h : 0 ≤ i) : Lw (num i) := fun c hc => free_num h (by omega)
theorem lw_name {z : Str} (h : isW z = true) : Lw z := fun c hc => free_name h (by omega)
theorem lw_join {sep : Str} {ys : List Str} (a : Lw sep) (b : ∀ y ∈ ys, Lw y) : Lw (Txt.join sep ys) := fun c hc => free_join (a c hc) fun y hy => b y hy c hc
theorem lw_line3 {pre : Str} (p : Lw pre) {r : Str × Int × Int} (h : isW r.1 = true) (a : 0 ≤ r.2.1) (b : 0 ≤ r.2.2) : Lw (line3 pre r) := by
  unfold line3
  have s : Lw sp1 := lw_const (by decide +kernel)
  exact lw_app (lw_app (lw_app (lw_app (lw_app (lw_app (lw_const (by decide +kernel)) p) (lw_name h)) s) (lw_num a)) s) (lw_num b)
theorem lw_line2 {pre : Str} (p : Lw pre) {r : Str × Int} (h : isW r.1 = true) (a : 0 ≤ r.2) : Lw (line2 pre r) := by
  unfold line2
  have s : Lw sp1 := lw_const (by decide +kernel)
  exact lw_app (lw_app (lw_app (lw_app (lw_const (by decide +kernel)) p) (lw_name h)) s) (lw_num a)
theorem lw_text {W : Wd} (g : GoodF W) : Lw (wtext W) := by
  unfold wtext
  refine lw_join (lw_const (by decide +kernel)) fun y hy => ?_
  unfold wlines at hy
  rcases List.mem_append.mp hy with hy | hy
  · rcases List.mem_append.mp hy with hy | hy
    · rcases List.mem_append.mp hy with hy | hy
      · obtain ⟨r, hr, rfl⟩ := List.mem_map.mp hy
        have b := g.mb r hr
        exact lw_line3 (lw_const (by decide +kernel)) (g.wm hr) b.1 (Int.le_trans b.1 b.2.1)
      · obtain ⟨r, hr, rfl⟩ := List.mem_map.mp hy
        have b := g.cb r hr
        exact lw_line3 (lw_const (by decide +kernel)) (g.wc hr) b.1 (Int.le_trans b.1 b.2.1)
    · obtain ⟨r, hr, rfl⟩ := List.mem_map.mp hy
      exact lw_line2 (lw_const (by decide +kernel)) (g.ws hr) (g.sb r hr).1
  · obtain ⟨r, hr, rfl⟩ := List.mem_map.mp hy
    have b := (g.pb r hr).2
    unfold pline
    refine lw_app (lw_app (lw_app (lw_const (by decide +kernel)) (lw_const (by decide +kernel))) (lw_name (g.wp hr))) (lw_join (lw_const (by decide +kernel)) fun y hy => ?_)
    obtain ⟨x, hx, rfl⟩ := List.mem_map.mp hy
    have bx := b x hx
    unfold bline
    exact lw_app (lw_app (lw_app (lw_app (lw_const (by decide +kernel)) (lw_const (by decide +kernel))) (lw_num bx.1)) (lw_const (by decide +kernel))) (lw_num (Int.le_trans bx.1 bx.2.1))
theorem text_len {W : Wd} (g : Good W) : (wtext W).length ≤ 20000 := by
  have t := good_told g
  have l1 := t.lm
  have l2 := t.lc
  have l3 := t.ls
  have l4 := t.lp
  unfold wtext
  rw [join_len, show (Str.ofString "\n").length = 1 by decide +kernel]
  have most : ∀ x ∈ wlines W, x.length ≤ 400 := fun x hx => by
    unfold wlines at hx
    rcases List.mem_append.mp hx with h | h
    · rcases List.mem_append.mp h with h | h
      · rcases List.mem_append.mp h with h | h
        · obtain ⟨r, hr, rfl⟩ := List.mem_map.mp h
          exact line3_len (by decide +kernel) (t.fm r hr)
        · obtain ⟨r, hr, rfl⟩ := List.mem_map.mp h
          exact line3_len (by decide +kernel) (t.fc r hr)
      · obtain ⟨r, hr, rfl⟩ := List.mem_map.mp h
        exact line2_len (by decide +kernel) (t.fs r hr)
    · obtain ⟨r, hr, rfl⟩ := List.mem_map.mp h
      obtain ⟨g1, g2, g3⟩ := t.fp r hr
      exact Nat.le_trans (pline_len g1 g2 g3) (by decide)
  have sm := sum_most (f := fun x : Str => x.length) most
  have ll : (wlines W).length ≤ 40 := by
    unfold wlines
    rw [List.length_append, List.length_append, List.length_append, List.length_map, List.length_map, List.length_map, List.length_map]
    omega
  have sm : ((wlines W).map (·.length)).sum ≤ (wlines W).length * 400 := sm
  omega
theorem tk_wtext {W : Wd} (g : GoodF W) : Tk (wtext W) := tk_free.mpr (lw_text g)
theorem tk_dline {W : Wd} (g : GoodF W) {d : Deed} (h : DOk W d) : Tk (dline d) := by
  refine tk_join (by decide +kernel) fun y hy => ?_
  exact tk_name (words_w g h y hy)
theorem tk_ptext {W : Wd} (g : GoodF W) {ds : List Deed} (h : DsOk W ds) : Tk (ptext ds) := by
  refine tk_join (by decide +kernel) fun y hy => ?_
  obtain ⟨d, hd, rfl⟩ := List.mem_map.mp hy
  exact tk_dline g (h.all d hd)
end LJ
set_option Elab.async false
set_option linter.all false
set_option maxRecDepth 100000
set_option maxHeartbeats 8000000
/-! _law_right of plans bent: what stands from turn to turn. -/
namespace L2
open PySem PySem.Spec PyProof.Rows
def tHo (Pre Post : St → Hp → Prop) : TS := fun D σ H => Pre σ H ∧ ∀ σ1 H1, Post σ1 H1 → D.nx σ1 H1
theorem PS.weak {X : Cx} {st : Stmt} {t u : TS} (h : PS X st t) (i : ∀ D σ H, u D σ H → t D σ H) : PS X st u := ⟨fun pins s σ H D I q => h.run pins s σ H D I (i _ _ _ q)⟩
theorem PSs.weak {X : Cx} {st : List Stmt} {t u : TS} (h : PSs X st t) (i : ∀ D σ H, u D σ H → t D σ H) : PSs X st u := ⟨fun pins s σ H D I q => h.run pins s σ H D I (i _ _ _ q)⟩
abbrev Does (X : Cx) (st : Stmt) (Pre Post : St → Hp → Prop) : Prop := PS X st (tHo Pre Post)
theorem does {X : Cx} {st : Stmt} {Pre Post : St → Hp → Prop} {t : TS} (h : PS X st t) (i : ∀ D σ H, Pre σ H → (∀ σ1 H1, Post σ1 H1 → D.nx σ1 H1) → t D σ H) : Does X st Pre Post := h.weak fun D σ H q => i D σ H q.1 q.2
end L2
namespace LJ
open PySem PySem.Spec L2 PySem.ErrV
open LamX (ExtN)
open NdefX (NTab TabsN)
open OwnX
abbrev sRi : Stmt := top 70
abbrev nRi : List Str := ["_law_jar_here", "_law_world_here", "_law_works_here", "_law_words", "_law_turn", "_law_page_here", "_law_again", "_law_found_here", "_law_due", "_law_odd", "_law_part", "_law_row"]
theorem scRi : FnScope nRi ["_law_jar_here"] (defScope sRi) := ⟨rfl, rfl, rfl, by decide +kernel, rfl, by decide +kernel, by decide +kernel⟩
def forBody : Stmt → List Stmt
  | .For (body := b) .. => b
  | _ => []
def rs (i : Nat) : Stmt := (defBody sRi).getD i (.Pass ⟨0, 0, 0, 0⟩)
def rb (i : Nat) : Stmt := (forBody (rs 4)).getD i (.Pass ⟨0, 0, 0, 0⟩)
structure BltR (mg : Str → Option Value) : Prop where
  tuple : mg "tuple" = none
  len : mg "len" = none
  range : mg "range" = none
  repr : mg "repr" = none
  str : mg "str" = none
/-- values that are no objects of the class -/
structure NoC (K : PySem.W.Frag) (C : Addr) : Prop where
  non : PySem.W.kitOne K (.type "NoneType") (.ref C) = some false
  bl : PySem.W.kitOne K (.type "bool") (.ref C) = some false
  str : PySem.W.kitOne K (.type "str") (.ref C) = some false
  int : PySem.W.kitOne K (.type "int") (.ref C) = some false
  tup : PySem.W.kitOne K (.type "tuple") (.ref C) = some false
  lst : PySem.W.kitOne K (.type "list") (.ref C) = some false
  dct : PySem.W.kitOne K (.type "dict") (.ref C) = some false
/-- all that _law_right needs of the rest -/
structure Rt (P : Program) (w : World) (K : PySem.W.Frag) (mg : Str → Option Value) (base : Heap) (C : Addr) (T : List NTab) : Prop where
  blt : BltR mg
  cls : WCls K C
  ins : WIns K C
  noc : NoC K C
  dip : Callee K mg "_law_dip" ["_law_jar_here", "_law_top"] fun f fd => FnOk P w K mg base CX0 1 f fd ["_law_jar_here", "_law_top"] spDip
  one : Callee K mg "_law_one_of" ["_law_jar_here", "_law_some"] fun f fd => FnOk P w K mg base CX0 2 f fd ["_law_jar_here", "_law_some"] spOne
  world : Callee K mg "_law_world" ["_law_jar_here", "_law_most"] fun f fd => FnOk P w K mg base CX0 4 f fd ["_law_jar_here", "_law_most"] spWorld
  built : Callee K mg "_law_built" ["_law_world_here"] fun f fd => FnOk P w K mg base CX0 9 f fd ["_law_world_here"] (spBuiltD C T)
  deeds : Callee K mg "_law_some_deeds" pSd fun f fd => FnOk P w K mg base CX0 3 f fd pSd spSd
  page : Callee K mg "_law_page" ["_law_deeds_here"] fun f fd => FnOk P w K mg base CX0 1 f fd ["_law_deeds_here"] spLPg
  bent : Callee K mg "_law_bent" ["_law_jar_here", "_law_page_here", "_law_words"] fun f fd => FnOk P w K mg base CX0 3 f fd ["_law_jar_here", "_law_page_here", "_law_words"] spBe
  found : Callee K mg "_law_found" ["_law_world_here", "_law_page_here"] fun f fd => FnOk P w K mg base CX0 2 f fd ["_law_world_here", "_law_page_here"] (spLf K)
  read : Callee K mg "_law_read" pLrd fun f fd => FnG P w K mg base 10 f fd pLrd (spRead K C)
  repr : Method K C "__repr__" (fun f fd => FnOk P w K mg base CX0 1 f fd ["self"] (spReprW C)) fun fd => Binds K fd ["self"] []
  text : Method K C "__str__" (fun f fd => FnOk P w K mg base CX0 1 f fd ["self"] (spStrW C)) fun fd => Binds K fd ["self"] []
abbrev XR (P : Program) (w : World) (K : PySem.W.Frag) (mg : Str → Option Value) (base : Heap) (f : Addr) (cdv : Value) (A : Around) (outer : List Env) (s : Shared) (H0 : Hp) : Cx := (cxOf CX0 P w K mg base nRi "_law_right" (defScope sRi) f cdv A outer s H0 E0).nox
/-- the words that are put in -/
structure WdsOk (ws : List Str) : Prop where
  ne : ws ≠ []
  len : ws.length ≤ 1000
  w : ∀ w ∈ ws, w.length ≤ 8 ∧ Tk w
/-- what stands through the turns -/
structure Bs (T : List NTab) (C : Addr) (H0 : Hp) (j p x l : Addr) (W : Wd) (ws : List Str) (G : Hp) : Prop where
  kp : Kp j H0 G
  jar : JarAt G j
  tabs : TabsN T G
  world : WorldAt G p W
  wk : WkD C G x W
  good : Good W
  wds : G l = some (.lst (ws.map V.str))
  wok : WdsOk ws
section
variable {T : List NTab} {C j p x l : Addr} {H0 G G1 : Hp} {W : Wd} {ws : List Str}
theorem Bs.ex (h : Bs T C H0 j p x l W ws G) (e : Ex G G1) : Bs T C H0 j p x l W ws G1 := ⟨h.kp.trans (Kp.of_ex e), e.jar h.jar, TabsN.exs h.tabs e, h.world.exN2 e.n, h.wk.ex e, h.good, e _ _ h.wds, h.wok⟩
theorem Bs.but (h : Bs T C H0 j p x l W ws G) (b : But j G G1) (J : JarAt G1 j) : Bs T C H0 j p x l W ws G1 := ⟨h.kp.trans (Kp.of_but b), J, tabs_but h.jar b h.tabs, h.world.butJ h.jar b, WkD.butJ h.jar b h.wk, h.good, b _ _ (strs_ne h.jar h.wds) h.wds, h.wok⟩
end
abbrev St12 (j p x l : Addr) (v4 v5 v6 v7 v8 v9 v10 v11 : Option V) : L2.St := [some (.ref j), some (.ref p), some (.ref x), some (.ref l), v4, v5, v6, v7, v8, v9, v10, v11]
/-- the state at the beginning of a turn -/
def TP (T : List NTab) (C : Addr) (H0 : Hp) (j : Addr) : L2.St → Hp → Prop := fun σ G => ∃ (p x l : Addr) (W : Wd) (ws : List Str) (v4 v5 v6 v7 v8 v9 v10 v11 : Option V), σ = St12 j p x l v4 v5 v6 v7 v8 v9 v10 v11 ∧ Bs T C H0 j p x l W ws G
/-- within it, its number known -/
def TI (T : List NTab) (C : Addr) (H0 : Hp) (j : Addr) : L2.St → Hp → Prop := fun σ G => ∃ (p x l : Addr) (W : Wd) (ws : List Str) (n : Int) (v5 v6 v7 v8 v9 v10 v11 : Option V), σ = St12 j p x l (some (.int n)) v5 v6 v7 v8 v9 v10 v11 ∧ Bs T C H0 j p x l W ws G
/-- there is a page, bounds for it and its lines -/
def PgN (N M : Nat) (T : List NTab) (C : Addr) (H0 : Hp) (j : Addr) : L2.St → Hp → Prop := fun σ G => ∃ (p x l : Addr) (W : Wd) (ws : List Str) (n : Int) (z : Str) (v6 v7 v8 v9 v10 v11 : Option V), σ = St12 j p x l (some (.int n)) (some (.str z)) v6 v7 v8 v9 v10 v11 ∧ Bs T C H0 j p x l W ws G ∧ Tk z ∧ z.length ≤ N ∧ ∀ ln ∈ Txt.split z nl, ln.length ≤ M
/-- a page, or what is in its place -/
def PgAt (K : PySem.W.Frag) (C : Addr) (H : Hp) (v : V) : Prop := ∃ d : PyData, Kn K H v ∧ Dat H d v ∧ (∀ z, v = .str z → z.length ≤ 1000000 ∧ Tk z) ∧ IsW K C H v false
theorem PgAt.exN {K : PySem.W.Frag} {C : Addr} {H H1 : Hp} {v : V} (h : PgAt K C H v) (e : ExtN H H1) : PgAt K C H1 v := by
  obtain ⟨d, h1, h2, h3, h4⟩ := h
  exact ⟨d, h1.exN e, h2.exN e, h3, h4.exN e⟩
def PvP (K : PySem.W.Frag) (T : List NTab) (C : Addr) (H0 : Hp) (j : Addr) : L2.St → Hp → Prop := fun σ G => ∃ (p x l : Addr) (W : Wd) (ws : List Str) (n : Int) (v : V) (v6 v7 v8 v9 v10 v11 : Option V), σ = St12 j p x l (some (.int n)) (some v) v6 v7 v8 v9 v10 v11 ∧ Bs T C H0 j p x l W ws G ∧ PgAt K C (cut [j] G) v
theorem dline_60 {W : Wd} (g : GoodF W) {d : Deed} (h : DOk W d) : (dline d).length ≤ 60 := by
  have := words_sum g h
  have k : sp1.length = 1 := by decide +kernel
  rw [k] at this
  unfold dline
  rw [join_len, k]
  omega
theorem page_lines {W : Wd} (g : GoodF W) {ds : List Deed} (h : DsOk W ds) : ∀ ln ∈ Txt.split (ptext ds) nl, ln.length ≤ 60 := by
  by_cases e : ds = []
  · subst e
    intro ln hl
    have := split_le tl_nl (by decide) hl
    have z : (ptext []).length = 0 := by decide +kernel
    omega
  · rw [split_ptext (g := g) e h.all]
    intro ln hl
    obtain ⟨d, hd, rfl⟩ := List.mem_map.mp hl
    exact dline_60 g (h.all d hd)
theorem sum_lines {W : Wd} (g : GoodF W) : ∀ {ds : List Deed}, (∀ d ∈ ds, DOk W d) → ((ds.map dline).map (·.length)).sum ≤ 60 * ds.length
  | [], _ => Nat.zero_le _
  | d :: ds, h => by
    have h1 := dline_60 g (h d (List.mem_cons_self ..))
    have h2 := sum_lines g fun e he => h e (List.mem_cons_of_mem _ he)
    simp only [List.map_cons, List.sum_cons, List.length_cons]
    omega
theorem page_len {W : Wd} (g : GoodF W) {ds : List Deed} (h : DsOk W ds) (l7 : ds.length ≤ 7) : (ptext ds).length ≤ 427 := by
  have h1 := sum_lines g h.all
  unfold ptext
  rw [join_len, show nl.length = 1 by decide +kernel, List.length_map]
  omega
section
variable {P : Program} {w : World} {K : PySem.W.Frag} {mg : Str → Option Value} {base : Heap} {C : Addr} {T : List NTab} {f j : Addr} {cdv : Value} {A : Around} {outer : List Env} {s : Shared} {H0 H00 : Hp}
theorem do0 (R : Rt P w K mg base C T) (hr : Room 11 (XR P w K mg base f cdv A outer s H00).A) : Does (XR P w K mg base f cdv A outer s H00) (rb 0) (TI T C H0 j) (PgN 427 60 T C H0 j) := by
  obtain ⟨fS, fdS, GS, mS, kS, bS⟩ := R.deeds
  obtain ⟨fP, fdP, GP, mP, kP, bP⟩ := R.page
  have hr3 : Room 3 (XR P w K mg base f cdv A outer s H00).A := hr.mono (by decide)
  have hr1 : Room 1 (XR P w K mg base f cdv A outer s H00).A := hr.mono (by decide)
  refine does (ps_set (i := 5) scRi.nd rfl (Or.inl rfl) (pe_call GP hr1 (by rfl) mP kP bP .nil pass0 (pa_cons (pe_call GS hr3 (by rfl) mS kS bS .nil pass0 (pa_cons (pv 0) (pa_cons (pv 1) (pa_cons pe_int (pa_cons pe_int pa_nil))))) pa_nil))) ?_
  rintro D σ H ⟨p, x, l, W, ws, n, v5, v6, v7, v8, v9, v10, v11, rfl, B⟩ next
  have g := B.good.F
  refine ⟨_, rfl, _, rfl, j, p, W, 7, 99, rfl, B.jar, B.world, B.good, by decide, by decide, fun ld ds H1 dl okd l7 J1 b1 nl1 => ?_⟩
  have B1 := B.but b1 J1
  refine ⟨ld, W, ds, rfl, dl, g, okd, fun H2 x2 => ?_⟩
  exact rd_nameU (next _ _ ⟨p, x, l, W, ws, n, ptext ds, _, _, _, _, _, _, rfl, B1.ex x2, tk_ptext g okd, page_len g okd (by omega), page_lines g okd⟩)
/-- bounds for a page bent so often -/
def nB : Nat → Nat
  | 0 => 427
  | 1 => 1648
  | 2 => 34629
  | _ => 727230
def mB : Nat → Nat
  | 0 => 60
  | k => nB k
theorem do1 (R : Rt P w K mg base C T) (hr : Room 11 (XR P w K mg base f cdv A outer s H00).A) : Does (XR P w K mg base f cdv A outer s H00) (rb 1) (PgN 427 60 T C H0 j) (PgN 727230 727230 T C H0 j) := by
  obtain ⟨fD, fdD, GD, mD, kD, bD⟩ := R.dip
  obtain ⟨fB, fdB, GB, mB_, kB, bB⟩ := R.bent
  have hr1 : Room 1 (XR P w K mg base f cdv A outer s H00).A := hr.mono (by decide)
  have hr3 : Room 3 (XR P w K mg base f cdv A outer s H00).A := hr.mono (by decide)
  refine does (ps_for PassesOwn.never rfl (pi_range1 (by rfl) R.blt.range (pa_cons (pe_call GD hr1 (by rfl) mD kD bD .nil pass0 (pa_cons (pv 0) (pa_cons pe_int pa_nil))) pa_nil)) (pg_name (i := 6) scRi.nd rfl (Or.inl rfl))
    (pss_one (ps_set (i := 5) scRi.nd rfl (Or.inl rfl) (pe_call GB hr3 (by rfl) mB_ kB bB .nil pass0 (pa_cons (pv 0) (pa_cons (pv 5) (pa_cons (pv 3) pa_nil))))))) ?_
  rintro D σ H ⟨p, x, l, W, ws, n, z, v6, v7, v8, v9, v10, v11, rfl, B, tz, lz, ll⟩ next
  refine ⟨_, rfl, j, 4, rfl, B.jar, by decide, by decide, fun r H1 r0 r4 J1 b1 => ?_⟩
  refine ⟨r, rfl, by omega, by omega, for_range (lo := 0) (n := r.toNat) (fun i σ G => PgN (nB i) (mB i) T C H0 j σ G) ⟨p, x, l, W, ws, n, z, _, _, _, _, _, _, rfl, B.but b1 J1, tz, lz, ll⟩ ?_ ?_⟩
  · clear B tz lz ll b1 J1
    rintro i σ G hi ⟨p, x, l, W, ws, n, z, v6, v7, v8, v9, v10, v11, rfl, B, tz, lz, ll⟩
    refine rd_nameU ?_
    try dsimp only
    refine rd_asgU ?_
    have i3 : i < 3 := by omega
    have n4 : nB i ≤ 40000 := by
      match i, i3 with
      | 0, _ => decide
      | 1, _ => decide
      | 2, _ => decide
    have nx : nB i + 20 * mB i + 21 ≤ nB (i + 1) ∧ nB (i + 1) ≤ mB (i + 1) := by
      match i, i3 with
      | 0, _ => decide
      | 1, _ => decide
      | 2, _ => decide
    refine ⟨_, rfl, _, rfl, _, rfl, j, l, z, ws, mB i, rfl, B.jar, B.wds, B.wok.ne, B.wok.len, B.wok.w, tz, by omega, ll, fun y H2 ty ly J2 b2 => ?_⟩
    refine rd_nameU ⟨p, x, l, W, ws, n, y, _, _, _, _, _, _, rfl, B.but b2 J2, ty, by omega, fun ln hl => ?_⟩
    have := split_le tl_nl (by decide) hl
    omega
  · rintro σ G ⟨p, x, l, W, ws, n, z, v6, v7, v8, v9, v10, v11, rfl, B, tz, lz, ll⟩
    have top : nB r.toNat ≤ 727230 := by
      have i3 : r.toNat < 4 := by omega
      generalize r.toNat = k at i3
      match k, i3 with
      | 0, _ => decide
      | 1, _ => decide
      | 2, _ => decide
      | 3, _ => decide
    refine next _ _ ⟨p, x, l, W, ws, n, z, _, _, _, _, _, _, rfl, B, tz, by omega, fun ln hl => ?_⟩
    have := split_le tl_nl (by decide) hl
    omega
end
end LJ
set_option Elab.async false
set_option linter.all false
set_option maxRecDepth 100000
set_option maxHeartbeats 8000000
/-! _law_right of plans bent: a page, or something else. -/
namespace LJ
open PySem PySem.Spec L2 PySem.ErrV
open LamX (ExtN)
open NdefX (NTab TabsN)
open OwnX
def smallOk (d : PyData) : Bool := d.showable && decide (d.depth ≤ 100) && decide (d.shown.length ≤ 100) && PyData.strOk d.shown
theorem dat_small {H : Hp} {d : PyData} {v : V} (a : rp H d v ∨ rpD H d v) (h : smallOk d = true) : Dat H d v := by
  unfold smallOk at h
  simp only [Bool.and_eq_true, decide_eq_true_eq] at h
  obtain ⟨⟨⟨h1, h2⟩, h3⟩, h4⟩ := h
  exact ⟨a, h1, h2, by rw [sizeLine_eq]; omega, h4⟩
section
variable {K : PySem.W.Frag} {C : Addr} {H : Hp}
theorem pg_str (N : NoC K C) {z : Str} (t : Tk z) (l : z.length ≤ 1000000) : PgAt K C H (.str z) :=
  ⟨.str z, .str z (by rw [sizeLine_eq]; omega), dat_str t l, (fun y e => by cases e; exact ⟨l, t⟩), _, fun _ _ => .base (.str _), N.str⟩
theorem pg_non (N : NoC K C) : PgAt K C H .non := ⟨.none, (Bd.non (B := 20) (m := 1)).kn, dat_small (.inl (by unfold rp; rfl)) (by decide +kernel), (fun y e => nomatch e), _, fun _ _ => .base .non, N.non⟩
theorem pg_int (N : NoC K C) {i : Int} (h : smallOk (.int i) = true) : PgAt K C H (.int i) := ⟨.int i, .int i, dat_small (.inl (by unfold rp; rfl)) h, (fun y e => nomatch e), _, fun _ _ => .base (.int _), N.int⟩
theorem pg_bl (N : NoC K C) : PgAt K C H (.bl true) := ⟨.bool true, (Bd.bl (B := 20) (m := 1)).kn, dat_small (.inl (by unfold rp; rfl)) (by decide +kernel), (fun y e => nomatch e), _, fun _ _ => .base (.bl _), N.bl⟩
theorem pg_tup0 (N : NoC K C) {p : Addr} (h : H p = some (.tup [])) : PgAt K C H (.ref p) := ⟨.tuple [], .tup h (by rw [sizeLine_eq]; exact Nat.zero_le _), dat_small (.inl (by unfold rp; exact ⟨p, [], rfl, h, by unfold rpAll; rfl⟩)) (by decide +kernel), (fun y e => nomatch e), _, fun _ e => .base (.tup (tup_n e h)), N.tup⟩
theorem pg_dct (N : NoC K C) {p : Addr} (h : H p = some (.dK [])) : PgAt K C H (.ref p) := ⟨.dict [], (Bd.dct (B := 20) (m := 1) h).kn, dat_small (.inr ⟨p, [], [], rfl, h, rfl, .nil⟩) (by decide +kernel), (fun y e => nomatch e), _, fun _ e => .base (.dK (e _ _ h fun _ z => nomatch z)), N.dct⟩
theorem rp_one {z : Str} : rpAll H [.str z] [.str z] := by
  unfold rpAll
  refine ⟨_, _, rfl, by unfold rp; rfl, ?_⟩
  unfold rpAll
  rfl
theorem pg_lst1 (N : NoC K C) {p : Addr} {z : Str} (h : H p = some (.lst [.str z])) (t : Tk z) (l : z.length ≤ 727230) : PgAt K C H (.ref p) :=
  ⟨.list [.str z], (Bd.lst (B := 20) (m := 1) h).kn, dat_nice (by unfold rp; exact ⟨p, _, rfl, h, rp_one⟩) (shw_list (a := 0) (n := 727230) (m := 1) (fun d hd => by
    obtain rfl := List.mem_singleton.mp hd
    exact shw_txt t l) (Nat.le_refl 1)) (by decide) (by decide) (.list fun d hd => by
    obtain rfl := List.mem_singleton.mp hd
    exact .str t), (fun y e => nomatch e), _, fun _ e => .base (.lst (e _ _ h fun _ z => nomatch z)), N.lst⟩
theorem pg_tup1 (N : NoC K C) {p : Addr} {z : Str} (h : H p = some (.tup [.str z])) (t : Tk z) (l : z.length ≤ 727230) : PgAt K C H (.ref p) :=
  ⟨.tuple [.str z], .tup h (by rw [sizeLine_eq]; show 1 ≤ 16777216; decide), dat_nice (by unfold rp; exact ⟨p, _, rfl, h, rp_one⟩) (shw_tuple (a := 0) (n := 727230) (m := 1) (fun d hd => by
    obtain rfl := List.mem_singleton.mp hd
    exact shw_txt t l) (Nat.le_refl 1)) (by decide) (by decide) (.tuple fun d hd => by
    obtain rfl := List.mem_singleton.mp hd
    exact .str t), (fun y e => nomatch e), _, fun _ e => .base (.tup (tup_n e h)), N.tup⟩
end
section
variable {P : Program} {w : World} {K : PySem.W.Frag} {mg : Str → Option Value} {base : Heap} {C : Addr} {T : List NTab} {f j : Addr} {cdv : Value} {A : Around} {outer : List Env} {s : Shared} {H0 H00 : Hp}
theorem do2 (R : Rt P w K mg base C T) (hr : Room 11 (XR P w K mg base f cdv A outer s H00).A) : Does (XR P w K mg base f cdv A outer s H00) (rb 2) (PgN 727230 727230 T C H0 j) (PvP K T C H0 j) := by
  obtain ⟨fD, fdD, GD, mD, kD, bD⟩ := R.dip
  obtain ⟨fO, fdO, GO, mO, kO, bO⟩ := R.one
  have hr1 : Room 1 (XR P w K mg base f cdv A outer s H00).A := hr.mono (by decide)
  have hr2 : Room 2 (XR P w K mg base f cdv A outer s H00).A := hr.mono (by decide)
  refine does (ps_if (pt_cmpR op_eq (pe_call GD hr1 (by rfl) mD kD bD .nil pass0 (pa_cons (pv 0) (pa_cons pe_int pa_nil))) pe_int (nomark _)) (pss_one (ps_set (i := 5) scRi.nd rfl (Or.inl rfl) (pe_call GO hr2 (by rfl) mO kO bO .nil pass0 (pa_cons (pv 0) (pa_cons
    (pe_lst (pa_cons pe_non (pa_cons pe_int (pa_cons pe_bl (pa_cons (pe_tup pa_nil) (pa_cons (pe_lst (pa_cons (pv 5) pa_nil)) (pa_cons (pe_tup (pa_cons (pv 5) pa_nil)) (pa_cons pe_dnewK (pa_cons pe_str (pa_cons pe_str (pa_cons (pe_op op_add_str (pv 5) pe_str) (pa_cons (pe_op op_add_str pe_str (pv 5)) pa_nil)))))))))))) pa_nil))))) pss_nil) ?_
  rintro D σ H ⟨p, x, l, W, ws, n, z, v6, v7, v8, v9, v10, v11, rfl, B, tz, lz, ll⟩ next
  have N := R.noc
  have sz := sizeLine_eq
  have big : ∀ {n : Nat}, n ≤ 1000 → n ≤ sizeLine := fun h => by omega
  refine ⟨_, rfl, j, 8, rfl, B.jar, by decide, by decide, fun r H1 r0 r8 J1 b1 => ⟨rfl, _, rfl, ?_⟩⟩
  have B1 := B.but b1 J1
  refine ite2 (fun _ => ?_) (fun _ => ?_)
  · have fresh : ∀ {G : Hp} {q : Addr}, Ex H1 G → G q = none → q ≠ j := fun {G q} e n z => by
      obtain ⟨d1, m1, c1, e1, _⟩ := J1
      rw [z, e _ _ e1] at n
      cases n
    refine ⟨_, rfl, big (by show 0 ≤ _; decide), fun p1 n1 => ?_⟩
    have y1 : Ex H1 (upd H1 p1 (.tup [])) := Ex.refl.new n1
    have h1 : (upd H1 p1 (.tup [])) p1 = some (.tup []) := upd_same
    have f1 := fresh Ex.refl n1
    generalize upd H1 p1 (.tup []) = G1 at y1 h1 ⊢
    refine ⟨_, rfl, big (by show 1 ≤ _; decide), fun p2 n2 => ?_⟩
    have y2 : Ex G1 (upd G1 p2 (.lst [.str z])) := Ex.refl.new n2
    have h2 : (upd G1 p2 (.lst [.str z])) p2 = some (.lst [.str z]) := upd_same
    have f2 := fresh y1 n2
    generalize upd G1 p2 (.lst [V.str z]) = G2 at y2 h2 ⊢
    refine ⟨_, rfl, big (by show 1 ≤ _; decide), fun p3 n3 => ?_⟩
    have y3 : Ex G2 (upd G2 p3 (.tup [.str z])) := Ex.refl.new n3
    have h3 : (upd G2 p3 (.tup [.str z])) p3 = some (.tup [.str z]) := upd_same
    have f3 := fresh (y1.trans y2) n3
    generalize upd G2 p3 (.tup [V.str z]) = G3 at y3 h3 ⊢
    refine fun p4 n4 => ?_
    have y4 : Ex G3 (upd G3 p4 (.dK [])) := Ex.refl.new n4
    have h4 : (upd G3 p4 (.dK [])) p4 = some (.dK []) := upd_same
    have f4 := fresh (y1.trans (y2.trans y3)) n4
    generalize upd G3 p4 (.dK []) = G4 at y4 h4 ⊢
    refine ⟨_, rfl, _, _, rfl, rfl, by rw [show (Str.ofString "\n").length = 1 by decide +kernel]; omega, _, rfl, _, _, rfl, rfl, by rw [show (Str.ofString " ").length = 1 by decide +kernel]; omega, big (by show 11 ≤ _; decide), fun p5 n5 => ?_⟩
    have y5 := (Ex.refl (H := G4)).new (o := .lst [.non, .int 5, .bl true, .ref p1, .ref p2, .ref p3, .ref p4, .str (Str.ofString ""), .str (Str.ofString "\n"), .str (z ++ Str.ofString "\n"), .str (Str.ofString " " ++ z)]) n5
    have h5 : (upd G4 p5 (.lst [.non, .int 5, .bl true, .ref p1, .ref p2, .ref p3, .ref p4, .str (Str.ofString ""), .str (Str.ofString "\n"), .str (z ++ Str.ofString "\n"), .str (Str.ofString " " ++ z)])) p5 = some (.lst [.non, .int 5, .bl true, .ref p1, .ref p2, .ref p3, .ref p4, .str (Str.ofString ""), .str (Str.ofString "\n"), .str (z ++ Str.ofString "\n"), .str (Str.ofString " " ++ z)]) := upd_same
    have f5 := fresh (y1.trans (y2.trans (y3.trans y4))) n5
    generalize upd G4 p5 (.lst [.non, .int 5, .bl true, .ref p1, .ref p2, .ref p3, .ref p4, .str (Str.ofString ""), .str (Str.ofString "\n"), .str (z ++ Str.ofString "\n"), .str (Str.ofString " " ++ z)]) = G5 at y5 h5 ⊢
    have B5 := B1.ex (y1.trans (y2.trans (y3.trans (y4.trans y5))))
    have c1 : cut [j] G5 p1 = some (.tup []) := cut_of ((y2.trans (y3.trans (y4.trans y5))) _ _ h1) (by simpa using f1)
    have c2 : cut [j] G5 p2 = some (.lst [.str z]) := cut_of ((y3.trans (y4.trans y5)) _ _ h2) (by simpa using f2)
    have c3 : cut [j] G5 p3 = some (.tup [.str z]) := cut_of ((y4.trans y5) _ _ h3) (by simpa using f3)
    have c4 : cut [j] G5 p4 = some (.dK []) := cut_of (y5 _ _ h4) (by simpa using f4)
    refine ⟨j, p5, _, rfl, B5.jar, h5, f5, by show 0 < 11; decide, by show 11 < 100000; decide, fun m v G6 hv J6 b6 => ?_⟩
    have pg : PgAt K C (cut [j] G5) v := by
      have hm := List.mem_of_getElem? hv
      simp only [List.mem_cons, List.not_mem_nil, or_false] at hm
      rcases hm with rfl | rfl | rfl | rfl | rfl | rfl | rfl | rfl | rfl | rfl | rfl
      · exact pg_non N
      · exact pg_int N (by decide +kernel)
      · exact pg_bl N
      · exact pg_tup0 N c1
      · exact pg_lst1 N c2 tz lz
      · exact pg_tup1 N c3 tz lz
      · exact pg_dct N c4
      · exact pg_str N (by decide +kernel) (by decide +kernel)
      · exact pg_str N (by decide +kernel) (by decide +kernel)
      · exact pg_str N (tk_app tz (by decide +kernel)) (by rw [len_app, show (Str.ofString "\n").length = 1 by decide +kernel]; omega)
      · exact pg_str N (tk_app (by decide +kernel) tz) (by rw [len_app, show (Str.ofString " ").length = 1 by decide +kernel]; omega)
    exact rd_nameU (next _ _ ⟨p, x, l, W, ws, n, v, _, _, _, _, _, _, rfl, B5.but b6 J6, pg.exN (But.cut b6 (by simp))⟩)
  · exact rd_nextU (next _ _ ⟨p, x, l, W, ws, n, .str z, _, _, _, _, _, _, rfl, B1, pg_str N tz (by omega)⟩)
end
end LJ
set_option Elab.async false
set_option linter.all false
set_option maxRecDepth 100000
set_option maxHeartbeats 8000000
/-! _law_right of plans bent: what is told. -/
namespace LJ
open PySem PySem.Spec L2 PySem.ErrV
open LamX (ExtN)
open NdefX (NTab TabsN)
open OwnX
theorem shaped2 {a b : Str} (ha : PyData.strOk a = true) (hb : PyData.strOk b = true) : SeqAt.shaped (.list [.str a, .str b]) = true := by
  unfold SeqAt.shaped
  simp [PyData.canLay0, PyData.canLayAll0, PyData.depth, PyData.depthAll, ha, hb]
theorem eqv2 {a b : Str} : PyData.eqv (.list [.str a, .str b]) (.list [.str a, .str b]) = true := by
  simp [PyData.eqv, PyData.eqvAll]
theorem dp2 {K : PySem.W.Frag} {H : Hp} {q : Addr} {a b : Str} (h : H q = some (.lst [.str a, .str b])) : Dp K H (.ref q) (.list [.str a, .str b]) := .lst (SqL.of h) (.cons (.str _) (.cons (.str _) .nil))
def two2 (a b : Str) : PyData := .list [.list [.str a, .str b], .list [.str a, .str b]]
theorem shaped22 {a b : Str} (ha : PyData.strOk a = true) (hb : PyData.strOk b = true) : SeqAt.shaped (two2 a b) = true := by
  unfold SeqAt.shaped two2
  simp [PyData.canLay0, PyData.canLayAll0, PyData.depth, PyData.depthAll, ha, hb]
theorem eqv22 {a b : Str} : PyData.eqv (two2 a b) (two2 a b) = true := by
  unfold two2
  simp [PyData.eqv, PyData.eqvAll]
theorem dp22 {K : PySem.W.Frag} {H : Hp} {q q1 q2 : Addr} {a b : Str} (h : H q = some (.lst [.ref q1, .ref q2])) (h1 : H q1 = some (.lst [.str a, .str b])) (h2 : H q2 = some (.lst [.str a, .str b])) : Dp K H (.ref q) (two2 a b) := .lst (SqL.of h) (.cons (dp2 h1) (.cons (dp2 h2) .nil))
theorem Shown.ok {C : Addr} {H : Hp} {v : V} {z : Str} (h : Shown C H v z) : PyData.strOk z = true := by
  cases h with
  | dat h => exact h.ok
  | works h wk g =>
    refine tk_str (tk_free.mpr ?_)
    show Lw (("[" : Str) ++ (if (0 : Nat) > 0 then ", " else "" : String) ++ _ ++ "]")
    unfold reprW
    exact lw_app (lw_app (lw_app (lw_const (by decide +kernel)) (lw_const (by decide +kernel))) (lw_app (lw_app (lw_app (lw_app (lw_app (lw_const (by decide +kernel)) (lw_const (by decide +kernel))) (lw_num (by omega))) (lw_const (by decide +kernel))) (lw_num (by omega))) (lw_const (by decide +kernel)))) (lw_const (by decide +kernel))
theorem rd_lstU {t : TA} {σ : L2.St} {H : Hp} {Q : VK} (h : t σ H fun xs H1 => xs.length ≤ sizeLine ∧ ∀ p, H1 p = none → Q (.ref p) (upd H1 p (.lst xs))) : tLst t σ H Q := h
/-- _law_read(this, _law_page, so) -/
def tReadR (K : PySem.W.Frag) (C : Addr) (i : Nat) (tb : TE) : TE := fun σ H Q => tCons (tVar i) (tCons (tVar 5) (tCons tb tNil)) σ H fun vs H1 => spRead K C vs H1 Q E0
theorem rd_cU {v : V} {σ : L2.St} {H : Hp} {Q : VK} (h : Q v H) : tC v σ H Q := h
theorem rd_repr {C : Addr} {sp : Sp} {v : V} {i : Nat} {σ : L2.St} {H : Hp} {Q : VK} (hv : σ[i]? = some (some v)) (h : rReprA C sp [v] H Q) : tCB (rReprA C sp) (tCons (tVar i) tNil) σ H Q := ⟨_, hv, h⟩
theorem rd_read {K : PySem.W.Frag} {C : Addr} {wv tv : V} {b : Bool} {i : Nat} {tb : TE} {σ : L2.St} {G : Hp} {Q : VK} (h2 : σ[i]? = some (some wv)) (h4 : σ[5]? = some (some tv)) (hb : ∀ Q' : VK, Q' (.bl b) G → tb σ G Q') (h : spRead K C [wv, tv, .bl b] G Q E0) : tReadR K C i tb σ G Q := ⟨_, h2, _, h4, hb _ h⟩
/-- what is due for a page -/
def DueOf (W : Wd) (v : V) (d : PyData) (a b : Str) : Prop := (foundOf W v = none → a = wText ∧ b = d.shown) ∧ ∀ ds, foundOf W v = some ds → a = wRead ∧ b = (dDs ds).shown
theorem found_ok {W : Wd} {v : V} {ds : List Deed} (h : foundOf W v = some ds) : DsOk W ds := by
  unfold foundOf at h
  split at h
  · exact plan_ok h
  · cases h
theorem rd_due {K : PySem.W.Frag} {W : Wd} {v fv : V} {d : PyData} {σ : L2.St} {G : Hp} {Q : VK} (h5 : σ[5]? = some (some v)) (h7 : σ[7]? = some (some fv)) (fa : FoundAt G fv (foundOf W v)) (dt : Dat G d v) (g : GoodF W)
    (q : ∀ (a b : Str) (q1 : Addr) (G1 : Hp), Ex G G1 → DueOf W v d a b → PyData.strOk a = true → PyData.strOk b = true → G1 q1 = some (.lst [.str a, .str b]) → Q (.ref q1) G1) :
    tIf (tTest (tOp (fun x y H Q => y = V.non ∧ Q (V.bl (decide (x = V.non))) H) (tVar 7) (tC V.non))) (tLst (tCons (tC (V.str (Str.ofString "text"))) (tCons (tCB rRepr (tCons (tVar 5) tNil)) tNil)))
      (tLst (tCons (tC (V.str (Str.ofString "read"))) (tCons (tCB rRepr (tCons (tThen (tVar 7) (kTup K)) tNil)) tNil))) σ G Q := by
  have two : 2 ≤ sizeLine := by
    rw [sizeLine_eq]
    decide
  refine ⟨_, h7, rfl, _, rfl, ?_⟩
  cases e : foundOf W v with
  | none =>
    rw [e] at fa
    obtain rfl : fv = .non := fa
    refine ite2 (fun _ => ?_) (fun z => absurd (decide_eq_true rfl) z)
    exact ⟨_, h5, v, d, rfl, dt.at_, dt.sh, dt.dp, dt.sz, two, fun q1 n1 => q _ _ _ _ (Ex.refl.new n1) ⟨fun _ => ⟨rfl, rfl⟩, fun ds eds => by rw [e] at eds; cases eds⟩ (by decide +kernel) dt.ok upd_same⟩
  | some ds =>
    rw [e] at fa
    obtain ⟨l, rfl, vals, hl, pr⟩ := fa
    refine ite2 (fun z => absurd (of_decide_eq_true z) (fun z => nomatch z)) (fun _ => ?_)
    refine ⟨_, h7, .inl ⟨l, _, rfl, SqL.of hl, fun t nt => ?_⟩⟩
    have x1 : Ex G (upd G t (.tup vals)) := Ex.refl.new nt
    have e1 : (upd G t (.tup vals)) t = some (.tup vals) := upd_same
    generalize upd G t (.tup vals) = G1 at x1 e1 ⊢
    have da := dat_Ds g (found_ok e) e1 (L2.Paired.mapP pr fun _ _ z => z.tup (Ex.tup x1))
    exact ⟨.ref t, dDs ds, rfl, da.at_, da.sh, da.dp, da.sz, two, fun q1 n1 => q _ _ _ _ (x1.new n1) ⟨fun en => (by rw [e] at en; cases en), fun ds2 eds => by rw [e] at eds; cases eds; exact ⟨rfl, rfl⟩⟩ (by decide +kernel) da.ok upd_same⟩
section
variable {P : Program} {w : World} {K : PySem.W.Frag} {mg : Str → Option Value} {base : Heap} {C : Addr} {T : List NTab} {f j : Addr} {cdv : Value} {A : Around} {outer : List Env} {s : Shared} {H0 H00 : Hp}
theorem isW_x (I : WIns K C) (c : Cls K C) {H : Hp} {x : Addr} {W : Wd} (h : WkD C H x W) : IsW K C H (.ref x) true := by
  obtain ⟨am, ac, as, ap, ⟨dx, D1, D2, D3, D4, b1, b2, v4, hx, _⟩, _⟩ := h
  exact ⟨.ref C, fun H1 e => .base (.ins (e _ _ hx fun _ z => nomatch z) c I.c1 I.c2 I.c3 I.c4), I.kt⟩
theorem do37 (R : Rt P w K mg base C T) (hr : Room 11 (XR P w K mg base f cdv A outer s H00).A) (hgd : (XR P w K mg base f cdv A outer s H00).A.guards = some []) : PSs (XR P w K mg base f cdv A outer s H00) [rb 3, rb 4, rb 5, rb 6, rb 7] (tHo (PvP K T C H0 j) (TP T C H0 j)) := by
  obtain ⟨fO, fdO, GO, mO, kO, bO⟩ := R.one
  obtain ⟨fF, fdF, GF, mF, kF, bF⟩ := R.found
  obtain ⟨fM, fdM, GM, mM, kM, bM⟩ := R.read
  obtain ⟨fR, fdR, GR, cR, bRp⟩ := R.repr
  obtain ⟨fT, fdT, GT, cT, bTx⟩ := R.text
  have hr10 : Room 10 (XR P w K mg base f cdv A outer s H00).A := hr.mono (by decide)
  have hr2 : Room 2 (XR P w K mg base f cdv A outer s H00).A := hr.mono (by decide)
  have hu : (XR P w K mg base f cdv A outer s H00).A.units + 150 < cLine := by
    have := hr.un
    omega
  have hu64 : (XR P w K mg base f cdv A outer s H00).A.units + 64 < cLine := by omega
  refine PSs.weak (pss_cons (ps_set (i := 7) scRi.nd rfl (Or.inl rfl) (pe_call GF hr2 (by rfl) mF kF bF .nil pass0 (pa_cons (pv 1) (pa_cons (pv 5) pa_nil))))
    (pss_cons (ps_set (i := 8) scRi.nd rfl (Or.inl rfl) (pe_ifExp (pt_cmpR op_isN (pv 7) pe_non (nomark _)) (pe_lst (pa_cons pe_str (pa_cons (pe_callB (call_repr_data hgd hu) (by rfl) R.blt.repr (by decide +kernel) (pa_cons (pv 5) pa_nil)) pa_nil)))
      (pe_lst (pa_cons pe_str (pa_cons (pe_callB (call_repr_data hgd hu) (by rfl) R.blt.repr (by decide +kernel) (pa_cons (pe_tupleOf (by rfl) R.blt.tuple (pv 7)) pa_nil)) pa_nil)))))
    (pss_cons (ps_if (pt_cmpR (op_neD hu64) (pe_lst (pa_cons (show PE _ _ (tReadR K C 2 (tC (.bl false))) from pe_callNG GM hgd hr10 (by rfl) mM kM bM (pa_cons (pv 2) (pa_cons (pv 5) (pa_cons pe_bl pa_nil)))) (pa_cons (show PE _ _ (tReadR K C 2 (tC (.bl true))) from pe_callNG GM hgd hr10 (by rfl) mM kM bM (pa_cons (pv 2) (pa_cons (pv 5) (pa_cons pe_bl pa_nil)))) pa_nil))) (pe_lst (pa_cons (pv 8) (pa_cons (pv 8) pa_nil))) (nomark _)) (pss_one (ps_ret pe_bl)) pss_nil)
    (pss_cons (ps_set (i := 9) scRi.nd rfl (Or.inl rfl) (pe_call GO hr2 (by rfl) mO kO bO .nil pass0 (pa_cons (pv 0) (pa_cons (pe_lst (pa_cons pe_non (pa_cons (pe_callTy (call_strO cT GT hr2 bTx pass0) (by rfl) R.blt.str (by decide +kernel) (pa_cons (pv 2) pa_nil)) (pa_cons pe_int (pa_cons (pe_lst (pa_cons (pv 2) pa_nil)) (pa_cons pe_dnewK (pa_cons (pv 5) pa_nil))))))) pa_nil))))
    (pss_one (ps_if (pt_cmpR (op_neD hu64) (show PE _ _ (tReadR K C 9 (tOp (rI0 fun i j => .bl (decide (j < i))) (tVar 4) (tC (.int 5)))) from pe_callNG GM hgd hr10 (by rfl) mM kM bM (pa_cons (pv 9) (pa_cons (pv 5) (pa_cons (pe_cmpR op_gt (pv 4) pe_int (nomark _)) pa_nil)))) (pe_lst (pa_cons pe_str (pa_cons (pe_callB (call_reprA hgd hu cR (runs_calm GR hr2 bRp pass0)) (by rfl) R.blt.repr (by decide +kernel) (pa_cons (pv 9) pa_nil)) pa_nil))) (nomark _)) (pss_one (ps_ret pe_bl)) pss_nil)))))) ?_
  rintro D σ H ⟨⟨p, x, l, W, ws, n, v, v6, v7, v8, v9, v10, v11, rfl, B, pg⟩, next⟩
  have g := B.good.F
  have big : ∀ {n : Nat}, n ≤ 1000 → n ≤ sizeLine := fun h => by rw [sizeLine_eq]; omega
  have pg0 := pg
  obtain ⟨d, kv, dt, sv, nw⟩ := pg.exN (cut_up (js := [j]) (H := H))
  refine rd_seqU (rd_asgU ?_)
  refine ⟨_, rfl, _, rfl, p, W, v, rfl, B.world, g, kv, (fun z e => ⟨(sv z e).1, tk_str (sv z e).2⟩), fun fv H1 x1 fa => ?_⟩
  refine rd_nameU ?_
  try dsimp only
  refine rd_seqU (rd_asgU (rd_due (W := W) (v := v) rfl rfl fa (dt.exN x1.n) g fun a b q1 H2 x2 due oka okb h1 => ?_))
  refine rd_nameU ?_
  try dsimp only
  have ask : ∀ (G : Hp) (c : Bool) (Q : VK), Ex H G → (∀ q G1, Ex G G1 → G1 q = some (.lst [.str a, .str b]) → Q (.ref q) G1) → spRead K C [.ref x, v, .bl c] G Q E0 := fun G c Q e q =>
    ⟨.ref x, v, c, true, d, rfl, isW_x R.ins R.cls.cl (B.wk.ex e), kv.exN e.n, dt.exN e.n, fun z ez => (sv z ez).1, fun _ => ⟨x, W, rfl, B.wk.ex e, g, fun en q1 G1 x1 h1 => q q1 G1 x1 (by rw [(due.1 en).1, (due.1 en).2]; exact h1), fun ds eds q1 G1 x1 h1 => q q1 G1 x1 (by rw [(due.2 ds eds).1, (due.2 ds eds).2]; exact h1)⟩, fun z => nomatch z⟩
  have x02 := x1.trans x2
  refine rd_seqU (rd_ifU ?_)
  refine rd_testU (rd_opU (rd_lstU (rd_consU (rd_read rfl rfl (fun _ q => q) (ask H2 false _ x02 fun q2 G1 y1 h2 => ?_)))))
  refine rd_consU (rd_read rfl rfl (fun _ q => q) (ask G1 true _ (x02.trans y1) fun q3 G2 y2 h3 => ?_))
  refine ⟨big (by show 2 ≤ _; decide), fun q4 n4 => ?_⟩
  have y3 : Ex G2 (upd G2 q4 (.lst [.ref q2, .ref q3])) := Ex.refl.new n4
  have h4 : (upd G2 q4 (.lst [.ref q2, .ref q3])) q4 = some (.lst [.ref q2, .ref q3]) := upd_same
  show tCons _ _ _ (upd G2 q4 (.lst [.ref q2, .ref q3])) _
  generalize upd G2 q4 (.lst [V.ref q2, V.ref q3]) = G3 at y3 h4 ⊢
  refine ⟨_, rfl, _, rfl, big (by show 2 ≤ _; decide), fun q5 n5 => ?_⟩
  have y4 : Ex G3 (upd G3 q5 (.lst [.ref q1, .ref q1])) := Ex.refl.new n5
  have h5 : (upd G3 q5 (.lst [.ref q1, .ref q1])) q5 = some (.lst [.ref q1, .ref q1]) := upd_same
  generalize upd G3 q5 (.lst [V.ref q1, V.ref q1]) = G4 at y4 h5 ⊢
  have h1' := (y1.trans (y2.trans (y3.trans y4))) _ _ h1
  refine ⟨_, _, dp22 (y4 _ _ h4) ((y2.trans (y3.trans y4)) _ _ h2) ((y3.trans y4) _ _ h3), dp22 h5 h1' h1', shaped22 oka okb, shaped22 oka okb, _, rfl, ?_⟩
  rw [eqv22]
  refine ite2 (fun z => by cases z) (fun _ => ?_)
  refine rd_nextU ?_
  try dsimp only
  have xG4 : Ex H G4 := x02.trans (y1.trans (y2.trans (y3.trans y4)))
  have B2 := B.ex xG4
  have pg2 : PgAt K C (cut [j] G4) v := pg0.exN (Ex.cut xG4)
  clear ask due h1 h2 h3 h4 h5 h1' y1 y2 y3 y4 x1 x2 x02 n4 n5 fa kv dt sv nw pg pg0 B xG4
  refine rd_seqU (rd_asgU ?_)
  have fresh : ∀ {G : Hp} {q : Addr}, Ex G4 G → G q = none → q ≠ j := fun {G q} e n z => by
    obtain ⟨d1, m1, c1, e1, _⟩ := B2.jar
    rw [z, e _ _ e1] at n
    cases n
  obtain ⟨am, ac, as, ap, ⟨dx, D1, D2, D3, D4, bb1, bb2, vv4, hx, _⟩, _⟩ := id B2.wk
  refine ⟨_, rfl, _, rfl, x, dx, _, rfl, hx, x, wtext W, rfl, ⟨dx, _, hx, rfl⟩, wtext W, rfl, _, rfl, big (by show 1 ≤ _; decide), fun p2 n2 => ?_⟩
  have y2 : Ex G4 (upd G4 p2 (.lst [.ref x])) := Ex.refl.new n2
  have h2 : (upd G4 p2 (.lst [.ref x])) p2 = some (.lst [.ref x]) := upd_same
  have e2 := fresh Ex.refl n2
  generalize upd G4 p2 (.lst [V.ref x]) = G5 at y2 h2 ⊢
  refine fun p3 n3 => ?_
  have y3 : Ex G5 (upd G5 p3 (.dK [])) := Ex.refl.new n3
  have h3 : (upd G5 p3 (.dK [])) p3 = some (.dK []) := upd_same
  have e3 := fresh y2 n3
  generalize upd G5 p3 (.dK []) = G6 at y3 h3 ⊢
  refine ⟨_, rfl, big (by show 6 ≤ _; decide), fun p4 n4 => ?_⟩
  have y4 : Ex G6 (upd G6 p4 (.lst [.non, .str (wtext W), .int 3, .ref p2, .ref p3, v])) := Ex.refl.new n4
  have h4 : (upd G6 p4 (.lst [.non, .str (wtext W), .int 3, .ref p2, .ref p3, v])) p4 = some (.lst [.non, .str (wtext W), .int 3, .ref p2, .ref p3, v]) := upd_same
  have e4 := fresh (y2.trans y3) n4
  generalize upd G6 p4 (.lst [V.non, V.str (wtext W), V.int 3, V.ref p2, V.ref p3, v]) = G7 at y4 h4 ⊢
  have y47 := y2.trans (y3.trans y4)
  have B7 := B2.ex y47
  have pg7 : PgAt K C (cut [j] G7) v := pg2.exN (Ex.cut y47)
  refine ⟨j, p4, _, rfl, B7.jar, h4, e4, by show 0 < 6; decide, by show 6 < 100000; decide, fun m ov G8 hv J8 b8 => ?_⟩
  have B8 := B7.but b8 J8
  have pg8 : PgAt K C G8 v := (pg7.exN (But.cut b8 (by simp))).exN cut_up
  have k2 := b8 _ _ e2 ((y3.trans y4) _ _ h2)
  have k3 := b8 _ _ e3 (y4 _ _ h3)
  have N := R.noc
  have shw : ∀ {u : V}, PgAt K C G8 u → IsW K C G8 u false ∧ ∃ zz, Shown C G8 u zz := fun ⟨_, _, h2, _, h4⟩ => ⟨h4, _, .dat h2⟩
  obtain ⟨iW, zz, sh⟩ : IsW K C G8 ov false ∧ ∃ zz, Shown C G8 ov zz := by
    have hm := List.mem_of_getElem? hv
    simp only [List.mem_cons, List.not_mem_nil, or_false] at hm
    rcases hm with rfl | rfl | rfl | rfl | rfl | rfl
    · exact shw (pg_non N)
    · exact shw (pg_str N (tk_wtext B8.good.F) (by have := text_len B8.good; omega))
    · exact shw (pg_int N (by decide +kernel))
    · exact ⟨⟨_, fun _ e => .base (.lst (e _ _ k2 fun _ z => nomatch z)), N.lst⟩, _, .works k2 B8.wk g⟩
    · exact shw (pg_dct N k3)
    · exact shw pg8
  obtain ⟨d8, kv8, dt8, sv8, nw8⟩ := pg8
  refine rd_nameU ?_
  try dsimp only
  have okz := sh.ok
  have okw : PyData.strOk wWorks = true := by decide +kernel
  refine rd_ifU (rd_testU (rd_opU (rd_read (b := decide (5 < n)) rfl rfl (fun _ q => ⟨_, rfl, _, _, rfl, rfl, q⟩) ⟨ov, v, _, false, d8, rfl, iW, kv8, dt8, (fun z ez => (sv8 z ez).1), (fun z => by cases z), fun _ => ⟨zz, sh, fun q8 G9 x8 h8 => ?_⟩⟩)))
  refine rd_lstU (rd_consU ?_)
  refine rd_cU (rd_consU ?_)
  refine rd_repr rfl ?_
  refine (sh.ex x8).repr fun G10 x9 => ?_
  refine ⟨big (by show 2 ≤ _; decide), fun q9 n9 => ?_⟩
  have y9 : Ex G10 (upd G10 q9 (.lst [.str wWorks, .str zz])) := Ex.refl.new n9
  have h9 : (upd G10 q9 (.lst [.str wWorks, .str zz])) q9 = some (.lst [.str wWorks, .str zz]) := upd_same
  generalize upd G10 q9 (.lst [V.str wWorks, V.str zz]) = G11 at y9 h9 ⊢
  refine ⟨_, _, dp2 ((x9.trans y9) _ _ h8), dp2 h9, shaped2 okw okz, shaped2 okw okz, _, rfl, ?_⟩
  rw [eqv2]
  refine ite2 (fun z => by cases z) (fun _ => ?_)
  exact rd_nextU (next _ _ ⟨p, x, l, W, ws, _, _, _, _, _, _, _, _, rfl, B8.ex (x8.trans (x9.trans y9))⟩)
end
end LJ
set_option Elab.async false
set_option linter.all false
set_option maxRecDepth 100000
set_option maxHeartbeats 8000000
/-! _law_right of plans bent: the words, and the whole def. -/
namespace LJ
open PySem PySem.Spec L2 PySem.ErrV
open LamX (ExtN)
open NdefX (NTab TabsN)
open OwnX
theorem nss_w {W : Wd} (g : GoodF W) {ns : List Str} (h : ns ∈ nss W) {n : Str} (hn : n ∈ ns) : isW n = true := by
  refine g.nm n ?_
  unfold nss at h
  simp only [List.mem_cons, List.not_mem_nil, or_false] at h
  rcases h with rfl | rfl | rfl | rfl
  · exact List.mem_append_left _ hn
  · exact List.mem_append_right _ (List.mem_append_left _ hn)
  · exact List.mem_append_right _ (List.mem_append_right _ (List.mem_append_left _ hn))
  · exact List.mem_append_right _ (List.mem_append_right _ (List.mem_append_right _ hn))
def w4 : List Str := [Str.ofString "run", Str.ofString "clean", Str.ofString "", Str.ofString "nobody"]
theorem w4_ok : WdsOk w4 := ⟨by decide, by decide, by decide +kernel⟩
def spRight (T : List NTab) : Sp := fun vs H Q _ => ∃ j : Addr, vs = [.ref j] ∧ JarAt H j ∧ TabsN T H ∧ ∀ H1, Kp j H H1 → TabsN T H1 → Q (.bl true) H1
section
variable {P : Program} {w : World} {K : PySem.W.Frag} {mg : Str → Option Value} {base : Heap} {C : Addr} {T : List NTab} {f j : Addr} {cdv : Value} {A : Around} {outer : List Env} {s : Shared} {H0 H00 : Hp}
def teRow (K : PySem.W.Frag) : TE := tOp (rIxT K) (tVar 11) (tC (.int 0))
theorem doW (R : Rt P w K mg base C T) (hr : Room 11 (XR P w K mg base f cdv A outer s H00).A) : Does (XR P w K mg base f cdv A outer s H00) (rs 3) (fun σ G => ∃ (p x l : Addr) (W : Wd) (v4 v5 v6 v7 v8 v9 v10 v11 : Option V), σ = St12 j p x l v4 v5 v6 v7 v8 v9 v10 v11 ∧ Bs T C H0 j p x l W w4 G) (TP T C H0 j) := by
  refine does (ps_for PassesOwn.never rfl (pi_list (pv 1)) (pg_name (i := 10) scRi.nd rfl (Or.inl rfl))
    (pss_one (ps_set (i := 3) scRi.nd rfl (Or.inl rfl) (pe_op op_cat (pv 3) (pe_lc (own := [("_law_row", 11)]) (g := gName 11) (te := teRow K) (by rfl) scRi.nd (pi_list (pv 10)) (blkOk_by (own := [("_law_row", 11)]) (N := nRi) (sc := defScope sRi) (by decide +kernel)) (fun _ _ _ _ _ => pg_name (i := 11) scRi.nd rfl (Or.inl rfl)) (fun _ _ _ _ _ => pts_nil) (fun _ _ _ _ _ => pe_ix (show IxR _ (rIxT K) from ix_tup) (pv 11) pe_int (fun _ _ => rfl))))))) ?_
  rintro D σ H ⟨p, x, l, W, v4, v5, v6, v7, v8, v9, v10, v11, rfl, B⟩ next
  have g := B.good.F
  have sz := sizeLine_eq
  obtain ⟨ys, hw, pt⟩ := parts_of g B.world
  have n4 : ys.length = 4 := Paired.len pt
  refine ⟨_, rfl, p, rfl, ⟨_, SqL.of hw⟩, for_list (K := K) (a := p) (xs := ys) (fun i σ G => ∃ (l : Addr) (ws : List Str) (v10 v11 : Option V), σ = St12 j p x l v4 v5 v6 v7 v8 v9 v10 v11 ∧ Bs T C H0 j p x l W ws G ∧ ws.length ≤ 4 + 10 * i ∧ Ex H G) ⟨l, w4, v10, v11, rfl, B, by decide, Ex.refl⟩ (fun i σ G _ ⟨_, _, _, _, _, _, _, e⟩ => SqL.of (e _ _ hw)) ?_ ?_⟩
  · rintro i y σ G hy ⟨l, ws, v10, v11, rfl, B, lw, e⟩
    obtain ⟨ns, hn, a, vs, rfl, ha, pn, lv⟩ := Paired.spot pt hy
    have il : i < ys.length := (List.getElem?_eq_some_iff.mp hy).1
    have hA := e _ _ ha
    have pn1 : Paired (NRow G) vs ns := L2.Paired.mapP pn fun _ _ z => z.tup (Ex.tup e)
    have lnv : vs.length = ns.length := Paired.len pn
    refine rd_nameU ?_
    try dsimp only
    refine rd_asgU ?_
    refine ⟨_, rfl, _, rfl, a, rfl, ⟨_, SqL.of hA⟩, fun D2 nD2 => lc_list (K := K) (a := a) (xs := vs) (fun n H2 => Ex G H2 ∧ H2 D2 = some (.lst ((ns.take n).map V.str))) ⟨Ex.refl.new nD2, upd_same⟩ (fun n H2 _ ⟨e, _⟩ => SqL.of (e _ _ hA)) ?_ ?_⟩
    · rintro n v2 H2 hv ⟨e2, h2⟩
      obtain ⟨nm, hnm, aR, r, rfl, hR⟩ := Paired.spot pn1 hv
      have nlt : n < vs.length := (List.getElem?_eq_some_iff.mp hv).1
      refine ⟨rfl, ?_⟩
      refine ⟨_, rfl, aR, _, 0, .str nm, rfl, rfl, SqT.of (e2 _ _ hR), atI_nat (j := 0) rfl, _, h2, by rw [List.length_map, List.length_take]; omega, e2.put nD2, ?_⟩
      rw [List.take_succ, hnm, List.map_append]
      exact upd_same
    · rintro H2 ⟨e2, h2⟩
      rw [List.take_of_length_le (by omega)] at h2
      have hl2 := e2 _ _ B.wds
      refine ⟨l, D2, _, _, rfl, rfl, hl2, h2, by rw [List.length_map, List.length_map]; omega, fun p3 n3 => ?_⟩
      have x3 : Ex H2 (upd H2 p3 (.lst (ws.map V.str ++ ns.map V.str))) := Ex.refl.new n3
      have e3 : (upd H2 p3 (.lst (ws.map V.str ++ ns.map V.str))) p3 = some (.lst ((ws ++ ns).map V.str)) := by
        rw [upd_same, List.map_append]
      generalize upd H2 p3 (.lst (ws.map V.str ++ ns.map V.str)) = G3 at x3 e3 ⊢
      have B3 := B.ex (e2.trans x3)
      refine rd_nameU ⟨p3, ws ++ ns, _, _, rfl, ⟨B3.kp, B3.jar, B3.tabs, B3.world, B3.wk, B3.good, e3, ⟨fun z => B3.wok.ne (List.append_eq_nil_iff.mp z).1, by rw [List.length_append]; omega, fun u hu => ?_⟩⟩, by rw [List.length_append]; omega, e.trans (e2.trans x3)⟩
      rcases List.mem_append.mp hu with h | h
      · exact B3.wok.w u h
      · have iw := nss_w g (List.mem_of_getElem? hn) h
        exact ⟨isW_8 iw, tk_name iw⟩
  · rintro σ G ⟨l, ws, v10, v11, rfl, B, lw, e⟩
    exact next _ _ ⟨p, x, l, W, ws, _, _, _, _, _, _, _, _, rfl, B⟩
theorem ok_ri {fd : FuncData} (F : Fun K "_law_right" "_law_right" sRi f fd) (R : Rt P w K mg base C T) : FnG P w K mg base 12 f fd ["_law_jar_here"] (spRight T) := by
  refine F.okG scRi (fun vs H Q E h => ?_) (fun cdv A outer s H vs Q hgA hr h => ?_)
  · obtain ⟨j, rfl, _⟩ := h
    rfl
  · obtain ⟨j, rfl, J, t, q⟩ := h
    have hgd : (XR P w K mg base f cdv A outer s H).A.guards = some [] := hgA
    obtain ⟨fW, fdW, GW, mW, kW, bW⟩ := R.world
    obtain ⟨fB, fdB, GB, mB, kB, bB⟩ := R.built
    have hr4 : Room 4 (XR P w K mg base f cdv A outer s H).A := hr.mono (by decide)
    have hr9 : Room 9 (XR P w K mg base f cdv A outer s H).A := hr.mono (by decide)
    have turn : PSs (XR P w K mg base f cdv A outer s H) (forBody (rs 4)) (tHo (TI T C H j) (TP T C H j)) := PSs.weak (pss_cons (do0 (H0 := H) (j := j) R hr) (pss_cons (do1 (H0 := H) (j := j) R hr) (pss_cons (do2 (H0 := H) (j := j) R hr) (do37 (H0 := H) (j := j) R hr hgd)))) fun D σ G z => ⟨z.1, fun σ1 G1 l1 => ⟨l1, fun σ2 G2 l2 => ⟨l2, fun σ3 G3 l3 => ⟨l3, z.2⟩⟩⟩⟩
    refine ⟨_, pss_cons (ps_set (i := 1) scRi.nd rfl (Or.inl rfl) (pe_call GW hr4 (by rfl) mW kW bW .nil pass0 (pa_cons (pv 0) (pa_cons pe_int pa_nil))))
      (pss_cons (ps_set (i := 2) scRi.nd rfl (Or.inl rfl) (pe_call GB hr9 (by rfl) mB kB bB .nil pass0 (pa_cons (pv 1) pa_nil)))
      (pss_cons (ps_set (i := 3) scRi.nd rfl (Or.inl rfl) (pe_lst (pa_cons pe_str (pa_cons pe_str (pa_cons pe_str (pa_cons pe_str pa_nil))))))
      (pss_cons (doW (H0 := H) (j := j) R hr)
      (pss_cons (ps_for PassesOwn.never rfl (pi_range1 (by rfl) R.blt.range (pa_cons pe_int pa_nil)) (pg_name (i := 4) scRi.nd rfl (Or.inl rfl)) turn)
      (pss_one (ps_ret pe_bl)))))), ?_⟩
    refine ⟨_, rfl, j, 4, rfl, J, by decide, by decide, fun p W H1 wa g J1 b1 np npj => ?_⟩
    have t1 : TabsN T H1 := tabs_but J b1 t
    refine rd_nameU ?_
    try dsimp only
    refine rd_seqU ?_
    refine ⟨_, rfl, p, W, rfl, wa, g, t1, fun x am ac as ap H2 xn2 nx t2 wk2 dt2 => ?_⟩
    refine rd_nameU ?_
    try dsimp only
    refine rd_seqU (rd_asgU ?_)
    refine ⟨by rw [sizeLine_eq]; show 4 ≤ 16777216; decide, fun l nl2 => ?_⟩
    have x3 : Ex H2 (upd H2 l (.lst (w4.map V.str))) := Ex.refl.new nl2
    have e3 : (upd H2 l (.lst (w4.map V.str))) l = some (.lst (w4.map V.str)) := upd_same
    show gName 3 _ _ (upd H2 l (.lst (w4.map V.str))) _
    generalize upd H2 l (.lst (w4.map V.str)) = H3 at x3 e3 ⊢
    have xn3 := xn2.trans x3.n
    refine rd_nameU ?_
    try dsimp only
    refine rd_seqU ⟨⟨p, x, l, W, _, _, _, _, _, _, _, _, rfl, ⟨(Kp.of_but b1).trans (Kp.of_ext xn3), J1.exN xn3, TabsN.exs t2 x3, wa.exN2 xn3, WkD.ex x3 ⟨am, ac, as, ap, wk2, dt2⟩, g, e3, w4_ok⟩⟩, fun σ4 H4 h4 => ?_⟩
    obtain ⟨p, x, l, W, ws, v4, v5, v6, v7, v8, v9, v10, v11, rfl, B⟩ := h4
    refine rd_seqU ?_
    refine ⟨10, rfl, by decide, by decide, ?_⟩
    refine for_range (lo := 0) (n := 10) (fun i σ G => TP T C H j σ G) ?_ ?_ ?_
    · exact ⟨p, x, l, W, ws, _, _, _, _, _, _, _, _, rfl, B⟩
    · rintro i σ G hi ⟨p, x, l, W, ws, v4, v5, v6, v7, v8, v9, v10, v11, rfl, B⟩
      exact rd_nameU ⟨⟨p, x, l, W, ws, _, _, _, _, _, _, _, _, rfl, B⟩, fun σ1 G1 l1 => l1⟩
    · rintro σ G ⟨p, x, l, W, ws, v4, v5, v6, v7, v8, v9, v10, v11, rfl, B⟩
      exact q G B.kp B.tabs
end
end LJ
set_option Elab.async false
set_option linter.all false
set_option maxRecDepth 100000
set_option maxHeartbeats 8000000
namespace LJ
open PySem PySem.Spec L2 PySem.ErrV PyProof.Rows
open LamX (ExtN TabB CodeO)
open NdefX (NTab TabsN)
theorem small_line {n : Nat} (h : n ≤ 10000) : n ≤ sizeLine := by
  rw [sizeLine_eq]
  omega
abbrev sLaw : Stmt := top 71
abbrev nLaw : List Str := ["_law_cells", "_law_turn"]
theorem scLaw : FnScope nLaw ["_law_cells"] (defScope sLaw) := ⟨rfl, rfl, rfl, by decide +kernel, rfl, by decide +kernel, by decide +kernel⟩
theorem lstN {G G1 : Hp} (e : ExtN G G1) {a : Addr} {xs : List V} (h : G a = some (.lst xs)) : G1 a = some (.lst xs) := e _ _ h fun _ z => nomatch z
structure BltM (mg : Str → Option Value) : Prop where
  all : mg "all" = none
  range : mg "range" = none
  max : mg "max" = none
  min : mg "min" = none
  len : mg "len" = none
def spLaw (T : List NTab) (K : PySem.W.Frag) : Sp := fun vs H Q _ => ∃ (a : Addr) (ns : List Int), vs = [.ref a] ∧ SqL K H a (ns.map V.int) ∧ ns.length ≤ 63 ∧ TabsN T H ∧ ∀ H1, Q (.bl true) H1
theorem sqN {K : PySem.W.Frag} {H H1 : Hp} {a : Addr} {xs : List V} (e : ExtN H H1) (h : SqL K H a xs) : SqL K H1 a xs := by
  rcases h with (h | ⟨o, h⟩) | h
  · exact .inl (.inl (e _ _ h fun _ z => nomatch z))
  · exact .inl (.inr ⟨o, e _ _ h fun _ z => nomatch z⟩)
  · exact .inr h
/-- the reading of _law_right(_law_jar(_law_cells, _law_turn)) -/
def tR (K : PySem.W.Frag) (T : List NTab) : TE := fun σ H Q => tCons (tCall (spJar K) [] E0 (tCons (tVar 0) (tCons (tVar 1) tNil))) tNil σ H fun vs H1 => spRight T vs H1 Q E0
section
variable {P : Program} {w : World} {K : PySem.W.Frag} {mg : Str → Option Value} {base : Heap} {T : List NTab}
theorem ok_law {f fR fJ : Addr} {fd fdR fdJ : FuncData} (F : Fun K "law" "law" sLaw f fd) (B : BltM mg)
    (GR : FnG P w K mg base 12 fR fdR ["_law_jar_here"] (spRight T)) (mR : mg "_law_right" = some (.ref fR)) (kR : PySem.W.keepIn K (.ref fR) = true) (bR : Binds K fdR ["_law_jar_here"] [])
    (GJ : FnOk P w K mg base CX0 1 fJ fdJ ["_law_cells", "_law_turn"] (spJar K)) (mJ : mg "_law_jar" = some (.ref fJ)) (kJ : PySem.W.keepIn K (.ref fJ) = true) (bJ : Binds K fdJ ["_law_cells", "_law_turn"] []) :
    FnG P w K mg base 13 f fd ["_law_cells"] (spLaw T K) := by
  refine F.okG scLaw (fun vs H Q E h => ?_) (fun cdv A outer s H vs Q hgA hr h => ?_)
  · obtain ⟨a, ns, rfl, _⟩ := h
    rfl
  · obtain ⟨a, ns, rfl, hS, hn, tabs, k⟩ := h
    have hgd : (A.deeper (PyProof.Rows.envOfC "law" (defScope sLaw) s.heap.objs.size f cdv)).guards = some [] := hgA
    have hr1 : Room 1 _ := hr.mono (by decide)
    refine ⟨_, pss_one (ps_ret (pe_callB (cr_all rfl) (by rfl) B.all (by decide +kernel) (pa_cons (pe_lc (own := [("_law_turn", 1)]) (g := gName 1) (te := tR K T) (by rfl) scLaw.nd (pi_range1 (by rfl) B.range (pa_cons (pe_callB (call_max2 rfl) (by rfl) B.max (by decide +kernel) (pa_cons pe_int (pa_cons (pe_callB (call_min2 rfl) (by rfl) B.min (by decide +kernel) (pa_cons (pe_callB call_len_seq (by rfl) B.len PySem.boot_len (pa_cons (pv 0) pa_nil)) (pa_cons pe_int pa_nil))) pa_nil))) pa_nil)) (blkOk_by (own := [("_law_turn", 1)]) (N := nLaw) (sc := defScope sLaw) (by decide +kernel)) (fun _ _ _ _ _ => pg_name (i := 1) scLaw.nd rfl (Or.inl rfl)) (fun _ _ _ _ _ => pts_nil) (fun _ _ _ _ _ => pe_callNG GR hgd hr (by rfl) mR kR bR (pa_cons (pe_call GJ hr1 (by rfl) mJ kJ bJ .nil pass0 (pa_cons (pv 0) (pa_cons (pv 1) pa_nil))) pa_nil))) pa_nil))), ?_⟩
    have six : (if (if (6 : Int) < ((ns.map V.int).length : Int) then (6 : Int) else ((ns.map V.int).length : Int)) > 2 then (if (6 : Int) < ((ns.map V.int).length : Int) then (6 : Int) else ((ns.map V.int).length : Int)) else 2) ≤ 6 := by
      split <;> split <;> omega
    have two : (2 : Int) ≤ (if (if (6 : Int) < ((ns.map V.int).length : Int) then (6 : Int) else ((ns.map V.int).length : Int)) > 2 then (if (6 : Int) < ((ns.map V.int).length : Int) then (6 : Int) else ((ns.map V.int).length : Int)) else 2) := by
      split <;> omega
    refine ⟨_, rfl, a, _, rfl, .inl hS, _, _, rfl, _, _, rfl, _, rfl, ?_⟩
    generalize (if (if (6 : Int) < ((ns.map V.int).length : Int) then (6 : Int) else ((ns.map V.int).length : Int)) > 2 then (if (6 : Int) < ((ns.map V.int).length : Int) then (6 : Int) else ((ns.map V.int).length : Int)) else 2) = n6 at six two ⊢
    refine ⟨by omega, by omega, fun D hD => lc_range (lo := 0) (n := n6.toNat) (fun n H2 => ExtN H H2 ∧ TabsN T H2 ∧ H2 D = some (.lst ((List.replicate n true).map V.bl))) ⟨(Ex.refl.new hD).n, TabsN.exs tabs (Ex.refl.new hD), upd_same⟩ ?_ ?_⟩
    · rintro n H2 hi ⟨h2, t2, hD2⟩
      refine ⟨rfl, ?_⟩
      refine ⟨_, rfl, _, rfl, a, ns, 0 + (n : Int), rfl, sqN h2 hS, hn, by omega, by omega, fun j H8 nj s8 J8 => ?_⟩
      have t8 : TabsN T H8 := TabsN.exs t2 s8
      refine ⟨j, rfl, J8, t8, fun H9 b9 t9 => ?_⟩
      have far : ∀ {b : Addr} {o : HO}, H2 b = some o → b ≠ j := fun {b o} e z => by
        rw [z, nj] at e
        cases e
      have s9 : ExtN H2 H9 := fun b o e nt => b9 b o (far e) (s8 b o e) nt
      have hD9 := lstN s9 hD2
      refine ⟨_, hD9, small_line (by rw [List.length_map, List.length_replicate]; omega), fun b o e nt => ?_, fun r hr => ?_, ?_⟩
      · have nb : b ≠ D := fun z => by
          rw [z, hD] at e
          cases e
        rw [upd_ne nb]
        exact s9 b o (h2 b o e nt) nt
      · obtain ⟨ps, h1, h2, h3⟩ := t9 r hr
        refine ⟨ps, by rw [upd_ne (ne_of h1 hD9 fun z => nomatch z)]; exact h1, h2, fun pos v hv => ?_⟩
        obtain ⟨c, e1, e2⟩ := h3 pos v hv
        exact ⟨c, e1, by rw [upd_ne (ne_of e2 hD9 fun z => nomatch (show HO.ext _ = HO.lst _ from z))]; exact e2⟩
      · rw [List.replicate_succ', List.map_append]
        exact upd_same
    · rintro H2 ⟨h2, t2, hD2⟩
      refine ⟨D, _, rfl, SqL.of hD2, ?_⟩
      have e : (List.replicate n6.toNat true).all id = true := by simp
      rw [e]
      exact k H2
end
end LJ
set_option Elab.async false
set_option linter.all false
set_option maxRecDepth 100000
set_option maxHeartbeats 4000000
/-! The end of a row whose law asks for repr and makes lambdas: no guard stands, tables of code are empty at first. -/
namespace L2
open PySem PySem.Spec PyProof.Rows
/-- what is tracked when the law is called: the tables, and the script where it is not written -/
def Begun (cs : List (Addr × Addr)) (a : Addr) (H : Hp) : Prop := ∀ b, H b = none ∨ b ∈ cs.map (·.2) ∧ H b = some (.tbl #[]) ∨ b = a ∧ ∃ o xs, H b = some (.frz o (.lst xs))
section
variable {P : Program} {w : World} {K : PySem.W.Frag} {mg mb : Str → Option Value} {k : Nat} {fa a : Addr} {fd : FuncData} {x : Str} {sp : Sp} {s1 : Shared} {vs : List Value} {ns : List Int} {cs : List (Addr × Addr)}
/-- the tables of some code objects, all empty -/
structure Empty (K : PySem.W.Frag) (h : Heap) (cs : List (Addr × Addr)) : Prop where
  at_ : ∀ q ∈ cs, h.get? q.2 = some (PySem.W.tabObj #[])
  out : ∀ q ∈ cs, K.lookup q.2 = none
  head : ∀ q ∈ cs, PySem.W.CodeHd h q.1 q.2
theorem Empty.of {h : Heap} (E : Empty K h cs) {b : Addr} (m : b ∈ cs.map (·.2)) : h.get? b = some (PySem.W.tabObj #[]) := by
  obtain ⟨q, hq, rfl⟩ := List.mem_map.mp m
  exact E.at_ q hq
theorem Empty.no {h : Heap} (E : Empty K h cs) {b : Addr} (m : b ∈ cs.map (·.2)) : K.lookup b = none := by
  obtain ⟨q, hq, rfl⟩ := List.mem_map.mp m
  exact E.out q hq
theorem law_gt_at (KX : K.In s1.heap) (hns : s1.heap.Ns mainGlobals mg) (hb : s1.heap.Ns builtinsNs mb) (hbb : ∀ y : Str, y ≠ "__name__" → mb y = bootBuiltins y) (hlim : s1.heap.NoLimit) (hgn : s1.gens = #[]) (E : Empty K s1.heap cs)
    (bi : ∃ (m : Addr) (o : Obj), mg "__builtins__" = some (.ref m) ∧ m ≠ builtinsNs ∧ s1.heap.get? m = some o ∧ o.cls = .type "module" ∧ o.dict = some builtinsNs ∧ o.data = .plain)
    (ha : s1.heap.get? a = some { cls := .type "list", data := .seq vs.toArray }) (hr : Room k callerA)
    (F : ∀ base : Heap, K.In base → base.Ns mainGlobals mg → (∀ q ∈ cs, LamX.TabB base mg q.1 q.2) → FnG P w K mg base k fa fd [x] sp) (hbind : ∀ (s : Shared) (u : Value), BindsTo s fd ⟨[u], []⟩ [(x, u)])
    (H : Hp) (tb : ∀ q ∈ cs, H q.2 = some (.tbl #[])) (only : Begun cs a H) (hsp : sp [.ref a] H (fun v _ => v = .bl true) E0) (hok : HOk P w H s1.heap) (hK : H a ≠ none → K.lookup a = none) :
    codeAny (model P w) callerA (.call (.ref fa) ⟨[.ref a], []⟩) (fun r s2 => r = .ok (.ret (.bool true)) ∧ OldK s1.heap s2.heap ∧ s2.os = s1.os ∧ AllBare s2.gens) s1 := by
  have untracked : ∀ {b : Addr} {o : Obj}, s1.heap.get? b = some o → (∀ us n, o.data ≠ .seq us n) → (∀ us, o.data = .fields us → us ≠ #[]) → H b = none := fun {b o} e n1 n2 => by
    rcases only b with z | ⟨m, _⟩ | ⟨rfl, _⟩
    · exact z
    · rw [E.of m] at e
      cases e
      exact absurd rfl (n2 _ rfl)
    · rw [ha] at e
      cases e
      exact absurd rfl (n1 _ _)
  have ground : ∀ {b : Addr} {o : Obj}, s1.heap.get? b = some o → H b = none → (hidT s1.heap H).get? b = some o := fun e n => hidT_get e n
  have names : ∀ {b : Addr} {m : Str → Option Value}, s1.heap.Ns b m → (hidT s1.heap H).Ns b m := fun {b m} ⟨o, es, ep, e, d, r⟩ =>
    ⟨o, es, ep, ground e (untracked e (fun us n z => nomatch d.symm.trans z) fun us z => nomatch d.symm.trans z), d, r⟩
  have KB : K.In (hidT s1.heap H) := fun b o e => ground (KX b o e) (by
    rcases only b with z | ⟨m, _⟩ | ⟨rfl, o2, xs, z⟩
    · exact z
    · rw [E.no m] at e
      cases e
    · rw [hK (by rw [z]; exact Option.some_ne_none _)] at e
      cases e)
  have md : Mod K mg (hidT s1.heap H) := ⟨KB, names hns, ⟨mb, names hb, hbb⟩, let ⟨mc, h1, h2⟩ := hlim; ⟨mc, names h1, h2⟩⟩
  have TB : ∀ q ∈ cs, LamX.TabB (hidT s1.heap H) mg q.1 q.2 := fun q hq => by
    constructor
    · obtain ⟨o, us, file, tf, flags, tg, inF, text, tt, e1, r1, r2, r3, rest⟩ := E.head q hq
      refine ⟨o, us, file, tf, flags, tg, inF, text, tt, ground e1 (untracked e1 (fun vs n z => nomatch r2.symm.trans z) fun vs z e => ?_), r1, r2, r3, rest⟩
      have es : us = vs := Data.fields.inj (r2.symm.trans z)
      rw [es, e] at r3
      cases r3
    · obtain ⟨m, o, b1, b2, b3, b4, b5, b6⟩ := bi
      refine ⟨m, o, b1, b2, fun z => ?_, fun z => ?_, ground b3 (untracked b3 (fun vs n z => nomatch b6.symm.trans z) fun vs z => nomatch b6.symm.trans z), b4, b5, b6⟩
      · obtain ⟨og, es, ep, e, d, _⟩ := hns
        rw [z, e] at b3
        cases b3
        exact nomatch d.symm.trans b6
      · rw [z, E.at_ q hq] at b3
        cases b3
        cases b6
    · intro z
      obtain ⟨og, es, ep, e, d, _⟩ := hns
      rw [z, E.at_ q hq] at e
      cases e
      cases d
  have start0 : Env0 P w K mg (hidT s1.heap H) callerA [] s1 H :=
    ⟨rfl, md, fun b o e => of_hidT e, Nat.le_of_eq (hidT_size _ _), trivial, fun b hb => absurd (show b ∈ ([] : List Addr) from hb) (by simp), hok, .of_eq hgn⟩
  refine codeAny_mono ((F _ KB (names hns) TB).run callerA [] s1 H ⟨[.ref a], []⟩ [.ref a] [.ref a] _ rfl hr start0 (hbind s1 (.ref a)) (.cons rfl .nil) hsp) fun r s2 h => ?_
  cases r with
  | error e => exact False.elim h
  | ok fl =>
    cases fl with
    | next => exact False.elim h
    | brk => exact False.elim h
    | cont => exact False.elim h
    | ret u =>
      obtain ⟨v, H2, os, bare, un, ok2, rv, q⟩ := h
      obtain rfl : v = .bl true := q
      obtain rfl : u = Value.bool true := rv
      have nox : ∀ b : Addr, b ∉ ([] : List Addr) := fun b => by simp
      have same : ∀ b o, b ∉ cs.map (·.2) → s1.heap.get? b = some o → s2.heap.get? b = some o := fun b o m e => by
        rcases only b with z | ⟨m2, _⟩ | ⟨_, ob, xs, z⟩
        · exact un.keep b o e z (nox b) (nox b)
        · exact absurd m2 m
        · obtain ⟨e1, _⟩ := hok b _ z
          obtain ⟨e2, _⟩ := ok2 b _ (un.frzs b ob _ z)
          rw [e] at e1
          cases e1
          exact e2
      have more : ∀ q ∈ cs, ∃ us : Array Value, s2.heap.get? q.2 = some { cls := .none, data := .fields us } := fun q hq => by
        obtain ⟨us, z⟩ := un.tbls q.2 #[] (tb q hq)
        exact ⟨_, ok2 q.2 _ z⟩
      refine ⟨rfl, { old := fun b o e => ?_, there := fun b o e => ?_ }, os, bare⟩
      · by_cases m : b ∈ cs.map (·.2)
        · obtain ⟨q, hq, rfl⟩ := List.mem_map.mp m
          obtain ⟨us, hu⟩ := more q hq
          rw [E.at_ q hq] at e
          cases e
          exact .inr (.inl ⟨((E.head q hq).tab (E.at_ q hq)).isCodeTable, rfl, #[], us, rfl, by rw [Array.empty_append]; exact hu⟩)
        · exact .inl (same b o m e)
      · by_cases m : b ∈ cs.map (·.2)
        · obtain ⟨q, hq, rfl⟩ := List.mem_map.mp m
          obtain ⟨us, hu⟩ := more q hq
          exact ⟨_, hu⟩
        · exact ⟨o, same b o m e⟩
theorem law_gt (KX : K.In s1.heap) (hns : s1.heap.Ns mainGlobals mg) (hb : s1.heap.Ns builtinsNs mb) (hbb : ∀ y : Str, y ≠ "__name__" → mb y = bootBuiltins y) (hlim : s1.heap.NoLimit) (hgn : s1.gens = #[]) (E : Empty K s1.heap cs)
    (bi : ∃ (m : Addr) (o : Obj), mg "__builtins__" = some (.ref m) ∧ m ≠ builtinsNs ∧ s1.heap.get? m = some o ∧ o.cls = .type "module" ∧ o.dict = some builtinsNs ∧ o.data = .plain)
    (ha : s1.heap.get? a = some { cls := .type "list", data := .seq vs.toArray }) (hi : IntsAre vs ns) (hl : ns.length ≤ sizeLine) (hr : Room k callerA)
    (F : ∀ base : Heap, K.In base → base.Ns mainGlobals mg → (∀ q ∈ cs, LamX.TabB base mg q.1 q.2) → FnG P w K mg base k fa fd [x] sp) (hbind : ∀ (s : Shared) (u : Value), BindsTo s fd ⟨[u], []⟩ [(x, u)])
    (hsp : ∀ H : Hp, (∀ q ∈ cs, H q.2 = some (.tbl #[])) → SqL K H a (ns.map V.int) → sp [.ref a] H (fun v _ => v = .bl true) E0) :
    codeAny (model P w) callerA (.call (.ref fa) ⟨[.ref a], []⟩) (fun r s2 => r = .ok (.ret (.bool true)) ∧ OldK s1.heap s2.heap ∧ s2.os = s1.os ∧ AllBare s2.gens) s1 := by
  have rv := vals_ints hi
  have lenV := hi.length
  have far : a ∉ cs.map (·.2) := fun m => by
    have z := E.of m
    rw [ha] at z
    cases z
  cases hk : K.lookup a with
  | some o =>
    have e := KX a o hk
    rw [ha] at e
    cases e
    let H : Hp := fun b => if b ∈ cs.map (·.2) then some (.tbl #[]) else none
    have yes : ∀ {b : Addr}, b ∈ cs.map (·.2) → H b = some (.tbl #[]) := fun m => if_pos m
    have no : ∀ {b : Addr}, b ∉ cs.map (·.2) → H b = none := fun m => if_neg m
    have tb : ∀ q ∈ cs, H q.2 = some (.tbl #[]) := fun q hq => yes (List.mem_map.mpr ⟨q, hq, rfl⟩)
    refine law_gt_at KX hns hb hbb hlim hgn E bi ha hr F hbind H tb (fun b => ?_) (hsp H tb (.inr ⟨_, vs.toArray, _, hk, rfl, rfl, rfl, by rw [List.size_toArray, lenV]; exact hl, by simpa using rv⟩)) (fun b u z => ?_) fun z => absurd (no far) z
    · by_cases m : b ∈ cs.map (·.2)
      · exact .inr (.inl ⟨m, yes m⟩)
      · exact .inl (no m)
    · by_cases m : b ∈ cs.map (·.2)
      · rw [yes m] at z
        cases z
        exact E.of m
      · rw [no m] at z
        cases z
  | none =>
    let o1 : Obj := { cls := .type "list", data := .seq vs.toArray }
    let H : Hp := fun b => if b = a then some (.frz o1 (.lst (ns.map V.int))) else if b ∈ cs.map (·.2) then some (.tbl #[]) else none
    have hA : H a = some (.frz o1 (.lst (ns.map V.int))) := if_pos rfl
    have yes : ∀ {b : Addr}, b ∈ cs.map (·.2) → H b = some (.tbl #[]) := fun {b} m => (if_neg (show ¬ b = a from fun z => far (by rw [← z]; exact m))).trans (if_pos m)
    have no : ∀ {b : Addr}, b ≠ a → b ∉ cs.map (·.2) → H b = none := fun n m => (if_neg n).trans (if_neg m)
    have tb : ∀ q ∈ cs, H q.2 = some (.tbl #[]) := fun q hq => yes (List.mem_map.mpr ⟨q, hq, rfl⟩)
    refine law_gt_at KX hns hb hbb hlim hgn E bi ha hr F hbind H tb (fun b => ?_) (hsp H tb (.inl (.inr ⟨_, hA⟩))) (fun b u z => ?_) fun _ => hk
    · by_cases n : b = a
      · exact .inr (.inr ⟨n, o1, _, n ▸ hA⟩)
      · by_cases m : b ∈ cs.map (·.2)
        · exact .inr (.inl ⟨m, yes m⟩)
        · exact .inl (no n m)
    · by_cases n : b = a
      · subst n
        rw [hA] at z
        cases z
        exact ⟨ha, by rw [List.length_map]; exact hl, vs, _, rv, ha⟩
      · by_cases m : b ∈ cs.map (·.2)
        · rw [yes m] at z
          cases z
          exact E.of m
        · rw [no n m] at z
          cases z
end
/-- what the end has to show of the law at the head's heap -/
def EndsAt (l : PySem.W.OpenLaw) (w : World) (K : PySem.W.Frag) (k n : Nat) (x : Str) (mg : Str → Option Value) (fa : Addr) (h : Heap) : Prop := ∃ (fd : FuncData) (cs : List (Addr × Addr)) (sp : Sp), Empty K h cs ∧ (∀ (s : Shared) (u : Value), BindsTo s fd ⟨[u], []⟩ [(x, u)]) ∧
  (∀ (H : Hp) (a : Addr) (ns : List Int), ns.length ≤ n → (∀ q ∈ cs, H q.2 = some (.tbl #[])) → SqL K H a (ns.map V.int) → sp [.ref a] H (fun v _ => v = .bl true) E0) ∧
  ∀ base : Heap, K.In base → base.Ns mainGlobals mg → (∀ q ∈ cs, LamX.TabB base mg q.1 q.2) → FnG l.prog w K mg base k fa fd [x] sp
theorem walk_gt {l : PySem.W.OpenLaw} {n k : Nat} {q : Program} {loose : List Str} {XP : (Str → Option Value) → Heap → Prop} {YP : World → Heap → Prop} {d : DefRec} {x : Str} (hn : l.most = some n) (hn2 : n ≤ sizeLine) (hdf : d.params.defaults = []) (hr : Room k callerA)
    (F : ∀ (w : World) (mg : Str → Option Value) (fa : Addr) (h : Heap), YP w h → h.Ns mainGlobals mg → mg d.name = some (.ref fa) → ∃ K : PySem.W.Frag, K.In h ∧ EndsAt l w K k n x mg fa h) :
    PySem.W.WalkO q loose XP YP l.row.toRowW d [] (fun f vs => PySem.call f vs) := by
  refine Att.attach_callB hn hdf fun w s0 s1 mg mb fa o pm cd doc a vs ns G Y ho hd hcd hmg hobj hints hlen hbits hgn => ?_
  obtain ⟨K, KX, fd, cs, sp, E, hb, hsp, hF⟩ := F w mg fa _ Y G.T.g hmg
  exact law_gt KX G.T.g G.T.b G.T.builtins G.T.nolimit hgn E G.T.bmain hobj hints (Nat.le_trans hlen hn2) hr hF hb fun H hH hS => hsp H a ns hlen hH hS
end L2
set_option Elab.async false
set_option linter.all false
set_option maxRecDepth 100000
set_option maxHeartbeats 4000000
namespace LJ
open PySem PySem.Spec L2 PySem.ErrV
open LamX (ExtN TabB)
open NdefX (NTab TabsN)
abbrev veT : List Value := [.type "ValueError", .type "Exception", .type "BaseException", .type "object"]
theorem bo_ve : BaseOk "ValueError" "ValueError.__new__" "ValueError.__init__" veT := ⟨PySem.F.excBase_ValueError, PySem.F.store_ValueError⟩
/-! ### what is asked of the written part, by one look -/
def clsLook (K : PySem.W.Frag) (C : Addr) (B : List Value) (nw : String) : Bool := match K.lookup C with
  | some ⟨.type "type", _, .cls cd, sl⟩ => (match cd.mro, sl.toList with
    | .ref D :: bm, [_, _, _, _, some (.builtin n), _] => D == C && n == nw && !cd.hasDel && cd.hasDict && rowOver B bm
    | _, _ => false)
  | _ => false
theorem clsLook_of {K : PySem.W.Frag} {C : Addr} {B : List Value} {nw : String} (h : clsLook K C B nw = true) : ∃ nm q N bs bm sn sub ab col dd k0 k1 k2 k3 k5,
    K.lookup C = some (excClassObj nm q C N bs bm true sn sub ab col dd k0 k1 k2 k3 k5 nw) ∧ rowOver B bm = true := by
  unfold clsLook at h
  split at h
  · rename_i dd cd sl ho
    split at h
    · rename_i D bm k0 k1 k2 k3 n k5 hm hs
      simp only [Bool.and_eq_true, beq_iff_eq, Bool.not_eq_true'] at h
      obtain ⟨⟨⟨⟨e1, e2⟩, e3⟩, e4⟩, e5⟩ := h
      obtain ⟨nm, bs, mro, ns, qn, hd, sn, sub, ab, col, del⟩ := cd
      dsimp only at hm e3 e4
      subst hm e1 e2 e3 e4
      have hl : sl = #[k0, k1, k2, k3, some (.builtin n), k5] := by
        obtain ⟨l⟩ := sl
        simp only at hs
        rw [hs]
      subst hl
      exact ⟨nm, qn, ns, bs, bm, sn, sub, ab, col, dd, k0, k1, k2, k3, k5, ho, e5⟩
    · cases h
  · cases h
def errLook (K : PySem.W.Frag) (C fI : Addr) (f : Str) (B : List Value) (nw : String) : Bool :=
  clsLook K C B nw && decide (PySem.W.findIn K (.ref C) "__setattr__" = some (some (.builtin "object.__setattr__"))) && decide (PySem.W.findIn K (.ref C) f = some none) &&
  decide (PySem.W.findIn K (.ref C) "__init__" = some (some (.ref fI))) && decide (PySem.W.typeIn K (.ref fI) = some (.type "function")) && PySem.W.keepIn K (.ref C)
theorem errLook_of {K : PySem.W.Frag} {mg : Str → Option Value} {x f : Str} {C fI : Addr} {B : List Value} {nw : String} (h : errLook K C fI f B nw = true) (g : mg x = some (.ref C))
    (fn : ∃ (qual : Str) (oc : Value) (od : Option Addr) (doc pm : Value) (an : Option Addr) (cdv ct : Value) (osl : Array (Option Value)) (p1 p2 q1 q2 q3 q4 : Pos),
      K.lookup fI = some ⟨oc, od, .func (PySem.W.fnOf "__init__" qual (eA f p1 p2) (eB f q1 q2 q3 q4) (eS f) .none .none doc pm an cdv ct), osl⟩ ∧ PySem.W.codeIn K cdv qual = true) : ErrC K mg x f C fI nw B := by
  unfold errLook at h
  simp only [Bool.and_eq_true, decide_eq_true_eq] at h
  obtain ⟨⟨⟨⟨⟨h1, h2⟩, h3⟩, h4⟩, h5⟩, h6⟩ := h
  exact ⟨g, clsLook_of h1, h2, h3, h4, h5, h6, fn⟩
def intLook (K : PySem.W.Frag) (x : Str) (n : Int) : Bool := match PySem.W.nsIn K mainGlobals x with
  | some (some (.int m _)) => m == n
  | _ => false
theorem intLook_of {K : PySem.W.Frag} {x : Str} {n : Int} {h0 : Heap} {mg : Str → Option Value} (X : K.In h0) (G : h0.Ns mainGlobals mg) (h : intLook K x n = true) : ∃ u, mg x = some u ∧ RelV (.int n) u := by
  unfold intLook at h
  split at h
  · rename_i m t e
    obtain rfl := beq_iff_eq.mp h
    exact ⟨_, PySem.W.mg_of X G e, ⟨t, rfl⟩⟩
  · cases h
def outer : List Str := ["divmod", "int", "len", "abs", "isinstance", "bool", "str", "tuple", "all", "enumerate", "range", "sorted", "zip", "dict", "list", "set", "repr", "max", "min"]
def outLook (K : PySem.W.Frag) : Bool := outer.all fun x => decide (PySem.W.nsIn K mainGlobals x = some none)
theorem outLook_of {K : PySem.W.Frag} {h0 : Heap} {mg : Str → Option Value} (X : K.In h0) (G : h0.Ns mainGlobals mg) (h : outLook K = true) (x : Str) (hx : x ∈ outer) : mg x = none :=
  PySem.W.mg_none_of X G (of_decide_eq_true (List.all_eq_true.mp h x hx))
def cLook (K : PySem.W.Frag) : Bool := intLook K "_MOST_LETTERS" 8 && intLook K "MOST_MACHINES" 6 && intLook K "MOST_CLEANINGS" 6 && intLook K "MOST_STUFFS" 3 && intLook K "MOST_PRODUCTS" 8 && intLook K "MOST_SHARE" 1000 && intLook K "MOST_AMOUNT" 1000000000000 && intLook K "MOST_DEEDS" 20 && intLook K "MOST_LOTS" 8 && intLook K "MOST_PASSED" 4
def fields : List Str := ["_machines", "_cleanings", "_stuffs", "_products", "_holds", "_keeps", "_limits", "_contents", "_text"]
/-- the class Works -/
def wLook (K : PySem.W.Frag) (C fI : Addr) : Bool := PySem.W.plainGet K C Str.empty && PySem.W.hasDictIn K C && PySem.W.plainOver K C && decide (PySem.W.findIn K (.ref C) "__setattr__" = some (some (.builtin "object.__setattr__"))) &&
  (fields.all fun f => decide (PySem.W.findIn K (.ref C) f = some none)) && PySem.W.makesIn K C && PySem.W.isFn K (.ref fI) && PySem.W.keepIn K (.ref C)
def fieldsP : List Str := ["_works", "_deeds", "_lots", "_text"]
/-- the class Plan -/
def pcLook (K : PySem.W.Frag) (C fI : Addr) : Bool := PySem.W.plainGet K C Str.empty && PySem.W.hasDictIn K C && PySem.W.plainOver K C && decide (PySem.W.findIn K (.ref C) "__setattr__" = some (some (.builtin "object.__setattr__"))) &&
  (fieldsP.all fun f => decide (PySem.W.findIn K (.ref C) f = some none)) && PySem.W.makesIn K C && PySem.W.isFn K (.ref fI) && PySem.W.keepIn K (.ref C)
def mLook (K : PySem.W.Frag) (C : Addr) (ms : List (Str × Addr)) : Bool := ms.all fun q => decide (PySem.W.findIn K (.ref C) q.1 = some (some (.ref q.2))) && PySem.W.isFn K (.ref q.2) && PySem.W.keepIn K (.ref q.2)
theorem mLook_of {K : PySem.W.Frag} {C : Addr} {ms : List (Str × Addr)} (h : mLook K C ms = true) (n : Str) (g : Addr) (m : (n, g) ∈ ms) : Meth K C n g := by
  have z := List.all_eq_true.mp h _ m
  simp only [Bool.and_eq_true, decide_eq_true_eq] at z
  exact ⟨z.1.1, z.1.2, z.2⟩
/-- properties -/
def pLook (K : PySem.W.Frag) (ps : List Addr) : Bool := ps.all fun p => decide (PySem.W.specialIn K (.ref p) "__get__" = some (some (.builtin "property.__get__"))) && decide (PySem.W.takesIn K (.ref p) = some true)
theorem pLook_of {K : PySem.W.Frag} {C : Addr} {ps : List Addr} (h : pLook K ps = true) {n : Str} {p g : Addr} {rest : List Value} (m : p ∈ ps) (a : PySem.W.findIn K (.ref C) n = some (some (.ref p))) (r : PySem.W.recIn K p "property" = some (.ref g :: rest)) : PropOf K C n p g := by
  have z := List.all_eq_true.mp h _ m
  simp only [Bool.and_eq_true, decide_eq_true_eq] at z
  exact ⟨a, z.1, z.2, rest, r⟩
/-- what isinstance, ==, !=, truth ask of Works -/
def iLook (K : PySem.W.Frag) (C : Addr) : Bool := decide (PySem.W.findIn K (.ref C) "__class__" = some (some (.builtin "object.__class__"))) && decide (PySem.W.specialIn K (.builtin "object.__class__") "__get__" = some (some (.builtin "getset_descriptor.__get__"))) && decide (PySem.W.takesIn K (.builtin "object.__class__") = some true) &&
  decide (PySem.W.mroIn K C (.type "object") = some true) && decide (PySem.W.kitOne K (.ref C) (.ref C) = some true) && decide (PySem.W.kitOne K (.type "str") (.ref C) = some false) &&
  decide (PySem.W.findIn K (.ref C) "__ne__" = some (some (.builtin "object.__ne__"))) && decide (PySem.W.subIn K (.ref C) (.type "object") = some true) && decide (PySem.W.subIn K (.type "str") (.ref C) = some false)
/-- a static method of Works, by the class -/
def sLook (K : PySem.W.Frag) (C : Addr) : Bool := PySem.W.readsIn K C (.type "type") && decide (PySem.W.specialIn K (.ref C) "__getattribute__" = some (some (.builtin "type.__getattribute__"))) && decide (PySem.W.typeIn K (.ref C) = some (.type "type"))
/-- an error with one field -/
def eLook (K : PySem.W.Frag) (C fI : Addr) (f : Str) : Bool := errLook K C fI f veT "ValueError.__new__" && decide (PySem.W.findIn K (.ref C) "__getattribute__" = some (some (.builtin "BaseException.__getattribute__"))) && decide (PySem.W.findIn K (.ref C) "__getattr__" = some none) &&
  decide (PySem.W.subIn K (.ref C) (.type "BaseException") = some true) && PySem.W.hasDictIn K C && decide (PySem.W.typeIn K (.ref C) = some (.type "type"))
theorem eLook_of {K : PySem.W.Frag} {mg : Str → Option Value} {x f : Str} {C fI : Addr} (h : eLook K C fI f = true) (g : mg x = some (.ref C))
    (fn : ∃ (qual : Str) (oc : Value) (od : Option Addr) (doc pm : Value) (an : Option Addr) (cdv ct : Value) (osl : Array (Option Value)) (p1 p2 q1 q2 q3 q4 : Pos),
      K.lookup fI = some ⟨oc, od, .func (PySem.W.fnOf "__init__" qual (eA f p1 p2) (eB f q1 q2 q3 q4) (eS f) .none .none doc pm an cdv ct), osl⟩ ∧ PySem.W.codeIn K cdv qual = true) : Er1 K mg x f C := by
  unfold eLook at h
  simp only [Bool.and_eq_true, decide_eq_true_eq] at h
  obtain ⟨⟨⟨⟨⟨u1, u2⟩, u3⟩, u4⟩, u5⟩, u6⟩ := h
  exact ⟨⟨fI, veT, errLook_of u1 g fn, bo_ve⟩, u4, u6, ⟨u2, u3, u4, u5⟩⟩
/-- which clause fits which error -/
def fLook (K : PySem.W.Frag) (CI CW : Addr) : Bool := decide (PySem.W.exmOne K (.ref CI) (.ref CI) = some true) && decide (PySem.W.exmOne K (.ref CW) (.ref CI) = some false) && decide (PySem.W.exmOne K (.ref CW) (.ref CW) = some true)
/-- values of built-in classes are no objects of this one -/
def nLook (K : PySem.W.Frag) (C : Addr) : Bool := decide (PySem.W.kitOne K (.type "NoneType") (.ref C) = some false) && decide (PySem.W.kitOne K (.type "bool") (.ref C) = some false) && decide (PySem.W.kitOne K (.type "str") (.ref C) = some false) && decide (PySem.W.kitOne K (.type "int") (.ref C) = some false) &&
  decide (PySem.W.kitOne K (.type "tuple") (.ref C) = some false) && decide (PySem.W.kitOne K (.type "list") (.ref C) = some false) && decide (PySem.W.kitOne K (.type "dict") (.ref C) = some false)
/-- tables of code -/
def tLook (K : PySem.W.Frag) (cs : List (Addr × Addr)) : Bool := cs.all fun q => PySem.W.codeHdIn K q.1 q.2 && (K.lookup q.2).isNone
/-- a def's code -/
def codLook (K : PySem.W.Frag) (f c : Addr) : Bool := match K.lookup f with
  | some ⟨_, _, .func fd, _⟩ => (match fd.code with
    | .ref d => d == c
    | _ => false)
  | _ => false
theorem codLook_of {K : PySem.W.Frag} {f c : Addr} {oc : Value} {od : Option Addr} {fd : FuncData} {sl : Array (Option Value)} (h : codLook K f c = true) (l : K.lookup f = some ⟨oc, od, .func fd, sl⟩) : fd.code = .ref c := by
  unfold codLook at h
  rw [l] at h
  have h2 : (match fd.code with
    | .ref d => d == c
    | _ => false) = true := h
  split at h2
  · rename_i d e
    rw [e, beq_iff_eq.mp h2]
  · cases h2

def inClass : Stmt → Nat → Stmt
  | st, i => (clsBody st).getD i (.Pass ⟨0, 0, 0, 0⟩)
theorem all_mk {l : PySem.W.OpenLaw} {w : World} {K : PySem.W.Frag} {h : Heap} {mg : Str → Option Value} {fa C PC CI CX CT c1 P1 : Addr} (X : K.In h) (G : h.Ns mainGlobals mg) (hfa : mg "law" = some (.ref fa)) {ts : List Addr} (TS : ∀ p ∈ ts, h.get? p = some (PySem.W.tabObj #[]))
    {ocint kVint dcint pmint cdint ctint : Value} {odint anint : Option Addr} {slint : Array (Option Value)} {gint : Addr}
    {ocnam kVnam dcnam pmnam cdnam ctnam : Value} {odnam annam : Option Addr} {slnam : Array (Option Value)} {gnam : Addr}
    {ocby kVby dcby pmby cdby ctby : Value} {odby anby : Option Addr} {slby : Array (Option Value)} {gby : Addr}
    {occhk kVchk dcchk pmchk ctchk : Value} {odchk anchk : Option Addr} {slchk : Array (Option Value)} {gchk : Addr}
    {ocfst kVfst dcfst pmfst cdfst ctfst : Value} {odfst anfst : Option Addr} {slfst : Array (Option Value)} {gfst : Addr}
    {ocshr kVshr dcshr pmshr cdshr ctshr : Value} {odshr anshr : Option Addr} {slshr : Array (Option Value)} {gshr : Addr}
    {oclim kVlim dclim pmlim cdlim ctlim : Value} {odlim anlim : Option Addr} {sllim : Array (Option Value)} {glim : Addr}
    {occon kVcon dccon pmcon cdcon ctcon : Value} {odcon ancon : Option Addr} {slcon : Array (Option Value)} {gcon : Addr}
    {ocnmd kVnmd dcnmd pmnmd cdnmd ctnmd : Value} {odnmd annmd : Option Addr} {slnmd : Array (Option Value)} {gnmd : Addr}
    {ocbnd kVbnd dcbnd pmbnd cdbnd ctbnd : Value} {odbnd anbnd : Option Addr} {slbnd : Array (Option Value)} {gbnd : Addr}
    {octxt kVtxt dctxt pmtxt cdtxt cttxt : Value} {odtxt antxt : Option Addr} {sltxt : Array (Option Value)} {gtxt : Addr}
    {oclin kVlin dclin pmlin cdlin ctlin : Value} {odlin anlin : Option Addr} {sllin : Array (Option Value)} {glin : Addr}
    {occw kVcw dccw pmcw cdcw ctcw : Value} {odcw ancw : Option Addr} {slcw : Array (Option Value)} {gcw : Addr}
    {ocnof kVnof dcnof pmnof cdnof ctnof : Value} {odnof annof : Option Addr} {slnof : Array (Option Value)} {gnof : Addr}
    {occds kVcds dccds pmcds cdcds ctcds : Value} {odcds ancds : Option Addr} {slcds : Array (Option Value)} {gcds : Addr}
    {ocisd kVisd dcisd pmisd cdisd ctisd : Value} {odisd anisd : Option Addr} {slisd : Array (Option Value)} {gisd : Addr}
    {ocpas kVpas dcpas pmpas cdpas ctpas : Value} {odpas anpas : Option Addr} {slpas : Array (Option Value)} {gpas : Addr}
    {ocpln kVpln dcpln pmpln cdpln ctpln : Value} {odpln anpln : Option Addr} {slpln : Array (Option Value)} {gpln : Addr}
    {ocrdd kVrdd dcrdd pmrdd cdrdd ctrdd : Value} {odrdd anrdd : Option Addr} {slrdd : Array (Option Value)} {grdd : Addr}
    {ocdip kVdip dcdip pmdip cddip ctdip : Value} {oddip andip : Option Addr} {sldip : Array (Option Value)} {gdip : Addr}
    {ocone kVone dcone pmone cdone ctone : Value} {odone anone : Option Addr} {slone : Array (Option Value)} {gone : Addr}
    {oclab kVlab dclab pmlab cdlab ctlab : Value} {odlab anlab : Option Addr} {sllab : Array (Option Value)} {glab : Addr}
    {oclsh kVlsh dclsh pmlsh cdlsh ctlsh : Value} {odlsh anlsh : Option Addr} {sllsh : Array (Option Value)} {glsh : Addr}
    {ocins kVins dcins pmins cdins ctins : Value} {odins anins : Option Addr} {slins : Array (Option Value)} {gins : Addr}
    {ocwor kVwor dcwor pmwor cdwor ctwor : Value} {odwor anwor : Option Addr} {slwor : Array (Option Value)} {gwor : Addr}
    {ocblt kVblt dcblt pmblt cdblt ctblt : Value} {odblt anblt : Option Addr} {slblt : Array (Option Value)} {gblt : Addr}
    {ocsds kVsds dcsds pmsds cdsds ctsds : Value} {odsds ansds : Option Addr} {slsds : Array (Option Value)} {gsds : Addr}
    {ocjar kVjar dcjar pmjar cdjar ctjar : Value} {odjar anjar : Option Addr} {sljar : Array (Option Value)} {gjar : Addr}
    {ocpag kVpag dcpag pmpag cdpag ctpag : Value} {odpag anpag : Option Addr} {slpag : Array (Option Value)} {gpag : Addr}
    {oclde kVlde dclde pmlde cdlde ctlde : Value} {odlde anlde : Option Addr} {sllde : Array (Option Value)} {glde : Addr}
    {oclfd kVlfd dclfd pmlfd cdlfd ctlfd : Value} {odlfd anlfd : Option Addr} {sllfd : Array (Option Value)} {glfd : Addr}
    {oclbe kVlbe dclbe pmlbe cdlbe ctlbe : Value} {odlbe anlbe : Option Addr} {sllbe : Array (Option Value)} {glbe : Addr}
    {oclrd kVlrd dclrd pmlrd cdlrd ctlrd : Value} {odlrd anlrd : Option Addr} {sllrd : Array (Option Value)} {glrd : Addr}
    {ocrig kVrig dcrig pmrig cdrig ctrig : Value} {odrig anrig : Option Addr} {slrig : Array (Option Value)} {grig : Addr}
    {oclaw kVlaw dclaw pmlaw cdlaw ctlaw : Value} {odlaw anlaw : Option Addr} {sllaw : Array (Option Value)} {glaw : Addr}
    {ocini kVini dcini pmini cdini ctini : Value} {odini anini : Option Addr} {slini : Array (Option Value)} {gini : Addr}
    {ocstw kVstw dcstw pmstw cdstw ctstw : Value} {odstw anstw : Option Addr} {slstw : Array (Option Value)} {gstw : Addr}
    {ocrew kVrew dcrew pmrew cdrew ctrew : Value} {odrew anrew : Option Addr} {slrew : Array (Option Value)} {grew : Addr}
    {ocpin kVpin dcpin pmpin cdpin ctpin : Value} {odpin anpin : Option Addr} {slpin : Array (Option Value)} {gpin : Addr}
    {ocpm kVpm dcpm pmpm cdpm ctpm : Value} {odpm anpm : Option Addr} {slpm : Array (Option Value)} {gpm : Addr} {qpm : Addr} {restpm : List Value}
    {ocpc kVpc dcpc pmpc cdpc ctpc : Value} {odpc anpc : Option Addr} {slpc : Array (Option Value)} {gpc : Addr} {qpc : Addr} {restpc : List Value}
    {ocpp kVpp dcpp pmpp cdpp ctpp : Value} {odpp anpp : Option Addr} {slpp : Array (Option Value)} {gpp : Addr} {qpp : Addr} {restpp : List Value}
    {ocqd kVqd dcqd pmqd cdqd ctqd : Value} {odqd anqd : Option Addr} {slqd : Array (Option Value)} {gqd : Addr} {qqd : Addr} {restqd : List Value}
    {ocrd kVrd dcrd pmrd cdrd ctrd : Value} {odrd anrd : Option Addr} {slrd : Array (Option Value)} {grd : Addr} {qrd : Addr} {restrd : List Value}
    {ocuI dcuI pmuI cduI ctuI : Value} {oduI anuI : Option Addr} {sluI : Array (Option Value)} {fEI : Addr}
    {ocuX dcuX pmuX cduX ctuX : Value} {oduX anuX : Option Addr} {sluX : Array (Option Value)} {fEX : Addr}
    {ocuT dcuT pmuT cduT ctuT : Value} {oduT anuT : Option Addr} {sluT : Array (Option Value)} {fET : Addr}
    (aint : PySem.W.nsIn K mainGlobals "is_integer" = some (some (.ref gint)))
    (lint : K.lookup gint = some ⟨ocint, odint, .func (PySem.W.fnOf "is_integer" "is_integer" (defArgs (top 4)) (defBody (top 4)) (defScope (top 4)) .none kVint dcint pmint anint cdint ctint), slint⟩)
    (dint : PySem.W.codeIn K cdint "is_integer" = true)
    (kint : PySem.W.keepIn K (.ref gint) = true)
    (anam : PySem.W.nsIn K mainGlobals "is_name" = some (some (.ref gnam)))
    (lnam : K.lookup gnam = some ⟨ocnam, odnam, .func (PySem.W.fnOf "is_name" "is_name" (defArgs (top 5)) (defBody (top 5)) (defScope (top 5)) .none kVnam dcnam pmnam annam cdnam ctnam), slnam⟩)
    (dnam : PySem.W.codeIn K cdnam "is_name" = true)
    (knam : PySem.W.keepIn K (.ref gnam) = true)
    (aby : PySem.W.nsIn K mainGlobals "_by_stuff" = some (some (.ref gby)))
    (lby : K.lookup gby = some ⟨ocby, odby, .func (PySem.W.fnOf "_by_stuff" "_by_stuff" (defArgs (top 32)) (defBody (top 32)) (defScope (top 32)) .none kVby dcby pmby anby cdby ctby), slby⟩)
    (dby : PySem.W.codeIn K cdby "_by_stuff" = true)
    (kby : PySem.W.keepIn K (.ref gby) = true)
    (achk : PySem.W.nsIn K mainGlobals "_check" = some (some (.ref gchk)))
    (lchk : K.lookup gchk = some ⟨occhk, odchk, .func (PySem.W.fnOf "_check" "_check" (defArgs (top 33)) (defBody (top 33)) (defScope (top 33)) .none kVchk dcchk pmchk anchk (.ref c1) ctchk), slchk⟩)
    (dchk : PySem.W.codeIn K (.ref c1) "_check" = true)
    (kchk : PySem.W.keepIn K (.ref gchk) = true)
    (afst : PySem.W.nsIn K mainGlobals "_first_wrong" = some (some (.ref gfst)))
    (lfst : K.lookup gfst = some ⟨ocfst, odfst, .func (PySem.W.fnOf "_first_wrong" "_first_wrong" (defArgs (top 34)) (defBody (top 34)) (defScope (top 34)) .none kVfst dcfst pmfst anfst cdfst ctfst), slfst⟩)
    (dfst : PySem.W.codeIn K cdfst "_first_wrong" = true)
    (kfst : PySem.W.keepIn K (.ref gfst) = true)
    (ashr : PySem.W.nsIn K mainGlobals "_has_shares" = some (some (.ref gshr)))
    (lshr : K.lookup gshr = some ⟨ocshr, odshr, .func (PySem.W.fnOf "_has_shares" "_has_shares" (defArgs (top 35)) (defBody (top 35)) (defScope (top 35)) .none kVshr dcshr pmshr anshr cdshr ctshr), slshr⟩)
    (dshr : PySem.W.codeIn K cdshr "_has_shares" = true)
    (kshr : PySem.W.keepIn K (.ref gshr) = true)
    (alim : PySem.W.nsIn K mainGlobals "_has_limit" = some (some (.ref glim)))
    (llim : K.lookup glim = some ⟨oclim, odlim, .func (PySem.W.fnOf "_has_limit" "_has_limit" (defArgs (top 36)) (defBody (top 36)) (defScope (top 36)) .none kVlim dclim pmlim anlim cdlim ctlim), sllim⟩)
    (dlim : PySem.W.codeIn K cdlim "_has_limit" = true)
    (klim : PySem.W.keepIn K (.ref glim) = true)
    (acon : PySem.W.nsIn K mainGlobals "_has_contents" = some (some (.ref gcon)))
    (lcon : K.lookup gcon = some ⟨occon, odcon, .func (PySem.W.fnOf "_has_contents" "_has_contents" (defArgs (top 37)) (defBody (top 37)) (defScope (top 37)) .none kVcon dccon pmcon ancon cdcon ctcon), slcon⟩)
    (dcon : PySem.W.codeIn K cdcon "_has_contents" = true)
    (kcon : PySem.W.keepIn K (.ref gcon) = true)
    (anmd : PySem.W.nsIn K mainGlobals "_is_named" = some (some (.ref gnmd)))
    (lnmd : K.lookup gnmd = some ⟨ocnmd, odnmd, .func (PySem.W.fnOf "_is_named" "_is_named" (defArgs (top 38)) (defBody (top 38)) (defScope (top 38)) .none kVnmd dcnmd pmnmd annmd cdnmd ctnmd), slnmd⟩)
    (dnmd : PySem.W.codeIn K cdnmd "_is_named" = true)
    (knmd : PySem.W.keepIn K (.ref gnmd) = true)
    (abnd : PySem.W.nsIn K mainGlobals "_are_bounds" = some (some (.ref gbnd)))
    (lbnd : K.lookup gbnd = some ⟨ocbnd, odbnd, .func (PySem.W.fnOf "_are_bounds" "_are_bounds" (defArgs (top 39)) (defBody (top 39)) (defScope (top 39)) .none kVbnd dcbnd pmbnd anbnd cdbnd ctbnd), slbnd⟩)
    (dbnd : PySem.W.codeIn K cdbnd "_are_bounds" = true)
    (kbnd : PySem.W.keepIn K (.ref gbnd) = true)
    (atxt : PySem.W.nsIn K mainGlobals "_text_of" = some (some (.ref gtxt)))
    (ltxt : K.lookup gtxt = some ⟨octxt, odtxt, .func (PySem.W.fnOf "_text_of" "_text_of" (defArgs (top 40)) (defBody (top 40)) (defScope (top 40)) .none kVtxt dctxt pmtxt antxt cdtxt cttxt), sltxt⟩)
    (dtxt : PySem.W.codeIn K cdtxt "_text_of" = true)
    (ktxt : PySem.W.keepIn K (.ref gtxt) = true)
    (alin : PySem.W.nsIn K mainGlobals "_product_line" = some (some (.ref glin)))
    (llin : K.lookup glin = some ⟨oclin, odlin, .func (PySem.W.fnOf "_product_line" "_product_line" (defArgs (top 41)) (defBody (top 41)) (defScope (top 41)) .none kVlin dclin pmlin anlin cdlin ctlin), sllin⟩)
    (dlin : PySem.W.codeIn K cdlin "_product_line" = true)
    (klin : PySem.W.keepIn K (.ref glin) = true)
    (acw : PySem.W.nsIn K mainGlobals "check_works" = some (some (.ref gcw)))
    (lcw : K.lookup gcw = some ⟨occw, odcw, .func (PySem.W.fnOf "check_works" "check_works" (defArgs (top 46)) (defBody (top 46)) (defScope (top 46)) .none kVcw dccw pmcw ancw cdcw ctcw), slcw⟩)
    (dcw : PySem.W.codeIn K cdcw "check_works" = true)
    (kcw : PySem.W.keepIn K (.ref gcw) = true)
    (anof : PySem.W.nsIn K mainGlobals "is_name_of" = some (some (.ref gnof)))
    (lnof : K.lookup gnof = some ⟨ocnof, odnof, .func (PySem.W.fnOf "is_name_of" "is_name_of" (defArgs (top 47)) (defBody (top 47)) (defScope (top 47)) .none kVnof dcnof pmnof annof cdnof ctnof), slnof⟩)
    (dnof : PySem.W.codeIn K cdnof "is_name_of" = true)
    (knof : PySem.W.keepIn K (.ref gnof) = true)
    (acds : PySem.W.nsIn K mainGlobals "_check_deeds" = some (some (.ref gcds)))
    (lcds : K.lookup gcds = some ⟨occds, odcds, .func (PySem.W.fnOf "_check_deeds" "_check_deeds" (defArgs (top 50)) (defBody (top 50)) (defScope (top 50)) .none kVcds dccds pmcds ancds cdcds ctcds), slcds⟩)
    (dcds : PySem.W.codeIn K cdcds "_check_deeds" = true)
    (kcds : PySem.W.keepIn K (.ref gcds) = true)
    (aisd : PySem.W.nsIn K mainGlobals "_is_deed" = some (some (.ref gisd)))
    (lisd : K.lookup gisd = some ⟨ocisd, odisd, .func (PySem.W.fnOf "_is_deed" "_is_deed" (defArgs (top 51)) (defBody (top 51)) (defScope (top 51)) .none kVisd dcisd pmisd anisd cdisd ctisd), slisd⟩)
    (disd : PySem.W.codeIn K cdisd "_is_deed" = true)
    (kisd : PySem.W.keepIn K (.ref gisd) = true)
    (apas : PySem.W.nsIn K mainGlobals "_are_passed" = some (some (.ref gpas)))
    (lpas : K.lookup gpas = some ⟨ocpas, odpas, .func (PySem.W.fnOf "_are_passed" "_are_passed" (defArgs (top 52)) (defBody (top 52)) (defScope (top 52)) .none kVpas dcpas pmpas anpas cdpas ctpas), slpas⟩)
    (dpas : PySem.W.codeIn K cdpas "_are_passed" = true)
    (kpas : PySem.W.keepIn K (.ref gpas) = true)
    (apln : PySem.W.nsIn K mainGlobals "_line" = some (some (.ref gpln)))
    (lpln : K.lookup gpln = some ⟨ocpln, odpln, .func (PySem.W.fnOf "_line" "_line" (defArgs (top 53)) (defBody (top 53)) (defScope (top 53)) .none kVpln dcpln pmpln anpln cdpln ctpln), slpln⟩)
    (dpln : PySem.W.codeIn K cdpln "_line" = true)
    (kpln : PySem.W.keepIn K (.ref gpln) = true)
    (ardd : PySem.W.nsIn K mainGlobals "_read_deed" = some (some (.ref grdd)))
    (lrdd : K.lookup grdd = some ⟨ocrdd, odrdd, .func (PySem.W.fnOf "_read_deed" "_read_deed" (defArgs (top 54)) (defBody (top 54)) (defScope (top 54)) .none kVrdd dcrdd pmrdd anrdd cdrdd ctrdd), slrdd⟩)
    (drdd : PySem.W.codeIn K cdrdd "_read_deed" = true)
    (krdd : PySem.W.keepIn K (.ref grdd) = true)
    (adip : PySem.W.nsIn K mainGlobals "_law_dip" = some (some (.ref gdip)))
    (ldip : K.lookup gdip = some ⟨ocdip, oddip, .func (PySem.W.fnOf "_law_dip" "_law_dip" (defArgs (top 56)) (defBody (top 56)) (defScope (top 56)) .none kVdip dcdip pmdip andip cddip ctdip), sldip⟩)
    (ddip : PySem.W.codeIn K cddip "_law_dip" = true)
    (kdip : PySem.W.keepIn K (.ref gdip) = true)
    (aone : PySem.W.nsIn K mainGlobals "_law_one_of" = some (some (.ref gone)))
    (lone : K.lookup gone = some ⟨ocone, odone, .func (PySem.W.fnOf "_law_one_of" "_law_one_of" (defArgs (top 57)) (defBody (top 57)) (defScope (top 57)) .none kVone dcone pmone anone cdone ctone), slone⟩)
    (done : PySem.W.codeIn K cdone "_law_one_of" = true)
    (kone : PySem.W.keepIn K (.ref gone) = true)
    (alab : PySem.W.nsIn K mainGlobals "_law_labels" = some (some (.ref glab)))
    (llab : K.lookup glab = some ⟨oclab, odlab, .func (PySem.W.fnOf "_law_labels" "_law_labels" (defArgs (top 58)) (defBody (top 58)) (defScope (top 58)) .none kVlab dclab pmlab anlab cdlab ctlab), sllab⟩)
    (dlab : PySem.W.codeIn K cdlab "_law_labels" = true)
    (klab : PySem.W.keepIn K (.ref glab) = true)
    (alsh : PySem.W.nsIn K mainGlobals "_law_shares" = some (some (.ref glsh)))
    (llsh : K.lookup glsh = some ⟨oclsh, odlsh, .func (PySem.W.fnOf "_law_shares" "_law_shares" (defArgs (top 59)) (defBody (top 59)) (defScope (top 59)) .none kVlsh dclsh pmlsh anlsh cdlsh ctlsh), sllsh⟩)
    (dlsh : PySem.W.codeIn K cdlsh "_law_shares" = true)
    (klsh : PySem.W.keepIn K (.ref glsh) = true)
    (ains : PySem.W.nsIn K mainGlobals "_law_inside" = some (some (.ref gins)))
    (lins : K.lookup gins = some ⟨ocins, odins, .func (PySem.W.fnOf "_law_inside" "_law_inside" (defArgs (top 60)) (defBody (top 60)) (defScope (top 60)) .none kVins dcins pmins anins cdins ctins), slins⟩)
    (dins : PySem.W.codeIn K cdins "_law_inside" = true)
    (kins : PySem.W.keepIn K (.ref gins) = true)
    (awor : PySem.W.nsIn K mainGlobals "_law_world" = some (some (.ref gwor)))
    (lwor : K.lookup gwor = some ⟨ocwor, odwor, .func (PySem.W.fnOf "_law_world" "_law_world" (defArgs (top 61)) (defBody (top 61)) (defScope (top 61)) .none kVwor dcwor pmwor anwor cdwor ctwor), slwor⟩)
    (dwor : PySem.W.codeIn K cdwor "_law_world" = true)
    (kwor : PySem.W.keepIn K (.ref gwor) = true)
    (ablt : PySem.W.nsIn K mainGlobals "_law_built" = some (some (.ref gblt)))
    (lblt : K.lookup gblt = some ⟨ocblt, odblt, .func (PySem.W.fnOf "_law_built" "_law_built" (defArgs (top 62)) (defBody (top 62)) (defScope (top 62)) .none kVblt dcblt pmblt anblt cdblt ctblt), slblt⟩)
    (dblt : PySem.W.codeIn K cdblt "_law_built" = true)
    (kblt : PySem.W.keepIn K (.ref gblt) = true)
    (asds : PySem.W.nsIn K mainGlobals "_law_some_deeds" = some (some (.ref gsds)))
    (lsds : K.lookup gsds = some ⟨ocsds, odsds, .func (PySem.W.fnOf "_law_some_deeds" "_law_some_deeds" (defArgs (top 63)) (defBody (top 63)) (defScope (top 63)) .none kVsds dcsds pmsds ansds cdsds ctsds), slsds⟩)
    (dsds : PySem.W.codeIn K cdsds "_law_some_deeds" = true)
    (ksds : PySem.W.keepIn K (.ref gsds) = true)
    (ajar : PySem.W.nsIn K mainGlobals "_law_jar" = some (some (.ref gjar)))
    (ljar : K.lookup gjar = some ⟨ocjar, odjar, .func (PySem.W.fnOf "_law_jar" "_law_jar" (defArgs (top 64)) (defBody (top 64)) (defScope (top 64)) .none kVjar dcjar pmjar anjar cdjar ctjar), sljar⟩)
    (djar : PySem.W.codeIn K cdjar "_law_jar" = true)
    (kjar : PySem.W.keepIn K (.ref gjar) = true)
    (apag : PySem.W.nsIn K mainGlobals "_law_page" = some (some (.ref gpag)))
    (lpag : K.lookup gpag = some ⟨ocpag, odpag, .func (PySem.W.fnOf "_law_page" "_law_page" (defArgs (top 65)) (defBody (top 65)) (defScope (top 65)) .none kVpag dcpag pmpag anpag cdpag ctpag), slpag⟩)
    (dpag : PySem.W.codeIn K cdpag "_law_page" = true)
    (kpag : PySem.W.keepIn K (.ref gpag) = true)
    (alde : PySem.W.nsIn K mainGlobals "_law_deed" = some (some (.ref glde)))
    (llde : K.lookup glde = some ⟨oclde, odlde, .func (PySem.W.fnOf "_law_deed" "_law_deed" (defArgs (top 66)) (defBody (top 66)) (defScope (top 66)) .none kVlde dclde pmlde anlde cdlde ctlde), sllde⟩)
    (dlde : PySem.W.codeIn K cdlde "_law_deed" = true)
    (klde : PySem.W.keepIn K (.ref glde) = true)
    (alfd : PySem.W.nsIn K mainGlobals "_law_found" = some (some (.ref glfd)))
    (llfd : K.lookup glfd = some ⟨oclfd, odlfd, .func (PySem.W.fnOf "_law_found" "_law_found" (defArgs (top 67)) (defBody (top 67)) (defScope (top 67)) .none kVlfd dclfd pmlfd anlfd cdlfd ctlfd), sllfd⟩)
    (dlfd : PySem.W.codeIn K cdlfd "_law_found" = true)
    (klfd : PySem.W.keepIn K (.ref glfd) = true)
    (albe : PySem.W.nsIn K mainGlobals "_law_bent" = some (some (.ref glbe)))
    (llbe : K.lookup glbe = some ⟨oclbe, odlbe, .func (PySem.W.fnOf "_law_bent" "_law_bent" (defArgs (top 68)) (defBody (top 68)) (defScope (top 68)) .none kVlbe dclbe pmlbe anlbe cdlbe ctlbe), sllbe⟩)
    (dlbe : PySem.W.codeIn K cdlbe "_law_bent" = true)
    (klbe : PySem.W.keepIn K (.ref glbe) = true)
    (alrd : PySem.W.nsIn K mainGlobals "_law_read" = some (some (.ref glrd)))
    (llrd : K.lookup glrd = some ⟨oclrd, odlrd, .func (PySem.W.fnOf "_law_read" "_law_read" (defArgs (top 69)) (defBody (top 69)) (defScope (top 69)) .none kVlrd dclrd pmlrd anlrd cdlrd ctlrd), sllrd⟩)
    (dlrd : PySem.W.codeIn K cdlrd "_law_read" = true)
    (klrd : PySem.W.keepIn K (.ref glrd) = true)
    (arig : PySem.W.nsIn K mainGlobals "_law_right" = some (some (.ref grig)))
    (lrig : K.lookup grig = some ⟨ocrig, odrig, .func (PySem.W.fnOf "_law_right" "_law_right" (defArgs (top 70)) (defBody (top 70)) (defScope (top 70)) .none kVrig dcrig pmrig anrig cdrig ctrig), slrig⟩)
    (drig : PySem.W.codeIn K cdrig "_law_right" = true)
    (krig : PySem.W.keepIn K (.ref grig) = true)
    (alaw : PySem.W.nsIn K mainGlobals "law" = some (some (.ref glaw)))
    (llaw : K.lookup glaw = some ⟨oclaw, odlaw, .func (PySem.W.fnOf "law" "law" (defArgs (top 71)) (defBody (top 71)) (defScope (top 71)) .none kVlaw dclaw pmlaw anlaw cdlaw ctlaw), sllaw⟩)
    (dlaw : PySem.W.codeIn K cdlaw "law" = true)
    (klaw : PySem.W.keepIn K (.ref glaw) = true)
    (aW : PySem.W.nsIn K mainGlobals "Works" = some (some (.ref C)))
    (aP : PySem.W.nsIn K mainGlobals "Plan" = some (some (.ref PC)))
    (aini : PySem.W.findIn K (.ref C) "__init__" = some (some (.ref gini)))
    (lini : K.lookup gini = some ⟨ocini, odini, .func (PySem.W.fnOf "__init__" "Works.__init__" (defArgs (meth 0)) (defBody (meth 0)) (defScope (meth 0)) .none kVini dcini pmini anini cdini ctini), slini⟩)
    (dini : PySem.W.codeIn K cdini "Works.__init__" = true)
    (kini : PySem.W.keepIn K (.ref gini) = true)
    (astw : PySem.W.findIn K (.ref C) "__str__" = some (some (.ref gstw)))
    (lstw : K.lookup gstw = some ⟨ocstw, odstw, .func (PySem.W.fnOf "__str__" "Works.__str__" (defArgs (meth 12)) (defBody (meth 12)) (defScope (meth 12)) .none kVstw dcstw pmstw anstw cdstw ctstw), slstw⟩)
    (dstw : PySem.W.codeIn K cdstw "Works.__str__" = true)
    (kstw : PySem.W.keepIn K (.ref gstw) = true)
    (arew : PySem.W.findIn K (.ref C) "__repr__" = some (some (.ref grew)))
    (lrew : K.lookup grew = some ⟨ocrew, odrew, .func (PySem.W.fnOf "__repr__" "Works.__repr__" (defArgs (meth 13)) (defBody (meth 13)) (defScope (meth 13)) .none kVrew dcrew pmrew anrew cdrew ctrew), slrew⟩)
    (drew : PySem.W.codeIn K cdrew "Works.__repr__" = true)
    (krew : PySem.W.keepIn K (.ref grew) = true)
    (apin : PySem.W.findIn K (.ref PC) "__init__" = some (some (.ref gpin)))
    (lpin : K.lookup gpin = some ⟨ocpin, odpin, .func (PySem.W.fnOf "__init__" "Plan.__init__" (defArgs (pmeth 0)) (defBody (pmeth 0)) (defScope (pmeth 0)) .none kVpin dcpin pmpin anpin cdpin ctpin), slpin⟩)
    (dpin : PySem.W.codeIn K cdpin "Plan.__init__" = true)
    (kpin : PySem.W.keepIn K (.ref gpin) = true)
    (apm : PySem.W.findIn K (.ref C) "machines" = some (some (.ref qpm)))
    (rpm : PySem.W.recIn K qpm "property" = some (.ref gpm :: restpm))
    (lpm : K.lookup gpm = some ⟨ocpm, odpm, .func (PySem.W.fnOf "machines" "Works.machines" (defArgs (meth 2)) (defBody (meth 2)) (defScope (meth 2)) .none kVpm dcpm pmpm anpm cdpm ctpm), slpm⟩)
    (dpm : PySem.W.codeIn K cdpm "Works.machines" = true)
    (kpm : PySem.W.keepIn K (.ref gpm) = true)
    (apc : PySem.W.findIn K (.ref C) "cleanings" = some (some (.ref qpc)))
    (rpc : PySem.W.recIn K qpc "property" = some (.ref gpc :: restpc))
    (lpc : K.lookup gpc = some ⟨ocpc, odpc, .func (PySem.W.fnOf "cleanings" "Works.cleanings" (defArgs (meth 3)) (defBody (meth 3)) (defScope (meth 3)) .none kVpc dcpc pmpc anpc cdpc ctpc), slpc⟩)
    (dpc : PySem.W.codeIn K cdpc "Works.cleanings" = true)
    (kpc : PySem.W.keepIn K (.ref gpc) = true)
    (app : PySem.W.findIn K (.ref C) "products" = some (some (.ref qpp)))
    (rpp : PySem.W.recIn K qpp "property" = some (.ref gpp :: restpp))
    (lpp : K.lookup gpp = some ⟨ocpp, odpp, .func (PySem.W.fnOf "products" "Works.products" (defArgs (meth 5)) (defBody (meth 5)) (defScope (meth 5)) .none kVpp dcpp pmpp anpp cdpp ctpp), slpp⟩)
    (dpp : PySem.W.codeIn K cdpp "Works.products" = true)
    (kpp : PySem.W.keepIn K (.ref gpp) = true)
    (aqd : PySem.W.findIn K (.ref PC) "deeds" = some (some (.ref qqd)))
    (rqd : PySem.W.recIn K qqd "property" = some (.ref gqd :: restqd))
    (lqd : K.lookup gqd = some ⟨ocqd, odqd, .func (PySem.W.fnOf "deeds" "Plan.deeds" (defArgs (pmeth 3)) (defBody (pmeth 3)) (defScope (pmeth 3)) .none kVqd dcqd pmqd anqd cdqd ctqd), slqd⟩)
    (dqd : PySem.W.codeIn K cdqd "Plan.deeds" = true)
    (kqd : PySem.W.keepIn K (.ref gqd) = true)
    (ard : PySem.W.findCls K (.ref PC) (.type "type") "read" = some (PySem.W.CFound.get (.builtin "staticmethod.__get__") (.ref qrd) .none (.ref PC)))
    (rrd : PySem.W.recIn K qrd "staticmethod" = some (.ref grd :: restrd))
    (lrd : K.lookup grd = some ⟨ocrd, odrd, .func (PySem.W.fnOf "read" "Plan.read" (defArgs (pmeth 1)) (defBody (pmeth 1)) (defScope (pmeth 1)) .none kVrd dcrd pmrd anrd cdrd ctrd), slrd⟩)
    (drd : PySem.W.codeIn K cdrd "Plan.read" = true)
    (krd : PySem.W.keepIn K (.ref grd) = true)
    (aEI : PySem.W.nsIn K mainGlobals "InvalidDeeds" = some (some (.ref CI)))
    (iEI : PySem.W.findIn K (.ref CI) "__init__" = some (some (.ref fEI)))
    (lEI : K.lookup fEI = some ⟨ocuI, oduI, .func (PySem.W.fnOf "__init__" "InvalidDeeds.__init__" (defArgs (inClass (top 17) 0)) (defBody (inClass (top 17) 0)) (defScope (inClass (top 17) 0)) .none .none dcuI pmuI anuI cduI ctuI), sluI⟩)
    (dEI : PySem.W.codeIn K cduI "InvalidDeeds.__init__" = true)
    (aEX : PySem.W.nsIn K mainGlobals "NotWorks" = some (some (.ref CX)))
    (iEX : PySem.W.findIn K (.ref CX) "__init__" = some (some (.ref fEX)))
    (lEX : K.lookup fEX = some ⟨ocuX, oduX, .func (PySem.W.fnOf "__init__" "NotWorks.__init__" (defArgs (inClass (top 12) 0)) (defBody (inClass (top 12) 0)) (defScope (inClass (top 12) 0)) .none .none dcuX pmuX anuX cduX ctuX), sluX⟩)
    (dEX : PySem.W.codeIn K cduX "NotWorks.__init__" = true)
    (aET : PySem.W.nsIn K mainGlobals "InvalidText" = some (some (.ref CT)))
    (iET : PySem.W.findIn K (.ref CT) "__init__" = some (some (.ref fET)))
    (lET : K.lookup fET = some ⟨ocuT, oduT, .func (PySem.W.fnOf "__init__" "InvalidText.__init__" (defArgs (inClass (top 10) 0)) (defBody (inClass (top 10) 0)) (defScope (inClass (top 10) 0)) .none .none dcuT pmuT anuT cduT ctuT), sluT⟩)
    (dET : PySem.W.codeIn K cduT "InvalidText.__init__" = true)
    (outL : outLook K = true)
    (cL : cLook K = true)
    (wL : wLook K C gini = true)
    (pcL : pcLook K PC gpin = true)
    (mL : mLook K C [("__str__", gstw), ("__repr__", grew)] = true)
    (pL : pLook K [qpm, qpc, qpp, qqd] = true)
    (iL : iLook K C = true)
    (nL : nLook K C = true)
    (sL : sLook K PC = true)
    (eLI : eLook K CI fEI "index" = true)
    (eLX : eLook K CX fEX "given" = true)
    (eLT : eLook K CT fET "given" = true)
    (fL : fLook K CT CX = true)
    (fI : (decide (PySem.W.exmOne K (.ref CI) (.ref CI) = some true)) = true)
    (tL : tLook K [(c1, P1)] = true)
    (inT : P1 ∈ ts) : EndsAt l w K 13 63 "_law_cells" mg fa h := by
  have e := hfa.symm.trans (PySem.W.mg_of X G alaw)
  cases e

  have out := outLook_of X G outL
  have eI := eLook_of eLI (PySem.W.mg_of X G aEI) ⟨_, _, _, _, _, _, _, _, _, _, _, _, _, _, _, lEI, dEI⟩
  have eX := eLook_of eLX (PySem.W.mg_of X G aEX) ⟨_, _, _, _, _, _, _, _, _, _, _, _, _, _, _, lEX, dEX⟩
  have eT := eLook_of eLT (PySem.W.mg_of X G aET) ⟨_, _, _, _, _, _, _, _, _, _, _, _, _, _, _, lET, dET⟩
  have fitI := of_decide_eq_true fI
  unfold cLook at cL
  unfold wLook at wL
  unfold pcLook at pcL
  unfold tLook at tL
  unfold iLook at iL
  unfold nLook at nL
  unfold sLook at sL
  unfold fLook at fL
  have MW := mLook_of mL
  simp only [Bool.and_eq_true, decide_eq_true_eq, List.all_cons, List.all_nil, Bool.and_true, Option.isNone_iff_eq_none] at cL wL pcL tL iL nL sL fL
  obtain ⟨⟨⟨⟨⟨⟨⟨⟨⟨z0, z1⟩, z2⟩, z3⟩, z4⟩, z5⟩, z6⟩, z7⟩, z8⟩, z9⟩ := cL
  obtain ⟨v0, m0, r0⟩ := intLook_of X G z0
  obtain ⟨v1, m1, r1⟩ := intLook_of X G z1
  obtain ⟨v2, m2, r2⟩ := intLook_of X G z2
  obtain ⟨v3, m3, r3⟩ := intLook_of X G z3
  obtain ⟨v4, m4, r4⟩ := intLook_of X G z4
  obtain ⟨v5, m5, r5⟩ := intLook_of X G z5
  obtain ⟨v6, m6, r6⟩ := intLook_of X G z6
  obtain ⟨v7, m7, r7⟩ := intLook_of X G z7
  obtain ⟨v8, m8, r8⟩ := intLook_of X G z8
  obtain ⟨v9, m9, r9⟩ := intLook_of X G z9
  obtain ⟨⟨⟨⟨⟨⟨⟨w1, w2⟩, w3⟩, w4⟩, w5⟩, w6⟩, w7⟩, w8⟩ := wL
  have nf : ∀ f ∈ fields, PySem.W.findIn K (.ref C) f = some none := fun f hf => of_decide_eq_true (List.all_eq_true.mp w5 f hf)
  have WC : WCls K C := ⟨⟨w1, w2, w3, w4⟩, nf _ (by decide), nf _ (by decide), nf _ (by decide), nf _ (by decide), nf _ (by decide), nf _ (by decide), nf _ (by decide), nf _ (by decide), nf _ (by decide)⟩
  have MK : Mk K C gini := ⟨w6, aini, w7, w8⟩
  obtain ⟨⟨⟨⟨⟨⟨⟨x1, x2⟩, x3⟩, x4⟩, x5⟩, x6⟩, x7⟩, x8⟩ := pcL
  have nfP : ∀ f ∈ fieldsP, PySem.W.findIn K (.ref PC) f = some none := fun f hf => of_decide_eq_true (List.all_eq_true.mp x5 f hf)
  have PCL : PCls K PC := ⟨⟨x1, x2, x3, x4⟩, nfP _ (by decide), nfP _ (by decide), nfP _ (by decide), nfP _ (by decide)⟩
  have MKP : Mk K PC gpin := ⟨x6, apin, x7, x8⟩
  obtain ⟨t1, t2⟩ := tL
  obtain ⟨⟨⟨⟨⟨⟨⟨⟨i1, i2⟩, i3⟩, i4⟩, i5⟩, i6⟩, i7⟩, i8⟩, i9⟩ := iL
  have WI : WIns K C := ⟨i1, i2, i3, i4, i5, i6⟩
  obtain ⟨⟨⟨⟨⟨⟨n1, n2⟩, n3⟩, n4⟩, n5⟩, n6⟩, n7⟩ := nL
  have NC : NoC K C := ⟨n1, n2, n3, n4, n5, n6, n7⟩
  obtain ⟨⟨f1, f2⟩, f3⟩ := fL
  have XF : Fits2 K CT CX := ⟨f1, f2, f3⟩
  obtain ⟨⟨s1, s2⟩, s3⟩ := sL
  have Bl : Blt mg := ⟨out _ (by decide), out _ (by decide), out _ (by decide), out _ (by decide)⟩
  have BI : BltI mg := ⟨out _ (by decide), out _ (by decide), out _ (by decide), out _ (by decide), out _ (by decide), out _ (by decide), out _ (by decide), out _ (by decide)⟩
  have BD : BltD mg := ⟨out _ (by decide), out _ (by decide)⟩
  have BL : BltL mg := ⟨out _ (by decide), out _ (by decide)⟩
  have BW : BltW mg := ⟨out _ (by decide), out _ (by decide)⟩
  have BZ : BltZ mg := ⟨out _ (by decide)⟩
  have BS : BltS mg := ⟨out _ (by decide), out _ (by decide), out _ (by decide)⟩
  have BM : BltM mg := ⟨out _ (by decide), out _ (by decide), out _ (by decide), out _ (by decide), out _ (by decide)⟩
  have BR : BltR mg := ⟨out _ (by decide), out _ (by decide), out _ (by decide), out _ (by decide), out _ (by decide)⟩
  have hT : mg "tuple" = none := out _ (by decide)
  have hLs : mg "list" = none := out _ (by decide)
  have hSe : mg "set" = none := out _ (by decide)
  have hRp : mg "repr" = none := out _ (by decide)
  have hRg : mg "range" = none := out _ (by decide)
  have hMn : mg "min" = none := out _ (by decide)

  have Fint := fun_mk (st := top 4) lint dint kint
  have bInt := Fint.binds (ps := ["value"]) fun _ _ _ _ _ _ us hl => match us, hl with | [_], _ => rfl
  have nint := PySem.W.mg_of X G aint
  have Fnam := fun_mk (st := top 5) lnam dnam knam
  have bnam := Fnam.binds (ps := ["value"]) fun _ _ _ _ _ _ us hl => match us, hl with | [_], _ => rfl
  have nnam := PySem.W.mg_of X G anam
  have Fby := fun_mk (st := top 32) lby dby kby
  have bby := Fby.binds (ps := ["stuffs", "contents"]) fun _ _ _ _ _ _ us hl => match us, hl with | [_, _], _ => rfl
  have nby := PySem.W.mg_of X G aby
  have Fchk := fun_mk (st := top 33) lchk dchk kchk
  have bchk := Fchk.binds (ps := ["machines", "cleanings", "stuffs", "products"]) fun _ _ _ _ _ _ us hl => match us, hl with | [_, _, _, _], _ => rfl
  have nchk := PySem.W.mg_of X G achk
  have Ffst := fun_mk (st := top 34) lfst dfst kfst
  have bfst := Ffst.binds (ps := ["rows", "earlier", "fewest", "most", "is_right"]) fun _ _ _ _ _ _ us hl => match us, hl with | [_, _, _, _, _], _ => rfl
  have nfst := PySem.W.mg_of X G afst
  have Fshr := fun_mk (st := top 35) lshr dshr kshr
  have bshr := Fshr.binds (ps := ["row"]) fun _ _ _ _ _ _ us hl => match us, hl with | [_], _ => rfl
  have nshr := PySem.W.mg_of X G ashr
  have Flim := fun_mk (st := top 36) llim dlim klim
  have blim := Flim.binds (ps := ["row"]) fun _ _ _ _ _ _ us hl => match us, hl with | [_], _ => rfl
  have nlim := PySem.W.mg_of X G alim
  have Fcon := fun_mk (st := top 37) lcon dcon kcon
  have bcon := Fcon.binds (ps := ["row", "many"]) fun _ _ _ _ _ _ us hl => match us, hl with | [_, _], _ => rfl
  have ncon := PySem.W.mg_of X G acon
  have Fnmd := fun_mk (st := top 38) lnmd dnmd knmd
  have bnmd := Fnmd.binds (ps := ["row", "length"]) fun _ _ _ _ _ _ us hl => match us, hl with | [_, _], _ => rfl
  have nnmd := PySem.W.mg_of X G anmd
  have Fbnd := fun_mk (st := top 39) lbnd dbnd kbnd
  have bbnd := Fbnd.binds (ps := ["pair", "most"]) fun _ _ _ _ _ _ us hl => match us, hl with | [_, _], _ => rfl
  have nbnd := PySem.W.mg_of X G abnd
  have Ftxt := fun_mk (st := top 40) ltxt dtxt ktxt
  have btxt := Ftxt.binds (ps := ["machines", "cleanings", "stuffs", "products"]) fun _ _ _ _ _ _ us hl => match us, hl with | [_, _, _, _], _ => rfl
  have ntxt := PySem.W.mg_of X G atxt
  have Flin := fun_mk (st := top 41) llin dlin klin
  have blin := Flin.binds (ps := ["name", "contents"]) fun _ _ _ _ _ _ us hl => match us, hl with | [_, _], _ => rfl
  have nlin := PySem.W.mg_of X G alin
  have Fcw := fun_mk (st := top 46) lcw dcw kcw
  have bcw := Fcw.binds (ps := ["works"]) fun _ _ _ _ _ _ us hl => match us, hl with | [_], _ => rfl
  have ncw := PySem.W.mg_of X G acw
  have Fnof := fun_mk (st := top 47) lnof dnof knof
  have bnof := Fnof.binds (ps := ["rows", "value"]) fun _ _ _ _ _ _ us hl => match us, hl with | [_, _], _ => rfl
  have nnof := PySem.W.mg_of X G anof
  have Fcds := fun_mk (st := top 50) lcds dcds kcds
  have bcds := Fcds.binds (ps := ["works", "deeds"]) fun _ _ _ _ _ _ us hl => match us, hl with | [_, _], _ => rfl
  have ncds := PySem.W.mg_of X G acds
  have Fisd := fun_mk (st := top 51) lisd disd kisd
  have bisd := Fisd.binds (ps := ["works", "deed"]) fun _ _ _ _ _ _ us hl => match us, hl with | [_, _], _ => rfl
  have nisd := PySem.W.mg_of X G aisd
  have Fpas := fun_mk (st := top 52) lpas dpas kpas
  have bpas := Fpas.binds (ps := ["works", "machines"]) fun _ _ _ _ _ _ us hl => match us, hl with | [_, _], _ => rfl
  have npas := PySem.W.mg_of X G apas
  have Fpln := fun_mk (st := top 53) lpln dpln kpln
  have bpln := Fpln.binds (ps := ["deed"]) fun _ _ _ _ _ _ us hl => match us, hl with | [_], _ => rfl
  have npln := PySem.W.mg_of X G apln
  have Frdd := fun_mk (st := top 54) lrdd drdd krdd
  have brdd := Frdd.binds (ps := ["line"]) fun _ _ _ _ _ _ us hl => match us, hl with | [_], _ => rfl
  have nrdd := PySem.W.mg_of X G ardd
  have Fdip := fun_mk (st := top 56) ldip ddip kdip
  have bdip := Fdip.binds (ps := ["_law_jar_here", "_law_top"]) fun _ _ _ _ _ _ us hl => match us, hl with | [_, _], _ => rfl
  have ndip := PySem.W.mg_of X G adip
  have Fone := fun_mk (st := top 57) lone done kone
  have bone := Fone.binds (ps := ["_law_jar_here", "_law_some"]) fun _ _ _ _ _ _ us hl => match us, hl with | [_, _], _ => rfl
  have nOne := PySem.W.mg_of X G aone
  have Flab := fun_mk (st := top 58) llab dlab klab
  have blab := Flab.binds (ps := ["_law_jar_here"]) fun _ _ _ _ _ _ us hl => match us, hl with | [_], _ => rfl
  have nlab := PySem.W.mg_of X G alab
  have Flsh := fun_mk (st := top 59) llsh dlsh klsh
  have blsh := Flsh.binds (ps := ["_law_jar_here"]) fun _ _ _ _ _ _ us hl => match us, hl with | [_], _ => rfl
  have nlsh := PySem.W.mg_of X G alsh
  have Fins := fun_mk (st := top 60) lins dins kins
  have bins := Fins.binds (ps := ["_law_jar_here"]) fun _ _ _ _ _ _ us hl => match us, hl with | [_], _ => rfl
  have nins := PySem.W.mg_of X G ains
  have Fwor := fun_mk (st := top 61) lwor dwor kwor
  have bwor := Fwor.binds (ps := ["_law_jar_here", "_law_most"]) fun _ _ _ _ _ _ us hl => match us, hl with | [_, _], _ => rfl
  have nwor := PySem.W.mg_of X G awor
  have Fblt := fun_mk (st := top 62) lblt dblt kblt
  have bblt := Fblt.binds (ps := ["_law_world_here"]) fun _ _ _ _ _ _ us hl => match us, hl with | [_], _ => rfl
  have nblt := PySem.W.mg_of X G ablt
  have Fsds := fun_mk (st := top 63) lsds dsds ksds
  have bsds := Fsds.binds (ps := ["_law_jar_here", "_law_world_here", "_law_most", "_law_steps"]) fun _ _ _ _ _ _ us hl => match us, hl with | [_, _, _, _], _ => rfl
  have nsds := PySem.W.mg_of X G asds
  have Fjar := fun_mk (st := top 64) ljar djar kjar
  have bjar := Fjar.binds (ps := ["_law_cells", "_law_turn"]) fun _ _ _ _ _ _ us hl => match us, hl with | [_, _], _ => rfl
  have njar := PySem.W.mg_of X G ajar
  have Fpag := fun_mk (st := top 65) lpag dpag kpag
  have bpag := Fpag.binds (ps := ["_law_deeds_here"]) fun _ _ _ _ _ _ us hl => match us, hl with | [_], _ => rfl
  have npag := PySem.W.mg_of X G apag
  have Flde := fun_mk (st := top 66) llde dlde klde
  have blde := Flde.binds (ps := ["_law_world_here", "_law_words"]) fun _ _ _ _ _ _ us hl => match us, hl with | [_, _], _ => rfl
  have nlde := PySem.W.mg_of X G alde
  have Flfd := fun_mk (st := top 67) llfd dlfd klfd
  have blfd := Flfd.binds (ps := ["_law_world_here", "_law_page_here"]) fun _ _ _ _ _ _ us hl => match us, hl with | [_, _], _ => rfl
  have nlfd := PySem.W.mg_of X G alfd
  have Flbe := fun_mk (st := top 68) llbe dlbe klbe
  have blbe := Flbe.binds (ps := ["_law_jar_here", "_law_page_here", "_law_words"]) fun _ _ _ _ _ _ us hl => match us, hl with | [_, _, _], _ => rfl
  have nlbe := PySem.W.mg_of X G albe
  have Flrd := fun_mk (st := top 69) llrd dlrd klrd
  have blrd := Flrd.binds (ps := ["_law_works_here", "_law_page_here", "_law_named"]) fun _ _ _ _ _ _ us hl => match us, hl with | [_, _, _], _ => rfl
  have nlrd := PySem.W.mg_of X G alrd
  have Frig := fun_mk (st := top 70) lrig drig krig
  have brig := Frig.binds (ps := ["_law_jar_here"]) fun _ _ _ _ _ _ us hl => match us, hl with | [_], _ => rfl
  have nrig := PySem.W.mg_of X G arig
  have Flaw := fun_mk (st := top 71) llaw dlaw klaw
  have Fini := fun_mk (st := meth 0) lini dini kini
  have bini := Fini.binds (ps := ["self", "machines", "cleanings", "stuffs", "products"]) fun _ _ _ _ _ _ us hl => match us, hl with | [_, _, _, _, _], _ => rfl
  have Fstw := fun_mk (st := meth 12) lstw dstw kstw
  have bstw := Fstw.binds (ps := ["self"]) fun _ _ _ _ _ _ us hl => match us, hl with | [_], _ => rfl
  have Frew := fun_mk (st := meth 13) lrew drew krew
  have brew := Frew.binds (ps := ["self"]) fun _ _ _ _ _ _ us hl => match us, hl with | [_], _ => rfl
  have Fpin := fun_mk (st := pmeth 0) lpin dpin kpin
  have bpin := Fpin.binds (ps := ["self", "works", "deeds"]) fun _ _ _ _ _ _ us hl => match us, hl with | [_, _, _], _ => rfl
  have Fpm := fun_mk (st := meth 2) lpm dpm kpm
  have bpm := Fpm.binds (ps := ["self"]) fun _ _ _ _ _ _ us hl => match us, hl with | [_], _ => rfl
  have Fpc := fun_mk (st := meth 3) lpc dpc kpc
  have bpc := Fpc.binds (ps := ["self"]) fun _ _ _ _ _ _ us hl => match us, hl with | [_], _ => rfl
  have Fpp := fun_mk (st := meth 5) lpp dpp kpp
  have bpp := Fpp.binds (ps := ["self"]) fun _ _ _ _ _ _ us hl => match us, hl with | [_], _ => rfl
  have Fqd := fun_mk (st := pmeth 3) lqd dqd kqd
  have bqd := Fqd.binds (ps := ["self"]) fun _ _ _ _ _ _ us hl => match us, hl with | [_], _ => rfl
  have Frd := fun_mk (st := pmeth 1) lrd drd krd
  have brd := Frd.binds (ps := ["works", "text"]) fun _ _ _ _ _ _ us hl => match us, hl with | [_, _], _ => rfl
  have nW := PySem.W.mg_of X G aW
  have nP := PySem.W.mg_of X G aP
  have kbR : KBn K (PySem.W.fnOf "read" "Plan.read" (defArgs (pmeth 1)) (defBody (pmeth 1)) (defScope (pmeth 1)) .none kVrd dcrd pmrd anrd cdrd ctrd) ["works", "text"] 0 ["text", "works"] (fun us ws => us ++ ws.reverse) (fun vs zs => vs ++ zs.reverse) :=
    ⟨fun s us ws X l1 l2 => match us, l1, ws, l2 with | [], _, [_, _], _ => .of_eq rfl, fun r1 r2 => r1.append (by
      have rev : ∀ {vs : List V} {us : List Value}, Vals vs us → Vals vs.reverse us.reverse := by
        intro vs us r
        induction r with
        | nil => exact .nil
        | cons h t ih =>
          rw [List.reverse_cons, List.reverse_cons]
          exact ih.append (.cons h .nil)
      exact rev r2)⟩
  let T : List NTab := [(P1, lamName)]
  have only1 : ∀ r ∈ T, r.1 = P1 → r.2 = lamName := fun r hr e => by
    obtain rfl := List.mem_singleton.mp hr
    rfl
  have E : Empty K h [(c1, P1)] := by
    constructor
    · intro q hq
      obtain rfl := List.mem_singleton.mp hq
      exact TS _ inT
    · intro q hq
      obtain rfl := List.mem_singleton.mp hq
      exact t2
    · intro q hq
      obtain rfl := List.mem_singleton.mp hq
      exact PySem.W.codeHd_of_K X t1
  refine ⟨PySem.W.fnOf "law" "law" (defArgs (top 71)) (defBody (top 71)) (defScope (top 71)) .none kVlaw dclaw pmlaw anlaw cdlaw ctlaw, [(c1, P1)], spLaw T K, E, fun s v => .of_eq rfl, fun H a ns hl ht hS => ⟨a, ns, rfl, hS, hl, fun r hr => ?_, fun _ => rfl⟩, fun base XB GB TB => ?_⟩
  · obtain rfl := List.mem_singleton.mp hr
    exact ⟨#[], ht (c1, P1) (List.mem_cons_self ..), trivial, fun pos v hv => nomatch hv⟩
  · have TB1 := TB (c1, P1) (List.mem_cons_self ..)
    have GI := ok_int (P := l.prog) (w := w) (base := base) (mg := mg) Fint BI
    have GN := ok_name (P := l.prog) (w := w) (base := base) (mg := mg) Fnam BI m0 r0
    have GNd := ok_named (P := l.prog) (w := w) (base := base) (mg := mg) Fnmd BI GN nnam knam bnam
    have GB := ok_bnds (P := l.prog) (w := w) (base := base) (mg := mg) Fbnd BI GI nint kint bInt
    have GS := ok_shar (P := l.prog) (w := w) (base := base) (mg := mg) Fshr GNd nnmd knmd bnmd GB nbnd kbnd bbnd m5 r5
    have GL := ok_lim (P := l.prog) (w := w) (base := base) (mg := mg) Flim GNd nnmd knmd bnmd GI nint kint bInt m6 r6
    have GC := ok_cont (P := l.prog) (w := w) (base := base) (mg := mg) Fcon BI GNd nnmd knmd bnmd GB nbnd kbnd bbnd m6 r6
    have GF := ok_first (P := l.prog) (w := w) (base := base) (mg := mg) Ffst BI GS kshr bshr GL klim blim
    have GK := ok_check (P := l.prog) (w := w) (base := base) (mg := mg) (T := T) Fchk rfl TB1 (List.mem_cons_self ..) only1 BI Ffst GF nfst kfst bfst GC ncon kcon bcon nshr nlim m1 r1 m2 r2 m3 r3 m4 r4
    have GBy := ok_by (P := l.prog) (w := w) (base := base) (mg := mg) Fby BZ
    have GLi := ok_line (P := l.prog) (w := w) (base := base) (mg := mg) Flin 
    have GT := ok_text (P := l.prog) (w := w) (base := base) (mg := mg) Ftxt GLi nlin klin blin
    have GIn := ok_init (P := l.prog) (w := w) (base := base) (mg := mg) Fini WC GK nchk kchk bchk GBy nby kby bby GT ntxt ktxt btxt
    have GBt := ok_builtD (P := l.prog) (w := w) (base := base) (mg := mg) Fblt hT MK nW GIn bini
    have GD := ok_dip (P := l.prog) (w := w) (base := base) (mg := mg) Fdip Bl
    have GO := ok_one (P := l.prog) (w := w) (base := base) (mg := mg) Fone Bl Fdip bdip ndip
    have GLb := ok_labels (P := l.prog) (w := w) (base := base) (mg := mg) Flab BL GD ndip kdip bdip GO nOne kone bone
    have GSh := ok_shares (P := l.prog) (w := w) (base := base) (mg := mg) Flsh BD GD ndip kdip bdip GO nOne kone bone
    have GNs := ok_inside (P := l.prog) (w := w) (base := base) (mg := mg) Fins BD GD ndip kdip bdip GO nOne kone bone
    have GW := ok_world (P := l.prog) (w := w) (base := base) (mg := mg) Fwor BW GD ndip kdip bdip GO nOne kone bone GLb nlab klab blab GSh nlsh klsh blsh GNs nins kins bins
    have GJ := ok_jar (P := l.prog) (w := w) (base := base) (mg := mg) Fjar Bl
    have GStw := ok_str (P := l.prog) (w := w) (base := base) (mg := mg) Fstw WC BS
    have GRew := ok_repr (P := l.prog) (w := w) (base := base) (mg := mg) Frew WC BS
    have GReV := ok_reprW (P := l.prog) (w := w) (base := base) (mg := mg) Frew WC BS
    have GPM := ok_get2 (P := l.prog) (w := w) (base := base) (mg := mg) Fpm WC
    have GPC := ok_get3 (P := l.prog) (w := w) (base := base) (mg := mg) Fpc WC
    have GPP := ok_get5 (P := l.prog) (w := w) (base := base) (mg := mg) Fpp WC
    have GQD := ok_q3 (P := l.prog) (w := w) (base := base) (mg := mg) Fqd PCL
    have GCw := ok_cwV (P := l.prog) (w := w) (base := base) (mg := mg) Fcw BI nW eX
    have GNo := ok_no (P := l.prog) (w := w) (base := base) (mg := mg) Fnof BI
    have GPa := ok_paV (P := l.prog) (w := w) (base := base) (mg := mg) Fpas BI WC m9 r9 ⟨_, _, _, pLook_of pL (by repeat (first | exact List.mem_cons_self .. | apply List.mem_cons_of_mem)) apm rpm, GPM, bpm⟩ GNo nnof knof bnof
    have GId := ok_idV (P := l.prog) (w := w) (base := base) (mg := mg) Fisd BI WC ⟨_, _, _, pLook_of pL (by repeat (first | exact List.mem_cons_self .. | apply List.mem_cons_of_mem)) app rpp, GPP, bpp⟩ ⟨_, _, _, pLook_of pL (by repeat (first | exact List.mem_cons_self .. | apply List.mem_cons_of_mem)) apm rpm, GPM, bpm⟩ ⟨_, _, _, pLook_of pL (by repeat (first | exact List.mem_cons_self .. | apply List.mem_cons_of_mem)) apc rpc, GPC, bpc⟩ GNo nnof knof bnof GPa npas kpas bpas
    have GCd := ok_cdV (P := l.prog) (w := w) (base := base) (mg := mg) Fcds BI eI m7 r7 m8 r8 GId nisd kisd bisd
    have GLn := ok_ln (P := l.prog) (w := w) (base := base) (mg := mg) Fpln 
    have GCwN := ok_cwN (P := l.prog) (w := w) (base := base) (mg := mg) Fcw BI nW eX
    have GCdN := ok_cdN (P := l.prog) (w := w) (base := base) (mg := mg) Fcds BI eI m7 r7 m8 r8 GId nisd kisd bisd
    have GPi := ok_piN (P := l.prog) (w := w) (base := base) (mg := mg) Fpin PCL hT GCwN ncw kcw bcw GCdN ncds kcds bcds GLn npln kpln bpln
    have GRdd := ok_rdV (P := l.prog) (w := w) (base := base) (mg := mg) Frdd BI
    have GPr := ok_prV (P := l.prog) (w := w) (base := base) (mg := mg) Frd BI eT eI fitI GCw ncw kcw bcw GRdd nrdd krdd brdd MKP GPi nP bpin
    have GPg := ok_lpg (P := l.prog) (w := w) (base := base) (mg := mg) Fpag 
    have GLde := ok_lde (P := l.prog) (w := w) (base := base) (mg := mg) Flde BI hSe
    have GLf := ok_lf (P := l.prog) (w := w) (base := base) (mg := mg) Flfd BI GLde nlde klde blde
    have GLbe := ok_be (P := l.prog) (w := w) (base := base) (mg := mg) Flbe BI hLs GD ndip kdip bdip GO nOne kone bone
    have GLrd := ok_lrd (P := l.prog) (w := w) (base := base) (mg := mg) Flrd hRp nP PCL (mc := .type "type") ⟨s1, s2⟩ ⟨s3, ard, ⟨_, rrd⟩, krd⟩ GPr brd kbR ⟨_, _, _, pLook_of pL (by repeat (first | exact List.mem_cons_self .. | apply List.mem_cons_of_mem)) aqd rqd, GQD, bqd⟩ eT eX XF ⟨_, _, GReV, (MW "__repr__" grew (by repeat (first | exact List.mem_cons_self .. | apply List.mem_cons_of_mem))), brew⟩
    have GSd := ok_sd (P := l.prog) (w := w) (base := base) (mg := mg) Fsds BI hRg hMn GD ndip kdip bdip GO nOne kone bone
    have RT : Rt l.prog w K mg base C T := ⟨BR, WC, WI, NC, ⟨_, _, GD, ndip, kdip, bdip⟩, ⟨_, _, GO, nOne, kone, bone⟩, ⟨_, _, GW, nwor, kwor, bwor⟩, ⟨_, _, GBt, nblt, kblt, bblt⟩, ⟨_, _, GSd, nsds, ksds, bsds⟩, ⟨_, _, GPg, npag, kpag, bpag⟩, ⟨_, _, GLbe, nlbe, klbe, blbe⟩, ⟨_, _, GLf, nlfd, klfd, blfd⟩, ⟨_, _, GLrd, nlrd, klrd, blrd⟩, ⟨_, _, GRew, (MW "__repr__" grew (by repeat (first | exact List.mem_cons_self .. | apply List.mem_cons_of_mem))), brew⟩, ⟨_, _, GStw, (MW "__str__" gstw (by repeat (first | exact List.mem_cons_self .. | apply List.mem_cons_of_mem))), bstw⟩⟩
    have GR := ok_ri (P := l.prog) (w := w) (base := base) (mg := mg) Frig RT
    exact ok_law Flaw BM GR nrig krig brig GJ njar kjar bjar
end LJ
set_option Elab.async false
open PySem PySem.W PyProof.Rows
set_option maxRecDepth 100000 in
set_option maxHeartbeats 0 in
theorem PySem.Challenge.cw_tracebounds_k07_whole_texts_of_plans_holds : PySem.Challenge.rw_tracebounds_k07_whole_texts_of_plans.Holds := by
  w_on; o_law; k_head; (case hw => w_witness2)
  k_fill
  refine L2.walk_gt (l := PySem.Challenge.rw_tracebounds_k07_whole_texts_of_plans) (n := 63) (k := 13) (x := "_law_cells") rfl (by decide) rfl ⟨rfl, by decide, by decide⟩ ?F
  intro w mg fa h Y G hmg
  refine ⟨_, PySem.W.km_in_of Y, ?_⟩
  have TS := PySem.W.km_tabs_of Y
  refine' LJ.all_mk (P1 := 373) (PySem.W.km_in_of Y) G hmg TS ?aint ?lint ?dint ?kint ?anam ?lnam ?dnam ?knam ?aby ?lby ?dby ?kby ?achk ?lchk ?dchk ?kchk ?afst ?lfst ?dfst ?kfst ?ashr ?lshr ?dshr ?kshr ?alim ?llim ?dlim ?klim ?acon ?lcon ?dcon ?kcon ?anmd ?lnmd ?dnmd ?knmd ?abnd ?lbnd ?dbnd ?kbnd ?atxt ?ltxt ?dtxt ?ktxt ?alin ?llin ?dlin ?klin ?acw ?lcw ?dcw ?kcw ?anof ?lnof ?dnof ?knof ?acds ?lcds ?dcds ?kcds ?aisd ?lisd ?disd ?kisd ?apas ?lpas ?dpas ?kpas ?apln ?lpln ?dpln ?kpln ?ardd ?lrdd ?drdd ?krdd ?adip ?ldip ?ddip ?kdip ?aone ?lone ?done ?kone ?alab ?llab ?dlab ?klab ?alsh ?llsh ?dlsh ?klsh ?ains ?lins ?dins ?kins ?awor ?lwor ?dwor ?kwor ?ablt ?lblt ?dblt ?kblt ?asds ?lsds ?dsds ?ksds ?ajar ?ljar ?djar ?kjar ?apag ?lpag ?dpag ?kpag ?alde ?llde ?dlde ?klde ?alfd ?llfd ?dlfd ?klfd ?albe ?llbe ?dlbe ?klbe ?alrd ?llrd ?dlrd ?klrd ?arig ?lrig ?drig ?krig ?alaw ?llaw ?dlaw ?klaw ?aW ?aP ?aini ?lini ?dini ?kini ?astw ?lstw ?dstw ?kstw ?arew ?lrew ?drew ?krew ?apin ?lpin ?dpin ?kpin ?apm ?rpm ?lpm ?dpm ?kpm ?apc ?rpc ?lpc ?dpc ?kpc ?app ?rpp ?lpp ?dpp ?kpp ?aqd ?rqd ?lqd ?dqd ?kqd ?ard ?rrd ?lrd ?drd ?krd ?aEI ?iEI ?lEI ?dEI ?aEX ?iEX ?lEX ?dEX ?aET ?iET ?lET ?dET ?outL ?cL ?wL ?pcL ?mL ?pL ?iL ?nL ?sL ?eLI ?eLX ?eLT ?fL ?fI ?tL ?inT
  (case aint => k_is)
  (case lint => k_is)
  (case dint => k_is)
  (case kint => k_is)
  (case anam => k_is)
  (case lnam => k_is)
  (case dnam => k_is)
  (case knam => k_is)
  (case aby => k_is)
  (case lby => k_is)
  (case dby => k_is)
  (case kby => k_is)
  (case achk => k_is)
  (case lchk => k_is)
  (case dchk => k_is)
  (case kchk => k_is)
  (case afst => k_is)
  (case lfst => k_is)
  (case dfst => k_is)
  (case kfst => k_is)
  (case ashr => k_is)
  (case lshr => k_is)
  (case dshr => k_is)
  (case kshr => k_is)
  (case alim => k_is)
  (case llim => k_is)
  (case dlim => k_is)
  (case klim => k_is)
  (case acon => k_is)
  (case lcon => k_is)
  (case dcon => k_is)
  (case kcon => k_is)
  (case anmd => k_is)
  (case lnmd => k_is)
  (case dnmd => k_is)
  (case knmd => k_is)
  (case abnd => k_is)
  (case lbnd => k_is)
  (case dbnd => k_is)
  (case kbnd => k_is)
  (case atxt => k_is)
  (case ltxt => k_is)
  (case dtxt => k_is)
  (case ktxt => k_is)
  (case alin => k_is)
  (case llin => k_is)
  (case dlin => k_is)
  (case klin => k_is)
  (case acw => k_is)
  (case lcw => k_is)
  (case dcw => k_is)
  (case kcw => k_is)
  (case anof => k_is)
  (case lnof => k_is)
  (case dnof => k_is)
  (case knof => k_is)
  (case acds => k_is)
  (case lcds => k_is)
  (case dcds => k_is)
  (case kcds => k_is)
  (case aisd => k_is)
  (case lisd => k_is)
  (case disd => k_is)
  (case kisd => k_is)
  (case apas => k_is)
  (case lpas => k_is)
  (case dpas => k_is)
  (case kpas => k_is)
  (case apln => k_is)
  (case lpln => k_is)
  (case dpln => k_is)
  (case kpln => k_is)
  (case ardd => k_is)
  (case lrdd => k_is)
  (case drdd => k_is)
  (case krdd => k_is)
  (case adip => k_is)
  (case ldip => k_is)
  (case ddip => k_is)
  (case kdip => k_is)
  (case aone => k_is)
  (case lone => k_is)
  (case done => k_is)
  (case kone => k_is)
  (case alab => k_is)
  (case llab => k_is)
  (case dlab => k_is)
  (case klab => k_is)
  (case alsh => k_is)
  (case llsh => k_is)
  (case dlsh => k_is)
  (case klsh => k_is)
  (case ains => k_is)
  (case lins => k_is)
  (case dins => k_is)
  (case kins => k_is)
  (case awor => k_is)
  (case lwor => k_is)
  (case dwor => k_is)
  (case kwor => k_is)
  (case ablt => k_is)
  (case lblt => k_is)
  (case dblt => k_is)
  (case kblt => k_is)
  (case asds => k_is)
  (case lsds => k_is)
  (case dsds => k_is)
  (case ksds => k_is)
  (case ajar => k_is)
  (case ljar => k_is)
  (case djar => k_is)
  (case kjar => k_is)
  (case apag => k_is)
  (case lpag => k_is)
  (case dpag => k_is)
  (case kpag => k_is)
  (case alde => k_is)
  (case llde => k_is)
  (case dlde => k_is)
  (case klde => k_is)
  (case alfd => k_is)
  (case llfd => k_is)
  (case dlfd => k_is)
  (case klfd => k_is)
  (case albe => k_is)
  (case llbe => k_is)
  (case dlbe => k_is)
  (case klbe => k_is)
  (case alrd => k_is)
  (case llrd => k_is)
  (case dlrd => k_is)
  (case klrd => k_is)
  (case arig => k_is)
  (case lrig => k_is)
  (case drig => k_is)
  (case krig => k_is)
  (case alaw => k_is)
  (case llaw => k_is)
  (case dlaw => k_is)
  (case klaw => k_is)
  (case aW => k_is)
  (case aP => k_is)
  (case aini => k_is)
  (case lini => k_is)
  (case dini => k_is)
  (case kini => k_is)
  (case astw => k_is)
  (case lstw => k_is)
  (case dstw => k_is)
  (case kstw => k_is)
  (case arew => k_is)
  (case lrew => k_is)
  (case drew => k_is)
  (case krew => k_is)
  (case apin => k_is)
  (case lpin => k_is)
  (case dpin => k_is)
  (case kpin => k_is)
  (case apm => k_is)
  (case rpm => k_is)
  (case lpm => k_is)
  (case dpm => k_is)
  (case kpm => k_is)
  (case apc => k_is)
  (case rpc => k_is)
  (case lpc => k_is)
  (case dpc => k_is)
  (case kpc => k_is)
  (case app => k_is)
  (case rpp => k_is)
  (case lpp => k_is)
  (case dpp => k_is)
  (case kpp => k_is)
  (case aqd => k_is)
  (case rqd => k_is)
  (case lqd => k_is)
  (case dqd => k_is)
  (case kqd => k_is)
  (case ard => k_is)
  (case rrd => k_is)
  (case lrd => k_is)
  (case drd => k_is)
  (case krd => k_is)
  (case aEI => k_is)
  (case iEI => k_is)
  (case lEI => k_is)
  (case dEI => k_is)
  (case aEX => k_is)
  (case iEX => k_is)
  (case lEX => k_is)
  (case dEX => k_is)
  (case aET => k_is)
  (case iET => k_is)
  (case lET => k_is)
  (case dET => k_is)
  (case outL => kernel_rfl)
  (case cL => kernel_rfl)
  (case wL => kernel_rfl)
  (case pcL => kernel_rfl)
  (case mL => kernel_rfl)
  (case pL => kernel_rfl)
  (case iL => kernel_rfl)
  (case nL => kernel_rfl)
  (case sL => kernel_rfl)
  (case eLI => kernel_rfl)
  (case eLX => kernel_rfl)
  (case eLT => kernel_rfl)
  (case fL => kernel_rfl)
  (case fI => kernel_rfl)
  (case tL => kernel_rfl)
  (case inT => decide)
