import PyProof.Rows.All
import Wide.All
import OpenK.AllK
import Wide.FinOn
import HandS.ForSpec
import HandS.ForMost
import HandS.ExcInit
import HandS.ExcValue
import HandS.ExcIs
import HandS.ExcField
import HandS.MakeKwOnly
import KE.KExcInit
import HandS.IsInst
import PyProof.ReprRoads
import HandS.Nested
import HandS.Iter
import KE.GoesMore
import HandS.Flow
import HandS.WideBits
import HandS.Walk
import HandS.DictComp
import HandS.Zip
import HandS.FStr
import HandS.Text
import HandS.TryOnly
import HandS.Conv
import HandS.ClsMeth
import HandS.OwnEq
import HandS.Defaults
import HandS.RaiseMore
import PyProof.StrLawsRepr
import HandS.Property
import HandS.ExcOwn
import HandS.TupAny
import HandS.Star
import HandS.ExcInitHot
import HandS.RaiseFrom
import HandS.SuiteRaise
import HandS.Dict
import HandS.ForExc
import HandS.More
import HandS.Deep
import HandS.Exc
import HandS.Style
import HandS.EndTab
import KE.KNestM
import PySem.Challenge.RW_tracebounds_k29_whole_texts_of_rules
set_option Elab.async false
set_option linter.all false
set_option maxRecDepth 100000
set_option maxHeartbeats 4000000
/-! Errors of one's own, over any base, made by position or by name. -/
namespace PySem
namespace ErrV
open PySem.W PySem.Calls PyProof.Rows
open Builtin Builtin.ObjectAttr
/-- own classes in front, then the base's own row -/
def rowOver (B : List Value) : List Value → Bool
  | .ref _ :: r => rowOver B r
  | l => l == B
theorem rowOver_two (B l : List Value) (e : rowOver B l = true) :
    (∃ c r, l = .ref c :: r ∧ rowOver B r = true) ∨ l = B := by
  unfold rowOver at e
  split at e
  · exact .inl ⟨_, _, rfl, e⟩
  · exact .inr (beq_iff_eq.mp e)
/-- what is asked of the built-in base -/
structure BaseOk (B nw ini : String) (bm : List Value) : Prop where
  F : ExcBaseFacts B nw ini bm
  S : StoreFacts B bm "object.__setattr__" "object"
section
variable {B nw ini : String} {bm : List Value}
theorem rowOver_has (T : BaseOk B nw ini bm) (Y : String) :
    ∀ l : List Value, rowOver bm l = true → l.contains (.type Y) = bm.contains (.type Y) := by
  intro l
  induction l with
  | nil =>
    intro e
    rcases rowOver_two _ _ e with ⟨_, _, z, _⟩ | z
    · cases z
    · rw [z]
  | cons a r ih =>
    intro e
    rcases rowOver_two _ _ e with ⟨c, r1, z, h⟩ | z
    · obtain ⟨z1, z2⟩ := List.cons.inj z
      subst z1
      subst z2
      rw [List.contains_cons, ih h]
      rfl
    · rw [z]
theorem rowOver_lets (T : BaseOk B nw ini bm) (self : Value) :
    ∀ l : List Value, rowOver bm l = true → refuseLoop self "__setattr__" l = pure () := by
  intro l
  induction l with
  | nil =>
    intro e
    rcases rowOver_two _ _ e with ⟨_, _, z, _⟩ | z
    · cases z
    · rw [z]
      exact T.S.passes self
  | cons a r ih =>
    intro e
    rcases rowOver_two _ _ e with ⟨c, r1, z, h⟩ | z
    · obtain ⟨z1, z2⟩ := List.cons.inj z
      subst z1
      subst z2
      rw [refuseLoop_ref]
      exact ih h
    · rw [z]
      exact T.S.passes self
theorem rowOver_some (T : BaseOk B nw ini bm) {l : List Value} (e : rowOver bm l = true) : l.isEmpty = false := by
  cases l with
  | cons _ _ => rfl
  | nil =>
    have z := rowOver_has T B [] e
    rw [T.F.hasB] at z
    cases z
end
section
variable {prog : Program} {w : World} {A : Around} {E : Value → Shared → Prop} {R : Result → Shared → Prop}
variable {hp : Heap} {g : Array GenState} {d : Drawn} {t : Nat} {os : OsState} {B nw ini : String} {bmB : List Value}
/-- the object as BaseException.__new__ lays it -/
abbrev fresh (C u : Addr) (dd : Option Addr) : Obj :=
  { cls := .ref C, dict := dd, data := .fields #[.ref u, .none, .none, .none, .bool false, .none] }
/-- self.name = v where the error has no dict so far -/
theorem put_first {K : W.Frag} {name : Str} {tk : Tok} {v : Value} {x C u : Addr} {cd : ClassData} (T : BaseOk B nw ini bmB)
    (X : K.In hp) (hx : hp.get? x = some (fresh C u none)) (hcd : W.clsIn K C = some cd) (hm : rowOver bmB cd.mro = true)
    (hh : cd.hasDict = true) (ha : W.findIn K (.ref C) name = some none)
    (hq : ∀ h1 t1 dx, (∀ b o, b ≠ x → hp.get? b = some o → h1.get? b = some o) → hp.objs.size ≤ dx → dx ≠ x →
      h1.get? x = some (fresh C u (some dx)) → h1.Ns1 dx (fun y => if y = name then some v else none) →
      R (.ok (.ret .none)) ⟨h1, g, d, t1, os⟩) :
    codeAny (model prog w) A (.call (.builtin "object.__setattr__") ⟨[.ref x, .str name tk, v], []⟩) R ⟨hp, g, d, t, os⟩ := by
  have J : W.InstAt hp x (fresh C u none) C none := ⟨hx, rfl, rfl, trivial⟩
  have G := F.store_object
  have obj : cd.mro.contains (.type "object") = true := (rowOver_has T "object" _ hm).trans T.S.hasOwner
  have far : x ≠ hp.objs.size := Nat.ne_of_lt (Heap.lt_size hx)
  have of_obj : W.Looks (model prog w) hp (isInstance (.ref x) (.type "object")) true :=
    J.type.andThen (W.looks_mroIn X (by
      unfold W.mroIn
      rw [hcd, Option.bind_some, if_neg (by rw [rowOver_some T hm]; decide), obj]))
  refine codeAny_call_builtin G.slot.plain G.entry ?_
  refine @W.check_slot (model prog w) _ _ ⟨hp, g, d, t, os⟩ "object.__setattr__" "object" "__setattr__" (.ref x)
    [.str name tk, v] [] _ G.kind G.split of_obj (G.args (.ref x) (.str name tk) v) ?_
  have Lm : W.Looks (model prog w) hp (mroOf (.ref C)) cd.mro := (W.looks_clsIn X hcd).andThen .now
  have Lt : W.Looks (model prog w) hp (storeTaker? none) none := .now
  have Lc : W.Looks (model prog w) hp (classData C) cd := W.looks_clsIn X hcd
  rw [W.osa_eq, refuse_eq]
  refine wpAny_bind (wpAny_bind (J.type.at (wpAny_bind (Lm.at ?_))))
  rw [rowOver_lets T _ _ hm]
  refine wpAny_pure (wpAny_bind (J.type.at (wpAny_bind ((W.looks_findIn X ha).at (wpAny_bind (Lt.at ?_))))))
  show wpAny _ _ (storeInOwnDict (.ref x) (.ref C) (.str name tk) name v false) _ _ _
  obtain ⟨nm, bs, mro, ns, qn, hd, sn, sb, ab, col, del⟩ := cd
  dsimp only at hh
  subst hh
  unfold storeInOwnDict ownDictForStores
  repeat (first
    | with_reducible refine HandSPX.store_in_new ?_ ?_
    | with_reducible refine wpAny_loadPart_at hx ?_
    | with_reducible refine Lc.at ?_
    | wp_step)
  · refine ⟨_, #[], _, (Heap.get?_update_ne _ _ _ _ far.symm).trans (Heap.get?_push_at rfl rfl), rfl, ?_, fun _ => rfl⟩
    intro e he
    exact absurd he (by simp)
  · intro h1 t1 hn same
    have hx1 : (hp.push { cls := .type "dict", data := .dict #[] }).get? x = some (fresh C u none) := Heap.get?_push_of_some _ hx
    refine hq h1 t1 hp.objs.size (fun b o hb ho => ?_) (Nat.le_refl _) far.symm ?_ hn
    · refine (same.2 b (Nat.ne_of_lt (Heap.lt_size ho))).trans ?_
      exact (Heap.get?_update_ne _ _ _ _ hb).trans (Heap.get?_push_of_some _ ho)
    · exact (same.2 x far).trans (Heap.get?_update_self _ hx1 rfl)
end
/-! ### the class is called -/
section
variable {prog : Program} {w : World} {A : Around} {E : Value → Shared → Prop} {R : Result → Shared → Prop} {h : Heap}
variable {g : Array GenState} {d : Drawn} {t : Nat} {os : OsState} {M : Model}
variable {nm q : Str} {C N : Addr} {bs bm bmB : List Value} {hdct : Bool} {sn : List Str} {sub : List Value} {ab : Bool}
variable {col : Option Bool} {dd : Option Addr} {k0 k1 k2 k3 k5 : Option Value} {B nw ini : String}
variable {rest : List Value} {kw : List (Str × Value)}
theorem new_checked (F : ExcBaseFacts B nw ini bmB) (hT : ∀ Y : String, bm.contains (.type Y) = bmB.contains (.type Y)) {Q : Unit → Shared → Prop}
    (hC : h.get? C = some (excClassObj nm q C N bs bm hdct sn sub ab col dd k0 k1 k2 k3 k5 nw)) (hq : Q () ⟨h, g, d, t, os⟩) :
    wpAny M A (checkBuiltinCall nw ⟨.ref C :: rest, kw⟩) Q E ⟨h, g, d, t, os⟩ := by
  have inB : (Value.ref C :: bm).contains (.type B) = true := by
    rw [List.contains_cons, hT, F.hasB, Bool.or_true]
  have ns := F.noStar
  simp only [checkBuiltinCall, F.newKind, F.newSplit, F.newRow]
  repeat (first
    | refine wpAny_loadPart_at hC ?_
    | (refine wpAny_isSubtype_exc hC ?_; rw [inB])
    | refine wpAny_staticBase_exc hC ?_
    | refine wpAny_madeBy_exc hC ?_
    | simp only [bne_self_eq_false, Bool.false_eq_true, if_false]
    | wp_step)
  exact hq
theorem new_laid (F : ExcBaseFacts B nw ini bmB) (hT : ∀ Y : String, bm.contains (.type Y) = bmB.contains (.type Y))
    (hC : h.get? C = some (excClassObj nm q C N bs bm hdct sn sub ab col dd k0 k1 k2 k3 k5 nw)) (hrest : rest.length ≤ sizeLine)
    (hq : R (.ok (.ret (.ref (h.objs.size + 1)))) ⟨(h.push (W.kdv_tup rest)).push (fresh C h.objs.size none), g, d, t, os⟩) :
    codeAny (model prog w) A (.builtin nw ⟨.ref C :: rest, kw⟩) R ⟨h, g, d, t, os⟩ := by
  have ends := F.ends
  have inB : (Value.ref C :: bm).contains (.type B) = true := by
    rw [List.contains_cons, hT, F.hasB, Bool.or_true]
  have noA : (Value.ref C :: bm).contains (.type "AttributeError") = false := by
    rw [List.contains_cons, hT, F.noAttr]
    rfl
  have noN : (Value.ref C :: bm).contains (.type "NameError") = false := by
    rw [List.contains_cons, hT, F.noName]
    rfl
  refine codeAny_builtinAt F.entry ?_
  unfold Builtin.«BaseException.__new__»
  refine wpAt_bind ?_
  show wpAt _ _ _ (stack >>= _) _ _ _
  refine wpAt_bind (wpAt_stack fun p below => wpAt_of_wpAny ?_)
  wp_walk
  refine wpAt_of_wpAny ?_
  rw [F.owner]
  repeat (first
    | with_reducible refine wpAny_madeHere_exc F.canon hC ?_
    | with_reducible refine wpAny_loadPart_at hC ?_
    | (with_reducible refine wpAny_isSubtype_exc hC ?_; first | rw [inB] | rw [noA] | rw [noN])
    | wp_step)
  show R _ _
  rw [Heap.size_push]
  exact hq
theorem type_called (F : ExcBaseFacts B nw ini bmB) (hT : ∀ Y : String, bm.contains (.type Y) = bmB.contains (.type Y)) {fI : Addr} {Q : Fin → Shared → Prop}
    (hC : h.get? C = some (excClassObj nm q C N bs bm hdct sn sub ab col dd k0 k1 k2 k3 k5 nw)) (hrest : rest.length ≤ sizeLine)
    (hi : W.Looks (model prog w) h (typeLookup (.ref C) "__init__") (some (.ref fI)))
    (hb : ∀ self, W.Looks (model prog w) h (bindSpecial (.ref fI) self) (.ref fI, [self]))
    (hq : codeAny (model prog w) A (.call (.ref fI) ⟨.ref (h.objs.size + 1) :: rest, kw⟩)
      (fun r s1 => match r with
        | .ok (.ret v) => v = .none ∧ Q (.done (.ret (.ref (h.objs.size + 1)))) s1
        | .ok _ => False
        | .error e => E e s1)
      ⟨(h.push (W.kdv_tup rest)).push (fresh C h.objs.size none), g, d, t, os⟩) :
    wpAny (model prog w) A (Builtin.«type.__call__» ⟨.ref C :: rest, kw⟩) Q E ⟨h, g, d, t, os⟩ := by
  repeat (first
    | with_reducible refine wpAny_loadPart_at hC ?_
    | with_reducible refine wpAny_madeBy_exc hC ?_
    | wp_step)
  refine codeAny_call_builtin_code (Code.quiet_builtin _ F.quiet) (new_checked F hT hC ?_)
  refine new_laid F hT hC hrest ?_
  show wpAny _ _ _ _ _ _
  have k : ∀ b o, h.get? b = some o → ((h.push (W.kdv_tup rest)).push (fresh C h.objs.size none)).get? b = some o :=
    fun b o e => Heap.get?_push_of_some _ (Heap.get?_push_of_some _ e)
  have hC1 := k _ _ hC
  have at1 : ((h.push (W.kdv_tup rest)).push (fresh C h.objs.size none)).get? (h.objs.size + 1) = some (fresh C h.objs.size none) := by
    heap_get
  have inC : (Value.ref C :: bm).contains (.ref C) = true := by simp
  have i1 := hi.keeps k
  have b1 := (hb (.ref (h.objs.size + 1))).keeps k
  unfold isInstance
  repeat (first
    | with_reducible refine wpAny_loadPart_at at1 ?_
    | (with_reducible refine wpAny_isSubtype_exc hC1 ?_; rw [inC])
    | wp_step)
  show wpAny _ _ (typeLookup (.ref C) _) _ _ _
  refine i1.at ?_
  refine wpAny_holding (wpAny_bind (b1.at ?_))
  refine wpAny_bind (wpAny_call (codeAny_mono hq fun r s1 z => ?_))
  rcases r with e | (v | _ | _ | _) <;> first | exact z | exact z.elim | skip
  obtain ⟨rfl, z⟩ := z
  first
    | exact wpAny_pure (wpAny_pure z)
    | (wp_walk; exact z)
theorem call_checked {Q : Unit → Shared → Prop}
    (hC : h.get? C = some (excClassObj nm q C N bs bm hdct sn sub ab col dd k0 k1 k2 k3 k5 nw)) (hq : Q () ⟨h, g, d, t, os⟩) :
    wpAny M A (checkBuiltinCall "type.__call__" ⟨.ref C :: rest, kw⟩) Q E ⟨h, g, d, t, os⟩ := by
  have f3 := tc_sub
  have isT : (⟨h, g, d, t, os⟩ : Shared).TypeIs (.ref C) "type" := ⟨_, hC, rfl⟩
  simp only [checkBuiltinCall, tc_kind, tc_split]
  repeat (any_goals (first
    | assumption
    | with_reducible refine wpAny_loadPart_at hC ?_
    | with_reducible refine wpAny_onRaise ?_
    | with_reducible refine wpAny_map ?_
    | wp_step))
theorem class_called (F : ExcBaseFacts B nw ini bmB) (hT : ∀ Y : String, bm.contains (.type Y) = bmB.contains (.type Y)) {fI : Addr}
    (hC : h.get? C = some (excClassObj nm q C N bs bm hdct sn sub ab col dd k0 k1 k2 k3 k5 nw)) (hrest : rest.length ≤ sizeLine)
    (hi : W.Looks (model prog w) h (typeLookup (.ref C) "__init__") (some (.ref fI)))
    (hb : ∀ self, W.Looks (model prog w) h (bindSpecial (.ref fI) self) (.ref fI, [self]))
    (hq : codeAny (model prog w) (A.under (.builtin "type.__call__" ⟨.ref C :: rest, kw⟩)) (.call (.ref fI) ⟨.ref (h.objs.size + 1) :: rest, kw⟩)
      (W.InitBack (h.objs.size + 1) R) ⟨(h.push (W.kdv_tup rest)).push (fresh C h.objs.size none), g, d, t, os⟩) :
    codeAny (model prog w) A (.call (.ref C) ⟨rest, kw⟩) R ⟨h, g, d, t, os⟩ := by
  have f1 := tc_lookup
  have f2 := tc_bind (.ref C)
  have isT : (⟨h, g, d, t, os⟩ : Shared).TypeIs (.ref C) "type" := ⟨_, hC, rfl⟩
  refine codeAny_of_tree ?_
  show wpAny _ _ (callAny (.ref C) _) _ _ _
  repeat (any_goals (first
    | assumption
    | with_reducible refine wpAny_loadPart_at hC ?_
    | wp_step))
  refine ⟨rfl, ?_⟩
  refine codeAny_call_builtin_at (Code.quiet_builtin _ (by decide +kernel)) entry_typeCall ?_
  refine call_checked hC (type_called F hT hC hrest hi hb ?_)
  refine codeAny_mono hq fun r s1 z => ?_
  rcases r with e | (v | _ | _ | _) <;> exact z
end
end ErrV
end PySem
set_option Elab.async false
set_option linter.all false
set_option maxRecDepth 100000
set_option maxHeartbeats 4000000
namespace PySem
namespace ErrV
open PySem.W PySem.Calls PyProof.Rows
/-! ### the text of an error's __init__ -/
def eA (f : Str) (p1 p2 : Pos) : Arguments :=
  { posonlyargs := [], args := [{ arg := "self", annotation := none, pos := p1 }, { arg := f, annotation := none, pos := p2 }], vararg := none, kwonlyargs := [], kw_defaults := [], kwarg := none, defaults := [] }
def eB (f : Str) (q1 q2 q3 q4 : Pos) : List Stmt := [.Assign [.Attribute (.Name "self" q1) f q2] (.Name f q3) q4]
def eS (f : Str) : Scope :=
  { kind := .function, names := [(PySem.Str.ofString "self", .local), (f, .local)], isGenerator := false, isCoroutine := false, more := [] }
/-- what the written part says of an error's class, at C, and of its __init__, at fI -/
structure ErrC (K : Frag) (mg : Str → Option Value) (x f : Str) (C fI : Addr) (nw : String) (bmB : List Value) : Prop where
  gC : mg x = some (.ref C)
  cls : ∃ nm q N bs bm sn sub ab col dd k0 k1 k2 k3 k5,
    K.lookup C = some (excClassObj nm q C N bs bm true sn sub ab col dd k0 k1 k2 k3 k5 nw) ∧ rowOver bmB bm = true
  sa : findIn K (.ref C) "__setattr__" = some (some (.builtin "object.__setattr__"))
  noN : findIn K (.ref C) f = some none
  iC : findIn K (.ref C) "__init__" = some (some (.ref fI))
  tC : typeIn K (.ref fI) = some (.type "function")
  kC : keepIn K (.ref C) = true
  fn : ∃ (qual : Str) (oc : Value) (od : Option Addr) (doc pm : Value) (an : Option Addr) (cdv ct : Value) (osl : Array (Option Value)) (p1 p2 q1 q2 q3 q4 : Pos),
    K.lookup fI = some ⟨oc, od, .func (fnOf "__init__" qual (eA f p1 p2) (eB f q1 q2 q3 q4) (eS f) .none .none doc pm an cdv ct), osl⟩ ∧ codeIn K cdv qual = true
theorem ldL {M : Model} {s : Shared} {name : Str} {scope : Scope} {L a : Addr} {cd : Value} {m : Str → Option Value} {x : Str} {pos : Pos} {v : Value}
    {Q : Value → Shared → Prop} {A : Around} {E : Value → Shared → Prop} (hn : s.heap.Ns L m) (hv : m x = some v) (h : Q v s)
    (hk : scope.kind = .function := by rfl) (hl : (envOfC name scope L a cd).kindOf x = some .local := by rfl) (hd : (x == ("__debug__" : Str)) = false := by decide) :
    wpAny M A (eval (.Name x pos) (envOfC name scope L a cd)) Q E s :=
  wpAny_Name (wpAny_loadName_local hk hl hn hv h) hd
section
variable {prog : Program} {w : World} {A : Around} {E : Value → Shared → Prop} {R : Result → Shared → Prop} {s : Shared}
variable {K : Frag} {mg : Str → Option Value} {n f : Str} {C fI : Addr} {B nw ini : String} {bmB : List Value}
/-- __init__(self, f): self.f = f -/
theorem init_run (hf : f = "given" ∨ f = "index") (T : ErrC K mg n f C fI nw bmB) (Bo : BaseOk B nw ini bmB) {x t0 : Addr} {v : Value} {args : Args}
    (hargs : args = ⟨[.ref x, v], []⟩ ∨ args = ⟨[.ref x], [(f, v)]⟩)
    (X : K.In s.heap) (hlim : s.heap.NoLimit) (hx : s.heap.get? x = some (fresh C t0 none)) (hroom : A.depth < recursionLimit)
    (hq : ∀ h1 tk dx, (∀ b o, b ≠ x → s.heap.get? b = some o → h1.get? b = some o) → h1.get? x = some (fresh C t0 (some dx)) → s.heap.objs.size ≤ dx → dx ≠ x →
      h1.Ns1 dx (fun y => if y = f then some v else none) → R (.ok (.ret .none)) { s with heap := h1, toks := tk }) :
    codeAny (model prog w) A (.call (.ref fI) args) R s := by
  obtain ⟨qual, oc, od, doc, pm, an, cdv, ct, osl, p1, p2, q1, q2, q3, q4, ho, hcd⟩ := T.fn
  obtain ⟨nm, q, N, bs, bm, sn, sub, ab, col, dd, k0, k1, k2, k3, k5, hC, hbm⟩ := T.cls
  have hcl : clsIn K C = some { name := nm, bases := bs, mro := .ref C :: bm, ns := N, qualname := q, hasDict := true, slotNames := sn, subclasses := sub, abstract := ab, collection := col, hasDel := false } := by
    unfold clsIn
    rw [hC] <;> rfl
  have noN := T.noN
  have sa := T.sa
  clear T hC
  rcases hf with rfl | rfl
  · refine Att.call_fn (binds := [("self", .ref x), ("given", v)]) X hlim ho hcd hroom ?_ (by first | rfl | decide | with_unfolding_all rfl) (fun s1 IC => ?_) rfl rfl rfl
    · rcases hargs with rfl | rfl
      · exact BindsTo.of_eq (by first | rfl | with_unfolding_all rfl)
      · exact BindsTo.of_eq (by first | rfl | with_unfolding_all rfl)
    · obtain ⟨h1, tk1, rfl⟩ := IC.toInCall.same
      have k : ∀ b o, s.heap.get? b = some o → h1.get? b = some o := IC.toInCall.keep
      have hn := IC.toInCall.ns
      have far : s.heap.objs.size ≠ x := Nat.ne_of_gt (Heap.lt_size hx)
      have X1 : K.In h1 := X.keeps k
      have hx1 := k _ _ hx
      show wpAny _ _ (execs _ _) _ _ _
      refine wpAny_execs_cons (plainObj_wpAny_Assign_Attribute ?_)
      refine ldL (v := v) hn (by first | rfl | with_unfolding_all rfl | kernel_rfl) ?_
      refine ldL (v := .ref x) hn (by first | rfl | with_unfolding_all rfl | kernel_rfl) ?_
      refine set_plain X1 (ox := fresh C t0 none) (od := none) ⟨hx1, rfl, rfl, trivial⟩ sa ?_
      refine put_first Bo X1 hx1 hcl (show rowOver bmB (.ref C :: bm) = true from hbm) rfl noN (fun h3 tk3 dx k3 big ne hx3 hn3 => ?_)
      show wpAny _ _ (execs _ _) _ _ _
      have z : s.heap.objs.size < h1.objs.size := hn.lt
      exact wpAny_execs_nil (hq h3 tk3 dx (fun b o hb e => k3 b o hb (k b o e)) hx3 (Nat.le_of_lt (Nat.lt_of_lt_of_le z big)) ne hn3)
  · refine Att.call_fn (binds := [("self", .ref x), ("index", v)]) X hlim ho hcd hroom ?_ (by first | rfl | decide | with_unfolding_all rfl) (fun s1 IC => ?_) rfl rfl rfl
    · rcases hargs with rfl | rfl
      · exact BindsTo.of_eq (by first | rfl | with_unfolding_all rfl)
      · exact BindsTo.of_eq (by first | rfl | with_unfolding_all rfl)
    · obtain ⟨h1, tk1, rfl⟩ := IC.toInCall.same
      have k : ∀ b o, s.heap.get? b = some o → h1.get? b = some o := IC.toInCall.keep
      have hn := IC.toInCall.ns
      have far : s.heap.objs.size ≠ x := Nat.ne_of_gt (Heap.lt_size hx)
      have X1 : K.In h1 := X.keeps k
      have hx1 := k _ _ hx
      show wpAny _ _ (execs _ _) _ _ _
      refine wpAny_execs_cons (plainObj_wpAny_Assign_Attribute ?_)
      refine ldL (v := v) hn (by first | rfl | with_unfolding_all rfl | kernel_rfl) ?_
      refine ldL (v := .ref x) hn (by first | rfl | with_unfolding_all rfl | kernel_rfl) ?_
      refine set_plain X1 (ox := fresh C t0 none) (od := none) ⟨hx1, rfl, rfl, trivial⟩ sa ?_
      refine put_first Bo X1 hx1 hcl (show rowOver bmB (.ref C :: bm) = true from hbm) rfl noN (fun h3 tk3 dx k3 big ne hx3 hn3 => ?_)
      show wpAny _ _ (execs _ _) _ _ _
      have z : s.heap.objs.size < h1.objs.size := hn.lt
      exact wpAny_execs_nil (hq h3 tk3 dx (fun b o hb e => k3 b o hb (k b o e)) hx3 (Nat.le_of_lt (Nat.lt_of_lt_of_le z big)) ne hn3)
/-- a made error: at e, its dict at d -/
structure Made (h h1 : Heap) (e C d : Addr) (f : Str) (v : Value) : Prop where
  keep : ∀ b o, h.get? b = some o → h1.get? b = some o
  big : h.objs.size ≤ e
  obj : ∃ u, h1.get? e = some (fresh C u (some d))
  dbig : h.objs.size ≤ d
  ne : d ≠ e
  ns : h1.Ns1 d (fun y => if y = f then some v else none)
theorem err_made (hf : f = "given" ∨ f = "index") (T : ErrC K mg n f C fI nw bmB) (Bo : BaseOk B nw ini bmB) {v : Value} {rest : List Value} {kw : List (Str × Value)}
    (hargs : (rest = [v] ∧ kw = []) ∨ (rest = [] ∧ kw = [(f, v)])) (X : K.In s.heap) (hlim : s.heap.NoLimit) (hroom : A.depth + 1 < recursionLimit)
    (hq : ∀ h1 tk e d, Made s.heap h1 e C d f v → R (.ok (.ret (.ref e))) { s with heap := h1, toks := tk }) :
    codeAny (model prog w) A (.call (.ref C) ⟨rest, kw⟩) R s := by
  obtain ⟨nm, q, N, bs, bm, sn, sub, ab, col, dd, k0, k1, k2, k3, k5, hC, hbm⟩ := T.cls
  obtain ⟨hp, g, dr, tk, os⟩ := s
  have sz : rest.length ≤ sizeLine := by
    rw [sizeLine_eq]
    rcases hargs with ⟨rfl, _⟩ | ⟨rfl, _⟩
    · exact (by decide : 1 ≤ 16777216)
    · exact (by decide : 0 ≤ 16777216)
  have k : ∀ b o, hp.get? b = some o → ((hp.push (kdv_tup rest)).push (fresh C hp.objs.size none)).get? b = some o :=
    fun b o e => Heap.get?_push_of_some _ (Heap.get?_push_of_some _ e)
  have at1 : ((hp.push (kdv_tup rest)).push (fresh C hp.objs.size none)).get? (hp.objs.size + 1) = some (fresh C hp.objs.size none) := by heap_get
  refine class_called Bo.F (fun Y => rowOver_has Bo Y bm hbm) (X _ _ hC) sz (looks_findIn X T.iC) (fun self => bind_fn X self T.tC) ?_
  refine init_run (s := ⟨(hp.push (kdv_tup rest)).push (fresh C hp.objs.size none), g, dr, tk, os⟩) (x := hp.objs.size + 1) hf T Bo (v := v) ?_ (X.keeps k) (hlim.keeps k) at1 ?_ ?_
  · rcases hargs with ⟨rfl, rfl⟩ | ⟨rfl, rfl⟩
    · exact .inl rfl
    · exact .inr rfl
  · rw [L2.make_depth]
    exact hroom
  · intro h1 tk1 dx k1 hx big ne hns
    have old : ∀ b o, hp.get? b = some o → h1.get? b = some o :=
      fun b o e => k1 b o (Nat.ne_of_lt (Nat.lt_succ_of_lt (Heap.lt_size e))) (k b o e)
    have z : hp.objs.size + 1 + 1 ≤ dx := by
      have q := big
      simp only [Heap.size_push] at q
      exact q
    exact ⟨rfl, hq h1 tk1 (hp.objs.size + 1) dx ⟨old, Nat.le_succ _, ⟨_, hx⟩, Nat.le_trans (Nat.le_trans (Nat.le_succ _) (Nat.le_succ _)) z, ne, hns⟩⟩
end
/-! ### an error whose __init__ does nothing -/
def eA0 (p1 : Pos) : Arguments :=
  { posonlyargs := [], args := [{ arg := "self", annotation := none, pos := p1 }], vararg := none, kwonlyargs := [], kw_defaults := [], kwarg := none, defaults := [] }
def eS0 : Scope := { kind := .function, names := [(PySem.Str.ofString "self", .local)], isGenerator := false, isCoroutine := false, more := [] }
structure PassC (K : Frag) (mg : Str → Option Value) (x : Str) (C fI : Addr) (nw : String) (bmB : List Value) : Prop where
  gC : mg x = some (.ref C)
  cls : ∃ nm q N bs bm sn sub ab col dd k0 k1 k2 k3 k5,
    K.lookup C = some (excClassObj nm q C N bs bm true sn sub ab col dd k0 k1 k2 k3 k5 nw) ∧ rowOver bmB bm = true
  iC : findIn K (.ref C) "__init__" = some (some (.ref fI))
  tC : typeIn K (.ref fI) = some (.type "function")
  kC : keepIn K (.ref C) = true
  fn : ∃ (qual : Str) (oc : Value) (od : Option Addr) (doc pm : Value) (an : Option Addr) (cdv ct : Value) (osl : Array (Option Value)) (p1 q1 : Pos),
    K.lookup fI = some ⟨oc, od, .func (fnOf "__init__" qual (eA0 p1) [.Pass q1] eS0 .none .none doc pm an cdv ct), osl⟩ ∧ codeIn K cdv qual = true
section
variable {prog : Program} {w : World} {A : Around} {E : Value → Shared → Prop} {R : Result → Shared → Prop} {s : Shared}
variable {K : Frag} {mg : Str → Option Value} {n : Str} {C fI : Addr} {B nw ini : String} {bmB : List Value}
theorem pass_made (T : PassC K mg n C fI nw bmB) (Bo : BaseOk B nw ini bmB) (X : K.In s.heap) (hlim : s.heap.NoLimit) (hroom : A.depth + 1 < recursionLimit)
    (hq : ∀ h1 tk e u, (∀ b o, s.heap.get? b = some o → h1.get? b = some o) → s.heap.objs.size ≤ e → h1.get? e = some (fresh C u none) → R (.ok (.ret (.ref e))) { s with heap := h1, toks := tk }) :
    codeAny (model prog w) A (.call (.ref C) ⟨[], []⟩) R s := by
  obtain ⟨nm, q, N, bs, bm, sn, sub, ab, col, dd, k0, k1, k2, k3, k5, hC, hbm⟩ := T.cls
  obtain ⟨qual, oc, od, doc, pm, an, cdv, ct, osl, p1, q1, ho, hcd⟩ := T.fn
  obtain ⟨hp, g, dr, tk, os⟩ := s
  have k : ∀ b o, hp.get? b = some o → ((hp.push (kdv_tup [])).push (fresh C hp.objs.size none)).get? b = some o :=
    fun b o e => Heap.get?_push_of_some _ (Heap.get?_push_of_some _ e)
  have at1 : ((hp.push (kdv_tup [])).push (fresh C hp.objs.size none)).get? (hp.objs.size + 1) = some (fresh C hp.objs.size none) := by heap_get
  refine class_called Bo.F (fun Y => rowOver_has Bo Y bm hbm) (X _ _ hC) (by rw [sizeLine_eq]; exact (by decide : 0 ≤ 16777216)) (looks_findIn X T.iC) (fun self => bind_fn X self T.tC) ?_
  have room1 : (A.under (.builtin "type.__call__" ⟨.ref C :: [], []⟩)).depth < recursionLimit := by
    rw [L2.make_depth]
    exact hroom
  refine Att.call_fn (s := ⟨(hp.push (kdv_tup [])).push (fresh C hp.objs.size none), g, dr, tk, os⟩) (binds := [("self", .ref (hp.objs.size + 1))]) (X.keeps k) (hlim.keeps k) ho hcd room1 (BindsTo.of_eq (by first | rfl | with_unfolding_all rfl))
    (by first | rfl | decide | with_unfolding_all rfl) (fun s1 IC => ?_) rfl rfl rfl
  obtain ⟨h1, tk1, rfl⟩ := IC.toInCall.same
  have kk : ∀ b o, ((hp.push (kdv_tup [])).push (fresh C hp.objs.size none)).get? b = some o → h1.get? b = some o := IC.toInCall.keep
  show wpAny _ _ (execs [.Pass q1] _) _ _ _
  refine wpAny_execs_cons ?_
  have fin : InitBack (hp.objs.size + 1) R (.ok (.ret .none)) ⟨h1, g, dr, tk1, os⟩ :=
    ⟨rfl, hq h1 tk1 (hp.objs.size + 1) hp.objs.size (fun b o e => kk b o (k b o e)) (Nat.le_succ _) (kk _ _ at1)⟩
  first
    | exact wpAny_Pass (wpAny_execs_nil fin)
    | (wp_walk; exact fin)
end
end ErrV
end PySem
set_option Elab.async false
set_option linter.all false
set_option maxRecDepth 100000
set_option maxHeartbeats 4000000
/-! The hand layer's rules for errors held as values. -/
namespace L2
open PySem PySem.Spec PyProof.Rows PySem.ErrV
section
variable {fs ex : List Addr} {H : Hp} {h h1 : Heap} {a b : Addr} {o u : HO}
/-- two new objects at once -/
theorem Un.two (k : ∀ c z, h.get? c = some z → h1.get? c = some z) (ha : h.objs.size ≤ a) (hb : h.objs.size ≤ b) (na : H a = none) (nb : H b = none) :
    Un fs ex H (upd (upd H a o) b u) h h1 := by
  have oa : ∀ {c : Addr} {z : Obj}, h.get? c = some z → c ≠ a := fun {c z} q => Nat.ne_of_lt (Nat.lt_of_lt_of_le (Heap.lt_size q) ha)
  have ob : ∀ {c : Addr} {z : Obj}, h.get? c = some z → c ≠ b := fun {c z} q => Nat.ne_of_lt (Nat.lt_of_lt_of_le (Heap.lt_size q) hb)
  exact {
    keep := fun c z q _ _ _ => k c z q
    slot := fun c z q _ _ _ => ⟨z.slots, k c z q⟩
    free := fun c z q n _ => by
      rw [upd_ne (ob q), upd_ne (oa q)]
      exact n
    there := fun c z q _ => ⟨z, k c z q⟩
    tups := fun c xs q => by
      rw [upd_ne (ne_of_none q nb), upd_ne (ne_of_none q na)]
      exact q
    frzs := fun c z xs q => by
      rw [upd_ne (ne_of_none q nb), upd_ne (ne_of_none q na)]
      exact q
    tbls := fun c ps q => ⟨#[], by
      rw [upd_ne (ne_of_none q nb), upd_ne (ne_of_none q na), q]
      simp⟩ }
theorem HOk.two {P : Program} {w : World} (x : HOk P w H h) (k : ∀ c z, h.get? c = some z → h1.get? c = some z) (na : H a = none) (nb : H b = none) (ne : a ≠ b)
    (oka : ObjOk P w (upd (upd H a o) b u) h1 a o) (okb : ObjOk P w (upd (upd H a o) b u) h1 b u) : HOk P w (upd (upd H a o) b u) h1 := fun c z e => by
  by_cases cb : c = b
  · subst cb
    rw [upd_same] at e
    cases e
    exact okb
  · rw [upd_ne cb] at e
    by_cases ca : c = a
    · subst ca
      rw [upd_same] at e
      cases e
      exact oka
    · rw [upd_ne ca] at e
      have up : ∀ {y : Addr} {v : HO}, H y = some v → upd (upd H a o) b u y = some v := fun {y v} q => by
        rw [upd_ne (ne_of_none q nb), upd_ne (ne_of_none q na)]
        exact q
      exact (x c z e).stay (fun y v _ q => k y v q) (fun y q => up q) fun y xs q => up q
end
section
variable {X : Cx} {C fI : Addr} {x f : Str} {B nw ini : String} {bmB : List Value} {e : Expr} {p pos : Pos} {te : TE}
/-- C(e): a new error whose dict has the one field -/
def tErr (C : Addr) (f : Str) (te : TE) : TE := fun σ H Q => te σ H fun v H1 => ∀ a d, H1 a = none → H1 d = none → d ≠ a → Q (.ref a) (upd (upd H1 d (exd d [(f, v)])) a (exo a C (some d)))
theorem err_end {pins : List (Addr × Obj)} {σ : St} {H1 : Hp} {s1 : Shared} {h1 : Heap} {tk : Nat} {a d : Addr} {y : V} {u : Value} {Q : VK} (I : Inv X pins σ H1 s1) (ry : RelV y u) (m : Made s1.heap h1 a C d f u)
    (q : ∀ a d, H1 a = none → H1 d = none → d ≠ a → Q (.ref a) (upd (upd H1 d (exd d [(f, y)])) a (exo a C (some d)))) : EP X pins σ Q (.ref a) { s1 with heap := h1, toks := tk } := by
  have na : H1 a = none := I.hok.fresh m.big
  have nd : H1 d = none := I.hok.fresh m.dbig
  obtain ⟨t, ob⟩ := m.obj
  refine ⟨.ref a, _, I.un (t' := tk) (Un.two m.keep m.dbig m.big nd na) (I.hok.two m.keep nd na m.ne ?_ (exo_ok ob)), rfl, q a d na nd m.ne⟩
  exact exd_ok m.ns (relO_put (fs := []) ry fun g => True.intro)
theorem pe_err (hf : f = "given" ∨ f = "index") (T : ErrC X.K X.mg x f C fI nw bmB) (Bo : BaseOk B nw ini bmB) (hr : Room 1 X.A) (hg : Gl X x) (he : PE X e te)
    (hs : starEach [e] X.env = (false, eval e X.env) :: starEach [] X.env := by rfl) (hdb : (x == ("__debug__" : Str)) = false := by decide) :
    PE X (.Call (.Name x p) [e] [] pos) (tErr C f te) := by
  refine ⟨fun pins s σ H Q I h => ?_⟩
  refine wpAny_Call_Name_kw (ld_glob I hg T.gC ?_ hdb)
  refine PySem.W.callWith_K (h₀ := X.base) I.ok.mod.kin T.kC ?_ hs (by rfl)
  rw [hs]
  show wpAny _ _ (spliced ((false, eval e X.env) :: backTo pos (starEach [] X.env))) _ _ s
  refine Calls.spliced_cons (thn (he.run pins s σ H _ I h) fun u s1 ⟨v, H1, I1, r1, q1⟩ => ?_)
  refine Calls.spliced_nil ⟨I1.kIn, ?_⟩
  show wpAny _ _ (call (.ref C) [u]) _ _ _
  refine wpAny_call (err_made hf T Bo (v := u) (.inl ⟨rfl, rfl⟩) I1.kIn I1.nolimit (by have := hr.dp; omega) fun h1 tk a d m => ?_)
  exact err_end I1 r1 m q1
theorem pe_errK {kpos : Pos} (hf : f = "given" ∨ f = "index") (T : ErrC X.K X.mg x f C fI nw bmB) (Bo : BaseOk B nw ini bmB) (hr : Room 1 X.A) (hg : Gl X x) (he : PE X e te)
    (hall : (backToKw pos (keywordEach [⟨some f, e, kpos⟩] X.env)).all (·.1.isSome) = true := by rfl) (hks : (backToKw pos (keywordEach [⟨some f, e, kpos⟩] X.env)).filterMap (·.1) = [f] := by rfl)
    (hpl : ((backTo pos (starEach [] X.env)).any (·.1) || (backToKw pos (keywordEach [⟨some f, e, kpos⟩] X.env)).any (·.1.isNone)) = false := by rfl) (hdb : (x == ("__debug__" : Str)) = false := by decide) :
    PE X (.Call (.Name x p) [] [⟨some f, e, kpos⟩] pos) (tErr C f te) := by
  refine ⟨fun pins s σ H Q I h => ?_⟩
  refine wpAny_Call_Name_kw (ld_glob I hg T.gC ?_ hdb)
  refine PySem.W.callWith_KW0 (h₀ := X.base) I.ok.mod.kin T.kC hall ?_ hpl
  have hk : PK X [⟨some f, e, kpos⟩] (tCons te tNil) := pk_cons he pk_nil
  refine thn (hk.run pos pins s σ H (fun zs H2 => match zs with
    | [v] => ∀ a d, H2 a = none → H2 d = none → d ≠ a → Q (.ref a) (upd (upd H2 d (exd d [(f, v)])) a (exo a C (some d)))
    | _ => False) I h) fun ws s2 ⟨zs, H2, I2, rz, q2⟩ => ⟨I2.kIn, ?_⟩
  rw [hks]
  cases rz with
  | nil => exact q2.elim
  | @cons v u vs us rv rr =>
    cases rr with
    | cons _ _ => exact q2.elim
    | nil =>
      show wpAny _ _ (call (.ref C) [] [(f, u)]) _ _ _
      refine wpAny_call (err_made hf T Bo (v := u) (.inr ⟨rfl, rfl⟩) I2.kIn I2.nolimit (by have := hr.dp; omega) fun h1 tk a d m => ?_)
      exact err_end I2 rv m q2
end
section
variable {X : Cx} {e : Expr} {f : Str} {pos : Pos} {te : TE}
/-- e.f, e an error -/
def tEf (K : PySem.W.Frag) (f : Str) (te : TE) : TE := fun σ H Q => te σ H fun x H1 => ∃ (a C d : Addr) (fs : List (Str × V)) (v : V), x = .ref a ∧ XfC K C ∧ PySem.W.findIn K (.ref C) f = some none ∧
  H1 a = some (exo a C (some d)) ∧ H1 d = some (exd d fs) ∧ fs.lookup f = some v ∧ Q v H1
theorem pe_ef (he : PE X e te) (hb : attributeBase e f X.env (eval e X.env) = eval e X.env := by rfl) : PE X (.Attribute e f pos) (tEf X.K f te) := by
  refine ⟨fun pins s σ H Q I h => ?_⟩
  refine attr_of hb (thn (he.run pins s σ H _ I h) fun u s1 hh => ?_)
  obtain ⟨x, H1, I1, rx, a, C, d, fs, v, ex, T, hno, ea, ed, l, q⟩ := hh
  subst ex
  obtain rfl : u = Value.ref a := rx
  obtain ⟨t1, ho⟩ := exo_at I1.hok ea
  obtain ⟨mA, hns, hr⟩ := exd_at I1.hok ed
  obtain ⟨od, hd, hl⟩ := lookIn_ns hns
  obtain ⟨u, hu, ru⟩ := RelO.some_of (v := v) (o := mA f) (by rw [← l]; exact hr f)
  have J : PySem.W.InstAt s1.heap a _ C (some od) := ⟨ho, rfl, rfl, hd⟩
  exact HandSPX.exc_get I1.kIn J T.ga T.gg T.exC (PySem.W.findObj_own T.hdC hno rfl (by rw [hl, hu])) (handed_of ru) ⟨v, H1, I1.tok _, ru, q⟩
end
/-! ### isinstance of such a value -/
end L2
namespace PySem.W
open PySem PySem.Spec PySem.Calls PyProof.Rows
section
variable {prog : Program} {w : World} {A : Around} {E : Value → Shared → Prop} {s : Shared} {K : Frag} {x D : Addr} {ox : Obj} {od : Option Obj}
theorem data_found {C : Addr} {name : Str} {a g : Value} (hc : (clsIn K C).isSome = true) (ha : findIn K (.ref C) name = some (some a)) (hg : specialIn K a "__get__" = some (some g))
    (ht : takesIn K a = some true) : findObj K C od name = some (.bind g a) := by
  obtain ⟨cd, e⟩ := Option.isSome_iff_exists.mp hc
  unfold findObj
  rw [e, Option.bind_some, ha, Option.bind_some]
  simp only [hg, ht, Option.bind_some]
theorem errv_class {Q : Option Value → Shared → Prop} (c : L2.ExcC K D) (X : K.In s.heap) (I : InstAt s.heap x ox D od) (h : Q (some (.ref D)) { s with toks := s.toks + 1 }) :
    wpAny (model prog w) A (getAttr? (.ref x) "__class__") Q E s := by
  have hf : findObj K D od "__class__" = some (.bind (.builtin "getset_descriptor.__get__") (.builtin "object.__class__")) :=
    data_found (by obtain ⟨cd, hc, _⟩ := any_some c.hd; rw [hc]; rfl) c.ha c.hn c.ht
  obtain ⟨hp, g, d, t, os⟩ := s
  have ty := I.type (M := model prog w)
  have ga := looks_findIn (M := model prog w) X c.hg
  have gt := looks_findIn (M := model prog w) X c.hk
  have fd := looks_find (M := model prog w) X I hf
  have isB : Looks (model prog w) hp (isInstance (.ref x) (.type "BaseException")) true := ty.andThen (looks_subIn X c.hs)
  have n0 : (false && onTheHeap (Value.builtin "BaseException.__getattribute__")) = false := rfl
  have n2 : (Value.builtin "BaseException.__getattribute__" == Value.builtin "object.__getattribute__") = false := by decide +kernel
  have n1 : (onTheHeap (Value.ref D) && Value.builtin "BaseException.__getattribute__" == Value.builtin "object.__getattribute__") = false := by
    rw [n2]
    rfl
  unfold getAttr? getAttrBy? getAttrBy
  refine wpAny_bind (wpAny_mkText (wpAny_bind (wpAny_attempt (wpAny_holding (wpAny_bind (ty.at (wpAny_bind (ga.at ?_))))))))
  show wpAny _ _ (if (onTheHeap (Value.ref D) && Value.builtin "BaseException.__getattribute__" == Value.builtin "object.__getattribute__") = true then _ else _) _ _ _
  rw [n1, if_neg Bool.false_ne_true]
  unfold getAttrByItsOwn hookBefore
  refine wpAny_bind ?_
  rw [if_pos (show onTheHeap (Value.ref D) = true from rfl)]
  refine gt.at ?_
  refine wpAny_bind (wpAny_attempt (wpAny_holding ?_))
  unfold callGetattribute
  rw [n0, if_neg Bool.false_ne_true]
  unfold boundAndCalled
  rw [PySem.F.excAttr_ValueError.ga.bind (.ref x)]
  refine wpAny_bind (wpAny_pure ?_)
  show wpAny _ _ (call (.builtin "BaseException.__getattribute__") [.ref x, .str "__class__" t]) _ _ _
  refine wpAny_call (codeAny_call_builtin PySem.F.excAttr_ValueError.ga.plain PySem.F.entry_bexc_ga ?_)
  refine @check_slot (model prog w) _ _ ⟨hp, g, d, t + 1, os⟩ "BaseException.__getattribute__" "BaseException" "__getattribute__" (.ref x)
    [.str "__class__" t] [] _ (by decide +kernel) (by decide +kernel) isB (PySem.F.args_bexc_ga (.ref x) (.str "__class__" t)) ?_
  unfold Builtin.«object.__getattribute__»
  refine wpAny_bind (wpAny_of_eq (a := ((Value.ref x : Value), [Value.str "__class__" t])) (by first | rfl | (simp only [slotArgs]; rfl)) ?_)
  refine wpAny_bind (wpAny_pure (wpAny_bind (ty.at (wpAny_bind (fd.at ?_)))))
  show wpAny _ _ (holding [Value.builtin "object.__class__"] (call (.builtin "getset_descriptor.__get__") [.builtin "object.__class__", .ref x, .ref D]) >>= ret) _ _ _
  refine wpAny_bind (wpAny_holding (wpAny_call (class_get (s := ⟨hp, g, d, t + 1, os⟩) (ox := ox) (od := od) X I c.hm ?_)))
  refine wpAny_pure ?_
  show wpAny _ _ (handedOut (.ref D)) _ _ _
  rw [handedOut_of (v := .ref D) rfl]
  first
    | exact wpAny_pure (wpAny_pure h)
    | exact wpAny_pure h
    | exact wpAny_pure (wpAny_bind (wpAny_pure (wpAny_pure h)))
theorem errv_kit (c : L2.ExcC K D) : KitX K (.ref x) (.ref D) (fun h => ∃ ox od, InstAt h x ox D od) where
  ty := fun _ _ _ ⟨_, _, I⟩ => I.type
  it := fun _ _ X _ => by
    obtain ⟨cd, hc, _⟩ := any_some c.hd
    unfold clsIn at hc
    split at hc
    · rename_i ho
      intro A1 Q1 E1 s1 k q
      unfold isType loadHead
      exact wpAny_bind (wpAny_loadPart (k _ _ (X _ _ ho)) (wpAny_pure q))
    · cases hc
  ne := fun h tp dd its n sl X htp => by
    obtain ⟨cd, hc, _⟩ := any_some c.hd
    refine Bool.eq_false_iff.mpr fun q => ?_
    have e : D = tp := Value.ref.inj (beq_iff_eq.mp q)
    subst e
    unfold clsIn at hc
    split at hc
    · rename_i ho
      have z := (X _ _ ho).symm.trans htp
      cases z
    · cases hc
  ca := fun X ⟨_, _, I⟩ k => errv_class c X I k
end
end PySem.W
namespace L2
open PySem PySem.Spec PyProof.Rows PySem.ErrV
/-- isinstance(e, c), e an error that is held as a value -/
def rIsErr (K : PySem.W.Frag) : List V → Hp → VK → Prop := fun xs H Q => ∃ (a C : Addr) (d : Option Addr) (c : V) (cv : Value) (b : Bool), xs = [.ref a, c] ∧ H a = some (exo a C d) ∧ (∀ z, d = some z → ∃ fs, H z = some (exd z fs)) ∧ ExcC K C ∧
  ClsV c cv ∧ PySem.W.kitOne K (.ref C) cv = some b ∧ Q (.bl b) H
theorem call_isErr {X : Cx} : CallR X (.builtin "isinstance") (rIsErr X.K) := by
  intro pins s σ H xs us Q I r h
  obtain ⟨a, C, d, c, cv, b, rfl, ea, hd, c0, hcv, e, q⟩ := h
  cases r with
  | cons rx rr =>
    cases rr with
    | cons rt rr =>
      cases rr
      cases rx
      obtain ⟨t1, ho⟩ := exo_at I.hok ea
      have J : ∃ ox od, PySem.W.InstAt s.heap a ox C od := by
        cases d with
        | none => exact ⟨_, none, ho, rfl, rfl, trivial⟩
        | some z =>
          obtain ⟨o, eo⟩ := hd z rfl
          obtain ⟨_, ⟨oz, _, _, gz, _⟩, _⟩ := exd_at I.hok eo
          exact ⟨_, some oz, ho, rfl, rfl, gz⟩
      have ec := hcv.eq rt
      subst ec
      exact PySem.W.kia_one (PySem.W.errv_kit c0) I.kIn J e (fun z => nomatch z) fun tk => ⟨.bl b, H, I.kept (t' := tk) fun _ _ z => z, rfl, q⟩
end L2
set_option Elab.async false
set_option linter.all false
set_option maxRecDepth 100000
set_option maxHeartbeats 4000000
/-! repr of data that the hand layer tracks. -/
namespace L2
open PySem PySem.Spec PyProof.Rows
mutual
/-- x is the datum d, its lists and tuples standing in H -/
def rp (H : Hp) : PyData → V → Prop
  | .none, x => x = .non
  | .bool b, x => x = .bl b
  | .int i, x => x = .int i
  | .str z, x => x = .str z
  | .list ds, x => ∃ (a : Addr) (xs : List V), x = .ref a ∧ H a = some (.lst xs) ∧ rpAll H ds xs
  | .tuple ds, x => ∃ (a : Addr) (xs : List V), x = .ref a ∧ H a = some (.tup xs) ∧ rpAll H ds xs
  | .dict _, _ => False
def rpAll (H : Hp) : List PyData → List V → Prop
  | [], xs => xs = []
  | d :: ds, xs => ∃ (y : V) (ys : List V), xs = y :: ys ∧ rp H d y ∧ rpAll H ds ys
end
section
variable {P : Program} {w : World} {H : Hp} {h : Heap}
mutual
theorem rp_reads (ok : HOk P w H h) : ∀ (d : PyData) (x : V) (u : Value), rp H d x → RelV x u → d.hasDict = false ∧ ∃ as, Reads h u d as
  | .none, x, u, e, r => by
    unfold rp at e
    subst e
    obtain rfl : u = Value.none := r
    exact ⟨rfl, _, .none⟩
  | .bool b, x, u, e, r => by
    unfold rp at e
    subst e
    obtain rfl : u = Value.bool b := r
    exact ⟨rfl, _, .bool b⟩
  | .int i, x, u, e, r => by
    unfold rp at e
    subst e
    obtain ⟨t, rfl⟩ : ∃ t, u = Value.int i t := r
    exact ⟨rfl, _, .int i t⟩
  | .str z, x, u, e, r => by
    unfold rp at e
    subst e
    obtain ⟨t, rfl⟩ : ∃ t, u = Value.str z t := r
    exact ⟨rfl, _, .str z t⟩
  | .list ds, x, u, e, r => by
    unfold rp at e
    obtain ⟨a, xs, rfl, ea, q⟩ := e
    obtain rfl : u = Value.ref a := r
    obtain ⟨_, its, n, rv, g⟩ := (show ObjOk P w H h a (.lst xs) from ok a _ ea)
    obtain ⟨nd, as, R⟩ := rpAll_reads ok ds xs its q rv
    exact ⟨by simpa only [PyData.hasDict] using nd, _, .list g rfl rfl (by simpa using R)⟩
  | .tuple ds, x, u, e, r => by
    unfold rp at e
    obtain ⟨a, xs, rfl, ea, q⟩ := e
    obtain rfl : u = Value.ref a := r
    obtain ⟨_, its, rv, o, g, c, n, dd⟩ := (show ObjOk P w H h a (.tup xs) from ok a _ ea)
    obtain ⟨nd, as, R⟩ := rpAll_reads ok ds xs its q rv
    exact ⟨by simpa only [PyData.hasDict] using nd, _, .tuple g c dd (by simpa using R)⟩
  | .dict _, x, u, e, r => by
    unfold rp at e
    exact e.elim
theorem rpAll_reads (ok : HOk P w H h) : ∀ (ds : List PyData) (xs : List V) (us : List Value), rpAll H ds xs → Vals xs us → PyData.hasDictAll ds = false ∧ ∃ as, ReadsAll h us ds as
  | [], xs, us, e, r => by
    unfold rpAll at e
    subst e
    cases r
    exact ⟨rfl, _, .nil⟩
  | d :: ds, xs, us, e, r => by
    unfold rpAll at e
    obtain ⟨y, ys, rfl, e1, e2⟩ := e
    cases r with
    | cons r1 r2 =>
      obtain ⟨n1, as, R1⟩ := rp_reads ok d y _ e1 r1
      obtain ⟨n2, bs, R2⟩ := rpAll_reads ok ds ys _ e2 r2
      exact ⟨by simp only [PyData.hasDictAll, n1, n2, Bool.or_self], _, .cons R1 R2⟩
end
/-- a key of a dict as a datum -/
def kdat0 : Key → PyData
  | .inl i => .int i
  | .inr z => .str z
/-- a dict whose values are flat -/
def rpD (H : Hp) (d : PyData) (x : V) : Prop := ∃ (a : Addr) (kvs : List (Key × V)) (ds : List (PyData × PyData)), x = .ref a ∧ H a = some (.dK kvs) ∧ d = .dict ds ∧
  Paired (fun (p : Key × V) (q : PyData × PyData) => q.1 = kdat0 p.1 ∧ rp (fun _ => none) q.2 p.2) kvs ds
theorem key_reads {k : Key} {v : Value} (e : keyIs k v = true) : Reads h v (kdat0 k) [] := by
  rcases keyIs_shape e with ⟨i, t, rfl, rfl⟩ | ⟨z, t, rfl, rfl⟩
  · exact .int i t
  · exact .str z t
theorem nothing_ok : HOk P w (fun _ => none) h := fun a o e => by cases e
/-- flat data stand nowhere -/
theorem flat_reads {d : PyData} {x : V} {u : Value} (e : rp (fun _ => none) d x) (r : RelV x u) : Reads h u d [] := by
  cases d with
  | none =>
    unfold rp at e
    subst e
    obtain rfl : u = Value.none := r
    exact .none
  | bool b =>
    unfold rp at e
    subst e
    obtain rfl : u = Value.bool b := r
    exact .bool b
  | int i =>
    unfold rp at e
    subst e
    obtain ⟨t, rfl⟩ : ∃ t, u = Value.int i t := r
    exact .int i t
  | str z =>
    unfold rp at e
    subst e
    obtain ⟨t, rfl⟩ : ∃ t, u = Value.str z t := r
    exact .str z t
  | list ds =>
    unfold rp at e
    obtain ⟨a, xs, _, q, _⟩ := e
    cases q
  | tuple ds =>
    unfold rp at e
    obtain ⟨a, xs, _, q, _⟩ := e
    cases q
  | dict ds =>
    unfold rp at e
    exact e.elim
theorem rpD_reads (ok : HOk P w H h) {d : PyData} {x : V} {u : Value} (e : rpD H d x) (r : RelV x u) : ∃ as, sysModules ∉ as ∧ Reads h u d as := by
  obtain ⟨a, kvs, ds, rfl, ea, rfl, q⟩ := e
  obtain rfl : u = Value.ref a := r
  obtain ⟨_, sys, vs, kv, o, es, ep, g, ex, dd, _, prs, _⟩ := (show ObjOk P w H h a (.dK kvs) from ok a _ ea)
  have hc : o.cls = .type "dict" := ex.1
  have both : ∀ {l : List (Key × V)} {m : List (Key × Value)} {c : List (PyData × PyData)} {el : List DictEntry}, KV l m → Pairs (mixKind P w) el m →
      Paired (fun (p : Key × V) (q : PyData × PyData) => q.1 = kdat0 p.1 ∧ rp (fun _ => none) q.2 p.2) l c →
      ReadsAll h (el.map (·.key)) (c.map (·.1)) [] ∧ ReadsAll h (el.map (·.val)) (c.map (·.2)) [] := by
    intro l
    induction l with
    | nil =>
      intro m c el k1 k2 k3
      cases k1
      cases k2
      cases k3
      exact ⟨.nil, .nil⟩
    | cons p l ih =>
      intro m c el k1 k2 k3
      cases k1 with
      | cons ka kb =>
        cases k2 with
        | cons ia ib ic =>
          cases k3 with
          | cons ja jb =>
            obtain ⟨i1, i2⟩ := ih kb ic jb
            obtain ⟨k0, kr⟩ := ka
            obtain ⟨j0, jr⟩ := ja
            rw [← k0] at ia
            refine ⟨?_, ?_⟩
            · have z := ReadsAll.cons (j0 ▸ key_reads ia) i1
              simpa using z
            · have z := ReadsAll.cons (flat_reads jr (ib ▸ kr)) i2
              simpa using z
  obtain ⟨r1, r2⟩ := both kv prs q
  refine ⟨_, ?_, .dict g hc dd r1 r2⟩
  simp only [List.append_nil, List.mem_singleton]
  intro z
  rw [z, beq_self_eq_true] at sys
  cases sys
end
section
variable {X : Cx}
/-- repr(x), x data -/
def rRepr : List V → Hp → VK → Prop := fun xs H Q => ∃ (x : V) (d : PyData), xs = [x] ∧ (rp H d x ∨ rpD H d x) ∧ d.showable = true ∧ d.depth ≤ 100 ∧ d.shown.length ≤ sizeLine ∧ Q (.str d.shown) H
theorem call_repr_data (hg : X.A.guards = some []) (hu : X.A.units + 150 < cLine) : CallR X (.builtin "repr") rRepr := by
  intro pins s σ H xs us Q I r h
  obtain ⟨x, d, rfl, hd, sh, dp, sz, q⟩ := h
  obtain ⟨u, rfl, ru⟩ : ∃ u, us = [u] ∧ RelV x u := by
    cases r with
    | cons r1 r2 =>
      cases r2
      exact ⟨_, rfl, r1⟩
  obtain ⟨as, hs, R⟩ : ∃ as, (d.hasDict = true → sysModules ∉ as) ∧ Reads s.heap u d as := by
    rcases hd with hd | hd
    · obtain ⟨nd, as, R⟩ := rp_reads I.hok d x u hd ru
      exact ⟨as, PyData.noDict_hsm nd, R⟩
    · obtain ⟨as, nm, R⟩ := rpD_reads I.hok hd ru
      exact ⟨as, fun _ => nm, R⟩
  have byRef : ∀ {a : Addr}, u = .ref a → wpAny (model X.prog X.w) X.A (call (.builtin "repr") [u]) (EP X pins σ Q) X.xe s := fun {a} e => by
    subst e
    exact repr_of_reads' R sh hs hg (by omega) (fun _ _ z => z) (fun h1 v tk k => ⟨.str d.shown, H, I.kept (t' := tk) k, ⟨_, rfl⟩, q⟩) sz
  cases R with
  | none => exact PySem.P.repr_of_none ⟨.str _, H, I.tok _, ⟨_, rfl⟩, q⟩
  | bool b => exact PySem.P.repr_of_bool ⟨.str _, H, I.tok _, ⟨_, rfl⟩, q⟩
  | int i t => exact PySem.P.repr_of_int (by simpa only [PyData.showable, decide_eq_true_eq] using sh) ⟨.str _, H, I.tok _, ⟨_, rfl⟩, q⟩
  | str z t => exact PySem.P.repr_of_str ⟨.str _, H, I.tok _, ⟨_, rfl⟩, q⟩ sz
  | list => exact byRef rfl
  | tuple => exact byRef rfl
  | dict => exact byRef rfl
end
end L2
set_option Elab.async false
set_option linter.all false
set_option maxRecDepth 100000
set_option maxHeartbeats 4000000
/-! Defs that are called where no repr is under way (so that repr of lists and dicts may be asked in them). -/
namespace L2
open PySem PySem.Spec PyProof.Rows
/-- the def at f keeps the promise sp wherever it is called with no guard standing; nothing is raised out of it -/
structure FnG (P : Program) (w : World) (K : PySem.W.Frag) (mg : Str → Option Value) (base : Heap) (k : Nat) (f : Addr) (fd : FuncData) (ps : List Str) (sp : Sp) : Prop where
  len : ∀ vs H Q E, sp vs H Q E → vs.length = ps.length
  run : ∀ (A : Around) (outer : List Env) (s : Shared) (H : Hp) (args : Args) (us : List Value) (vs : List V) (Q : VK), A.guards = some [] → Room k A →
    Env0 P w K mg base A outer s H → BindsTo s fd args (ps.zip us) → Vals vs us → sp vs H Q E0 → codeAny (model P w) A (.call (.ref f) args) (CR CX0 outer P w H s Q E0) s
section
variable {P : Program} {w : World} {K : PySem.W.Frag} {mg : Str → Option Value} {base : Heap} {k : Nat} {f : Addr} {fd : FuncData} {N ps : List Str} {sp : Sp}
theorem FnOk.toG (F : FnOk P w K mg base CX0 k f fd ps sp) : FnG P w K mg base k f fd ps sp :=
  ⟨F.len, fun A outer s H args us vs Q _ hr e0 hb r h => F.run A outer s H args us vs Q E0 hr e0 hb r h⟩
theorem Fun.okG {x qual : Str} {st : Stmt} (F : Fun K x qual st f fd) (S : FnScope N ps (defScope st)) (len : ∀ vs H Q E, sp vs H Q E → vs.length = ps.length)
    (hbody : ∀ (cdv : Value) (A : Around) (outer : List Env) (s : Shared) (H : Hp) (vs : List V) (Q : VK), A.guards = some [] → Room k (A.deeper (envOfC qual (defScope st) s.heap.objs.size f cdv)) → sp vs H Q E0 →
      ∃ t, PSs (cxOf CX0 P w K mg base N qual (defScope st) f cdv A outer s H E0).nox (defBody st) t ∧ t { nx := fun _ H1 => Q .non H1, rt := Q } (start N vs) H) :
    FnG P w K mg base (k + 1) f fd ps sp := by
  obtain ⟨oc, od, kV, doc, pm, an, cdv, ct, osl, rfl, lk, hcd⟩ := F.ex
  refine ⟨len, fun A outer s H args us vs Q hg hr e0 hb r hsp => ?_⟩
  have hl := len _ _ _ _ hsp
  have up : ∀ b o, base.get? b = some o → s.heap.get? b = some o := fun b o e => (e0.bs b o e).1
  have X1 : K.In s.heap := e0.mod.kin.keeps up
  have nl : s.heap.NoLimit := e0.mod.nolimit.keeps up
  have slots : ∀ y ∈ ps.zip us, (defScope st).names.lookup y.1 = some .local ∨
      ((defScope st).names.lookup y.1 = some .cell ∧ ((cellsFrom (s.heap.objs.size + 1) (defScope st).names []).lookup y.1).isSome = true) := fun ⟨n, v⟩ hy =>
    (S.par n (List.of_mem_zip hy).1).elim (fun q => .inl q) fun q => .inr ⟨q, PySem.W.cellsFrom_some _ _ _ (.inl q)⟩
  refine codeAny_call_function hr.depth (X1 _ _ lk) rfl S.co S.gen rfl (PySem.W.codeRec_of X1 hcd) (hb _ _ _ _ ?_)
  refine wpAny_newFunctionEnv_cells S.kind slots fun env he s1 x1 => ?_
  subst he
  refine ⟨nl.keeps x1.toInCall.keep, codeAny_func ?_⟩
  obtain ⟨t, ht, hq⟩ := hbody cdv A outer s H vs Q hg (hr.deeper _) hsp
  have J : Inv (cxOf CX0 P w K mg base N qual (defScope st) f cdv A outer s H E0) [] (start N vs) H s1 := inv_start S hr.hd e0 hl r x1
  refine wpAny_mono (ht.nox.run [] s1 (start N vs) H _ J hq) (fun fl s2 hs => ?_) fun e s2 hs => hs
  cases fl with
  | ret u =>
    obtain ⟨v, σ1, H1, I1, rv, q⟩ := hs
    exact ⟨v, H1, I1.os, I1.bare, I1.base, I1.hok, rv, q⟩
  | next =>
    obtain ⟨σ1, H1, I1, q⟩ := hs
    exact ⟨.non, H1, I1.os, I1.bare, I1.base, I1.hok, rfl, q⟩
  | brk =>
    obtain ⟨_, _, _, q⟩ := hs
    exact q.elim
  | cont =>
    obtain ⟨_, _, _, q⟩ := hs
    exact q.elim
end
section
variable {X : Cx} {k : Nat} {f : Addr} {fd : FuncData} {ps : List Str} {sp : Sp} {x : Str} {p pos : Pos} {e : Expr} {es : List Expr} {t : TA}
theorem run_g {pins : List (Addr × Obj)} {σ : St} {H : Hp} {s : Shared} {Q : VK} {us : List Value} {vs : List V} (F : FnG X.prog X.w X.K X.mg X.base k f fd ps sp) (hg : X.A.guards = some []) (hr : Room k X.A) (hb : Binds X.K fd ps [])
    (I : Inv X pins σ H s) (r : Vals vs us) (h : sp vs H Q E0) : wpAny (model X.prog X.w) X.A (call (.ref f) us) (EP X pins σ Q) X.xe s := by
  have hl : us.length = ps.length := by
    rw [← r.length]
    exact F.len _ _ _ _ h
  have b := hb s us I.kIn (by rw [List.append_nil]; exact hl)
  rw [List.append_nil] at b
  refine wpAny_call (codeAny_mono (F.run X.A X.stack s H ⟨us, []⟩ us vs Q hg hr I.env0 b r h) fun r1 s1 hq => ?_)
  cases r1 with
  | error er => exact hq.elim
  | ok fl =>
    cases fl with
    | ret u => exact I.after hq
    | next => exact False.elim hq
    | brk => exact False.elim hq
    | cont => exact False.elim hq
/-- f(e, ..) of such a def -/
theorem pe_callNG (F : FnG X.prog X.w X.K X.mg X.base k f fd ps sp) (hgd : X.A.guards = some []) (hr : Room k X.A) (hg : Gl X x) (hm : X.mg x = some (.ref f)) (hk : PySem.W.keepIn X.K (.ref f) = true) (hb : Binds X.K fd ps [])
    (ha : PA X (e :: es) t) (hdb : (x == ("__debug__" : Str)) = false := by decide) (he : starEach (e :: es) X.env = (false, eval e X.env) :: starEach es X.env := by rfl)
    (hpl : (backTo pos (starEach es X.env)).any (·.1) = false := by rfl) : PE X (.Call (.Name x p) (e :: es) [] pos) (fun σ H Q => t σ H fun vs H1 => sp vs H1 Q E0) := by
  refine ⟨fun pins s σ H Q I h => ?_⟩
  refine wpAny_Call_Name_kw (ld_glob I hg hm ?_ hdb)
  exact PySem.W.callWith_K (h₀ := X.base) I.ok.mod.kin hk (thn (ha.run pos pins s σ H _ I h) fun us s1 ⟨vs, H1, I1, r, q⟩ => ⟨I1.kIn, run_g F hgd hr hb I1 r q⟩) he hpl
end
/-! ### the law's own call -/
section
variable {P : Program} {w : World} {K : PySem.W.Frag} {mg mb : Str → Option Value} {k : Nat} {fa a : Addr} {fd : FuncData} {x : Str} {sp : Sp} {s1 : Shared} {vs : List Value} {ns : List Int}
theorem law_callG_at (KX : K.In s1.heap) (hns : s1.heap.Ns mainGlobals mg) (hb : s1.heap.Ns builtinsNs mb) (hbb : ∀ y : Str, y ≠ "__name__" → mb y = bootBuiltins y) (hlim : s1.heap.NoLimit) (hgn : s1.gens = #[])
    (ha : s1.heap.get? a = some { cls := .type "list", data := .seq vs.toArray }) (hr : Room k callerA)
    (F : ∀ base : Heap, K.In base → base.Ns mainGlobals mg → FnG P w K mg base k fa fd [x] sp) (hbind : ∀ (s : Shared) (u : Value), BindsTo s fd ⟨[u], []⟩ [(x, u)])
    (H : Hp) (hO : Only H) (hsp : sp [.ref a] H (fun v _ => v = .bl true) E0) (hok : HOk P w H s1.heap) (hA : ∀ b, H b ≠ none → b = a) (hK : H a ≠ none → K.lookup a = none) :
    codeAny (model P w) callerA (.call (.ref fa) ⟨[.ref a], []⟩) (fun r s2 => r = .ok (.ret (.bool true)) ∧ OldK s1.heap s2.heap ∧ s2.os = s1.os ∧ AllBare s2.gens) s1 := by
  have stay : ∀ {b : Addr} {o : Obj}, s1.heap.get? b = some o → H b = none → (hidT s1.heap H).get? b = some o := fun e n => hidT_get e n
  have dictFree : ∀ {b : Addr} {o : Obj} {es : Array DictEntry} {ep : Nat}, s1.heap.get? b = some o → o.data = .dict es ep → H b = none := fun {b o es ep} e d => by
    cases q : H b with
    | none => rfl
    | some u =>
      obtain rfl : b = a := hA b (by rw [q]; simp)
      rw [ha] at e
      cases e
      exact absurd (show Data.seq vs.toArray _ = Data.dict es ep from d) (fun z => by cases z)
  have names : ∀ {b : Addr} {m : Str → Option Value}, s1.heap.Ns b m → (hidT s1.heap H).Ns b m := fun {b m} ⟨o, es, ep, e, d, r⟩ => ⟨o, es, ep, stay e (dictFree e d), d, r⟩
  have KB : K.In (hidT s1.heap H) := fun b o e => stay (KX b o e) (by
    cases q : H b with
    | none => rfl
    | some u =>
      obtain rfl : b = a := hA b (by rw [q]; simp)
      rw [hK (by rw [q]; simp)] at e
      cases e)
  have md : Mod K mg (hidT s1.heap H) := ⟨KB, names hns, ⟨mb, names hb, hbb⟩, let ⟨mc, h1, h2⟩ := hlim; ⟨mc, names h1, h2⟩⟩
  have start0 : Env0 P w K mg (hidT s1.heap H) callerA [] s1 H :=
    ⟨rfl, md, fun b o e => of_hidT e, Nat.le_of_eq (hidT_size _ _), trivial, fun b hb => absurd (show b ∈ ([] : List Addr) from hb) (by simp), hok, .of_eq hgn⟩
  refine codeAny_mono ((F _ KB (names hns)).run callerA [] s1 H ⟨[.ref a], []⟩ [.ref a] [.ref a] _ rfl hr start0 (hbind s1 (.ref a)) (.cons rfl .nil) hsp) fun r s2 h => ?_
  cases r with
  | error e => exact False.elim h
  | ok fl =>
    cases fl with
    | next => exact False.elim h
    | brk => exact False.elim h
    | cont => exact False.elim h
    | ret u =>
      obtain ⟨v, H2, os, bare, un, ok2, rv, q⟩ := h
      obtain rfl : v = .bl true := q
      obtain rfl : u = Value.bool true := rv
      refine ⟨rfl, OldK.of_keep fun b o e => ?_, os, bare⟩
      have nox : b ∉ ([] : List Addr) := by simp
      cases q : H b with
      | none => exact un.keep b o e q (fun z => absurd (show b ∈ ([] : List Addr) from z) nox) nox
      | some u =>
        rcases hO b with z | ⟨ob, xs, z⟩
        · rw [q] at z
          cases z
        · obtain ⟨e1, _⟩ := hok b _ z
          obtain ⟨e2, _⟩ := ok2 b _ (un.frzs b ob _ z)
          rw [e] at e1
          cases e1
          exact e2
theorem law_callG (KX : K.In s1.heap) (hns : s1.heap.Ns mainGlobals mg) (hb : s1.heap.Ns builtinsNs mb) (hbb : ∀ y : Str, y ≠ "__name__" → mb y = bootBuiltins y) (hlim : s1.heap.NoLimit) (hgn : s1.gens = #[])
    (ha : s1.heap.get? a = some { cls := .type "list", data := .seq vs.toArray }) (hi : IntsAre vs ns) (hl : ns.length ≤ sizeLine) (hr : Room k callerA)
    (F : ∀ base : Heap, K.In base → base.Ns mainGlobals mg → FnG P w K mg base k fa fd [x] sp) (hbind : ∀ (s : Shared) (u : Value), BindsTo s fd ⟨[u], []⟩ [(x, u)])
    (hsp : ∀ H : Hp, Only H → SqL K H a (ns.map V.int) → sp [.ref a] H (fun v _ => v = .bl true) E0) :
    codeAny (model P w) callerA (.call (.ref fa) ⟨[.ref a], []⟩) (fun r s2 => r = .ok (.ret (.bool true)) ∧ OldK s1.heap s2.heap ∧ s2.os = s1.os ∧ AllBare s2.gens) s1 := by
  have rv := vals_ints hi
  have lenV := hi.length
  cases hk : K.lookup a with
  | some o =>
    have e := KX a o hk
    rw [ha] at e
    cases e
    have only : Only (fun _ => none) := fun _ => .inl rfl
    have told : SqL K (fun _ => none) a (ns.map V.int) :=
      .inr ⟨_, vs.toArray, _, hk, rfl, rfl, rfl, by rw [List.size_toArray, lenV]; exact hl, by simpa using rv⟩
    exact law_callG_at KX hns hb hbb hlim hgn ha hr F hbind (fun _ => none) only (hsp _ only told) (fun b u z => by cases z) (fun b z => absurd rfl z) fun z => absurd rfl z
  | none =>
    let H : Hp := fun b => if b = a then some (.frz { cls := .type "list", data := .seq vs.toArray } (.lst (ns.map V.int))) else none
    have at_a : H a = some (.frz { cls := .type "list", data := .seq vs.toArray } (.lst (ns.map V.int))) := if_pos rfl
    have off : ∀ {b : Addr}, b ≠ a → H b = none := fun hb => if_neg hb
    have only : Only H := fun b => by
      by_cases hb : b = a
      · exact .inr ⟨_, _, if_pos hb⟩
      · exact .inl (off hb)
    refine law_callG_at KX hns hb hbb hlim hgn ha hr F hbind H only (hsp H only (.inl (.inr ⟨_, at_a⟩))) (fun b u z => ?_) (fun b z => ?_) fun _ => hk
    · by_cases hb : b = a
      · subst hb
        rw [at_a] at z
        cases z
        exact ⟨ha, by rw [List.length_map]; exact hl, vs, _, rv, ha⟩
      · rw [off hb] at z
        cases z
    · by_cases hb : b = a
      · exact hb
      · exact absurd (off hb) z
end
theorem walk_ofG {l : PySem.W.OpenLaw} {n k : Nat} {q : Program} {loose : List Str} {XP : (Str → Option Value) → Heap → Prop} {YP : World → Heap → Prop} {d : DefRec} {K : Params → PySem.W.Frag} {sp : PySem.W.Frag → Sp} {x : Str}
    (hn : l.most = some n) (hn2 : n ≤ sizeLine) (hdf : d.params.defaults = []) (hr : Room k callerA) (hY : ∀ (w : World) (h : Heap), YP w h → (K w.params).In h)
    (F : ∀ (w : World) (mg : Str → Option Value) (fa : Addr) (h : Heap), (K w.params).In h → h.Ns mainGlobals mg → mg d.name = some (.ref fa) →
      ∃ fd : FuncData, (∀ (s : Shared) (u : Value), BindsTo s fd ⟨[u], []⟩ [(x, u)]) ∧
        ∀ base : Heap, (K w.params).In base → base.Ns mainGlobals mg → FnG l.prog w (K w.params) mg base k fa fd [x] (sp (K w.params)))
    (hsp : ∀ (K : PySem.W.Frag) (H : Hp) (a : Addr) (ns : List Int), ns.length ≤ n → Only H → SqL K H a (ns.map V.int) → sp K [.ref a] H (fun v _ => v = .bl true) E0) :
    PySem.W.WalkO q loose XP YP l.row.toRowW d [] (fun f vs => PySem.call f vs) := by
  refine Att.attach_call hn hdf fun w s₀ s₁ mg mb fa o pm cd doc a vs ns G Y ho hd hcd hmg hobj hints hlen hgn => ?_
  have KX := hY w _ Y
  obtain ⟨fd, hb, hF⟩ := F w mg fa _ KX G.T.g hmg
  exact law_callG KX G.T.g G.T.b G.T.builtins G.T.nolimit hgn hobj hints (Nat.le_trans hlen hn2) hr hF hb fun H hO hS => hsp (K w.params) H a ns hlen hO hS
end L2
set_option Elab.async false
set_option linter.all false
set_option maxRecDepth 100000
set_option maxHeartbeats 4000000
namespace L2
open PySem PySem.Spec PyProof.Rows PySem.ErrV
section
variable {X : Cx} {C fI : Addr} {x : Str} {B nw ini : String} {bmB : List Value} {p pos : Pos}
/-- C(), no __init__ of its own -/
theorem pe_bare (F : ExcBaseFacts B nw ini bmB) (q : PySem.W.excIn X.K C bmB nw = true) (gC : X.mg x = some (.ref C)) (kC : PySem.W.keepIn X.K (.ref C) = true) (hg : Gl X x) (hdb : (x == ("__debug__" : Str)) = false := by decide) :
    PE X (.Call (.Name x p) [] [] pos) (fun σ H Q => ∀ a, H a = none → Q (.ref a) (upd H a (exo a C none))) := by
  refine ⟨fun pins s σ H Q I h => ?_⟩
  refine wpAny_Call_Name_kw (ld_glob I hg gC ?_ hdb)
  refine PySem.W.callWith_K0 I.kIn kC ?_
  show wpAny _ _ (call (.ref C) []) _ _ _
  obtain ⟨bm, N, nm, qn, bs, hdct, sn, sub, ab, col, dd, k0, k1, k2, k3, k5, mN, hC, hN, hni, T⟩ := exc_obj I.kIn q
  refine wpAny_call_exc_subT F T hC hN hni (fun h1 a hm => ?_) (by show 0 ≤ sizeLine; exact Nat.zero_le _)
  have hn : H a = none := I.hok.gone hm.new
  obtain ⟨t, ht, _, _⟩ := hm.there
  exact ⟨.ref a, upd H a (exo a C none), I.laidN hm.keeps hm.new hn (exo_ok ht), rfl, h a hn⟩
/-- C(), __init__ does nothing -/
theorem pe_pass0 (T : PassC X.K X.mg x C fI nw bmB) (Bo : BaseOk B nw ini bmB) (hr : Room 1 X.A) (hg : Gl X x) (hdb : (x == ("__debug__" : Str)) = false := by decide) :
    PE X (.Call (.Name x p) [] [] pos) (fun σ H Q => ∀ a, H a = none → Q (.ref a) (upd H a (exo a C none))) := by
  refine ⟨fun pins s σ H Q I h => ?_⟩
  refine wpAny_Call_Name_kw (ld_glob I hg T.gC ?_ hdb)
  refine PySem.W.callWith_K0 I.kIn T.kC ?_
  show wpAny _ _ (call (.ref C) []) _ _ _
  refine wpAny_call (pass_made T Bo I.kIn I.nolimit (by have := hr.dp; omega) fun h1 tk a u k big ho => ?_)
  exact ⟨.ref a, upd H a (exo a C none), I.laid (t' := tk) k big (exo_ok ho), rfl, h a (I.hok.fresh big)⟩
end
/-- ways joined: what is wanted of an expression, said in between -/
def tJoin0 (te : TE) : TE := fun σ H Q => ∃ R : VK, te σ H R ∧ ∀ v H1, R v H1 → Q v H1
theorem pe_join0 {X : Cx} {e : Expr} {te : TE} (he : PE X e te) : PE X e (tJoin0 te) := ⟨fun pins s σ H Q I h => by
  obtain ⟨R, h1, h2⟩ := h
  exact thn (he.run pins s σ H R I h1) fun u s1 ⟨v, H1, I1, r, q⟩ => ⟨v, H1, I1, r, h2 v H1 q⟩⟩
end L2
set_option Elab.async false
set_option linter.all false
set_option maxRecDepth 100000
set_option maxHeartbeats 8000000
/-! Lambdas as values: with parameters, with captured names; made anywhere, handed on, called in the def that got them. -/
namespace LamV
open PySem PySem.Spec PyProof.Rows L2
open LamX (CodeO ExtN TabB)
open NdefX (NF NTab TabN TabsN CellsAt NScope startF ncx envF)
/-- there stands a lambda with the words of F and this body -/
def Stands (f : Addr) (F : NF) (body : Expr) (h : Heap) : Prop :=
  ∃ (d : Option Addr) (z : Array (Option Value)) (m t : Value), h.get? f = some ⟨.type "function", d, .func (PySem.W.kla_fn F.name F.qual F.params body F.scope F.cl m (.ref F.c) t), z⟩
def LnO (f : Addr) (F : NF) (body : Expr) : HO := .ext (Stands f F body)
theorem stands {P : Program} {w : World} {H : Hp} {h : Heap} {f : Addr} {F : NF} {body : Expr} (k : HOk P w H h) (e : H f = some (LnO f F body)) : Stands f F body h := (k f _ e).1
theorem LnO.tbl {f : Addr} {F : NF} {body : Expr} {ps : Array Value} : LnO f F body ≠ .tbl ps := fun z => nomatch (show HO.ext _ = HO.tbl _ from z)
theorem CodeO.tbl {c : Addr} {q : Str} {ps : Array Value} : CodeO c q ≠ .tbl ps := fun z => nomatch (show HO.ext _ = HO.tbl _ from z)
theorem Gone.upd {H : Hp} {a b : Addr} {o : HO} (e : L2.upd H a o b = none) : H b = none := by
  by_cases z : b = a
  · rw [z, upd_same] at e
    cases e
  · rwa [upd_ne z] at e
/-- the table of a def tells one code object more -/
theorem tabs_more {T : List NTab} {H H1 : Hp} {P c1 : Addr} {nm : Nat → Nat → Str} {ps : Array Value} {pos : Pos} (hT : TabsN T H) (me : H P = some (.tbl ps)) (ok : TriplesOk ps.toList) (only : ∀ r ∈ T, r.1 = P → r.2 = nm) (new : H c1 = none)
    (e1 : H1 = L2.upd (L2.upd H P (.tbl (ps ++ #[rawInt pos.line, rawInt pos.col, .ref c1]))) c1 (CodeO c1 (nm pos.line pos.col))) : TabsN T H1 ∧ ExtN H H1 := by
  have ext : ExtN H H1 := by
    intro b o eb nb
    have x1 : b ≠ c1 := ne_of_none eb new
    have x2 : b ≠ P := by
      rintro rfl
      exact nb ps (Option.some.inj (eb.symm.trans me))
    rw [e1, upd_ne x1, upd_ne x2, eb]
  have atC : H1 c1 = some (CodeO c1 (nm pos.line pos.col)) := by rw [e1, upd_same]
  refine ⟨fun r hr => ?_, ext⟩
  obtain ⟨qs, a1, a2, a3⟩ := hT r hr
  have old : ∀ {p2 : Pos} {v : Value}, codeAmong p2 qs.toList = some v → ∃ c, v = .ref c ∧ H1 c = some (CodeO c (r.2 p2.line p2.col)) := fun {p2 v} hv => by
    obtain ⟨c, ev, ec⟩ := a3 p2 v hv
    exact ⟨c, ev, ext c _ ec fun _ => CodeO.tbl⟩
  by_cases z : r.1 = P
  · have ep : qs = ps := by
      rw [z, me] at a1
      exact (HO.tbl.inj (Option.some.inj a1)).symm
    have lt : (ps ++ #[rawInt pos.line, rawInt pos.col, .ref c1]).toList = ps.toList ++ [rawInt pos.line, rawInt pos.col, .ref c1] := by simp
    refine ⟨ps ++ #[rawInt pos.line, rawInt pos.col, .ref c1], ?_, ?_, fun p2 v hv => ?_⟩
    · rw [e1, z, upd_ne (ne_of_none me new), upd_same]
    · rw [lt]
      exact TriplesOk_snoc _ _ _ _ ok
    · rw [lt] at hv
      rcases NdefX.among_app2 _ ok hv with w1 | ⟨w1, w2, w3⟩
      · rw [← ep] at w1
        exact old w1
      · refine ⟨c1, w1, ?_⟩
        rw [only r hr z, ← w2, ← w3]
        exact atC
  · have nC : r.1 ≠ c1 := ne_of_none a1 new
    refine ⟨qs, ?_, a2, fun p2 v hv => old hv⟩
    rw [e1, upd_ne nC, upd_ne z, a1]
/-- the words of a lambda of X's def -/
def lamF (X : Cx) (params : Arguments) (scope : Scope) (c1 : Addr) : NF where
  name := "<lambda>"
  qual := X.env.qual ++ "<lambda>"
  params := params
  body := []
  scope := scope
  cl := cloFrom X.env.cells scope.names []
  c := c1
/-- a lambda was made: the new function at f, its code object at c1 -/
structure Born (X : Cx) (pins : List (Addr × Obj)) (σ : L2.St) (T : List NTab) (H : Hp) (F : NF) (body : Expr) (f : Addr) (H1 : Hp) (s1 : Shared) : Prop where
  inv : Inv X pins σ H1 s1
  ext : ExtN H H1
  gone : ∀ b, H1 b = none → H b = none
  tabs : TabsN T H1
  was : H f = none
  fn : H1 f = some (LnO f F body)
  code : H1 F.c = some (CodeO F.c F.qual)
section
variable {X : Cx} {pins : List (Addr × Obj)} {σ : L2.St} {H H1 : Hp} {s s1 : Shared} {T : List NTab}
/-- the push of the function object, behind the code object's making -/
theorem Born.push {F : NF} {body : Expr} {m t : Value} {k : Nat} (I : Inv X pins σ H1 s1) (x : ExtN H H1) (g : ∀ b, H1 b = none → H b = none) (hT : TabsN T H1) (hc : H1 F.c = some (CodeO F.c F.qual)) :
    Born X pins σ T H F body s1.heap.objs.size (L2.upd H1 s1.heap.objs.size (LnO s1.heap.objs.size F body))
      { s1 with heap := s1.heap.push (PySem.W.kla_obj F.name F.qual F.params body F.scope F.cl m F.c t), toks := k } := by
  have free : H1 s1.heap.objs.size = none := I.hok.fresh (Nat.le_refl _)
  have up : ∀ b o, H1 b = some o → L2.upd H1 s1.heap.objs.size (LnO s1.heap.objs.size F body) b = some o := fun b o e => by
    rw [upd_ne (ne_of_none e free), e]
  have here : Stands s1.heap.objs.size F body (s1.heap.push (PySem.W.kla_obj F.name F.qual F.params body F.scope F.cl m F.c t)) := ⟨_, _, m, t, Heap.get?_push_size _ rfl⟩
  refine ⟨I.laid (fun b u e => Heap.get?_push_of_some _ e) (Nat.le_refl _) ⟨here, ?_, ?_⟩, fun b o e n => up b o (x b o e n), fun b e => g b (Gone.upd e), hT.ext up, g _ free, upd_same, up _ _ hc⟩
  · obtain ⟨_, _, _, _, e⟩ := here
    exact ⟨_, e⟩
  · rintro g1 g2 ⟨d, z, m1, t1, e⟩ keep
    exact ⟨d, z, m1, t1, keep _ e⟩
theorem lam_born {nm : Nat → Nat → Str} {c P : Addr} {params : Arguments} {body : Expr} {scope : Scope} {pos : Pos} {E : Value → Shared → Prop} {Q : Value → Shared → Prop} (I : Inv X pins σ H s) (B : TabB X.base X.mg c P) (ec : X.env.code = .ref c)
    (inT : (P, nm) ∈ T) (name : nm pos.line pos.col = X.env.qual ++ "<lambda>") (only : ∀ r ∈ T, r.1 = P → r.2 = nm) (hT : TabsN T H) (nodef : defaultsOf params X.env = ([], [])) (caps : ∀ y ∈ scope.names, y.2 = .free → ∃ c, X.env.cells.lookup y.1 = some c)
    (k : ∀ (f c1 : Addr) (H1 : Hp) (s1 : Shared), Born X pins σ T H (lamF X params scope c1) body f H1 s1 → Q (.ref f) s1) :
    wpAny (model X.prog X.w) X.A (eval (.Lambda params body scope pos) X.env) Q E s := by
  have tn : TabN H P nm := hT _ inT
  obtain ⟨ps, tb, ok, told⟩ := tn
  have real := I.hok P _ tb
  have mods := I.mod.glob.keeps I.bk
  have bl := B.bm.keeps I.bk
  have hd := B.code.keeps I.bk
  apply PySem.W.kla_eval nodef
  match hc : codeAmong pos ps.toList with
  | some v =>
    obtain ⟨c1, rfl, e1⟩ := told pos v hc
    rw [name] at e1
    exact PySem.W.kla_makeFunctionHit (closure_ok caps) I.ok.glob mods ec hd real ok hc bl fun t h1 k1 up _ =>
      k _ c1 _ _ (Born.push (F := lamF X params scope c1) (I.kept (t' := k1) up) (ExtN.refl H) (fun _ e => e) hT e1)
  | none =>
    refine PySem.W.kla_makeFunction (closure_ok caps) I.ok.glob mods ec hd real ok hc B.gP bl fun c1 t h1 k1 up lo hi rec tab => ?_
    obtain ⟨_, o, vs, n, ce, q1, q2, q3⟩ := rec
    cases ce
    have new : H c1 = none := I.hok.fresh lo
    have J := LamX.inv_table (t' := k1) I tb (fun b o nb e => up b o nb e) tab lo ⟨o, vs, n, q1, q2, q3⟩
    obtain ⟨t1, x1⟩ := tabs_more (pos := pos) hT tb ok only new rfl
    rw [name] at t1 x1
    exact k _ c1 _ _ (Born.push (F := lamF X params scope c1) J x1 (fun b e => Gone.upd (Gone.upd e)) t1 upd_same)
end
/-- a lambda's reading -/
def tLamE (T : List NTab) (mk : Addr → NF) (body : Expr) : TE := fun _ H Q => TabsN T H ∧ ∀ (f c1 : Addr) (H1 : Hp), ExtN H H1 → (∀ b, H1 b = none → H b = none) → TabsN T H1 → H f = none → H1 f = some (LnO f (mk c1) body) →
  H1 (mk c1).c = some (CodeO (mk c1).c (mk c1).qual) → Q (.ref f) H1
theorem pe_lam {X : Cx} {T : List NTab} {nm : Nat → Nat → Str} {c P : Addr} {params : Arguments} {body : Expr} {scope : Scope} {pos : Pos} (B : TabB X.base X.mg c P) (ec : X.env.code = .ref c) (inT : (P, nm) ∈ T) (name : nm pos.line pos.col = X.env.qual ++ "<lambda>")
    (only : ∀ r ∈ T, r.1 = P → r.2 = nm) (nodef : defaultsOf params X.env = ([], [])) (caps : ∀ y ∈ scope.names, y.2 = .free → X.env.scope.names.lookup y.1 = some .cell ∨ X.env.scope.names.lookup y.1 = some .free) :
    PE X (.Lambda params body scope pos) (tLamE T (lamF X params scope) body) where
  run _ _ _ _ _ I h := lam_born I B ec inT name only h.1 nodef (fun y hy e => I.ok.has _ (caps y hy e)) fun f c1 H1 _ b => ⟨.ref f, H1, b.inv, rfl, h.2 f c1 H1 b.ext b.gone b.tabs b.was b.fn b.code⟩
/-! ### its promise -/
/-- the lambda stands at f, its captured names hold ws -/
structure Ready (f : Addr) (F : NF) (body : Expr) (fr : List Str) (ws : List (Option V)) (h : Heap) (H : Hp) : Prop where
  fn : H f = some (LnO f F body)
  code : H F.c = some (CodeO F.c F.qual)
  cells : CellsAt F.cl fr ws h H
structure LOk (P : Program) (w : World) (K : PySem.W.Frag) (mg : Str → Option Value) (base : Heap) (CX : CXT) (k : Nat) (f : Addr) (F : NF) (body : Expr) (n : Nat) (fr : List Str) (sp : List (Option V) → Sp) : Prop where
  many : ∀ {ws vs H Q E}, sp ws vs H Q E → vs.length = n
  call : ∀ {A : Around} {outer : List Env} {s : Shared} {H : Hp} {us : List Value} {vs : List V} {ws : List (Option V)} {Q : VK} {E : XK}, Room k A → Env0 P w K mg base A outer s H → Ready f F body fr ws s.heap H → Vals vs us →
    sp ws vs H Q E → codeAny (model P w) A (.call (.ref f) ⟨us, []⟩) (CR CX outer P w H s Q E) s
section
variable {CX : CXT} {P : Program} {w : World} {K : PySem.W.Frag} {mg : Str → Option Value} {base : Heap} {N ps fr : List Str} {F : NF} {body : Expr} {f : Addr} {j k : Nat} {sp : List (Option V) → Sp}
theorem LOk.less {n : Nat} (o : LOk P w K mg base CX j f F body n fr sp) (h : j ≤ k) : LOk P w K mg base CX k f F body n fr sp := ⟨o.many, fun r => o.call (r.mono h)⟩
/-- by its body -/
theorem LOk.by_body (S : NScope N ps fr F.scope) (bind : ∀ (m t : Value) (us : List Value), us.length = ps.length → bindArgs (PySem.W.kla_fn F.name F.qual F.params body F.scope F.cl m (.ref F.c) t) ⟨us, []⟩ = pure (ps.zip us))
    (many : ∀ {ws vs H Q E}, sp ws vs H Q E → vs.length = ps.length)
    (hbody : ∀ (A : Around) (outer : List Env) (s : Shared) (H : Hp) (vs : List V) (ws : List (Option V)) (Q : VK) (E : XK), Room k (A.deeper (envF F f s.heap.objs.size)) → Ready f F body fr ws s.heap H → sp ws vs H Q E →
      ∃ t, PE (ncx CX P w K mg base N F f A outer s H E) body t ∧ t (startF N vs ws) H Q) :
    LOk P w K mg base CX (k + 1) f F body ps.length fr sp where
  many := many
  call := by
    intro A outer s H us vs ws Q E room e0 L r h
    have lv := many h
    have lu : us.length = ps.length := r.length ▸ lv
    obtain ⟨d, z, m, t, real⟩ := stands e0.hok L.fn
    obtain ⟨tb, hp, hq⟩ := hbody A outer s H vs ws Q E (room.deeper _) L h
    apply PySem.W.kla_callFunE room.depth real rfl S.co S.gen rfl (NdefX.codeO_at e0.hok L.code)
    rw [bind m t us lu]
    refine wpAny_pure (wpAny_newFunctionEnv S.nocell (fun y hy => S.par _ (List.of_mem_zip hy).1) (fun h1 ns same => ?_) S.kind)
    have kept : ∀ b o, s.heap.get? b = some o → h1.get? b = some o := fun b o e => same.extBut b o (Nat.ne_of_lt (Heap.lt_size e)) (Heap.get?_push_of_some _ e)
    refine ⟨(e0.mod.nolimit.keeps fun b o e => (e0.bs b o e).1).fresh _ same, ?_⟩
    have I := NdefX.inv_startN (CX := CX) (f := f) (E := E) (tk := s.toks + (ps.zip us).length) S room.hd e0 lv r L.cells ns kept
    exact PySem.W.kla_codeExpr (wpAny_mono (hp.run _ _ _ _ _ I hq) (fun u s1 ⟨v, H1, J, rv, q⟩ => ⟨v, H1, J.os, J.bare, J.base, J.hok, rv, q⟩) fun _ _ x => x)
end
/-! ### its call, in the def that got it -/
section
variable {Y : Cx} {pins : List (Addr × Obj)} {σ : L2.St} {H : Hp} {s : Shared} {f : Addr} {F : NF} {body : Expr} {fr : List Str} {ws : List (Option V)}
/-- captured cells are no objects of the frames between -/
theorem cells_stay {cl : List (Str × Addr)} (C : CellsAt cl fr ws Y.s_0.heap Y.H_0) (ex : Y.ex = []) (I : Inv Y pins σ H s) : CellsAt cl fr ws s.heap H := by
  have out : ∀ b : Addr, b ∉ Y.ex := fun b => by
    rw [ex]
    exact List.not_mem_nil
  have same : ∀ {y c v}, cl.lookup y = some c → Y.s_0.heap.IsCell c v → s.heap.IsCell c v := by
    rintro y c v e ⟨o, ho, hv⟩
    obtain ⟨_, q⟩ := I.base.any ho (C.all y c e).1 (out c)
    exact ⟨_, q, hv⟩
  constructor
  · exact C.len
  · intro y c e
    obtain ⟨free, v, o, ho, hv⟩ := C.all y c e
    exact ⟨I.base.free c o ho free (out c), v, same e ⟨o, ho, hv⟩⟩
  · exact C.inj
  · intro i y e
    obtain ⟨c, ec, hold⟩ := C.has i y e
    refine ⟨c, ec, fun v ev => ?_⟩
    obtain ⟨u, ru, cu⟩ := hold v ev
    exact ⟨u, ru, same ec cu⟩
/-- the reading: slot i holds the lambda; sp its promise with what it captured -/
def tCallL (f : Addr) (F : NF) (body : Expr) (i : Nat) (ws : List (Option V)) (sp : List (Option V) → Sp) (E : XK) (t : TA) : TE := fun σ H Q =>
  (σ[i]? = some (some (.ref f)) ∧ H f = some (LnO f F body)) ∧ t σ H fun vs H1 => (H1 f = some (LnO f F body) ∧ H1 F.c = some (CodeO F.c F.qual)) ∧ sp ws vs H1 Q E
variable {CX : CXT} {n i j k : Nat} {x : Str} {sp : List (Option V) → Sp} {E : XK} {t : TA} {e : Expr} {es : List Expr} {p pos : Pos}
theorem LOk.runs {us : List Value} {vs : List V} {Q : VK} (G : LOk Y.prog Y.w Y.K Y.mg Y.base CX k f F body n fr sp) (room : Room j Y.A) (le : k ≤ j) (out : Passes CX Y E) (I : Inv Y pins σ H s) (L : Ready f F body fr ws s.heap H) (r : Vals vs us) (h : sp ws vs H Q E) :
    wpAny (model Y.prog Y.w) Y.A (PySem.call (.ref f) us) (EP Y pins σ Q) Y.xe s := by
  refine wpAny_call (codeAny_mono (G.call (room.mono le) I.env0 L r h) ?_)
  rintro (u | fl) s1 hq
  · exact out _ _ _ _ _ _ I hq
  · cases fl with
    | ret u => exact I.after hq
    | _ => exact (hq : False).elim
theorem fnAt (I : Inv Y pins σ H s) (h : H f = some (LnO f F body)) : PySem.W.FnAt f s.heap := by
  obtain ⟨d, z, m, q, real⟩ := stands I.hok h
  exact ⟨_, d, _, z, real⟩
theorem pe_lact (G : LOk Y.prog Y.w Y.K Y.mg Y.base CX k f F body n fr sp) (C : CellsAt F.cl fr ws Y.s_0.heap Y.H_0) (ex : Y.ex = []) (room : Room j Y.A) (le : k ≤ j) (out : Passes CX Y E) (slot : Y.N[i]? = some x) (vis : Vis Y.env.scope x) (args : PA Y (e :: es) t)
    (d1 : (x == ("__debug__" : Str)) = false := by decide) (d2 : (x == ("__classdict__" : Str)) = false := by decide)
    (p1 : starEach (e :: es) Y.env = (false, eval e Y.env) :: starEach es Y.env := by rfl) (p2 : (backTo pos (starEach es Y.env)).any (·.1) = false := by rfl) :
    PE Y (.Call (.Name x p) (e :: es) [] pos) (tCallL f F body i ws sp E t) := by
  constructor
  rintro pins s σ H Q I ⟨⟨hs, hf⟩, ht⟩
  apply wpAny_Call_Name_kw
  refine thn ((pe_var slot vis d1 d2).run pins s σ H (fun v H1 => v = .ref f ∧ H1 = H) I ⟨_, hs, rfl, rfl⟩) ?_
  rintro u s1 ⟨_, _, I1, ru, rfl, rfl⟩
  cases (show u = Value.ref f from ru)
  refine PySem.W.callWith_F (first := []) (fnAt I1 hf) (thn (args.run pos pins s1 σ _ _ I1 ht) ?_) p1 p2
  rintro us s2 ⟨vs, H2, I2, r, ⟨h1, h2⟩, q⟩
  exact ⟨fnAt I2 h1, G.runs room le out I2 ⟨h1, h2, cells_stay C ex I2⟩ r q⟩
theorem pe_lact0 (G : LOk Y.prog Y.w Y.K Y.mg Y.base CX k f F body n fr sp) (C : CellsAt F.cl fr ws Y.s_0.heap Y.H_0) (ex : Y.ex = []) (room : Room j Y.A) (le : k ≤ j) (out : Passes CX Y E) (slot : Y.N[i]? = some x) (vis : Vis Y.env.scope x)
    (d1 : (x == ("__debug__" : Str)) = false := by decide) (d2 : (x == ("__classdict__" : Str)) = false := by decide) :
    PE Y (.Call (.Name x p) [] [] pos) (tCallL f F body i ws sp E tNil) := by
  constructor
  rintro pins s σ H Q I ⟨⟨hs, hf⟩, ⟨h1, h2⟩, q⟩
  apply wpAny_Call_Name_kw
  refine thn ((pe_var slot vis d1 d2).run pins s σ H (fun v H1 => v = .ref f ∧ H1 = H) I ⟨_, hs, rfl, rfl⟩) ?_
  rintro u s1 ⟨_, _, I1, ru, rfl, rfl⟩
  cases (show u = Value.ref f from ru)
  exact PySem.W.callWith_F0 (first := []) (fnAt I1 hf) (G.runs room le out I1 ⟨h1, h2, cells_stay C ex I1⟩ .nil q)
end
/-! ### a def called, its body walked at the very state -/
section
variable {X : Cx} {x qual : Str} {st : Stmt} {f : Addr} {fd : FuncData} {N ps : List Str} {k : Nat} {e : Expr} {es : List Expr} {t : TA} {p pos : Pos}
/-- what the callee's body has to show when it is entered from X at s -/
abbrev Walks (X : Cx) (qual : Str) (st : Stmt) (f : Addr) (N : List Str) (cdv : Value) (s : Shared) (H : Hp) (vs : List V) (Q : VK) : Prop :=
  ∃ t, PSs (cxOf CX0 X.prog X.w X.K X.mg X.base N qual (defScope st) f cdv X.A X.stack s H E0).nox (defBody st) t ∧ t { nx := fun _ H1 => Q .non H1, rt := Q } (start N vs) H
theorem pe_in {TT : L2.St → List V → Hp → VK → Prop} (D : Fun X.K x qual st f fd) (S : FnScope N ps (defScope st)) (room : Room (k + 1) X.A) (gl : Gl X x) (is : X.mg x = some (.ref f)) (kp : PySem.W.keepIn X.K (.ref f) = true) (bd : Binds X.K fd ps [])
    (many : ∀ {σ vs H Q}, TT σ vs H Q → vs.length = ps.length)
    (go : ∀ (cdv : Value) (pins : List (Addr × Obj)) (σ : L2.St) (H : Hp) (s : Shared) (vs : List V) (Q : VK), Inv X pins σ H s → Room k (X.A.deeper (envOfC qual (defScope st) s.heap.objs.size f cdv)) → TT σ vs H Q → Walks X qual st f N cdv s H vs Q)
    (args : PA X (e :: es) t) (d1 : (x == ("__debug__" : Str)) = false := by decide) (p1 : starEach (e :: es) X.env = (false, eval e X.env) :: starEach es X.env := by rfl) (p2 : (backTo pos (starEach es X.env)).any (·.1) = false := by rfl) :
    PE X (.Call (.Name x p) (e :: es) [] pos) (fun σ H Q => t σ H fun vs H1 => TT σ vs H1 Q) := by
  obtain ⟨_, _, _, _, _, _, cdv, _, _, rfl, lk, cd⟩ := D.ex
  constructor
  intro pins s σ H Q I h
  apply wpAny_Call_Name_kw
  refine ld_glob I gl is (PySem.W.callWith_K (h₀ := X.base) I.ok.mod.kin kp (thn (args.run pos pins s σ H _ I h) ?_) p1 p2) d1
  rintro us s1 ⟨vs, H1, I1, r, q⟩
  have lv := many q
  have b := bd s1 us I1.kIn (by rw [List.append_nil, ← r.length]; exact lv)
  rw [List.append_nil] at b
  refine ⟨I1.kIn, wpAny_call (codeAny_mono (LamX.run_ofS (CX := CX0) (E := E0) (Q := Q) lk cd S room I1.env0 b r lv fun deep => ?_) ?_)⟩
  · obtain ⟨t1, w1, w2⟩ := go cdv pins σ H1 s1 vs Q I1 deep q
    exact ⟨t1, w1.nox, w2⟩
  · rintro (u | fl) s2 hq
    · exact (hq : False).elim
    · cases fl with
      | ret u => exact I1.after hq
      | _ => exact (hq : False).elim
end
end LamV
set_option Elab.async false
set_option linter.all false
set_option maxRecDepth 100000
set_option maxHeartbeats 4000000
/-! for i, x in enumerate(t), t a tuple. -/
namespace EnT
open PySem PySem.Spec PyProof.Rows L2
section
variable {prog : Program} {w : World} {A : Around} {E : Value → Shared → Prop} {s : Shared}
theorem meets_en (a : Addr) (items : Array Value) :
    Meets (Builtin.«enumerate.__new__» ⟨[.type "enumerate", .ref a], []⟩) (fun _ R s => s.heap.IsTuple a items ∧
      R (.ok (.ret (.ref (s.heap.push { cls := .type "tuple_iterator", data := .fields #[.ref a, .int 0 0] }).objs.size)))
        { s with heap := (s.heap.push { cls := .type "tuple_iterator", data := .fields #[.ref a, .int 0 0] }).push { cls := .type "enumerate", data := .fields #[.none, .bool false, .ref s.heap.objs.size, rawInt 0, .none, .none] } }) :=
  .of_wp fun prog w A R s h => by
    obtain ⟨hp, g, d, tk, os⟩ := s
    obtain ⟨hT, h⟩ := h
    have hs := sub_enumerate
    have q : ∀ {A' : Around} {E : Value → Shared → Prop} {Q : Value → Shared → Prop}, Q (.ref hp.objs.size) ⟨hp.push { cls := .type "tuple_iterator", data := .fields #[.ref a, .int 0 0] }, g, d, tk, os⟩ →
        wpAny (model prog w) A' (pyIter (.ref a)) Q E ⟨hp, g, d, tk, os⟩ := fun k => wpAny_pyIter_tuple hT k
    wp_walk using q
    refine wpAny_stack_any fun st => wpAny_pure ?_
    split
    · rename_i c _ _ _ _ _
      cases (c == Value.type "enumerate") <;> (wp_walk using q; exact ⟨_, rfl, h⟩)
    · wp_walk using q
      exact ⟨_, rfl, h⟩
theorem call_en {a : Addr} {items : Array Value} {Q : Value → Shared → Prop} (hT : s.heap.IsTuple a items)
    (h : ∀ h1, IsEnum h1 (s.heap.objs.size + 1) s.heap.objs.size 0 .none → h1.IsTupleIter s.heap.objs.size a 0 → (∀ b o, s.heap.get? b = some o → h1.get? b = some o) → Q (.ref (s.heap.objs.size + 1)) { s with heap := h1 }) :
    wpAny (model prog w) A (call (.type "enumerate") [.ref a]) Q E s := by
  refine callType_new F.called_enumerate (by decide) (F.typeCall_enumerate_1 _) (F.newCall_enumerate_1 _) (fun obj => F.args_object_init_2 obj _) F.entry_enumerate_new (meets_en a items) ⟨hT, ?_⟩
  generalize hq : s.heap.push { cls := .type "tuple_iterator", data := .fields #[.ref a, .int 0 0] } = q
  have sz : q.objs.size = s.heap.objs.size + 1 := by rw [← hq]; exact Heap.size_push ..
  have it : q.get? s.heap.objs.size = some { cls := .type "tuple_iterator", data := .fields #[.ref a, .int 0 0] } := by rw [← hq]; exact Heap.get?_push_size _ rfl
  have en := Heap.get?_push_size q (o := { cls := .type "enumerate", data := .fields #[.none, .bool false, .ref s.heap.objs.size, rawInt 0, .none, .none] }) rfl
  rw [sz] at en
  show _ ∧ _
  rw [sz]
  refine ⟨⟨_, en, rfl⟩, h _ en ⟨_, Heap.get?_push_of_some _ it, rfl, rfl⟩ fun b o x => ?_⟩
  refine Heap.get?_push_of_some _ ?_
  rw [← hq]
  exact Heap.get?_push_of_some _ x
end
/-- the tuple at a, each item in a new pair -/
def Itn (K : PySem.W.Frag) (a : Addr) : It where
  go := fun i H => ∃ (xs : List V) (x : V), SqT K H a xs ∧ xs[i]? = some x
  yld := fun i H v H' => ∃ T x, v = .ref T ∧ H T = none ∧ H' = upd H T (.tup [.int (i : Nat), x]) ∧ ∀ xs, SqT K H a xs → xs[i]? = some x
  stop := fun i H => ∃ xs : List V, SqT K H a xs ∧ xs.length = i
theorem turn_en {P : Program} {w : World} {K : PySem.W.Frag} {elts : List Expr} {kk : Nat} {tpos : Pos} (a e it : Addr) :
    Turn P w K (.Tuple elts kk tpos) (Itn K a) [e, it] e (fun i h => (∃ old, IsEnum h e it ((i : Nat) : Int) old) ∧ h.IsTupleIter it a i ∧ e ≠ it) where
  mem := List.mem_cons_self ..
  self := by
    rintro A i s Q E ⟨⟨_, q⟩, _⟩ h
    exact wpAny_pyIter_enum q h
  keep := by
    rintro i h h1 ⟨⟨old, q⟩, r, ne⟩ k
    exact ⟨⟨old, k e (List.mem_cons_self ..) _ q⟩, r.at fun o q => k it (by simp) o q, ne⟩
  obj := by
    rintro i h ⟨⟨old, q⟩, ⟨o, r1, _, r2⟩, _⟩ b hb
    rcases List.mem_cons.mp hb with rfl | hb
    · exact ⟨_, q, fun _ z => nomatch z⟩
    · obtain rfl := List.mem_singleton.mp hb
      exact ⟨o, r1, fun _ z => nomatch (r2.symm.trans z)⟩
  item := by
    intro X hP hw hK calm i pins s σ H E I free st hg
    subst hP hw hK
    obtain ⟨⟨old, en⟩, ti, ne⟩ := st
    obtain ⟨xs, x, sq, hx⟩ := hg
    obtain ⟨its, vals, tup, _⟩ := I.tuple sq
    have T1 : s.heap.IsTuple a its.toArray := tup
    obtain ⟨u, hu, ru⟩ := vals.get hx
    have hu2 : its.toArray[i]? = some u := by rw [List.getElem?_toArray, hu]
    have lt : i < its.toArray.size := (Array.getElem?_eq_some_iff.mp hu2).1
    have nI : a ≠ it := by
      rintro rfl
      obtain ⟨o1, g1, c1, _⟩ := T1
      obtain ⟨o2, g2, c2, _⟩ := ti
      cases g1.symm.trans g2
      exact absurd (c1.symm.trans c2) (by decide)
    have nE : e ≠ a := by
      rintro rfl
      obtain ⟨o1, g1, c1, _⟩ := T1
      cases g1.symm.trans en
      exact absurd (show Value.type "enumerate" = Value.type "tuple" from c1) (by decide)
    have l1 := Heap.lt_size en
    have l2 : it < s.heap.objs.size := Heap.lt_size ti.choose_spec.1
    refine wpAny_pyNext_enum_itemD (Draws.tuple (A := X.A.in1) (I.ok.hd calm) it a nI its.toArray) en ⟨ti, T1⟩ lt ne (by simp [ne, nE]) fun y h1 tk hy out st1 new1 _ hk => ?_
    obtain rfl : y = u := Option.some.inj (hy.symm.trans hu2)
    refine ⟨_, rfl, wpAny_letOwnedTupleGo_enum (s := { s with heap := h1, toks := tk + 1 }) out fun h2 en2 same => ?_⟩
    have new2 := (same.2 _ (Nat.ne_of_gt l1)).trans new1
    have O : ObjOk X.prog X.w (upd H s.heap.objs.size (.tup [.int (i : Nat), x])) h2 s.heap.objs.size (.tup [.int (i : Nat), x]) := by
      refine ⟨?_, [.int i tk, y], .cons ⟨_, rfl⟩ (.cons ru .nil), _, new2, rfl, _, rfl⟩
      show 2 ≤ sizeLine
      decide
    have old1 : ∀ b o, b ∉ [e, it] → s.heap.get? b = some o → h2.get? b = some o := fun b o nb q => by
      simp only [List.mem_cons, List.not_mem_nil, or_false, not_or] at nb
      exact (same.2 b nb.1).trans (hk b o nb.1 nb.2 q)
    have J := I.turnedNew (t' := tk + 1) (ch := [e, it]) old1 free (Nat.le_refl _) O
    refine ⟨.ref s.heap.objs.size, _, J, rfl, ⟨_, x, rfl, I.hok.fresh (Nat.le_refl _), rfl, fun ys hy => ?_⟩, ⟨⟨y, ?_⟩, st1.1.at fun o q => (same.2 it ne.symm).trans q, ne⟩, fun b hb => ?_⟩
    · rw [I.tuple_inj hy sq, hx]
    · rw [show ((i + 1 : Nat) : Int) = (i : Int) + 1 from rfl]
      exact en2
    · have lb : b ≠ s.heap.objs.size := by
        rcases List.mem_cons.mp hb with rfl | hb
        · exact Nat.ne_of_lt l1
        · exact Nat.ne_of_lt (List.mem_singleton.mp hb ▸ l2)
      rw [upd_ne lb]
      exact (free b hb).1
  done := by
    intro X hP hw hK calm i pins s σ H E I free st hg
    subst hP hw hK
    obtain ⟨⟨old, en⟩, ti, ne⟩ := st
    obtain ⟨xs, sq, rfl⟩ := hg
    obtain ⟨its, vals, tup, _⟩ := I.tuple sq
    have T1 : s.heap.IsTuple a its.toArray := tup
    have nI : a ≠ it := by
      rintro rfl
      obtain ⟨o1, g1, c1, _⟩ := T1
      obtain ⟨o2, g2, c2, _⟩ := ti
      cases g1.symm.trans g2
      exact absurd (c1.symm.trans c2) (by decide)
    have sz : its.toArray.size = xs.length := by
      rw [List.size_toArray]
      exact vals.length.symm
    obtain ⟨f0, f1, f2, f3, f4, f5⟩ := free it (by simp)
    refine wpAny_pyNext_enum_endD (Draws.tuple (A := X.A.in1) (I.ok.hd calm) it a nI its.toArray) en (by rw [sz]; exact ⟨ti, T1⟩) fun h1 but => ⟨rfl, ?_⟩
    exact I.turned (t' := s.toks) (fun b o nb q => but b o nb q) f0 f1 f3 f4 f5
def iEnT (K : PySem.W.Frag) (ta : TA) : TI := fun σ H R => ta σ H fun vs H1 => ∃ a xs, vs = [.ref a] ∧ SqT K H1 a xs ∧ R (Itn K a) H1
theorem pi_enT {X : Cx} {e : Expr} {ta : TA} {p pos tpos : Pos} {elts : List Expr} {kk : Nat} (gl : Gl X "enumerate") (no : X.mg "enumerate" = none) (args : PA X [e] ta) (p1 : starEach [e] X.env = [(false, eval e X.env)] := by rfl) :
    PI X (.Tuple elts kk tpos) (.Call (.Name "enumerate" p) [e] [] pos) (iEnT X.K ta) := by
  constructor
  intro pins s σ H R I h
  refine Call_ (ld_blt I gl no boot_enumerate (PyProof.Rows.callWith_type1 (thn (args.run pos pins s σ H _ I h) ?_) p1 rfl))
  rintro us s1 ⟨vs, H1, I1, rv, a, xs, rfl, sq, q⟩
  obtain ⟨u, rfl⟩ : ∃ u, us = [u] := by
    cases rv with
    | cons _ t => cases t; exact ⟨_, rfl⟩
  cases rv with
  | cons ru _ =>
    cases (show u = Value.ref a from ru)
    obtain ⟨its, vals, tup, _⟩ := I1.tuple sq
    refine call_en (show s1.heap.IsTuple a its.toArray from tup) fun h1 en ti up => wpAny_pyIter_enum en ?_
    have J : Inv X pins σ H1 { s1 with heap := h1 } := I1.kept (t' := s1.toks) up
    refine ⟨_, [s1.heap.objs.size + 1, s1.heap.objs.size], _, _, H1, rfl, J, turn_en a (s1.heap.objs.size + 1) s1.heap.objs.size, ⟨⟨.none, en⟩, ti, Nat.succ_ne_self _⟩, fun b hb => ?_, q⟩
    have lo : s1.heap.objs.size ≤ b := by
      rcases List.mem_cons.mp hb with z | z
      · rw [z]
        exact Nat.le_succ _
      · rw [List.mem_singleton.mp z]
        exact Nat.le_refl _
    exact I1.fpOk lo (I1.hok.fresh lo)
end EnT
set_option Elab.async false
set_option linter.all false
set_option maxRecDepth 100000
set_option maxHeartbeats 4000000
namespace LJ
open PySem L2
def top (i : Nat) : Stmt := PySem.Challenge.pw_tracebounds_k29_whole_texts_of_rules.main.body.getD i (.Pass ⟨0, 0, 0, 0⟩)
abbrev sDip : Stmt := top 52
abbrev sOne : Stmt := top 53
abbrev sJar : Stmt := top 51
/-- where draws come from: a list of two numbers, the second one small -/
def JarAt (H : Hp) (j : Addr) : Prop := ∃ (d m c : Int), H j = some (.lst [.int d, .int m]) ∧ 0 ≤ m ∧ m < 2147483549
/-- all but j stays -/
def But (j : Addr) (H H1 : Hp) : Prop := ∀ b o, b ≠ j → H b = some o → H1 b = some o
def spDip : Sp := fun vs H Q _ => ∃ (j : Addr) (t : Int), vs = [.ref j, .int t] ∧ JarAt H j ∧ 0 < t ∧ t < 1000000000000000 ∧
  ∀ (r : Int) (H1 : Hp), 0 ≤ r → r < t → JarAt H1 j → But j H H1 → Q (.int r) H1
/-- built-ins that are still what they were -/
structure Blt (mg : Str → Option Value) : Prop where
  divmod : mg "divmod" = none
  int : mg "int" = none
  len : mg "len" = none
  abs : mg "abs" = none
section
variable {P : Program} {w : World} {K : PySem.W.Frag} {mg : Str → Option Value} {base : Heap}
theorem scDip : FnScope ["_law_jar_here", "_law_top", "_law_digit"] ["_law_jar_here", "_law_top"] (defScope sDip) := ⟨rfl, rfl, rfl, by decide +kernel, rfl, by decide +kernel, by decide +kernel⟩
theorem div_ok {d t : Int} (t0 : 0 < t) (t1 : t < 1000000000000000) : CDivP d t := by
  refine ⟨t0, ?_⟩
  have l : t.natAbs.log2 < 60 := (Nat.log2_lt (by omega)).mpr (by have : (2 : Nat) ^ 60 = 1152921504606846976 := by decide
                                                                  omega)
  unfold PySem.Builtin.divisionGoesByPylong
  have e : ¬ ((if (t == 0) = true then 0 else t.natAbs.log2 / 30 + 1) > 300) := by
    split <;> omega
  simp only [e, decide_false, Bool.false_and]
theorem ok_dip {f : Addr} {fd : FuncData} (F : Fun K "_law_tap" "_law_tap" sDip f fd) (T : Blt mg) : FnOk P w K mg base CX0 1 f fd ["_law_jar_here", "_law_top"] spDip := by
  refine F.ok scDip (fun vs H Q E h => ?_) (fun cdv A outer s H vs Q E hr h => ?_)
  · obtain ⟨j, t, rfl, _⟩ := h
    rfl
  · obtain ⟨j, t, rfl, ⟨d, m, c, hj, m0, m1⟩, t0, t1, k⟩ := h
    refine ⟨_, pss_cons (ps_if (pt_cmpR op_gt (pe_ix ix_list (pv 0) pe_int (fun _ _ => rfl)) pe_int (nomark _))
        (pss_cons (ps_asg (pe_callB call_divmodW (by rfl) T.divmod (by decide +kernel) (pa_cons (pe_ix ix_list (pv 0) pe_int (fun _ _ => rfl)) (pa_cons (pv 1) pa_nil)))
          (pg_tup (by rfl) (pgs_cons (pg_sub (pv 0) pe_int set_list) (pgs_cons (pg_name (i := 2) scDip.nd rfl (Or.inl rfl)) pgs_nil))))
        (pss_one (ps_ret (pv 2)))) pss_nil)
      (pss_cons (ps_asg (pe_op op_mod (pe_callTy call_int1 (by rfl) T.int (by decide +kernel) (pa_cons (pe_op op_add (pe_op op_mul (pe_ix ix_list (pv 0) pe_int (fun _ _ => rfl)) pe_int) pe_int) pa_nil)) pe_int)
          (pg_sub (pv 0) pe_int set_list))
      (pss_one (ps_ret (pe_op op_mod (pe_callTy call_int1 (by rfl) T.int (by decide +kernel) (pa_cons (pe_op op_fdiv (pe_ix ix_list (pv 0) pe_int (fun _ _ => rfl)) pe_int) pa_nil)) (pv 1))))), ?_⟩
    have b1 : ∀ o, But j H (upd H j o) := fun o b z hb hz => by
      rw [upd_ne hb]
      exact hz
    refine ⟨_, rfl, j, _, 0, .int d, rfl, rfl, SqL.of hj, rfl, _, _, rfl, rfl, _, rfl, ?_⟩
    refine ite2 (fun c0 => ?_) (fun c0 => ?_)
    · refine ⟨_, rfl, j, _, 0, .int d, rfl, rfl, SqL.of hj, rfl, _, rfl, _, _, rfl, div_ok t0 t1, fun p hp => ?_⟩
      have jp : j ≠ p := ne_of_none hj hp
      refine ⟨p, _, rfl, SqT.of upd_same, rfl, ?_⟩
      refine ⟨_, _, rfl, _, rfl, j, _, 0, 0, rfl, rfl, (by rw [upd_ne jp]; exact hj), rfl, ?_⟩
      refine ⟨_, _, rfl, rfl, ?_⟩
      refine ⟨_, rfl, ?_⟩
      refine k (d % t) _ (Int.emod_nonneg _ (by omega)) (Int.emod_lt_of_pos _ t0) ⟨d / t, m, 0, upd_same, m0, m1⟩ fun b o hb hz => ?_
      rw [upd_ne hb, upd_ne (ne_of_none hz hp)]
      exact hz
    · refine ⟨_, rfl, j, _, 1, .int m, rfl, rfl, SqL.of hj, rfl, _, _, rfl, rfl, .inl ⟨by omega, by omega⟩, _, _, rfl, rfl, .inl ⟨_, rfl, ?_⟩⟩
      refine ⟨_, _, rfl, rfl, (by show (0 : Int) < 2147483549; decide), _, rfl, j, _, 1, 1, rfl, rfl, hj, rfl, ?_⟩
      refine ⟨_, rfl, j, _, 1, _, rfl, rfl, SqL.of upd_same, rfl, _, _, rfl, rfl, ⟨by decide, by decide⟩, .inl ⟨_, rfl, ?_⟩⟩
      refine ⟨_, rfl, _, _, rfl, rfl, t0, ?_⟩
      refine k _ _ (Int.emod_nonneg _ (by omega)) (Int.emod_lt_of_pos _ t0) ⟨d, _, 0, upd_same, Int.emod_nonneg _ (by decide), Int.emod_lt_of_pos _ (by decide)⟩ fun b o hb hz => ?_
      rw [upd_ne hb]
      exact hz
theorem But.seq {j l : Addr} {H H1 : Hp} {o : HO} (b : But j H H1) (h : H l = some o) (n : l ≠ j) : H1 l = some o := b l o n h
def spOne : Sp := fun vs H Q _ => ∃ (j l : Addr) (xs : List V), vs = [.ref j, .ref l] ∧ JarAt H j ∧ H l = some (.lst xs) ∧ l ≠ j ∧ 0 < xs.length ∧ xs.length < 100000 ∧
  ∀ (n : Nat) (v : V) (H1 : Hp), xs[n]? = some v → JarAt H1 j → But j H H1 → Q v H1
theorem scOne : FnScope ["_law_jar_here", "_law_things"] ["_law_jar_here", "_law_things"] (defScope sOne) := ⟨rfl, rfl, rfl, by decide +kernel, rfl, by decide +kernel, by decide +kernel⟩
theorem ok_one {f fD : Addr} {fd fdD : FuncData} (F : Fun K "_law_one" "_law_one" sOne f fd) (T : Blt mg) (FD : Fun K "_law_tap" "_law_tap" sDip fD fdD) (bD : Binds K fdD ["_law_jar_here", "_law_top"] []) (mD : mg "_law_tap" = some (.ref fD)) :
    FnOk P w K mg base CX0 2 f fd ["_law_jar_here", "_law_things"] spOne := by
  have GD : FnOk P w K mg base CX0 1 fD fdD ["_law_jar_here", "_law_top"] spDip := ok_dip FD T
  refine F.ok scOne (fun vs H Q E h => ?_) (fun cdv A outer s H vs Q E hr h => ?_)
  · obtain ⟨j, l, xs, rfl, _⟩ := h
    rfl
  · obtain ⟨j, l, xs, rfl, J, hl, nl, p0, p1, k⟩ := h
    refine ⟨_, pss_one (ps_ret (pe_ix ix_list (pv 1) (pe_call GD hr (by rfl) mD FD.kp bD .nil pass0 (pa_cons (pv 0) (pa_cons (pe_callB call_len_seq (by rfl) T.len PySem.boot_len (pa_cons (pv 1) pa_nil)) pa_nil))) (fun _ _ => rfl))), ?_⟩
    refine ⟨_, rfl, _, rfl, _, rfl, l, _, rfl, .inl (SqL.of hl), j, (xs.length : Int), rfl, J, by omega, by omega, fun r H1 r0 r1 J1 bt => ?_⟩
    obtain ⟨v, hv⟩ : ∃ v, xs[r.toNat]? = some v := ⟨xs[r.toNat]'(by omega), List.getElem?_eq_getElem (by omega)⟩
    refine ⟨l, xs, r, v, rfl, rfl, SqL.of (bt.seq hl nl), ?_, k r.toNat v H1 hv J1 bt⟩
    unfold atI ixN
    rw [if_pos r0, if_pos r1]
    exact hv
theorem same_new {H H1 : Hp} {p : Addr} {o : HO} (s : Same H H1) (n : H1 p = none) : Same H (upd H1 p o) := fun b z e => by
  rw [upd_ne (ne_of_none (s b z e) n)]
  exact s b z e
def spJar (K : PySem.W.Frag) : Sp := fun vs H Q _ => ∃ (a : Addr) (ns : List Int) (t : Int), vs = [.ref a, .int t] ∧ SqL K H a (ns.map V.int) ∧ ns.length ≤ 63 ∧ 0 ≤ t ∧ t ≤ 100 ∧
  ∀ (j : Addr) (H1 : Hp), H j = none → Same H H1 → JarAt H1 j → Q (.ref j) H1
theorem scJar : FnScope ["_law_cells", "_law_turn", "_law_cell", "_law_stirred", "_law_part"] ["_law_cells", "_law_turn"] (defScope sJar) := ⟨rfl, rfl, rfl, by decide +kernel, rfl, by decide +kernel, by decide +kernel⟩
theorem ok_jar {f : Addr} {fd : FuncData} (F : Fun K "_law_jar" "_law_jar" sJar f fd) (T : Blt mg) : FnOk P w K mg base CX0 1 f fd ["_law_cells", "_law_turn"] (spJar K) := by
  refine F.ok scJar (fun vs H Q E h => ?_) (fun cdv A outer s H vs Q E hr h => ?_)
  · obtain ⟨j, l, xs, rfl, _⟩ := h
    rfl
  · obtain ⟨a, ns, t, rfl, hS, hn, t0, t1, k⟩ := h
    refine ⟨_, pss_cons (ps_set (i := 2) scJar.nd rfl (Or.inl rfl) (pe_join0 (pe_ifExp (pt_cmpR op_lt (pv 1) (pe_callB call_len_seq (by rfl) T.len PySem.boot_len (pa_cons (pv 0) pa_nil)) (nomark _))
        (pe_ix ix_list (pv 0) (pv 1) (fun _ _ => rfl)) (pe_op op_mul pe_int (pe_op op_add (pv 1) pe_int)))))
      (pss_cons (ps_set (i := 3) scJar.nd rfl (Or.inl rfl) (pe_op op_add pe_int (pe_op op_mul pe_int (pv 1))))
      (pss_cons (ps_for PassesOwn.never rfl (pi_list (pe_op op_cat (pe_slice sl_list (pv 0) po_none (po_some pe_int)) (pe_lst (pa_cons (pv 2) pa_nil)))) (pg_name (i := 4) scJar.nd rfl (Or.inl rfl))
        (pss_one (ps_set (i := 3) scJar.nd rfl (Or.inl rfl) (pe_op op_mod (pe_callTy call_int1 (by rfl) T.int (by decide +kernel) (pa_cons (pe_op op_add (pe_op op_add (pe_op op_mul (pv 3) pe_int) (pe_op op_mod (pe_callTy call_int1 (by rfl) T.int (by decide +kernel) (pa_cons (pv 4) pa_nil)) pe_int)) pe_int) pa_nil)) pe_int))))
      (pss_one (ps_ret (pe_lst (pa_cons (pe_join0 (pe_ifExp (PW.pt (pw_or (pt_cmpR op_lt (pv 2) pe_int (nomark _)) (pw_or1 (pt_cmpR op_ge (pv 2) (pe_op op_pow pe_int pe_int) (nomark _)))))
        (pe_callB call_abs (by rfl) T.abs (by decide +kernel) (pa_cons (pv 2) pa_nil)) pe_int)) (pa_cons (pv 3) pa_nil))))))), ?_⟩
    refine ⟨fun v H1 => (∃ z : Int, v = .int z) ∧ H1 = H, ?_, ?_⟩
    · refine ⟨_, rfl, _, rfl, a, _, rfl, .inl hS, _, _, rfl, rfl, _, rfl, ?_⟩
      refine ite2 (fun c => ?_) (fun c => ?_)
      · have c1 : t < (ns.length : Int) := by
          have z := of_decide_eq_true c
          rw [List.length_map] at z
          exact z
        obtain ⟨z, hz⟩ : ∃ z, ns[t.toNat]? = some z := ⟨ns[t.toNat]'(by omega), List.getElem?_eq_getElem (by omega)⟩
        refine ⟨_, rfl, _, rfl, a, _, t, .int z, rfl, rfl, hS, ?_, ⟨z, rfl⟩, rfl⟩
        unfold atI ixN
        rw [if_pos t0, if_pos (by rw [List.length_map]; exact c1), Option.bind_some, List.getElem?_map, hz]
        rfl
      · exact ⟨_, rfl, _, _, rfl, rfl, _, _, rfl, rfl, .inl ⟨by omega, by omega⟩, ⟨_, rfl⟩, rfl⟩
    · rintro v H1 ⟨⟨z, rfl⟩, rfl⟩
      refine ⟨_, rfl, _, _, rfl, rfl, .inl ⟨by omega, by omega⟩, _, _, rfl, rfl, ?_⟩
      refine ⟨_, rfl, 4, rfl, a, _, rfl, hS, fun p hp => ?_⟩
      refine ⟨_, rfl, (by show 1 ≤ sizeLine; rw [sizeLine_eq]; decide), fun l hl => ?_⟩
      have pl : p ≠ l := ne_of_none upd_same hl
      have cl : (cutV (ns.map V.int) none (some 4)).length ≤ 63 := by
        have z1 := cutV_length (ns.map V.int) none (some 4)
        rw [List.length_map] at z1
        omega
      refine ⟨p, l, _, _, rfl, rfl, (by rw [upd_ne pl]; exact upd_same), upd_same, (by rw [sizeLine_eq]; show (cutV (ns.map V.int) none (some 4)).length + 1 ≤ 16777216; omega), fun q hq => ?_⟩
      have allI : ∀ (i : Nat) (y : V), (cutV (ns.map V.int) none (some 4) ++ [V.int z])[i]? = some y → ∃ e : Int, y = .int e := by
        intro i y hy
        have hm := List.mem_of_getElem? hy
        rcases List.mem_append.mp hm with hm | hm
        · have h2 := List.mem_of_mem_drop (List.mem_of_mem_take hm)
          obtain ⟨e, _, he⟩ := List.mem_map.mp h2
          exact ⟨e, he.symm⟩
        · exact ⟨z, List.mem_singleton.mp hm⟩
      have s1 : ∀ o, Same H1 (upd _ q o) := fun o => same_new (same_new (same_new (fun _ _ z => z) hp) hl) hq
      refine ⟨q, rfl, ⟨_, SqL.of upd_same⟩, for_list (K := K) (a := q) (xs := cutV (ns.map V.int) none (some 4) ++ [V.int z]) (fun i σ H2 => ∃ (m : Int) (v : Option V),
        σ = [some (.ref a), some (.int t), some (.int z), some (.int m), v] ∧ 0 ≤ m ∧ m < 2147483549 ∧ Same H1 H2 ∧ H2 q = some (.lst (cutV (ns.map V.int) none (some 4) ++ [V.int z])))
        ⟨_, none, rfl, by omega, by omega, s1 _, upd_same⟩ (fun i σ H2 _ ⟨_, _, _, _, _, _, h⟩ => SqL.of h) ?_ ?_⟩
      · rintro i y σ H2 hi ⟨m, v, rfl, m0, m1, s2, hq2⟩
        obtain ⟨e, rfl⟩ := allI i y hi
        refine ⟨_, rfl, _, _, rfl, rfl, .inl ⟨by omega, by omega⟩, _, rfl, .inl ⟨_, rfl, ?_⟩⟩
        refine ⟨_, _, rfl, rfl, (by show (0 : Int) < 2147483549; decide), _, _, rfl, rfl, _, _, rfl, rfl, .inl ⟨_, rfl, ?_⟩⟩
        refine ⟨_, _, rfl, rfl, (by show (0 : Int) < 2147483549; decide), ?_⟩
        exact ⟨_, _, rfl, Int.emod_nonneg _ (by decide), Int.emod_lt_of_pos _ (by decide), s2, hq2⟩
      · rintro σ H2 ⟨m, v, rfl, m0, m1, s2, hq2⟩
        refine ⟨fun v H3 => (∃ d : Int, v = .int d) ∧ H3 = H2, ?_, ?_⟩
        · refine ⟨_, rfl, _, _, rfl, rfl, _, rfl, ?_⟩
          refine ite2 (fun c => ⟨_, rfl, _, rfl, ⟨_, rfl⟩, rfl⟩) (fun c => ?_)
          refine ⟨_, rfl, _, _, rfl, rfl, ⟨by decide, by decide, by decide⟩, _, _, rfl, rfl, _, rfl, ?_⟩
          exact ite2 (fun c => ⟨_, rfl, _, rfl, ⟨_, rfl⟩, rfl⟩) (fun c => ⟨⟨_, rfl⟩, rfl⟩)
        · rintro v H3 ⟨⟨d, rfl⟩, rfl⟩
          refine ⟨_, rfl, (by show 2 ≤ sizeLine; rw [sizeLine_eq]; decide), fun j hj => ?_⟩
          have nj : H1 j = none := by
            cases e : H1 j with
            | none => rfl
            | some o =>
              rw [s2 j o e] at hj
              cases hj
          exact k j _ nj (same_new s2 hj) ⟨d, m, 0, upd_same, m0, m1⟩
end
end LJ
set_option Elab.async false
set_option linter.all false
set_option maxRecDepth 100000
set_option maxHeartbeats 4000000
/-! The small tests of works: is_integer, is_name, _is_named, _are_bounds; over any known value. -/
namespace LJ
open PySem PySem.Spec L2
/-- a op1 b op2 c op3 d -/
def tChain3 (r1 r2 r3 : R2) (ta tb tc td : TE) : TE := fun σ H Q => ta σ H fun x H1 => tb σ H1 fun y H2 => r1 x y H2 fun u H3 => ∃ k, u = .bl k ∧
  if k = true then tc σ H3 fun z H4 => r2 y z H4 fun v H5 => ∃ l, v = .bl l ∧ (if l = true then td σ H5 fun w H6 => r3 z w H6 Q else Q (.bl false) H5) else Q (.bl false) H3
theorem pe_chain3 {X : Cx} {o1 o2 o3 : CmpOp} {r1 r2 r3 : R2} {a b c d : Expr} {ta tb tc td : TE} {pos : Pos} (h1 : OpR X (compareOp o1) r1) (h2 : OpR X (compareOp o2) r2) (h3 : OpR X (compareOp o3) r3) (ea : PE X a ta) (eb : PE X b tb) (ec : PE X c tc) (ed : PE X d td)
    (hm : lastMarks [o1, o2, o3] [b, c, d] = false := by with_unfolding_all rfl) : PE X (.Compare a [o1, o2, o3] [b, c, d] pos) (tChain3 r1 r2 r3 ta tb tc td) := by
  constructor
  intro pins s σ H Q I h
  refine PyProof.Rows.Compare_chain (thn (ea.run pins s σ H _ I h) ?_) hm
  rintro ua s1 ⟨x, H1, I1, rx, q1⟩
  refine PyProof.Rows.chain_link (thn (eb.run pins s1 σ H1 _ I1 q1) ?_)
  rintro ub s2 ⟨y, H2, I2, ry, q2⟩
  refine thn (h1 pins s2 σ H2 x y ua ub _ I2 rx ry q2) ?_
  rintro u1 s3 ⟨_, H3, I3, ru, k, rfl, q3⟩
  cases ru
  refine wpAny_truthy_bool ?_
  cases k
  · exact ⟨.bl false, H3, I3, rfl, q3⟩
  refine PyProof.Rows.chain_link (thn (ec.run pins s3 σ H3 _ I3 q3) ?_)
  rintro uc s4 ⟨z, H4, I4, rz, q4⟩
  refine thn (h2 pins s4 σ H4 y z ub uc _ I4 ry rz q4) ?_
  rintro u2 s5 ⟨_, H5, I5, rv, l, rfl, q5⟩
  cases rv
  refine wpAny_truthy_bool ?_
  cases l
  · exact ⟨.bl false, H5, I5, rfl, q5⟩
  refine PyProof.Rows.chain_last (thn (ed.run pins s5 σ H5 _ I5 q5) ?_)
  rintro ud s6 ⟨w, H6, I6, rw, q6⟩
  exact h3 pins s6 σ H6 z w uc ud Q I6 rz rw q6
/-! ### known values -/
/-- all that stood stands -/
def Ex (H H1 : Hp) : Prop := ∀ b o, H b = some o → H1 b = some o
theorem Ex.refl {H : Hp} : Ex H H := fun _ _ e => e
theorem Ex.trans {H H1 H2 : Hp} (s : Ex H H1) (t : Ex H1 H2) : Ex H H2 := fun b o e => t b o (s b o e)
theorem Ex.new {H H1 : Hp} {p : Addr} {o : HO} (s : Ex H H1) (n : H1 p = none) : Ex H (upd H1 p o) := fun b u e => by
  rw [upd_ne (ne_of_none (s b u e) n)]
  exact s b u e
theorem Ex.put {H H1 : Hp} {p : Addr} {o : HO} (s : Ex H H1) (n : H p = none) : Ex H (upd H1 p o) := fun b u e => by
  rw [upd_ne (ne_of_none e n)]
  exact s b u e
theorem Ex.gone {H H1 : Hp} {p : Addr} (s : Ex H H1) (n : H1 p = none) : H p = none := by
  cases e : H p with
  | none => rfl
  | some o =>
    rw [s p o e] at n
    cases n
def isI : V → Bool
  | .int _ => true
  | _ => false
def tupOf (H : Hp) : V → Option (List V)
  | .ref a => match H a with
    | some (.tup xs) => some xs
    | _ => none
  | _ => none
/-- is this a string of one to eight letters from a to z -/
def isW (s : Str) : Bool := decide (1 ≤ s.length) && (decide (s.length ≤ 8) && s.cps.toList.all fun c => decide (97 ≤ c) && decide (c ≤ 122))
def isN : V → Bool
  | .str s => isW s
  | _ => false
inductive Kn (K : PySem.W.Frag) (H : Hp) : V → Prop
  | int (i : Int) : Kn K H (.int i)
  | str (s : Str) (le : s.length ≤ sizeLine) : Kn K H (.str s)
  | tup {a : Addr} {xs : List V} (e : H a = some (.tup xs)) (le : xs.length ≤ sizeLine) : Kn K H (.ref a)
  | oth {x : V} {t : Value} {b : Bool} (ty : ∀ H1, LamX.ExtN H H1 → TyX K H1 x t) (i : PySem.W.kitOne K t (.type "int") = some b) (l : PySem.W.kitOne K t (.type "bool") = some b) (s : PySem.W.kitOne K t (.type "str") = some false)
      (u : PySem.W.kitOne K t (.type "tuple") = some false) (ni : isI x = false) (nn : isN x = false) (nt : ∀ H1, LamX.ExtN H H1 → tupOf H1 x = none) : Kn K H x
theorem Ex.n {H H1 : Hp} (e : Ex H H1) : LamX.ExtN H H1 := LamX.ExtN.of e
theorem tup_n {H H1 : Hp} {a : Addr} {xs : List V} (e : LamX.ExtN H H1) (h : H a = some (.tup xs)) : H1 a = some (.tup xs) := e _ _ h fun _ z => nomatch z
theorem Kn.exN {K : PySem.W.Frag} {H H1 : Hp} {x : V} (k : Kn K H x) (e : LamX.ExtN H H1) : Kn K H1 x := by
  cases k with
  | int i => exact .int i
  | str s le => exact .str s le
  | tup h le => exact .tup (tup_n e h) le
  | oth ty i l s u ni nn nt => exact .oth (fun H2 e2 => ty H2 (e.trans e2)) i l s u ni nn fun H2 e2 => nt H2 (e.trans e2)
theorem Kn.ex {K : PySem.W.Frag} {H H1 : Hp} {x : V} (k : Kn K H x) (e : Ex H H1) : Kn K H1 x := k.exN e.n
theorem Kn.tupsN {K : PySem.W.Frag} {H H1 : Hp} {x : V} (k : Kn K H x) (e : LamX.ExtN H H1) : tupOf H1 x = tupOf H x := by
  cases k with
  | int i => rfl
  | str s le => rfl
  | @tup a xs h le =>
    show (match H1 a with
      | some (.tup ys) => some ys
      | _ => none) = (match H a with
      | some (.tup ys) => some ys
      | _ => none)
    rw [h, tup_n e h]
  | oth ty i l s u ni nn nt => rw [nt H1 e, nt H (LamX.ExtN.refl _)]
theorem Kn.tups {K : PySem.W.Frag} {H H1 : Hp} {x : V} (k : Kn K H x) (e : Ex H H1) : tupOf H1 x = tupOf H x := k.tupsN e.n
theorem Kn.le {K : PySem.W.Frag} {H : Hp} {x : V} {xs : List V} (k : Kn K H x) (h : tupOf H x = some xs) : xs.length ≤ sizeLine := by
  cases k with
  | int i => cases h
  | str s le => cases h
  | @tup a ys e le =>
    have z : (match H a with
      | some (.tup ys) => some ys
      | _ => none) = some xs := h
    rw [e] at z
    cases z
    exact le
  | oth ty i l s u ni nn nt =>
    rw [nt H (LamX.ExtN.refl _)] at h
    cases h
/-- known to this depth -/
def Deep (K : PySem.W.Frag) (H : Hp) : Nat → V → Prop
  | 0, x => Kn K H x
  | n + 1, x => Kn K H x ∧ ∀ xs, tupOf H x = some xs → ∀ y ∈ xs, Deep K H n y
theorem Deep.kn {K : PySem.W.Frag} {H : Hp} : ∀ {n : Nat} {x : V}, Deep K H n x → Kn K H x
  | 0, _, d => d
  | _ + 1, _, d => d.1
theorem Deep.exN {K : PySem.W.Frag} {H H1 : Hp} (e : LamX.ExtN H H1) : ∀ {n : Nat} {x : V}, Deep K H n x → Deep K H1 n x
  | 0, _, d => Kn.exN d e
  | n + 1, x, d => ⟨d.1.exN e, fun xs h y hy => Deep.exN e (d.2 xs (by rw [← d.1.tupsN e]; exact h) y hy)⟩
theorem Deep.ex {K : PySem.W.Frag} {H H1 : Hp} (e : Ex H H1) {n : Nat} {x : V} (d : Deep K H n x) : Deep K H1 n x := d.exN e.n
structure BltI (mg : Str → Option Value) : Prop where
  isinstance : mg "isinstance" = none
  int : mg "int" = none
  bool : mg "bool" = none
  str : mg "str" = none
  tuple : mg "tuple" = none
  len : mg "len" = none
  all : mg "all" = none
  enumerate : mg "enumerate" = none
/-- the answer of is_integer -/
theorem rd_int {K : PySem.W.Frag} {H : Hp} {x : V} (k : Kn K H x) {Q : VK} (q : Q (.bl (isI x)) H) : rIsi K [x, .ty "int"] H fun v H1 => ∃ c, v = .bl c ∧ if c = true then rIsi K [x, .ty "bool"] H1 fun w H2 => ∃ d, w = .bl d ∧ Q (.bl (!d)) H2 else Q (.bl false) H1 := by
  cases k with
  | int i =>
    refine ⟨_, _, _, _, true, rfl, .ty "int", .base (.int i), kit_ty (by decide +kernel), true, rfl, ?_⟩
    rw [if_pos rfl]
    exact ⟨_, _, _, _, false, rfl, .ty "bool", .base (.int i), kit_ty (by decide +kernel), false, rfl, q⟩
  | str s le =>
    refine ⟨_, _, _, _, false, rfl, .ty "int", .base (.str s), kit_ty (by decide +kernel), false, rfl, ?_⟩
    rw [if_neg (by decide)]
    exact q
  | tup e le =>
    refine ⟨_, _, _, _, false, rfl, .ty "int", .base (.tup e), kit_ty (by decide +kernel), false, rfl, ?_⟩
    rw [if_neg (by decide)]
    exact q
  | @oth _ t b ty i l s u ni nn nt =>
    rw [ni] at q
    refine ⟨_, _, _, _, b, rfl, .ty "int", ty _ (LamX.ExtN.refl _), i, b, rfl, ?_⟩
    cases b with
    | false =>
      rw [if_neg (by decide)]
      exact q
    | true =>
      rw [if_pos rfl]
      exact ⟨_, _, _, _, true, rfl, .ty "bool", ty _ (LamX.ExtN.refl _), l, true, rfl, q⟩
abbrev sInt : Stmt := top 15
abbrev sName : Stmt := top 16
def spInt (K : PySem.W.Frag) : Sp := fun vs H Q _ => ∃ x, vs = [x] ∧ Kn K H x ∧ Q (.bl (isI x)) H
section
variable {P : Program} {w : World} {K : PySem.W.Frag} {mg : Str → Option Value} {base : Heap}
theorem scInt : FnScope ["value"] ["value"] (defScope sInt) := ⟨rfl, rfl, rfl, by decide +kernel, rfl, by decide +kernel, by decide +kernel⟩
theorem ok_int {f : Addr} {fd : FuncData} (F : Fun K "is_integer" "is_integer" sInt f fd) (B : BltI mg) : FnOk P w K mg base CX0 1 f fd ["value"] (spInt K) := by
  refine F.ok scInt (fun vs H Q E h => ?_) (fun cdv A outer s H vs Q E hr h => ?_)
  · obtain ⟨x, rfl, _⟩ := h
    rfl
  · obtain ⟨x, rfl, k, q⟩ := h
    refine ⟨_, pss_one (ps_ret (pe_and (pe_callB call_isi (by rfl) B.isinstance (by decide +kernel) (pa_cons (pv 0) (pa_cons (pe_bltn (by rfl) B.int (by decide +kernel) (v := .ty "int") rfl) pa_nil)))
      (pe_one (pe_not (pe_callB call_isi (by rfl) B.isinstance (by decide +kernel) (pa_cons (pv 0) (pa_cons (pe_bltn (by rfl) B.bool (by decide +kernel) (v := .ty "bool") rfl) pa_nil))))))), ?_⟩
    have z := rd_int k q
    obtain ⟨_, c, t, u, b, e1, e2, e3, e4, c1, e5, z⟩ := z
    cases e1
    refine ⟨_, rfl, _, _, t, u, b, rfl, e2, e3, e4, c1, e5, ?_⟩
    cases c1 with
    | false => exact z
    | true =>
      obtain ⟨_, c, t, u, b, e1, e2, e3, e4, z⟩ := z
      cases e1
      exact ⟨_, rfl, _, _, t, u, b, rfl, e2, e3, e4, z⟩
end
end LJ
set_option Elab.async false
set_option linter.all false
set_option maxRecDepth 100000
set_option maxHeartbeats 4000000
namespace LJ
open PySem PySem.Spec L2
/-- the answer is b, whatever new stands beside -/
def Says (Q : VK) (H : Hp) (b : Bool) : Prop := ∀ H1, Ex H H1 → Q (.bl b) H1
def spName (K : PySem.W.Frag) : Sp := fun vs H Q _ => ∃ x, vs = [x] ∧ Kn K H x ∧ Says Q H (isN x)
theorem Kn.atStr {K : PySem.W.Frag} {H : Hp} {x : V} (k : Kn K H x) : ∃ t b, TyX K H x t ∧ PySem.W.kitOne K t (.type "str") = some b ∧ ((b = true ∧ ∃ s, x = .str s ∧ s.length ≤ sizeLine) ∨ (b = false ∧ isN x = false)) := by
  cases k with
  | int i => exact ⟨_, false, .base (.int i), kit_ty (by decide +kernel), .inr ⟨rfl, rfl⟩⟩
  | str s le => exact ⟨_, true, .base (.str s), kit_ty (by decide +kernel), .inl ⟨rfl, s, rfl, le⟩⟩
  | tup e le => exact ⟨_, false, .base (.tup e), kit_ty (by decide +kernel), .inr ⟨rfl, rfl⟩⟩
  | @oth _ t b ty i l s u ni nn nt => exact ⟨t, false, ty _ (LamX.ExtN.refl _), s, .inr ⟨rfl, nn⟩⟩
theorem Kn.atTup {K : PySem.W.Frag} {H : Hp} {x : V} (k : Kn K H x) : ∃ t b, TyX K H x t ∧ PySem.W.kitOne K t (.type "tuple") = some b ∧ ((b = true ∧ ∃ a xs, x = .ref a ∧ H a = some (.tup xs) ∧ tupOf H x = some xs) ∨ (b = false ∧ tupOf H x = none)) := by
  cases k with
  | int i => exact ⟨_, false, .base (.int i), kit_ty (by decide +kernel), .inr ⟨rfl, rfl⟩⟩
  | str s le => exact ⟨_, false, .base (.str s), kit_ty (by decide +kernel), .inr ⟨rfl, rfl⟩⟩
  | @tup a xs e le =>
    refine ⟨_, true, .base (.tup e), kit_ty (by decide +kernel), .inl ⟨rfl, a, xs, rfl, e, ?_⟩⟩
    show (match H a with
      | some (.tup ys) => some ys
      | _ => none) = some xs
    rw [e]
  | @oth _ t b ty i l s u ni nn nt => exact ⟨t, false, ty _ (LamX.ExtN.refl _), u, .inr ⟨rfl, nt _ (LamX.ExtN.refl _)⟩⟩
def low (c : Nat) : Bool := decide (97 ≤ c) && decide (c ≤ 122)
/-- one sign between two -/
theorem le_one (a b : Nat) : (!decide ((⟨#[b]⟩ : Str).cps.toList < (⟨#[a]⟩ : Str).cps.toList)) = decide (a ≤ b) := by
  have e : ((⟨#[b]⟩ : Str).cps.toList < (⟨#[a]⟩ : Str).cps.toList) ↔ b < a := by
    show [b] < [a] ↔ _
    simp [List.cons_lt_cons_iff]
  by_cases h : a ≤ b
  · rw [decide_eq_true h, decide_eq_false (fun z => by have := e.mp z; omega)]
    rfl
  · rw [decide_eq_false h, decide_eq_true (e.mpr (by omega))]
    rfl
section
variable {P : Program} {w : World} {K : PySem.W.Frag} {mg : Str → Option Value} {base : Heap}
theorem scName : FnScope ["value", "letter"] ["value"] (defScope sName) := ⟨rfl, rfl, rfl, by decide +kernel, rfl, by decide +kernel, by decide +kernel⟩
theorem ok_name {f : Addr} {fd : FuncData} {uL : Value} (F : Fun K "is_name" "is_name" sName f fd) (B : BltI mg) (mL : mg "_MOST_LETTERS" = some uL) (rL : RelV (.int 8) uL) : FnOk P w K mg base CX0 1 f fd ["value"] (spName K) := by
  refine F.ok scName (fun vs H Q E h => ?_) (fun cdv A outer s H vs Q E hr h => ?_)
  · obtain ⟨x, rfl, _⟩ := h
    rfl
  · obtain ⟨x, rfl, k, q⟩ := h
    refine ⟨_, pss_cons (ps_if (PW.pt (pw_or (pt_not (pt_truth (pe_callB call_isi (by rfl) B.isinstance (by decide +kernel) (pa_cons (pv 0) (pa_cons (pe_bltn (by rfl) B.str (by decide +kernel) (v := .ty "str") rfl) pa_nil))) (fun _ => rfl)))
        (pw_or1 (pt_not (pt_chain op_le op_le pe_int (pe_callB call_len_str (by rfl) B.len (by decide +kernel) (pa_cons (pv 0) pa_nil)) (pe_glob (by rfl) mL rL)))))) (pss_one (ps_ret pe_bl)) pss_nil)
      (pss_one (ps_ret (pe_callB (cr_all (by rfl)) (by rfl) B.all (by decide +kernel) (pa_cons (pe_lc (own := [("letter", 1)]) (g := gName 1) (by rfl) scName.nd (pi_str (pv 0)) (blkOk_by (own := [("letter", 1)]) (N := ["value", "letter"]) (sc := defScope sName) (by decide +kernel)) (fun _ _ _ _ _ => pg_name scName.nd rfl (Or.inl rfl)) (fun _ _ _ _ _ => pts_nil) (fun _ _ _ _ _ => pe_chain op_le_str op_le_str pe_str (pv 1) pe_str)) pa_nil)))), ?_⟩
    obtain ⟨t, b, ty, e, hb⟩ := k.atStr
    refine ⟨_, rfl, _, _, t, _, b, rfl, .ty "str", ty, e, b, rfl, ?_⟩
    rcases hb with ⟨rfl, s, rfl, le⟩ | ⟨rfl, n⟩
    · have out : ∀ c : Bool, c = false → isN (.str s) = c → Q (.bl false) H := fun c e1 e2 => by
        have z := q H Ex.refl
        rw [e2, e1] at z
        exact z
      refine ⟨_, rfl, s, rfl, le, 1, s.length, rfl, rfl, _, rfl, ?_⟩
      refine ite2 (fun c1 => ?_) (fun c1 => ?_)
      · refine ⟨_, _, rfl, rfl, _, rfl, ?_⟩
        have l1 : (1 : Int) ≤ s.length := of_decide_eq_true c1
        by_cases c2 : (s.length : Int) ≤ 8
        · rw [decide_eq_true c2]
          have l2 : s.length ≤ 8 := by omega
          have sz : s.cps.toList.length ≤ 8 := l2
          have big : (8 : Nat) < sizeLine := by
            rw [sizeLine_eq]
            decide
          refine ⟨_, rfl, s, rfl, fun D hD => lc_it walk_str (fun n H2 => Ex H H2 ∧ H2 D = some (.lst (((s.cps.toList.take n).map low).map V.bl))) ⟨Ex.refl.new hD, upd_same⟩ (fun _ _ _ _ => True.intro) ?_ ?_⟩
          · rintro i y _ H2 hi ⟨x2, e2⟩ ⟨rfl, c, hc, rfl⟩
            refine ⟨rfl, ?_⟩
            have hc2 : s.cps.toList[i]? = some c := by rw [Array.getElem?_toList]; exact hc
            have done : ∃ acc, H2 D = some (.lst acc) ∧ acc.length < sizeLine ∧ Ex H (upd H2 D (.lst (acc ++ [.bl (low c)]))) ∧ (upd H2 D (.lst (acc ++ [.bl (low c)]))) D = some (.lst (((s.cps.toList.take (i + 1)).map low).map V.bl)) := by
              refine ⟨_, e2, ?_, x2.put hD, ?_⟩
              · rw [List.length_map, List.length_map, List.length_take]
                omega
              · rw [upd_same, List.take_succ, hc2, List.map_append, List.map_append]
                rfl
            refine ⟨_, rfl, _, _, rfl, rfl, _, rfl, ?_⟩
            rw [show (!decide ((⟨#[c]⟩ : Str).cps.toList < (Str.ofString "a").cps.toList)) = decide (97 ≤ c) from le_one 97 c]
            refine ite2 (fun k1 => ?_) (fun k1 => ?_)
            · refine ⟨_, _, rfl, rfl, ?_⟩
              rw [show (!decide ((Str.ofString "z").cps.toList < (⟨#[c]⟩ : Str).cps.toList)) = decide (c ≤ 122) from le_one c 122]
              have e : low c = decide (c ≤ 122) := by
                unfold low
                rw [k1, Bool.true_and]
              rw [← e]
              exact done
            · have e : low c = false := by
                unfold low
                rw [Bool.eq_false_iff.mpr k1, Bool.false_and]
              rw [e] at done
              exact done
          · rintro H2 ⟨x2, e2⟩
            refine ⟨D, _, rfl, SqL.of e2, ?_⟩
            have z := q H2 x2
            have e : isN (.str s) = ((s.cps.toList.take s.cps.size).map low).all id := by
              show isW s = _
              unfold isW
              rw [decide_eq_true (p := 1 ≤ s.length) (by omega), decide_eq_true l2, Bool.true_and, Bool.true_and, List.take_of_length_le (by rw [Array.length_toList]; exact Nat.le_refl _), List.all_map]
              rfl
            rw [e] at z
            exact z
        · rw [decide_eq_false c2]
          refine out _ rfl ?_
          show isW s = false
          unfold isW
          rw [decide_eq_false (p := s.length ≤ 8) (by omega)]
          simp
      · have l1 : ¬ (1 : Int) ≤ s.length := fun z => c1 (decide_eq_true z)
        refine ⟨_, rfl, ?_⟩
        refine out _ rfl ?_
        show isW s = false
        unfold isW
        rw [decide_eq_false (p := 1 ≤ s.length) (by omega)]
        simp
    · rw [n] at q
      exact q H Ex.refl
end
end LJ
set_option Elab.async false
set_option linter.all false
set_option maxRecDepth 100000
set_option maxHeartbeats 4000000
namespace LJ
open PySem PySem.Spec L2
abbrev sShar : Stmt := top 30
abbrev sLim : Stmt := top 31
abbrev sCont : Stmt := top 32
abbrev sNamed : Stmt := top 33
abbrev sBnds : Stmt := top 34
/-- a tuple of this length that begins with a name -/
def isRow (H : Hp) (x : V) (n : Int) : Bool := match tupOf H x with
  | some xs => decide ((xs.length : Int) = n) && match xs with
    | y :: _ => isN y
    | [] => false
  | none => false
/-- a pair of bounds up to m -/
def bndOf (m : Int) : List V → Bool
  | [.int i, .int j] => decide (0 ≤ i) && (decide (i ≤ j) && decide (j ≤ m))
  | _ => false
def isBnd (H : Hp) (x : V) (m : Int) : Bool := match tupOf H x with
  | some xs => bndOf m xs
  | none => false
theorem isI_int : ∀ {y : V}, isI y = true → ∃ i, y = .int i
  | .int i, _ => ⟨i, rfl⟩
theorem bnd_two {m : Int} {xs : List V} (h : xs.length ≠ 2) : bndOf m xs = false := by
  match xs, h with
  | [], _ => rfl
  | [y], _ => cases y <;> rfl
  | [_, _], h => exact absurd rfl h
  | y :: z :: _ :: _, _ => cases y <;> cases z <;> rfl
theorem bnd_fst {m : Int} {y z : V} (h : isI y ≠ true) : bndOf m [y, z] = false := by
  cases y <;> first | exact absurd rfl h | rfl
theorem bnd_snd {m : Int} {i : Int} {z : V} (h : isI z ≠ true) : bndOf m [.int i, z] = false := by
  cases z <;> first | exact absurd rfl h | rfl
def spNamed (K : PySem.W.Frag) : Sp := fun vs H Q _ => ∃ (x : V) (n : Int), vs = [x, .int n] ∧ 1 ≤ n ∧ Deep K H 1 x ∧ Says Q H (isRow H x n)
def spBnd (K : PySem.W.Frag) : Sp := fun vs H Q _ => ∃ (x : V) (m : Int), vs = [x, .int m] ∧ Deep K H 1 x ∧ Says Q H (isBnd H x m)
section
variable {P : Program} {w : World} {K : PySem.W.Frag} {mg : Str → Option Value} {base : Heap}
theorem scNamed : FnScope ["row", "length"] ["row", "length"] (defScope sNamed) := ⟨rfl, rfl, rfl, by decide +kernel, rfl, by decide +kernel, by decide +kernel⟩
theorem ok_named {f fN : Addr} {fd fdN : FuncData} (F : Fun K "_is_named" "_is_named" sNamed f fd) (B : BltI mg)
    (GN : FnOk P w K mg base CX0 1 fN fdN ["value"] (spName K)) (mN : mg "is_name" = some (.ref fN)) (kN : PySem.W.keepIn K (.ref fN) = true) (bN : Binds K fdN ["value"] []) :
    FnOk P w K mg base CX0 2 f fd ["row", "length"] (spNamed K) := by
  refine F.ok scNamed (fun vs H Q E h => ?_) (fun cdv A outer s H vs Q E hr h => ?_)
  · obtain ⟨x, n, rfl, _⟩ := h
    rfl
  · obtain ⟨x, n, rfl, n1, k, q⟩ := h
    refine ⟨_, pss_one (ps_ret (pe_and (pe_callB call_isi (by rfl) B.isinstance (by decide +kernel) (pa_cons (pv 0) (pa_cons (pe_bltn (by rfl) B.tuple (by decide +kernel) (v := .ty "tuple") rfl) pa_nil)))
      (pe_and (pe_cmpR op_eq (pe_callB call_len_seq (by rfl) B.len (by decide +kernel) (pa_cons (pv 0) pa_nil)) (pv 1) (nomark _))
        (pe_one (pe_call GN hr (by rfl) mN kN bN .nil pass0 (pa_cons (pe_ix ix_tup (pv 0) pe_int (fun _ _ => rfl)) pa_nil)))))), ?_⟩
    obtain ⟨t, b, ty, e, hb⟩ := k.1.atTup
    refine ⟨_, rfl, _, _, t, _, b, rfl, .ty "tuple", ty, e, b, rfl, ?_⟩
    rcases hb with ⟨rfl, a, xs, rfl, ha, hx⟩ | ⟨rfl, hx⟩
    · refine ⟨_, rfl, a, xs, rfl, .inr (SqT.of ha), _, rfl, rfl, _, rfl, ?_⟩
      have z := q H Ex.refl
      by_cases c : (xs.length : Int) = n
      · have c1 : (V.int (xs.length : Int) = V.int n) := by rw [c]
        rw [decide_eq_true c1]
        show _
        match xs, hx, ha, c with
        | y :: r, hx, ha, c =>
          refine ⟨_, rfl, a, y :: r, 0, y, rfl, rfl, SqT.of ha, atI_nat (j := 0) rfl, y, rfl, k.2 _ hx y (List.mem_cons_self ..), fun H1 e1 => ?_⟩
          have z1 := q H1 e1
          unfold isRow at z1
          rw [hx] at z1
          simp only [c, decide_true, Bool.true_and] at z1
          exact z1
        | [], hx, ha, c =>
          simp at c
          omega
      · have c1 : ¬ (V.int (xs.length : Int) = V.int n) := fun z => c (V.int.inj z)
        rw [decide_eq_false c1]
        unfold isRow at z
        rw [hx] at z
        simp only [c, decide_false, Bool.false_and] at z
        exact z
    · have z := q H Ex.refl
      unfold isRow at z
      rw [hx] at z
      exact z
theorem scBnds : FnScope ["pair", "most", "low", "high"] ["pair", "most"] (defScope sBnds) := ⟨rfl, rfl, rfl, by decide +kernel, rfl, by decide +kernel, by decide +kernel⟩
theorem ok_bnds {f fI : Addr} {fd fdI : FuncData} (F : Fun K "_are_bounds" "_are_bounds" sBnds f fd) (B : BltI mg)
    (GI : FnOk P w K mg base CX0 1 fI fdI ["value"] (spInt K)) (mI : mg "is_integer" = some (.ref fI)) (kI : PySem.W.keepIn K (.ref fI) = true) (bI : Binds K fdI ["value"] []) :
    FnOk P w K mg base CX0 2 f fd ["pair", "most"] (spBnd K) := by
  refine F.ok scBnds (fun vs H Q E h => ?_) (fun cdv A outer s H vs Q E hr h => ?_)
  · obtain ⟨x, n, rfl, _⟩ := h
    rfl
  · obtain ⟨x, m, rfl, k, q⟩ := h
    refine ⟨_, pss_cons (ps_if (PW.pt (pw_or (pt_not (pt_truth (pe_callB call_isi (by rfl) B.isinstance (by decide +kernel) (pa_cons (pv 0) (pa_cons (pe_bltn (by rfl) B.tuple (by decide +kernel) (v := .ty "tuple") rfl) pa_nil))) (fun _ => rfl)))
        (pw_or1 (pt_cmpR op_ne (pe_callB call_len_seq (by rfl) B.len (by decide +kernel) (pa_cons (pv 0) pa_nil)) pe_int (nomark _))))) (pss_one (ps_ret pe_bl)) pss_nil)
      (pss_cons (ps_asg (pv 0) (pg_tup (by rfl) (pgs_cons (pg_name (i := 2) scBnds.nd rfl (Or.inl rfl)) (pgs_cons (pg_name (i := 3) scBnds.nd rfl (Or.inl rfl)) pgs_nil))))
      (pss_one (ps_ret (pe_and (pe_call GI hr (by rfl) mI kI bI .nil pass0 (pa_cons (pv 2) pa_nil)) (pe_and (pe_call GI hr (by rfl) mI kI bI .nil pass0 (pa_cons (pv 3) pa_nil))
        (pe_one (pe_chain3 op_le op_le op_le pe_int (pv 2) (pv 3) (pv 1)))))))), ?_⟩
    obtain ⟨t, b, ty, e, hb⟩ := k.1.atTup
    have z := q H Ex.refl
    refine ⟨_, rfl, _, _, t, _, b, rfl, .ty "tuple", ty, e, b, rfl, ?_⟩
    rcases hb with ⟨rfl, a, xs, rfl, ha, hx⟩ | ⟨rfl, hx⟩
    · refine ⟨_, rfl, a, xs, rfl, .inr (SqT.of ha), rfl, _, rfl, ?_⟩
      have kk := k.2 xs hx
      unfold isBnd at z
      rw [hx] at z
      by_cases c : xs.length = 2
      · obtain ⟨y1, y2, rfl⟩ : ∃ y1 y2, xs = [y1, y2] := by
          match xs, c with
          | [y1, y2], _ => exact ⟨y1, y2, rfl⟩
        refine ⟨_, rfl, a, _, rfl, SqT.of ha, rfl, ?_⟩
        have k1 : Kn K H y1 := kk y1 (by simp)
        have k2 : Kn K H y2 := kk y2 (by simp)
        refine ⟨_, _, rfl, _, _, rfl, rfl, _, rfl, y1, rfl, k1, _, rfl, ?_⟩
        by_cases e1 : isI y1 = true
        · obtain ⟨i, rfl⟩ := isI_int e1
          refine ⟨_, rfl, y2, rfl, k2, _, rfl, ?_⟩
          by_cases e2 : isI y2 = true
          · obtain ⟨j, rfl⟩ := isI_int e2
            have z : Q (.bl (decide (0 ≤ i) && (decide (i ≤ j) && decide (j ≤ m)))) H := z
            refine ⟨_, rfl, _, _, rfl, rfl, _, rfl, ?_⟩
            refine ite2 (fun c1 => ?_) (fun c1 => ?_)
            · rw [c1] at z
              refine ⟨_, rfl, _, _, rfl, rfl, _, rfl, ?_⟩
              refine ite2 (fun c2 => ?_) (fun c2 => ?_)
              · rw [c2] at z
                exact ⟨_, rfl, _, _, rfl, rfl, z⟩
              · rw [Bool.eq_false_iff.mpr c2] at z
                exact z
            · rw [Bool.eq_false_iff.mpr c1] at z
              exact z
          · rw [if_neg e2]
            have z : Q (.bl (bndOf m [.int i, y2])) H := z
            rw [bnd_snd e2] at z
            exact z
        · rw [if_neg e1]
          have z : Q (.bl (bndOf m [y1, y2])) H := z
          rw [bnd_fst e1] at z
          exact z
      · have c1 : ¬ (V.int (xs.length : Int) = V.int 2) := fun q1 => c (by have := V.int.inj q1; omega)
        rw [decide_eq_false c1]
        have z : Q (.bl (bndOf m xs)) H := z
        rw [bnd_two c] at z
        exact z
    · unfold isBnd at z
      rw [hx] at z
      exact z
end
end LJ
set_option Elab.async false
set_option linter.all false
set_option maxRecDepth 100000
set_option maxHeartbeats 4000000
namespace LJ
open PySem PySem.Spec L2
def top12 : Int := 1000000000000
def sharesOf : List V → Bool
  | [n, a, b] => isN n && bndOf 1000 [a, b]
  | _ => false
def limOf : List V → Bool
  | [n, .int i] => isN n && (decide (0 ≤ i) && decide (i ≤ top12))
  | _ => false
def pairsOf (H : Hp) (m : Int) : Option (List V) → Bool
  | some ps => decide ((ps.length : Int) = m) && ps.all fun y => isBnd H y top12
  | none => false
def contOf (H : Hp) (m : Int) : List V → Bool
  | [n, t] => isN n && pairsOf H m (tupOf H t)
  | _ => false
def onTup (f : List V → Bool) (H : Hp) (x : V) : Bool := match tupOf H x with
  | some xs => f xs
  | none => false
def spTest (K : PySem.W.Frag) (d : Nat) (f : Hp → V → Bool) : Sp := fun vs H Q _ => ∃ x : V, vs = [x] ∧ Deep K H d x ∧ Says Q H (f H x)
def spCont (K : PySem.W.Frag) : Sp := fun vs H Q _ => ∃ (x : V) (m : Int), vs = [x, .int m] ∧ Deep K H 3 x ∧ Says Q H (onTup (contOf H m) H x)
theorem tup_ref {H : Hp} {x : V} {xs : List V} (h : tupOf H x = some xs) : ∃ a, x = .ref a ∧ H a = some (.tup xs) := by
  unfold tupOf at h
  split at h
  · rename_i a
    refine ⟨a, rfl, ?_⟩
    split at h
    · rename_i e
      rw [e]
      cases h
      rfl
    · cases h
  · cases h
theorem tup_at {H : Hp} {a : Addr} {xs : List V} (e : H a = some (.tup xs)) : tupOf H (.ref a) = some xs := by
  show (match H a with
    | some (.tup ys) => some ys
    | _ => none) = some xs
  rw [e]
theorem row_yes {H : Hp} {x : V} {n : Int} (h : isRow H x n = true) : ∃ y ys, tupOf H x = some (y :: ys) ∧ (((y :: ys).length : Nat) : Int) = n ∧ isN y = true := by
  unfold isRow at h
  split at h
  · rename_i xs e
    rw [Bool.and_eq_true] at h
    obtain ⟨h1, h2⟩ := h
    match xs, h1, h2, e with
    | y :: ys, h1, h2, e => exact ⟨y, ys, e, of_decide_eq_true h1, h2⟩
    | [], _, h2, _ => cases h2
  · cases h
theorem row_no {H : Hp} {x : V} {n : Nat} {f : List V → Bool} (h : isRow H x n = false) (hf : ∀ xs, f xs = true → ∃ y ys, xs = y :: ys ∧ xs.length = n ∧ isN y = true) : onTup f H x = false := by
  unfold isRow at h
  unfold onTup
  split at h
  · rename_i xs e
    try rw [e]
    refine Bool.eq_false_iff.mpr fun z => ?_
    obtain ⟨y, ys, rfl, e2, e3⟩ := hf xs z
    simp only [e2, e3, decide_true, Bool.and_self] at h
    cases h
  · rename_i e
    first
      | rw [e]
      | rfl
theorem Deep.down {K : PySem.W.Frag} {H : Hp} : ∀ {n : Nat} {x : V}, Deep K H (n + 1) x → Deep K H n x
  | 0, _, d => d.1
  | n + 1, _, d => ⟨d.1, fun xs h y hy => Deep.down (d.2 xs h y hy)⟩
section
variable {P : Program} {w : World} {K : PySem.W.Frag} {mg : Str → Option Value} {base : Heap}
theorem scShar : FnScope ["row"] ["row"] (defScope sShar) := ⟨rfl, rfl, rfl, by decide +kernel, rfl, by decide +kernel, by decide +kernel⟩
theorem ok_shar {f fN fB : Addr} {fd fdN fdB : FuncData} {u : Value} (F : Fun K "_has_shares" "_has_shares" sShar f fd)
    (GN : FnOk P w K mg base CX0 2 fN fdN ["row", "length"] (spNamed K)) (mN : mg "_is_named" = some (.ref fN)) (kN : PySem.W.keepIn K (.ref fN) = true) (bN : Binds K fdN ["row", "length"] [])
    (GB : FnOk P w K mg base CX0 2 fB fdB ["pair", "most"] (spBnd K)) (mB : mg "_are_bounds" = some (.ref fB)) (kB : PySem.W.keepIn K (.ref fB) = true) (bB : Binds K fdB ["pair", "most"] [])
    (mM : mg "MOST_SHARE" = some u) (rM : RelV (.int 1000) u) :
    FnOk P w K mg base CX0 3 f fd ["row"] (spTest K 1 (onTup sharesOf)) := by
  refine F.ok scShar (fun vs H Q E h => ?_) (fun cdv A outer s H vs Q E hr h => ?_)
  · obtain ⟨x, rfl, _⟩ := h
    rfl
  · obtain ⟨x, rfl, k, q⟩ := h
    refine ⟨_, pss_one (ps_ret (pe_and (pe_call GN hr (by rfl) mN kN bN .nil pass0 (pa_cons (pv 0) (pa_cons pe_int pa_nil)))
      (pe_one (pe_call GB hr (by rfl) mB kB bB .nil pass0 (pa_cons (pe_slice sl_tup (pv 0) (po_some pe_int) po_none) (pa_cons (pe_glob (by rfl) mM rM) pa_nil)))))), ?_⟩
    refine ⟨_, rfl, x, 3, rfl, by decide, k, fun H1 e1 => ⟨_, rfl, ?_⟩⟩
    have z := q H1 e1
    cases hr3 : isRow H x 3 with
    | false =>
      rw [row_no (n := 3) hr3 fun xs hx => ?_] at z
      · exact z
      · match xs, hx with
        | [y, a, b], hx =>
          unfold sharesOf at hx
          exact ⟨y, _, rfl, rfl, (Bool.and_eq_true _ _ ▸ hx).1⟩
    | true =>
      obtain ⟨y, ys, ht, hl, hy⟩ := row_yes hr3
      obtain ⟨a, b, rfl⟩ : ∃ a b, ys = [a, b] := by
        match ys, hl with
        | [a, b], _ => exact ⟨a, b, rfl⟩
        | [], hl => simp at hl
        | [_], hl => simp at hl
        | _ :: _ :: _ :: _, hl => simp at hl; omega
      obtain ⟨p, rfl, hp⟩ := tup_ref ht
      rw [if_pos rfl]
      refine ⟨_, rfl, _, rfl, p, _, rfl, SqT.of (e1 _ _ hp), ?_, fun t nt => ?_⟩
      · rintro ⟨c, _⟩
        exact absurd (show (1 : Nat) = 0 from c) (by decide)
      · have cut : cutV [y, a, b] (some 1) none = [a, b] := rfl
        rw [cut]
        have up : Ex H1 (upd H1 t (.tup [a, b])) := Ex.refl.new nt
        have tt : tupOf (upd H1 t (.tup [a, b])) (.ref t) = some [a, b] := tup_at upd_same
        refine ⟨.ref t, 1000, rfl, ⟨.tup upd_same (by rw [sizeLine_eq]; exact (by decide : 2 ≤ 16777216)), fun xs hx v hv => ?_⟩, fun H2 e2 => ?_⟩
        · rw [tt] at hx
          cases hx
          exact Kn.ex (k.2 _ ht v (List.mem_cons_of_mem _ hv)) (e1.trans up)
        · have z2 := q H2 (e1.trans (up.trans e2))
          have e : isBnd (upd H1 t (.tup [a, b])) (.ref t) 1000 = onTup sharesOf H (.ref p) := by
            unfold isBnd onTup
            rw [tt, ht]
            show bndOf 1000 [a, b] = (isN y && bndOf 1000 [a, b])
            rw [hy, Bool.true_and]
          show Q (.bl (isBnd (upd H1 t (.tup [a, b])) (.ref t) 1000)) H2
          rw [e]
          exact z2
theorem scLim : FnScope ["row"] ["row"] (defScope sLim) := ⟨rfl, rfl, rfl, by decide +kernel, rfl, by decide +kernel, by decide +kernel⟩
theorem ok_lim {f fN fI : Addr} {fd fdN fdI : FuncData} {u : Value} (F : Fun K "_has_limit" "_has_limit" sLim f fd)
    (GN : FnOk P w K mg base CX0 2 fN fdN ["row", "length"] (spNamed K)) (mN : mg "_is_named" = some (.ref fN)) (kN : PySem.W.keepIn K (.ref fN) = true) (bN : Binds K fdN ["row", "length"] [])
    (GI : FnOk P w K mg base CX0 1 fI fdI ["value"] (spInt K)) (mI : mg "is_integer" = some (.ref fI)) (kI : PySem.W.keepIn K (.ref fI) = true) (bI : Binds K fdI ["value"] [])
    (mM : mg "MOST_AMOUNT" = some u) (rM : RelV (.int top12) u) :
    FnOk P w K mg base CX0 3 f fd ["row"] (spTest K 1 (onTup limOf)) := by
  refine F.ok scLim (fun vs H Q E h => ?_) (fun cdv A outer s H vs Q E hr h => ?_)
  · obtain ⟨x, rfl, _⟩ := h
    rfl
  · obtain ⟨x, rfl, k, q⟩ := h
    have hr1 : Room 1 _ := hr.mono (by decide)
    refine ⟨_, pss_one (ps_ret (pe_and (pe_call GN hr (by rfl) mN kN bN .nil pass0 (pa_cons (pv 0) (pa_cons pe_int pa_nil)))
      (pe_and (pe_call GI hr1 (by rfl) mI kI bI .nil pass0 (pa_cons (pe_ix ix_tup (pv 0) pe_int (fun _ _ => rfl)) pa_nil))
        (pe_one (pe_chain op_le op_le pe_int (pe_ix ix_tup (pv 0) pe_int (fun _ _ => rfl)) (pe_glob (by rfl) mM rM)))))), ?_⟩
    refine ⟨_, rfl, x, 2, rfl, by decide, k, fun H1 e1 => ⟨_, rfl, ?_⟩⟩
    have z := q H1 e1
    cases hr3 : isRow H x 2 with
    | false =>
      rw [row_no (n := 2) hr3 fun xs hx => ?_] at z
      · exact z
      · match xs, hx with
        | [y, .int i], hx =>
          unfold limOf at hx
          exact ⟨y, _, rfl, rfl, (Bool.and_eq_true _ _ ▸ hx).1⟩
    | true =>
      obtain ⟨y, ys, ht, hl, hy⟩ := row_yes hr3
      obtain ⟨a, rfl⟩ : ∃ a, ys = [a] := by
        match ys, hl with
        | [a], _ => exact ⟨a, rfl⟩
        | [], hl => simp at hl
        | _ :: _ :: _, hl => simp at hl; omega
      obtain ⟨p, rfl, hp⟩ := tup_ref ht
      rw [if_pos rfl]
      have at1 : atI [y, a] 1 = some a := atI_nat (j := 1) rfl
      refine ⟨_, rfl, p, _, 1, a, rfl, rfl, SqT.of (e1 _ _ hp), at1, a, rfl, Kn.ex (k.2 _ ht a (by simp)) e1, _, rfl, ?_⟩
      have z : Q (.bl (onTup limOf H (.ref p))) H1 := z
      unfold onTup at z
      rw [ht] at z
      have z : Q (.bl (limOf [y, a])) H1 := z
      by_cases ci : isI a = true
      · obtain ⟨i, rfl⟩ := isI_int ci
        rw [if_pos ci]
        refine ⟨_, rfl, p, _, 1, .int i, rfl, rfl, SqT.of (e1 _ _ hp), at1, _, _, rfl, rfl, _, rfl, ?_⟩
        have z : Q (.bl (isN y && (decide (0 ≤ i) && decide (i ≤ top12)))) H1 := z
        rw [hy, Bool.true_and] at z
        refine ite2 (fun c1 => ?_) (fun c1 => ?_)
        · rw [c1, Bool.true_and] at z
          exact ⟨_, _, rfl, rfl, z⟩
        · rw [Bool.eq_false_iff.mpr c1, Bool.false_and] at z
          exact z
      · rw [if_neg ci]
        have e : limOf [y, a] = false := by
          cases a <;> first | exact absurd rfl ci | rfl
        rw [e] at z
        exact z
end
end LJ
set_option Elab.async false
set_option linter.all false
set_option maxRecDepth 100000
set_option maxHeartbeats 4000000
namespace LJ
open PySem PySem.Spec L2
theorem isBnd_ex {K : PySem.W.Frag} {H H1 : Hp} {y : V} {m : Int} (k : Kn K H y) (e : Ex H H1) : isBnd H1 y m = isBnd H y m := by
  unfold isBnd
  rw [k.tups e]
section
variable {P : Program} {w : World} {K : PySem.W.Frag} {mg : Str → Option Value} {base : Heap}
theorem scCont : FnScope ["row", "many", "pair"] ["row", "many"] (defScope sCont) := ⟨rfl, rfl, rfl, by decide +kernel, rfl, by decide +kernel, by decide +kernel⟩
theorem ok_cont {f fN fB : Addr} {fd fdN fdB : FuncData} {u : Value} (F : Fun K "_has_contents" "_has_contents" sCont f fd) (B : BltI mg)
    (GN : FnOk P w K mg base CX0 2 fN fdN ["row", "length"] (spNamed K)) (mN : mg "_is_named" = some (.ref fN)) (kN : PySem.W.keepIn K (.ref fN) = true) (bN : Binds K fdN ["row", "length"] [])
    (GB : FnOk P w K mg base CX0 2 fB fdB ["pair", "most"] (spBnd K)) (mB : mg "_are_bounds" = some (.ref fB)) (kB : PySem.W.keepIn K (.ref fB) = true) (bB : Binds K fdB ["pair", "most"] [])
    (mM : mg "MOST_AMOUNT" = some u) (rM : RelV (.int top12) u) :
    FnOk P w K mg base CX0 3 f fd ["row", "many"] (spCont K) := by
  refine F.ok scCont (fun vs H Q E h => ?_) (fun cdv A outer s H vs Q E hr h => ?_)
  · obtain ⟨x, m, rfl, _⟩ := h
    rfl
  · obtain ⟨x, m, rfl, k, q⟩ := h
    refine ⟨_, pss_cons (ps_if (PW.pt (pw_or (pt_not (pt_truth (pe_call GN hr (by rfl) mN kN bN .nil pass0 (pa_cons (pv 0) (pa_cons pe_int pa_nil))) (fun _ => rfl)))
        (pw_or (pt_not (pt_truth (pe_callB call_isi (by rfl) B.isinstance (by decide +kernel) (pa_cons (pe_ix ix_tup (pv 0) pe_int (fun _ _ => rfl)) (pa_cons (pe_bltn (by rfl) B.tuple (by decide +kernel) (v := .ty "tuple") rfl) pa_nil))) (fun _ => rfl)))
        (pw_or1 (pt_cmpR op_ne (pe_callB call_len_seq (by rfl) B.len (by decide +kernel) (pa_cons (pe_ix ix_tup (pv 0) pe_int (fun _ _ => rfl)) pa_nil)) (pv 1) (nomark _)))))) (pss_one (ps_ret pe_bl)) pss_nil)
      (pss_one (ps_ret (pe_callB (cr_all (by rfl)) (by rfl) B.all (by decide +kernel) (pa_cons (pe_lc (own := [("pair", 2)]) (g := gName 2) (by rfl) scCont.nd (pi_tup (pe_ix ix_tup (pv 0) pe_int (fun _ _ => rfl))) (blkOk_by (own := [("pair", 2)]) (N := ["row", "many", "pair"]) (sc := defScope sCont) (by decide +kernel))
        (fun _ _ _ _ _ => pg_name scCont.nd rfl (Or.inl rfl)) (fun _ _ _ _ _ => pts_nil) (fun _ _ _ _ _ => pe_call GB hr (by rfl) mB kB bB .nil pass0 (pa_cons (pv 2) (pa_cons (pe_glob (by rfl) mM rM) pa_nil)))) pa_nil)))), ?_⟩
    have k1 : Deep K H 1 x := k.down.down
    refine ⟨_, rfl, x, 2, rfl, by decide, k1, fun H1 e1 => ⟨_, rfl, ?_⟩⟩
    have z := q H1 e1
    cases hr3 : isRow H x 2 with
    | false =>
      rw [row_no (n := 2) hr3 fun xs hx => ?_] at z
      · exact z
      · match xs, hx with
        | [y, t], hx =>
          unfold contOf at hx
          exact ⟨y, _, rfl, rfl, (Bool.and_eq_true _ _ ▸ hx).1⟩
    | true =>
      obtain ⟨y, ys, ht, hl, hy⟩ := row_yes hr3
      obtain ⟨t, rfl⟩ : ∃ a, ys = [a] := by
        match ys, hl with
        | [a], _ => exact ⟨a, rfl⟩
        | [], hl => simp at hl
        | _ :: _ :: _, hl => simp at hl; omega
      obtain ⟨p, rfl, hp⟩ := tup_ref ht
      have at1 : atI [y, t] 1 = some t := atI_nat (j := 1) rfl
      have kt : Deep K H 2 t := k.2 _ ht t (by simp)
      have kt1 : Kn K H1 t := kt.1.ex e1
      have ez : onTup (contOf H m) H (.ref p) = pairsOf H m (tupOf H t) := by
        unfold onTup
        rw [ht]
        show (isN y && _) = _
        rw [hy, Bool.true_and]
      rw [ez] at z q
      obtain ⟨ty1, b, ty, e, hb⟩ := kt1.atTup
      refine ⟨_, rfl, p, _, 1, t, rfl, rfl, SqT.of (e1 _ _ hp), at1, t, _, ty1, _, b, rfl, .ty "tuple", ty, e, b, rfl, ?_⟩
      rcases hb with ⟨rfl, a, ps, rfl, ha, hx⟩ | ⟨rfl, hx⟩
      · refine ⟨_, rfl, p, _, 1, .ref a, rfl, rfl, SqT.of (e1 _ _ hp), at1, a, ps, rfl, .inr (SqT.of ha), _, rfl, rfl, _, rfl, ?_⟩
        have h0 : tupOf H (.ref a) = some ps := by
          rw [← kt.1.tups e1]
          exact hx
        rw [h0] at z q
        have z : Q (.bl (decide ((ps.length : Int) = m) && ps.all fun y => isBnd H y top12)) H1 := z
        have sz : ps.length ≤ sizeLine := kt.1.le h0
        by_cases c : (ps.length : Int) = m
        · have c1 : (V.int (ps.length : Int) = V.int m) := by rw [c]
          rw [decide_eq_true c1]
          refine ⟨_, rfl, p, _, 1, .ref a, rfl, rfl, SqT.of (e1 _ _ hp), at1, a, rfl, ⟨ps, SqT.of ha⟩, fun D hD => lc_it walk_tup (fun n H2 => Ex H1 H2 ∧ H2 D = some (.lst ((ps.take n).map fun y => V.bl (isBnd H y top12)))) ⟨Ex.refl.new hD, upd_same⟩ (fun i H2 _ h => SqT.of (h.1 _ _ ha)) ?_ ?_⟩
          · rintro i v _ H2 hi ⟨x2, e2⟩ ⟨rfl, hv⟩
            have kv : Deep K H 1 v := kt.2 _ h0 v (List.mem_of_getElem? hv)
            refine ⟨rfl, ?_⟩
            refine ⟨_, rfl, v, top12, rfl, Deep.ex (e1.trans x2) kv, fun H3 e3 => ?_⟩
            refine ⟨_, e3 _ _ e2, ?_, (x2.trans e3).put hD, ?_⟩
            · rw [List.length_map, List.length_take]
              omega
            · rw [upd_same, List.take_succ, hv, List.map_append, isBnd_ex kv.1 (e1.trans x2)]
              rfl
          · rintro H2 ⟨x2, e2⟩
            have e3 : H2 D = some (.lst ((ps.map fun y => isBnd H y top12).map V.bl)) := by
              rw [e2, List.take_of_length_le (Nat.le_refl _), List.map_map]
              rfl
            refine ⟨D, _, rfl, SqL.of e3, ?_⟩
            have z2 := q H2 (e1.trans x2)
            have z2 : Q (.bl (decide ((ps.length : Int) = m) && ps.all fun y => isBnd H y top12)) H2 := z2
            rw [decide_eq_true c, Bool.true_and] at z2
            rw [List.all_map]
            exact z2
        · have c1 : ¬ (V.int (ps.length : Int) = V.int m) := fun z => c (V.int.inj z)
          rw [decide_eq_false c1]
          rw [decide_eq_false c, Bool.false_and] at z
          exact z
      · rw [← kt.1.tups e1, hx] at z
        exact z
end
end LJ
set_option Elab.async false
set_option linter.all false
set_option maxRecDepth 100000
set_option maxHeartbeats 8000000
namespace LJ
open PySem PySem.Spec L2
abbrev sFirst : Stmt := top 29
abbrev nFirst : List Str := ["rows", "earlier", "fewest", "most", "is_right", "taken", "at", "row"]
abbrev pFirst : List Str := ["rows", "earlier", "fewest", "most", "is_right"]
/-- the place of the first row that is none: too many, not right, or its name is taken -/
def fwAt (R : V → Bool) (nm : V → Str) (most : Int) : List Str → Nat → List V → Option Nat
  | _, _, [] => none
  | tk, i, v :: r => if (i : Int) = most then some i else if R v = false then some i else if nm v ∈ tk then some i else fwAt R nm most (tk ++ [nm v]) (i + 1) r
def fwOut (R : V → Bool) (nm : V → Str) (few most : Int) (tk : List Str) : Option (List V) → List V
  | none => [.non]
  | some xs => if (xs.length : Int) < few then [.non] else match fwAt R nm most tk 0 xs with
    | none => []
    | some i => [.int i]
/-- a row that begins with this name -/
def Named (H : Hp) (v : V) (n : Str) : Prop := ∃ (a : Addr) (r : List V), v = .ref a ∧ H a = some (.tup (.str n :: r))
theorem Named.ex {H H1 : Hp} {v : V} {n : Str} (h : Named H v n) (e : Ex H H1) : Named H1 v n := by
  obtain ⟨a, r, e1, e2⟩ := h
  exact ⟨a, r, e1, e _ _ e2⟩
theorem walk_en {K : PySem.W.Frag} {a : Addr} {xs : List V} : Walk (EnT.Itn K a) xs.length (fun H => SqT K H a xs) (YPair (fun i => some (.int (i : Nat))) (fun i => xs[i]?)) where
  goes i _ hi q := ⟨xs, xs[i], q, by simp [hi]⟩
  stops _ q := ⟨xs, q, rfl⟩
  yields i H v H1 _ q y := by
    obtain ⟨T, x, h1, h2, h3, h4⟩ := y
    exact ⟨T, .int (i : Nat), x, h1, h2, h3, rfl, h4 xs q⟩
theorem strs_in {n : Str} {tk : List Str} : inV (.str n) (tk.map V.str) = decide (n ∈ tk) := by
  unfold inV
  rw [List.any_map]
  have e : (fun y => eqV y (V.str n)) ∘ V.str = fun y => decide (y = n) := by
    funext y
    show eqV (.str y) (.str n) = _
    unfold eqV
    rfl
  rw [e]
  by_cases h : n ∈ tk
  · rw [decide_eq_true h, List.any_eq_true]
    exact ⟨n, h, by simp⟩
  · rw [decide_eq_false h, List.any_eq_false]
    intro y hy z
    exact h (of_decide_eq_true z ▸ hy)
theorem Paired.spot {α β : Type} {F : α → β → Prop} : ∀ {xs : List α} {ys : List β} {i : Nat} {x : α}, Paired F xs ys → xs[i]? = some x → ∃ y, ys[i]? = some y ∧ F x y
  | _, _, 0, _, .cons f _, h => by
    cases h
    exact ⟨_, rfl, f⟩
  | _, _, i + 1, _, .cons _ t, h => Paired.spot (i := i) t h
  | _, _, _, _, .nil, h => by simp at h
theorem Paired.size {α β : Type} {F : α → β → Prop} : ∀ {xs : List α} {ys : List β}, Paired F xs ys → xs.length = ys.length
  | _, _, .nil => rfl
  | _, _, .cons _ t => by rw [List.length_cons, List.length_cons, Paired.size t]
section
variable {P : Program} {w : World} {K : PySem.W.Frag} {mg : Str → Option Value} {base : Heap}
theorem scFirst : FnScope nFirst pFirst (defScope sFirst) := ⟨rfl, rfl, rfl, by decide +kernel, rfl, by decide +kernel, by decide +kernel⟩
theorem walk_fw {f : Addr} {cdv : Value} {A : Around} {outer : List Env} {s : Shared} {H : Hp} {E : XK} {Q : VK} {tc : TE} {R : V → Bool} {nm : V → Str} {x cal : V} {ae : Addr} {ers : List V} {names : List Str} {few most : Int} (B : BltI mg)
    (hcall : ∀ p1 p2 p3, PE (cxOf CX0 P w K mg base nFirst "_first_wrong" (defScope sFirst) f cdv A outer s H E).nox (.Call (.Name "is_right" p1) [.Name "row" p2] [] p3) tc)
    (kx : Kn K H x) (ke : H ae = some (.tup ers)) (ken : Paired (Named H) ers names) (few0 : 0 ≤ few) (most0 : 0 ≤ most) (most1 : most ≤ 100) (el : ers.length ≤ 1000)
    (hR : ∀ xs, tupOf H x = some xs → ∀ v ∈ xs, ∀ (σ : St) (H1 : Hp) (Q1 : VK), Ex H H1 → σ[4]? = some (some cal) → σ[7]? = some (some v) → Says Q1 H1 (R v) → tc σ H1 Q1)
    (hN : ∀ xs, tupOf H x = some xs → ∀ v ∈ xs, R v = true → Named H v (nm v))
    (q : ∀ (p : Addr) (H1 : Hp), Ex H H1 → H p = none → H1 p = some (.tup (fwOut R nm few most names (tupOf H x))) → Q (.ref p) H1) :
    ∃ t, PSs (cxOf CX0 P w K mg base nFirst "_first_wrong" (defScope sFirst) f cdv A outer s H E).nox (defBody sFirst) t ∧ t { nx := fun _ H1 => Q .non H1, rt := Q } (start nFirst [x, .ref ae, .int few, .int most, cal]) H := by
  refine ⟨_, pss_cons (ps_if (PW.pt (pw_or (pt_not (pt_truth (pe_callB call_isi (by rfl) B.isinstance (by decide +kernel) (pa_cons (pv 0) (pa_cons (pe_bltn (by rfl) B.tuple (by decide +kernel) (v := .ty "tuple") rfl) pa_nil))) (fun _ => rfl)))
        (pw_or1 (pt_cmpR op_lt (pe_callB call_len_seq (by rfl) B.len (by decide +kernel) (pa_cons (pv 0) pa_nil)) (pv 2) (nomark _))))) (pss_one (ps_ret (pe_tup (pa_cons pe_non pa_nil)))) pss_nil)
    (pss_cons (ps_setLc (i := 5) (own := [("row", 7)]) (g := gName 7) (by rfl) scFirst.nd rfl rfl (sw_true rfl rfl rfl (by decide +kernel)) (pi_tup (pv 1)) (blkOk_by (own := [("row", 7)]) (N := nFirst) (sc := defScope sFirst) (by decide +kernel))
        (fun _ _ _ _ _ => pg_name scFirst.nd rfl (Or.inl rfl)) (fun _ _ _ _ _ => pts_nil) (fun _ _ _ _ _ => pe_ix (show IxR _ (rIxT K) from ix_tup) (pv 7) pe_int (fun _ _ => rfl)))
    (pss_cons (ps_for PassesOwn.never rfl (EnT.pi_enT (by rfl) B.enumerate (pa_cons (pv 0) pa_nil)) (pg_tup (by rfl) (pgs_cons (pg_name (i := 6) scFirst.nd rfl (Or.inl rfl)) (pgs_cons (pg_name (i := 7) scFirst.nd rfl (Or.inl rfl)) pgs_nil)))
        (pss_cons (ps_if (PW.pt (pw_or (pt_cmpR op_eq (pv 6) (pv 3) (nomark _)) (pw_or (pt_not (pt_truth (hcall _ _ _) (fun _ => rfl))) (pw_or1 (pt_cmpR op_in_seq (pe_ix ix_tup (pv 7) pe_int (fun _ _ => rfl)) (pv 5) (by with_unfolding_all rfl)))))) (pss_one (ps_ret (pe_tup (pa_cons (pv 6) pa_nil)))) pss_nil)
        (pss_one (ps_expr (pe_bm PySem.F.plainAttrs_list PySem.F.slot_list_append PySem.F.type_list_append mt_append (pv 5) (pa_cons (pe_ix ix_tup (pv 7) pe_int (fun _ _ => rfl)) pa_nil))))))
    (pss_one (ps_ret (pe_tup pa_nil))))), ?_⟩
  obtain ⟨t, b, ty, e, hb⟩ := kx.atTup
  have one : 1 ≤ sizeLine := by
    rw [sizeLine_eq]
    decide
  have big : (2000 : Nat) < sizeLine := by
    rw [sizeLine_eq]
    decide
  have nl : ers.length = names.length := Paired.size ken
  refine ⟨_, rfl, _, _, t, _, b, rfl, .ty "tuple", ty, e, b, rfl, ?_⟩
  rcases hb with ⟨rfl, a, xs, rfl, ha, hx⟩ | ⟨rfl, hx⟩
  · rw [hx] at q
    refine ⟨_, rfl, a, xs, rfl, .inr (SqT.of ha), _, rfl, _, _, rfl, rfl, _, rfl, ?_⟩
    refine ite2 (fun c => ?_) (fun c => ?_)
    · refine ⟨one, fun p np => q p _ (Ex.refl.new np) np ?_⟩
      rw [upd_same]
      unfold fwOut
      simp only
      rw [if_pos (of_decide_eq_true c)]
    · have c' : ¬ (xs.length : Int) < few := fun z => c (decide_eq_true z)
      have q : ∀ (p : Addr) (H1 : Hp) (o : Option Nat), Ex H H1 → H p = none → fwAt R nm most names 0 xs = o → H1 p = some (.tup (match o with | none => [] | some i => [.int i])) → Q (.ref p) H1 := fun p H1 o e1 e2 e3 e4 => by
        refine q p H1 e1 e2 ?_
        unfold fwOut
        simp only
        rw [if_neg c', e3, e4]
      clear c
      refine ⟨_, rfl, ae, rfl, ⟨ers, SqT.of ke⟩, fun D hD => lc_it walk_tup (fun n H2 => Ex H H2 ∧ H2 D = some (.lst ((names.take n).map V.str))) ⟨Ex.refl.new hD, upd_same⟩ (fun i H2 _ h => SqT.of (h.1 _ _ ke)) ?_ ?_⟩
      · rintro i v _ H2 hi ⟨x2, e2⟩ ⟨rfl, hv⟩
        obtain ⟨n, hn, b, r, rfl, hb⟩ := Paired.spot ken hv
        refine ⟨rfl, ?_⟩
        refine ⟨_, rfl, b, _, 0, .str n, rfl, rfl, SqT.of (x2 _ _ hb), atI_nat (j := 0) rfl, ?_⟩
        refine ⟨_, e2, ?_, x2.put hD, ?_⟩
        · rw [List.length_map, List.length_take]
          omega
        · rw [upd_same, List.take_succ, hn, List.map_append]
          rfl
      · rintro H2 ⟨x2, e2⟩
        rw [nl, List.take_length] at e2
        refine ⟨_, rfl, a, xs, rfl, SqT.of (x2 _ _ ha), for_it walk_en (fun n σ G => ∃ (tk : List Str) (v6 v7 : Option V), σ = [some (.ref a), some (.ref ae), some (.int few), some (.int most), some cal, some (.ref D), v6, v7] ∧ Ex H G ∧ G D = some (.lst (tk.map V.str)) ∧
            tk.length = names.length + n ∧ (n : Int) ≤ most ∧ fwAt R nm most names 0 xs = fwAt R nm most tk n (xs.drop n))
          ⟨names, _, _, rfl, x2, e2, rfl, by omega, by rw [List.drop_zero]⟩ (fun n σ G _ ⟨_, _, _, _, h, _⟩ => SqT.of (h _ _ ha)) ?_ ?_⟩
        · rintro i v σ G G1 hi ⟨tk, v6, v7, rfl, xG, eD, tl, im, ef⟩ ⟨T, y1, y2, rfl, nT, rfl, h1, h2⟩
          cases h1
          have h2 : xs[i]? = some y2 := h2
          have hi2 : i < xs.length := hi
          have dr : xs.drop i = y2 :: xs.drop (i + 1) := by
            have z := h2
            rw [List.getElem?_eq_getElem hi2] at z
            rw [List.drop_eq_getElem_cons hi2, Option.some.inj z]
          rw [dr] at ef
          have mem : y2 ∈ xs := List.mem_of_getElem? h2
          have xT : Ex H (upd G T (.tup [.int (i : Nat), y2])) := xG.new nT
          have dT : D ≠ T := ne_of_none eD nT
          have eD1 : (upd G T (.tup [.int (i : Nat), y2])) D = some (.lst (tk.map V.str)) := by
            rw [upd_ne dT]
            exact eD
          have eT : (upd G T (.tup [.int (i : Nat), y2])) T = some (.tup [.int (i : Nat), y2]) := upd_same
          generalize upd G T (.tup [.int (i : Nat), y2]) = G1 at xT eD1 eT ⊢
          refine ⟨T, _, rfl, SqT.of eT, rfl, _, _, rfl, _, _, rfl, rfl, ?_⟩
          refine ⟨_, rfl, _, rfl, rfl, _, rfl, ?_⟩
          have stop : fwAt R nm most tk i (y2 :: xs.drop (i + 1)) = some i → ∀ (G2 : Hp), Ex H G2 → ∀ p, G2 p = none → Q (.ref p) (upd G2 p (.tup [.int (i : Nat)])) := fun z G2 x3 p np =>
            q p _ (some i) (x3.new np) (x3.gone np) (ef.trans z) upd_same
          by_cases c1 : (i : Int) = most
          · rw [decide_eq_true (show V.int ((i : Nat) : Int) = V.int most by rw [c1])]
            refine ⟨_, rfl, one, fun p np => stop ?_ G1 xT p np⟩
            unfold fwAt
            rw [if_pos c1]
          · rw [decide_eq_false (fun z : V.int ((i : Nat) : Int) = V.int most => c1 (V.int.inj z))]
            refine hR xs hx y2 mem _ _ _ xT rfl rfl fun G2 x4 => ⟨_, rfl, ?_⟩
            have xT2 := xT.trans x4
            cases hRv : R y2 with
            | false =>
              refine ⟨_, rfl, one, fun p np => stop ?_ G2 xT2 p np⟩
              unfold fwAt
              rw [if_neg c1, if_pos hRv]
            | true =>
              obtain ⟨bb, r, rfl, hbb⟩ := hN xs hx y2 mem hRv
              have eD2 := x4 _ _ eD1
              have fl : (tk.map V.str).all flatV = true := by
                rw [List.all_map]
                exact List.all_eq_true.mpr fun _ _ => rfl
              refine ⟨_, rfl, bb, _, 0, .str (nm (.ref bb)), rfl, rfl, SqT.of (xT2 _ _ hbb), atI_nat (j := 0) rfl, _, rfl, D, _, rfl, .inl (SqL.of eD2), rfl, fl, _, rfl, ?_⟩
              rw [show (if false = true then !inV (V.str (nm (V.ref bb))) (tk.map V.str) else inV (V.str (nm (V.ref bb))) (tk.map V.str)) = decide (nm (V.ref bb) ∈ tk) from strs_in]
              refine ite2 (fun c2 => ?_) (fun c2 => ?_)
              · refine ⟨_, rfl, one, fun p np => stop ?_ G2 xT2 p np⟩
                unfold fwAt
                rw [if_neg c1, if_neg (by rw [hRv]; decide), if_pos (of_decide_eq_true c2)]
              · have c3 : ¬ nm (V.ref bb) ∈ tk := fun z => c2 (decide_eq_true z)
                refine ⟨_, rfl, .inl ⟨rfl, _, SqL.of eD2⟩, _, rfl, bb, _, 0, .str (nm (.ref bb)), rfl, rfl, SqT.of (xT2 _ _ hbb), atI_nat (j := 0) rfl, D, _, _, rfl, rfl, eD2, ?_, tk ++ [nm (.ref bb)], _, _, rfl, xT2.put hD, ?_, ?_, ?_, ?_⟩
                · rw [List.length_map, tl]
                  omega
                · rw [upd_same, List.map_append]
                  rfl
                · rw [List.length_append, tl]
                  rfl
                · omega
                · rw [ef]
                  conv => lhs; unfold fwAt
                  rw [if_neg c1, if_neg (by rw [hRv]; decide), if_neg c3]
        · rintro σ G ⟨tk, v6, v7, rfl, xG, eD, tl, im, ef⟩
          rw [List.drop_length] at ef
          exact ⟨Nat.zero_le _, fun p np => q p _ none (xG.new np) (xG.gone np) ef upd_same⟩
  · rw [hx] at q
    exact ⟨one, fun p np => q p _ (Ex.refl.new np) np upd_same⟩
end
end LJ
set_option Elab.async false
set_option linter.all false
set_option maxRecDepth 100000
set_option maxHeartbeats 8000000
namespace LJ
open PySem PySem.Spec L2
def nameOf (H : Hp) (v : V) : Str := match tupOf H v with
  | some (.str n :: _) => n
  | _ => Str.empty
/-- what a test lets has a name ahead -/
def Heads (g : List V → Bool) : Prop := ∀ xs, g xs = true → ∃ y ys, xs = y :: ys ∧ isN y = true
theorem heads_shares : Heads sharesOf := fun xs h => by
  match xs, h with
  | [y, a, b], h =>
    unfold sharesOf at h
    exact ⟨y, _, rfl, (Bool.and_eq_true _ _ ▸ h).1⟩
theorem heads_lim : Heads limOf := fun xs h => by
  match xs, h with
  | [y, .int i], h =>
    unfold limOf at h
    exact ⟨y, _, rfl, (Bool.and_eq_true _ _ ▸ h).1⟩
theorem heads_cont {H : Hp} {m : Int} : Heads (contOf H m) := fun xs h => by
  match xs, h with
  | [y, t], h =>
    unfold contOf at h
    exact ⟨y, _, rfl, (Bool.and_eq_true _ _ ▸ h).1⟩
theorem named_of {g : List V → Bool} {H : Hp} {v : V} (hg : Heads g) (h : onTup g H v = true) : Named H v (nameOf H v) := by
  unfold onTup at h
  split at h
  · rename_i xs e
    obtain ⟨y, ys, rfl, hy⟩ := hg xs h
    obtain ⟨a, rfl, ha⟩ := tup_ref e
    match y, hy with
    | .str n, _ =>
      refine ⟨a, ys, rfl, ?_⟩
      unfold nameOf
      rw [e]
      exact ha
  · cases h
theorem onTup_ex {K : PySem.W.Frag} {g : List V → Bool} {H H1 : Hp} {v : V} (k : Kn K H v) (e : Ex H H1) : onTup g H1 v = onTup g H v := by
  unfold onTup
  rw [k.tups e]
/-- what the call of _first_wrong asks of its first four arguments -/
structure FwPre (K : PySem.W.Frag) (H : Hp) (x : V) (ae : Addr) (ers : List V) (names : List Str) (few most : Int) : Prop where
  ke : H ae = some (.tup ers)
  ken : Paired (Named H) ers names
  few0 : 0 ≤ few
  most0 : 0 ≤ most
  most1 : most ≤ 100
  el : ers.length ≤ 1000
def spFw (K : PySem.W.Frag) (fS fL : Addr) : Sp := fun vs H Q _ => ∃ (x : V) (ae : Addr) (ers : List V) (names : List Str) (few most : Int) (cf : Addr) (g : List V → Bool), vs = [x, .ref ae, .int few, .int most, .ref cf] ∧ FwPre K H x ae ers names few most ∧ Deep K H 2 x ∧
  ((cf = fS ∧ g = sharesOf) ∨ (cf = fL ∧ g = limOf)) ∧ ∀ (p : Addr) (H1 : Hp), Ex H H1 → H p = none → H1 p = some (.tup (fwOut (onTup g H) (nameOf H) few most names (tupOf H x))) → Q (.ref p) H1
section
variable {P : Program} {w : World} {K : PySem.W.Frag} {mg : Str → Option Value} {base : Heap}
theorem ok_first {f fS fL : Addr} {fd fdS fdL : FuncData} (F : Fun K "_first_wrong" "_first_wrong" sFirst f fd) (B : BltI mg)
    (GS : FnOk P w K mg base CX0 3 fS fdS ["row"] (spTest K 1 (onTup sharesOf))) (kS : PySem.W.keepIn K (.ref fS) = true) (bS : Binds K fdS ["row"] [])
    (GL : FnOk P w K mg base CX0 3 fL fdL ["row"] (spTest K 1 (onTup limOf))) (kL : PySem.W.keepIn K (.ref fL) = true) (bL : Binds K fdL ["row"] []) :
    FnOk P w K mg base CX0 4 f fd pFirst (spFw K fS fL) := by
  refine F.ok scFirst (fun vs H Q E h => ?_) (fun cdv A outer s H vs Q E hr h => ?_)
  · obtain ⟨x, ae, ers, names, few, most, cf, g, rfl, _⟩ := h
    rfl
  · obtain ⟨x, ae, ers, names, few, most, cf, g, rfl, pre, dx, hc, q⟩ := h
    refine walk_fw (cal := .ref cf) (R := onTup g H) (nm := nameOf H) B (fun p1 p2 p3 => C8.pe_cv (i := 4) (k1 := 3) (k2 := 3) ⟨⟨_, _, GS, kS, bS⟩⟩ ⟨⟨_, _, GL, kL, bL⟩⟩ hr (by decide) (by decide) (by rfl) (by exact Or.inl rfl) (pa_cons (pv 7) pa_nil))
      dx.1 pre.ke pre.ken pre.few0 pre.most0 pre.most1 pre.el ?_ ?_ q
    · intro xs hx v hv σ H1 Q1 e1 h4 h7 says
      have dv : Deep K H 1 v := dx.2 xs hx v hv
      rcases hc with ⟨rfl, rfl⟩ | ⟨rfl, rfl⟩
      · exact .inl ⟨h4, v, h7, v, rfl, Deep.ex e1 dv, by rw [onTup_ex dv.1 e1]; exact says⟩
      · exact .inr ⟨h4, v, h7, v, rfl, Deep.ex e1 dv, by rw [onTup_ex dv.1 e1]; exact says⟩
    · intro xs hx v hv hR
      rcases hc with ⟨_, rfl⟩ | ⟨_, rfl⟩
      · exact named_of heads_shares hR
      · exact named_of heads_lim hR
end
end LJ
set_option Elab.async false
set_option linter.all false
set_option maxRecDepth 100000
set_option maxHeartbeats 8000000
namespace LJ
open PySem PySem.Spec L2
open LamX (ExtN)
abbrev sCheck : Stmt := top 28
abbrev nCheck : List Str := ["machines", "cleanings", "stuffs", "products", "wrong", "many"]
abbrev pCheck : List Str := ["machines", "cleanings", "stuffs", "products"]
theorem onTup_exN {K : PySem.W.Frag} {g : List V → Bool} {H H1 : Hp} {v : V} (k : Kn K H v) (e : ExtN H H1) : onTup g H1 v = onTup g H v := by
  unfold onTup
  rw [k.tupsN e]
theorem nameOf_exN {K : PySem.W.Frag} {H H1 : Hp} {v : V} (k : Kn K H v) (e : ExtN H H1) : nameOf H1 v = nameOf H v := by
  unfold nameOf
  rw [k.tupsN e]
theorem isBnd_exN {K : PySem.W.Frag} {H H1 : Hp} {y : V} {m : Int} (k : Kn K H y) (e : ExtN H H1) : isBnd H1 y m = isBnd H y m := by
  unfold isBnd
  rw [k.tupsN e]
theorem all_same {α : Type} {p q : α → Bool} : ∀ {xs : List α}, (∀ x ∈ xs, p x = q x) → xs.all p = xs.all q
  | [], _ => rfl
  | x :: xs, h => by rw [List.all_cons, List.all_cons, h x (List.mem_cons_self ..), all_same fun y hy => h y (List.mem_cons_of_mem _ hy)]
theorem cont_exN {K : PySem.W.Frag} {H H1 : Hp} {m : Int} {v : V} (d : Deep K H 3 v) (e : ExtN H H1) : onTup (contOf H1 m) H1 v = onTup (contOf H m) H v := by
  unfold onTup
  rw [d.1.tupsN e]
  cases hx : tupOf H v with
  | none => rfl
  | some xs =>
    show contOf H1 m xs = contOf H m xs
    match xs, hx with
    | [], _ => rfl
    | [_], _ => rfl
    | _ :: _ :: _ :: _, _ => rfl
    | [n, t], hx =>
      have dt : Deep K H 2 t := d.2 _ hx t (by simp)
      show (isN n && pairsOf H1 m (tupOf H1 t)) = (isN n && pairsOf H m (tupOf H t))
      rw [dt.1.tupsN e]
      cases ht : tupOf H t with
      | none => rfl
      | some ps =>
        show (isN n && (decide ((ps.length : Int) = m) && ps.all fun y => isBnd H1 y top12)) = (isN n && (decide ((ps.length : Int) = m) && ps.all fun y => isBnd H y top12))
        rw [all_same fun y hy => isBnd_exN (m := top12) (dt.2 _ ht y hy).1 e]
theorem fwAt_same {R R1 : V → Bool} {nm nm1 : V → Str} {most : Int} : ∀ {xs : List V} {tk : List Str} {i : Nat}, (∀ v ∈ xs, R v = R1 v ∧ nm v = nm1 v) → fwAt R nm most tk i xs = fwAt R1 nm1 most tk i xs
  | [], _, _, _ => by
    unfold fwAt
    rfl
  | v :: xs, tk, i, h => by
    have h1 := h v (List.mem_cons_self ..)
    have t := fwAt_same (tk := tk ++ [nm1 v]) (i := i + 1) (most := most) fun y hy => h y (List.mem_cons_of_mem _ hy)
    unfold fwAt
    rw [h1.1, h1.2, t]
/-- all rows are right, and there are no more than so many -/
theorem fwAt_all {R : V → Bool} {nm : V → Str} {most : Int} : ∀ {xs : List V} {tk : List Str} {i : Nat}, (i : Int) ≤ most → fwAt R nm most tk i xs = none → (∀ v ∈ xs, R v = true) ∧ (i : Int) + xs.length ≤ most
  | [], _, i, h0, _ => ⟨(fun _ z => nomatch z), by simpa using h0⟩
  | v :: xs, tk, i, h0, h => by
    unfold fwAt at h
    split at h
    · cases h
    · split at h
      · cases h
      · split at h
        · cases h
        · rename_i c1 c2 c3
          obtain ⟨a, b⟩ := fwAt_all (i := i + 1) (by omega) h
          refine ⟨fun y hy => ?_, ?_⟩
          · rcases List.mem_cons.mp hy with rfl | hy
            · exact Bool.of_not_eq_false c2
            · exact a y hy
          · rw [List.length_cons]
            omega
theorem fw_nil {R : V → Bool} {nm : V → Str} {few most : Int} {tk : List Str} {H : Hp} {x : V} {xs : List V} (e : tupOf H x = some xs) (l : few ≤ xs.length) (h : fwAt R nm most tk 0 xs = none) : fwOut R nm few most tk (tupOf H x) = [] := by
  rw [e]
  unfold fwOut
  simp only
  rw [if_neg (by omega), h]
/-- four tuples that the check lets -/
structure Fit (K : PySem.W.Frag) (H : Hp) (am ac as ap : Addr) (xm xc xs xp : List V) : Prop where
  m : H am = some (.tup xm)
  c : H ac = some (.tup xc)
  s : H as = some (.tup xs)
  p : H ap = some (.tup xp)
  dm : Deep K H 2 (.ref am)
  dc : Deep K H 2 (.ref ac)
  ds : Deep K H 2 (.ref as)
  dp : Deep K H 4 (.ref ap)
  lm : 1 ≤ xm.length
  ls : 1 ≤ xs.length
  lp : 1 ≤ xp.length
  fm : fwAt (onTup sharesOf H) (nameOf H) 6 [] 0 xm = none
  fc : fwAt (onTup sharesOf H) (nameOf H) 6 (xm.map (nameOf H)) 0 xc = none
  fs : fwAt (onTup limOf H) (nameOf H) 3 ((xm ++ xc).map (nameOf H)) 0 xs = none
  fp : fwAt (onTup (contOf H xs.length) H) (nameOf H) 8 ((xm ++ xc ++ xs).map (nameOf H)) 0 xp = none
theorem Deep.rows {K : PySem.W.Frag} {H : Hp} {n : Nat} {a : Addr} {xs : List V} (d : Deep K H (n + 1) (.ref a)) (h : H a = some (.tup xs)) : ∀ v ∈ xs, Deep K H n v := d.2 xs (tup_at h)
theorem names_exN {K : PySem.W.Frag} {H H1 : Hp} (e : ExtN H H1) : ∀ {xs : List V}, (∀ v ∈ xs, Kn K H v) → xs.map (nameOf H1) = xs.map (nameOf H)
  | [], _ => rfl
  | x :: xs, h => by rw [List.map_cons, List.map_cons, nameOf_exN (h x (List.mem_cons_self ..)) e, names_exN e fun y hy => h y (List.mem_cons_of_mem _ hy)]
theorem Fit.exN {K : PySem.W.Frag} {H H1 : Hp} {am ac as ap : Addr} {xm xc xs xp : List V} (F : Fit K H am ac as ap xm xc xs xp) (e : ExtN H H1) : Fit K H1 am ac as ap xm xc xs xp := by
  have km : ∀ v ∈ xm, Kn K H v := fun v hv => (F.dm.rows F.m v hv).kn
  have kc : ∀ v ∈ xc, Kn K H v := fun v hv => (F.dc.rows F.c v hv).kn
  have ks : ∀ v ∈ xs, Kn K H v := fun v hv => (F.ds.rows F.s v hv).kn
  have kp : ∀ v ∈ xp, Kn K H v := fun v hv => (F.dp.rows F.p v hv).kn
  have kmc : ∀ v ∈ xm ++ xc, Kn K H v := fun v hv => (List.mem_append.mp hv).elim (km v) (kc v)
  have kmcs : ∀ v ∈ xm ++ xc ++ xs, Kn K H v := fun v hv => (List.mem_append.mp hv).elim (kmc v) (ks v)
  refine ⟨tup_n e F.m, tup_n e F.c, tup_n e F.s, tup_n e F.p, F.dm.exN e, F.dc.exN e, F.ds.exN e, F.dp.exN e, F.lm, F.ls, F.lp, ?_, ?_, ?_, ?_⟩
  · rw [← F.fm]
    exact fwAt_same fun v hv => ⟨onTup_exN (km v hv) e, nameOf_exN (km v hv) e⟩
  · rw [← F.fc, names_exN e km]
    exact fwAt_same fun v hv => ⟨onTup_exN (kc v hv) e, nameOf_exN (kc v hv) e⟩
  · rw [← F.fs, names_exN e kmc]
    exact fwAt_same fun v hv => ⟨onTup_exN (ks v hv) e, nameOf_exN (ks v hv) e⟩
  · rw [← F.fp, names_exN e kmcs]
    exact fwAt_same fun v hv => ⟨cont_exN (F.dp.rows F.p v hv) e, nameOf_exN (kp v hv) e⟩
theorem paired_names {H : Hp} : ∀ {xs : List V}, (∀ v ∈ xs, Named H v (nameOf H v)) → Paired (Named H) xs (xs.map (nameOf H))
  | [], _ => .nil
  | x :: xs, h => .cons (h x (List.mem_cons_self ..)) (paired_names fun y hy => h y (List.mem_cons_of_mem _ hy))
theorem Fit.named {K : PySem.W.Frag} {H : Hp} {am ac as ap : Addr} {xm xc xs xp : List V} (F : Fit K H am ac as ap xm xc xs xp) :
    (∀ v ∈ xm, Named H v (nameOf H v)) ∧ (∀ v ∈ xc, Named H v (nameOf H v)) ∧ (∀ v ∈ xs, Named H v (nameOf H v)) ∧ xm.length ≤ 6 ∧ xc.length ≤ 6 ∧ xs.length ≤ 3 := by
  obtain ⟨a1, b1⟩ := fwAt_all (by decide) F.fm
  obtain ⟨a2, b2⟩ := fwAt_all (by decide) F.fc
  obtain ⟨a3, b3⟩ := fwAt_all (by decide) F.fs
  exact ⟨fun v hv => named_of heads_shares (a1 v hv), fun v hv => named_of heads_shares (a2 v hv), fun v hv => named_of heads_lim (a3 v hv), by omega, by omega, by omega⟩
/-- a + b, two tuples, the first one not empty -/
theorem rd_cat {K : PySem.W.Frag} {H : Hp} {a b : Addr} {xs ys : List V} {Q : VK} (ha : H a = some (.tup xs)) (hb : H b = some (.tup ys)) (ne : xs ≠ []) (l : xs.length + ys.length ≤ 1000)
    (q : ∀ (c : Addr) (H1 : Hp), Ex H H1 → H1 c = some (.tup (xs ++ ys)) → Q (.ref c) H1) : rCatT K (.ref a) (.ref b) H Q := by
  refine ⟨a, b, xs, ys, rfl, rfl, SqT.of ha, SqT.of hb, ne, ?_, fun e => ?_, fun _ p np => ?_⟩
  · rw [sizeLine_eq]
    omega
  · subst e
    exact q a H Ex.refl (by rw [List.append_nil]; exact ha)
  · exact q p _ (Ex.refl.new np) upd_same
end LJ
set_option Elab.async false
set_option linter.all false
set_option maxRecDepth 100000
set_option maxHeartbeats 8000000
namespace LJ
open PySem PySem.Spec L2
open LamX (ExtN TabB)
open NdefX (NTab TabsN)
/-- a def with the code object at c, by its body -/
theorem Fun.okC {K : PySem.W.Frag} {P : Program} {w : World} {mg : Str → Option Value} {base : Heap} {x qual : Str} {st : Stmt} {f c : Addr} {fd : FuncData} {N ps : List Str} {k : Nat} {sp : Sp} (F : Fun K x qual st f fd) (hc : fd.code = .ref c) (S : FnScope N ps (defScope st)) (len : ∀ vs H Q E, sp vs H Q E → vs.length = ps.length)
    (hbody : ∀ (A : Around) (outer : List Env) (s : Shared) (H : Hp) (vs : List V) (Q : VK) (E : XK), Room k (A.deeper (PyProof.Rows.envOfC qual (defScope st) s.heap.objs.size f (.ref c))) → sp vs H Q E →
      ∃ t, PSs (cxOf CX0 P w K mg base N qual (defScope st) f (.ref c) A outer s H E).nox (defBody st) t ∧ t { nx := fun _ H1 => Q .non H1, rt := Q } (start N vs) H) : FnOk P w K mg base CX0 (k + 1) f fd ps sp := by
  obtain ⟨oc, od, kV, doc, pm, an, cdv, ct, osl, rfl, lk, hcd⟩ := F.ex
  obtain rfl : cdv = .ref c := hc
  refine fn_of lk hcd S len fun A outer s H vs Q E hr hsp => ?_
  obtain ⟨t, h, q⟩ := hbody A outer s H vs Q E hr hsp
  exact ⟨t, h.nox, q⟩
/-! ### _first_wrong(.., lambda row: _has_contents(row, many)) -/
def spRow (K : PySem.W.Frag) : List (Option V) → Sp := fun ws vs H Q _ => ∃ (v : V) (m : Int), ws = [some (.int m)] ∧ vs = [v] ∧ Deep K H 3 v ∧ Says Q H (onTup (contOf H m) H v)
/-- what the arguments are: the lambda stands, many is m -/
def AskL (X : Cx) (params : Arguments) (body : Expr) (scope : Scope) : St → List V → Hp → VK → Prop := fun σ vs H Q => ∃ (x : V) (ae : Addr) (ers : List V) (names : List Str) (few most m : Int) (fl c1 : Addr),
  vs = [x, .ref ae, .int few, .int most, .ref fl] ∧ FwPre X.K H x ae ers names few most ∧ Deep X.K H 4 x ∧ σ[5]? = some (some (.int m)) ∧ H fl = some (LamV.LnO fl (LamV.lamF X params scope c1) body) ∧
  H (LamV.lamF X params scope c1).c = some (LamX.CodeO (LamV.lamF X params scope c1).c (LamV.lamF X params scope c1).qual) ∧
  ∀ (p : Addr) (H1 : Hp), Ex H H1 → H p = none → H1 p = some (.tup (fwOut (onTup (contOf H m) H) (nameOf H) few most names (tupOf H x))) → Q (.ref p) H1
theorem pe_fwl {X : Cx} {f fC : Addr} {fd fdC : FuncData} {params : Arguments} {body : Expr} {scope : Scope} {p pos : Pos} {e : Expr} {es : List Expr} {t : TA} {q1 q2 q3 q4 : Pos} (F : Fun X.K "_first_wrong" "_first_wrong" sFirst f fd) (B : BltI X.mg) (room : Room 5 X.A) (gl : Gl X "_first_wrong")
    (is : X.mg "_first_wrong" = some (.ref f)) (kp : PySem.W.keepIn X.K (.ref f) = true) (bd : Binds X.K fd pFirst [])
    (GC : FnOk X.prog X.w X.K X.mg X.base CX0 3 fC fdC ["row", "many"] (spCont X.K)) (mC : X.mg "_has_contents" = some (.ref fC)) (kC : PySem.W.keepIn X.K (.ref fC) = true) (bC : Binds X.K fdC ["row", "many"] [])
    (is5 : X.N[5]? = some ("many" : Str)) (caps : ∀ y ∈ scope.names, y.2 = .free → X.env.scope.names.lookup y.1 = some .cell ∨ X.env.scope.names.lookup y.1 = some .free) (frees : ∀ y ∈ (["many"] : List Str), (y, NameKind.free) ∈ scope.names) (hb : body = .Call (.Name "_has_contents" q1) [.Name "row" q2, .Name "many" q3] [] q4)
    (NS : NdefX.NScope ["row", "many"] ["row"] ["many"] scope) (glC : scope.names.lookup ("_has_contents" : Str) = some .globalImplicit)
    (hbind : ∀ (nm q : Str) (cl : List (Str × Addr)) (m t cv : Value) (us : List Value), us.length = 1 → bindArgs (PySem.W.kla_fn nm q params body scope cl m cv t) ⟨us, []⟩ = pure ((["row"] : List Str).zip us))
    (args : PA X (e :: es) t) (p1 : starEach (e :: es) X.env = (false, eval e X.env) :: starEach es X.env := by rfl) (p2 : (backTo pos (starEach es X.env)).any (·.1) = false := by rfl) :
    PE X (.Call (.Name "_first_wrong" p) (e :: es) [] pos) (fun σ H Q => t σ H fun vs H1 => AskL X params body scope σ vs H1 Q) := by
  refine LamV.pe_in (N := nFirst) (ps := pFirst) (k := 4) F scFirst room gl is kp bd (fun {σ vs H Q} h => ?_) (fun cdv pins σ H s vs Q I deep h => ?_) args (by decide) p1 p2
  · obtain ⟨x, ae, ers, names, few, most, m, fl, c1, rfl, _⟩ := h
    rfl
  · obtain ⟨x, ae, ers, names, few, most, m, fl, c1, rfl, pre, dx, hm, hfl, hc1, q⟩ := h
    have L : LamV.LOk X.prog X.w X.K X.mg X.base CX0 4 fl (LamV.lamF X params scope c1) body 1 ["many"] (spRow X.K) := by
      refine LamV.LOk.by_body (N := ["row", "many"]) (ps := ["row"]) NS (fun m t us hl => hbind _ _ _ _ _ _ us hl) (fun {ws vs H Q E} h => ?_) fun A outer s H vs ws Q E hr rdy h => ?_
      · obtain ⟨v, m, _, rfl, _⟩ := h
        rfl
      · obtain ⟨v, m, rfl, rfl, dv, says⟩ := h
        subst hb
        refine ⟨_, pe_call GC hr (show Gl _ _ from glC) mC kC bC .nil pass0 (pa_cons (pe_var (i := 0) rfl (.inl (NS.par _ (List.mem_cons_self ..)))) (pa_cons (pe_var (i := 1) rfl (.inr (.inr (NS.frk _ (List.mem_cons_self ..))))) pa_nil)), ?_⟩
        exact ⟨v, rfl, .int m, rfl, v, m, rfl, dv, says⟩
    have C : NdefX.CellsAt (LamV.lamF X params scope c1).cl ["many"] ([5].map (NdefX.slotAt σ)) s.heap H := by
      refine NdefX.cells_of I (NdefX.Caps.made (fr := ["many"]) (js := [5]) I.ok caps frees ?_)
      show [X.N[5]?] = [some ("many" : Str)]
      rw [is5]
    have w5 : [5].map (NdefX.slotAt σ) = [some (.int m)] := by
      show [NdefX.slotAt σ 5] = _
      rw [NdefX.slotAt_of hm]
    rw [w5] at C
    have deep' : Room 4 (X.A.deeper (PyProof.Rows.envOfC "_first_wrong" (defScope sFirst) s.heap.objs.size f cdv)) := deep
    refine walk_fw (cal := .ref fl) (R := onTup (contOf H m) H) (nm := nameOf H) B (fun q1 q2 q3 => LamV.pe_lact (i := 4) L C rfl deep' (Nat.le_refl _) pass0 rfl (Or.inl rfl) (pa_cons (pv 7) pa_nil)) dx.1 pre.ke pre.ken pre.few0 pre.most0 pre.most1 pre.el ?_ ?_ q
    · intro xs hx v hv σ1 H1 Q1 e1 h4 h7 says
      have dv : Deep X.K H 3 v := dx.2 xs hx v hv
      refine ⟨⟨h4, e1 _ _ hfl⟩, v, h7, ⟨e1 _ _ hfl, e1 _ _ hc1⟩, v, m, rfl, rfl, Deep.ex e1 dv, ?_⟩
      rw [cont_exN dv e1.n]
      exact says
    · intro xs hx v hv hR
      exact named_of heads_cont hR
end LJ
set_option Elab.async false
set_option linter.all false
set_option maxRecDepth 100000
set_option maxHeartbeats 8000000
namespace LJ
open PySem PySem.Spec L2
open LamX (ExtN TabB)
open NdefX (NTab TabsN)
/-- the lambda that the check hands on -/
def lamE : Expr := match (defBody sCheck).getD 7 (.Pass ⟨0, 0, 0, 0⟩) with
  | .Assign _ (.Call _ args _ _) _ => args.getD 4 (.Constant .none 0 ⟨0, 0, 0, 0⟩)
  | _ => .Constant .none 0 ⟨0, 0, 0, 0⟩
def lamParams : Expr → Arguments
  | .Lambda a _ _ _ => a
  | _ => ⟨[], [], none, [], [], none, []⟩
def lamBody : Expr → Expr
  | .Lambda _ b _ _ => b
  | e => e
def lamScope : Expr → Scope
  | .Lambda _ _ s _ => s
  | _ => defScope sCheck
def lamName : Nat → Nat → Str := fun _ _ => "_check.<locals>.<lambda>"
def spCheck (K : PySem.W.Frag) (T : List NTab) : Sp := fun vs H Q _ => ∃ (am ac as ap : Addr) (xm xc xs xp : List V), vs = [.ref am, .ref ac, .ref as, .ref ap] ∧ Fit K H am ac as ap xm xc xs xp ∧ TabsN T H ∧ ∀ H1, ExtN H H1 → TabsN T H1 → Q .non H1
theorem TabsN.exs {T : List NTab} {H H1 : Hp} (t : TabsN T H) (e : Ex H H1) : TabsN T H1 := t.ext e
section
variable {P : Program} {w : World} {K : PySem.W.Frag} {mg : Str → Option Value} {base : Heap}
theorem scCheck : FnScope nCheck pCheck (defScope sCheck) := ⟨rfl, rfl, rfl, by decide +kernel, rfl, by decide +kernel, by decide +kernel⟩
theorem ok_check {f fF fS fL fC c Pt : Addr} {fd fdF fdC : FuncData} {u1 u2 u3 u4 : Value} {T : List NTab} (F : Fun K "_check" "_check" sCheck f fd) (hcode : fd.code = .ref c) (TB : TabB base mg c Pt) (inT : (Pt, lamName) ∈ T) (only : ∀ r ∈ T, r.1 = Pt → r.2 = lamName) (B : BltI mg)
    (FF : Fun K "_first_wrong" "_first_wrong" sFirst fF fdF) (GF : FnOk P w K mg base CX0 4 fF fdF pFirst (spFw K fS fL)) (mF : mg "_first_wrong" = some (.ref fF)) (kF : PySem.W.keepIn K (.ref fF) = true) (bF : Binds K fdF pFirst [])
    (GC : FnOk P w K mg base CX0 3 fC fdC ["row", "many"] (spCont K)) (mC : mg "_has_contents" = some (.ref fC)) (kC : PySem.W.keepIn K (.ref fC) = true) (bC : Binds K fdC ["row", "many"] [])
    (mS : mg "_has_shares" = some (.ref fS)) (mL : mg "_has_limit" = some (.ref fL))
    (m1 : mg "MOST_MACHINES" = some u1) (r1 : RelV (.int 6) u1) (m2 : mg "MOST_CLEANINGS" = some u2) (r2 : RelV (.int 6) u2) (m3 : mg "MOST_STUFFS" = some u3) (r3 : RelV (.int 3) u3) (m4 : mg "MOST_PRODUCTS" = some u4) (r4 : RelV (.int 8) u4) :
    FnOk P w K mg base CX0 6 f fd pCheck (spCheck K T) := by
  refine Fun.okC F hcode scCheck (fun vs H Q E h => ?_) (fun A outer s H vs Q E hr h => ?_)
  · obtain ⟨am, ac, as, ap, xm, xc, xs, xp, rfl, _⟩ := h
    rfl
  · obtain ⟨am, ac, as, ap, xm, xc, xs, xp, rfl, fit, tabs, q⟩ := h
    have hr4 : Room 4 _ := hr.mono (by decide)
    refine ⟨_, pss_cons (ps_set (i := 4) scCheck.nd rfl (Or.inl rfl) (pe_call GF hr4 (by rfl) mF kF bF .nil pass0 (pa_cons (pv 0) (pa_cons (pe_tup pa_nil) (pa_cons pe_int (pa_cons (pe_glob (by rfl) m1 r1) (pa_cons (pe_glob (v := .ref fS) (by rfl) mS rfl) pa_nil)))))))
      (pss_cons (ps_if (pt_truth (pv 4) (fun _ => rfl)) pss_never pss_nil)
      (pss_cons (ps_set (i := 4) scCheck.nd rfl (Or.inl rfl) (pe_call GF hr4 (by rfl) mF kF bF .nil pass0 (pa_cons (pv 1) (pa_cons (pv 0) (pa_cons pe_int (pa_cons (pe_glob (by rfl) m2 r2) (pa_cons (pe_glob (v := .ref fS) (by rfl) mS rfl) pa_nil)))))))
      (pss_cons (ps_if (pt_truth (pv 4) (fun _ => rfl)) pss_never pss_nil)
      (pss_cons (ps_set (i := 4) scCheck.nd rfl (Or.inl rfl) (pe_call GF hr4 (by rfl) mF kF bF .nil pass0 (pa_cons (pv 2) (pa_cons (pe_op op_catT (pv 0) (pv 1)) (pa_cons pe_int (pa_cons (pe_glob (by rfl) m3 r3) (pa_cons (pe_glob (v := .ref fL) (by rfl) mL rfl) pa_nil)))))))
      (pss_cons (ps_if (pt_truth (pv 4) (fun _ => rfl)) pss_never pss_nil)
      (pss_cons (ps_set (i := 5) scCheck.nd rfl (Or.inr rfl) (pe_callB call_len_seq (by rfl) B.len (by decide +kernel) (pa_cons (pv 2) pa_nil)))
      (pss_cons (ps_set (i := 4) scCheck.nd rfl (Or.inl rfl) (pe_fwl (params := lamParams lamE) (body := lamBody lamE) (scope := lamScope lamE) FF B hr (by rfl) mF kF bF GC mC kC bC rfl (NdefX.ndef_free (sc := defScope sCheck) (fr := ["many"]) (by decide +kernel)) (NdefX.ndef_fr (sc := defScope sCheck) (by decide +kernel)) rfl (NdefX.nscope_by (by decide +kernel)) rfl
          (fun _ _ _ _ _ _ us hl => match us, hl with | [_], _ => rfl)
          (pa_cons (pv 3) (pa_cons (pe_op op_catT (pe_op op_catT (pv 0) (pv 1)) (pv 2)) (pa_cons pe_int (pa_cons (pe_glob (by rfl) m4 r4) (pa_cons (LamV.pe_lam TB rfl inT rfl only rfl (NdefX.ndef_free (sc := defScope sCheck) (fr := ["many"]) (by decide +kernel))) pa_nil)))))))
      (pss_one (ps_if (pt_truth (pv 4) (fun _ => rfl)) pss_never pss_nil))))))))), ?_⟩
    have le0 : ([] : List V).length ≤ sizeLine := Nat.zero_le _
    refine ⟨_, rfl, le0, fun p0 np0 => ?_⟩
    have x0 : Ex H (upd H p0 (.tup [])) := Ex.refl.new np0
    have F0 := fit.exN x0.n
    have T0 := TabsN.exs tabs x0
    have e0 : (upd H p0 (.tup [])) p0 = some (.tup []) := upd_same
    generalize upd H p0 (.tup []) = H0 at x0 F0 T0 e0 ⊢
    refine ⟨.ref am, p0, [], [], 1, 6, fS, sharesOf, rfl, ⟨e0, .nil, by decide, by decide, by decide, by decide⟩, F0.dm, .inl ⟨rfl, rfl⟩, fun p1 H1 x1 np1 e1 => ?_⟩
    rw [fw_nil (tup_at F0.m) (by have := fit.lm; omega) F0.fm] at e1
    refine ⟨_, rfl, false, .inr (.inl ⟨[], SqT.of e1, rfl⟩), ?_⟩
    have F1 := F0.exN x1.n
    have T1 := TabsN.exs T0 x1
    obtain ⟨nm1, nc1, ns1, lm1, lc1, ls1⟩ := F1.named
    refine ⟨_, rfl, _, rfl, .ref ac, am, xm, xm.map (nameOf H1), 0, 6, fS, sharesOf, rfl, ⟨F1.m, paired_names nm1, by decide, by decide, by decide, by omega⟩, F1.dc, .inl ⟨rfl, rfl⟩, fun p2 H2 x2 np2 e2 => ?_⟩
    rw [fw_nil (tup_at F1.c) (by omega) F1.fc] at e2
    refine ⟨_, rfl, false, .inr (.inl ⟨[], SqT.of e2, rfl⟩), ?_⟩
    have F2 := F1.exN x2.n
    have T2 := TabsN.exs T1 x2
    have ne : xm ≠ [] := fun z => by
      have l := fit.lm
      rw [z] at l
      exact absurd l (by decide)
    refine ⟨_, rfl, _, rfl, _, rfl, rd_cat F2.m F2.c ne (by omega) fun pc H3 x3 e3 => ?_⟩
    have F3 := F2.exN x3.n
    have T3 := TabsN.exs T2 x3
    obtain ⟨nm3, nc3, ns3, _⟩ := F3.named
    have nmc3 : ∀ v ∈ xm ++ xc, Named H3 v (nameOf H3 v) := fun v hv => (List.mem_append.mp hv).elim (nm3 v) (nc3 v)
    refine ⟨.ref as, pc, xm ++ xc, (xm ++ xc).map (nameOf H3), 1, 3, fL, limOf, rfl, ⟨e3, paired_names nmc3, by decide, by decide, by decide, by rw [List.length_append]; omega⟩, F3.ds, .inr ⟨rfl, rfl⟩, fun p4 H4 x4 np4 e4 => ?_⟩
    rw [fw_nil (tup_at F3.s) (by have := fit.ls; omega) F3.fs] at e4
    refine ⟨_, rfl, false, .inr (.inl ⟨[], SqT.of e4, rfl⟩), ?_⟩
    have F4 := F3.exN x4.n
    have T4 := TabsN.exs T3 x4
    refine ⟨_, rfl, as, xs, rfl, .inr (SqT.of F4.s), ?_⟩
    refine ⟨_, rfl, _, rfl, _, rfl, rd_cat F4.m F4.c ne (by omega) fun pd H5 x5 e5 => ?_⟩
    have F5 := F4.exN x5.n
    have T5 := TabsN.exs T4 x5
    have ne2 : xm ++ xc ≠ [] := fun z => ne (List.append_eq_nil_iff.mp z).1
    refine ⟨_, rfl, rd_cat e5 F5.s ne2 (by rw [List.length_append]; omega) fun pe H6 x6 e6 => ?_⟩
    have F6 := F5.exN x6.n
    have T6 := TabsN.exs T5 x6
    refine ⟨T6, fun fl c1 H7 x7 _ T7 _ efl ec1 => ?_⟩
    have F7 := F6.exN x7
    obtain ⟨nm7, nc7, ns7, _⟩ := F7.named
    have n7 : ∀ v ∈ xm ++ xc ++ xs, Named H7 v (nameOf H7 v) := fun v hv => (List.mem_append.mp hv).elim (fun hv => (List.mem_append.mp hv).elim (nm7 v) (nc7 v)) (ns7 v)
    refine ⟨.ref ap, pe, xm ++ xc ++ xs, (xm ++ xc ++ xs).map (nameOf H7), 1, 8, xs.length, fl, c1, rfl, ⟨tup_n x7 e6, paired_names n7, by decide, by decide, by decide, by rw [List.length_append, List.length_append]; omega⟩, F7.dp, rfl, efl, ec1, fun p8 H8 x8 np8 e8 => ?_⟩
    rw [fw_nil (tup_at F7.p) (by have := fit.lp; omega) F7.fp] at e8
    refine ⟨_, rfl, false, .inr (.inl ⟨[], SqT.of e8, rfl⟩), ?_⟩
    exact q H8 ((x0.trans (x1.trans (x2.trans (x3.trans (x4.trans (x5.trans x6)))))).n.trans (x7.trans x8.n)) (TabsN.exs T7 x8)
end
end LJ
set_option Elab.async false
set_option linter.all false
set_option maxRecDepth 100000
set_option maxHeartbeats 8000000
namespace LJ
open PySem PySem.Spec L2
open LamX (ExtN TabB)
open NdefX (NTab TabsN)
open RZ (ItzT pi_zipA iZipA)
abbrev sBy : Stmt := top 27
/-- a dict comprehension over any walk -/
theorem dc_it {J : It} {n : Nat} {G : Hp → Prop} {Y : Nat → Hp → V → Hp → Prop} (w : Walk J n G Y) {g : TG} {tt : TT} {tk tv : TE} {vs : List Nat} {σ : St} {H1 : Hp} {D : Addr} {Qd : Hp → Prop} (Pv : Nat → Hp → Prop) (start : Pv 0 (upd H1 D (.dK []))) (hG : ∀ i H, i ≤ n → Pv i H → G H)
    (turn : ∀ i x H H2, i < n → Pv i H → Y i H x H2 → g x (wipe σ vs) H2 fun σ3 H3 => wipe σ3 vs = wipe σ vs ∧ tt σ3 H3 fun b H4 =>
      if b = true then tk σ3 H4 fun y H5 => tv σ3 H5 fun z H6 => ∃ kvs k, y = kV k ∧ H6 D = some (.dK kvs) ∧ kvs.length < sizeLine ∧ Pv (i + 1) (upd H6 D (.dK (putK kvs k z))) else Pv (i + 1) H4) (stop : ∀ H, Pv n H → Qd H) :
    ∃ W : Nat → Nat → Hp → Prop, (∃ m, W 0 m (upd H1 D (.dK []))) ∧ ∀ i m H, W i m H →
      (J.stop i H ∧ Qd H) ∨ (J.go i H ∧ ∃ Nx : Hp → Prop, (∀ H2, Nx H2 → ∃ m2, m2 < m ∧ W (i + 1) m2 H2) ∧ ∀ x H2, J.yld i H x H2 → g x (wipe σ vs) H2 fun σ3 H3 => wipe σ3 vs = wipe σ vs ∧ tt σ3 H3 fun b H4 =>
        if b = true then tk σ3 H4 fun y H5 => tv σ3 H5 fun z H6 => ∃ kvs k, y = kV k ∧ H6 D = some (.dK kvs) ∧ kvs.length < sizeLine ∧ Nx (upd H6 D (.dK (putK kvs k z))) else Nx H4) := by
  refine ⟨fun i m H => i + m = n ∧ Pv i H, ⟨n, Nat.zero_add n, start⟩, ?_⟩
  rintro i m H ⟨im, p⟩
  have gH := hG i H (by omega) p
  cases m with
  | zero =>
    obtain rfl : i = n := by omega
    exact .inl ⟨w.stops H gH, stop H p⟩
  | succ m =>
    have lt : i < n := by omega
    exact .inr ⟨w.goes i H lt gH, Pv (i + 1), fun H2 p2 => ⟨m, Nat.lt_succ_self m, by omega, p2⟩, fun x H2 y => turn i x H H2 lt p (w.yields i H x H2 lt gH y)⟩
theorem walk_zt {K : PySem.W.Frag} {a b : Addr} {xs ys : List V} (l : xs.length = ys.length) : Walk (ItzT K a b) xs.length (fun H => SqT K H a xs ∧ SqT K H b ys) (YPair (fun i => xs[i]?) (fun i => ys[i]?)) where
  goes i _ hi q := ⟨xs, ys, xs[i], ys[i]'(l ▸ hi), q.1, q.2, List.getElem?_eq_getElem hi, List.getElem?_eq_getElem (l ▸ hi)⟩
  stops _ q := ⟨xs, ys, q.1, q.2, .inl (Nat.le_refl _)⟩
  yields i H v H1 _ q y := by
    obtain ⟨T, x, z, h1, h2, h3, h4, h5⟩ := y
    exact ⟨T, x, z, h1, h2, h3, h4 xs q.1, h5 ys q.2⟩
theorem merge_snoc {kvs more : List (Key × V)} {p : Key × V} : mergeK kvs (more ++ [p]) = putK (mergeK kvs more) p.1 p.2 := by
  unfold mergeK
  rw [List.foldl_append]
  rfl
theorem merge_len : ∀ {more kvs : List (Key × V)}, (mergeK kvs more).length ≤ kvs.length + more.length
  | [], kvs => Nat.le_refl _
  | p :: r, kvs => by
    have h := merge_len (more := r) (kvs := putK kvs p.1 p.2)
    have l : (putK kvs p.1 p.2).length ≤ kvs.length + 1 := by
      unfold putK
      split
      · rw [List.length_map]
        omega
      · rw [List.length_append]
        exact Nat.le_refl _
    have e : mergeK kvs (p :: r) = mergeK (putK kvs p.1 p.2) r := rfl
    rw [e, List.length_cons]
    omega
/-- names and what stands under them -/
def under (ns : List Str) (ys : List V) : List (Key × V) := (ns.zip ys).map fun p => (.inr p.1, p.2)
def dictOf (ns : List Str) (ys : List V) : List (Key × V) := mergeK [] (under ns ys)
theorem under_at {ns : List Str} {ys : List V} {i : Nat} {n : Str} {y : V} (h1 : ns[i]? = some n) (h2 : ys[i]? = some y) : (under ns ys)[i]? = some (.inr n, y) := by
  unfold under
  rw [List.getElem?_map, (List.getElem?_zip_eq_some (z := (n, y))).mpr ⟨h1, h2⟩]
  rfl
theorem under_len {ns : List Str} {ys : List V} (h : ns.length = ys.length) : (under ns ys).length = ys.length := by
  unfold under
  rw [List.length_map, List.length_zip, h, Nat.min_self]
def spBy : Sp := fun vs H Q _ => ∃ (a b : Addr) (xs ys : List V) (ns : List Str), vs = [.ref a, .ref b] ∧ H a = some (.tup xs) ∧ H b = some (.tup ys) ∧ Paired (Named H) xs ns ∧ xs.length = ys.length ∧ xs.length ≤ 100 ∧
  ∀ (D : Addr) (H1 : Hp), Ex H H1 → H D = none → H1 D = some (.dK (dictOf ns ys)) → Q (.ref D) H1
structure BltZ (mg : Str → Option Value) : Prop where
  zip : mg "zip" = none
section
variable {P : Program} {w : World} {K : PySem.W.Frag} {mg : Str → Option Value} {base : Heap}
theorem scBy : FnScope ["stuffs", "contents", "stuff", "content"] ["stuffs", "contents"] (defScope sBy) := ⟨rfl, rfl, rfl, by decide +kernel, rfl, by decide +kernel, by decide +kernel⟩
theorem ok_by {f : Addr} {fd : FuncData} (F : Fun K "_by_stuff" "_by_stuff" sBy f fd) (Z : BltZ mg) : FnOk P w K mg base CX0 1 f fd ["stuffs", "contents"] spBy := by
  refine F.ok scBy (fun vs H Q E h => ?_) (fun cdv A outer s H vs Q E hr h => ?_)
  · obtain ⟨a, b, xs, ys, ns, rfl, _⟩ := h
    rfl
  · obtain ⟨a, b, xs, ys, ns, rfl, ha, hb, pn, l, le, q⟩ := h
    refine ⟨_, pss_one (ps_ret (pe_dc (own := [("stuff", 2), ("content", 3)]) (g := gTup K 2 (gCons (gName 2) (gCons (gName 3) gNil))) (by rfl) scBy.nd (pi_zipA (by rfl) Z.zip (pa_cons (pv 0) (pa_cons (pv 1) pa_nil))) (blkOk_by (own := [("stuff", 2), ("content", 3)]) (N := ["stuffs", "contents", "stuff", "content"]) (sc := defScope sBy) (by decide +kernel))
      (fun _ _ _ _ _ => pg_tup (by rfl) (pgs_cons (pg_name (i := 2) scBy.nd rfl (Or.inl rfl)) (pgs_cons (pg_name (i := 3) scBy.nd rfl (Or.inl rfl)) pgs_nil))) (fun _ _ _ _ _ => pts_nil)
      (fun _ _ _ _ _ => pe_ix (show IxR _ (rIxT K) from ix_tup) (pv 2) pe_int (fun _ _ => rfl)) (fun _ _ _ _ _ => pv 3))), ?_⟩
    have nl : ns.length = ys.length := by rw [← Paired.size pn, l]
    refine ⟨_, rfl, _, rfl, a, b, xs, ys, rfl, .inr ⟨SqT.of ha, SqT.of hb, fun D hD => dc_it (walk_zt l) (fun n H2 => Ex H H2 ∧ H2 D = some (.dK (mergeK [] ((under ns ys).take n)))) ⟨Ex.refl.new hD, upd_same⟩ (fun i H2 _ h => ⟨SqT.of (h.1 _ _ ha), SqT.of (h.1 _ _ hb)⟩) ?_ ?_⟩⟩
    · rintro i v H2 H3 hi ⟨x2, e2⟩ ⟨T, v1, v2, rfl, nT, rfl, h1, h2⟩
      have h1 : xs[i]? = some v1 := h1
      have h2 : ys[i]? = some v2 := h2
      obtain ⟨n, hn, bb, r, rfl, hbb⟩ := Paired.spot pn h1
      have eT : (upd H2 T (.tup [.ref bb, v2])) T = some (.tup [.ref bb, v2]) := upd_same
      have x3 : Ex H (upd H2 T (.tup [.ref bb, v2])) := x2.new nT
      have e3 : (upd H2 T (.tup [.ref bb, v2])) D = some (.dK (mergeK [] ((under ns ys).take i))) := by
        rw [upd_ne (ne_of_none e2 nT)]
        exact e2
      refine ⟨T, _, rfl, SqT.of eT, rfl, _, _, rfl, _, _, rfl, rfl, rfl, ?_⟩
      refine ⟨_, rfl, bb, _, 0, .str n, rfl, rfl, SqT.of (x3 _ _ hbb), atI_nat (j := 0) rfl, _, rfl, _, .inr n, rfl, e3, ?_, x3.put hD, ?_⟩
      · have m := merge_len (more := (under ns ys).take i) (kvs := [])
        rw [List.length_take, List.length_nil] at m
        rw [sizeLine_eq]
        omega
      · rw [upd_same, List.take_succ, under_at hn h2]
        show _ = some (HO.dK (mergeK [] ((under ns ys).take i ++ [(.inr n, v2)])))
        rw [merge_snoc]
    · rintro H2 ⟨x2, e2⟩
      rw [List.take_of_length_le (by rw [under_len nl, l]; exact Nat.le_refl _)] at e2
      exact q D H2 x2 hD e2
end
end LJ
set_option Elab.async false
set_option linter.all false
set_option maxRecDepth 100000
set_option maxHeartbeats 4000000
namespace LJ
open PySem L2
abbrev sLabels : Stmt := top 900 /- _law_labels -/
abbrev sShares : Stmt := top 900 /- _law_shares -/
abbrev sInside : Stmt := top 900 /- _law_inside -/
theorem But.refl {j : Addr} {H : Hp} : But j H H := fun _ _ _ z => z
theorem But.trans {j : Addr} {H H1 H2 : Hp} (b : But j H H1) (d : But j H1 H2) : But j H H2 := fun a o n e => d a o n (b a o n e)
theorem But.new {j p : Addr} {H H1 : Hp} {o : HO} (b : But j H H1) (n : H1 p = none) : But j H (upd H1 p o) := fun a u m e => by
  rw [upd_ne (ne_of_none (b a u m e) n)]
  exact b a u m e
/-- a change of what was none when we began -/
theorem But.put {j p : Addr} {H H1 : Hp} {o : HO} (b : But j H H1) (n : H p = none) : But j H (upd H1 p o) := fun a u m e => by
  rw [upd_ne (ne_of_none e n)]
  exact b a u m e
theorem But.gone {j p : Addr} {H H1 : Hp} (b : But j H H1) (m : p ≠ j) (n : H1 p = none) : H p = none := by
  cases e : H p with
  | none => rfl
  | some o =>
    rw [b p o m e] at n
    cases n
theorem JarAt.ne {j p : Addr} {H : Hp} (h : JarAt H j) (n : H p = none) : p ≠ j := fun z => by
  obtain ⟨d, m, c, e, _⟩ := h
  rw [z, e] at n
  cases n
theorem JarAt.new {j p : Addr} {H : Hp} {o : HO} (h : JarAt H j) (n : H p = none) : JarAt (upd H p o) j := by
  have m := h.ne n
  obtain ⟨d, m1, c, e, r⟩ := h
  exact ⟨d, m1, c, by rw [upd_ne m.symm]; exact e, r⟩
theorem JarAt.put {j p : Addr} {H : Hp} {o : HO} (h : JarAt H j) (m : p ≠ j) : JarAt (upd H p o) j := by
  obtain ⟨d, m1, c, e, r⟩ := h
  exact ⟨d, m1, c, by rw [upd_ne m.symm]; exact e, r⟩
end LJ
set_option Elab.async false
set_option linter.all false
set_option maxRecDepth 100000
set_option maxHeartbeats 4000000
namespace LJ
open PySem L2
def menu : List Str := ["mixer", "oven", "belt", "run", "clean", "machine", "stuff", "rinse", "wash", "nuts", "milk", "a", "bar", "cake", "roll", "product", "zzzzzzzz", "rule"]
end LJ
set_option Elab.async false
set_option linter.all false
set_option maxRecDepth 100000
set_option maxHeartbeats 4000000
namespace LJ
open PySem L2
abbrev sWorld : Stmt := top 900 /- _law_world -/
/-- drawn works, as data -/
structure Wd where
  ms : List (Str × Int × Int)
  cs : List (Str × Int × Int)
  ss : List (Str × Int)
  ps : List (Str × List (Int × Int))
def Row3 (H : Hp) (v : V) (r : Str × Int × Int) : Prop := ∃ a : Addr, v = .ref a ∧ H a = some (.tup [.str r.1, .int r.2.1, .int r.2.2])
def Row2 (H : Hp) (v : V) (r : Str × Int) : Prop := ∃ a : Addr, v = .ref a ∧ H a = some (.tup [.str r.1, .int r.2])
def Bnd (H : Hp) (v : V) (r : Int × Int) : Prop := ∃ a : Addr, v = .ref a ∧ H a = some (.tup [.int r.1, .int r.2])
def RowP (H : Hp) (v : V) (r : Str × List (Int × Int)) : Prop := ∃ (a t : Addr) (vs : List V), v = .ref a ∧ H a = some (.tup [.str r.1, .ref t]) ∧ H t = some (.tup vs) ∧ Paired (Bnd H) vs r.2
/-- all tuples stay -/
def Tup (H H1 : Hp) : Prop := ∀ b xs, H b = some (.tup xs) → H1 b = some (.tup xs)
theorem Tup.of {j : Addr} {H H1 : Hp} (J : JarAt H j) (b : But j H H1) : Tup H H1 := fun a xs e => b a _ (fun z => by
  obtain ⟨d, m, c, q, _⟩ := J
  rw [z, q] at e
  cases e) e
theorem Tup.new {H : Hp} {p : Addr} {o : HO} (n : H p = none) : Tup H (upd H p o) := fun a xs e => by
  rw [upd_ne (ne_of_none e n)]
  exact e
theorem Tup.put {H : Hp} {p : Addr} {o : HO} {ys : List V} (n : H p = some (.lst ys)) : Tup H (upd H p o) := fun a xs e => by
  have m : a ≠ p := fun z => by
    rw [z, n] at e
    cases e
  rw [upd_ne m]
  exact e
theorem Tup.trans {H H1 H2 : Hp} (s : Tup H H1) (t : Tup H1 H2) : Tup H H2 := fun a xs e => t a xs (s a xs e)
theorem Row3.seq {H H1 : Hp} {v : V} {r : Str × Int × Int} (t : Tup H H1) (h : Row3 H v r) : Row3 H1 v r := by
  obtain ⟨a, e, q⟩ := h
  exact ⟨a, e, t _ _ q⟩
theorem Row2.seq {H H1 : Hp} {v : V} {r : Str × Int} (t : Tup H H1) (h : Row2 H v r) : Row2 H1 v r := by
  obtain ⟨a, e, q⟩ := h
  exact ⟨a, e, t _ _ q⟩
theorem Bnd.seq {H H1 : Hp} {v : V} {r : Int × Int} (t : Tup H H1) (h : Bnd H v r) : Bnd H1 v r := by
  obtain ⟨a, e, q⟩ := h
  exact ⟨a, e, t _ _ q⟩
theorem RowP.seq {H H1 : Hp} {v : V} {r : Str × List (Int × Int)} (t : Tup H H1) (h : RowP H v r) : RowP H1 v r := by
  obtain ⟨a, b, vs, e, q, s, p⟩ := h
  exact ⟨a, b, vs, e, t _ _ q, t _ _ s, L2.Paired.mapP p fun x y z => Bnd.seq t z⟩
theorem Paired.snoc {α β : Type} {F : α → β → Prop} : ∀ {xs : List α} {ys : List β} {x : α} {y : β}, Paired F xs ys → F x y → Paired F (xs ++ [x]) (ys ++ [y])
  | _, _, _, _, .nil, h => .cons h .nil
  | _, _, _, _, .cons r t, h => .cons r (Paired.snoc t h)
/-- so many rows: the names one behind another from a place on -/
def Rows3 (H : Hp) (p : Addr) (ls : List Str) (off n : Nat) (ms : List (Str × Int × Int)) : Prop := (∃ vs, H p = some (.lst vs) ∧ vs.length = n ∧ Paired (Row3 H) vs ms) ∧ ms.map (·.1) = (ls.drop off).take n ∧ ∀ r ∈ ms, 0 ≤ r.2.1 ∧ r.2.1 ≤ r.2.2 ∧ r.2.2 ≤ 1000
def Rows2 (H : Hp) (p : Addr) (ls : List Str) (off n : Nat) (ss : List (Str × Int)) : Prop := (∃ vs, H p = some (.lst vs) ∧ vs.length = n ∧ Paired (Row2 H) vs ss) ∧ ss.map (·.1) = (ls.drop off).take n ∧ ∀ r ∈ ss, 0 ≤ r.2 ∧ r.2 ≤ 1000000000000
def RowsP (H : Hp) (p : Addr) (ls : List Str) (off n many : Nat) (ps : List (Str × List (Int × Int))) : Prop := (∃ vs, H p = some (.lst vs) ∧ vs.length = n ∧ Paired (RowP H) vs ps) ∧ ps.map (·.1) = (ls.drop off).take n ∧
  ∀ r ∈ ps, r.2.length = many ∧ ∀ b ∈ r.2, 0 ≤ b.1 ∧ b.1 ≤ b.2 ∧ b.2 ≤ 1000000000000
theorem names_succ {ls : List Str} {off n : Nat} {x : Str} (h : ls[off + n]? = some x) : (ls.drop off).take (n + 1) = (ls.drop off).take n ++ [x] := by
  rw [List.take_succ, List.getElem?_drop, h]
  rfl
theorem lab_at {ls : List Str} {i : Int} {n : Nat} {x : Str} (e : i = (n : Int)) (h : ls[n]? = some x) : atI (ls.map V.str) i = some (.str x) := by
  rw [e]
  refine atI_nat ?_
  rw [List.getElem?_map, h]
  rfl
theorem Rows3.but {j : Addr} {H H1 : Hp} {p : Addr} {ls : List Str} {off n : Nat} {ms : List (Str × Int × Int)} (J : JarAt H j) (b : But j H H1) (m : p ≠ j) (h : Rows3 H p ls off n ms) : Rows3 H1 p ls off n ms := by
  obtain ⟨⟨vs, h1, h2, h3⟩, h4⟩ := h
  exact ⟨⟨vs, b _ _ m h1, h2, L2.Paired.mapP h3 fun x y z => Row3.seq (Tup.of J b) z⟩, h4⟩
theorem Rows2.but {j : Addr} {H H1 : Hp} {p : Addr} {ls : List Str} {off n : Nat} {ms : List (Str × Int)} (J : JarAt H j) (b : But j H H1) (m : p ≠ j) (h : Rows2 H p ls off n ms) : Rows2 H1 p ls off n ms := by
  obtain ⟨⟨vs, h1, h2, h3⟩, h4⟩ := h
  exact ⟨⟨vs, b _ _ m h1, h2, L2.Paired.mapP h3 fun x y z => Row2.seq (Tup.of J b) z⟩, h4⟩
theorem RowsP.but {j : Addr} {H H1 : Hp} {p : Addr} {ls : List Str} {off n many : Nat} {ms : List (Str × List (Int × Int))} (J : JarAt H j) (b : But j H H1) (m : p ≠ j) (h : RowsP H p ls off n many ms) : RowsP H1 p ls off n many ms := by
  obtain ⟨⟨vs, h1, h2, h3⟩, h4⟩ := h
  exact ⟨⟨vs, b _ _ m h1, h2, L2.Paired.mapP h3 fun x y z => RowP.seq (Tup.of J b) z⟩, h4⟩
def WorldAt (H : Hp) (p : Addr) (W : Wd) : Prop := ∃ (a b c d : Addr) (va vb vc vd : List V), H p = some (.lst [.ref a, .ref b, .ref c, .ref d]) ∧ H a = some (.lst va) ∧ Paired (Row3 H) va W.ms ∧ H b = some (.lst vb) ∧ Paired (Row3 H) vb W.cs ∧
  H c = some (.lst vc) ∧ Paired (Row2 H) vc W.ss ∧ H d = some (.lst vd) ∧ Paired (RowP H) vd W.ps
structure Good (W : Wd) : Prop where
  m1 : 1 ≤ W.ms.length
  m2 : W.ms.length ≤ 6
  c2 : W.cs.length ≤ 3
  s1 : 1 ≤ W.ss.length
  s2 : W.ss.length ≤ 2
  p1 : 1 ≤ W.ps.length
  p2 : W.ps.length ≤ 4
  mb : ∀ r ∈ W.ms, 0 ≤ r.2.1 ∧ r.2.1 ≤ r.2.2 ∧ r.2.2 ≤ 1000
  cb : ∀ r ∈ W.cs, 0 ≤ r.2.1 ∧ r.2.1 ≤ r.2.2 ∧ r.2.2 ≤ 1000
  sb : ∀ r ∈ W.ss, 0 ≤ r.2 ∧ r.2 ≤ 1000000000000
  pb : ∀ r ∈ W.ps, r.2.length = W.ss.length ∧ ∀ b ∈ r.2, 0 ≤ b.1 ∧ b.1 ≤ b.2 ∧ b.2 ≤ 1000000000000
  nd : (W.ms.map (·.1) ++ (W.cs.map (·.1) ++ (W.ss.map (·.1) ++ W.ps.map (·.1)))).Nodup
  nm : ∀ x ∈ W.ms.map (·.1) ++ (W.cs.map (·.1) ++ (W.ss.map (·.1) ++ W.ps.map (·.1))), x ∈ menu
theorem Paired.len {α β : Type} {F : α → β → Prop} : ∀ {xs : List α} {ys : List β}, Paired F xs ys → xs.length = ys.length
  | _, _, .nil => rfl
  | _, _, .cons _ t => by rw [List.length_cons, List.length_cons, Paired.len t]
/-- names from four stretches of one row without doubles -/
theorem four_nodup {ls : List Str} (hl : ls.length = 18) (nd : ls.Nodup) {n1 n2 n3 n4 : Nat} (h1 : n1 ≤ 6) (h2 : n2 ≤ 3) (h3 : n3 ≤ 3) (h4 : n4 ≤ 6) :
    (ls.take n1 ++ ((ls.drop 6).take n2 ++ ((ls.drop 9).take n3 ++ (ls.drop 12).take n4))).Sublist ls := by
  have e1 : ls = ls.take 6 ++ ls.drop 6 := (List.take_append_drop 6 ls).symm
  have e2 : ls.drop 6 = (ls.drop 6).take 3 ++ ls.drop 9 := by
    have z := (List.take_append_drop 3 (ls.drop 6)).symm
    rw [List.drop_drop] at z
    exact z
  have e3 : ls.drop 9 = (ls.drop 9).take 3 ++ ls.drop 12 := by
    have z := (List.take_append_drop 3 (ls.drop 9)).symm
    rw [List.drop_drop] at z
    exact z
  have t : ∀ {xs : List Str} {a b : Nat}, a ≤ b → (xs.take a).Sublist (xs.take b) := fun {xs a b} h => by
    have z : xs.take a = (xs.take b).take a := by rw [List.take_take, Nat.min_eq_left h]
    rw [z]
    exact List.take_sublist _ _
  have s3 : ((ls.drop 9).take n3 ++ (ls.drop 12).take n4).Sublist (ls.drop 9) := by
    conv => rhs; rw [e3]
    exact (t h3).append (List.take_sublist _ _)
  have s2 : ((ls.drop 6).take n2 ++ ((ls.drop 9).take n3 ++ (ls.drop 12).take n4)).Sublist (ls.drop 6) := by
    conv => rhs; rw [e2]
    exact (t h2).append s3
  conv => rhs; rw [e1]
  exact (t h1).append s2
end LJ
set_option Elab.async false
set_option linter.all false
set_option maxRecDepth 100000
set_option maxHeartbeats 8000000
namespace LJ
open PySem PySem.Spec L2
abbrev sLine : Stmt := top 36
/-- a number's digits -/
def num (i : Int) : Str := Str.ofString (toString i)
theorem num_len {i : Int} (h0 : 0 ≤ i) (h1 : i ≤ 1000000000000) : (num i).length ≤ 14 := by
  unfold num
  rw [ofString_length]
  exact int_text_length_le10 (k := 13) (by decide) (by have : (10 : Nat) ^ 13 = 10000000000000 := by decide
                                                       omega)
theorem num_log {i : Int} (h0 : 0 ≤ i) (h1 : i ≤ 1000000000000) : i.natAbs.log2 < 1920 := by
  by_cases z : i.natAbs = 0
  · rw [z]
    decide
  · have l : i.natAbs < 2 ^ 40 := by
      have : (2 : Nat) ^ 40 = 1099511627776 := by decide
      omega
    have := (Nat.log2_lt z).mpr l
    omega
def bline (b : Int × Int) : Str := Str.empty ++ Str.ofString " " ++ num b.1 ++ Str.ofString "-" ++ num b.2
def pline (n : Str) (bs : List (Int × Int)) : Str := (Str.empty ++ Str.ofString "product " ++ n) ++ Txt.join (Str.ofString "") (bs.map bline)
def Small (b : Int × Int) : Prop := 0 ≤ b.1 ∧ b.1 ≤ b.2 ∧ b.2 ≤ 1000000000000
theorem bl_len {b : Int × Int} (h : Small b) : (bline b).length ≤ 30 := by
  obtain ⟨s1, s2, s3⟩ := h
  have l1 := num_len s1 (Int.le_trans s2 s3)
  have l2 := num_len (Int.le_trans s1 s2) s3
  unfold bline
  rw [Str.length_append, Str.length_append, Str.length_append, Str.length_append, show Str.empty.length = 0 from rfl, show (Str.ofString " ").length = 1 by decide +kernel, show (Str.ofString "-").length = 1 by decide +kernel]
  omega
theorem sum_most {α : Type} {f : α → Nat} {B : Nat} : ∀ {xs : List α}, (∀ x ∈ xs, f x ≤ B) → (xs.map f).sum ≤ xs.length * B
  | [], _ => Nat.zero_le _
  | x :: xs, h => by
    have h1 := h x (List.mem_cons_self ..)
    have h2 := sum_most (B := B) fun y hy => h y (List.mem_cons_of_mem _ hy)
    rw [List.map_cons, List.sum_cons, List.length_cons, Nat.add_mul]
    omega
theorem blines_sum {bs : List (Int × Int)} (h : ∀ r ∈ bs, Small r) : ((bs.map bline).map (·.length)).sum ≤ bs.length * 30 := by
  rw [List.map_map]
  exact sum_most fun x hx => bl_len (h x hx)
theorem join_len {sep : Str} {ys : List Str} : (Txt.join sep ys).length = (ys.map (·.length)).sum + (ys.length - 1) * sep.length := size_glued sep ys
theorem pline_len {n : Str} {bs : List (Int × Int)} (hn : n.length ≤ 8) (hb : bs.length ≤ 10) (h : ∀ r ∈ bs, Small r) : (pline n bs).length ≤ 316 := by
  have s1 := blines_sum h
  unfold pline
  rw [Str.length_append, Str.length_append, join_len, show (Str.ofString "").length = 0 from rfl, Nat.mul_zero, Str.length_append, show Str.empty.length = 0 from rfl, show (Str.ofString "product ").length = 8 by decide +kernel]
  omega
def spLine : Sp := fun vs H Q _ => ∃ (n : Str) (b : Addr) (ys : List V) (bs : List (Int × Int)), vs = [.str n, .ref b] ∧ n.length ≤ 8 ∧ H b = some (.tup ys) ∧ Paired (Bnd H) ys bs ∧ (∀ r ∈ bs, Small r) ∧ bs.length ≤ 10 ∧ ∀ H1, Ex H H1 → Q (.str (pline n bs)) H1
section
variable {P : Program} {w : World} {K : PySem.W.Frag} {mg : Str → Option Value} {base : Heap}
theorem scLine : FnScope ["name", "contents", "low", "high"] ["name", "contents"] (defScope sLine) := ⟨rfl, rfl, rfl, by decide +kernel, rfl, by decide +kernel, by decide +kernel⟩
theorem ok_line {f : Addr} {fd : FuncData} (F : Fun K "_product_line" "_product_line" sLine f fd) : FnOk P w K mg base CX0 1 f fd ["name", "contents"] spLine := by
  refine F.ok scLine (fun vs H Q E h => ?_) (fun cdv A outer s H vs Q E hr h => ?_)
  · obtain ⟨n, b, ys, bs, rfl, _⟩ := h
    rfl
  · obtain ⟨n, b, ys, bs, rfl, nl, hb, pb, sm, bl, q⟩ := h
    refine ⟨_, pss_one (ps_ret (pe_op op_add_str (pe_joined (.cons pe_str (.cons (pe_fmt (pv 0)) .nil)))
      (pe_join pe_str (pe_lc (own := [("low", 2), ("high", 3)]) (g := gTup K 2 (gCons (gName 2) (gCons (gName 3) gNil))) (by rfl) scLine.nd (pi_tup (pv 1)) (blkOk_by (own := [("low", 2), ("high", 3)]) (N := ["name", "contents", "low", "high"]) (sc := defScope sLine) (by decide +kernel))
        (fun _ _ _ _ _ => pg_tup (by rfl) (pgs_cons (pg_name (i := 2) scLine.nd rfl (Or.inl rfl)) (pgs_cons (pg_name (i := 3) scLine.nd rfl (Or.inl rfl)) pgs_nil))) (fun _ _ _ _ _ => pts_nil)
        (fun _ _ _ _ _ => pe_joined (.cons pe_str (.cons (pe_fmt (pv 2)) (.cons pe_str (.cons (pe_fmt (pv 3)) .nil)))))))))  , ?_⟩
    have yl : ys.length = bs.length := Paired.size pb
    have sz : sizeLine = 16777216 := sizeLine_eq
    have hl : (Str.empty ++ Str.ofString "product ").length = 8 := by decide +kernel
    have hl2 : (Str.empty ++ Str.ofString "product " ++ n).length ≤ 16 := by
      rw [Str.length_append, hl]
      omega
    refine ⟨_, rfl, by rw [hl, sz]; decide, _, rfl, .inl ⟨n, rfl, by omega, n, rfl, by omega, ?_⟩⟩
    refine ⟨⟨_, rfl⟩, _, rfl, b, rfl, ⟨ys, SqT.of hb⟩, fun D hD => lc_it (te := fun σ H Q => tJs [tC (.str (Str.ofString " ")), tFmt (tVar 2), tC (.str (Str.ofString "-")), tFmt (tVar 3)] Str.empty σ H fun out H1 => Q (.str out) H1) walk_tup (fun i H2 => Ex H H2 ∧ H2 D = some (.lst (((bs.take i).map bline).map V.str))) ⟨Ex.refl.new hD, upd_same⟩ (fun i H2 _ h => SqT.of (h.1 _ _ hb)) ?_ ?_⟩
    · rintro i v _ H2 hi ⟨x2, e2⟩ ⟨rfl, hv⟩
      obtain ⟨⟨lo, hi2⟩, hr, a, rfl, ha⟩ := Paired.spot pb hv
      obtain ⟨s1, s2, s3⟩ := sm _ (List.mem_of_getElem? hr)
      have s1 : 0 ≤ lo := s1
      have s2 : lo ≤ hi2 := s2
      have s3 : hi2 ≤ 1000000000000 := s3
      have l1 := num_len s1 (Int.le_trans s2 s3)
      have l2 := num_len (Int.le_trans s1 s2) s3
      have k1 : (Str.empty ++ Str.ofString " ").length = 1 := by decide +kernel
      have k2 : (Str.empty ++ Str.ofString " " ++ num lo).length ≤ 15 := by
        rw [Str.length_append, k1]
        omega
      have k3 : (Str.empty ++ Str.ofString " " ++ num lo ++ Str.ofString "-").length ≤ 16 := by
        rw [Str.length_append, show (Str.ofString "-").length = 1 by decide +kernel]
        omega
      have k4 : (bline (lo, hi2)).length ≤ 30 := by
        show (Str.empty ++ Str.ofString " " ++ num lo ++ Str.ofString "-" ++ num hi2).length ≤ 30
        rw [Str.length_append]
        omega
      refine ⟨_, _, rfl, SqT.of (x2 _ _ ha), rfl, _, _, rfl, _, _, rfl, rfl, rfl, ?_⟩
      refine ⟨_, rfl, by omega, _, rfl, .inr ⟨lo, rfl, num_log s1 (Int.le_trans s2 s3), num lo, rfl, by omega, _, rfl, by omega, _, rfl, .inr ⟨hi2, rfl, num_log (Int.le_trans s1 s2) s3, num hi2, rfl, ?_, ?_⟩⟩⟩
      · exact Nat.le_trans k4 (by omega)
      · refine ⟨_, e2, ?_, x2.put hD, ?_⟩
        · rw [List.length_map, List.length_map, List.length_take]
          omega
        · rw [upd_same, List.take_succ, hr, List.map_append, List.map_append]
          rfl
    · rintro H2 ⟨x2, e2⟩
      rw [List.take_of_length_le (by omega)] at e2
      refine ⟨_, D, bs.map bline, rfl, rfl, .inl (SqL.of e2), ?_, _, _, rfl, rfl, ?_, q H2 x2⟩
      · have s1 := blines_sum sm
        rw [show (Str.ofString "").length = 0 from rfl, Nat.mul_zero]
        omega
      · have l := pline_len nl bl sm
        unfold pline at l
        rw [Str.length_append] at l
        omega
end
end LJ
set_option Elab.async false
set_option linter.all false
set_option maxRecDepth 100000
set_option maxHeartbeats 8000000
namespace LJ
open PySem PySem.Spec L2
abbrev sText : Stmt := top 35
abbrev nText : List Str := ["machines", "cleanings", "stuffs", "products", "lines", "name", "low", "high", "most", "contents"]
abbrev sp1 : Str := Str.ofString " "
def line3 (pre : Str) (r : Str × Int × Int) : Str := Str.empty ++ pre ++ r.1 ++ sp1 ++ num r.2.1 ++ sp1 ++ num r.2.2
def line2 (pre : Str) (r : Str × Int) : Str := Str.empty ++ pre ++ r.1 ++ sp1 ++ num r.2
def Fit3 (r : Str × Int × Int) : Prop := r.1.length ≤ 8 ∧ 0 ≤ r.2.1 ∧ r.2.1 ≤ r.2.2 ∧ r.2.2 ≤ 1000000000000
def Fit2 (r : Str × Int) : Prop := r.1.length ≤ 8 ∧ 0 ≤ r.2 ∧ r.2 ≤ 1000000000000
theorem sp1_len : sp1.length = 1 := by decide +kernel
theorem empty_len : Str.empty.length = 0 := rfl
theorem rd3 {pre n : Str} {lo hi : Int} {σ : St} {H : Hp} {Q : Str → Hp → Prop} (h5 : σ[5]? = some (some (.str n))) (h6 : σ[6]? = some (some (.int lo))) (h7 : σ[7]? = some (some (.int hi))) (pl : pre.length ≤ 20) (f : Fit3 (n, lo, hi)) (q : (line3 pre (n, lo, hi)).length ≤ 80 → Q (line3 pre (n, lo, hi)) H) :
    tJs [tC (.str pre), tFmt (tVar 5), tC (.str sp1), tFmt (tVar 6), tC (.str sp1), tFmt (tVar 7)] Str.empty σ H Q := by
  obtain ⟨f1, f2, f3, f4⟩ := f
  have f1 : n.length ≤ 8 := f1
  have f2 : 0 ≤ lo := f2
  have f3 : lo ≤ hi := f3
  have f4 : hi ≤ 1000000000000 := f4
  have l1 := num_len f2 (Int.le_trans f3 f4)
  have l2 := num_len (Int.le_trans f2 f3) f4
  have sz := sizeLine_eq
  have k1 : (Str.empty ++ pre).length ≤ 20 := by
    rw [Str.length_append, empty_len]
    omega
  have k2 : (Str.empty ++ pre ++ n).length ≤ 28 := by
    rw [Str.length_append]
    omega
  have k3 : (Str.empty ++ pre ++ n ++ sp1).length ≤ 29 := by
    rw [Str.length_append, sp1_len]
    omega
  have k4 : (Str.empty ++ pre ++ n ++ sp1 ++ num lo).length ≤ 43 := by
    rw [Str.length_append]
    omega
  have k5 : (Str.empty ++ pre ++ n ++ sp1 ++ num lo ++ sp1).length ≤ 44 := by
    rw [Str.length_append, sp1_len]
    omega
  have k6 : (Str.empty ++ pre ++ n ++ sp1 ++ num lo ++ sp1 ++ num hi).length ≤ 58 := by
    rw [Str.length_append]
    omega
  have b : ∀ {m : Nat}, m ≤ 80 → m ≤ sizeLine := fun h => by omega
  exact ⟨_, rfl, b (by omega), _, h5, .inl ⟨n, rfl, b (by omega), n, rfl, b (by omega), _, rfl, b (by omega), _, h6, .inr ⟨lo, rfl, num_log f2 (Int.le_trans f3 f4), num lo, rfl, b (by omega), _, rfl, b (by omega), _, h7, .inr ⟨hi, rfl, num_log (Int.le_trans f2 f3) f4, num hi, rfl, b (Nat.le_trans k6 (by omega)), q (Nat.le_trans k6 (by omega))⟩⟩⟩⟩
theorem rd2 {pre n : Str} {m : Int} {σ : St} {H : Hp} {Q : Str → Hp → Prop} (h5 : σ[5]? = some (some (.str n))) (h8 : σ[8]? = some (some (.int m))) (pl : pre.length ≤ 20) (f : Fit2 (n, m)) (q : Q (line2 pre (n, m)) H) :
    tJs [tC (.str pre), tFmt (tVar 5), tC (.str sp1), tFmt (tVar 8)] Str.empty σ H Q := by
  obtain ⟨f1, f2, f4⟩ := f
  have f1 : n.length ≤ 8 := f1
  have f2 : 0 ≤ m := f2
  have f4 : m ≤ 1000000000000 := f4
  have l1 := num_len f2 f4
  have sz := sizeLine_eq
  have k1 : (Str.empty ++ pre).length ≤ 20 := by
    rw [Str.length_append, empty_len]
    omega
  have k2 : (Str.empty ++ pre ++ n).length ≤ 28 := by
    rw [Str.length_append]
    omega
  have k3 : (Str.empty ++ pre ++ n ++ sp1).length ≤ 29 := by
    rw [Str.length_append, sp1_len]
    omega
  have k4 : (Str.empty ++ pre ++ n ++ sp1 ++ num m).length ≤ 43 := by
    rw [Str.length_append]
    omega
  have b : ∀ {m : Nat}, m ≤ 80 → m ≤ sizeLine := fun h => by omega
  exact ⟨_, rfl, b (by omega), _, h5, .inl ⟨n, rfl, b (by omega), n, rfl, b (by omega), _, rfl, b (by omega), _, h8, .inr ⟨m, rfl, num_log f2 f4, num m, rfl, b (Nat.le_trans k4 (by omega)), q⟩⟩⟩
theorem line3_len {pre : Str} {r : Str × Int × Int} (pl : pre.length ≤ 20) (f : Fit3 r) : (line3 pre r).length ≤ 400 := by
  obtain ⟨f1, f2, f3, f4⟩ := f
  have l1 := num_len f2 (Int.le_trans f3 f4)
  have l2 := num_len (Int.le_trans f2 f3) f4
  unfold line3
  rw [Str.length_append, Str.length_append, Str.length_append, Str.length_append, Str.length_append, Str.length_append, empty_len, sp1_len]
  omega
theorem line2_len {pre : Str} {r : Str × Int} (pl : pre.length ≤ 20) (f : Fit2 r) : (line2 pre r).length ≤ 400 := by
  obtain ⟨f1, f2, f4⟩ := f
  have l1 := num_len f2 f4
  unfold line2
  rw [Str.length_append, Str.length_append, Str.length_append, Str.length_append, empty_len, sp1_len]
  omega
def wlines (W : Wd) : List Str := W.ms.map (line3 (Str.ofString "machine ")) ++ W.cs.map (line3 (Str.ofString "cleaning ")) ++ W.ss.map (line2 (Str.ofString "stuff ")) ++ W.ps.map fun p => pline p.1 p.2
def wtext (W : Wd) : Str := Txt.join (Str.ofString "\n") (wlines W)
/-- works small enough to be told in a text -/
structure Told (W : Wd) : Prop where
  lm : W.ms.length ≤ 10
  lc : W.cs.length ≤ 10
  ls : W.ss.length ≤ 10
  lp : W.ps.length ≤ 10
  fm : ∀ r ∈ W.ms, Fit3 r
  fc : ∀ r ∈ W.cs, Fit3 r
  fs : ∀ r ∈ W.ss, Fit2 r
  fp : ∀ r ∈ W.ps, r.1.length ≤ 8 ∧ r.2.length ≤ 10 ∧ ∀ b ∈ r.2, Small b
def spText : Sp := fun vs H Q _ => ∃ (am ac as ap : Addr) (vm vc vs2 vp : List V) (W : Wd), vs = [.ref am, .ref ac, .ref as, .ref ap] ∧ H am = some (.tup vm) ∧ H ac = some (.tup vc) ∧ H as = some (.tup vs2) ∧ H ap = some (.tup vp) ∧
  Paired (Row3 H) vm W.ms ∧ Paired (Row3 H) vc W.cs ∧ Paired (Row2 H) vs2 W.ss ∧ Paired (RowP H) vp W.ps ∧ Told W ∧ ∀ H1, Ex H H1 → Q (.str (wtext W)) H1
section
variable {P : Program} {w : World} {K : PySem.W.Frag} {mg : Str → Option Value} {base : Heap}
theorem scText : FnScope nText ["machines", "cleanings", "stuffs", "products"] (defScope sText) := ⟨rfl, rfl, rfl, by decide +kernel, rfl, by decide +kernel, by decide +kernel⟩
theorem ok_text {f fP : Addr} {fd fdP : FuncData} (F : Fun K "_text_of" "_text_of" sText f fd) (GP : FnOk P w K mg base CX0 1 fP fdP ["name", "contents"] spLine) (mP : mg "_product_line" = some (.ref fP)) (kP : PySem.W.keepIn K (.ref fP) = true) (bP : Binds K fdP ["name", "contents"] []) :
    FnOk P w K mg base CX0 2 f fd ["machines", "cleanings", "stuffs", "products"] spText := by
  refine F.ok scText (fun vs H Q E h => ?_) (fun cdv A outer s H vs Q E hr h => ?_)
  · obtain ⟨am, ac, as, ap, vm, vc, vs2, vp, W, rfl, _⟩ := h
    rfl
  · obtain ⟨am, ac, as, ap, vm, vc, vs2, vp, W, rfl, hm, hc, hs, hp, pm, pc, ps, pp, T, q⟩ := h
    refine ⟨_, pss_cons (ps_setLc (i := 4) (own := [("name", 5), ("low", 6), ("high", 7)]) (g := gTup K 3 (gCons (gName 5) (gCons (gName 6) (gCons (gName 7) gNil)))) (by rfl) scText.nd rfl rfl (sw_true rfl rfl rfl (by decide +kernel)) (pi_tup (pv 0)) (blkOk_by (own := [("name", 5), ("low", 6), ("high", 7)]) (N := nText) (sc := defScope sText) (by decide +kernel))
        (fun _ _ _ _ _ => pg_tup (by rfl) (pgs_cons (pg_name (i := 5) scText.nd rfl (Or.inl rfl)) (pgs_cons (pg_name (i := 6) scText.nd rfl (Or.inl rfl)) (pgs_cons (pg_name (i := 7) scText.nd rfl (Or.inl rfl)) pgs_nil)))) (fun _ _ _ _ _ => pts_nil)
        (fun _ _ _ _ _ => pe_joined (.cons pe_str (.cons (pe_fmt (pv 5)) (.cons pe_str (.cons (pe_fmt (pv 6)) (.cons pe_str (.cons (pe_fmt (pv 7)) .nil))))))))
      (pss_cons (ps_expr (pe_bm PySem.F.plainAttrs_list PySem.F.slot_list_extend PySem.F.type_list_extend mt_extend (pv 4) (pa_cons (pe_lc (own := [("name", 5), ("low", 6), ("high", 7)]) (g := gTup K 3 (gCons (gName 5) (gCons (gName 6) (gCons (gName 7) gNil)))) (by rfl) scText.nd (pi_tup (pv 1)) (blkOk_by (own := [("name", 5), ("low", 6), ("high", 7)]) (N := nText) (sc := defScope sText) (by decide +kernel))
        (fun _ _ _ _ _ => pg_tup (by rfl) (pgs_cons (pg_name (i := 5) scText.nd rfl (Or.inl rfl)) (pgs_cons (pg_name (i := 6) scText.nd rfl (Or.inl rfl)) (pgs_cons (pg_name (i := 7) scText.nd rfl (Or.inl rfl)) pgs_nil)))) (fun _ _ _ _ _ => pts_nil)
        (fun _ _ _ _ _ => pe_joined (.cons pe_str (.cons (pe_fmt (pv 5)) (.cons pe_str (.cons (pe_fmt (pv 6)) (.cons pe_str (.cons (pe_fmt (pv 7)) .nil)))))))) pa_nil)))
      (pss_cons (ps_expr (pe_bm PySem.F.plainAttrs_list PySem.F.slot_list_extend PySem.F.type_list_extend mt_extend (pv 4) (pa_cons (pe_lc (own := [("name", 5), ("most", 8)]) (g := gTup K 2 (gCons (gName 5) (gCons (gName 8) gNil))) (by rfl) scText.nd (pi_tup (pv 2)) (blkOk_by (own := [("name", 5), ("most", 8)]) (N := nText) (sc := defScope sText) (by decide +kernel))
        (fun _ _ _ _ _ => pg_tup (by rfl) (pgs_cons (pg_name (i := 5) scText.nd rfl (Or.inl rfl)) (pgs_cons (pg_name (i := 8) scText.nd rfl (Or.inl rfl)) pgs_nil))) (fun _ _ _ _ _ => pts_nil)
        (fun _ _ _ _ _ => pe_joined (.cons pe_str (.cons (pe_fmt (pv 5)) (.cons pe_str (.cons (pe_fmt (pv 8)) .nil)))))) pa_nil)))
      (pss_cons (ps_expr (pe_bm PySem.F.plainAttrs_list PySem.F.slot_list_extend PySem.F.type_list_extend mt_extend (pv 4) (pa_cons (pe_lc (own := [("name", 5), ("contents", 9)]) (g := gTup K 2 (gCons (gName 5) (gCons (gName 9) gNil))) (by rfl) scText.nd (pi_tup (pv 3)) (blkOk_by (own := [("name", 5), ("contents", 9)]) (N := nText) (sc := defScope sText) (by decide +kernel))
        (fun _ _ _ _ _ => pg_tup (by rfl) (pgs_cons (pg_name (i := 5) scText.nd rfl (Or.inl rfl)) (pgs_cons (pg_name (i := 9) scText.nd rfl (Or.inl rfl)) pgs_nil))) (fun _ _ _ _ _ => pts_nil)
        (fun _ _ _ _ _ => pe_call GP hr (by rfl) mP kP bP .nil pass0 (pa_cons (pv 5) (pa_cons (pv 9) pa_nil)))) pa_nil)))
      (pss_one (ps_ret (pe_join pe_str (pv 4))))))), ?_⟩
    have sz := sizeLine_eq
    obtain ⟨t1, t2, t3, t4, f1, f2, f3, f4⟩ := T
    have n1 : vm.length = W.ms.length := Paired.size pm
    have n2 : vc.length = W.cs.length := Paired.size pc
    have n3 : vs2.length = W.ss.length := Paired.size ps
    have n4 : vp.length = W.ps.length := Paired.size pp
    refine ⟨_, rfl, am, rfl, ⟨vm, SqT.of hm⟩, fun D hD => lc_it (te := fun σ H Q => tJs [tC (.str (Str.ofString "machine ")), tFmt (tVar 5), tC (.str sp1), tFmt (tVar 6), tC (.str sp1), tFmt (tVar 7)] Str.empty σ H fun out H1 => Q (.str out) H1) walk_tup (fun i G => Ex H G ∧ G D = some (.lst (((W.ms.take i).map (line3 (Str.ofString "machine "))).map V.str))) ⟨Ex.refl.new hD, upd_same⟩ (fun i G _ h => SqT.of (h.1 _ _ hm)) ?_ ?_⟩
    · rintro i v _ G hi ⟨xG, eG⟩ ⟨rfl, hv⟩
      obtain ⟨⟨n, lo, up⟩, hr, a, rfl, ha⟩ := Paired.spot pm hv
      have f := f1 _ (List.mem_of_getElem? hr)
      have e : G a = some (.tup [.str n, .int lo, .int up]) := xG _ _ (Ex.refl _ _ ha)
      refine ⟨a, _, rfl, SqT.of e, rfl, _, _, rfl, _, _, rfl, _, _, rfl, rfl, rfl, ?_⟩
      refine rd3 rfl rfl rfl (by decide +kernel) f fun _ => ⟨_, eG, ?_, xG.put hD, ?_⟩
      · rw [List.length_map, List.length_map, List.length_take]
        omega
      · rw [upd_same, List.take_succ, hr, List.map_append, List.map_append]
        rfl
    rintro H1 ⟨x1, e1⟩
    rw [List.take_of_length_le (by omega)] at e1
    generalize hls1 : W.ms.map (line3 (Str.ofString "machine ")) = ls1 at e1
    have k1 : ls1.length ≤ 10 := by
      rw [← hls1, List.length_map]
      exact t1
    have nD := hD
    clear hD
    refine ⟨_, rfl, .inl ⟨rfl, _, SqL.of e1⟩, _, rfl, ac, rfl, ⟨vc, SqT.of (x1 _ _ hc)⟩, fun D2 hD => lc_it (te := fun σ H Q => tJs [tC (.str (Str.ofString "cleaning ")), tFmt (tVar 5), tC (.str sp1), tFmt (tVar 6), tC (.str sp1), tFmt (tVar 7)] Str.empty σ H fun out H1 => Q (.str out) H1) walk_tup (fun i G => Ex H1 G ∧ G D2 = some (.lst (((W.cs.take i).map (line3 (Str.ofString "cleaning "))).map V.str))) ⟨Ex.refl.new hD, upd_same⟩ (fun i G _ h => SqT.of (h.1 _ _ (x1 _ _ hc))) ?_ ?_⟩
    · rintro i v _ G hi ⟨xG, eG⟩ ⟨rfl, hv⟩
      obtain ⟨⟨n, lo, up⟩, hr, a, rfl, ha⟩ := Paired.spot pc hv
      have f := f2 _ (List.mem_of_getElem? hr)
      have e : G a = some (.tup [.str n, .int lo, .int up]) := xG _ _ (x1 _ _ ha)
      refine ⟨a, _, rfl, SqT.of e, rfl, _, _, rfl, _, _, rfl, _, _, rfl, rfl, rfl, ?_⟩
      refine rd3 rfl rfl rfl (by decide +kernel) f fun _ => ⟨_, eG, ?_, xG.put hD, ?_⟩
      · rw [List.length_map, List.length_map, List.length_take]
        omega
      · rw [upd_same, List.take_succ, hr, List.map_append, List.map_append]
        rfl
    rintro H2 ⟨x2, e2⟩
    rw [List.take_of_length_le (by omega)] at e2
    generalize hls2 : W.cs.map (line3 (Str.ofString "cleaning ")) = ls2 at e2
    have k2 : ls2.length ≤ 10 := by
      rw [← hls2, List.length_map]
      exact t2
    refine ⟨D, D2, _, _, rfl, rfl, x2 _ _ e1, e2, by rw [List.length_map, List.length_map]; omega, ?_⟩
    rw [← List.map_append]
    have x3 : Ex H (upd H2 D (.lst ((ls1 ++ ls2).map V.str))) := (x1.trans x2).put nD
    have e3 : (upd H2 D (.lst ((ls1 ++ ls2).map V.str))) D = some (.lst ((ls1 ++ ls2).map V.str)) := upd_same
    clear hD e2
    generalize upd H2 D (.lst ((ls1 ++ ls2).map V.str)) = H3 at x3 e3 ⊢
    refine ⟨_, rfl, .inl ⟨rfl, _, SqL.of e3⟩, _, rfl, as, rfl, ⟨vs2, SqT.of (x3 _ _ hs)⟩, fun D3 hD => lc_it (te := fun σ H Q => tJs [tC (.str (Str.ofString "stuff ")), tFmt (tVar 5), tC (.str sp1), tFmt (tVar 8)] Str.empty σ H fun out H1 => Q (.str out) H1) walk_tup (fun i G => Ex H3 G ∧ G D3 = some (.lst (((W.ss.take i).map (line2 (Str.ofString "stuff "))).map V.str))) ⟨Ex.refl.new hD, upd_same⟩ (fun i G _ h => SqT.of (h.1 _ _ (x3 _ _ hs))) ?_ ?_⟩
    · rintro i v _ G hi ⟨xG, eG⟩ ⟨rfl, hv⟩
      obtain ⟨⟨n, m⟩, hr, a, rfl, ha⟩ := Paired.spot ps hv
      have f := f3 _ (List.mem_of_getElem? hr)
      have e : G a = some (.tup [.str n, .int m]) := xG _ _ (x3 _ _ ha)
      refine ⟨a, _, rfl, SqT.of e, rfl, _, _, rfl, _, _, rfl, rfl, rfl, ?_⟩
      refine rd2 rfl rfl (by decide +kernel) f ⟨_, eG, ?_, xG.put hD, ?_⟩
      · rw [List.length_map, List.length_map, List.length_take]
        omega
      · rw [upd_same, List.take_succ, hr, List.map_append, List.map_append]
        rfl
    rintro H4 ⟨x4, e4⟩
    rw [List.take_of_length_le (by omega)] at e4
    generalize hls3 : W.ss.map (line2 (Str.ofString "stuff ")) = ls3 at e4
    have k3 : ls3.length ≤ 10 := by
      rw [← hls3, List.length_map]
      exact t3
    refine ⟨D, D3, _, _, rfl, rfl, x4 _ _ e3, e4, by rw [List.length_map, List.length_map, List.length_append]; omega, ?_⟩
    rw [← List.map_append]
    have x5 : Ex H (upd H4 D (.lst ((ls1 ++ ls2 ++ ls3).map V.str))) := (x3.trans x4).put nD
    have e5 : (upd H4 D (.lst ((ls1 ++ ls2 ++ ls3).map V.str))) D = some (.lst ((ls1 ++ ls2 ++ ls3).map V.str)) := upd_same
    clear hD e4
    generalize upd H4 D (.lst ((ls1 ++ ls2 ++ ls3).map V.str)) = H5 at x5 e5 ⊢
    refine ⟨_, rfl, .inl ⟨rfl, _, SqL.of e5⟩, _, rfl, ap, rfl, ⟨vp, SqT.of (x5 _ _ hp)⟩, fun D4 hD => lc_it walk_tup (fun i G => Ex H5 G ∧ G D4 = some (.lst (((W.ps.take i).map fun p => pline p.1 p.2).map V.str))) ⟨Ex.refl.new hD, upd_same⟩ (fun i G _ h => SqT.of (h.1 _ _ (x5 _ _ hp))) ?_ ?_⟩
    · rintro i v _ G hi ⟨xG, eG⟩ ⟨rfl, hv⟩
      obtain ⟨⟨n, bs⟩, hr, a, t, vb, rfl, ha, ht, pb⟩ := Paired.spot pp hv
      obtain ⟨g1, g2, g3⟩ := f4 _ (List.mem_of_getElem? hr)
      have xx := x5.trans xG
      refine ⟨a, _, rfl, SqT.of (xx _ _ ha), rfl, _, _, rfl, _, _, rfl, rfl, rfl, ?_⟩
      refine ⟨_, rfl, _, rfl, n, t, vb, bs, rfl, g1, xx _ _ ht, L2.Paired.mapP pb fun x y z => Bnd.seq (fun b xs e => xx b _ e) z, g3, g2, fun G2 xG2 => ⟨_, xG2 _ _ eG, ?_, (xG.trans xG2).put hD, ?_⟩⟩
      · rw [List.length_map, List.length_map, List.length_take]
        omega
      · rw [upd_same, List.take_succ, hr, List.map_append, List.map_append]
        rfl
    rintro H6 ⟨x6, e6⟩
    rw [List.take_of_length_le (by omega)] at e6
    refine ⟨D, D4, _, _, rfl, rfl, x6 _ _ e5, e6, by rw [List.length_map, List.length_map, List.length_map, List.length_append, List.length_append]; omega, ?_⟩
    rw [← List.map_append]
    have x7 : Ex H (upd H6 D (.lst ((ls1 ++ ls2 ++ ls3 ++ W.ps.map fun p => pline p.1 p.2).map V.str))) := (x5.trans x6).put nD
    refine ⟨⟨_, rfl⟩, _, rfl, _, D, ls1 ++ ls2 ++ ls3 ++ W.ps.map fun p => pline p.1 p.2, rfl, rfl, .inl (SqL.of upd_same), ?_, ?_⟩
    · have most : ∀ x ∈ ls1 ++ ls2 ++ ls3 ++ W.ps.map fun p => pline p.1 p.2, x.length ≤ 400 := fun x hx => by
        rcases List.mem_append.mp hx with h | h
        · rcases List.mem_append.mp h with h | h
          · rcases List.mem_append.mp h with h | h
            · rw [← hls1] at h
              obtain ⟨r, hr, rfl⟩ := List.mem_map.mp h
              exact line3_len (by decide +kernel) (f1 r hr)
            · rw [← hls2] at h
              obtain ⟨r, hr, rfl⟩ := List.mem_map.mp h
              exact line3_len (by decide +kernel) (f2 r hr)
          · rw [← hls3] at h
            obtain ⟨r, hr, rfl⟩ := List.mem_map.mp h
            exact line2_len (by decide +kernel) (f3 r hr)
        · obtain ⟨r, hr, rfl⟩ := List.mem_map.mp h
          obtain ⟨g1, g2, g3⟩ := f4 r hr
          exact Nat.le_trans (pline_len g1 g2 g3) (by decide)
      have sm := sum_most (f := fun x : Str => x.length) most
      have ll : (ls1 ++ ls2 ++ ls3 ++ W.ps.map fun p => pline p.1 p.2).length ≤ 40 := by
        rw [List.length_append, List.length_append, List.length_append, List.length_map]
        omega
      rw [show (Str.ofString "\n").length = 1 by decide +kernel]
      have sm : ((ls1 ++ ls2 ++ ls3 ++ W.ps.map fun p => pline p.1 p.2).map fun x => x.length).sum ≤ (ls1 ++ ls2 ++ ls3 ++ W.ps.map fun p => pline p.1 p.2).length * 400 := sm
      omega
    · have z := q _ x7
      unfold wtext wlines at z
      rw [hls1, hls2, hls3] at z
      exact z
end
end LJ
set_option Elab.async false
set_option linter.all false
set_option maxRecDepth 100000
set_option maxHeartbeats 8000000
namespace LJ
open PySem PySem.Spec L2
/-! read_number: the number that a word writes. -/
abbrev sNum : Stmt := top 17
def dgt (c : Nat) : Bool := decide (48 ≤ c) && decide (c ≤ 57)
/-- digits without needless zeros -/
def rdOk (z : Str) : Bool := decide (1 ≤ z.length) && (!(decide (z.cps.toList[0]? = some 48) && !decide (z = Str.ofString "0")) && z.cps.toList.all dgt)
def rdN (z : Str) : Option Int := if rdOk z = true then some (NumText.digitsVal z.cps.toList : Nat) else none
def optI : Option Int → V
  | some i => .int i
  | none => .non
def spNum : Sp := fun vs H Q _ => ∃ z : Str, vs = [.str z] ∧ z.length ≤ 600 ∧ ∀ H1, Ex H H1 → Q (optI (rdN z)) H1
theorem str1_eq {c : Nat} {z : Str} (h : z = ⟨#[c]⟩) (d : Nat) : (V.str z = V.str ⟨#[d]⟩) ↔ c = d := by
  subst h
  constructor
  · intro e
    cases e
    rfl
  · rintro rfl
    rfl
theorem rd_first {σ : L2.St} {H : Hp} {Qb : Bool → Hp → Prop} {z : Str} (h : σ[0]? = some (some (.str z))) (l1 : 1 ≤ z.length) (l : z.length ≤ 600) (q : Qb (decide (z.cps.toList[0]? = some 48) && !decide (z = Str.ofString "0")) H) :
    tAnd (tTest (tOp rEq (tOp rIxS (tVar 0) (tC (V.int 0))) (tC (V.str (Str.ofString "0"))))) (tTest (tOp rNe (tVar 0) (tC (V.str (Str.ofString "0"))))) σ H Qb := by
  have zsz : z.cps.toList.length = z.length := rfl
  obtain ⟨c, hc⟩ : ∃ c, z.cps.toList[0]? = some c := ⟨_, List.getElem?_eq_getElem (by omega)⟩
  refine ⟨_, h, z, 0, c, rfl, rfl, by rw [sizeLine_eq]; omega, atI_nat (j := 0) hc, rfl, _, rfl, ?_⟩
  have e : decide (V.str ⟨#[c]⟩ = V.str (Str.ofString "0")) = decide (z.cps.toList[0]? = some 48) := by
    have e1 : Str.ofString "0" = ⟨#[48]⟩ := by decide +kernel
    rw [hc, e1]
    exact decide_eq_decide.mpr ((str1_eq rfl 48).trans ⟨fun z => by rw [z], fun z => Option.some.inj z⟩)
  rw [e]
  refine ite2 (fun k1 => ?_) (fun k1 => ?_)
  · refine ⟨_, h, rfl, _, rfl, ?_⟩
    rw [k1, Bool.true_and] at q
    have e2 : decide (V.str z = V.str (Str.ofString "0")) = decide (z = Str.ofString "0") := decide_eq_decide.mpr ⟨fun e => V.str.inj e, fun e => by rw [e]⟩
    rw [e2]
    exact q
  · rw [Bool.eq_false_iff.mpr k1, Bool.false_and] at q
    exact q
section
variable {P : Program} {w : World} {K : PySem.W.Frag} {mg : Str → Option Value} {base : Heap}
theorem scNum : FnScope ["word", "digit"] ["word"] (defScope sNum) := ⟨rfl, rfl, rfl, by decide +kernel, rfl, by decide +kernel, by decide +kernel⟩
theorem ok_num {f : Addr} {fd : FuncData} {uL : Value} (F : Fun K "read_number" "read_number" sNum f fd) (B : BltI mg) (mL : mg "_MOST_DIGITS" = some uL) (rL : RelV (.int 4000) uL) : FnOk P w K mg base CX0 1 f fd ["word"] spNum := by
  refine F.ok scNum (fun vs H Q E h => ?_) (fun cdv A outer s H vs Q E hr h => ?_)
  · obtain ⟨z, rfl, _⟩ := h
    rfl
  · obtain ⟨z, rfl, zl, q⟩ := h
    refine ⟨_, pss_cons (ps_if (PW.pt (pw_or (pt_not (pt_chain op_le op_le pe_int (pe_callB call_len_str (by rfl) B.len (by decide +kernel) (pa_cons (pv 0) pa_nil)) (pe_glob (by rfl) mL rL)))
        (pw_or1 (PW.pt (pw_and (pt_cmpR op_eq (pe_ix ix_str (pv 0) pe_int (fun _ _ => rfl)) pe_str (nomark _)) (pw_and1 (pt_cmpR op_ne (pv 0) pe_str (nomark _)))))))) (pss_one (ps_ret pe_non)) pss_nil)
      (pss_cons (ps_if (pt_not (pt_truth (pe_callB (cr_all (by rfl)) (by rfl) B.all (by decide +kernel) (pa_cons (pe_lc (own := [("digit", 1)]) (g := gName 1) (by rfl) scNum.nd (pi_str (pv 0)) (blkOk_by (own := [("digit", 1)]) (N := ["word", "digit"]) (sc := defScope sNum) (by decide +kernel)) (fun _ _ _ _ _ => pg_name scNum.nd rfl (Or.inl rfl)) (fun _ _ _ _ _ => pts_nil) (fun _ _ _ _ _ => pe_chain op_le_str op_le_str pe_str (pv 1) pe_str)) pa_nil)) (fun _ => rfl))) (pss_one (ps_ret pe_non)) pss_nil)
      (pss_one (ps_ret (pe_callTy call_int_str (by rfl) B.int (by decide +kernel) (pa_cons (pv 0) pa_nil))))), ?_⟩
    have big : (600 : Nat) < sizeLine := by
      rw [sizeLine_eq]
      decide
    have zsz : z.cps.toList.length = z.length := rfl
    have none_ : rdOk z = false → Q .non H := fun e => by
      have h := q H Ex.refl
      unfold rdN at h
      rw [if_neg (by rw [e]; decide)] at h
      exact h
    refine ⟨_, rfl, z, rfl, by omega, 1, z.length, rfl, rfl, _, rfl, ?_⟩
    refine ite2 (fun c1 => ?_) (fun c1 => ?_)
    · have l1 : (1 : Int) ≤ z.length := of_decide_eq_true c1
      refine ⟨_, _, rfl, rfl, _, rfl, ?_⟩
      rw [decide_eq_true (show (z.length : Int) ≤ 4000 by omega)]
      refine rd_first (z := z) rfl (by omega) zl ?_
      refine ite2 (fun k1 => ?_) (fun k1 => ?_)
      · refine none_ ?_
        unfold rdOk
        rw [k1]
        simp
      · have k2 := Bool.eq_false_iff.mpr k1
        refine ⟨_, rfl, z, rfl, fun D hD => lc_it walk_str (fun n H2 => Ex H H2 ∧ H2 D = some (.lst (((z.cps.toList.take n).map dgt).map V.bl))) ⟨Ex.refl.new hD, upd_same⟩ (fun _ _ _ _ => True.intro) ?_ ?_⟩
        · rintro i y _ H2 hi ⟨x2, e2⟩ ⟨rfl, c, hc, rfl⟩
          refine ⟨rfl, ?_⟩
          have hc2 : z.cps.toList[i]? = some c := by rw [Array.getElem?_toList]; exact hc
          have done : ∃ acc, H2 D = some (.lst acc) ∧ acc.length < sizeLine ∧ Ex H (upd H2 D (.lst (acc ++ [.bl (dgt c)]))) ∧ (upd H2 D (.lst (acc ++ [.bl (dgt c)]))) D = some (.lst (((z.cps.toList.take (i + 1)).map dgt).map V.bl)) := by
            refine ⟨_, e2, ?_, x2.put hD, ?_⟩
            · rw [List.length_map, List.length_map, List.length_take]
              omega
            · rw [upd_same, List.take_succ, hc2, List.map_append, List.map_append]
              rfl
          refine ⟨_, rfl, _, _, rfl, rfl, _, rfl, ?_⟩
          rw [show (!decide ((⟨#[c]⟩ : Str).cps.toList < (Str.ofString "0").cps.toList)) = decide (48 ≤ c) from le_one 48 c]
          refine ite2 (fun k1 => ?_) (fun k1 => ?_)
          · refine ⟨_, _, rfl, rfl, ?_⟩
            rw [show (!decide ((Str.ofString "9").cps.toList < (⟨#[c]⟩ : Str).cps.toList)) = decide (c ≤ 57) from le_one c 57]
            have e : dgt c = decide (c ≤ 57) := by
              unfold dgt
              rw [k1, Bool.true_and]
            rw [← e]
            exact done
          · have e : dgt c = false := by
              unfold dgt
              rw [Bool.eq_false_iff.mpr k1, Bool.false_and]
            rw [e] at done
            exact done
        · rintro H2 ⟨x2, e2⟩
          refine ⟨D, _, rfl, SqL.of e2, _, rfl, ?_⟩
          have ea : (((z.cps.toList.take z.cps.size).map dgt).all id) = z.cps.toList.all dgt := by
            rw [List.take_of_length_le (by rw [Array.length_toList]; exact Nat.le_refl _), List.all_map]
            rfl
          rw [ea]
          have re : rdOk z = z.cps.toList.all dgt := by
            unfold rdOk
            rw [k2, decide_eq_true (p := 1 ≤ z.length) (by omega)]
            simp
          refine ite2 (fun k3 => ?_) (fun k3 => ?_)
          · have h := q H2 x2
            unfold rdN at h
            rw [re, if_neg (by intro y; rw [y] at k3; cases k3)] at h
            exact h
          · have k4 : z.cps.toList.all dgt = true := by
              cases e : z.cps.toList.all dgt with
              | true => rfl
              | false => rw [e] at k3; exact absurd rfl k3
            have h := q H2 x2
            unfold rdN at h
            rw [re, if_pos k4] at h
            refine ⟨_, rfl, z, _, rfl, intText_digits (fun c hc => ?_) (fun y => ?_) (by omega), by omega, h⟩
            · have := List.all_eq_true.mp k4 c hc
              unfold dgt at this
              rw [Bool.and_eq_true, decide_eq_true_eq, decide_eq_true_eq] at this
              exact this
            · rw [y] at zsz
              simp at zsz
              omega
    · have l1 : ¬ (1 : Int) ≤ z.length := fun w => c1 (decide_eq_true w)
      refine ⟨_, rfl, ?_⟩
      refine none_ ?_
      unfold rdOk
      rw [decide_eq_false (p := 1 ≤ z.length) (by omega)]
      rfl
end
end LJ
set_option Elab.async false
set_option linter.all false
set_option maxRecDepth 100000
set_option maxHeartbeats 8000000
namespace LJ
open PySem PySem.Spec L2
/-! What lines and words of told works are. -/
theorem tl_num {i : Int} (h0 : 0 ≤ i) : TL.tl (num i) = TL.numL i.toNat := by
  obtain ⟨n, rfl⟩ := Int.eq_ofNat_of_zero_le h0
  unfold num TL.numL
  rw [TL.tl_ofString]
  congr 1
  show (toString (n : Int)).toList = _
  have e : (toString (n : Int)) = Nat.repr n := rfl
  rw [e]
  unfold Nat.repr
  simp
theorem num_head {n : Nat} (h : 1 ≤ n) : (TL.numL n)[0]? ≠ some 48 := by
  induction n using Nat.strongRecOn with
  | _ n ih =>
    by_cases lt : n < 10
    · rw [TL.numL_lt lt]
      intro z
      have z := Option.some.inj z
      omega
    · rw [TL.numL_step (by omega)]
      have h2 := ih (n / 10) (by omega) (by omega)
      have ne := TL.numL_ne (n / 10)
      rw [List.getElem?_append_left (by cases e : TL.numL (n / 10) with
        | nil => exact absurd e ne
        | cons _ _ => exact Nat.zero_lt_succ _)]
      exact h2
theorem rdN_num {i : Int} (h0 : 0 ≤ i) : rdN (num i) = some i := by
  have tl := tl_num h0
  have tl2 : (num i).cps.toList = TL.numL i.toNat := tl
  have ok : rdOk (num i) = true := by
    unfold rdOk
    have l1 : 1 ≤ (num i).length := by
      have : (num i).cps.toList.length = (num i).length := rfl
      rw [tl2] at this
      cases e : TL.numL i.toNat with
      | nil => exact absurd e (TL.numL_ne _)
      | cons a b =>
        rw [e] at this
        simp at this
        omega
    rw [decide_eq_true l1, Bool.true_and, tl2]
    have dg : (TL.numL i.toNat).all dgt = true := List.all_eq_true.mpr fun c hc => by
      have := TL.numL_digits i.toNat c hc
      unfold dgt
      rw [decide_eq_true this.1, decide_eq_true this.2]
      rfl
    rw [dg, Bool.and_true]
    by_cases z : i.toNat = 0
    · have : num i = Str.ofString "0" := by
        apply TL.ext_tl
        rw [tl, z]
        decide +kernel
      rw [decide_eq_true this]
      simp
    · rw [decide_eq_false (num_head (by omega))]
      rfl
  unfold rdN
  rw [if_pos ok, tl2, TL.numL_val]
  congr 1
  omega
/-- signs of a text -/
def Free (c : Nat) (z : Str) : Prop := c ∉ TL.tl z
theorem free_num {i : Int} (h0 : 0 ≤ i) {c : Nat} (h : c < 48 ∨ 57 < c) : Free c (num i) := by
  unfold Free
  rw [tl_num h0]
  exact TL.numL_free h
theorem free_name {z : Str} (h : isW z = true) {c : Nat} (hc : c < 97 ∨ 122 < c) : Free c z := by
  unfold isW at h
  rw [Bool.and_eq_true, Bool.and_eq_true] at h
  intro m
  have := List.all_eq_true.mp h.2.2 c m
  rw [Bool.and_eq_true, decide_eq_true_eq, decide_eq_true_eq] at this
  omega
theorem free_app {c : Nat} {x y : Str} (hx : Free c x) (hy : Free c y) : Free c (x ++ y) := by
  unfold Free
  rw [TL.tl_append]
  exact fun m => (List.mem_append.mp m).elim hx hy
theorem split_at {c : Nat} {sep : Str} (hs : TL.tl sep = [c]) (h256 : c < 256) {ys : List Str} (ne : ys ≠ []) (h : ∀ y ∈ ys, Free c y) : Txt.split (Txt.join sep ys) sep = ys :=
  TL.split_join hs (by
    have e : sep = ⟨#[c]⟩ := TL.ext_tl hs
    rw [e]
    simpa using h256) ne h
theorem tl_join2 (sep : Str) : ∀ (ys : List Str), TL.tl (Txt.join sep ys) = TL.joinL (TL.tl sep) (ys.map TL.tl) := fun ys => by
  rw [TL.join_eq, TL.tl_join]
theorem tl_sp1 : TL.tl sp1 = [32] := by decide +kernel
theorem tl_nl : TL.tl (Str.ofString "\n") = [10] := by decide +kernel
theorem tl_hy : TL.tl (Str.ofString "-") = [45] := by decide +kernel
def kM : Str := Str.ofString "machine"
def kC : Str := Str.ofString "cleaning"
def kS : Str := Str.ofString "stuff"
def kP : Str := Str.ofString "product"
theorem tl_empty : TL.tl Str.empty = [] := rfl
theorem line3_join {pre k : Str} (h : TL.tl pre = TL.tl k ++ [32]) (r : Str × Int × Int) : line3 pre r = Txt.join sp1 [k, r.1, num r.2.1, num r.2.2] := by
  apply TL.ext_tl
  rw [tl_join2]
  unfold line3
  simp only [TL.tl_append, h, tl_sp1, tl_empty, List.map, TL.joinL, List.nil_append, List.append_assoc, List.cons_append]
theorem line2_join {pre k : Str} (h : TL.tl pre = TL.tl k ++ [32]) (r : Str × Int) : line2 pre r = Txt.join sp1 [k, r.1, num r.2] := by
  apply TL.ext_tl
  rw [tl_join2]
  unfold line2
  simp only [TL.tl_append, h, tl_sp1, tl_empty, List.map, TL.joinL, List.nil_append, List.append_assoc, List.cons_append]
/-- the word of a pair of bounds -/
def bword (b : Int × Int) : Str := num b.1 ++ Str.ofString "-" ++ num b.2
theorem bword_join (b : Int × Int) : bword b = Txt.join (Str.ofString "-") [num b.1, num b.2] := by
  apply TL.ext_tl
  rw [tl_join2]
  unfold bword
  simp only [TL.tl_append, List.map, TL.joinL, List.nil_append, List.append_assoc, List.cons_append]
theorem join_nil_sep : ∀ ys : List Str, TL.tl (Txt.join (Str.ofString "") ys) = (ys.map TL.tl).flatten
  | [] => by decide +kernel
  | [y] => by
    rw [tl_join2]
    simp only [List.map, TL.joinL]
    simp
  | y :: z :: r => by
    have ih := join_nil_sep (z :: r)
    rw [tl_join2] at ih ⊢
    simp only [List.map, TL.joinL] at ih ⊢
    rw [ih, show TL.tl (Str.ofString "") = [] from by decide +kernel]
    simp
theorem joinL_sp : ∀ (x : List Nat) (ys : List (List Nat)), TL.joinL [32] (x :: ys) = x ++ (ys.map fun y => 32 :: y).flatten
  | x, [] => by simp [TL.joinL]
  | x, y :: r => by
    have ih := joinL_sp y r
    simp only [TL.joinL] at ih ⊢
    rw [ih]
    simp
theorem pline_join (n : Str) (bs : List (Int × Int)) : pline n bs = Txt.join sp1 (kP :: n :: bs.map bword) := by
  apply TL.ext_tl
  rw [tl_join2]
  unfold pline
  rw [TL.tl_append, TL.tl_append, TL.tl_append, join_nil_sep, tl_empty, tl_sp1, List.map_cons, joinL_sp, List.map_cons, List.map_cons, List.flatten_cons,
    show TL.tl (Str.ofString "product ") = TL.tl kP ++ [32] from by decide +kernel]
  rw [List.map_map, List.map_map, List.map_map]
  have e : (bs.map (TL.tl ∘ bline)) = bs.map ((fun y => 32 :: y) ∘ (TL.tl ∘ bword)) := by
    apply List.map_congr_left
    intro b _
    show TL.tl (bline b) = 32 :: TL.tl (bword b)
    unfold bline bword
    simp only [TL.tl_append, tl_empty, show TL.tl (Str.ofString " ") = [32] from by decide +kernel, List.nil_append, List.append_assoc, List.cons_append]
  rw [e]
  simp
  rfl
/-- works as they may be, of any size that is let -/
structure GoodF (W : Wd) : Prop where
  m1 : 1 ≤ W.ms.length
  m2 : W.ms.length ≤ 6
  c2 : W.cs.length ≤ 6
  s1 : 1 ≤ W.ss.length
  s2 : W.ss.length ≤ 3
  p1 : 1 ≤ W.ps.length
  p2 : W.ps.length ≤ 8
  mb : ∀ r ∈ W.ms, 0 ≤ r.2.1 ∧ r.2.1 ≤ r.2.2 ∧ r.2.2 ≤ 1000
  cb : ∀ r ∈ W.cs, 0 ≤ r.2.1 ∧ r.2.1 ≤ r.2.2 ∧ r.2.2 ≤ 1000
  sb : ∀ r ∈ W.ss, 0 ≤ r.2 ∧ r.2 ≤ 1000000000000
  pb : ∀ r ∈ W.ps, r.2.length = W.ss.length ∧ ∀ b ∈ r.2, 0 ≤ b.1 ∧ b.1 ≤ b.2 ∧ b.2 ≤ 1000000000000
  nd : (W.ms.map (·.1) ++ (W.cs.map (·.1) ++ (W.ss.map (·.1) ++ W.ps.map (·.1)))).Nodup
  nm : ∀ x ∈ W.ms.map (·.1) ++ (W.cs.map (·.1) ++ (W.ss.map (·.1) ++ W.ps.map (·.1))), isW x = true
theorem isW_8 {x : Str} (h : isW x = true) : x.length ≤ 8 := by
  unfold isW at h
  rw [Bool.and_eq_true, Bool.and_eq_true, decide_eq_true_eq, decide_eq_true_eq] at h
  exact h.2.1
namespace GoodF
variable {W : Wd} (g : GoodF W)
include g
theorem wm {r : Str × Int × Int} (h : r ∈ W.ms) : isW r.1 = true := g.nm _ (List.mem_append_left _ (List.mem_map_of_mem h))
theorem wc {r : Str × Int × Int} (h : r ∈ W.cs) : isW r.1 = true := g.nm _ (List.mem_append_right _ (List.mem_append_left _ (List.mem_map_of_mem h)))
theorem ws {r : Str × Int} (h : r ∈ W.ss) : isW r.1 = true := g.nm _ (List.mem_append_right _ (List.mem_append_right _ (List.mem_append_left _ (List.mem_map_of_mem h))))
theorem wp {r : Str × List (Int × Int)} (h : r ∈ W.ps) : isW r.1 = true := g.nm _ (List.mem_append_right _ (List.mem_append_right _ (List.mem_append_right _ (List.mem_map_of_mem h))))
end GoodF
theorem free_join {c : Nat} {sep : Str} (hs : Free c sep) : ∀ {ys : List Str}, (∀ y ∈ ys, Free c y) → Free c (Txt.join sep ys)
  | [], _ => by
    unfold Free
    rw [tl_join2]
    simp [TL.joinL]
  | [y], h => by
    have := h y (List.mem_cons_self ..)
    unfold Free at this ⊢
    rw [tl_join2]
    simpa [TL.joinL] using this
  | y :: z :: r, h => by
    have ih := free_join hs (ys := z :: r) fun x hx => h x (List.mem_cons_of_mem _ hx)
    have hy := h y (List.mem_cons_self ..)
    unfold Free at ih hy hs ⊢
    rw [tl_join2] at ih ⊢
    simp only [List.map, TL.joinL] at ih ⊢
    intro m
    rcases List.mem_append.mp m with m | m
    · exact hy m
    · rcases List.mem_append.mp m with m | m
      · exact hs m
      · exact ih m
theorem kM_pre : TL.tl (Str.ofString "machine ") = TL.tl kM ++ [32] := by decide +kernel
theorem kC_pre : TL.tl (Str.ofString "cleaning ") = TL.tl kC ++ [32] := by decide +kernel
theorem kS_pre : TL.tl (Str.ofString "stuff ") = TL.tl kS ++ [32] := by decide +kernel
theorem k_free {c : Nat} (h : c < 97 ∨ 122 < c) {k : Str} (hk : k = kM ∨ k = kC ∨ k = kS ∨ k = kP) : Free c k := by
  rcases hk with rfl | rfl | rfl | rfl <;> exact free_name (by decide +kernel) h
/-- the words of the lines -/
def wordsM (k : Str) (r : Str × Int × Int) : List Str := [r.1, num r.2.1, num r.2.2]
def wordsS (r : Str × Int) : List Str := [r.1, num r.2]
def wordsP (r : Str × List (Int × Int)) : List Str := r.1 :: r.2.map bword
theorem bword_free {b : Int × Int} (h : Small b) {c : Nat} (hc : c < 45 ∨ 57 < c) : Free c (bword b) := by
  obtain ⟨s1, s2, s3⟩ := h
  refine free_app (free_app (free_num s1 (by omega)) ?_) (free_num (Int.le_trans s1 s2) (by omega))
  unfold Free
  rw [tl_hy]
  intro m
  have := List.mem_singleton.mp m
  omega
theorem wordsM_free {k : Str} {r : Str × Int × Int} (w : isW r.1 = true) (b : 0 ≤ r.2.1 ∧ r.2.1 ≤ r.2.2 ∧ r.2.2 ≤ 1000) {c : Nat} (hc : c < 48) : ∀ y ∈ wordsM k r, Free c y := by
  intro y hy
  unfold wordsM at hy
  simp only [List.mem_cons, List.not_mem_nil, or_false] at hy
  rcases hy with rfl | rfl | rfl
  · exact free_name w (by omega)
  · exact free_num b.1 (by omega)
  · exact free_num (by omega) (by omega)
theorem wordsS_free {r : Str × Int} (w : isW r.1 = true) (b : 0 ≤ r.2) {c : Nat} (hc : c < 48) : ∀ y ∈ wordsS r, Free c y := by
  intro y hy
  unfold wordsS at hy
  simp only [List.mem_cons, List.not_mem_nil, or_false] at hy
  rcases hy with rfl | rfl
  · exact free_name w (by omega)
  · exact free_num b (by omega)
theorem wordsP_free {r : Str × List (Int × Int)} (w : isW r.1 = true) (b : ∀ x ∈ r.2, Small x) {c : Nat} (hc : c < 45) : ∀ y ∈ wordsP r, Free c y := by
  intro y hy
  unfold wordsP at hy
  rcases List.mem_cons.mp hy with rfl | hy
  · exact free_name w (by omega)
  · obtain ⟨x, hx, rfl⟩ := List.mem_map.mp hy
    exact bword_free (b x hx) (by omega)
theorem sp1_free {c : Nat} (h : c ≠ 32) : Free c sp1 := by
  unfold Free
  rw [tl_sp1]
  exact fun m => h (List.mem_singleton.mp m)
theorem free_cons {c : Nat} {k : Str} {ws : List Str} (hk : Free c k) (h : ∀ y ∈ ws, Free c y) : ∀ y ∈ k :: ws, Free c y := fun y hy => by
  rcases List.mem_cons.mp hy with rfl | hy
  · exact hk
  · exact h y hy
theorem wlines_free {W : Wd} (g : GoodF W) : ∀ y ∈ wlines W, Free 10 y := by
  intro y hy
  unfold wlines at hy
  rcases List.mem_append.mp hy with hy | hy
  · rcases List.mem_append.mp hy with hy | hy
    · rcases List.mem_append.mp hy with hy | hy
      · obtain ⟨r, hr, rfl⟩ := List.mem_map.mp hy
        rw [line3_join kM_pre]
        exact free_join (sp1_free (by decide)) (free_cons (k_free (by omega) (.inl rfl)) (wordsM_free (k := kM) (g.wm hr) (g.mb r hr) (by omega)))
      · obtain ⟨r, hr, rfl⟩ := List.mem_map.mp hy
        rw [line3_join kC_pre]
        exact free_join (sp1_free (by decide)) (free_cons (k_free (by omega) (.inr (.inl rfl))) (wordsM_free (k := kC) (g.wc hr) (g.cb r hr) (by omega)))
    · obtain ⟨r, hr, rfl⟩ := List.mem_map.mp hy
      rw [line2_join kS_pre]
      exact free_join (sp1_free (by decide)) (free_cons (k_free (by omega) (.inr (.inr (.inl rfl)))) (wordsS_free (g.ws hr) (g.sb r hr).1 (by omega)))
  · obtain ⟨r, hr, rfl⟩ := List.mem_map.mp hy
    rw [pline_join]
    exact free_join (sp1_free (by decide)) (free_cons (k_free (by omega) (.inr (.inr (.inr rfl)))) (wordsP_free (g.wp hr) (g.pb r hr).2 (by omega)))
theorem split_text {W : Wd} (g : GoodF W) : Txt.split (wtext W) (Str.ofString "\n") = wlines W := by
  unfold wtext
  refine split_at tl_nl (by decide) (fun z => ?_) (wlines_free g)
  have l := g.m1
  have e := congrArg List.length z
  unfold wlines at e
  rw [List.length_append, List.length_append, List.length_append, List.length_map, List.length_nil] at e
  omega
theorem split_line {k : Str} {ws : List Str} (hk : k = kM ∨ k = kC ∨ k = kS ∨ k = kP) (h : ∀ y ∈ ws, Free 32 y) : Txt.split (Txt.join sp1 (k :: ws)) sp1 = k :: ws :=
  split_at tl_sp1 (by decide) (by simp) (free_cons (k_free (by omega) hk) h)
theorem split_bword {b : Int × Int} (h : Small b) : Txt.split (bword b) (Str.ofString "-") = [num b.1, num b.2] := by
  obtain ⟨s1, s2, s3⟩ := h
  rw [bword_join]
  refine split_at tl_hy (by decide) (by simp) fun y hy => ?_
  simp only [List.mem_cons, List.not_mem_nil, or_false] at hy
  rcases hy with rfl | rfl
  · exact free_num s1 (by omega)
  · exact free_num (Int.le_trans s1 s2) (by omega)
end LJ
set_option Elab.async false
set_option linter.all false
set_option maxRecDepth 100000
set_option maxHeartbeats 8000000
namespace LJ
open PySem PySem.Spec L2
/-! Any text in lines, any line in words. -/
theorem spl_ne (S : List Nat) : ∀ (L : List Nat) (k : Nat) (acc : List Nat), TL.spl S k acc L ≠ []
  | [], k, acc => by
    rw [TL.spl.eq_1]
    exact List.cons_ne_nil _ _
  | c :: r, 0, acc => by
    rw [TL.spl.eq_2]
    split
    · exact List.cons_ne_nil _ _
    · exact spl_ne S r 0 _
  | c :: r, k + 1, acc => by
    rw [show k + 1 = k.succ from rfl, TL.spl.eq_3]
    exact spl_ne S r k acc
theorem spl_sum (S : List Nat) : ∀ (L : List Nat) (k : Nat) (acc : List Nat), ((TL.spl S k acc L).map List.length).sum ≤ acc.length + L.length ∧ (TL.spl S k acc L).length ≤ L.length + 1
  | [], k, acc => by
    rw [TL.spl.eq_1]
    simp
  | c :: r, 0, acc => by
    rw [TL.spl.eq_2]
    split
    · have h := spl_sum S r (S.length - 1) []
      simp only [List.map_cons, List.sum_cons, List.length_cons, List.length_nil] at h ⊢
      omega
    · have h := spl_sum S r 0 (acc ++ [c])
      simp only [List.length_append, List.length_cons, List.length_nil] at h ⊢
      omega
  | c :: r, k + 1, acc => by
    rw [show k + 1 = k.succ from rfl, TL.spl.eq_3]
    have h := spl_sum S r k acc
    simp only [List.length_cons]
    omega
theorem mem_sum {xs : List Nat} {n : Nat} (h : n ∈ xs) : n ≤ xs.sum := by
  induction xs with
  | nil => cases h
  | cons m r ih =>
    rw [List.sum_cons]
    rcases List.mem_cons.mp h with rfl | h
    · omega
    · have := ih h
      omega
theorem kind_1 {y : Str} {c : Nat} (hy : TL.tl y = [c]) (h : c < 256) (x : Str) : ¬ Builtin.Str.strKind x < Builtin.Str.strKind y := by
  have e : y = ⟨#[c]⟩ := TL.ext_tl hy
  have k1 : Builtin.Str.strKind y = 1 := by
    rw [e]
    unfold Builtin.Str.strKind
    rw [if_pos (by simpa using h)]
  rw [k1]
  unfold Builtin.Str.strKind
  split
  · decide
  · split <;> decide
section
variable {x y : Str} {c : Nat} (hy : TL.tl y = [c]) (h : c < 256)
include hy h
theorem split_spl1 : (Txt.split x y).map TL.tl = TL.spl [c] 0 [] (TL.tl x) := by
  rw [← hy]
  exact TL.split_spl x y (by rw [hy]; exact List.cons_ne_nil _ _) (kind_1 hy h x)
theorem split_ne : Txt.split x y ≠ [] := fun z => by
  have e := split_spl1 (x := x) hy h
  rw [z] at e
  exact spl_ne _ _ _ _ e.symm
theorem split_sum : ((Txt.split x y).map Str.length).sum ≤ x.length ∧ (Txt.split x y).length ≤ x.length + 1 := by
  have e := split_spl1 (x := x) hy h
  have s := spl_sum [c] (TL.tl x) 0 []
  rw [← e, List.map_map, List.length_map] at s
  have e2 : (List.length ∘ TL.tl : Str → Nat) = Str.length := by
    funext z
    show z.cps.toList.length = z.length
    rw [Array.length_toList]
    rfl
  rw [e2] at s
  have e3 : (TL.tl x).length = x.length := congrFun e2 x
  rw [e3] at s
  simpa using s
theorem split_le {p : Str} (hp : p ∈ Txt.split x y) : p.length ≤ x.length := by
  have s := (split_sum (x := x) hy h).1
  have := mem_sum (List.mem_map_of_mem (f := Str.length) hp)
  omega
end
/-- the words of a line -/
def wordsOf (line : Str) : List Str := Txt.split line sp1
end LJ
set_option Elab.async false
set_option linter.all false
set_option maxRecDepth 100000
set_option maxHeartbeats 8000000
namespace LJ
open PySem PySem.Spec L2
open LamX (ExtN TabB)
open NdefX (NTab TabsN)
def clsBody : Stmt → List Stmt
  | .ClassDef (body := b) .. => b
  | _ => []
def meth (i : Nat) : Stmt := (clsBody (top 25)).getD i (.Pass ⟨0, 0, 0, 0⟩)
abbrev sInit : Stmt := meth 0
abbrev nInit : List Str := ["self", "machines", "cleanings", "stuffs", "products", "name", "low", "high", "most", "contents"]
abbrev pInit : List Str := ["self", "machines", "cleanings", "stuffs", "products"]
/-- Works' own class -/
structure WCls (K : PySem.W.Frag) (C : Addr) : Prop where
  cl : Cls K C
  n1 : NoAttr K C "_machines"
  n2 : NoAttr K C "_cleanings"
  n3 : NoAttr K C "_stuffs"
  n4 : NoAttr K C "_products"
  n5 : NoAttr K C "_holds"
  n6 : NoAttr K C "_keeps"
  n7 : NoAttr K C "_limits"
  n8 : NoAttr K C "_contents"
  n9 : NoAttr K C "_text"
section
variable {P : Program} {w : World} {K : PySem.W.Frag} {mg : Str → Option Value} {base : Heap}
theorem scInit : FnScope nInit pInit (defScope sInit) := ⟨rfl, rfl, rfl, by decide +kernel, rfl, by decide +kernel, by decide +kernel⟩
/-- one name more -/
theorem under_snoc {ns : List Str} {vals : List V} {i : Nat} {n : Str} {v : V} (h : ns[i]? = some n) (l : vals.length = i) : under (ns.take (i + 1)) (vals ++ [v]) = under (ns.take i) vals ++ [(.inr n, v)] := by
  have li : i < ns.length := (List.getElem?_eq_some_iff.mp h).1
  unfold under
  rw [List.take_succ, h]
  show ((ns.take i ++ [n]).zip (vals ++ [v])).map _ = _
  rw [List.zip_append (by rw [List.length_take, l]; omega), List.map_append]
  rfl
/-- what a made object of Works holds -/
def WorksAt (C : Addr) (H : Hp) (x am ac as ap : Addr) (W : Wd) : Prop := ∃ (dx D1 D2 D3 D4 : Addr) (b1 b2 v4 : List V),
  H x = some (.ins C dx [("_machines", .ref am), ("_cleanings", .ref ac), ("_stuffs", .ref as), ("_products", .ref ap), ("_holds", .ref D1), ("_keeps", .ref D2), ("_limits", .ref D3), ("_contents", .ref D4), ("_text", .str (wtext W))]) ∧
  (H D1 = some (.dK (dictOf (W.ms.map (·.1)) b1)) ∧ Paired (Bnd H) b1 (W.ms.map (·.2))) ∧ (H D2 = some (.dK (dictOf (W.cs.map (·.1)) b2)) ∧ Paired (Bnd H) b2 (W.cs.map (·.2))) ∧ H D3 = some (.dK (dictOf (W.ss.map (·.1)) (W.ss.map fun r => .int r.2))) ∧
  H D4 = some (.dK (dictOf (W.ps.map (·.1)) v4)) ∧ Paired (fun v p => ∃ (Dp : Addr) (ys : List V), v = .ref Dp ∧ H Dp = some (.dK (dictOf (W.ss.map (·.1)) ys)) ∧ Paired (Bnd H) ys p.2) v4 W.ps
def spInit (K : PySem.W.Frag) (C : Addr) (T : List NTab) : Sp := fun vs H Q _ => ∃ (x dx am ac as ap : Addr) (vm vc vs2 vp : List V) (W : Wd), vs = [.ref x, .ref am, .ref ac, .ref as, .ref ap] ∧ H x = some (.ins C dx []) ∧ Fit K H am ac as ap vm vc vs2 vp ∧
  Paired (Row3 H) vm W.ms ∧ Paired (Row3 H) vc W.cs ∧ Paired (Row2 H) vs2 W.ss ∧ Paired (RowP H) vp W.ps ∧ Told W ∧ (∀ p ∈ W.ps, p.2.length = W.ss.length) ∧ TabsN T H ∧
  ∀ H1, (∀ b o, b ≠ x → H b = some o → (∀ ps, o ≠ .tbl ps) → H1 b = some o) → TabsN T H1 → WorksAt C H1 x am ac as ap W → Q .non H1
/-- all but the instance at x stays: so do tuples and tables -/
theorem But.tup {x C dx : Addr} {fs : List (Str × V)} {H H1 : Hp} (hx : H x = some (.ins C dx fs)) (b : But x H H1) : Tup H H1 := fun a xs e => b a _ (ne_of e hx fun z => nomatch z) e
theorem TabsN.but {T : List NTab} {x C dx : Addr} {fs : List (Str × V)} {H H1 : Hp} (hx : H x = some (.ins C dx fs)) (b : But x H H1) (t : TabsN T H) : TabsN T H1 := fun r hr => by
  obtain ⟨ps, h1, h2, h3⟩ := t r hr
  refine ⟨ps, b _ _ (ne_of h1 hx fun z => nomatch z) h1, h2, fun pos v hv => ?_⟩
  obtain ⟨c, e1, e2⟩ := h3 pos v hv
  exact ⟨c, e1, b _ _ (ne_of e2 hx fun z => nomatch (show HO.ext _ = HO.ins _ _ _ from z)) e2⟩
theorem But.ex {x : Addr} {H H1 : Hp} (e : Ex H H1) : But x H H1 := fun b o _ h => e b o h
theorem But.self {x : Addr} {H : Hp} {o : HO} : But x H (upd H x o) := fun b u n e => by
  rw [upd_ne n]
  exact e
theorem Ex.tup {H H1 : Hp} (e : Ex H H1) : Tup H H1 := fun a xs h => e a _ h
theorem rows3 {H H1 : Hp} (t : Tup H H1) {vs : List V} {rs : List (Str × Int × Int)} (p : Paired (Row3 H) vs rs) : Paired (Row3 H1) vs rs := L2.Paired.mapP p fun _ _ z => Row3.seq t z
theorem rows2 {H H1 : Hp} (t : Tup H H1) {vs : List V} {rs : List (Str × Int)} (p : Paired (Row2 H) vs rs) : Paired (Row2 H1) vs rs := L2.Paired.mapP p fun _ _ z => Row2.seq t z
theorem rowsP {H H1 : Hp} (t : Tup H H1) {vs : List V} {rs : List (Str × List (Int × Int))} (p : Paired (RowP H) vs rs) : Paired (RowP H1) vs rs := L2.Paired.mapP p fun _ _ z => RowP.seq t z
theorem bnds {H H1 : Hp} (t : Tup H H1) {vs : List V} {rs : List (Int × Int)} (p : Paired (Bnd H) vs rs) : Paired (Bnd H1) vs rs := L2.Paired.mapP p fun _ _ z => Bnd.seq t z
theorem paired_map {α β γ : Type} {F : α → γ → Prop} {g : β → γ} : ∀ {xs : List α} {ys : List β}, Paired (fun x y => F x (g y)) xs ys → Paired F xs (ys.map g)
  | _, _, .nil => .nil
  | _, _, .cons h t => .cons h (paired_map t)
/-- the contents of one product, by stuff; not the dict at D4 -/
def CBn (W : Wd) (D4 : Addr) (H : Hp) (v : V) (p : Str × List (Int × Int)) : Prop := ∃ (Dp : Addr) (ys : List V), v = .ref Dp ∧ Dp ≠ D4 ∧ H Dp = some (.dK (dictOf (W.ss.map (·.1)) ys)) ∧ Paired (Bnd H) ys p.2
theorem CBn.but {W : Wd} {D4 x C dx : Addr} {fs : List (Str × V)} {H H1 : Hp} {v : V} {p : Str × List (Int × Int)} (hx : H x = some (.ins C dx fs)) (b : But x H H1) (h : CBn W D4 H v p) : CBn W D4 H1 v p := by
  obtain ⟨D0, ys, e1, e2, e3, e4⟩ := h
  exact ⟨D0, ys, e1, e2, b _ _ (ne_of e3 hx fun z => nomatch z) e3, bnds (But.tup hx b) e4⟩
theorem ok_init {f fC fB fT C : Addr} {fd fdC fdB fdT : FuncData} {T : List NTab} (F : Fun K "__init__" "Works.__init__" sInit f fd) (c : WCls K C)
    (GC : FnOk P w K mg base CX0 6 fC fdC pCheck (spCheck K T)) (mC : mg "_check" = some (.ref fC)) (kC : PySem.W.keepIn K (.ref fC) = true) (bC : Binds K fdC pCheck [])
    (GB : FnOk P w K mg base CX0 1 fB fdB ["stuffs", "contents"] spBy) (mB : mg "_by_stuff" = some (.ref fB)) (kB : PySem.W.keepIn K (.ref fB) = true) (bB : Binds K fdB ["stuffs", "contents"] [])
    (GT : FnOk P w K mg base CX0 2 fT fdT ["machines", "cleanings", "stuffs", "products"] spText) (mT : mg "_text_of" = some (.ref fT)) (kT : PySem.W.keepIn K (.ref fT) = true) (bT : Binds K fdT ["machines", "cleanings", "stuffs", "products"] []) :
    FnOk P w K mg base CX0 7 f fd pInit (spInit K C T) := by
  refine F.ok scInit (fun vs H Q E h => ?_) (fun cdv A outer s H vs Q E hr h => ?_)
  · obtain ⟨x, dx, am, ac, as, ap, vm, vc, vs2, vp, W, rfl, _⟩ := h
    rfl
  · obtain ⟨x, dx, am, ac, as, ap, vm, vc, vs2, vp, W, rfl, hx, fit, pm, pc, ps, pp, T1, same, tabs, q⟩ := h
    have hr1 : Room 1 _ := hr.mono (by decide)
    have hr2 : Room 2 _ := hr.mono (by decide)
    refine ⟨_, pss_cons (ps_expr (pe_call GC hr (by rfl) mC kC bC .nil pass0 (pa_cons (pv 1) (pa_cons (pv 2) (pa_cons (pv 3) (pa_cons (pv 4) pa_nil))))))
      (pss_cons (ps_fld (pv 0) (pv 1) rfl)
      (pss_cons (ps_fld (pv 0) (pv 2) rfl)
      (pss_cons (ps_fld (pv 0) (pv 3) rfl)
      (pss_cons (ps_fld (pv 0) (pv 4) rfl)
      (pss_cons (ps_fld (pv 0) (pe_dc (own := [("name", 5), ("low", 6), ("high", 7)]) (g := gTup K 3 (gCons (gName 5) (gCons (gName 6) (gCons (gName 7) gNil)))) (by rfl) scInit.nd (pi_tup (pv 1)) (blkOk_by (own := [("name", 5), ("low", 6), ("high", 7)]) (N := nInit) (sc := defScope sInit) (by decide +kernel))
          (fun _ _ _ _ _ => pg_tup (by rfl) (pgs_cons (pg_name (i := 5) scInit.nd rfl (Or.inl rfl)) (pgs_cons (pg_name (i := 6) scInit.nd rfl (Or.inl rfl)) (pgs_cons (pg_name (i := 7) scInit.nd rfl (Or.inl rfl)) pgs_nil)))) (fun _ _ _ _ _ => pts_nil)
          (fun _ _ _ _ _ => pv 5) (fun _ _ _ _ _ => pe_tup (pa_cons (pv 6) (pa_cons (pv 7) pa_nil)))) rfl)
      (pss_cons (ps_fld (pv 0) (pe_dc (own := [("name", 5), ("low", 6), ("high", 7)]) (g := gTup K 3 (gCons (gName 5) (gCons (gName 6) (gCons (gName 7) gNil)))) (by rfl) scInit.nd (pi_tup (pv 2)) (blkOk_by (own := [("name", 5), ("low", 6), ("high", 7)]) (N := nInit) (sc := defScope sInit) (by decide +kernel))
          (fun _ _ _ _ _ => pg_tup (by rfl) (pgs_cons (pg_name (i := 5) scInit.nd rfl (Or.inl rfl)) (pgs_cons (pg_name (i := 6) scInit.nd rfl (Or.inl rfl)) (pgs_cons (pg_name (i := 7) scInit.nd rfl (Or.inl rfl)) pgs_nil)))) (fun _ _ _ _ _ => pts_nil)
          (fun _ _ _ _ _ => pv 5) (fun _ _ _ _ _ => pe_tup (pa_cons (pv 6) (pa_cons (pv 7) pa_nil)))) rfl)
      (pss_cons (ps_fld (pv 0) (pe_dc (own := [("name", 5), ("most", 8)]) (g := gTup K 2 (gCons (gName 5) (gCons (gName 8) gNil))) (by rfl) scInit.nd (pi_tup (pv 3)) (blkOk_by (own := [("name", 5), ("most", 8)]) (N := nInit) (sc := defScope sInit) (by decide +kernel))
          (fun _ _ _ _ _ => pg_tup (by rfl) (pgs_cons (pg_name (i := 5) scInit.nd rfl (Or.inl rfl)) (pgs_cons (pg_name (i := 8) scInit.nd rfl (Or.inl rfl)) pgs_nil))) (fun _ _ _ _ _ => pts_nil)
          (fun _ _ _ _ _ => pv 5) (fun _ _ _ _ _ => pv 8)) rfl)
      (pss_cons (ps_fld (pv 0) (pe_dc (own := [("name", 5), ("contents", 9)]) (g := gTup K 2 (gCons (gName 5) (gCons (gName 9) gNil))) (by rfl) scInit.nd (pi_tup (pv 4)) (blkOk_by (own := [("name", 5), ("contents", 9)]) (N := nInit) (sc := defScope sInit) (by decide +kernel))
          (fun _ _ _ _ _ => pg_tup (by rfl) (pgs_cons (pg_name (i := 5) scInit.nd rfl (Or.inl rfl)) (pgs_cons (pg_name (i := 9) scInit.nd rfl (Or.inl rfl)) pgs_nil))) (fun _ _ _ _ _ => pts_nil)
          (fun _ _ _ _ _ => pv 5) (fun _ _ _ _ _ => pe_call GB hr1 (by rfl) mB kB bB .nil pass0 (pa_cons (pv 3) (pa_cons (pv 9) pa_nil)))) rfl)
      (pss_one (ps_fld (pv 0) (pe_call GT hr2 (by rfl) mT kT bT .nil pass0 (pa_cons (pv 1) (pa_cons (pv 2) (pa_cons (pv 3) (pa_cons (pv 4) pa_nil))))) rfl)))))))))), ?_⟩
    have two : 2 ≤ sizeLine := by
      rw [sizeLine_eq]
      decide
    have few : ∀ {n : Nat}, n < 100 → n < 1000 := fun h => by omega
    have l1 : vm.length = W.ms.length := Paired.size pm
    have l2 : vc.length = W.cs.length := Paired.size pc
    have l3 : vs2.length = W.ss.length := Paired.size ps
    have l4 : vp.length = W.ps.length := Paired.size pp
    have w1 := T1.lm
    have w2 := T1.lc
    have w3 := T1.ls
    have w4 := T1.lp
    refine ⟨_, rfl, _, rfl, _, rfl, _, rfl, am, ac, as, ap, vm, vc, vs2, vp, rfl, fit, tabs, fun H1 x1 tabs1 => ?_⟩
    have hx1 : H1 x = some (.ins C dx []) := x1 _ _ hx fun _ z => nomatch z
    have fit1 := fit.exN x1
    have tt1 : Tup H H1 := fun a xs e => tup_n x1 e
    have pm1 := rows3 tt1 pm
    have pc1 := rows3 tt1 pc
    have ps1 := rows2 tt1 ps
    have pp1 := rowsP tt1 pp
    refine ⟨_, rfl, _, rfl, x, C, dx, _, rfl, hx1, c.cl, c.n1, few (by decide), ?_⟩
    refine ⟨_, rfl, _, rfl, x, C, dx, _, rfl, upd_same, c.cl, c.n2, (by decide : (1 : Nat) < 1000), ?_⟩
    refine ⟨_, rfl, _, rfl, x, C, dx, _, rfl, upd_same, c.cl, c.n3, (by decide : (2 : Nat) < 1000), ?_⟩
    refine ⟨_, rfl, _, rfl, x, C, dx, _, rfl, upd_same, c.cl, c.n4, (by decide : (3 : Nat) < 1000), ?_⟩
    rw [upd_upd, upd_upd, upd_upd]
    show tSeq _ _ _ _ (upd H1 x (.ins C dx [("_machines", .ref am), ("_cleanings", .ref ac), ("_stuffs", .ref as), ("_products", .ref ap)]))
    have B4 : But x H1 (upd H1 x (.ins C dx [("_machines", .ref am), ("_cleanings", .ref ac), ("_stuffs", .ref as), ("_products", .ref ap)])) := But.self
    have X4 : (upd H1 x (.ins C dx [("_machines", .ref am), ("_cleanings", .ref ac), ("_stuffs", .ref as), ("_products", .ref ap)])) x = some (.ins C dx [("_machines", .ref am), ("_cleanings", .ref ac), ("_stuffs", .ref as), ("_products", .ref ap)]) := upd_same
    generalize upd H1 x (.ins C dx [("_machines", .ref am), ("_cleanings", .ref ac), ("_stuffs", .ref as), ("_products", .ref ap)]) = H4 at B4 X4 ⊢
    have t4 := But.tup hx1 B4
    have pm4 := rows3 t4 pm1
    have hm4 := t4 _ _ fit1.m
    refine ⟨_, rfl, am, rfl, ⟨vm, SqT.of hm4⟩, fun D1 n1 => dc_it walk_tup (fun i G => Ex H4 G ∧ ∃ vals : List V, vals.length = i ∧ Paired (Bnd G) vals ((W.ms.map (·.2)).take i) ∧ G D1 = some (.dK (mergeK [] (under ((W.ms.map (·.1)).take i) vals)))) ⟨Ex.refl.new n1, [], rfl, .nil, upd_same⟩ (fun i G _ h => SqT.of (h.1 _ _ hm4)) ?_ ?_⟩
    · rintro i v _ G hi ⟨xG, vals, vl, pv, eG⟩ ⟨rfl, hv⟩
      obtain ⟨⟨n, lo, up⟩, hr, a, rfl, ha⟩ := Paired.spot pm4 hv
      have e : G a = some (.tup [.str n, .int lo, .int up]) := xG _ _ ha
      have hn : (W.ms.map (·.1))[i]? = some n := by
        rw [List.getElem?_map, hr]
        rfl
      have hb : (W.ms.map (·.2))[i]? = some (lo, up) := by
        rw [List.getElem?_map, hr]
        rfl
      refine ⟨a, _, rfl, SqT.of e, rfl, _, _, rfl, _, _, rfl, _, _, rfl, rfl, rfl, ?_⟩
      refine ⟨_, rfl, _, rfl, _, rfl, two, fun p np => ?_⟩
      have nDp : D1 ≠ p := ne_of_none eG np
      have eD : (upd G p (.tup [.int lo, .int up])) D1 = some (.dK (mergeK [] (under ((W.ms.map (·.1)).take i) vals))) := by
        rw [upd_ne nDp]
        exact eG
      refine ⟨_, .inr n, rfl, eD, ?_, (xG.new np).put n1, vals ++ [.ref p], by rw [List.length_append, vl]; rfl, ?_, ?_⟩
      · have m := merge_len (more := under ((W.ms.map (·.1)).take i) vals) (kvs := [])
        have m2 : (under ((W.ms.map (·.1)).take i) vals).length ≤ i := by
          unfold under
          rw [List.length_map, List.length_zip, vl]
          exact Nat.min_le_right _ _
        rw [List.length_nil] at m
        rw [sizeLine_eq]
        omega
      · have tt : Tup G (upd (upd G p (.tup [.int lo, .int up])) D1 (.dK (putK (mergeK [] (under ((W.ms.map (·.1)).take i) vals)) (.inr n) (.ref p)))) := fun b xs h => by
          rw [upd_ne (ne_of h eG fun z => nomatch z), upd_ne (ne_of_none h np)]
          exact h
        rw [List.take_succ, hb]
        exact Paired.snoc (bnds tt pv) ⟨p, rfl, by rw [upd_ne nDp.symm]; exact upd_same⟩
      · rw [upd_same, under_snoc hn vl, merge_snoc]
    rintro G1 ⟨xG1, b1, bl1, pb1, eG1⟩
    rw [List.take_of_length_le (by rw [List.length_map]; omega), ] at pb1
    rw [List.take_of_length_le (by rw [List.length_map]; omega)] at eG1
    refine ⟨_, rfl, x, C, dx, _, rfl, xG1 _ _ X4, c.cl, c.n5, (by decide : (4 : Nat) < 1000), ?_⟩
    show tSeq _ _ _ _ (upd G1 x (.ins C dx [("_machines", .ref am), ("_cleanings", .ref ac), ("_stuffs", .ref as), ("_products", .ref ap), ("_holds", .ref D1)]))
    have S5 : But x H4 (upd G1 x (.ins C dx [("_machines", .ref am), ("_cleanings", .ref ac), ("_stuffs", .ref as), ("_products", .ref ap), ("_holds", .ref D1)])) := But.trans (But.ex xG1) But.self
    have V5 : But x G1 (upd G1 x (.ins C dx [("_machines", .ref am), ("_cleanings", .ref ac), ("_stuffs", .ref as), ("_products", .ref ap), ("_holds", .ref D1)])) := But.self
    have X5 : (upd G1 x (.ins C dx [("_machines", .ref am), ("_cleanings", .ref ac), ("_stuffs", .ref as), ("_products", .ref ap), ("_holds", .ref D1)])) x = some (.ins C dx [("_machines", .ref am), ("_cleanings", .ref ac), ("_stuffs", .ref as), ("_products", .ref ap), ("_holds", .ref D1)]) := upd_same
    have XG5 := xG1 _ _ X4
    generalize upd G1 x (.ins C dx [("_machines", .ref am), ("_cleanings", .ref ac), ("_stuffs", .ref as), ("_products", .ref ap), ("_holds", .ref D1)]) = H5 at S5 V5 X5 ⊢
    have B5 : But x H1 H5 := But.trans B4 S5
    have t5 := But.tup hx1 B5
    have d1_5 := V5 _ _ (ne_of eG1 XG5 fun z => nomatch z) eG1
    have p1_5 := bnds (But.tup XG5 V5) pb1
    have pc5 := rows3 t5 pc1
    have hc5 := t5 _ _ fit1.c
    refine ⟨_, rfl, ac, rfl, ⟨vc, SqT.of hc5⟩, fun D2 n2 => dc_it walk_tup (fun i G => Ex H5 G ∧ ∃ vals : List V, vals.length = i ∧ Paired (Bnd G) vals ((W.cs.map (·.2)).take i) ∧ G D2 = some (.dK (mergeK [] (under ((W.cs.map (·.1)).take i) vals)))) ⟨Ex.refl.new n2, [], rfl, .nil, upd_same⟩ (fun i G _ h => SqT.of (h.1 _ _ hc5)) ?_ ?_⟩
    · rintro i v _ G hi ⟨xG, vals, vl, pv, eG⟩ ⟨rfl, hv⟩
      obtain ⟨⟨n, lo, up⟩, hr, a, rfl, ha⟩ := Paired.spot pc5 hv
      have e : G a = some (.tup [.str n, .int lo, .int up]) := xG _ _ ha
      have hn : (W.cs.map (·.1))[i]? = some n := by
        rw [List.getElem?_map, hr]
        rfl
      have hb : (W.cs.map (·.2))[i]? = some (lo, up) := by
        rw [List.getElem?_map, hr]
        rfl
      refine ⟨a, _, rfl, SqT.of e, rfl, _, _, rfl, _, _, rfl, _, _, rfl, rfl, rfl, ?_⟩
      refine ⟨_, rfl, _, rfl, _, rfl, two, fun p np => ?_⟩
      have nDp : D2 ≠ p := ne_of_none eG np
      have eD : (upd G p (.tup [.int lo, .int up])) D2 = some (.dK (mergeK [] (under ((W.cs.map (·.1)).take i) vals))) := by
        rw [upd_ne nDp]
        exact eG
      refine ⟨_, .inr n, rfl, eD, ?_, (xG.new np).put n2, vals ++ [.ref p], by rw [List.length_append, vl]; rfl, ?_, ?_⟩
      · have m := merge_len (more := under ((W.cs.map (·.1)).take i) vals) (kvs := [])
        have m2 : (under ((W.cs.map (·.1)).take i) vals).length ≤ i := by
          unfold under
          rw [List.length_map, List.length_zip, vl]
          exact Nat.min_le_right _ _
        rw [List.length_nil] at m
        rw [sizeLine_eq]
        omega
      · have tt : Tup G (upd (upd G p (.tup [.int lo, .int up])) D2 (.dK (putK (mergeK [] (under ((W.cs.map (·.1)).take i) vals)) (.inr n) (.ref p)))) := fun b xs h => by
          rw [upd_ne (ne_of h eG fun z => nomatch z), upd_ne (ne_of_none h np)]
          exact h
        rw [List.take_succ, hb]
        exact Paired.snoc (bnds tt pv) ⟨p, rfl, by rw [upd_ne nDp.symm]; exact upd_same⟩
      · rw [upd_same, under_snoc hn vl, merge_snoc]
    rintro G2 ⟨xG2, b2, bl2, pb2, eG2⟩
    rw [List.take_of_length_le (by rw [List.length_map]; omega), ] at pb2
    rw [List.take_of_length_le (by rw [List.length_map]; omega)] at eG2
    refine ⟨_, rfl, x, C, dx, _, rfl, xG2 _ _ X5, c.cl, c.n6, (by decide : (5 : Nat) < 1000), ?_⟩
    show tSeq _ _ _ _ (upd G2 x (.ins C dx [("_machines", .ref am), ("_cleanings", .ref ac), ("_stuffs", .ref as), ("_products", .ref ap), ("_holds", .ref D1), ("_keeps", .ref D2)]))
    have S6 : But x H5 (upd G2 x (.ins C dx [("_machines", .ref am), ("_cleanings", .ref ac), ("_stuffs", .ref as), ("_products", .ref ap), ("_holds", .ref D1), ("_keeps", .ref D2)])) := But.trans (But.ex xG2) But.self
    have V6 : But x G2 (upd G2 x (.ins C dx [("_machines", .ref am), ("_cleanings", .ref ac), ("_stuffs", .ref as), ("_products", .ref ap), ("_holds", .ref D1), ("_keeps", .ref D2)])) := But.self
    have X6 : (upd G2 x (.ins C dx [("_machines", .ref am), ("_cleanings", .ref ac), ("_stuffs", .ref as), ("_products", .ref ap), ("_holds", .ref D1), ("_keeps", .ref D2)])) x = some (.ins C dx [("_machines", .ref am), ("_cleanings", .ref ac), ("_stuffs", .ref as), ("_products", .ref ap), ("_holds", .ref D1), ("_keeps", .ref D2)]) := upd_same
    have XG6 := xG2 _ _ X5
    generalize upd G2 x (.ins C dx [("_machines", .ref am), ("_cleanings", .ref ac), ("_stuffs", .ref as), ("_products", .ref ap), ("_holds", .ref D1), ("_keeps", .ref D2)]) = H6 at S6 V6 X6 ⊢
    have B6 : But x H1 H6 := But.trans B5 S6
    have t6 := But.tup hx1 B6
    have d2_6 := V6 _ _ (ne_of eG2 XG6 fun z => nomatch z) eG2
    have p2_6 := bnds (But.tup XG6 V6) pb2
    have d1_6 := S6 _ _ (ne_of d1_5 X5 fun z => nomatch z) d1_5
    have p1_6 := bnds (But.tup X5 S6) p1_5
    have ps6 := rows2 t6 ps1
    have hs6 := t6 _ _ fit1.s
    refine ⟨_, rfl, as, rfl, ⟨vs2, SqT.of hs6⟩, fun D3 n3 => dc_it walk_tup (fun i G => Ex H6 G ∧ G D3 = some (.dK (mergeK [] (under ((W.ss.map (·.1)).take i) ((W.ss.map fun r => V.int r.2).take i))))) ⟨Ex.refl.new n3, upd_same⟩ (fun i G _ h => SqT.of (h.1 _ _ hs6)) ?_ ?_⟩
    · rintro i v _ G hi ⟨xG, eG⟩ ⟨rfl, hv⟩
      obtain ⟨⟨n, m⟩, hr, a, rfl, ha⟩ := Paired.spot ps6 hv
      have e : G a = some (.tup [.str n, .int m]) := xG _ _ ha
      have hn : (W.ss.map (·.1))[i]? = some n := by
        rw [List.getElem?_map, hr]
        rfl
      have hb : (W.ss.map fun r => V.int r.2)[i]? = some (.int m) := by
        rw [List.getElem?_map, hr]
        rfl
      have il : i < W.ss.length := (List.getElem?_eq_some_iff.mp hr).1
      have vl : ((W.ss.map fun r => V.int r.2).take i).length = i := by
        rw [List.length_take, List.length_map]
        omega
      refine ⟨a, _, rfl, SqT.of e, rfl, _, _, rfl, _, _, rfl, rfl, rfl, ?_⟩
      refine ⟨_, rfl, _, rfl, _, .inr n, rfl, eG, ?_, xG.put n3, ?_⟩
      · have m := merge_len (more := under ((W.ss.map (·.1)).take i) ((W.ss.map fun r => V.int r.2).take i)) (kvs := [])
        have m2 : (under ((W.ss.map (·.1)).take i) ((W.ss.map fun r => V.int r.2).take i)).length ≤ i := by
          unfold under
          rw [List.length_map, List.length_zip, vl]
          exact Nat.min_le_right _ _
        rw [List.length_nil] at m
        rw [sizeLine_eq]
        omega
      · rw [upd_same, List.take_succ (l := W.ss.map fun r => V.int r.2), hb]
        show _ = some (HO.dK (mergeK [] (under ((W.ss.map (·.1)).take (i + 1)) ((W.ss.map fun r => V.int r.2).take i ++ [.int m]))))
        rw [under_snoc hn vl, merge_snoc]
    rintro G3 ⟨xG3, eG3⟩
    rw [List.take_of_length_le (by rw [List.length_map]; omega), List.take_of_length_le (by rw [List.length_map]; omega)] at eG3
    refine ⟨_, rfl, x, C, dx, _, rfl, xG3 _ _ X6, c.cl, c.n7, (by decide : (6 : Nat) < 1000), ?_⟩
    show tSeq _ _ _ _ (upd G3 x (.ins C dx [("_machines", .ref am), ("_cleanings", .ref ac), ("_stuffs", .ref as), ("_products", .ref ap), ("_holds", .ref D1), ("_keeps", .ref D2), ("_limits", .ref D3)]))
    have S7 : But x H6 (upd G3 x (.ins C dx [("_machines", .ref am), ("_cleanings", .ref ac), ("_stuffs", .ref as), ("_products", .ref ap), ("_holds", .ref D1), ("_keeps", .ref D2), ("_limits", .ref D3)])) := But.trans (But.ex xG3) But.self
    have V7 : But x G3 (upd G3 x (.ins C dx [("_machines", .ref am), ("_cleanings", .ref ac), ("_stuffs", .ref as), ("_products", .ref ap), ("_holds", .ref D1), ("_keeps", .ref D2), ("_limits", .ref D3)])) := But.self
    have X7 : (upd G3 x (.ins C dx [("_machines", .ref am), ("_cleanings", .ref ac), ("_stuffs", .ref as), ("_products", .ref ap), ("_holds", .ref D1), ("_keeps", .ref D2), ("_limits", .ref D3)])) x = some (.ins C dx [("_machines", .ref am), ("_cleanings", .ref ac), ("_stuffs", .ref as), ("_products", .ref ap), ("_holds", .ref D1), ("_keeps", .ref D2), ("_limits", .ref D3)]) := upd_same
    have XG7 := xG3 _ _ X6
    generalize upd G3 x (.ins C dx [("_machines", .ref am), ("_cleanings", .ref ac), ("_stuffs", .ref as), ("_products", .ref ap), ("_holds", .ref D1), ("_keeps", .ref D2), ("_limits", .ref D3)]) = H7 at S7 V7 X7 ⊢
    have B7 : But x H1 H7 := But.trans B6 S7
    have t7 := But.tup hx1 B7
    have d3_7 := V7 _ _ (ne_of eG3 XG7 fun z => nomatch z) eG3
    have d1_7 := S7 _ _ (ne_of d1_6 X6 fun z => nomatch z) d1_6
    have p1_7 := bnds (But.tup X6 S7) p1_6
    have d2_7 := S7 _ _ (ne_of d2_6 X6 fun z => nomatch z) d2_6
    have p2_7 := bnds (But.tup X6 S7) p2_6
    have pp7 := rowsP t7 pp1
    have ps7 := rows2 t7 ps1
    have hs7 := t7 _ _ fit1.s
    have hp7 := t7 _ _ fit1.p
    have nm7 : ∀ {G : Hp}, Ex H7 G → Paired (Named G) vs2 (W.ss.map (·.1)) := fun {G} e => paired_map (L2.Paired.mapP ps7 fun v r z => by
      obtain ⟨a, e1, e2⟩ := z
      exact ⟨a, _, e1, e _ _ e2⟩)
    refine ⟨_, rfl, ap, rfl, ⟨vp, SqT.of hp7⟩, fun D4 n4 => dc_it walk_tup (fun i G => Ex H7 G ∧ ∃ vals : List V, vals.length = i ∧ Paired (CBn W D4 G) vals (W.ps.take i) ∧ G D4 = some (.dK (mergeK [] (under ((W.ps.map (·.1)).take i) vals)))) ⟨Ex.refl.new n4, [], rfl, .nil, upd_same⟩ (fun i G _ h => SqT.of (h.1 _ _ hp7)) ?_ ?_⟩
    · rintro i v _ G hi ⟨xG, vals, vl, pv, eG⟩ ⟨rfl, hv⟩
      obtain ⟨⟨n, bs⟩, hr, a, t, vb, rfl, ha, ht, pb⟩ := Paired.spot pp7 hv
      have hn : (W.ps.map (·.1))[i]? = some n := by
        rw [List.getElem?_map, hr]
        rfl
      have sm : bs.length = W.ss.length := same _ (List.mem_of_getElem? hr)
      have vbl : vb.length = bs.length := Paired.size pb
      refine ⟨a, _, rfl, SqT.of (xG _ _ ha), rfl, _, _, rfl, _, _, rfl, rfl, rfl, ?_⟩
      refine ⟨_, rfl, _, rfl, _, rfl, as, t, vs2, vb, W.ss.map (·.1), rfl, xG _ _ hs7, xG _ _ ht, nm7 xG, by omega, by omega, fun Dp G2 x2 nDp eDp => ?_⟩
      have eG2 := x2 _ _ eG
      have nD : Dp ≠ D4 := (ne_of_none eG nDp).symm
      refine ⟨_, .inr n, rfl, eG2, ?_, (xG.trans x2).put n4, vals ++ [.ref Dp], by rw [List.length_append, vl]; rfl, ?_, ?_⟩
      · have m := merge_len (more := under ((W.ps.map (·.1)).take i) vals) (kvs := [])
        have m2 : (under ((W.ps.map (·.1)).take i) vals).length ≤ i := by
          unfold under
          rw [List.length_map, List.length_zip, vl]
          exact Nat.min_le_right _ _
        rw [List.length_nil] at m
        rw [sizeLine_eq]
        omega
      · have tt : Tup G2 (upd G2 D4 (.dK (putK (mergeK [] (under ((W.ps.map (·.1)).take i) vals)) (.inr n) (.ref Dp)))) := fun b xs h => by
          rw [upd_ne (ne_of h eG2 fun z => nomatch z)]
          exact h
        rw [List.take_succ, hr]
        refine Paired.snoc (L2.Paired.mapP pv fun v p z => ?_) ⟨Dp, vb, rfl, nD, by rw [upd_ne nD]; exact eDp, bnds tt (bnds (Ex.tup (xG.trans x2)) pb)⟩
        obtain ⟨D0, ys, e1, e2, e3, e4⟩ := z
        exact ⟨D0, ys, e1, e2, by rw [upd_ne e2]; exact x2 _ _ e3, bnds tt (bnds (Ex.tup x2) e4)⟩
      · rw [upd_same, under_snoc hn vl, merge_snoc]
    rintro G4 ⟨xG4, b4, bl4, pb4, eG4⟩
    rw [List.take_of_length_le (by omega)] at pb4
    rw [List.take_of_length_le (by rw [List.length_map]; omega)] at eG4
    refine ⟨_, rfl, x, C, dx, _, rfl, xG4 _ _ X7, c.cl, c.n8, (by decide : (7 : Nat) < 1000), ?_⟩
    show tSeq _ _ _ _ (upd G4 x (.ins C dx [("_machines", .ref am), ("_cleanings", .ref ac), ("_stuffs", .ref as), ("_products", .ref ap), ("_holds", .ref D1), ("_keeps", .ref D2), ("_limits", .ref D3), ("_contents", .ref D4)]))
    have S8 : But x H7 (upd G4 x (.ins C dx [("_machines", .ref am), ("_cleanings", .ref ac), ("_stuffs", .ref as), ("_products", .ref ap), ("_holds", .ref D1), ("_keeps", .ref D2), ("_limits", .ref D3), ("_contents", .ref D4)])) := But.trans (But.ex xG4) But.self
    have V8 : But x G4 (upd G4 x (.ins C dx [("_machines", .ref am), ("_cleanings", .ref ac), ("_stuffs", .ref as), ("_products", .ref ap), ("_holds", .ref D1), ("_keeps", .ref D2), ("_limits", .ref D3), ("_contents", .ref D4)])) := But.self
    have X8 : (upd G4 x (.ins C dx [("_machines", .ref am), ("_cleanings", .ref ac), ("_stuffs", .ref as), ("_products", .ref ap), ("_holds", .ref D1), ("_keeps", .ref D2), ("_limits", .ref D3), ("_contents", .ref D4)])) x = some (.ins C dx [("_machines", .ref am), ("_cleanings", .ref ac), ("_stuffs", .ref as), ("_products", .ref ap), ("_holds", .ref D1), ("_keeps", .ref D2), ("_limits", .ref D3), ("_contents", .ref D4)]) := upd_same
    have XG8 := xG4 _ _ X7
    generalize upd G4 x (.ins C dx [("_machines", .ref am), ("_cleanings", .ref ac), ("_stuffs", .ref as), ("_products", .ref ap), ("_holds", .ref D1), ("_keeps", .ref D2), ("_limits", .ref D3), ("_contents", .ref D4)]) = H8 at S8 V8 X8 ⊢
    have B8 : But x H1 H8 := But.trans B7 S8
    have t8 := But.tup hx1 B8
    have d4_8 := V8 _ _ (ne_of eG4 XG8 fun z => nomatch z) eG4
    have p4_8 : Paired (CBn W D4 H8) b4 W.ps := L2.Paired.mapP pb4 fun v p z => CBn.but XG8 V8 z
    have d3_8 := S8 _ _ (ne_of d3_7 X7 fun z => nomatch z) d3_7
    have d1_8 := S8 _ _ (ne_of d1_7 X7 fun z => nomatch z) d1_7
    have p1_8 := bnds (But.tup X7 S8) p1_7
    have d2_8 := S8 _ _ (ne_of d2_7 X7 fun z => nomatch z) d2_7
    have p2_8 := bnds (But.tup X7 S8) p2_7
    refine ⟨_, rfl, _, rfl, _, rfl, _, rfl, am, ac, as, ap, vm, vc, vs2, vp, W, rfl, t8 _ _ fit1.m, t8 _ _ fit1.c, t8 _ _ fit1.s, t8 _ _ fit1.p, rows3 t8 pm1, rows3 t8 pc1, rows2 t8 ps1, rowsP t8 pp1, T1, fun G5 xG5 => ?_⟩
    refine ⟨_, rfl, x, C, dx, _, rfl, xG5 _ _ X8, c.cl, c.n9, (by decide : (8 : Nat) < 1000), ?_⟩
    show Q .non (upd G5 x (.ins C dx [("_machines", .ref am), ("_cleanings", .ref ac), ("_stuffs", .ref as), ("_products", .ref ap), ("_holds", .ref D1), ("_keeps", .ref D2), ("_limits", .ref D3), ("_contents", .ref D4), ("_text", .str (wtext W))]))
    have S9 : But x H8 (upd G5 x (.ins C dx [("_machines", .ref am), ("_cleanings", .ref ac), ("_stuffs", .ref as), ("_products", .ref ap), ("_holds", .ref D1), ("_keeps", .ref D2), ("_limits", .ref D3), ("_contents", .ref D4), ("_text", .str (wtext W))])) := But.trans (But.ex xG5) But.self
    have V9 : But x G5 (upd G5 x (.ins C dx [("_machines", .ref am), ("_cleanings", .ref ac), ("_stuffs", .ref as), ("_products", .ref ap), ("_holds", .ref D1), ("_keeps", .ref D2), ("_limits", .ref D3), ("_contents", .ref D4), ("_text", .str (wtext W))])) := But.self
    have X9 : (upd G5 x (.ins C dx [("_machines", .ref am), ("_cleanings", .ref ac), ("_stuffs", .ref as), ("_products", .ref ap), ("_holds", .ref D1), ("_keeps", .ref D2), ("_limits", .ref D3), ("_contents", .ref D4), ("_text", .str (wtext W))])) x = some (.ins C dx [("_machines", .ref am), ("_cleanings", .ref ac), ("_stuffs", .ref as), ("_products", .ref ap), ("_holds", .ref D1), ("_keeps", .ref D2), ("_limits", .ref D3), ("_contents", .ref D4), ("_text", .str (wtext W))]) := upd_same
    have XG9 := xG5 _ _ X8
    generalize upd G5 x (.ins C dx [("_machines", .ref am), ("_cleanings", .ref ac), ("_stuffs", .ref as), ("_products", .ref ap), ("_holds", .ref D1), ("_keeps", .ref D2), ("_limits", .ref D3), ("_contents", .ref D4), ("_text", .str (wtext W))]) = H9 at S9 V9 X9 ⊢
    have B9 : But x H1 H9 := But.trans B8 S9
    have t9 := But.tup hx1 B9
    have d4_9 := S9 _ _ (ne_of d4_8 X8 fun z => nomatch z) d4_8
    have p4_9 : Paired (CBn W D4 H9) b4 W.ps := L2.Paired.mapP p4_8 fun v p z => CBn.but X8 S9 z
    have d3_9 := S9 _ _ (ne_of d3_8 X8 fun z => nomatch z) d3_8
    have d1_9 := S9 _ _ (ne_of d1_8 X8 fun z => nomatch z) d1_8
    have p1_9 := bnds (But.tup X8 S9) p1_8
    have d2_9 := S9 _ _ (ne_of d2_8 X8 fun z => nomatch z) d2_8
    have p2_9 := bnds (But.tup X8 S9) p2_8
    exact q H9 (fun b o n e nt => B9 b o n (x1 b o e nt)) (TabsN.but hx1 B9 tabs1) ⟨dx, D1, D2, D3, D4, b1, b2, b4, X9, ⟨d1_9, p1_9⟩, ⟨d2_9, p2_9⟩, d3_9, d4_9, L2.Paired.mapP p4_9 fun v p z => by
      obtain ⟨D0, ys, e1, _, e3, e4⟩ := z
      exact ⟨D0, ys, e1, e3, e4⟩⟩
end
end LJ
set_option Elab.async false
set_option linter.all false
set_option maxRecDepth 100000
set_option maxHeartbeats 8000000
namespace LJ
open PySem PySem.Spec L2
/-! A drawn world fits. -/
theorem menu_w : ∀ x ∈ menu, isW x = true := by decide +kernel
theorem menu_8 : ∀ x ∈ menu, x.length ≤ 8 := by decide +kernel
theorem fwAt_none {R : V → Bool} {nm : V → Str} {most : Int} : ∀ {xs : List V} {tk : List Str} {i : Nat}, (∀ v ∈ xs, R v = true) → (i : Int) + xs.length ≤ most → (tk ++ xs.map nm).Nodup → fwAt R nm most tk i xs = none
  | [], _, _, _, _, _ => by
    unfold fwAt
    rfl
  | v :: xs, tk, i, hR, l, nd => by
    rw [List.length_cons] at l
    have nin : nm v ∉ tk := fun z => by
      rw [List.map_cons] at nd
      exact (List.nodup_append.mp nd).2.2 _ z _ (List.mem_cons_self ..) rfl
    have t := fwAt_none (R := R) (nm := nm) (most := most) (xs := xs) (tk := tk ++ [nm v]) (i := i + 1) (fun y hy => hR y (List.mem_cons_of_mem _ hy)) (by omega) (by rw [List.append_assoc]; exact nd)
    unfold fwAt
    rw [if_neg (by omega), if_neg (by rw [hR v (List.mem_cons_self ..)]; decide), if_neg nin, t]
theorem paired_mem {α β : Type} {F : α → β → Prop} : ∀ {xs : List α} {ys : List β}, Paired F xs ys → ∀ x ∈ xs, ∃ y ∈ ys, F x y
  | _, _, .nil, _, h => nomatch h
  | _, _, .cons f t, x, h => by
    rcases List.mem_cons.mp h with rfl | h
    · exact ⟨_, List.mem_cons_self .., f⟩
    · obtain ⟨y, hy, g⟩ := paired_mem t x h
      exact ⟨y, List.mem_cons_of_mem _ hy, g⟩
theorem paired_nm {α : Type} {F : V → α → Prop} {nm : V → Str} {g : α → Str} (h : ∀ v r, F v r → nm v = g r) : ∀ {xs : List V} {ys : List α}, Paired F xs ys → xs.map nm = ys.map g
  | _, _, .nil => rfl
  | _, _, .cons f t => by rw [List.map_cons, List.map_cons, h _ _ f, paired_nm h t]
section
variable {K : PySem.W.Frag} {H : Hp}
theorem kn_tup {a : Addr} {xs : List V} (h : H a = some (.tup xs)) (l : xs.length ≤ 1000) : Kn K H (.ref a) := .tup h (by rw [sizeLine_eq]; omega)
theorem kn_str {n : Str} (l : n.length ≤ 8) : Kn K H (.str n) := .str n (by rw [sizeLine_eq]; omega)
theorem deep_tup {n : Nat} {a : Addr} {xs : List V} (h : H a = some (.tup xs)) (l : xs.length ≤ 1000) (d : ∀ y ∈ xs, Deep K H n y) : Deep K H (n + 1) (.ref a) := ⟨kn_tup h l, fun ys e y hy => by
  rw [tup_at h] at e
  cases e
  exact d y hy⟩
theorem row3_deep {v : V} {r : Str × Int × Int} (h : Row3 H v r) (l : r.1.length ≤ 8) : Deep K H 1 v := by
  obtain ⟨a, rfl, e⟩ := h
  refine deep_tup e (by decide : 3 ≤ 1000) fun y hy => ?_
  simp only [List.mem_cons, List.not_mem_nil, or_false] at hy
  rcases hy with rfl | rfl | rfl
  · exact kn_str l
  · exact .int _
  · exact .int _
theorem row2_deep {v : V} {r : Str × Int} (h : Row2 H v r) (l : r.1.length ≤ 8) : Deep K H 1 v := by
  obtain ⟨a, rfl, e⟩ := h
  refine deep_tup e (by decide : 2 ≤ 1000) fun y hy => ?_
  simp only [List.mem_cons, List.not_mem_nil, or_false] at hy
  rcases hy with rfl | rfl
  · exact kn_str l
  · exact .int _
theorem int_deep {i : Int} : ∀ {n : Nat}, Deep K H n (.int i)
  | 0 => Kn.int i
  | n + 1 => ⟨.int i, fun _ e => nomatch e⟩
theorem str_deep {s : Str} (l : s.length ≤ 8) : ∀ {n : Nat}, Deep K H n (.str s)
  | 0 => kn_str l
  | n + 1 => ⟨kn_str l, fun _ e => nomatch e⟩
theorem bnd_deep {v : V} {b : Int × Int} (h : Bnd H v b) : Deep K H 1 v := by
  obtain ⟨a, rfl, e⟩ := h
  refine deep_tup e (by decide : 2 ≤ 1000) fun y hy => ?_
  simp only [List.mem_cons, List.not_mem_nil, or_false] at hy
  rcases hy with rfl | rfl <;> exact int_deep
theorem rowP_deep {v : V} {r : Str × List (Int × Int)} (h : RowP H v r) (l : r.1.length ≤ 8) (l2 : r.2.length ≤ 100) : Deep K H 3 v := by
  obtain ⟨a, t, vs, rfl, e, et, p⟩ := h
  have vl : vs.length = r.2.length := Paired.size p
  refine deep_tup e (by decide : 2 ≤ 1000) fun y hy => ?_
  simp only [List.mem_cons, List.not_mem_nil, or_false] at hy
  rcases hy with rfl | rfl
  · exact str_deep l
  · refine deep_tup et (by omega) fun z hz => ?_
    obtain ⟨b, _, hb⟩ := paired_mem p z hz
    exact bnd_deep hb
theorem row3_name {v : V} {r : Str × Int × Int} (h : Row3 H v r) : nameOf H v = r.1 := by
  obtain ⟨a, rfl, e⟩ := h
  unfold nameOf
  rw [tup_at e]
theorem row2_name {v : V} {r : Str × Int} (h : Row2 H v r) : nameOf H v = r.1 := by
  obtain ⟨a, rfl, e⟩ := h
  unfold nameOf
  rw [tup_at e]
theorem rowP_name {v : V} {r : Str × List (Int × Int)} (h : RowP H v r) : nameOf H v = r.1 := by
  obtain ⟨a, t, vs, rfl, e, _⟩ := h
  unfold nameOf
  rw [tup_at e]
theorem row3_right {v : V} {r : Str × Int × Int} (h : Row3 H v r) (w : isW r.1 = true) (b0 : 0 ≤ r.2.1) (b1 : r.2.1 ≤ r.2.2) (b2 : r.2.2 ≤ 1000) : onTup sharesOf H v = true := by
  obtain ⟨a, rfl, e⟩ := h
  unfold onTup
  rw [tup_at e]
  show (isW r.1 && (decide (0 ≤ r.2.1) && (decide (r.2.1 ≤ r.2.2) && decide (r.2.2 ≤ 1000)))) = true
  rw [w, decide_eq_true b0, decide_eq_true b1, decide_eq_true b2]
  rfl
theorem row2_right {v : V} {r : Str × Int} (h : Row2 H v r) (w : isW r.1 = true) (b0 : 0 ≤ r.2) (b1 : r.2 ≤ 1000000000000) : onTup limOf H v = true := by
  obtain ⟨a, rfl, e⟩ := h
  unfold onTup
  rw [tup_at e]
  show (isW r.1 && (decide (0 ≤ r.2) && decide (r.2 ≤ top12))) = true
  rw [w, decide_eq_true b0, decide_eq_true (show r.2 ≤ top12 from b1)]
  rfl
theorem rowP_right {v : V} {r : Str × List (Int × Int)} {m : Int} (h : RowP H v r) (w : isW r.1 = true) (l : (r.2.length : Int) = m) (b : ∀ x ∈ r.2, Small x) : onTup (contOf H m) H v = true := by
  obtain ⟨a, t, vs, rfl, e, et, p⟩ := h
  have vl : vs.length = r.2.length := Paired.size p
  unfold onTup
  rw [tup_at e]
  show (isW r.1 && pairsOf H m (tupOf H (.ref t))) = true
  rw [w, tup_at et]
  show (true && (decide ((vs.length : Int) = m) && vs.all fun y => isBnd H y top12)) = true
  rw [decide_eq_true (by rw [vl]; exact l), Bool.true_and, Bool.true_and, List.all_eq_true]
  intro y hy
  obtain ⟨x, hx, b1, rfl, b2⟩ := paired_mem p y hy
  obtain ⟨s1, s2, s3⟩ := b x hx
  unfold isBnd
  rw [tup_at b2]
  show (decide (0 ≤ x.1) && (decide (x.1 ≤ x.2) && decide (x.2 ≤ top12))) = true
  rw [decide_eq_true s1, decide_eq_true s2, decide_eq_true (show x.2 ≤ top12 from s3)]
  rfl
theorem good_fit {am ac as ap : Addr} {vm vc vs2 vp : List V} {W : Wd} (g : Good W) (hm : H am = some (.tup vm)) (hc : H ac = some (.tup vc)) (hs : H as = some (.tup vs2)) (hp : H ap = some (.tup vp))
    (pm : Paired (Row3 H) vm W.ms) (pc : Paired (Row3 H) vc W.cs) (ps : Paired (Row2 H) vs2 W.ss) (pp : Paired (RowP H) vp W.ps) : Fit K H am ac as ap vm vc vs2 vp := by
  have l1 : vm.length = W.ms.length := Paired.size pm
  have l2 : vc.length = W.cs.length := Paired.size pc
  have l3 : vs2.length = W.ss.length := Paired.size ps
  have l4 : vp.length = W.ps.length := Paired.size pp
  have g1 := g.m1
  have g2 := g.m2
  have g3 := g.c2
  have g4 := g.s1
  have g5 := g.s2
  have g6 := g.p1
  have g7 := g.p2
  have im : ∀ r ∈ W.ms, r.1 ∈ menu := fun r hr => g.nm _ (List.mem_append_left _ (List.mem_map_of_mem hr))
  have ic : ∀ r ∈ W.cs, r.1 ∈ menu := fun r hr => g.nm _ (List.mem_append_right _ (List.mem_append_left _ (List.mem_map_of_mem hr)))
  have is : ∀ r ∈ W.ss, r.1 ∈ menu := fun r hr => g.nm _ (List.mem_append_right _ (List.mem_append_right _ (List.mem_append_left _ (List.mem_map_of_mem hr))))
  have ip : ∀ r ∈ W.ps, r.1 ∈ menu := fun r hr => g.nm _ (List.mem_append_right _ (List.mem_append_right _ (List.mem_append_right _ (List.mem_map_of_mem hr))))
  have em : vm.map (nameOf H) = W.ms.map (·.1) := paired_nm (fun v r h => row3_name h) pm
  have ec : vc.map (nameOf H) = W.cs.map (·.1) := paired_nm (fun v r h => row3_name h) pc
  have es : vs2.map (nameOf H) = W.ss.map (·.1) := paired_nm (fun v r h => row2_name h) ps
  have ep : vp.map (nameOf H) = W.ps.map (·.1) := paired_nm (fun v r h => rowP_name h) pp
  have nd := g.nd
  have nd3 : ((W.ms.map (·.1) ++ W.cs.map (·.1)) ++ W.ss.map (·.1) ++ W.ps.map (·.1)).Nodup := by
    rw [List.append_assoc, List.append_assoc]
    exact nd
  have nd2 : ((W.ms.map (·.1) ++ W.cs.map (·.1)) ++ W.ss.map (·.1)).Nodup := (List.nodup_append.mp nd3).1
  have nd1 : (W.ms.map (·.1) ++ W.cs.map (·.1)).Nodup := (List.nodup_append.mp nd2).1
  have nd0 : (W.ms.map (·.1)).Nodup := (List.nodup_append.mp nd1).1
  refine ⟨hm, hc, hs, hp, deep_tup hm (by omega) fun v hv => ?_, deep_tup hc (by omega) fun v hv => ?_, deep_tup hs (by omega) fun v hv => ?_, deep_tup hp (by omega) fun v hv => ?_, by omega, by omega, by omega, ?_, ?_, ?_, ?_⟩
  · obtain ⟨r, hr, h⟩ := paired_mem pm v hv
    exact row3_deep h (menu_8 _ (im r hr))
  · obtain ⟨r, hr, h⟩ := paired_mem pc v hv
    exact row3_deep h (menu_8 _ (ic r hr))
  · obtain ⟨r, hr, h⟩ := paired_mem ps v hv
    exact row2_deep h (menu_8 _ (is r hr))
  · obtain ⟨r, hr, h⟩ := paired_mem pp v hv
    exact rowP_deep h (menu_8 _ (ip r hr)) (by have := (g.pb r hr).1; omega)
  · refine fwAt_none (fun v hv => ?_) (by omega) (by rw [em]; exact nd0)
    obtain ⟨r, hr, h⟩ := paired_mem pm v hv
    obtain ⟨a, b, c⟩ := g.mb r hr
    exact row3_right h (menu_w _ (im r hr)) a b c
  · refine fwAt_none (fun v hv => ?_) (by omega) (by rw [em, ec]; exact nd1)
    obtain ⟨r, hr, h⟩ := paired_mem pc v hv
    obtain ⟨a, b, c⟩ := g.cb r hr
    exact row3_right h (menu_w _ (ic r hr)) a b c
  · refine fwAt_none (fun v hv => ?_) (by omega) (by rw [List.map_append, em, ec, es]; exact nd2)
    obtain ⟨r, hr, h⟩ := paired_mem ps v hv
    obtain ⟨a, b⟩ := g.sb r hr
    exact row2_right h (menu_w _ (is r hr)) a b
  · refine fwAt_none (fun v hv => ?_) (by omega) (by rw [List.map_append, List.map_append, em, ec, es, ep]; exact nd3)
    obtain ⟨r, hr, h⟩ := paired_mem pp v hv
    obtain ⟨a, b⟩ := g.pb r hr
    exact rowP_right h (menu_w _ (ip r hr)) (by omega) b
theorem good_told {W : Wd} (g : Good W) : Told W := by
  have g2 := g.m2
  have g3 := g.c2
  have g5 := g.s2
  have g7 := g.p2
  refine ⟨by omega, by omega, by omega, by omega, fun r hr => ?_, fun r hr => ?_, fun r hr => ?_, fun r hr => ?_⟩
  · obtain ⟨a, b, c⟩ := g.mb r hr
    exact ⟨menu_8 _ (g.nm _ (List.mem_append_left _ (List.mem_map_of_mem hr))), a, b, by omega⟩
  · obtain ⟨a, b, c⟩ := g.cb r hr
    exact ⟨menu_8 _ (g.nm _ (List.mem_append_right _ (List.mem_append_left _ (List.mem_map_of_mem hr)))), a, b, by omega⟩
  · obtain ⟨a, b⟩ := g.sb r hr
    exact ⟨menu_8 _ (g.nm _ (List.mem_append_right _ (List.mem_append_right _ (List.mem_append_left _ (List.mem_map_of_mem hr))))), a, b⟩
  · obtain ⟨a, b⟩ := g.pb r hr
    exact ⟨menu_8 _ (g.nm _ (List.mem_append_right _ (List.mem_append_right _ (List.mem_append_right _ (List.mem_map_of_mem hr))))), by omega, b⟩
end
end LJ
set_option Elab.async false
set_option linter.all false
set_option maxRecDepth 100000
set_option maxHeartbeats 8000000
namespace LJ
open PySem PySem.Spec L2
abbrev sPair : Stmt := top 39
abbrev hy : Str := Str.ofString "-"
def spPair : Sp := fun vs H Q _ => ∃ z : Str, vs = [.str z] ∧ z.length ≤ 600 ∧ (∀ p ∈ Txt.split z hy, p.length ≤ 600) ∧ ∀ p H1, Ex H H1 → H p = none → H1 p = some (.tup ((Txt.split z hy).map fun w => optI (rdN w))) → Q (.ref p) H1
theorem split_len2 (z y : Str) : (Txt.split z y).length ≤ z.length + 2 := PyProof.Rows.split_le z y
section
variable {P : Program} {w : World} {K : PySem.W.Frag} {mg : Str → Option Value} {base : Heap}
theorem scPair : FnScope ["word", "part"] ["word"] (defScope sPair) := ⟨rfl, rfl, rfl, by decide +kernel, rfl, by decide +kernel, by decide +kernel⟩
theorem ok_pair {f fN : Addr} {fd fdN : FuncData} (F : Fun K "_read_pair" "_read_pair" sPair f fd) (BT : mg "tuple" = none)
    (GN : FnOk P w K mg base CX0 1 fN fdN ["word"] spNum) (mN : mg "read_number" = some (.ref fN)) (kN : PySem.W.keepIn K (.ref fN) = true) (bN : Binds K fdN ["word"] []) : FnOk P w K mg base CX0 2 f fd ["word"] spPair := by
  refine F.ok scPair (fun vs H Q E h => ?_) (fun cdv A outer s H vs Q E hr h => ?_)
  · obtain ⟨z, rfl, _⟩ := h
    rfl
  · obtain ⟨z, rfl, zl, pl, q⟩ := h
    refine ⟨_, pss_one (ps_ret (pe_tupleOf (by rfl) BT (pe_lc (own := [("part", 1)]) (g := gName 1) (te := tCall spNum [] E0 (tCons (tVar 1) tNil)) (by rfl) scPair.nd (pi_list (pe_split (pv 0) pe_str)) (blkOk_by (own := [("part", 1)]) (N := ["word", "part"]) (sc := defScope sPair) (by decide +kernel))
      (fun _ _ _ _ _ => pg_name (i := 1) scPair.nd rfl (Or.inl rfl)) (fun _ _ _ _ _ => pts_nil) (fun _ _ _ _ _ => pe_call GN hr (by rfl) mN kN bN .nil pass0 (pa_cons (pv 1) pa_nil))))), ?_⟩
    have sz := sizeLine_eq
    have sl := split_len2 z hy
    refine ⟨_, rfl, ⟨_, rfl⟩, _, _, rfl, rfl, by decide +kernel, by omega, fun L nL => ?_⟩
    have x1 : Ex H (upd H L (.lst ((Txt.split z hy).map V.str))) := Ex.refl.new nL
    have e1 : (upd H L (.lst ((Txt.split z hy).map V.str))) L = some (.lst ((Txt.split z hy).map V.str)) := upd_same
    show _
    generalize upd H L (.lst ((Txt.split z hy).map V.str)) = H1 at x1 e1 ⊢
    refine ⟨L, rfl, ⟨_, SqL.of e1⟩, fun D hD => lc_list (K := K) (a := L) (xs := (Txt.split z hy).map V.str) (fun i G => Ex H1 G ∧ G D = some (.lst (((Txt.split z hy).take i).map fun w => optI (rdN w)))) ⟨Ex.refl.new hD, upd_same⟩ (fun i G _ h => SqL.of (h.1 _ _ e1)) ?_ ?_⟩
    · rintro i v G hv ⟨xG, eG⟩
      rw [List.getElem?_map] at hv
      obtain ⟨p, hp, rfl⟩ := Option.map_eq_some_iff.mp hv
      have hm := List.mem_of_getElem? hp
      have li : i < (Txt.split z hy).length := (List.getElem?_eq_some_iff.mp hp).1
      refine ⟨rfl, _, rfl, p, rfl, pl p hm, fun G2 x2 => ⟨_, x2 _ _ eG, ?_, (xG.trans x2).put hD, ?_⟩⟩
      · rw [List.length_map, List.length_take]
        omega
      · rw [upd_same, List.take_succ, hp, List.map_append]
        rfl
    · rintro G ⟨xG, eG⟩
      rw [List.length_map, List.take_of_length_le (Nat.le_refl _)] at eG
      refine .inl ⟨D, _, rfl, SqL.of eG, fun t nt => ?_⟩
      have hn : H t = none := x1.gone (xG.gone nt)
      exact q t _ (x1.trans (xG.trans (Ex.refl.new nt))) hn upd_same
end
end LJ
set_option Elab.async false
set_option linter.all false
set_option maxRecDepth 100000
set_option maxHeartbeats 8000000
namespace LJ
open PySem PySem.Spec L2
abbrev sRow : Stmt := top 38
theorem cut_take1 (xs : List V) : cutV xs none (some 1) = xs.take 1 := by
  unfold cutV HT.sIx
  cases xs with
  | nil => rfl
  | cons a r =>
    show List.take (min (1 : Int).toNat (r.length + 1) - 0) (List.drop 0 (a :: r)) = _
    rw [show (1 : Int).toNat = 1 from rfl, Nat.min_eq_left (by omega)]
    rfl
theorem cut_drop1 (xs : List V) : cutV xs (some 1) none = xs.drop 1 := by
  unfold cutV HT.sIx
  cases xs with
  | nil => rfl
  | cons a r =>
    show List.take (r.length + 1 - min (1 : Int).toNat (r.length + 1)) (List.drop (min (1 : Int).toNat (r.length + 1)) (a :: r)) = _
    rw [show (1 : Int).toNat = 1 from rfl, Nat.min_eq_left (by omega)]
    show List.take (r.length + 1 - 1) r = r
    exact List.take_of_length_le (by omega)
def PairAt (H : Hp) (v : V) (z : Str) : Prop := ∃ a, v = .ref a ∧ H a = some (.tup ((Txt.split z hy).map fun p => optI (rdN p)))
theorem PairAt.ex {H H1 : Hp} {v : V} {z : Str} (e : Ex H H1) (h : PairAt H v z) : PairAt H1 v z := by
  obtain ⟨a, h1, h2⟩ := h
  exact ⟨a, h1, e _ _ h2⟩
def numsOf (zs : List Str) : List V := zs.map fun p => optI (rdN p)
/-- words that are short, with their parts -/
def Short (z : Str) : Prop := z.length ≤ 600 ∧ ∀ p ∈ Txt.split z hy, p.length ≤ 600
def spRd : Sp := fun vs H Q _ => ∃ (k : Str) (a : Addr) (zs : List Str), vs = [.str k, .ref a] ∧ H a = some (.lst (zs.map V.str)) ∧ zs.length ≤ 100000 ∧ (∀ z ∈ zs, Short z) ∧
  (k = kP → ∀ (t b : Addr) (vals : List V) (H1 : Hp), Ex H H1 → H b = none → H1 b = some (.tup ((zs.take 1).map V.str ++ [.ref t])) → H1 t = some (.tup vals) → Paired (PairAt H1) vals (zs.drop 1) → Q (.ref b) H1) ∧
  (k ≠ kP → ∀ (b : Addr) (H1 : Hp), Ex H H1 → H b = none → H1 b = some (.tup ((zs.take 1).map V.str ++ numsOf (zs.drop 1))) → Q (.ref b) H1)
section
variable {P : Program} {w : World} {K : PySem.W.Frag} {mg : Str → Option Value} {base : Heap}
theorem scRd : FnScope ["kind", "words", "word"] ["kind", "words"] (defScope sRow) := ⟨rfl, rfl, rfl, by decide +kernel, rfl, by decide +kernel, by decide +kernel⟩
theorem ok_row {f fN fP : Addr} {fd fdN fdP : FuncData} (F : Fun K "_read_row" "_read_row" sRow f fd) (BT : mg "tuple" = none)
    (GN : FnOk P w K mg base CX0 1 fN fdN ["word"] spNum) (mN : mg "read_number" = some (.ref fN)) (kN : PySem.W.keepIn K (.ref fN) = true) (bN : Binds K fdN ["word"] [])
    (GP : FnOk P w K mg base CX0 2 fP fdP ["word"] spPair) (mP : mg "_read_pair" = some (.ref fP)) (kPP : PySem.W.keepIn K (.ref fP) = true) (bP : Binds K fdP ["word"] []) : FnOk P w K mg base CX0 3 f fd ["kind", "words"] spRd := by
  refine F.ok scRd (fun vs H Q E h => ?_) (fun cdv A outer s H vs Q E hr h => ?_)
  · obtain ⟨k, a, zs, rfl, _⟩ := h
    rfl
  · obtain ⟨k, a, zs, rfl, ha, zl, sh, q1, q2⟩ := h
    have hr1 : Room 1 _ := hr.mono (by decide)
    refine ⟨_, pss_cons (ps_if (pt_cmpR op_eq (pv 0) pe_str (nomark _)) (pss_one (ps_ret (pe_tupleOf (by rfl) BT (pe_op op_cat (pe_slice sl_list (pv 1) po_none (po_some pe_int)) (pe_lst (pa_cons (pe_tupleOf (by rfl) BT
        (pe_lc (own := [("word", 2)]) (g := gName 2) (te := tCall spPair [] E0 (tCons (tVar 2) tNil)) (by rfl) scRd.nd (pi_list (pe_slice sl_list (pv 1) (po_some pe_int) po_none)) (blkOk_by (own := [("word", 2)]) (N := ["kind", "words", "word"]) (sc := defScope sRow) (by decide +kernel))
      (fun _ _ _ _ _ => pg_name (i := 2) scRd.nd rfl (Or.inl rfl)) (fun _ _ _ _ _ => pts_nil) (fun _ _ _ _ _ => pe_call GP hr (by rfl) mP kPP bP .nil pass0 (pa_cons (pv 2) pa_nil)))) pa_nil)))))) pss_nil)
      (pss_one (ps_ret (pe_tupleOf (by rfl) BT (pe_op op_cat (pe_slice sl_list (pv 1) po_none (po_some pe_int))
        (pe_lc (own := [("word", 2)]) (g := gName 2) (te := tCall spNum [] E0 (tCons (tVar 2) tNil)) (by rfl) scRd.nd (pi_list (pe_slice sl_list (pv 1) (po_some pe_int) po_none)) (blkOk_by (own := [("word", 2)]) (N := ["kind", "words", "word"]) (sc := defScope sRow) (by decide +kernel))
      (fun _ _ _ _ _ => pg_name (i := 2) scRd.nd rfl (Or.inl rfl)) (fun _ _ _ _ _ => pts_nil) (fun _ _ _ _ _ => pe_call GN hr1 (by rfl) mN kN bN .nil pass0 (pa_cons (pv 2) pa_nil))))))), ?_⟩
    have sz := sizeLine_eq
    refine ⟨_, rfl, rfl, _, rfl, ?_⟩
    have dm : ∀ z ∈ zs.drop 1, z ∈ zs := fun z hz => List.mem_of_mem_drop hz
    have dl : (zs.drop 1).length ≤ 100000 := by rw [List.length_drop]; omega
    refine ite2 (fun c1 => ?_) (fun c1 => ?_)
    · have ek : k = kP := V.str.inj (of_decide_eq_true c1)
      refine ⟨_, rfl, 1, rfl, a, _, rfl, SqL.of ha, fun p1 n1 => ?_⟩
      rw [cut_take1, ← List.map_take]
      have x1 : Ex H (upd H p1 (.lst ((zs.take 1).map V.str))) := Ex.refl.new n1
      have e1 : (upd H p1 (.lst ((zs.take 1).map V.str))) p1 = some (.lst ((zs.take 1).map V.str)) := upd_same
      generalize upd H p1 (.lst ((zs.take 1).map V.str)) = H1 at x1 e1 ⊢
      refine ⟨_, rfl, 1, rfl, a, _, rfl, SqL.of (x1 _ _ ha), fun p2 n2 => ?_⟩
      rw [cut_drop1, ← List.map_drop]
      have x2 : Ex H1 (upd H1 p2 (.lst ((zs.drop 1).map V.str))) := Ex.refl.new n2
      have e2 : (upd H1 p2 (.lst ((zs.drop 1).map V.str))) p2 = some (.lst ((zs.drop 1).map V.str)) := upd_same
      generalize upd H1 p2 (.lst ((zs.drop 1).map V.str)) = H2 at x2 e2 ⊢
      refine ⟨p2, rfl, ⟨_, SqL.of e2⟩, fun D hD => lc_list (K := K) (a := p2) (xs := (zs.drop 1).map V.str) (fun i G => Ex H2 G ∧ ∃ vals, G D = some (.lst vals) ∧ Paired (PairAt G) vals ((zs.drop 1).take i)) ⟨Ex.refl.new hD, [], upd_same, .nil⟩ (fun i G _ h => SqL.of (h.1 _ _ e2)) ?_ ?_⟩
      · rintro i v G hv ⟨xG, vals, eG, pG⟩
        rw [List.getElem?_map] at hv
        obtain ⟨z, hz, rfl⟩ := Option.map_eq_some_iff.mp hv
        have hm := dm z (List.mem_of_getElem? hz)
        have li : i < (zs.drop 1).length := (List.getElem?_eq_some_iff.mp hz).1
        have vl := Paired.size pG
        rw [List.length_take] at vl
        refine ⟨rfl, _, rfl, z, rfl, (sh z hm).1, (sh z hm).2, fun p G2 xG2 np eP => ⟨_, xG2 _ _ eG, by omega, (xG.trans xG2).put hD, vals ++ [.ref p], upd_same, ?_⟩⟩
        rw [List.take_succ, hz]
        have x3 : Ex G2 (upd G2 D (.lst (vals ++ [.ref p]))) → True := fun _ => trivial
        have far : ∀ b xs, G2 b = some (.tup xs) → (upd G2 D (.lst (vals ++ [.ref p]))) b = some (.tup xs) := fun b xs e => by
          rw [upd_ne (ne_of e (xG2 _ _ eG) fun z => nomatch z)]
          exact e
        refine Paired.snoc (L2.Paired.mapP pG fun v z h => ?_) ⟨p, rfl, far _ _ eP⟩
        obtain ⟨b, h1, h2⟩ := h
        exact ⟨b, h1, far _ _ (xG2 _ _ h2)⟩
      · rintro G ⟨xG, vals, eG, pG⟩
        rw [List.length_map, List.take_of_length_le (Nat.le_refl _)] at pG
        have vl := Paired.size pG
        refine .inl ⟨D, _, rfl, SqL.of eG, fun t nt => ?_⟩
        have x3 : Ex G (upd G t (.tup vals)) := Ex.refl.new nt
        have e3 : (upd G t (.tup vals)) t = some (.tup vals) := upd_same
        generalize upd G t (.tup vals) = G1 at x3 e3 ⊢
        refine ⟨by rw [sz]; show 1 ≤ 16777216; decide, fun l nl => ?_⟩
        have x4 : Ex G1 (upd G1 l (.lst [.ref t])) := Ex.refl.new nl
        have e4 : (upd G1 l (.lst [.ref t])) l = some (.lst [.ref t]) := upd_same
        generalize upd G1 l (.lst [.ref t]) = G2 at x4 e4 ⊢
        have y4 := x2.trans (xG.trans (x3.trans x4))
        refine ⟨p1, l, _, _, rfl, rfl, y4 _ _ e1, e4, by rw [List.length_map, List.length_take, sz]; simp; omega, fun l2 nl2 => ?_⟩
        refine .inl ⟨l2, _, rfl, SqL.of upd_same, fun b nb => ?_⟩
        have x5 : Ex G2 (upd (upd G2 l2 (.lst ((zs.take 1).map V.str ++ [.ref t]))) b (.tup ((zs.take 1).map V.str ++ [.ref t]))) := (Ex.refl.new nl2).trans (Ex.refl.new nb)
        have e5 : (upd (upd G2 l2 (.lst ((zs.take 1).map V.str ++ [.ref t]))) b (.tup ((zs.take 1).map V.str ++ [.ref t]))) b = some (.tup ((zs.take 1).map V.str ++ [.ref t])) := upd_same
        have hb : H b = none := x1.gone (y4.gone ((Ex.refl.new nl2).gone nb))
        generalize upd (upd G2 l2 (.lst ((zs.take 1).map V.str ++ [.ref t]))) b (.tup ((zs.take 1).map V.str ++ [.ref t])) = G3 at x5 e5 ⊢
        exact q1 ek t b vals G3 (x1.trans (y4.trans x5)) hb e5 (x5 _ _ (x4 _ _ e3)) (L2.Paired.mapP pG fun v z h => h.ex (x3.trans (x4.trans x5)))
    · have ek : k ≠ kP := fun z => c1 (decide_eq_true (by rw [z]; rfl))
      refine ⟨_, rfl, 1, rfl, a, _, rfl, SqL.of ha, fun p1 n1 => ?_⟩
      rw [cut_take1, ← List.map_take]
      have x1 : Ex H (upd H p1 (.lst ((zs.take 1).map V.str))) := Ex.refl.new n1
      have e1 : (upd H p1 (.lst ((zs.take 1).map V.str))) p1 = some (.lst ((zs.take 1).map V.str)) := upd_same
      generalize upd H p1 (.lst ((zs.take 1).map V.str)) = H1 at x1 e1 ⊢
      refine ⟨_, rfl, 1, rfl, a, _, rfl, SqL.of (x1 _ _ ha), fun p2 n2 => ?_⟩
      rw [cut_drop1, ← List.map_drop]
      have x2 : Ex H1 (upd H1 p2 (.lst ((zs.drop 1).map V.str))) := Ex.refl.new n2
      have e2 : (upd H1 p2 (.lst ((zs.drop 1).map V.str))) p2 = some (.lst ((zs.drop 1).map V.str)) := upd_same
      generalize upd H1 p2 (.lst ((zs.drop 1).map V.str)) = H2 at x2 e2 ⊢
      refine ⟨p2, rfl, ⟨_, SqL.of e2⟩, fun D hD => lc_list (K := K) (a := p2) (xs := (zs.drop 1).map V.str) (fun i G => Ex H2 G ∧ G D = some (.lst (numsOf ((zs.drop 1).take i)))) ⟨Ex.refl.new hD, upd_same⟩ (fun i G _ h => SqL.of (h.1 _ _ e2)) ?_ ?_⟩
      · rintro i v G hv ⟨xG, eG⟩
        rw [List.getElem?_map] at hv
        obtain ⟨z, hz, rfl⟩ := Option.map_eq_some_iff.mp hv
        have hm := dm z (List.mem_of_getElem? hz)
        have li : i < (zs.drop 1).length := (List.getElem?_eq_some_iff.mp hz).1
        refine ⟨rfl, _, rfl, z, rfl, (sh z hm).1, fun G2 xG2 => ⟨_, xG2 _ _ eG, ?_, (xG.trans xG2).put hD, ?_⟩⟩
        · unfold numsOf
          rw [List.length_map, List.length_take]
          omega
        · unfold numsOf
          rw [upd_same, List.take_succ, hz, List.map_append]
          rfl
      · rintro G ⟨xG, eG⟩
        rw [List.length_map, List.take_of_length_le (Nat.le_refl _)] at eG
        have y4 := x2.trans xG
        refine ⟨p1, D, _, _, rfl, rfl, y4 _ _ e1, eG, by unfold numsOf; rw [List.length_map, List.length_take, List.length_map, sz]; omega, fun l2 nl2 => ?_⟩
        refine .inl ⟨l2, _, rfl, SqL.of upd_same, fun b nb => ?_⟩
        have x5 : Ex G (upd (upd G l2 (.lst ((zs.take 1).map V.str ++ numsOf (zs.drop 1)))) b (.tup ((zs.take 1).map V.str ++ numsOf (zs.drop 1)))) := (Ex.refl.new nl2).trans (Ex.refl.new nb)
        have hb : H b = none := x1.gone (y4.gone ((Ex.refl.new nl2).gone nb))
        exact q2 ek b _ (x1.trans (y4.trans x5)) hb upd_same
end
end LJ
set_option Elab.async false
set_option linter.all false
set_option maxRecDepth 100000
set_option maxHeartbeats 8000000
namespace LJ
open PySem PySem.Spec L2
/-! All works that may be fit. -/
theorem Good.F {W : Wd} (g : Good W) : GoodF W := ⟨g.m1, g.m2, by have := g.c2; omega, g.s1, by have := g.s2; omega, g.p1, by have := g.p2; omega, g.mb, g.cb, g.sb, g.pb, g.nd, fun x hx => menu_w x (g.nm x hx)⟩
section
variable {K : PySem.W.Frag} {H : Hp}
theorem goodF_fit {am ac as ap : Addr} {vm vc vs2 vp : List V} {W : Wd} (g : GoodF W) (hm : H am = some (.tup vm)) (hc : H ac = some (.tup vc)) (hs : H as = some (.tup vs2)) (hp : H ap = some (.tup vp))
    (pm : Paired (Row3 H) vm W.ms) (pc : Paired (Row3 H) vc W.cs) (ps : Paired (Row2 H) vs2 W.ss) (pp : Paired (RowP H) vp W.ps) : Fit K H am ac as ap vm vc vs2 vp := by
  have l1 : vm.length = W.ms.length := Paired.size pm
  have l2 : vc.length = W.cs.length := Paired.size pc
  have l3 : vs2.length = W.ss.length := Paired.size ps
  have l4 : vp.length = W.ps.length := Paired.size pp
  have g1 := g.m1
  have g2 := g.m2
  have g3 := g.c2
  have g4 := g.s1
  have g5 := g.s2
  have g6 := g.p1
  have g7 := g.p2
  have im : ∀ r ∈ W.ms, isW r.1 = true := fun r hr => g.wm hr
  have ic : ∀ r ∈ W.cs, isW r.1 = true := fun r hr => g.wc hr
  have is : ∀ r ∈ W.ss, isW r.1 = true := fun r hr => g.ws hr
  have ip : ∀ r ∈ W.ps, isW r.1 = true := fun r hr => g.wp hr
  have em : vm.map (nameOf H) = W.ms.map (·.1) := paired_nm (fun v r h => row3_name h) pm
  have ec : vc.map (nameOf H) = W.cs.map (·.1) := paired_nm (fun v r h => row3_name h) pc
  have es : vs2.map (nameOf H) = W.ss.map (·.1) := paired_nm (fun v r h => row2_name h) ps
  have ep : vp.map (nameOf H) = W.ps.map (·.1) := paired_nm (fun v r h => rowP_name h) pp
  have nd := g.nd
  have nd3 : ((W.ms.map (·.1) ++ W.cs.map (·.1)) ++ W.ss.map (·.1) ++ W.ps.map (·.1)).Nodup := by
    rw [List.append_assoc, List.append_assoc]
    exact nd
  have nd2 : ((W.ms.map (·.1) ++ W.cs.map (·.1)) ++ W.ss.map (·.1)).Nodup := (List.nodup_append.mp nd3).1
  have nd1 : (W.ms.map (·.1) ++ W.cs.map (·.1)).Nodup := (List.nodup_append.mp nd2).1
  have nd0 : (W.ms.map (·.1)).Nodup := (List.nodup_append.mp nd1).1
  refine ⟨hm, hc, hs, hp, deep_tup hm (by omega) fun v hv => ?_, deep_tup hc (by omega) fun v hv => ?_, deep_tup hs (by omega) fun v hv => ?_, deep_tup hp (by omega) fun v hv => ?_, by omega, by omega, by omega, ?_, ?_, ?_, ?_⟩
  · obtain ⟨r, hr, h⟩ := paired_mem pm v hv
    exact row3_deep h (isW_8 (im r hr))
  · obtain ⟨r, hr, h⟩ := paired_mem pc v hv
    exact row3_deep h (isW_8 (ic r hr))
  · obtain ⟨r, hr, h⟩ := paired_mem ps v hv
    exact row2_deep h (isW_8 (is r hr))
  · obtain ⟨r, hr, h⟩ := paired_mem pp v hv
    exact rowP_deep h (isW_8 (ip r hr)) (by have := (g.pb r hr).1; omega)
  · refine fwAt_none (fun v hv => ?_) (by omega) (by rw [em]; exact nd0)
    obtain ⟨r, hr, h⟩ := paired_mem pm v hv
    obtain ⟨a, b, c⟩ := g.mb r hr
    exact row3_right h (im r hr) a b c
  · refine fwAt_none (fun v hv => ?_) (by omega) (by rw [em, ec]; exact nd1)
    obtain ⟨r, hr, h⟩ := paired_mem pc v hv
    obtain ⟨a, b, c⟩ := g.cb r hr
    exact row3_right h (ic r hr) a b c
  · refine fwAt_none (fun v hv => ?_) (by omega) (by rw [List.map_append, em, ec, es]; exact nd2)
    obtain ⟨r, hr, h⟩ := paired_mem ps v hv
    obtain ⟨a, b⟩ := g.sb r hr
    exact row2_right h (is r hr) a b
  · refine fwAt_none (fun v hv => ?_) (by omega) (by rw [List.map_append, List.map_append, em, ec, es, ep]; exact nd3)
    obtain ⟨r, hr, h⟩ := paired_mem pp v hv
    obtain ⟨a, b⟩ := g.pb r hr
    exact rowP_right h (ip r hr) (by omega) b
theorem goodF_told {W : Wd} (g : GoodF W) : Told W := by
  have g2 := g.m2
  have g3 := g.c2
  have g5 := g.s2
  have g7 := g.p2
  refine ⟨by omega, by omega, by omega, by omega, fun r hr => ?_, fun r hr => ?_, fun r hr => ?_, fun r hr => ?_⟩
  · obtain ⟨a, b, c⟩ := g.mb r hr
    exact ⟨isW_8 (g.wm hr), a, b, by omega⟩
  · obtain ⟨a, b, c⟩ := g.cb r hr
    exact ⟨isW_8 (g.wc hr), a, b, by omega⟩
  · obtain ⟨a, b⟩ := g.sb r hr
    exact ⟨isW_8 (g.ws hr), a, b⟩
  · obtain ⟨a, b⟩ := g.pb r hr
    exact ⟨isW_8 (g.wp hr), by omega, b⟩
end
end LJ
set_option Elab.async false
set_option linter.all false
set_option maxRecDepth 100000
set_option maxHeartbeats 4000000
/-! Static methods called by their class; own ==, != with both answers; str, repr and truth of own objects. -/
namespace OwnX
open PySem PySem.Spec PyProof.Rows L2
/-- m is a static method of C, the def at g -/
structure SMet (K : PySem.W.Frag) (C : Addr) (mc : Value) (m : Str) (p g : Addr) : Prop where
  ty : PySem.W.typeIn K (.ref C) = some mc
  at_ : PySem.W.findCls K (.ref C) mc m = some (.get (.builtin "staticmethod.__get__") (.ref p) .none (.ref C))
  rc : ∃ rest, PySem.W.recIn K p "staticmethod" = some (.ref g :: rest)
  kp : PySem.W.keepIn K (.ref g) = true
def tSMeth (C : Addr) (sp : Sp) (dvs : List V) (E : XK) (ta : TE) (t : TA) : TE := fun σ H Q => ta σ H fun x H1 => x = .ref C ∧ t σ H1 fun vs H2 => sp (vs ++ dvs) H2 Q E
def tSMethK (C : Addr) (sp : Sp) (n : Nat) (gV : List V → List V → List V) (E : XK) (ta : TE) (t : TA) : TE := fun σ H Q => ta σ H fun x H1 => x = .ref C ∧ t σ H1 fun zs H2 => zs.length = n ∧ sp (gV [] zs) H2 Q E
section
variable {X : Cx} {CX : CXT} {k : Nat} {p C g : Addr} {fd : FuncData} {ps ks : List Str} {sp : Sp} {dvs : List V} {ds : List Value} {mc : Value} {E : XK} {m : Str} {pos apos : Pos} {o e : Expr} {es : List Expr} {ta : TE} {t tk : TA} {kws : List Keyword} {gg : List Value → List Value → List Value} {gV : List V → List V → List V}
theorem getmeth_sm {pins : List (Addr × Obj)} {σ : L2.St} {H : Hp} {s : Shared} {A : Around} {E : Value → Shared → Prop} {pl : Sem Bool} {Q : Value × List Value → Shared → Prop}
    (I : Inv X pins σ H s) (r : ClX.CRead X.K C mc) (c : SMet X.K C mc m p g) (q : Q (.ref g, []) { s with toks := s.toks + 1 }) : wpAny (model X.prog X.w) A (getMethod (.ref C) m pl) Q E s := by
  obtain ⟨m1, fr⟩ := I.fr
  obtain ⟨rest, hrc⟩ := c.rc
  unfold getMethod
  refine wpAny_bind ((PySem.W.looks_specialIn I.kIn r.ga).at ?_)
  show wpAny _ _ (if (Manifest.canonical "type.__getattribute__" != "object.__getattribute__") = true then _ else _) _ _ _
  rw [if_pos (by decide +kernel)]
  refine wpAny_bind (PySem.W.cls_sm fr I.ok.mod.kin c.ty r.rd c.at_ hrc rfl ?_)
  exact wpAny_pure q
/-- C.m(e, ..) -/
theorem pe_smeth {pl : Sem Bool} (he : PE X o ta) (r : ClX.CRead X.K C mc) (c : SMet X.K C mc m p g) (F : FnOk X.prog X.w X.K X.mg X.base CX k g fd ps sp) (hr : Room k X.A) (hb : Binds X.K fd ps ds) (hd : Vals dvs ds) (hx : Passes CX X E) (ha : PA X (e :: es) t)
    (hs : starEach (e :: es) X.env = (false, eval e X.env) :: starEach es X.env := by rfl) (hp : (backTo pos (starEach es X.env)).any (·.1) = false := by rfl)
    (ht : eval (.Call (.Attribute o m apos) (e :: es) [] pos) X.env = (do
      let ov ← eval o X.env
      standAt apos.atName
      let (f, first) ← holding [ov] (getMethod ov m pl)
      callWith pos f first (backTo pos (starEach (e :: es) X.env)) (backToKw pos (keywordEach [] X.env))) := by rfl) :
    PE X (.Call (.Attribute o m apos) (e :: es) [] pos) (tSMeth C sp dvs E ta t) := by
  refine ⟨fun pins s σ H Q I h => ?_⟩
  refine PySem.W.methodCall_KW (pl := pl) (thn (he.run pins s σ H _ I h) fun u s1 ⟨x, H1, I1, rx, ex, q⟩ => ?_) ht
  subst ex
  obtain rfl : u = Value.ref C := rx
  refine getmeth_sm I1 r c ?_
  refine PySem.W.callWith_K (first := []) (h₀ := X.base) I.ok.mod.kin c.kp ?_ hs hp
  refine thn (ha.run pos pins _ σ H1 _ (I1.tok _) q) fun us s2 ⟨vs, H2, I2, rz, q2⟩ => ⟨I2.kIn, ?_⟩
  have r2 : Vals (vs ++ dvs) (us ++ ds) := Vals.append rz hd
  have l2 : (us ++ ds).length = ps.length := r2.length.symm.trans (F.len _ _ _ _ q2)
  refine wpAny_call (codeAny_mono (F.run X.A X.stack s2 H2 ⟨us, []⟩ (us ++ ds) (vs ++ dvs) Q E hr I2.env0 (hb s2 us I2.kIn l2) r2 q2) fun r s3 hq => ?_)
  cases r with
  | error e => exact hx pins σ H2 s2 e s3 I2 hq
  | ok fl =>
    cases fl with
    | ret u => exact I2.after hq
    | next => exact False.elim hq
    | brk => exact False.elim hq
    | cont => exact False.elim hq
/-- C.m(k = v, ..) -/
theorem pe_smethK {pl : Sem Bool} (he : PE X o ta) (r : ClX.CRead X.K C mc) (c : SMet X.K C mc m p g) (F : FnOk X.prog X.w X.K X.mg X.base CX k g fd ps sp) (hr : Room k X.A) (hb : KBn X.K fd ps 0 ks gg gV) (hx : Passes CX X E) (hkw : PK X kws tk)
    (hall : (backToKw pos (keywordEach kws X.env)).all (·.1.isSome) = true := by rfl) (hks : (backToKw pos (keywordEach kws X.env)).filterMap (·.1) = ks := by rfl)
    (hpl : ((backTo pos (starEach [] X.env)).any (·.1) || (backToKw pos (keywordEach kws X.env)).any (·.1.isNone)) = false := by rfl)
    (ht : eval (.Call (.Attribute o m apos) [] kws pos) X.env = (do
      let ov ← eval o X.env
      standAt apos.atName
      let (f, first) ← holding [ov] (getMethod ov m pl)
      callWith pos f first (backTo pos (starEach [] X.env)) (backToKw pos (keywordEach kws X.env))) := by rfl) :
    PE X (.Call (.Attribute o m apos) [] kws pos) (tSMethK C sp ks.length gV E ta tk) := by
  refine ⟨fun pins s σ H Q I h => ?_⟩
  refine PySem.W.methodCall_KW (pl := pl) (thn (he.run pins s σ H _ I h) fun u s1 ⟨x, H1, I1, rx, ex, q⟩ => ?_) ht
  subst ex
  obtain rfl : u = Value.ref C := rx
  refine getmeth_sm I1 r c ?_
  refine PySem.W.callWith_KW0 (first := []) (h₀ := X.base) I.ok.mod.kin c.kp hall ?_ hpl
  refine thn (hkw.run pos pins _ σ H1 _ (I1.tok _) q) fun ws s2 ⟨zs, H2, I2, rz, l2, q2⟩ => ⟨I2.kIn, ?_⟩
  rw [hks]
  show wpAny _ _ (call (.ref g) [] (ks.zip ws)) _ _ _
  have e2 : ws.length = ks.length := rz.length.symm.trans l2
  have r1 : Vals ([] : List V) ([] : List Value) := .nil
  refine wpAny_call (codeAny_mono (F.run X.A X.stack s2 H2 ⟨[], ks.zip ws⟩ (gg [] ws) (gV [] zs) Q E hr I2.env0 (hb.to s2 [] ws I2.kIn rfl e2) (hb.rel r1 rz) q2) fun r s3 hq => ?_)
  cases r with
  | error e => exact hx pins σ H2 s2 e s3 I2 hq
  | ok fl =>
    cases fl with
    | ret u => exact I2.after hq
    | next => exact False.elim hq
    | brk => exact False.elim hq
    | cont => exact False.elim hq
end
end OwnX
set_option Elab.async false
set_option linter.all false
set_option maxRecDepth 100000
set_option maxHeartbeats 4000000
namespace OwnX
open PySem PySem.Spec PyProof.Rows L2
section
variable {X : Cx} {CX : CXT} {k : Nat} {C f : Addr} {fd : FuncData} {sp : Sp} {E : XK} {pins : List (Addr × Obj)} {s : Shared} {σ : L2.St} {H : Hp}
/-- the instance as the machine sees it -/
theorem inst_of (I : Inv X pins σ H s) {a dx : Addr} {fs : List (Str × V)} (h : H a = some (.ins C dx fs)) : ∃ od, PySem.W.InstAt s.heap a (PySem.W.instObj C dx) C (some od) := by
  have z := I.hok a _ h
  unfold ObjOk at z
  obtain ⟨h1, h2, h3, h4, mA, h5, h6, h7⟩ := z
  obtain ⟨od, h8, _⟩ := ObjM.look ⟨h4, h5, h3⟩
  exact ⟨od, h8⟩
/-- the other side: of the same class, or a text -/
def OSide (K : PySem.W.Frag) (C : Addr) (H : Hp) (y : V) : Prop := (∃ a2 dx2 fs2, y = .ref a2 ∧ H a2 = some (.ins C dx2 fs2)) ∨ (∃ z, y = .str z) ∧ PySem.W.subIn K (.type "str") (.ref C) = some false
def rEqO (K : PySem.W.Frag) (C : Addr) (sp : Sp) (E : XK) : R2 := fun x y H Q => ∃ a dx fs, x = .ref a ∧ H a = some (.ins C dx fs) ∧ OSide K C H y ∧ sp [x, y] H (fun v H1 => ∃ b, v = .bl b ∧ Q (.bl b) H1) E
theorem op_eqO (c : Meth X.K C "__eq__" f) (F : FnOk X.prog X.w X.K X.mg X.base CX k f fd ["self", "other"] sp) (hr : Room k X.A) (hu : X.A.units + 1 < cLine) (hb : Binds X.K fd ["self", "other"] []) (hx : Passes CX X E) : OpR X (compareOp .Eq) (rEqO X.K C sp E) := by
  rintro pins s σ H x y v u Q I rx ry ⟨a, dx, fs, rfl, ha, hy, q⟩
  obtain rfl : v = Value.ref a := rx
  obtain ⟨od, J⟩ := inst_of I ha
  obtain ⟨m1, fr⟩ := I.fr
  have rv : Vals [V.ref a, y] [Value.ref a, u] := .cons rfl (.cons ry .nil)
  have go : wpAny (model X.prog X.w) X.A (call (.ref f) [.ref a, u]) (PySem.W.CmpBack (EP X pins σ Q)) X.xe s := by
    refine wpAny_call (codeAny_mono (F.run X.A X.stack s H ⟨[.ref a, u], []⟩ [.ref a, u] [.ref a, y] _ E hr I.env0 (hb s [.ref a, u] I.kIn rfl) rv q) fun r s3 hq => ?_)
    cases r with
    | error e => exact hx pins σ H s e s3 I hq
    | ok fl =>
      cases fl with
      | ret u3 =>
        obtain ⟨v3, H3, I3, r3, b, rfl, q3⟩ := I.after hq
        obtain rfl : u3 = Value.bool b := r3
        exact ⟨.bl b, H3, I3, rfl, q3⟩
      | next => exact False.elim hq
      | brk => exact False.elim hq
      | cont => exact False.elim hq
  have hu1 : X.A.units < cLine := by omega
  rcases hy with ⟨a2, dx2, fs2, rfl, h2⟩ | ⟨⟨z, rfl⟩, hz⟩
  · obtain rfl : u = Value.ref a2 := ry
    obtain ⟨od2, J2⟩ := inst_of I h2
    refine PySem.W.cmp_ofEq (PySem.W.cmp_K (h₀ := X.base) (tb := .ref C) hu1 fr I.ok.mod.kin J ?_ ?_ c.at_ c.fn go)
    · intro A Q E s1 kk qq
      exact wpAny_typeOf_ref (kk _ _ J2.at_) (by rw [J2.cls]; exact qq)
    · unfold PySem.W.notFirst
      rw [show ((Value.ref C : Value) == Value.ref C) = true from by simp]
      rfl
  · obtain ⟨t, rfl⟩ : ∃ t, u = Value.str z t := ry
    refine PySem.W.cmp_ofEq (PySem.W.cmp_K (h₀ := X.base) (tb := .type "str") hu1 fr I.ok.mod.kin J ?_ ?_ c.at_ c.fn go)
    · intro A Q E s1 kk qq
      exact wpAny_of_eq rfl qq
    · unfold PySem.W.notFirst
      rw [hz]
      rfl
end
end OwnX
set_option Elab.async false
set_option linter.all false
set_option maxRecDepth 100000
set_option maxHeartbeats 4000000
namespace OwnX
open PySem PySem.Spec PyProof.Rows L2
section
variable {X : Cx} {CX : CXT} {k : Nat} {C f : Addr} {fd : FuncData} {sp : Sp} {E : XK} {pins : List (Addr × Obj)} {s : Shared} {σ : L2.St} {H : Hp}
def rNeO (C : Addr) (sp : Sp) (E : XK) : R2 := fun x y H Q => ∃ a dx fs a2 dx2 fs2, x = .ref a ∧ y = .ref a2 ∧ H a = some (.ins C dx fs) ∧ H a2 = some (.ins C dx2 fs2) ∧ sp [x, y] H (fun v H1 => ∃ b, v = .bl b ∧ Q (.bl !b) H1) E
theorem op_neO (c : Meth X.K C "__eq__" f) (hn : PySem.W.findIn X.K (.ref C) "__ne__" = some (some (.builtin "object.__ne__"))) (so : PySem.W.subIn X.K (.ref C) (.type "object") = some true) (G : FnOk X.prog X.w X.K X.mg X.base CX k f fd ["self", "other"] sp) (hr : Room (k + 1) X.A) (hb : Binds X.K fd ["self", "other"] []) (hx : Passes CX X E) : OpR X (compareOp .NotEq) (rNeO C sp E) := by
  rintro pins s σ H x y v u Q I rx ry ⟨a, dx, fs, a2, dx2, fs2, rfl, rfl, ha, h2, q⟩
  obtain rfl : v = Value.ref a := rx
  obtain rfl : u = Value.ref a2 := ry
  obtain ⟨od, J⟩ := inst_of I ha
  obtain ⟨od2, J2⟩ := inst_of I h2
  have rv : Vals [V.ref a, V.ref a2] [Value.ref a, Value.ref a2] := .cons rfl (.cons rfl .nil)
  have ty : PySem.W.Looks (model X.prog X.w) s.heap (typeOf (.ref a)) (.ref C) := fun A Q E s1 kk qq => wpAny_typeOf_ref (kk _ _ J.at_) (by rw [J.cls]; exact qq)
  have ty2 : PySem.W.Looks (model X.prog X.w) s.heap (typeOf (.ref a2)) (.ref C) := fun A Q E s1 kk qq => wpAny_typeOf_ref (kk _ _ J2.at_) (by rw [J2.cls]; exact qq)
  have hu1 : X.A.units < cLine := by have := hr.un; omega
  have go : wpAny (model X.prog X.w) X.A.in1 (call (.ref f) [.ref a, .ref a2]) (fun v s' => ∃ b, v = .bool b ∧ EP X pins σ Q (.bool !b) s') X.xe s := by
    refine wpAny_call (codeAny_mono (G.run X.A.in1 X.stack s H ⟨[.ref a, .ref a2], []⟩ [.ref a, .ref a2] [.ref a, .ref a2] _ E ?_ ?_ (hb s [.ref a, .ref a2] I.kIn rfl) rv q) fun r s3 hq => ?_)
    · exact ⟨hr.hd, by have := hr.dp; show X.A.depth + 3 * k + 5 < recursionLimit; omega, by have := hr.un; show X.A.units + 1 + 16 * k + 200 < cLine; omega⟩
    · obtain ⟨e1, e2, e3, e4, e5, e6, e7, e8⟩ := I.env0
      exact ⟨e1, e2, e3, e4, e5, e6, e7, e8⟩
    cases r with
    | error e => exact hx pins σ H s e s3 I hq
    | ok fl =>
      cases fl with
      | ret u3 =>
        obtain ⟨v3, H3, I3, r3, b, rfl, q3⟩ := I.after hq
        obtain rfl : u3 = Value.bool b := r3
        exact ⟨b, rfl, .bl !b, H3, I3, rfl, q3⟩
      | next => exact False.elim hq
      | brk => exact False.elim hq
      | cont => exact False.elim hq
  refine PySem.W.cmp_ofNotEq ?_
  unfold richCompare
  refine wpAny_holding (wpAny_bind (wpAny_cRoomFor hu1 ?_))
  show wpAny _ _ (typeOf (.ref a) >>= fun ta => typeOf (.ref a2) >>= fun tb => _) _ _ _
  refine wpAny_bind (ty.at (wpAny_bind (ty2.at ?_)))
  rw [if_neg (by simp)]
  refine wpAny_bind (wpAny_pure ?_)
  dsimp only
  rw [if_neg (by decide)]
  refine wpAny_bind ?_
  unfold tryCompare
  refine wpAny_bind ?_
  have bs : ∀ self, bindSpecial (.builtin "object.__ne__") self = pure (.builtin "object.__ne__", [self]) := fun self => by rfl
  have fnd := PySem.W.looks_findIn (M := model X.prog X.w) I.kIn hn
  unfold callSpecialIfBound? bindSpecialIfBound? specialOf
  refine wpAny_holding (wpAny_bind (wpAny_bind (wpAny_bind (ty.at (fnd.at ?_)))))
  refine wpAny_bind (wpAny_askSetting ?_)
  have both : ∀ {c : Bool} {Q1 : Option (Value × List Value) → Shared → Prop}, Q1 (some (.builtin "object.__ne__", [.ref a])) s → wpAny (model X.prog X.w) X.A (if c = true then (do
        let z ← bindSpecial (Value.builtin "object.__ne__") (Value.ref a)
        pure (some z)) else ((do
        let z ← bindSpecial (Value.builtin "object.__ne__") (Value.ref a)
        pure (some z)).tryCatch fun _ => do
          rule "special.get-raises-dropped"
          pure none)) Q1 X.xe s := by
    intro c Q1 h
    have one : ∀ E, wpAny (model X.prog X.w) X.A (do
        let z ← bindSpecial (Value.builtin "object.__ne__") (Value.ref a)
        pure (some z)) Q1 E s := fun E => by
      rw [bs]
      exact wpAny_bind (wpAny_pure (wpAny_pure h))
    cases c
    · exact wpAny_tryCatch (one _)
    · exact one _
  refine both ?_
  refine wpAny_bind ?_
  show wpAny _ _ (call (.builtin "object.__ne__") [.ref a, .ref a2]) _ _ _
  have of_obj : PySem.W.Looks (model X.prog X.w) s.heap (isInstance (.ref a) (.type "object")) true := ty.andThen (PySem.W.looks_subIn I.kIn so)
  refine wpAny_call (codeAny_call_builtin (by decide +kernel) F.entry_object_ne (PySem.W.check_slot (owner := "object") (n := "__ne__") (by decide +kernel) (by decide +kernel) of_obj (F.args_object_ne_2 _ _) ?_))
  unfold Builtin.«object.__ne__»
  refine wpAny_bind (wpAny_of_eq (a := ((Value.ref a : Value), [Value.ref a2])) (by first | rfl | (simp only [slotArgs]; rfl)) ?_)
  refine wpAny_bind (wpAny_cRoomFor (by have := hr.un; show X.A.units + 1 < cLine; omega) ?_)
  refine wpAny_bind (PySem.W.ifBound_K I.kIn J c.at_ c.fn (thn go fun v s1 h => ?_))
  obtain ⟨b, rfl, h⟩ := h
  refine wpAny_bind (wpAny_pure ?_)
  refine wpAny_pure ?_
  exact wpAny_pure (wpAny_pure (wpAny_pure h))
end
end OwnX
set_option Elab.async false
set_option linter.all false
set_option maxRecDepth 100000
set_option maxHeartbeats 4000000
namespace OwnX
open PySem PySem.Spec PyProof.Rows L2
section
variable {X : Cx} {CX : CXT} {k : Nat} {C f : Addr} {fd : FuncData} {sp : Sp} {E : XK} {pins : List (Addr × Obj)} {s : Shared} {σ : L2.St} {H : Hp}
/-- str(o), repr(o) by a def of the class -/
def rTxtO (C : Addr) (sp : Sp) (E : XK) : List V → Hp → VK → Prop := fun xs H Q => ∃ a dx fs, xs = [.ref a] ∧ H a = some (.ins C dx fs) ∧ sp [.ref a] H (fun v H1 => ∃ z, v = .str z ∧ Q (.str z) H1) E
theorem env_in (I : Inv X pins σ H s) {A : Around} (h : A.frames = X.A.frames) : Env0 X.prog X.w X.K X.mg X.base A X.stack s H := by
  obtain ⟨e1, e2, e3, e4, e5, e6, e7, e8⟩ := I.env0
  exact ⟨h.trans e1, e2, e3, e4, e5, e6, e7, e8⟩
theorem call_of (I : Inv X pins σ H s) {A : Around} {a : Addr} {Q : VK} (h : A.frames = X.A.frames) (hr : Room k A) (G : FnOk X.prog X.w X.K X.mg X.base CX k f fd ["self"] sp) (hb : Binds X.K fd ["self"] []) (hx : Passes CX X E)
    (q : sp [.ref a] H (fun v H1 => ∃ z, v = .str z ∧ Q (.str z) H1) E) : wpAny (model X.prog X.w) A (call (.ref f) [.ref a]) (PySem.W.StrBack (EP X pins σ Q)) X.xe s := by
  refine wpAny_call (codeAny_mono (G.run A X.stack s H ⟨[.ref a], []⟩ [.ref a] [.ref a] _ E hr (env_in I h) (hb s [.ref a] I.kIn rfl) (.cons rfl .nil) q) fun r s3 hq => ?_)
  cases r with
  | error e => exact hx pins σ H s e s3 I hq
  | ok fl =>
    cases fl with
    | ret u3 =>
      obtain ⟨v3, H3, I3, r3, z, rfl, q3⟩ := I.after hq
      obtain ⟨t, rfl⟩ : ∃ t, u3 = Value.str z t := r3
      exact ⟨.str z, H3, I3, ⟨t, rfl⟩, q3⟩
    | next => exact False.elim hq
    | brk => exact False.elim hq
    | cont => exact False.elim hq
theorem call_strO (c : Meth X.K C "__str__" f) (G : FnOk X.prog X.w X.K X.mg X.base CX k f fd ["self"] sp) (hr : Room (k + 1) X.A) (hb : Binds X.K fd ["self"] []) (hx : Passes CX X E) : CallR X (.type "str") (rTxtO C sp E) := by
  rintro pins s σ H xs us Q I r ⟨a, dx, fs, rfl, ha, q⟩
  obtain rfl : us = [Value.ref a] := by
    cases r with
    | cons r1 r2 =>
      cases r2
      cases (show _ = Value.ref a from r1)
      rfl
  obtain ⟨od, J⟩ := inst_of I ha
  have h1 := hr.un
  have h2 := hr.dp
  exact PySem.W.kso_call (by show X.A.units + 1 + 1 < cLine; omega) I.kIn J c.at_ c.fn (call_of I rfl ⟨hr.hd, by show X.A.depth + 3 * k + 5 < recursionLimit; omega, by show X.A.units + 1 + 1 + 16 * k + 200 < cLine; omega⟩ G hb hx q)
theorem call_reprO (c : Meth X.K C "__repr__" f) (G : FnOk X.prog X.w X.K X.mg X.base CX k f fd ["self"] sp) (hr : Room (k + 1) X.A) (hb : Binds X.K fd ["self"] []) (hx : Passes CX X E) : CallR X (.builtin "repr") (rTxtO C sp E) := by
  rintro pins s σ H xs us Q I r ⟨a, dx, fs, rfl, ha, q⟩
  obtain rfl : us = [Value.ref a] := by
    cases r with
    | cons r1 r2 =>
      cases r2
      cases (show _ = Value.ref a from r1)
      rfl
  obtain ⟨od, J⟩ := inst_of I ha
  have h1 := hr.un
  have h2 := hr.dp
  have ty : PySem.W.Looks (model X.prog X.w) s.heap (typeOf (.ref a)) (.ref C) := fun A Q E s1 kk qq => wpAny_typeOf_ref (kk _ _ J.at_) (by rw [J.cls]; exact qq)
  have fnd := PySem.W.looks_findIn (M := model X.prog X.w) I.kIn c.at_
  refine wpAny_call (codeAny_call_builtin (by decide +kernel) F.entry_repr (wpAny_of_eq (a := ()) (by rfl) ?_))
  unfold Builtin.repr
  refine wpAny_bind (wpAny_of_eq (a := (Value.ref a)) (by first | rfl | (simp only [oneArg]; rfl)) ?_)
  refine wpAny_bind (wpAny_cRoomFor (by show X.A.units + 1 < cLine; omega) ?_)
  unfold specialOf
  refine wpAny_bind (wpAny_bind (ty.at (fnd.at ?_)))
  refine wpAny_bind (PySem.W.ifBound_K I.kIn J c.at_ c.fn (thn (call_of I (A := X.A.in1) rfl ⟨hr.hd, by show X.A.depth + 3 * k + 5 < recursionLimit; omega, by show X.A.units + 1 + 16 * k + 200 < cLine; omega⟩ G hb hx q) fun v s1 h => ?_))
  cases v with
  | str z t =>
    refine wpAny_bind (wpAny_of_eq (a := true) (by rfl) ?_)
    exact wpAny_pure h
  | _ => exact False.elim h
/-- an own object is true -/
theorem pt_truthO {e : Expr} {ta : TE} (he : PE X e ta) (hb : PySem.W.findIn X.K (.ref C) "__bool__" = some none) (hl : PySem.W.findIn X.K (.ref C) "__len__" = some none)
    (ht : ∀ (whole : Sem Value), PySem.isTrue e X.env whole = do
          let v ← whole
          standAt e.pos
          holding [v] (truthy v)) : PT X e (fun σ H Q => ta σ H fun x H1 => ∃ a dx fs, x = .ref a ∧ H1 a = some (.ins C dx fs) ∧ Q true H1) := by
  refine ⟨fun pins s σ H Q I h => ?_⟩
  rw [ht]
  refine wpAny_bind (thn (he.run pins s σ H _ I h) fun u s1 ⟨x, H1, I1, rx, a, dx, fs, ex, ea, q⟩ => ?_)
  subst ex
  obtain rfl : u = Value.ref a := rx
  obtain ⟨od, J⟩ := inst_of I1 ea
  obtain ⟨m1, fr⟩ := I1.fr
  refine wpAny_bind (wpAny_standAt (wpAny_holding (PySem.W.truthy_K0 fr I1.ok.mod.kin J hb hl ⟨H1, I1, q⟩)))
end
end OwnX
set_option Elab.async false
set_option linter.all false
set_option maxRecDepth 100000
set_option maxHeartbeats 4000000
/-! a, *b = a list -/
namespace OwnX
open PySem PySem.Spec PyProof.Rows L2
def gStar (K : PySem.W.Frag) (n i : Nat) (t : TGs) : TG := fun v σ H Q => ∃ a xs, v = .ref a ∧ SqL K H a xs ∧ i < n ∧ n ≤ xs.length + 1 ∧ xs.length ≤ 16384 ∧
  ∀ D, H D = none → t (xs.take i ++ [.ref D] ++ (xs.drop i).drop (xs.length + 1 - n)) σ (upd H D (.lst ((xs.drop i).take (xs.length + 1 - n)))) Q
section
variable {X : Cx} {es es' : List Expr} {t : TGs} {n i k : Nat} {pos : Pos}
theorem pgs_same (h : PGs X es t) (e : (assignEach es' X.env).map (·.2) = (assignEach es X.env).map (·.2) := by rfl) : PGs X es' t := ⟨fun pins s σ H vs us Q I r q => by
  rw [e]
  exact h.run pins s σ H vs us Q I r q⟩
theorem pgs_star {e : Expr} {p : Pos} {g : TG} {u : TGs} (he : PG X e g) (hs : PGs X es u) : PGs X (.Starred e p :: es) (gCons g u) := ⟨fun pins s σ H vs us Q I r q => by
  obtain ⟨v, rest, rfl, q⟩ := q
  rw [arm_assignEach_Starred]
  cases r with
  | @cons _ u1 _ us r1 r2 =>
    show wpAny _ _ (do
      holding us (assign e X.env u1)
      assignInOrder ((assignEach es X.env).map (·.2)) us) _ _ _
    refine wpAny_bind (wpAny_holding (thn (he.run pins s σ H v u1 _ I r1 q) fun _ s1 ⟨σ1, H1, I1, q1⟩ => ?_))
    exact hs.run pins s1 σ1 H1 rest us Q I1 r2 q1⟩
theorem vals_take : ∀ {xs : List V} {us : List Value} (n : Nat), Vals xs us → Vals (xs.take n) (us.take n)
  | _, _, 0, _ => .nil
  | _, _, _ + 1, .nil => .nil
  | _, _, n + 1, .cons h t => .cons h (vals_take n t)
theorem vals_drop : ∀ {xs : List V} {us : List Value} (n : Nat), Vals xs us → Vals (xs.drop n) (us.drop n)
  | _, _, 0, h => h
  | _, _, _ + 1, .nil => .nil
  | _, _, n + 1, .cons h t => vals_drop n t
theorem ns_one {h : Heap} {L : Addr} {m m' : Str → Option Value} (a : h.Ns L m) (b : h.Ns L m') : m = m' := by
  obtain ⟨o, es, ep, e1, e2, _, e3⟩ := a
  obtain ⟨o', es', ep', f1, f2, _, f3⟩ := b
  rw [e1] at f1
  cases f1
  rw [e2] at f2
  cases f2
  funext x
  rw [← e3, ← f3]
theorem pg_star (hc : X.calm = true) (hts : PGs X es t) (hn : (assignEach es X.env).length = n := by rfl) (hi : List.findIdx? (·.1) (assignEach es X.env) = some i := by rfl) : PG X (.Tuple es k pos) (gStar X.K n i t) := by
  refine ⟨fun pins s σ H v u Q I rv h => ?_⟩
  obtain ⟨a, xs, rfl, hx, i1, i2, i3, q⟩ := h
  obtain rfl : u = Value.ref a := rv
  obtain ⟨its, rx, pl, _⟩ := I.list hx
  have lx : xs.length = its.length := rx.length
  obtain ⟨oa, ea, ec, na, ed⟩ := pl.isList
  have ty : s.TypeIs (.ref a) "list" := ⟨oa, ea, ec⟩
  have sz := sizeLine_eq
  have lt := Heap.lt_size ea
  rw [arm_assign_Tuple]
  refine wpAny_bind (wpAny_standAt ?_)
  unfold unpack
  rw [hn, hi]
  refine wpAny_bind (wpAny_holding ?_)
  unfold unpackItems notIterableAtAll
  refine wpAny_bind (wpAny_bind (wpAny_specialOf ty F.slot_list_iter.lookup ?_))
  refine wpAny_pure ?_
  refine wpAny_bind (wpAny_holding (wpAny_pyIter_list pl.isList ?_))
  have big : ∀ b o, s.heap.get? b = some o → (s.heap.push { cls := Value.type "list_iterator", data := Data.fields #[Value.ref a, Value.int 0 0] }).get? b = some o := fun b o e => Heap.get?_push_of_some _ e
  have itn : (s.heap.push { cls := Value.type "list_iterator", data := Data.fields #[Value.ref a, Value.int 0 0] }).get? s.heap.objs.size = some { cls := Value.type "list_iterator", data := Data.fields #[Value.ref a, Value.int 0 0] } := Heap.get?_push_size _ rfl
  have szn : (s.heap.push { cls := Value.type "list_iterator", data := Data.fields #[Value.ref a, Value.int 0 0] }).objs.size = s.heap.objs.size + 1 := Heap.size_push _ _
  generalize s.heap.push { cls := Value.type "list_iterator", data := Data.fields #[Value.ref a, Value.int 0 0] } = h1 at big itn szn ⊢
  dsimp only
  refine wpAny_bind (wpAny_holding (PySem.W.kun_draw (l := a) (items := its.toArray) (Nat.ne_of_lt lt) i 0 _ _ ⟨_, itn, rfl, rfl⟩ ⟨oa, big _ _ ea, ec, na, ed⟩ (by rw [List.size_toArray]; omega) fun h2 it2 same2 => ?_))
  have e1 : its.toArray.toList = its := by simp
  have e2 : its.toArray.size = xs.length := by rw [List.size_toArray, lx]
  have f1 : (List.take i (List.drop 0 its.toArray.toList)).length = i := by
    rw [e1, List.drop_zero, List.length_take]
    omega
  rw [if_neg (by rw [f1]; omega)]
  obtain ⟨sz2, old2⟩ := same2
  have old2 : ∀ b, b ≠ s.heap.objs.size → h2.get? b = h1.get? b := old2
  have sz2 : h2.objs.size = h1.objs.size := sz2
  have keep2 : ∀ b o, s.heap.get? b = some o → h2.get? b = some o := fun b o e => by
    rw [old2 b (Nat.ne_of_lt (Heap.lt_size e))]
    exact big b o e
  have b1 : s.heap.objs.size < h2.objs.size := by rw [sz2, szn]; exact Nat.lt_succ_self _
  have b2 : a < h2.objs.size := Nat.lt_trans lt b1
  refine wpAny_bind (wpAny_holding (PySem.W.kun_collect (I := s.heap.objs.size) (ax := a) (items := its.toArray) (k := i) (T := "list_iterator") (St := fun i h => h.IsListIter s.heap.objs.size a i ∧ h.IsList a its.toArray) (.inr (.inr (.inl rfl))) (Walks.list (A := X.A.in1) (I.ok.hd hc) _ _ (Nat.ne_of_lt lt) _) (fun j u hu => ?_) (by rw [e2]; omega) ⟨by rw [Nat.zero_add] at it2; exact it2, oa, keep2 _ _ ea, ec, na, ed⟩ b1 b2 (fun h3 tk old3 => ?_) (by rw [e2, sz]; omega)))
  · obtain ⟨o, u1, u2, _⟩ := hu.1
    exact ⟨o, u1, u2⟩
  have f2 : (List.drop i its.toArray.toList).length = xs.length - i := by rw [e1, List.length_drop, lx]
  rw [if_neg (by rw [f2]; omega)]
  have old3 : ∀ b o, b ≠ s.heap.objs.size → h2.get? b = some o → h3.get? b = some o := old3
  have keep3 : ∀ b o, s.heap.get? b = some o → h3.get? b = some o := fun b o e => old3 b o (Nat.ne_of_lt (Heap.lt_size e)) (keep2 b o e)
  have J0 := I.kept (t' := tk) keep3
  rw [f2]
  have l2 : (List.take (xs.length - i - (n - 1 - i)) (List.drop i its.toArray.toList)).length ≤ sizeLine := by
    rw [List.length_take, f2]
    omega
  have ek : xs.length - i - (n - 1 - i) = xs.length + 1 - n := by omega
  rw [ek] at l2 ⊢
  rw [e1] at l2 ⊢
  refine wpAny_bind (wpAny_newList ?_ l2)
  refine wpAny_pure ?_
  have rv2 : Vals ((xs.drop i).take (xs.length + 1 - n)) ((its.drop i).take (xs.length + 1 - n)) := vals_take _ (vals_drop _ rx)
  have J := Inv.lnew (t' := tk) J0 rv2 (by rw [rv2.length]; exact l2)
  have hD : H h3.objs.size = none := J0.hok.fresh (Nat.le_refl _)
  refine hts.run pins _ σ _ _ _ Q J ?_ (q h3.objs.size hD)
  rw [List.drop_zero]
  exact Vals.append (Vals.append (vals_take _ rx) (.cons rfl .nil)) (vals_drop _ (vals_drop _ rx))
end
end OwnX
set_option Elab.async false
set_option linter.all false
set_option maxRecDepth 100000
set_option maxHeartbeats 8000000
namespace LJ
open PySem PySem.Spec L2
/-! The lines of told works, one by one. -/
inductive Ln where
  | m (r : Str × Int × Int)
  | c (r : Str × Int × Int)
  | s (r : Str × Int)
  | p (r : Str × List (Int × Int))
def lns (W : Wd) : List Ln := W.ms.map .m ++ W.cs.map .c ++ W.ss.map .s ++ W.ps.map .p
def lnK : Ln → Str
  | .m _ => kM
  | .c _ => kC
  | .s _ => kS
  | .p _ => kP
def lnW : Ln → List Str
  | .m r => [r.1, num r.2.1, num r.2.2]
  | .c r => [r.1, num r.2.1, num r.2.2]
  | .s r => [r.1, num r.2]
  | .p r => r.1 :: r.2.map bword
def lnT (x : Ln) : Str := Txt.join sp1 (lnK x :: lnW x)
def getM : Ln → Option (Str × Int × Int)
  | .m r => some r
  | _ => none
def getC : Ln → Option (Str × Int × Int)
  | .c r => some r
  | _ => none
def getS : Ln → Option (Str × Int)
  | .s r => some r
  | _ => none
def getP : Ln → Option (Str × List (Int × Int))
  | .p r => some r
  | _ => none
theorem lns_text (W : Wd) : wlines W = (lns W).map lnT := by
  unfold wlines lns
  rw [List.map_append, List.map_append, List.map_append, List.map_map, List.map_map, List.map_map, List.map_map]
  rw [show (W.ms.map (line3 (Str.ofString "machine "))) = W.ms.map (lnT ∘ Ln.m) from List.map_congr_left fun r _ => line3_join kM_pre r,
    show (W.cs.map (line3 (Str.ofString "cleaning "))) = W.cs.map (lnT ∘ Ln.c) from List.map_congr_left fun r _ => line3_join kC_pre r,
    show (W.ss.map (line2 (Str.ofString "stuff "))) = W.ss.map (lnT ∘ Ln.s) from List.map_congr_left fun r _ => line2_join kS_pre r,
    show (W.ps.map fun p => pline p.1 p.2) = W.ps.map (lnT ∘ Ln.p) from List.map_congr_left fun r _ => pline_join r.1 r.2]
theorem fm_none {α β : Type} {f : α → Ln} {g : Ln → Option β} (h : ∀ a, g (f a) = none) : ∀ xs : List α, (xs.map f).filterMap g = []
  | [] => rfl
  | x :: xs => by rw [List.map_cons, List.filterMap_cons, h x, fm_none h xs]
theorem fm_some {α : Type} {f : α → Ln} {g : Ln → Option α} (h : ∀ a, g (f a) = some a) : ∀ xs : List α, (xs.map f).filterMap g = xs
  | [] => rfl
  | x :: xs => by rw [List.map_cons, List.filterMap_cons, h x, fm_some h xs]
theorem lns_m (W : Wd) : (lns W).filterMap getM = W.ms := by
  unfold lns
  rw [List.filterMap_append, List.filterMap_append, List.filterMap_append, fm_some (f := Ln.m) (g := getM) (fun _ => rfl), fm_none (f := Ln.c) (g := getM) (fun _ => rfl), fm_none (f := Ln.s) (g := getM) (fun _ => rfl), fm_none (f := Ln.p) (g := getM) (fun _ => rfl)]
  simp
theorem lns_c (W : Wd) : (lns W).filterMap getC = W.cs := by
  unfold lns
  rw [List.filterMap_append, List.filterMap_append, List.filterMap_append, fm_none (f := Ln.m) (g := getC) (fun _ => rfl), fm_some (f := Ln.c) (g := getC) (fun _ => rfl), fm_none (f := Ln.s) (g := getC) (fun _ => rfl), fm_none (f := Ln.p) (g := getC) (fun _ => rfl)]
  simp
theorem lns_s (W : Wd) : (lns W).filterMap getS = W.ss := by
  unfold lns
  rw [List.filterMap_append, List.filterMap_append, List.filterMap_append, fm_none (f := Ln.m) (g := getS) (fun _ => rfl), fm_none (f := Ln.c) (g := getS) (fun _ => rfl), fm_some (f := Ln.s) (g := getS) (fun _ => rfl), fm_none (f := Ln.p) (g := getS) (fun _ => rfl)]
  simp
theorem lns_p (W : Wd) : (lns W).filterMap getP = W.ps := by
  unfold lns
  rw [List.filterMap_append, List.filterMap_append, List.filterMap_append, fm_none (f := Ln.m) (g := getP) (fun _ => rfl), fm_none (f := Ln.c) (g := getP) (fun _ => rfl), fm_none (f := Ln.s) (g := getP) (fun _ => rfl), fm_some (f := Ln.p) (g := getP) (fun _ => rfl)]
  simp
/-- a line as it may be -/
def lnOk : Ln → Prop
  | .m r => isW r.1 = true ∧ 0 ≤ r.2.1 ∧ r.2.1 ≤ r.2.2 ∧ r.2.2 ≤ 1000
  | .c r => isW r.1 = true ∧ 0 ≤ r.2.1 ∧ r.2.1 ≤ r.2.2 ∧ r.2.2 ≤ 1000
  | .s r => isW r.1 = true ∧ 0 ≤ r.2 ∧ r.2 ≤ 1000000000000
  | .p r => isW r.1 = true ∧ r.2.length ≤ 3 ∧ ∀ b ∈ r.2, Small b
theorem lns_ok {W : Wd} (g : GoodF W) : ∀ x ∈ lns W, lnOk x := by
  intro x hx
  unfold lns at hx
  rcases List.mem_append.mp hx with hx | hx
  · rcases List.mem_append.mp hx with hx | hx
    · rcases List.mem_append.mp hx with hx | hx
      · obtain ⟨r, hr, rfl⟩ := List.mem_map.mp hx
        exact ⟨g.wm hr, g.mb r hr⟩
      · obtain ⟨r, hr, rfl⟩ := List.mem_map.mp hx
        exact ⟨g.wc hr, g.cb r hr⟩
    · obtain ⟨r, hr, rfl⟩ := List.mem_map.mp hx
      exact ⟨g.ws hr, g.sb r hr⟩
  · obtain ⟨r, hr, rfl⟩ := List.mem_map.mp hx
    have h := g.pb r hr
    have := g.s2
    exact ⟨g.wp hr, by omega, h.2⟩
theorem lnK_is (x : Ln) : lnK x = kM ∨ lnK x = kC ∨ lnK x = kS ∨ lnK x = kP := by
  cases x
  · exact .inl rfl
  · exact .inr (.inl rfl)
  · exact .inr (.inr (.inl rfl))
  · exact .inr (.inr (.inr rfl))
theorem lnW_free {x : Ln} (h : lnOk x) : ∀ y ∈ lnW x, Free 32 y := by
  cases x with
  | m r => exact wordsM_free (k := kM) h.1 h.2 (by omega)
  | c r => exact wordsM_free (k := kC) h.1 h.2 (by omega)
  | s r => exact wordsS_free h.1 h.2.1 (by omega)
  | p r => exact wordsP_free h.1 h.2.2 (by omega)
theorem split_ln {x : Ln} (h : lnOk x) : Txt.split (lnT x) sp1 = lnK x :: lnW x := split_line (lnK_is x) (lnW_free h)
theorem split_one {z : Str} (h : Free 45 z) : Txt.split z hy = [z] := by
  have e : z = Txt.join hy [z] := TL.ext_tl (by
    rw [tl_join2]
    rfl)
  have := split_at (sep := hy) (c := 45) tl_hy (by decide) (ys := [z]) (by simp) (fun y m => by
    rw [List.mem_singleton.mp m]
    exact h)
  rw [← e] at this
  exact this
theorem short_free {z : Str} (l : z.length ≤ 600) (h : Free 45 z) : Short z := ⟨l, fun p hp => by
  rw [split_one h] at hp
  rw [List.mem_singleton.mp hp]
  exact l⟩
theorem bword_len {b : Int × Int} (h : Small b) : (bword b).length ≤ 30 := by
  obtain ⟨s1, s2, s3⟩ := h
  have l1 := num_len s1 (Int.le_trans s2 s3)
  have l2 := num_len (Int.le_trans s1 s2) s3
  unfold bword
  rw [Str.length_append, Str.length_append, show (Str.ofString "-").length = 1 by decide +kernel]
  omega
theorem short_bword {b : Int × Int} (h : Small b) : Short (bword b) := by
  have l := bword_len h
  refine ⟨by omega, fun p hp => ?_⟩
  rw [split_bword h] at hp
  obtain ⟨s1, s2, s3⟩ := h
  have l1 := num_len s1 (Int.le_trans s2 s3)
  have l2 := num_len (Int.le_trans s1 s2) s3
  simp only [List.mem_cons, List.not_mem_nil, or_false] at hp
  rcases hp with rfl | rfl <;> omega
theorem short_name {z : Str} (h : isW z = true) : Short z := short_free (by have := isW_8 h; omega) (free_name h (by omega))
theorem short_num {i : Int} (h0 : 0 ≤ i) (h1 : i ≤ 1000000000000) : Short (num i) := short_free (by have := num_len h0 h1; omega) (free_num h0 (by omega))
theorem lnW_short {x : Ln} (h : lnOk x) : ∀ y ∈ lnW x, Short y := by
  intro y hy
  cases x with
  | m r =>
    obtain ⟨h1, h2, h3, h4⟩ := h
    simp only [lnW, List.mem_cons, List.not_mem_nil, or_false] at hy
    rcases hy with rfl | rfl | rfl
    · exact short_name h1
    · exact short_num h2 (by omega)
    · exact short_num (by omega) (by omega)
  | c r =>
    obtain ⟨h1, h2, h3, h4⟩ := h
    simp only [lnW, List.mem_cons, List.not_mem_nil, or_false] at hy
    rcases hy with rfl | rfl | rfl
    · exact short_name h1
    · exact short_num h2 (by omega)
    · exact short_num (by omega) (by omega)
  | s r =>
    obtain ⟨h1, h2, h3⟩ := h
    simp only [lnW, List.mem_cons, List.not_mem_nil, or_false] at hy
    rcases hy with rfl | rfl
    · exact short_name h1
    · exact short_num h2 h3
  | p r =>
    obtain ⟨h1, h2, h3⟩ := h
    simp only [lnW] at hy
    rcases List.mem_cons.mp hy with rfl | hy
    · exact short_name h1
    · obtain ⟨b, hb, rfl⟩ := List.mem_map.mp hy
      exact short_bword (h3 b hb)
theorem lnW_len {x : Ln} (h : lnOk x) : (lnW x).length ≤ 4 := by
  cases x with
  | m r => exact (by decide : 3 ≤ 4)
  | c r => exact (by decide : 3 ≤ 4)
  | s r => exact (by decide : 2 ≤ 4)
  | p r =>
    have := h.2.1
    show (r.1 :: r.2.map bword).length ≤ 4
    rw [List.length_cons, List.length_map]
    omega
theorem pair_bnd {H : Hp} {v : V} {b : Int × Int} (s : Small b) (h : PairAt H v (bword b)) : Bnd H v b := by
  obtain ⟨a, rfl, e⟩ := h
  obtain ⟨s1, s2, s3⟩ := s
  rw [split_bword ⟨s1, s2, s3⟩, List.map_cons, List.map_cons, List.map_nil, rdN_num s1, rdN_num (Int.le_trans s1 s2)] at e
  exact ⟨a, rfl, e⟩
theorem pairs_bnds {H : Hp} : ∀ {vs : List V} {bs : List (Int × Int)}, (∀ b ∈ bs, Small b) → Paired (PairAt H) vs (bs.map bword) → Paired (Bnd H) vs bs
  | [], [], _, _ => .nil
  | v :: vs, b :: bs, s, .cons h t => .cons (pair_bnd (s b (List.mem_cons_self ..)) h) (pairs_bnds (fun x hx => s x (List.mem_cons_of_mem _ hx)) t)
end LJ
set_option Elab.async false
set_option linter.all false
set_option maxRecDepth 100000
set_option maxHeartbeats 4000000
/-! Data that can be shown. -/
namespace LJ
open PySem L2 PySem.ErrV
open LamX (ExtN)
section
variable {H H1 : Hp}
mutual
theorem rp_seqN (s : ExtN H H1) : ∀ (d : PyData) (x : V), rp H d x → rp H1 d x
  | .none, x, e => by
    unfold rp at e ⊢
    exact e
  | .bool b, x, e => by
    unfold rp at e ⊢
    exact e
  | .int i, x, e => by
    unfold rp at e ⊢
    exact e
  | .str z, x, e => by
    unfold rp at e ⊢
    exact e
  | .list ds, x, e => by
    unfold rp at e ⊢
    obtain ⟨a, xs, h1, h2, h3⟩ := e
    exact ⟨a, xs, h1, s _ _ h2 (fun _ z => nomatch z), rpAll_seqN s ds xs h3⟩
  | .tuple ds, x, e => by
    unfold rp at e ⊢
    obtain ⟨a, xs, h1, h2, h3⟩ := e
    exact ⟨a, xs, h1, s _ _ h2 (fun _ z => nomatch z), rpAll_seqN s ds xs h3⟩
  | .dict ds, x, e => by
    unfold rp at e
    exact e.elim
theorem rpAll_seqN (s : ExtN H H1) : ∀ (ds : List PyData) (xs : List V), rpAll H ds xs → rpAll H1 ds xs
  | [], xs, e => by
    unfold rpAll at e ⊢
    exact e
  | d :: ds, xs, e => by
    unfold rpAll at e ⊢
    obtain ⟨y, ys, h1, h2, h3⟩ := e
    exact ⟨y, ys, h1, rp_seqN s d y h2, rpAll_seqN s ds ys h3⟩
end
theorem rpD_seqN (s : ExtN H H1) {d : PyData} {x : V} (e : rpD H d x) : rpD H1 d x := by
  obtain ⟨a, kvs, ds, h1, h2, h3⟩ := e
  exact ⟨a, kvs, ds, h1, s _ _ h2 (fun _ z => nomatch z), h3⟩
end
/-- x is the datum d, small enough to be shown -/
structure Dat (H : Hp) (d : PyData) (x : V) : Prop where
  at_ : rp H d x ∨ rpD H d x
  sh : d.showable = true
  dp : d.depth ≤ 100
  sz : d.shown.length ≤ sizeLine
  ok : PyData.strOk d.shown = true
theorem Dat.exN {H H1 : Hp} {d : PyData} {x : V} (h : Dat H d x) (s : ExtN H H1) : Dat H1 d x :=
  ⟨h.at_.elim (fun e => .inl (rp_seqN s d x e)) fun e => .inr (rpD_seqN s e), h.sh, h.dp, h.sz, h.ok⟩
end LJ
set_option Elab.async false
set_option linter.all false
set_option maxRecDepth 100000
set_option maxHeartbeats 8000000
namespace LJ
open PySem PySem.Spec L2 PySem.ErrV
/-! Works as data. -/
/-- data that can be shown and compared -/
structure Shw (dep wt : Nat) (d : PyData) : Prop where
  lay : d.canLay0 = true
  dp : d.depth ≤ dep
  wt : d.weight ≤ wt
  ish : PyData.intsShort 13 d = true
  sh : d.showable = true
theorem num_len13 {i : Int} (h0 : 0 ≤ i) (h1 : i ≤ 1000000000000) : (num i).length ≤ 13 := by
  show (TL.tl (num i)).length ≤ 13
  rw [tl_num h0]
  refine TL.numL_len (by decide) ?_
  have : (10 : Nat) ^ 13 = 10000000000000 := by decide
  omega
theorem shw_int {i : Int} (h0 : 0 ≤ i) (h1 : i ≤ 1000000000000) : Shw 0 60 (.int i) where
  lay := rfl
  dp := Nat.le_refl _
  wt := by
    unfold PyData.weight
    split
    · omega
    · rename_i z
      have l : i.natAbs < 2 ^ 41 := by
        have : (2 : Nat) ^ 41 = 2199023255552 := by decide
        omega
      by_cases e : i.natAbs = 0
      · rw [e]
        decide
      · have := (Nat.log2_lt e).mpr l
        omega
  ish := decide_eq_true (num_len13 h0 h1)
  sh := decide_eq_true (num_log h0 h1)
theorem shw_str {z : Str} (h : isW z = true) : Shw 0 60 (.str z) where
  lay := by
    show PyData.strOk z = true
    unfold PyData.strOk
    rw [← Array.all_toList, List.all_eq_true]
    intro c hc
    unfold isW at h
    rw [Bool.and_eq_true, Bool.and_eq_true] at h
    have := List.all_eq_true.mp h.2.2 c hc
    rw [Bool.and_eq_true, decide_eq_true_eq, decide_eq_true_eq] at this
    exact decide_eq_true (by omega)
  dp := Nat.le_refl _
  wt := by
    show z.length ≤ 60
    have := isW_8 h
    omega
  ish := rfl
  sh := rfl
theorem Shw.mono {a b n m : Nat} {d : PyData} (h : Shw a n d) (x : a ≤ b) (y : n ≤ m) : Shw b m d := ⟨h.lay, Nat.le_trans h.dp x, Nat.le_trans h.wt y, h.ish, h.sh⟩
theorem shw_all {a n : Nat} : ∀ {ds : List PyData}, (∀ d ∈ ds, Shw a n d) → PyData.canLayAll0 ds = true ∧ PyData.depthAll ds ≤ a ∧ PyData.weightAll ds ≤ ds.length * (n + 1) ∧ PyData.intsShortAll 13 ds = true ∧ PyData.showableAll ds = true
  | [], _ => ⟨rfl, Nat.zero_le _, Nat.zero_le _, rfl, rfl⟩
  | d :: ds, h => by
    obtain ⟨h1, h2, h3, h4, h5⟩ := shw_all (ds := ds) fun x hx => h x (List.mem_cons_of_mem _ hx)
    obtain ⟨k1, k2, k3, k4, k5⟩ := h d (List.mem_cons_self ..)
    refine ⟨?_, ?_, ?_, ?_, ?_⟩
    · unfold PyData.canLayAll0
      rw [k1, h1]
      rfl
    · unfold PyData.depthAll
      omega
    · unfold PyData.weightAll
      rw [List.length_cons, Nat.add_mul]
      omega
    · unfold PyData.intsShortAll
      rw [k4, h4]
      rfl
    · unfold PyData.showableAll
      rw [k5, h5]
      rfl
theorem shw_tuple {a n m : Nat} {ds : List PyData} (h : ∀ d ∈ ds, Shw a n d) (l : ds.length ≤ m) : Shw (a + 1) (m * (n + 1)) (.tuple ds) := by
  obtain ⟨h1, h2, h3, h4, h5⟩ := shw_all h
  have l2 : ds.length * (n + 1) ≤ m * (n + 1) := Nat.mul_le_mul_right _ l
  refine ⟨h1, ?_, ?_, h4, h5⟩
  · unfold PyData.depth
    omega
  · unfold PyData.weight
    omega
theorem shw_list {a n m : Nat} {ds : List PyData} (h : ∀ d ∈ ds, Shw a n d) (l : ds.length ≤ m) : Shw (a + 1) (m * (n + 1)) (.list ds) := by
  obtain ⟨h1, h2, h3, h4, h5⟩ := shw_all h
  have l2 : ds.length * (n + 1) ≤ m * (n + 1) := Nat.mul_le_mul_right _ l
  refine ⟨h1, ?_, ?_, h4, h5⟩
  · unfold PyData.depth
    omega
  · unfold PyData.weight
    omega
theorem Shw.len {a n : Nat} {d : PyData} (h : Shw a n d) (x : a ≤ 64) (y : n ≤ 1000000) : d.shown.length ≤ sizeLine := by
  have z : d.layable0 = true := by
    unfold PyData.layable0
    rw [h.lay, decide_eq_true (p := d.depth ≤ 64) (Nat.le_trans h.dp x), decide_eq_true (p := d.weight ≤ 2 ^ 20) (Nat.le_trans h.wt (Nat.le_trans y (by decide)))]
    rfl
  have := PyData.shown_le_of_layable0 z h.ish
  rw [sizeLine_eq]
  omega
theorem Shw.shaped {a n : Nat} {d : PyData} (h : Shw a n d) (x : a ≤ 64) : SeqAt.shaped d = true := by
  unfold SeqAt.shaped
  rw [h.lay, decide_eq_true (p := d.depth ≤ 64) (Nat.le_trans h.dp x)]
  rfl
def dB (b : Int × Int) : PyData := .tuple [.int b.1, .int b.2]
def d3 (r : Str × Int × Int) : PyData := .tuple [.str r.1, .int r.2.1, .int r.2.2]
def d2 (r : Str × Int) : PyData := .tuple [.str r.1, .int r.2]
def dP (r : Str × List (Int × Int)) : PyData := .tuple [.str r.1, .tuple (r.2.map dB)]
def dW (W : Wd) : List PyData := [.tuple (W.ms.map d3), .tuple (W.cs.map d3), .tuple (W.ss.map d2), .tuple (W.ps.map dP)]
theorem shw_B {b : Int × Int} (s : Small b) : Shw 1 122 (dB b) := by
  obtain ⟨s1, s2, s3⟩ := s
  refine shw_tuple (a := 0) (n := 60) (ds := [.int b.1, .int b.2]) (m := 2) (fun d hd => ?_) (Nat.le_refl 2)
  simp only [List.mem_cons, List.not_mem_nil, or_false] at hd
  rcases hd with rfl | rfl
  · exact shw_int s1 (Int.le_trans s2 s3)
  · exact shw_int (Int.le_trans s1 s2) s3
theorem shw_3 {r : Str × Int × Int} (w : isW r.1 = true) (b : 0 ≤ r.2.1 ∧ r.2.1 ≤ r.2.2 ∧ r.2.2 ≤ 1000) : Shw 1 183 (d3 r) := by
  refine shw_tuple (a := 0) (n := 60) (ds := [.str r.1, .int r.2.1, .int r.2.2]) (m := 3) (fun d hd => ?_) (Nat.le_refl 3)
  simp only [List.mem_cons, List.not_mem_nil, or_false] at hd
  rcases hd with rfl | rfl | rfl
  · exact shw_str w
  · exact shw_int (by omega) (by omega)
  · exact shw_int (by omega) (by omega)
theorem shw_2 {r : Str × Int} (w : isW r.1 = true) (b : 0 ≤ r.2 ∧ r.2 ≤ 1000000000000) : Shw 1 122 (d2 r) := by
  refine shw_tuple (a := 0) (n := 60) (ds := [.str r.1, .int r.2]) (m := 2) (fun d hd => ?_) (Nat.le_refl 2)
  simp only [List.mem_cons, List.not_mem_nil, or_false] at hd
  rcases hd with rfl | rfl
  · exact shw_str w
  · exact shw_int b.1 b.2
theorem shw_P {r : Str × List (Int × Int)} (w : isW r.1 = true) (l : r.2.length ≤ 3) (b : ∀ x ∈ r.2, Small x) : Shw 3 1000 (dP r) := by
  have h1 : Shw 2 369 (.tuple (r.2.map dB)) := shw_tuple (m := 3) (fun d hd => by
    obtain ⟨x, hx, rfl⟩ := List.mem_map.mp hd
    exact shw_B (b x hx)) (by rw [List.length_map]; exact l)
  refine (shw_tuple (ds := [.str r.1, .tuple (r.2.map dB)]) (a := 2) (n := 369) (m := 2) (fun d hd => ?_) (Nat.le_refl 2)).mono (Nat.le_refl _) (by decide)
  simp only [List.mem_cons, List.not_mem_nil, or_false] at hd
  rcases hd with rfl | rfl
  · exact (shw_str w).mono (by decide) (by decide)
  · exact h1
theorem shw_W {W : Wd} (g : GoodF W) : Shw 5 100000 (.list (dW W)) := by
  have g1 := g.m2
  have g2 := g.c2
  have g3 := g.s2
  have g4 := g.p2
  refine (shw_list (ds := dW W) (a := 4) (n := 8008) (m := 4) (fun d hd => ?_) (Nat.le_refl 4)).mono (Nat.le_refl _) (by decide)
  unfold dW at hd
  simp only [List.mem_cons, List.not_mem_nil, or_false] at hd
  rcases hd with rfl | rfl | rfl | rfl
  · exact (shw_tuple (a := 1) (n := 183) (m := 8) (fun d hd => by
      obtain ⟨x, hx, rfl⟩ := List.mem_map.mp hd
      exact shw_3 (g.wm hx) (g.mb x hx)) (by rw [List.length_map]; omega)).mono (by decide) (by decide)
  · exact (shw_tuple (a := 1) (n := 183) (m := 8) (fun d hd => by
      obtain ⟨x, hx, rfl⟩ := List.mem_map.mp hd
      exact shw_3 (g.wc hx) (g.cb x hx)) (by rw [List.length_map]; omega)).mono (by decide) (by decide)
  · exact (shw_tuple (a := 1) (n := 122) (m := 8) (fun d hd => by
      obtain ⟨x, hx, rfl⟩ := List.mem_map.mp hd
      exact shw_2 (g.ws hx) (g.sb x hx)) (by rw [List.length_map]; omega)).mono (by decide) (by decide)
  · exact (shw_tuple (a := 3) (n := 1000) (m := 8) (fun d hd => by
      obtain ⟨x, hx, rfl⟩ := List.mem_map.mp hd
      have h := g.pb x hx
      exact shw_P (g.wp hx) (by omega) h.2) (by rw [List.length_map]; omega)).mono (by decide) (by decide)
/-! as what is shown -/
theorem rpAll_of {α : Type} {H : Hp} {f : α → PyData} : ∀ {vs : List V} {rs : List α}, Paired (fun v r => rp H (f r) v) vs rs → rpAll H (rs.map f) vs
  | _, _, .nil => by
    unfold rpAll
    rfl
  | v :: vs, r :: rs, .cons a t => by
    show rpAll H (f r :: rs.map f) (v :: vs)
    unfold rpAll
    exact ⟨v, vs, rfl, a, rpAll_of t⟩
theorem rp_B {H : Hp} {v : V} {b : Int × Int} (h : Bnd H v b) : rp H (dB b) v := by
  obtain ⟨a, rfl, e⟩ := h
  unfold dB rp
  exact ⟨a, _, rfl, e, by simp [rpAll, rp]⟩
theorem rp_3 {H : Hp} {v : V} {r : Str × Int × Int} (h : Row3 H v r) : rp H (d3 r) v := by
  obtain ⟨a, rfl, e⟩ := h
  unfold d3 rp
  exact ⟨a, _, rfl, e, by simp [rpAll, rp]⟩
theorem rp_2 {H : Hp} {v : V} {r : Str × Int} (h : Row2 H v r) : rp H (d2 r) v := by
  obtain ⟨a, rfl, e⟩ := h
  unfold d2 rp
  exact ⟨a, _, rfl, e, by simp [rpAll, rp]⟩
theorem rp_tup {α : Type} {H : Hp} {f : α → PyData} {a : Addr} {vs : List V} {rs : List α} (e : H a = some (.tup vs)) (h : Paired (fun v r => rp H (f r) v) vs rs) : rp H (.tuple (rs.map f)) (.ref a) := by
  unfold rp
  exact ⟨a, vs, rfl, e, rpAll_of h⟩
theorem rp_P {H : Hp} {v : V} {r : Str × List (Int × Int)} (h : RowP H v r) : rp H (dP r) v := by
  obtain ⟨a, t, vs, rfl, e, et, p⟩ := h
  have h1 : rp H (.tuple (r.2.map dB)) (.ref t) := rp_tup et (L2.Paired.mapP p fun _ _ z => rp_B z)
  unfold dP
  unfold rp
  refine ⟨a, _, rfl, e, ?_⟩
  unfold rpAll
  refine ⟨_, _, rfl, by unfold rp; rfl, ?_⟩
  unfold rpAll
  exact ⟨_, _, rfl, h1, by unfold rpAll; rfl⟩
end LJ
set_option Elab.async false
set_option linter.all false
set_option maxRecDepth 100000
set_option maxHeartbeats 8000000
/-! The names that the laws about rules draw: words of a list, or a stem with one sign put in. -/
namespace LJ
open PySem PySem.Spec L2
def wordsR : List Str := ["run", "clean", "rule", "machine", "none", "a", "ab", "cleaning", "stuff", "product", "b", "aa", "bar", "keeps", "most", "zzzzzzzz", "ever", "cake", "names"]
def abc : Str := "abcdefghijklmnopqrstuvwxyz"
def stepsR : List Int := [1, 3, 5, 7, 9, 11]
def nmA (s g : Int) (n : Nat) : List Str := (List.range n).map fun (k : Nat) => wordsR.getD ((s + (k : Int) * g) % 19).toNat Str.empty
theorem nmA_nodup : ∀ s : Fin 26, ∀ g ∈ stepsR, (nmA (s.val : Int) g 19).Nodup := by decide +kernel
theorem wordsR_w : ∀ x ∈ wordsR, isW x = true := by decide +kernel
def nmI (s g : Int) (n : Nat) : List Nat := (List.range n).map fun (k : Nat) => ((s + (k : Int) * g) % 26).toNat
theorem nmI_nodup : ∀ s : Fin 26, ∀ g ∈ stepsR, (nmI (s.val : Int) g 26).Nodup := by decide +kernel
/-- the stem with a sign put in -/
def inn (z : Str) (i : Int) (k : Nat) : Str := cutS z none (some i) ++ ⟨#[97 + k]⟩ ++ cutS z (some i) none
def nmB (z : Str) (i s g : Int) (n : Nat) : List Str := (nmI s g n).map (inn z i)
theorem range_take {α : Type} (f : Nat → α) {n m : Nat} (h : n ≤ m) : (List.range n).map f = ((List.range m).map f).take n := by
  rw [← List.map_take, List.take_range, Nat.min_eq_left h]
theorem nmA_ok {s g : Int} {n : Nat} (s0 : 0 ≤ s) (s1 : s < 26) (hg : g ∈ stepsR) (hn : n ≤ 19) : (nmA s g n).Nodup ∧ ∀ x ∈ nmA s g n, isW x = true := by
  constructor
  · have z := nmA_nodup ⟨s.toNat, by omega⟩ g hg
    have e : ((s.toNat : Nat) : Int) = s := Int.toNat_of_nonneg s0
    simp only [e] at z
    unfold nmA at z ⊢
    rw [range_take _ hn]
    exact List.Sublist.nodup (List.take_sublist ..) z
  · intro x hx
    unfold nmA at hx
    obtain ⟨k, _, rfl⟩ := List.mem_map.mp hx
    have h0 : 0 ≤ (s + (k : Int) * g) % 19 := Int.emod_nonneg _ (by decide)
    have h1 : (s + (k : Int) * g) % 19 < 19 := Int.emod_lt_of_pos _ (by decide)
    have hl : ((s + (k : Int) * g) % 19).toNat < wordsR.length := by
      show _ < 19
      omega
    rw [List.getD_eq_getElem?_getD, List.getElem?_eq_getElem hl]
    exact wordsR_w _ (List.getElem_mem hl)
theorem cut_take {z : Str} {i : Int} (h0 : 0 ≤ i) (h1 : i ≤ z.length) : (cutS z none (some i)).cps.toList = z.cps.toList.take i.toNat := by
  unfold cutS HT.sIx
  simp only
  rw [if_neg (by omega), List.drop_zero]
  show List.take _ _ = _
  congr 1
  omega
theorem cut_drop {z : Str} {i : Int} (h0 : 0 ≤ i) (h1 : i ≤ z.length) : (cutS z (some i) none).cps.toList = z.cps.toList.drop i.toNat := by
  unfold cutS HT.sIx
  simp only
  rw [if_neg (by omega)]
  have e : (i.toNat : Nat) = min z.length i.toNat := by omega
  have lz : z.cps.toList.length = z.length := Array.length_toList
  show List.take _ _ = _
  refine (List.take_of_length_le ?_).trans ?_
  · rw [List.length_drop, lz]
    omega
  · congr 1
    omega
theorem inn_tl {z : Str} {i : Int} {k : Nat} (h0 : 0 ≤ i) (h1 : i ≤ z.length) : (inn z i k).cps.toList = z.cps.toList.take i.toNat ++ (97 + k) :: z.cps.toList.drop i.toNat := by
  unfold inn
  have e : ∀ a b : Str, (a ++ b).cps.toList = a.cps.toList ++ b.cps.toList := fun a b => TL.tl_append a b
  rw [e, e, cut_take h0 h1, cut_drop h0 h1, List.append_assoc]
  rfl
theorem inn_inj {z : Str} {i : Int} (h0 : 0 ≤ i) (h1 : i ≤ z.length) {a b : Nat} (e : inn z i a = inn z i b) : a = b := by
  have e2 : (inn z i a).cps.toList = (inn z i b).cps.toList := by rw [e]
  rw [inn_tl h0 h1, inn_tl h0 h1] at e2
  have e3 := List.append_cancel_left e2
  injection e3 with e4 e5
  omega
theorem nmB_ok {z : Str} {i s g : Int} {n : Nat} (hz : z.length ≤ 7) (lz : ∀ c ∈ z.cps.toList, 97 ≤ c ∧ c ≤ 122) (h0 : 0 ≤ i) (h1 : i ≤ z.length) (s0 : 0 ≤ s) (s1 : s < 26) (hg : g ∈ stepsR) (hn : n ≤ 26) : (nmB z i s g n).Nodup ∧ ∀ x ∈ nmB z i s g n, isW x = true := by
  constructor
  · have zz := nmI_nodup ⟨s.toNat, by omega⟩ g hg
    have e : ((s.toNat : Nat) : Int) = s := Int.toNat_of_nonneg s0
    simp only [e] at zz
    have t : nmI s g n = (nmI s g 26).take n := range_take _ hn
    have nd : (nmI s g n).Nodup := by
      rw [t]
      exact List.Sublist.nodup (List.take_sublist ..) zz
    unfold nmB
    exact List.Pairwise.map _ (fun a b hab e => hab (inn_inj h0 h1 e)) nd
  · intro x hx
    unfold nmB nmI at hx
    rw [List.map_map] at hx
    obtain ⟨k, _, rfl⟩ := List.mem_map.mp hx
    have q0 : 0 ≤ (s + (k : Int) * g) % 26 := Int.emod_nonneg _ (by decide)
    have q1 : (s + (k : Int) * g) % 26 < 26 := Int.emod_lt_of_pos _ (by decide)
    have tl := inn_tl (k := ((s + (k : Int) * g) % 26).toNat) h0 h1
    have l7 : z.cps.toList.length = z.length := Array.length_toList
    have len : (inn z i ((s + (k : Int) * g) % 26).toNat).length = z.length + 1 := by
      show Array.size _ = _
      rw [← Array.length_toList, tl, List.length_append, List.length_cons, List.length_take, List.length_drop]
      omega
    show isW (inn z i ((s + (k : Int) * g) % 26).toNat) = true
    unfold isW
    rw [len, tl]
    simp only [Bool.and_eq_true, decide_eq_true_eq, List.all_eq_true]
    refine ⟨by omega, by omega, fun c hc => ?_⟩
    rcases List.mem_append.mp hc with h | h
    · exact lz c (List.mem_of_mem_take h)
    · rcases List.mem_cons.mp h with rfl | h
      · omega
      · exact lz c (List.mem_of_mem_drop h)
/-- texts of one sign each, joined -/
theorem stem_ok {ks : List Nat} (h : ∀ k ∈ ks, k < 26) : (Txt.join (Str.ofString "") (ks.map fun k => (⟨#[97 + k]⟩ : Str))).length = ks.length ∧ ∀ c ∈ (Txt.join (Str.ofString "") (ks.map fun k => (⟨#[97 + k]⟩ : Str))).cps.toList, 97 ≤ c ∧ c ≤ 122 := by
  have e : (Txt.join (Str.ofString "") (ks.map fun k => (⟨#[97 + k]⟩ : Str))).cps.toList = ks.map (97 + ·) := by
    have z := join_nil_sep (ks.map fun k => (⟨#[97 + k]⟩ : Str))
    refine z.trans ?_
    rw [List.map_map]
    clear z h
    induction ks with
    | nil => rfl
    | cons k ks ih =>
      rw [List.map_cons, List.flatten_cons, ih, List.map_cons]
      rfl
  constructor
  · show Array.size _ = _
    rw [← Array.length_toList, e, List.length_map]
  · intro c hc
    rw [e] at hc
    obtain ⟨k, hk, rfl⟩ := List.mem_map.mp hc
    have := h k hk
    omega
theorem abc_at {i : Int} (h0 : 0 ≤ i) (h1 : i < 26) : atI abc.cps.toList i = some (97 + i.toNat) := by
  have d : ∀ k : Fin 26, abc.cps.toList[k.val]? = some (97 + k.val) := by decide +kernel
  have e : atI abc.cps.toList (i.toNat : Int) = some (97 + i.toNat) := atI_nat (d ⟨i.toNat, by omega⟩)
  rwa [Int.toNat_of_nonneg h0] at e
theorem wordsR_at {i : Int} (h0 : 0 ≤ i) (h1 : i < 19) : atI (wordsR.map V.str) i = some (.str (wordsR.getD i.toNat Str.empty)) := by
  have hl : i.toNat < wordsR.length := by
    show _ < 19
    omega
  have e : atI (wordsR.map V.str) (i.toNat : Int) = some (.str (wordsR.getD i.toNat Str.empty)) := by
    refine atI_nat ?_
    rw [List.getElem?_map, List.getD_eq_getElem?_getD, List.getElem?_eq_getElem hl]
    rfl
  rwa [Int.toNat_of_nonneg h0] at e
theorem nmA_succ (s g : Int) (n : Nat) : nmA s g (n + 1) = nmA s g n ++ [wordsR.getD ((s + (n : Int) * g) % 19).toNat Str.empty] := by
  unfold nmA
  rw [List.range_succ, List.map_append]
  rfl
theorem nmB_succ (z : Str) (i s g : Int) (n : Nat) : nmB z i s g (n + 1) = nmB z i s g n ++ [inn z i ((s + (n : Int) * g) % 26).toNat] := by
  unfold nmB nmI
  rw [List.range_succ, List.map_append, List.map_append]
  rfl
theorem nmA_len (s g : Int) (n : Nat) : (nmA s g n).length = n := by
  unfold nmA
  rw [List.length_map, List.length_range]
theorem nmB_len (z : Str) (i s g : Int) (n : Nat) : (nmB z i s g n).length = n := by
  unfold nmB nmI
  rw [List.length_map, List.length_map, List.length_range]
end LJ
set_option Elab.async false
set_option linter.all false
set_option maxRecDepth 100000
set_option maxHeartbeats 8000000
/-! _law_names of the laws about rules. -/
namespace LJ
open PySem PySem.Spec L2
abbrev sNames : Stmt := top 54
def spNames : Sp := fun vs H Q _ => ∃ (j : Addr) (n : Nat), vs = [.ref j, .int n] ∧ JarAt H j ∧ n ≤ 19 ∧ ∀ (p : Addr) (ls : List Str) (H1 : Hp), ls.length = n → ls.Nodup → (∀ x ∈ ls, isW x = true) → JarAt H1 j → But j H H1 → H p = none → p ≠ j → H1 p = some (.lst (ls.map V.str)) → Q (.ref p) H1
structure BltN (mg : Str → Option Value) : Prop where
  range : mg "range" = none
  int : mg "int" = none
def K13 : List Str := ["run", "clean", "rule", "machine", "none", "a", "ab", "cleaning", "stuff", "product", "b", "aa", "bar"]
def K6 : List Str := ["keeps", "most", "zzzzzzzz", "ever", "cake", "names"]
theorem jar_ex {j : Addr} {H H1 : Hp} (e : Ex H H1) (J : JarAt H j) : JarAt H1 j := by
  obtain ⟨d, m, c, h, r⟩ := J
  exact ⟨d, m, c, e _ _ h, r⟩
section
variable {P : Program} {w : World} {K : PySem.W.Frag} {mg : Str → Option Value} {base : Heap}
abbrev nNames : List Str := ["_law_jar_here", "_law_many", "_law_words", "_law_letters", "_law_step", "_law_begin", "_law_size", "_law_stem", "_law_at", "_law_k"]
theorem scNames : FnScope nNames ["_law_jar_here", "_law_many"] (defScope sNames) := ⟨rfl, rfl, rfl, by decide +kernel, rfl, by decide +kernel, by decide +kernel⟩
theorem big100 {n : Nat} (h : n ≤ 100) : n ≤ sizeLine := by rw [sizeLine_eq]; omega
theorem ok_names {f fD fO : Addr} {fd fdD fdO : FuncData} (F : Fun K "_law_names" "_law_names" sNames f fd) (T : BltN mg)
    (GD : FnOk P w K mg base CX0 1 fD fdD ["_law_jar_here", "_law_top"] spDip) (mD : mg "_law_tap" = some (.ref fD)) (kD : PySem.W.keepIn K (.ref fD) = true) (bD : Binds K fdD ["_law_jar_here", "_law_top"] [])
    (GO : FnOk P w K mg base CX0 2 fO fdO ["_law_jar_here", "_law_things"] spOne) (mO : mg "_law_one" = some (.ref fO)) (kO : PySem.W.keepIn K (.ref fO) = true) (bO : Binds K fdO ["_law_jar_here", "_law_things"] []) :
    FnOk P w K mg base CX0 3 f fd ["_law_jar_here", "_law_many"] spNames := by
  refine F.ok scNames (fun vs H Q E h => ?_) (fun cdv A outer s H vs Q E hr h => ?_)
  · obtain ⟨j, n, rfl, _⟩ := h
    rfl
  · obtain ⟨j, n, rfl, J, hn, k⟩ := h
    have hr1 : Room 1 _ := hr.mono (by decide)
    refine ⟨_, pss_cons (ps_set (i := 2) scNames.nd rfl (Or.inr rfl) (pe_lst (pa_cons pe_str (pa_cons pe_str (pa_cons pe_str (pa_cons pe_str (pa_cons pe_str (pa_cons pe_str (pa_cons pe_str (pa_cons pe_str (pa_cons pe_str (pa_cons pe_str (pa_cons pe_str (pa_cons pe_str (pa_cons pe_str pa_nil)))))))))))))))
      (pss_cons (ps_set (i := 2) scNames.nd rfl (Or.inr rfl) (pe_op op_cat (pv 2) (pe_lst (pa_cons pe_str (pa_cons pe_str (pa_cons pe_str (pa_cons pe_str (pa_cons pe_str (pa_cons pe_str pa_nil)))))))))
      (pss_cons (ps_asg (pe_tup (pa_cons pe_str (pa_cons (pe_call GO hr (by rfl) mO kO bO .nil pass0 (pa_cons (pv 0) (pa_cons (pe_lst (pa_cons pe_int (pa_cons pe_int (pa_cons pe_int (pa_cons pe_int (pa_cons pe_int (pa_cons pe_int pa_nil))))))) pa_nil))) pa_nil)))
        (pg_tup (by rfl) (pgs_cons (pg_name (i := 3) scNames.nd rfl (Or.inr rfl)) (pgs_cons (pg_name (i := 4) scNames.nd rfl (Or.inr rfl)) pgs_nil))))
      (pss_cons (ps_asg (pe_tup (pa_cons (pe_call GD hr1 (by rfl) mD kD bD .nil pass0 (pa_cons (pv 0) (pa_cons pe_int pa_nil))) (pa_cons (pe_call GD hr1 (by rfl) mD kD bD .nil pass0 (pa_cons (pv 0) (pa_cons pe_int pa_nil))) pa_nil))) (pg_tup (by rfl) (pgs_cons (pg_name (i := 5) scNames.nd rfl (Or.inr rfl)) (pgs_cons (pg_name (i := 6) scNames.nd rfl (Or.inl rfl)) pgs_nil))))
      (pss_cons (ps_if (pt_cmpR op_eq (pe_call GD hr1 (by rfl) mD kD bD .nil pass0 (pa_cons (pv 0) (pa_cons pe_int pa_nil))) pe_int (nomark _))
        (pss_one (ps_ret (pe_lc (own := [("_law_k", 9)]) (g := gName 9) (by rfl) scNames.nd (pi_range1 (by rfl) T.range (pa_cons (pv 1) pa_nil)) (blkOk_by (own := [("_law_k", 9)]) (N := nNames) (sc := defScope sNames) (by decide +kernel)) (fun _ _ _ _ _ => pg_name (i := 9) scNames.nd rfl (Or.inl rfl)) (fun _ _ _ _ _ => pts_nil)
          (fun _ _ _ _ _ => pe_ix (show IxR _ (rIxL K) from ix_list) (pv 2) (pe_op op_mod (pe_callTy call_int1 (by rfl) T.int (by decide +kernel) (pa_cons (pe_op op_add (pv 5) (pe_op op_mul (pv 9) (pv 4))) pa_nil)) pe_int) (fun _ _ => rfl))))) pss_nil)
      (pss_cons (ps_asg (pe_tup
        (pa_cons (pe_join pe_str (pe_lc (own := [("_law_k", 9)]) (g := gName 9) (by rfl) scNames.nd (pi_range1 (by rfl) T.range (pa_cons (pv 6) pa_nil)) (blkOk_by (own := [("_law_k", 9)]) (N := nNames) (sc := defScope sNames) (by decide +kernel)) (fun _ _ _ _ _ => pg_name (i := 9) scNames.nd rfl (Or.inl rfl)) (fun _ _ _ _ _ => pts_nil)
          (fun _ _ _ _ _ => pe_ix ix_str (pv 3) (pe_call GD hr1 (by rfl) mD kD bD .nil pass0 (pa_cons (pv 0) (pa_cons pe_int pa_nil))) (fun _ _ => rfl))))
        (pa_cons (pe_call GD hr1 (by rfl) mD kD bD .nil pass0 (pa_cons (pv 0) (pa_cons (pe_op op_add (pv 6) pe_int) pa_nil))) pa_nil))) (pg_tup (by rfl) (pgs_cons (pg_name (i := 7) scNames.nd rfl (Or.inr rfl)) (pgs_cons (pg_name (i := 8) scNames.nd rfl (Or.inr rfl)) pgs_nil))))
      (pss_one (ps_ret (pe_lc (own := [("_law_k", 9)]) (g := gName 9) (by rfl) scNames.nd (pi_range1 (by rfl) T.range (pa_cons (pv 1) pa_nil)) (blkOk_by (own := [("_law_k", 9)]) (N := nNames) (sc := defScope sNames) (by decide +kernel)) (fun _ _ _ _ _ => pg_name (i := 9) scNames.nd rfl (Or.inl rfl)) (fun _ _ _ _ _ => pts_nil)
          (fun _ _ _ _ _ => pe_op op_add_str (pe_op op_add_str (pe_slice sl_str (pv 7) po_none (po_some (pv 8))) (pe_ix ix_str (pv 3) (pe_op op_mod (pe_callTy call_int1 (by rfl) T.int (by decide +kernel) (pa_cons (pe_op op_add (pv 5) (pe_op op_mul (pv 9) (pv 4))) pa_nil)) pe_int) (fun _ _ => rfl))) (pe_slice sl_str (pv 7) (po_some (pv 8)) po_none)))))))))), ?_⟩
    refine ⟨big100 (Nat.le_of_ble_eq_true rfl), fun p1 n1 => ?_⟩
    have x1 := (Ex.refl (H := H)).new (o := .lst (K13.map V.str)) n1
    have e1 : (upd H p1 (.lst (K13.map V.str))) p1 = some (.lst (K13.map V.str)) := upd_same
    rw [show ([V.str "run", V.str "clean", V.str "rule", V.str "machine", V.str "none", V.str "a", V.str "ab", V.str "cleaning", V.str "stuff", V.str "product", V.str "b", V.str "aa", V.str "bar"] : List V) = K13.map V.str from rfl]
    generalize upd H p1 (.lst (K13.map V.str)) = H1 at x1 e1 ⊢
    refine ⟨_, rfl, big100 (Nat.le_of_ble_eq_true rfl), fun p2 n2 => ?_⟩
    refine ⟨p1, p2, _, _, rfl, rfl, (by rw [upd_ne (ne_of_none e1 n2)]; exact e1), upd_same, big100 (Nat.le_of_ble_eq_true rfl), fun p3 n3 => ?_⟩
    rw [show ([V.str "keeps", V.str "most", V.str "zzzzzzzz", V.str "ever", V.str "cake", V.str "names"] : List V) = K6.map V.str from rfl] at n3 ⊢
    have x3 := (x1.new (o := .lst (K6.map V.str)) n2).new (o := .lst (K13.map V.str ++ K6.map V.str)) n3
    have e3 : (upd (upd H1 p2 (.lst (K6.map V.str))) p3 (.lst (K13.map V.str ++ K6.map V.str))) p3 = some (.lst (wordsR.map V.str)) := upd_same
    have N3 : H p3 = none := (x1.new (o := .lst (K6.map V.str)) n2).gone n3
    generalize upd (upd H1 p2 (.lst (K6.map V.str))) p3 (.lst (K13.map V.str ++ K6.map V.str)) = H3 at x3 e3 ⊢
    clear n1 n2 n3 e1 x1
    have J3 : JarAt H3 j := jar_ex x3 J
    have b3 : But j H H3 := But.ex x3
    have m3 := J.ne N3
    refine ⟨_, rfl, big100 (Nat.le_of_ble_eq_true rfl), fun l nl => ?_⟩
    have ml := J3.ne nl
    refine ⟨j, l, _, rfl, J3.new nl, upd_same, ml, by exact (by decide : 0 < 6), by exact (by decide : 6 < 100000), fun n4 v H4 hv J4 b4 => ?_⟩
    obtain ⟨g, hg, rfl⟩ : ∃ g, g ∈ stepsR ∧ v = V.int g := by
      have hm : v ∈ stepsR.map V.int := List.mem_of_getElem? hv
      obtain ⟨g, h1, h2⟩ := List.mem_map.mp hm
      exact ⟨g, h1, h2.symm⟩
    have b34 : But j H3 H4 := But.trans (But.refl.new nl) b4
    have e4 := b34 _ _ m3 e3
    have b4' := But.trans b3 b34
    clear hv b4 b34 nl ml
    have gb : -(2 ^ 64) < g ∧ g < 2 ^ 64 := by
      simp only [stepsR, List.mem_cons, List.not_mem_nil, or_false] at hg
      omega
    refine ⟨big100 (Nat.le_of_ble_eq_true rfl), fun t4 nt4 => ⟨t4, _, rfl, SqT.of upd_same, rfl, ?_⟩⟩
    have J5 := J4.new (o := .tup [.str "abcdefghijklmnopqrstuvwxyz", .int g]) nt4
    have b5 := b4'.new (o := .tup [.str "abcdefghijklmnopqrstuvwxyz", .int g]) nt4
    have e5 : (upd H4 t4 (.tup [.str "abcdefghijklmnopqrstuvwxyz", .int g])) p3 = some (.lst (wordsR.map V.str)) := by
      rw [upd_ne (ne_of_none e4 nt4)]
      exact e4
    generalize upd H4 t4 (.tup [.str "abcdefghijklmnopqrstuvwxyz", .int g]) = H5 at J5 b5 e5 ⊢
    clear nt4 b4' e4 J4
    refine ⟨_, _, rfl, _, _, rfl, rfl, ?_⟩
    refine ⟨_, rfl, j, 26, rfl, J5, by decide, by decide, fun sb H6 s0 s1 J6 b6 => ⟨_, rfl, j, 8, rfl, J6, by decide, by decide, fun z H7 z0 z1 J7 b7 => ?_⟩⟩
    have b57 := But.trans b6 b7
    have e7 := b57 _ _ m3 e5
    have b7' := But.trans b5 b57
    clear b6 b7 b57 e5 J6 J5 b5
    refine ⟨big100 (Nat.le_of_ble_eq_true rfl), fun t8 nt8 => ⟨t8, _, rfl, SqT.of upd_same, rfl, ?_⟩⟩
    have J8 := J7.new (o := .tup [.int sb, .int z]) nt8
    have b8 := b7'.new (o := .tup [.int sb, .int z]) nt8
    have e8 : (upd H7 t8 (.tup [.int sb, .int z])) p3 = some (.lst (wordsR.map V.str)) := by
      rw [upd_ne (ne_of_none e7 nt8)]
      exact e7
    generalize upd H7 t8 (.tup [.int sb, .int z]) = H8 at J8 b8 e8 ⊢
    clear nt8 b7' e7 J7
    refine ⟨_, _, rfl, _, _, rfl, rfl, ?_⟩
    refine ⟨_, rfl, j, 3, rfl, J8, by decide, by decide, fun r H9 r0 r1 J9 b9 => ?_⟩
    have e9 := b9 _ _ m3 e8
    have b9' := But.trans b8 b9
    clear J8 b8 e8 b9
    refine ⟨rfl, _, rfl, ?_⟩
    refine ite2 (fun _ => ?_) (fun _ => ?_)
    · refine ⟨_, rfl, (n : Int), rfl, by omega, by omega, fun D hD => lc_range (lo := 0) (n := n) (fun m G => JarAt G j ∧ But j H G ∧ G p3 = some (.lst (wordsR.map V.str)) ∧ G D = some (.lst ((nmA sb g m).map V.str)))
        ⟨J9.new hD, b9'.new hD, (by rw [upd_ne (ne_of_none e9 hD)]; exact e9), upd_same⟩ ?_ ?_⟩
      · rintro m G hm ⟨JG, bG, eG, dG⟩
        have e0 : (0 : Int) + (m : Int) = (m : Int) := by omega
        rw [e0]
        refine ⟨rfl, ?_⟩
        refine ⟨_, rfl, _, rfl, _, rfl, _, rfl, _, _, rfl, rfl, .inl ⟨by omega, by omega⟩, _, _, rfl, rfl, .inl ⟨_, rfl, ?_⟩⟩
        have i0 : 0 ≤ (sb + (m : Int) * g) % 19 := Int.emod_nonneg _ (by decide)
        have i1 : (sb + (m : Int) * g) % 19 < 19 := Int.emod_lt_of_pos _ (by decide)
        refine ⟨_, _, rfl, rfl, (by show (0 : Int) < 19; decide), p3, _, _, _, rfl, rfl, SqL.of eG, wordsR_at i0 i1, _, dG, ?_, ?_⟩
        · rw [List.length_map, nmA_len]
          exact big100 (by omega)
        · have dj := J9.ne hD
          refine ⟨JG.put dj, bG.put (b9'.gone dj hD), ?_, ?_⟩
          · rw [upd_ne (ne_of_none e9 hD)]
            exact eG
          · rw [nmA_succ, List.map_append]
            exact upd_same
      · rintro G ⟨JG, bG, eG, dG⟩
        have ok := nmA_ok s0 s1 hg hn
        exact k D (nmA sb g n) G (nmA_len sb g n) ok.1 ok.2 JG bG (b9'.gone (J9.ne hD) hD) (J9.ne hD) dG
    · refine ⟨⟨_, rfl⟩, _, rfl, z, rfl, by omega, by omega, fun D hD => ?_⟩
      have dj := J9.ne hD
      have nD := b9'.gone dj hD
      have zz : ((z.toNat : Nat) : Int) = z := Int.toNat_of_nonneg z0
      rw [← zz]
      refine lc_range (lo := 0) (n := z.toNat) (fun m G => JarAt G j ∧ But j H G ∧ ∃ ks : List Nat, ks.length = m ∧ (∀ k ∈ ks, k < 26) ∧ G D = some (.lst ((ks.map fun k => (⟨#[97 + k]⟩ : Str)).map V.str)))
        ⟨J9.new hD, b9'.new hD, [], rfl, (fun k hk => nomatch hk), upd_same⟩ ?_ ?_
      · rintro m G hm ⟨JG, bG, ks, lk, hk, dG⟩
        refine ⟨rfl, ?_⟩
        refine ⟨_, rfl, _, rfl, j, 26, rfl, JG, by decide, by decide, fun q G1 q0 q1 J1 b1 => ?_⟩
        refine ⟨abc, q, _, rfl, rfl, big100 (Nat.le_of_ble_eq_true rfl), abc_at q0 q1, _, b1 _ _ dj dG, ?_, ?_⟩
        · rw [List.length_map, List.length_map]
          exact big100 (by omega)
        · refine ⟨J1.put dj, (bG.trans b1).put nD, ks ++ [q.toNat], ?_, ?_, ?_⟩
          · rw [List.length_append, lk]
            rfl
          · intro y hy
            rcases List.mem_append.mp hy with h | h
            · exact hk y h
            · obtain rfl := List.mem_singleton.mp h
              omega
          · rw [List.map_append, List.map_append]
            exact upd_same
      · rintro G ⟨JG, bG, ks, lk, hk, dG⟩
        obtain ⟨sl, sc⟩ := stem_ok hk
        have su : (List.map (fun x => x.length) (ks.map fun k => (⟨#[97 + k]⟩ : Str))).sum = ks.length := by
          rw [List.map_map]
          clear dG sl sc lk hk
          induction ks with
          | nil => rfl
          | cons k ks ih =>
            rw [List.map_cons, List.sum_cons, ih, List.length_cons]
            show 1 + _ = _
            omega
        refine ⟨_, D, _, rfl, rfl, .inl (SqL.of dG), ?_, ?_⟩
        · rw [su]
          show _ + _ * 0 ≤ _
          omega
        · generalize hst : Txt.join (Str.ofString "") (ks.map fun k => (⟨#[97 + k]⟩ : Str)) = st at sl sc ⊢
          refine ⟨_, rfl, _, rfl, _, _, rfl, rfl, j, _, rfl, JG, by omega, by omega, fun at_ G1 a0 a1 J1 b1 => ?_⟩
          refine ⟨big100 (Nat.le_of_ble_eq_true rfl), fun tt ntt => ⟨tt, _, rfl, SqT.of upd_same, rfl, ?_⟩⟩
          have J2 := J1.new (o := .tup [.str st, .int at_]) ntt
          have b2 := (bG.trans b1).new (o := .tup [.str st, .int at_]) ntt
          generalize upd G1 tt (.tup [.str st, .int at_]) = G2 at J2 b2 ⊢
          clear ntt J1 b1 bG JG dG
          refine ⟨_, _, rfl, _, _, rfl, rfl, ?_⟩
          have a2 : at_ ≤ st.length := by omega
          refine ⟨_, rfl, (n : Int), rfl, by omega, by omega, fun D2 hD2 => lc_range (lo := 0) (n := n) (fun m G => JarAt G j ∧ But j H G ∧ G D2 = some (.lst ((nmB st at_ sb g m).map V.str)))
            ⟨J2.new hD2, b2.new hD2, upd_same⟩ ?_ ?_⟩
          · rintro m G hm ⟨JG, bG, dG⟩
            have e0 : (0 : Int) + (m : Int) = (m : Int) := by omega
            rw [e0]
            have i0 : 0 ≤ (sb + (m : Int) * g) % 26 := Int.emod_nonneg _ (by decide)
            have i1 : (sb + (m : Int) * g) % 26 < 26 := Int.emod_lt_of_pos _ (by decide)
            have st7 : st.length ≤ sizeLine := big100 (by omega)
            have c1 : (cutS st none (some at_)).length ≤ st.length := by
              show Array.size _ ≤ _
              rw [← Array.length_toList, cut_take a0 a2, List.length_take, show st.cps.toList.length = st.length from Array.length_toList]
              omega
            have c2 : (cutS st (some at_) none).length ≤ st.length := by
              show Array.size _ ≤ _
              rw [← Array.length_toList, cut_drop a0 a2, List.length_drop, show st.cps.toList.length = st.length from Array.length_toList]
              omega
            have one1 : ∀ c : Nat, (⟨#[c]⟩ : Str).length = 1 := fun _ => rfl
            have c3 : ∀ c : Nat, (cutS st none (some at_) ++ (⟨#[c]⟩ : Str)).length ≤ st.length + 1 := fun c => by
              rw [Str.length_append, one1]
              omega
            refine ⟨rfl, ?_⟩
            refine ⟨_, rfl, _, rfl, at_, rfl, st, rfl, st7, _, rfl, _, rfl, _, rfl, _, rfl, _, _, rfl, rfl, .inl ⟨by omega, by omega⟩, _, _, rfl, rfl, .inl ⟨_, rfl, ?_⟩⟩
            refine ⟨_, _, rfl, rfl, (by show (0 : Int) < 26; decide), abc, _, _, rfl, rfl, big100 (Nat.le_of_ble_eq_true rfl), abc_at i0 i1, ?_⟩
            refine ⟨_, _, rfl, rfl, big100 (by rw [one1]; omega), ?_⟩
            refine ⟨_, rfl, _, rfl, at_, rfl, st, rfl, st7, _, _, rfl, rfl, big100 (by have := c3 (97 + ((sb + (m : Int) * g) % 26).toNat); omega), _, dG, ?_, ?_⟩
            · rw [List.length_map, nmB_len]
              exact big100 (by omega)
            · have dj2 := J2.ne hD2
              refine ⟨JG.put dj2, bG.put (b2.gone dj2 hD2), ?_⟩
              rw [nmB_succ, List.map_append]
              exact upd_same
          · rintro G ⟨JG, bG, dG⟩
            have ok := nmB_ok (z := st) (i := at_) (s := sb) (g := g) (n := n) (by omega) sc a0 a2 s0 s1 hg (by omega)
            exact k D2 (nmB st at_ sb g n) G (nmB_len st at_ sb g n) ok.1 ok.2 JG bG (b2.gone (J2.ne hD2) hD2) (J2.ne hD2) dG
end
end LJ
set_option Elab.async false
set_option linter.all false
set_option maxRecDepth 100000
set_option maxHeartbeats 8000000
/-! Texts cut and joined: signs, lengths; data of texts can be shown. -/
namespace LJ
open PySem PySem.Spec L2 PySem.ErrV
open LamX (ExtN)
theorem spl_mem (S : List Nat) : ∀ (L : List Nat) (k : Nat) (acc : List Nat), ∀ p ∈ TL.spl S k acc L, ∀ c ∈ p, c ∈ acc ∨ c ∈ L
  | [], k, acc, p, hp, c, hc => by
    rw [TL.spl.eq_1] at hp
    obtain rfl := List.mem_singleton.mp hp
    exact .inl hc
  | d :: r, 0, acc, p, hp, c, hc => by
    rw [TL.spl.eq_2] at hp
    split at hp
    · rcases List.mem_cons.mp hp with rfl | hp
      · exact .inl hc
      · rcases spl_mem S r _ [] p hp c hc with z | z
        · cases z
        · exact .inr (List.mem_cons_of_mem _ z)
    · rcases spl_mem S r 0 (acc ++ [d]) p hp c hc with z | z
      · rcases List.mem_append.mp z with z | z
        · exact .inl z
        · obtain rfl := List.mem_singleton.mp z
          exact .inr (List.mem_cons_self ..)
      · exact .inr (List.mem_cons_of_mem _ z)
  | d :: r, k + 1, acc, p, hp, c, hc => by
    rw [show k + 1 = k.succ from rfl, TL.spl.eq_3] at hp
    rcases spl_mem S r k acc p hp c hc with z | z
    · exact .inl z
    · exact .inr (List.mem_cons_of_mem _ z)
theorem ok_iff {z : Str} : PyData.strOk z = true ↔ ∀ c ∈ TL.tl z, c < 1114112 := by
  unfold PyData.strOk
  rw [← Array.all_toList, List.all_eq_true]
  exact forall_congr' fun c => forall_congr' fun _ => ⟨of_decide_eq_true, decide_eq_true⟩
theorem split_mem {x y : Str} {c : Nat} (hy : TL.tl y = [c]) (h : c < 256) {p : Str} (hp : p ∈ Txt.split x y) : ∀ d ∈ TL.tl p, d ∈ TL.tl x := fun d hd => by
  have e := split_spl1 (x := x) hy h
  have m : TL.tl p ∈ TL.spl [c] 0 [] (TL.tl x) := e ▸ List.mem_map_of_mem (f := TL.tl) hp
  rcases spl_mem _ _ _ _ _ m d hd with z | z
  · cases z
  · exact z
theorem split_ok {x y : Str} {c : Nat} (hy : TL.tl y = [c]) (h : c < 256) (ok : PyData.strOk x = true) {p : Str} (hp : p ∈ Txt.split x y) : PyData.strOk p = true :=
  ok_iff.mpr fun d hd => ok_iff.mp ok d (split_mem hy h hp d hd)
/-! a split text joined again -/
theorem spl_join {c : Nat} : ∀ (L acc : List Nat), TL.joinL [c] (TL.spl [c] 0 acc L) = acc ++ L
  | [], acc => by
    rw [TL.spl.eq_1]
    simp [TL.joinL]
  | d :: r, acc => by
    rw [TL.spl.eq_2]
    split
    · rename_i hp
      have ih := spl_join (c := c) r []
      have ne := spl_ne [c] r ([c].length - 1) []
      have e : d = c := by
        unfold TL.pre at hp
        first | exact (by simpa [TL.pre] using hp : c = d).symm | exact (by simpa [TL.pre] using hp : d = c)
      have k0 : ([c].length - 1) = 0 := rfl
      rw [k0] at ne ⊢
      cases es : TL.spl [c] 0 [] r with
      | nil => exact absurd es ne
      | cons x xs =>
        rw [es] at ih
        show acc ++ ([c] ++ TL.joinL [c] (x :: xs)) = _
        rw [ih, e]
        simp
    · have ih := spl_join (c := c) r (acc ++ [d])
      rw [ih]
      simp
theorem join_split {x y : Str} {c : Nat} (hy : TL.tl y = [c]) (h : c < 256) : Txt.join y (Txt.split x y) = x := by
  apply TL.ext_tl
  rw [tl_join2, hy, split_spl1 hy h, spl_join]
  rfl
/-- signs below 200 alone -/
abbrev Tk (z : Str) : Prop := (TL.tl z).all (fun c => decide (c < 200)) = true
theorem tk_iff {z : Str} : Tk z ↔ ∀ c ∈ TL.tl z, c < 200 := by
  unfold Tk
  rw [List.all_eq_true]
  exact forall_congr' fun c => forall_congr' fun _ => ⟨of_decide_eq_true, decide_eq_true⟩
theorem tk_free {z : Str} : Tk z ↔ ∀ c, 200 ≤ c → Free c z := by
  rw [tk_iff]
  exact ⟨fun h c hc hm => by have := h c hm; omega, fun h c hc => Decidable.byContradiction fun n => h c (by omega) hc⟩
theorem tk_str {z : Str} (h : Tk z) : PyData.strOk z = true := by
  rw [ok_iff]
  exact fun c hc => Nat.lt_of_lt_of_le (tk_iff.mp h c hc) (by decide)
theorem tk_app {a b : Str} (ha : Tk a) (hb : Tk b) : Tk (a ++ b) := by
  rw [tk_iff] at *
  intro c hc
  rw [TL.tl_append] at hc
  rcases List.mem_append.mp hc with h | h
  · exact ha c h
  · exact hb c h
theorem tk_join {sep : Str} {ys : List Str} (hs : Tk sep) (h : ∀ y ∈ ys, Tk y) : Tk (Txt.join sep ys) :=
  tk_free.mpr fun c hc => free_join (tk_free.mp hs c hc) fun y hy => tk_free.mp (h y hy) c hc
theorem tk_cut {z : Str} {lo hi : Option Int} (h : Tk z) : Tk (cutS z lo hi) := by
  rw [tk_iff] at *
  intro c hc
  unfold cutS at hc
  exact h c (List.mem_of_mem_drop (List.mem_of_mem_take hc))
theorem tk_split {x y : Str} {c : Nat} (hy : TL.tl y = [c]) (h : c < 256) (ok : Tk x) {p : Str} (hp : p ∈ Txt.split x y) : Tk p :=
  tk_iff.mpr fun d hd => tk_iff.mp ok d (split_mem hy h hp d hd)
theorem len_app (a b : Str) : (a ++ b).length = a.length + b.length := by
  show (a ++ b).cps.size = a.cps.size + b.cps.size
  rw [← Array.length_toList, ← Array.length_toList, ← Array.length_toList, ← List.length_append]
  exact congrArg List.length (TL.tl_append a b)
theorem len_tl (z : Str) : z.cps.toList.length = z.length := Array.length_toList
theorem cut_lo {z : Str} {i : Int} (h0 : 0 ≤ i) : (cutS z none (some i)).length ≤ i.toNat := by
  unfold cutS HT.sIx
  show (List.toArray _).size ≤ _
  rw [List.size_toArray, List.length_take]
  simp only
  rw [if_neg (by omega)]
  omega
theorem cut_hi {z : Str} {i : Int} (h0 : 0 ≤ i) : (cutS z (some i) none).length + i.toNat ≤ z.length + (i.toNat - z.length) := by
  unfold cutS HT.sIx
  show (List.toArray _).size + _ ≤ _
  rw [List.size_toArray, List.length_take, List.length_drop, len_tl]
  simp only
  rw [if_neg (by omega)]
  omega
theorem split_tot {x y : Str} {c : Nat} (hy : TL.tl y = [c]) (h : c < 256) : ((Txt.split x y).map Str.length).sum + (Txt.split x y).length = x.length + 1 := by
  have e := split_spl1 (x := x) hy h
  have go : ∀ (L acc : List Nat), ((TL.spl [c] 0 acc L).map List.length).sum + (TL.spl [c] 0 acc L).length = acc.length + L.length + 1 := by
    intro L
    induction L with
    | nil =>
      intro acc
      rw [TL.spl.eq_1]
      simp
    | cons d r ih =>
      intro acc
      rw [TL.spl.eq_2]
      split
      · have := ih []
        show ((acc :: TL.spl [c] 0 [] r).map List.length).sum + (acc :: TL.spl [c] 0 [] r).length = _
        simp only [List.map_cons, List.sum_cons, List.length_cons, List.length_nil] at this ⊢
        omega
      · have := ih (acc ++ [d])
        simp only [List.length_append, List.length_cons, List.length_nil] at this ⊢
        omega
  have s := go (TL.tl x) []
  rw [← e, List.map_map, List.length_map] at s
  have e2 : (List.length ∘ TL.tl : Str → Nat) = Str.length := by
    funext z
    exact len_tl z
  rw [e2] at s
  have e3 : (TL.tl x).length = x.length := len_tl x
  rw [e3] at s
  simpa using s
theorem sum_at {xs : List Nat} : ∀ {i : Nat} (h : i < xs.length), (xs.take i).sum + xs[i] + (xs.drop (i + 1)).sum = xs.sum := fun {i} h => by
  have e : xs = xs.take i ++ xs[i] :: xs.drop (i + 1) := by rw [List.getElem_cons_drop, List.take_append_drop]
  have := congrArg List.sum e
  rw [List.sum_append, List.sum_cons] at this
  omega
/-- a thing in a list exchanged for some -/
def edit (ys : List Str) (i : Nat) (ms : List Str) : List Str := ys.take i ++ ms ++ ys.drop (i + 1)
theorem edit_mem {ys ms : List Str} {i : Nat} {p : Str} (h : p ∈ edit ys i ms) : p ∈ ys ∨ p ∈ ms := by
  unfold edit at h
  rcases List.mem_append.mp h with h | h
  · rcases List.mem_append.mp h with h | h
    · exact .inl (List.mem_of_mem_take h)
    · exact .inr h
  · exact .inl (List.mem_of_mem_drop h)
theorem edit_n {ys ms : List Str} {i : Nat} (lt : i < ys.length) : (edit ys i ms).length + 1 = ys.length + ms.length := by
  unfold edit
  rw [List.length_append, List.length_append, List.length_take, List.length_drop]
  omega
theorem edit_sum {ys ms : List Str} {i : Nat} (lt : i < ys.length) : ((edit ys i ms).map Str.length).sum + ys[i].length = (ys.map Str.length).sum + (ms.map Str.length).sum := by
  have := sum_at (xs := ys.map Str.length) (i := i) (by rw [List.length_map]; exact lt)
  unfold edit
  rw [List.map_append, List.map_append, List.sum_append, List.sum_append, List.map_take, List.map_drop]
  rw [List.getElem_map] at this
  omega
theorem edit_len {sep : Str} (hs : sep.length = 1) {ys ms : List Str} {i L : Nat} (lt : i < ys.length) (hS : (ys.map Str.length).sum + ys.length ≤ L + 1) : (Txt.join sep (edit ys i ms)).length + ys[i].length ≤ L + (ms.map Str.length).sum + ms.length := by
  have h1 := edit_n (ms := ms) lt
  have h2 := edit_sum (ms := ms) lt
  rw [join_len, hs, Nat.mul_one]
  have h3 : ((edit ys i ms).map (·.length)).sum = ((edit ys i ms).map Str.length).sum := rfl
  rw [h3]
  generalize ((edit ys i ms).map Str.length).sum = S at *
  cases hn : (edit ys i ms).length with
  | zero => 
    have : edit ys i ms = [] := List.length_eq_zero_iff.mp hn
    omega
  | succ n => omega
theorem shw_txt {z : Str} {n : Nat} (ok : Tk z) (l : z.length ≤ n) : Shw 0 n (.str z) := ⟨tk_str ok, Nat.le_refl _, l, rfl, rfl⟩
open Builtin.Str in
theorem rc_ok : ∀ c : Fin 200, (reprChar 34 c.val).all (fun x => decide (x < 1114112)) = true ∧ (reprChar 39 c.val).all (fun x => decide (x < 1114112)) = true := by decide +kernel
open Builtin.Str in
theorem fold_ok {q : Nat} (hq : ∀ c, c < 200 → ∀ x ∈ reprChar q c, x < 1114112) : ∀ (l : List Nat) (acc : Array Nat), (∀ c ∈ l, c < 200) → (∀ x ∈ acc.toList, x < 1114112) → ∀ x ∈ (l.foldl (fun out c => out ++ (reprChar q c).toArray) acc).toList, x < 1114112
  | [], _, _, h => h
  | c :: l, acc, hl, h => by
    rw [List.foldl_cons]
    refine fold_ok hq l _ (fun d hd => hl d (List.mem_cons_of_mem _ hd)) fun x hx => ?_
    rw [Array.toList_append] at hx
    rcases List.mem_append.mp hx with hx | hx
    · exact h x hx
    · exact hq c (hl c (List.mem_cons_self ..)) x (by simpa using hx)
open Builtin.Str in
theorem repr_tk {z : Str} (h : Tk z) : PyData.strOk (reprText z) = true := by
  have quote : reprQuote z = 34 ∨ reprQuote z = 39 := by
    unfold reprQuote
    split <;> simp
  have hq : ∀ c, c < 200 → ∀ x ∈ reprChar (reprQuote z) c, x < 1114112 := fun c hc x hx => by
    have r := rc_ok ⟨c, hc⟩
    rcases quote with e | e
    · rw [e] at hx
      exact of_decide_eq_true (List.all_eq_true.mp r.1 x hx)
    · rw [e] at hx
      exact of_decide_eq_true (List.all_eq_true.mp r.2 x hx)
  have cs : ∀ c ∈ z.cps.toList, c < 200 := tk_iff.mp h
  unfold PyData.strOk reprText
  rw [← Array.all_toList, List.all_eq_true]
  intro x hx
  refine decide_eq_true ?_
  rw [Array.toList_push, List.mem_append] at hx
  rcases hx with hx | hx
  · rw [← Array.foldl_toList] at hx
    exact fold_ok hq _ _ cs (fun y hy => by
      simp only [List.mem_cons, List.not_mem_nil, or_false] at hy
      rcases quote with e | e <;> rw [hy, e] <;> decide) x hx
  · simp only [List.mem_cons, List.not_mem_nil, or_false] at hx
    rcases quote with e | e <;> rw [hx, e] <;> decide
theorem so_app {a b : Str} (ha : PyData.strOk a = true) (hb : PyData.strOk b = true) : PyData.strOk (a ++ b) = true := by
  rw [ok_iff] at *
  intro c hc
  rw [TL.tl_append] at hc
  rcases List.mem_append.mp hc with h | h
  · exact ha c h
  · exact hb c h
theorem so_from : ∀ (ts : List Str) (k : Nat) (acc : Str), PyData.strOk acc = true → (∀ t ∈ ts, PyData.strOk t = true) → PyData.strOk (textFrom k acc ts) = true
  | [], _, _, h, _ => h
  | t :: ts, k, acc, h, ht => by
    show PyData.strOk (textFrom (k + 1) _ ts) = true
    refine so_from ts (k + 1) _ (so_app (so_app h ?_) (ht t (List.mem_cons_self ..))) fun u hu => ht u (List.mem_cons_of_mem _ hu)
    split <;> decide +kernel
theorem so_join : ∀ (ts : List Str), (∀ t ∈ ts, PyData.strOk t = true) → PyData.strOk (Str.join (Str.ofString ", ") ts) = true
  | [], _ => by decide +kernel
  | [x], h => h x (List.mem_cons_self ..)
  | x :: y :: r, h => by
    show PyData.strOk (x ++ Str.ofString ", " ++ Str.join (Str.ofString ", ") (y :: r)) = true
    exact so_app (so_app (h x (List.mem_cons_self ..)) (by decide +kernel)) (so_join (y :: r) fun t ht => h t (List.mem_cons_of_mem _ ht))
theorem all_shown : ∀ (ds : List PyData), PyData.shownAll ds = ds.map PyData.shown
  | [] => PyData.shownAll.eq_1
  | d :: ds => by rw [PyData.shownAll.eq_2, all_shown ds, List.map_cons]
/-- data of texts -/
inductive Nice : PyData → Prop
  | flat {d : PyData} (h : PyData.strOk d.shown = true) : Nice d
  | str {z : Str} (h : Tk z) : Nice (.str z)
  | list {ds : List PyData} (h : ∀ d ∈ ds, Nice d) : Nice (.list ds)
  | tuple {ds : List PyData} (h : ∀ d ∈ ds, Nice d) : Nice (.tuple ds)
theorem Nice.shown {d : PyData} (h : Nice d) : PyData.strOk d.shown = true := by
  induction h with
  | flat h => exact h
  | str h =>
    rw [PyData.shown.eq_4]
    exact repr_tk h
  | @list ds h ih =>
    rw [PyData.shown.eq_5, all_shown]
    unfold listText
    refine so_app (so_from _ _ _ (by decide +kernel) fun t ht => ?_) (by decide +kernel)
    obtain ⟨d, hd, rfl⟩ := List.mem_map.mp ht
    exact ih d hd
  | @tuple ds h ih =>
    rw [PyData.shown.eq_6, all_shown]
    unfold tupleText
    refine so_app (so_app (by decide +kernel) (so_join _ fun t ht => ?_)) ?_
    · obtain ⟨d, hd, rfl⟩ := List.mem_map.mp ht
      exact ih d hd
    · split <;> decide +kernel
theorem dat_nice {H : Hp} {v : V} {d : PyData} {a n : Nat} (r : rp H d v) (s : Shw a n d) (x : a ≤ 64) (y : n ≤ 1000000) (k : Nice d) : Dat H d v := ⟨.inl r, s.sh, by have := s.dp; omega, s.len x y, k.shown⟩
theorem tk_name {z : Str} (h : isW z = true) : Tk z := tk_free.mpr fun c hc => free_name h (by omega)
theorem dat_str {H : Hp} {z : Str} (h : Tk z) (l : z.length ≤ 1000000) : Dat H (.str z) (.str z) := dat_nice (by unfold rp; rfl) (shw_txt h l) (by decide) (Nat.le_refl _) (.str h)
theorem rpAll_strs {H : Hp} : ∀ ns : List Str, rpAll H (ns.map PyData.str) (ns.map V.str)
  | [] => by
    unfold rpAll
    rfl
  | n :: ns => by
    show rpAll H (.str n :: ns.map PyData.str) (.str n :: ns.map V.str)
    unfold rpAll
    refine ⟨.str n, _, rfl, ?_, rpAll_strs ns⟩
    unfold rp
    rfl
/-- xs[:i] + mid + xs[i + 1:] -/
def tEdit (K : PySem.W.Frag) (a b : Nat) (tm : TE) : TE :=
  tOp rCat (tOp rCat (tSl (rSlL K) (tVar a) tNoPart (tPart (tVar b))) tm) (tSl (rSlL K) (tVar a) (tPart (tOp (rI0 fun i j => V.int (i + j)) (tVar b) (tC (.int 1)))) tNoPart)
theorem cutV_lo {xs : List Str} {i : Int} (h0 : 0 ≤ i) (h : i.toNat < xs.length) : cutV (xs.map V.str) none (some i) = (xs.take i.toNat).map V.str := by
  unfold cutV
  rw [HT.sIx_none]
  unfold HT.sIx
  simp only
  rw [if_neg (by omega), List.length_map, Nat.sub_zero, List.drop_zero, Nat.min_eq_left (by omega), List.map_take]
theorem cutV_hi {xs : List Str} {i : Int} (h0 : 0 ≤ i) (h : i.toNat < xs.length) : cutV (xs.map V.str) (some (i + 1)) none = (xs.drop (i.toNat + 1)).map V.str := by
  unfold cutV
  rw [HT.sIx_none]
  unfold HT.sIx
  simp only
  rw [if_neg (by omega), List.length_map, show (i + 1).toNat = i.toNat + 1 by omega, Nat.min_eq_left (by omega), List.map_drop, List.take_of_length_le (by rw [List.length_drop, List.length_map]; exact Nat.le_refl _)]
section
variable {K : PySem.W.Frag} {σ : L2.St} {H : Hp} {Q : VK} {j la : Addr} {a b : Nat} {tm : TE} {xs : List Str} {i : Int}
theorem rd_edit {Pm : List Str → Prop} (s1 : σ[a]? = some (some (.ref la))) (s2 : σ[b]? = some (some (.int i))) (J : JarAt H j) (hl : H la = some (.lst (xs.map V.str))) (nj : la ≠ j)
    (h0 : 0 ≤ i) (hi : i.toNat < xs.length) (hx : xs.length ≤ 100000)
    (mid : ∀ (H1 : Hp) (Q1 : VK), JarAt H1 j → But j H H1 → (∀ (lm : Addr) (ms : List Str) (H2 : Hp), H2 lm = some (.lst (ms.map V.str)) → ms.length ≤ 1000 → Pm ms → JarAt H2 j → But j H1 H2 → Q1 (.ref lm) H2) → tm σ H1 Q1)
    (q : ∀ (p : Addr) (ms : List Str) (H2 : Hp), Pm ms → ms.length ≤ 1000 → H2 p = some (.lst ((edit xs i.toNat ms).map V.str)) → p ≠ j → JarAt H2 j → But j H H2 → Q (.ref p) H2) : tEdit K a b tm σ H Q := by
  have sz := sizeLine_eq
  refine ⟨_, s1, _, s2, _, rfl, la, _, rfl, SqL.of hl, fun p1 n1 => ?_⟩
  rw [cutV_lo h0 hi]
  have J1 : JarAt (upd H p1 (.lst ((xs.take i.toNat).map V.str))) j := J.new n1
  have b1 : But j H (upd H p1 (.lst ((xs.take i.toNat).map V.str))) := But.refl.new n1
  have e1 : (upd H p1 (.lst ((xs.take i.toNat).map V.str))) p1 = some (.lst ((xs.take i.toNat).map V.str)) := upd_same
  have m1 := J.ne n1
  generalize upd H p1 (.lst ((xs.take i.toNat).map V.str)) = H1 at J1 b1 e1 ⊢
  refine mid H1 _ J1 b1 fun lm ms H2 e2 l2 pm J2 b2 => ?_
  refine ⟨p1, lm, _, _, rfl, rfl, b2 _ _ m1 e1, e2, by rw [List.length_map, List.length_map, List.length_take]; omega, fun p3 n3 => ?_⟩
  have J3 : JarAt (upd H2 p3 (.lst ((xs.take i.toNat).map V.str ++ ms.map V.str))) j := J2.new n3
  have b3 : But j H (upd H2 p3 (.lst ((xs.take i.toNat).map V.str ++ ms.map V.str))) := (b1.trans b2).new n3
  have e3 : (upd H2 p3 (.lst ((xs.take i.toNat).map V.str ++ ms.map V.str))) p3 = some (.lst ((xs.take i.toNat).map V.str ++ ms.map V.str)) := upd_same
  have m3 := J2.ne n3
  generalize upd H2 p3 (.lst ((xs.take i.toNat).map V.str ++ ms.map V.str)) = H3 at J3 b3 e3 ⊢
  refine ⟨_, s1, _, s2, _, _, rfl, rfl, _, rfl, la, _, rfl, SqL.of (b3 _ _ nj hl), fun p4 n4 => ?_⟩
  rw [cutV_hi h0 hi]
  have J4 : JarAt (upd H3 p4 (.lst ((xs.drop (i.toNat + 1)).map V.str))) j := J3.new n4
  have b4 : But j H3 (upd H3 p4 (.lst ((xs.drop (i.toNat + 1)).map V.str))) := But.refl.new n4
  have e4 : (upd H3 p4 (.lst ((xs.drop (i.toNat + 1)).map V.str))) p4 = some (.lst ((xs.drop (i.toNat + 1)).map V.str)) := upd_same
  generalize upd H3 p4 (.lst ((xs.drop (i.toNat + 1)).map V.str)) = H4 at J4 b4 e4 ⊢
  refine ⟨p3, p4, _, _, rfl, rfl, b4 _ _ m3 e3, e4, by rw [List.length_append, List.length_map, List.length_map, List.length_map, List.length_take, List.length_drop]; omega, fun p5 n5 => ?_⟩
  refine q p5 ms _ pm l2 ?_ (J4.ne n5) (J4.new n5) ((b3.trans b4).new n5)
  rw [upd_same, ← List.map_append, ← List.map_append]
  rfl
end
theorem strs_ne {H : Hp} {j l : Addr} {xs : List Str} (J : JarAt H j) (h : H l = some (.lst (xs.map V.str))) : l ≠ j := fun e => by
  subst e
  obtain ⟨d, m, c, hj, _⟩ := J
  rw [h] at hj
  cases xs with
  | nil => cases hj
  | cons a t => cases hj
theorem k3_len {z m : Str} {i o : Int} (h0 : 0 ≤ i) (h1 : i ≤ z.length) (ho : o = 0 ∨ o = 1) (m5 : m.length ≤ 5) : (cutS z none (some i) ++ m ++ cutS z (some (i + o)) none).length ≤ z.length + 6 := by
  have l1 := cut_lo (z := z) h0
  have l2 := cut_hi (z := z) (i := i + o) (by omega)
  rw [len_app, len_app]
  omega
theorem k3_tk {z m : Str} {i o : Int} (h : Tk z) (hm : Tk m) : Tk (cutS z none (some i) ++ m ++ cutS z (some (i + o)) none) := tk_app (tk_app (tk_cut h) hm) (tk_cut h)
end LJ
set_option Elab.async false
set_option linter.all false
set_option maxRecDepth 100000
set_option maxHeartbeats 8000000
/-! _law_bounds and _law_content of the laws about rules. -/
namespace LJ
open PySem PySem.Spec L2
abbrev sBnT : Stmt := top 55
abbrev sCnT : Stmt := top 56
abbrev pBnT : List Str := ["_law_jar_here", "_law_most", "_law_menu"]
def spBnT : Sp := fun vs H Q _ => ∃ (j M : Addr) (most : Int) (zs : List Int), vs = [.ref j, .int most, .ref M] ∧ JarAt H j ∧ 0 ≤ most ∧ most ≤ 1000000000000 ∧ H M = some (.lst (zs.map V.int)) ∧ M ≠ j ∧ zs.length ≤ 50 ∧ (∀ z ∈ zs, 0 ≤ z ∧ z ≤ most) ∧
  ∀ (p : Addr) (lo hi : Int) (H1 : Hp), 0 ≤ lo → lo ≤ hi → hi ≤ most → JarAt H1 j → But j H H1 → H p = none → p ≠ j → H1 p = some (.tup [.int lo, .int hi]) → Q (.ref p) H1
def spCnT : Sp := fun vs H Q _ => ∃ j : Addr, vs = [.ref j] ∧ JarAt H j ∧ ∀ (p : Addr) (lo hi : Int) (H1 : Hp), 0 ≤ lo → lo ≤ hi → hi ≤ 1000000000000 → JarAt H1 j → But j H H1 → H p = none → p ≠ j → H1 p = some (.tup [.int lo, .int hi]) → Q (.ref p) H1
structure BltB (mg : Str → Option Value) : Prop where
  range : mg "range" = none
  min : mg "min" = none
  max : mg "max" = none
section
variable {P : Program} {w : World} {K : PySem.W.Frag} {mg : Str → Option Value} {base : Heap}
abbrev nBnT : List Str := ["_law_jar_here", "_law_most", "_law_menu", "_law_one_here", "_law_two", "_law_k"]
theorem scBnT : FnScope nBnT pBnT (defScope sBnT) := ⟨rfl, rfl, rfl, by decide +kernel, rfl, by decide +kernel, by decide +kernel⟩
abbrev nCnT : List Str := ["_law_jar_here", "_law_way", "_law_many"]
theorem scCnT : FnScope nCnT ["_law_jar_here"] (defScope sCnT) := ⟨rfl, rfl, rfl, by decide +kernel, rfl, by decide +kernel, by decide +kernel⟩
theorem ok_bnT {f fD fO : Addr} {fd fdD fdO : FuncData} (F : Fun K "_law_bounds" "_law_bounds" sBnT f fd) (T : BltB mg)
    (GD : FnOk P w K mg base CX0 1 fD fdD ["_law_jar_here", "_law_top"] spDip) (mD : mg "_law_tap" = some (.ref fD)) (kD : PySem.W.keepIn K (.ref fD) = true) (bD : Binds K fdD ["_law_jar_here", "_law_top"] [])
    (GO : FnOk P w K mg base CX0 2 fO fdO ["_law_jar_here", "_law_things"] spOne) (mO : mg "_law_one" = some (.ref fO)) (kO : PySem.W.keepIn K (.ref fO) = true) (bO : Binds K fdO ["_law_jar_here", "_law_things"] []) :
    FnOk P w K mg base CX0 3 f fd pBnT spBnT := by
  refine F.ok scBnT (fun vs H Q E h => ?_) (fun cdv A outer s H vs Q E hr h => ?_)
  · obtain ⟨j, M, most, zs, rfl, _⟩ := h
    rfl
  · obtain ⟨j, M, most, zs, rfl, J, t0, t1, hM, mM, lz, hz, k⟩ := h
    have hr1 : Room 1 _ := hr.mono (by decide)
    refine ⟨_, pss_cons (ps_asg (pe_lc (own := [("_law_k", 5)]) (g := gName 5) (by rfl) scBnT.nd (pi_range1 (by rfl) T.range (pa_cons pe_int pa_nil)) (blkOk_by (own := [("_law_k", 5)]) (N := nBnT) (sc := defScope sBnT) (by decide +kernel)) (fun _ _ _ _ _ => pg_name (i := 5) scBnT.nd rfl (Or.inl rfl)) (fun _ _ _ _ _ => pts_nil)
        (fun _ _ _ _ _ => pe_call GO hr (by rfl) mO kO bO .nil pass0 (pa_cons (pv 0) (pa_cons (pe_op op_cat (pv 2) (pe_lst (pa_cons (pe_call GD hr1 (by rfl) mD kD bD .nil pass0 (pa_cons (pv 0) (pa_cons (pe_op op_add (pv 1) pe_int) pa_nil))) (pa_cons (pe_call GD hr1 (by rfl) mD kD bD .nil pass0 (pa_cons (pv 0) (pa_cons (pe_op op_add (pv 1) pe_int) pa_nil))) pa_nil)))) pa_nil))))
        (pg_lst (by rfl) (pgs_cons (pg_name (i := 3) scBnT.nd rfl (Or.inl rfl)) (pgs_cons (pg_name (i := 4) scBnT.nd rfl (Or.inl rfl)) pgs_nil))))
      (pss_one (ps_ret (pe_tup (pa_cons (pe_callB (call_min2 (by rfl)) (by rfl) T.min (by decide +kernel) (pa_cons (pv 3) (pa_cons (pv 4) pa_nil))) (pa_cons (pe_callB (call_max2 (by rfl)) (by rfl) T.max (by decide +kernel) (pa_cons (pv 3) (pa_cons (pv 4) pa_nil))) pa_nil))))), ?_⟩
    refine ⟨(2 : Int), rfl, by decide, by decide, fun D hD => ?_⟩
    have dj := J.ne hD
    have b0 : But j H H := But.refl
    refine lc_range (lo := 0) (n := 2) (fun n G => JarAt G j ∧ But j H G ∧ ∃ ys : List Int, ys.length = n ∧ n ≤ 2 ∧ G D = some (.lst (ys.map V.int)) ∧ ∀ y ∈ ys, 0 ≤ y ∧ y ≤ most)
      ⟨J.new hD, b0.new hD, [], rfl, by decide, upd_same, fun z hz => nomatch hz⟩ ?_ ?_
    · rintro n G hn ⟨JG, bG, ys, ly, n2, dG, hy⟩
      refine ⟨rfl, ?_⟩
      refine ⟨_, rfl, _, rfl, _, rfl, _, rfl, _, _, rfl, rfl, j, most + 1, rfl, JG, by omega, by omega, fun q1 G1 q10 q11 J1 b1 => ?_⟩
      refine ⟨_, rfl, _, rfl, _, _, rfl, rfl, j, most + 1, rfl, J1, by omega, by omega, fun q2 G2 q20 q21 J2 b2 => ?_⟩
      refine ⟨big100 (Nat.le_of_ble_eq_true rfl), fun l nl => ?_⟩
      have b12 := (bG.trans b1).trans b2
      have hM2 := b12 _ _ mM hM
      have hD2 := (b1.trans b2) _ _ dj dG
      have J3 := J2.new (o := .lst [.int q1, .int q2]) nl
      have b3 := b12.new (o := .lst [.int q1, .int q2]) nl
      have hM3 : (upd G2 l (.lst [.int q1, .int q2])) M = some (.lst (zs.map V.int)) := by
        rw [upd_ne (ne_of_none hM2 nl)]
        exact hM2
      have hD3 : (upd G2 l (.lst [.int q1, .int q2])) D = some (.lst (ys.map V.int)) := by
        rw [upd_ne (ne_of_none hD2 nl)]
        exact hD2
      have hl3 : (upd G2 l (.lst [.int q1, .int q2])) l = some (.lst [.int q1, .int q2]) := upd_same
      generalize upd G2 l (.lst [.int q1, .int q2]) = G3 at J3 b3 hM3 hD3 hl3 ⊢
      refine ⟨M, l, _, _, rfl, rfl, hM3, hl3, big100 (by rw [List.length_map]; show _ + 2 ≤ 100; omega), fun c nc => ?_⟩
      refine ⟨j, c, _, rfl, J3.new nc, upd_same, J3.ne nc, by rw [List.length_append]; exact Nat.lt_of_lt_of_le (by decide : 0 < 2) (Nat.le_add_left ..), by rw [List.length_append, List.length_map]; show _ + 2 < _; omega, fun m v G4 hv J4 b4 => ?_⟩
      obtain ⟨z, rfl, z0, z1⟩ : ∃ z : Int, v = V.int z ∧ 0 ≤ z ∧ z ≤ most := by
        rcases List.mem_append.mp (List.mem_of_getElem? hv) with h | h
        · obtain ⟨z, hz1, rfl⟩ := List.mem_map.mp h
          exact ⟨z, rfl, hz z hz1⟩
        · simp only [List.mem_cons, List.not_mem_nil, or_false] at h
          rcases h with rfl | rfl <;> exact ⟨_, rfl, by omega, by omega⟩
      have hD4 : G4 D = some (.lst (ys.map V.int)) := b4 _ _ dj (by rw [upd_ne (ne_of_none hD3 nc)]; exact hD3)
      refine ⟨_, hD4, big100 (by rw [List.length_map]; omega), J4.put dj, ((b3.new nc).trans b4).put hD, ys ++ [z], ?_, by omega, ?_, ?_⟩
      · rw [List.length_append, ly]
        rfl
      · rw [List.map_append]
        exact upd_same
      · intro y hy2
        rcases List.mem_append.mp hy2 with h | h
        · exact hy y h
        · obtain rfl := List.mem_singleton.mp h
          exact ⟨z0, z1⟩
    · rintro G ⟨JG, bG, ys, ly, n2, dG, hy⟩
      obtain ⟨a, b, rfl⟩ : ∃ a b, ys = [a, b] := by
        match ys, ly with
        | [a, b], _ => exact ⟨a, b, rfl⟩
      have ha := hy a (by simp)
      have hb := hy b (by simp)
      refine ⟨D, _, rfl, SqL.of dG, rfl, _, _, rfl, _, _, rfl, rfl, ?_⟩
      refine ⟨_, rfl, _, rfl, a, b, rfl, _, rfl, _, rfl, a, b, rfl, big100 (Nat.le_of_ble_eq_true rfl), fun p np => ?_⟩
      have mp := JG.ne np
      refine k p _ _ _ ?_ ?_ ?_ (JG.new np) (bG.new np) (bG.gone mp np) mp upd_same
      · split <;> omega
      · split <;> split <;> omega
      · split <;> omega
theorem ok_cnT {f fD fO fB : Addr} {fd fdD fdO fdB : FuncData} (F : Fun K "_law_content" "_law_content" sCnT f fd)
    (GD : FnOk P w K mg base CX0 1 fD fdD ["_law_jar_here", "_law_top"] spDip) (mD : mg "_law_tap" = some (.ref fD)) (kD : PySem.W.keepIn K (.ref fD) = true) (bD : Binds K fdD ["_law_jar_here", "_law_top"] [])
    (GO : FnOk P w K mg base CX0 2 fO fdO ["_law_jar_here", "_law_things"] spOne) (mO : mg "_law_one" = some (.ref fO)) (kO : PySem.W.keepIn K (.ref fO) = true) (bO : Binds K fdO ["_law_jar_here", "_law_things"] [])
    (GB : FnOk P w K mg base CX0 3 fB fdB pBnT spBnT) (mB : mg "_law_bounds" = some (.ref fB)) (kB : PySem.W.keepIn K (.ref fB) = true) (bB : Binds K fdB pBnT []) :
    FnOk P w K mg base CX0 4 f fd ["_law_jar_here"] spCnT := by
  refine F.ok scCnT (fun vs H Q E h => ?_) (fun cdv A outer s H vs Q E hr h => ?_)
  · obtain ⟨j, rfl, _⟩ := h
    rfl
  · obtain ⟨j, rfl, J, k⟩ := h
    have hr1 : Room 1 _ := hr.mono (by decide)
    have hr2 : Room 2 _ := hr.mono (by decide)
    refine ⟨_, pss_cons (ps_set (i := 1) scCnT.nd rfl (Or.inl rfl) (pe_call GD hr1 (by rfl) mD kD bD .nil pass0 (pa_cons (pv 0) (pa_cons pe_int pa_nil))))
      (pss_cons (ps_if (pt_cmpR op_lt (pv 1) pe_int (nomark _)) (pss_one (ps_ret (pe_tup (pa_cons pe_int (pa_cons pe_int pa_nil))))) pss_nil)
      (pss_cons (ps_set (i := 2) scCnT.nd rfl (Or.inl rfl) (pe_call GO hr2 (by rfl) mO kO bO .nil pass0 (pa_cons (pv 0) (pa_cons (pe_lst (pa_cons pe_int (pa_cons pe_int (pa_cons pe_int (pa_cons (pe_op op_pow pe_int pe_int) (pa_cons (pe_call GD hr1 (by rfl) mD kD bD .nil pass0 (pa_cons (pv 0) (pa_cons (pe_op op_add (pe_op op_pow pe_int pe_int) pe_int) pa_nil))) pa_nil)))))) pa_nil))))
      (pss_cons (ps_if (pt_cmpR op_eq (pv 1) pe_int (nomark _)) (pss_one (ps_ret (pe_tup (pa_cons (pv 2) (pa_cons (pv 2) pa_nil))))) pss_nil)
      (pss_one (ps_ret (pe_ifExp (pt_cmpR op_eq (pv 1) pe_int (nomark _)) (pe_tup (pa_cons pe_int (pa_cons (pv 2) pa_nil)))
        (pe_call GB hr (by rfl) mB kB bB .nil pass0 (pa_cons (pv 0) (pa_cons (pv 2) (pa_cons (pe_lst pa_nil) pa_nil)))))))))), ?_⟩
    have b0 : But j H H := But.refl
    refine ⟨_, rfl, j, 5, rfl, J, by decide, by decide, fun wy H1 w0 w1 J1 b1 => ?_⟩
    refine ⟨_, rfl, _, _, rfl, rfl, _, rfl, ?_⟩
    refine ite2 (fun _ => ?_) (fun _ => ?_)
    · refine ⟨big100 (Nat.le_of_ble_eq_true rfl), fun p np => ?_⟩
      have mp := J1.ne np
      exact k p 0 0 _ (by decide) (by decide) (by decide) (J1.new np) (b1.new np) (b1.gone mp np) mp upd_same
    · have p12 : (10 : Int) ^ ((12 : Int).toNat) = 1000000000000 := by decide
      refine ⟨_, rfl, _, _, rfl, rfl, ⟨by decide, by decide, by decide⟩, _, rfl, _, _, rfl, rfl, ⟨by decide, by decide, by decide⟩, _, _, rfl, rfl, ?_⟩
      rw [p12]
      refine ⟨j, _, rfl, J1, by decide, by decide, fun q H2 q0 q1 J2 b2 => ⟨big100 (Nat.le_of_ble_eq_true rfl), fun l nl => ?_⟩⟩
      refine ⟨j, l, _, rfl, J2.new nl, upd_same, J2.ne nl, by exact (by decide : 0 < 5), by exact (by decide : 5 < 100000), fun m v H3 hv J3 b3 => ?_⟩
      obtain ⟨z, rfl, z0, z1⟩ : ∃ z : Int, v = V.int z ∧ 0 ≤ z ∧ z ≤ 1000000000000 := by
        have h := List.mem_of_getElem? hv
        simp only [List.mem_cons, List.not_mem_nil, or_false] at h
        rcases h with rfl | rfl | rfl | rfl | rfl <;> exact ⟨_, rfl, by omega, by omega⟩
      have b13 := b1.trans ((b2.new nl).trans b3)
      clear hv b1 b2 b3 J1 J2 nl
      refine ⟨_, rfl, rfl, _, rfl, ?_⟩
      refine ite2 (fun _ => ?_) (fun _ => ?_)
      · refine ⟨_, rfl, _, rfl, big100 (Nat.le_of_ble_eq_true rfl), fun p np => ?_⟩
        have mp := J3.ne np
        exact k p z z _ z0 (Int.le_refl _) z1 (J3.new np) (b13.new np) (b13.gone mp np) mp upd_same
      · refine ⟨_, rfl, rfl, _, rfl, ?_⟩
        refine ite2 (fun _ => ?_) (fun _ => ?_)
        · refine ⟨_, rfl, big100 (Nat.le_of_ble_eq_true rfl), fun p np => ?_⟩
          have mp := J3.ne np
          exact k p 0 z _ (by decide) z0 z1 (J3.new np) (b13.new np) (b13.gone mp np) mp upd_same
        · refine ⟨_, rfl, _, rfl, big100 (Nat.le_of_ble_eq_true rfl), fun l2 nl2 => ?_⟩
          refine ⟨j, l2, z, [], rfl, J3.new nl2, z0, z1, upd_same, J3.ne nl2, by decide, (fun z hz => nomatch hz), fun p lo hi H4 h1 h2 h3 J4 b4 np mp hp => ?_⟩
          have b14 := (b13.new nl2).trans b4
          refine k p lo hi H4 h1 h2 (Int.le_trans h3 z1) J4 b14 ?_ mp hp
          exact (b13.new nl2).gone mp np
end
end LJ
set_option Elab.async false
set_option linter.all false
set_option maxRecDepth 100000
set_option maxHeartbeats 8000000
/-! _law_works of the laws about rules: a sketch, a dict of four lists. -/
namespace LJ
open PySem PySem.Spec L2
abbrev sSk : Stmt := top 57
def skK (a b c d : Addr) : List (Key × V) := [(.inr "machines", .ref a), (.inr "cleanings", .ref b), (.inr "stuffs", .ref c), (.inr "products", .ref d)]
def SkAt (H : Hp) (p : Addr) (W : Wd) : Prop := ∃ (a b c d : Addr) (va vb vc vd : List V), H p = some (.dK (skK a b c d)) ∧ H a = some (.lst va) ∧ Paired (Row3 H) va W.ms ∧ H b = some (.lst vb) ∧ Paired (Row3 H) vb W.cs ∧
  H c = some (.lst vc) ∧ Paired (Row2 H) vc W.ss ∧ H d = some (.lst vd) ∧ Paired (RowP H) vd W.ps
structure GoodR (W : Wd) : Prop where
  f : GoodF W
  m2 : W.ms.length ≤ 2
  c3 : W.cs.length ≤ 3
  s2 : W.ss.length ≤ 2
  p4 : W.ps.length ≤ 4
abbrev pSk : List Str := ["_law_jar_here", "_law_products", "_law_stuffs"]
def spSk : Sp := fun vs H Q _ => ∃ (j : Addr) (np ns : Int), vs = [.ref j, .int np, .int ns] ∧ JarAt H j ∧ 1 ≤ np ∧ np ≤ 4 ∧ 1 ≤ ns ∧ ns ≤ 2 ∧
  ∀ (p : Addr) (W : Wd) (H1 : Hp), SkAt H1 p W → GoodR W → JarAt H1 j → But j H H1 → H p = none → p ≠ j → Q (.ref p) H1
structure BltK (mg : Str → Option Value) : Prop where
  range : mg "range" = none
  sum : mg "sum" = none
  tuple : mg "tuple" = none
theorem cutV_nat {xs : List V} {a b : Nat} (h : a ≤ b) (hb : b ≤ xs.length) : cutV xs (some (a : Int)) (some (b : Int)) = (xs.drop a).take (b - a) := by
  unfold cutV HT.sIx
  simp only
  rw [if_neg (by omega), if_neg (by omega)]
  congr 1
  · omega
  · congr 1
    omega
theorem cutV_pre {xs : List V} {b : Nat} (hb : b ≤ xs.length) : cutV xs none (some (b : Int)) = xs.take b := by
  unfold cutV HT.sIx
  simp only
  rw [if_neg (by omega), List.drop_zero]
  congr 1
  omega
theorem cutV_suf {xs : List V} {a : Nat} (ha : a ≤ xs.length) : cutV xs (some (a : Int)) none = xs.drop a := by
  unfold cutV HT.sIx
  simp only
  rw [if_neg (by omega)]
  refine (List.take_of_length_le ?_).trans ?_
  · rw [List.length_drop]
    omega
  · congr 1
    omega
/-- all but j and d stays -/
def B2 (j d : Addr) (H H1 : Hp) : Prop := ∀ b o, b ≠ j → b ≠ d → H b = some o → H1 b = some o
theorem B2.refl {j d : Addr} {H : Hp} : B2 j d H H := fun _ _ _ _ e => e
theorem B2.trans {j d : Addr} {H H1 H2 : Hp} (s : B2 j d H H1) (t : B2 j d H1 H2) : B2 j d H H2 := fun b o n m e => t b o n m (s b o n m e)
theorem B2.of {j d : Addr} {H H1 : Hp} (s : But j H H1) : B2 j d H H1 := fun b o n _ e => s b o n e
theorem B2.new {j d p : Addr} {H H1 : Hp} {o : HO} (s : B2 j d H H1) (n : H1 p = none) : B2 j d H (upd H1 p o) := fun b u m1 m2 e => by
  rw [upd_ne (ne_of_none (s b u m1 m2 e) n)]
  exact s b u m1 m2 e
theorem B2.put {j d p : Addr} {H H1 : Hp} {o : HO} (s : B2 j d H H1) (n : H p = none) : B2 j d H (upd H1 p o) := fun b u m1 m2 e => by
  rw [upd_ne (ne_of_none e n)]
  exact s b u m1 m2 e
theorem B2.own {j d : Addr} {H H1 : Hp} {o : HO} (s : B2 j d H H1) : B2 j d H (upd H1 d o) := fun b u m1 m2 e => by
  rw [upd_ne m2]
  exact s b u m1 m2 e
theorem B2.but {j d : Addr} {H H1 : Hp} (s : B2 j d H H1) (n : H d = none) : But j H H1 := fun b o m e => s b o m (ne_of_none e n) e
theorem B2.tup {j d : Addr} {H H1 : Hp} {kv : List (Key × V)} (J : JarAt H j) (hd : H d = some (.dK kv)) (b : B2 j d H H1) : Tup H H1 := fun a xs e => b a _ (fun z => by
  obtain ⟨x, m, c, q, _⟩ := J
  rw [z, q] at e
  cases e) (fun z => by
  rw [z, hd] at e
  cases e) e
theorem B2.gone {j d p : Addr} {H H1 : Hp} (b : B2 j d H H1) (m : p ≠ j) (m2 : p ≠ d) (n : H1 p = none) : H p = none := by
  cases e : H p with
  | none => rfl
  | some o =>
    rw [b p o m m2 e] at n
    cases n
theorem Rows3.b2 {j d : Addr} {H H1 : Hp} {p : Addr} {kv : List (Key × V)} {ls : List Str} {off n : Nat} {ms : List (Str × Int × Int)} (J : JarAt H j) (hd : H d = some (.dK kv)) (b : B2 j d H H1) (m : p ≠ j) (m2 : p ≠ d) (h : Rows3 H p ls off n ms) : Rows3 H1 p ls off n ms := by
  obtain ⟨⟨vs, h1, h2, h3⟩, h4⟩ := h
  exact ⟨⟨vs, b _ _ m m2 h1, h2, L2.Paired.mapP h3 fun x y z => Row3.seq (B2.tup J hd b) z⟩, h4⟩
theorem Rows2.b2 {j d : Addr} {H H1 : Hp} {p : Addr} {kv : List (Key × V)} {ls : List Str} {off n : Nat} {ms : List (Str × Int)} (J : JarAt H j) (hd : H d = some (.dK kv)) (b : B2 j d H H1) (m : p ≠ j) (m2 : p ≠ d) (h : Rows2 H p ls off n ms) : Rows2 H1 p ls off n ms := by
  obtain ⟨⟨vs, h1, h2, h3⟩, h4⟩ := h
  exact ⟨⟨vs, b _ _ m m2 h1, h2, L2.Paired.mapP h3 fun x y z => Row2.seq (B2.tup J hd b) z⟩, h4⟩
def kv1 (a : Addr) : List (Key × V) := [(.inr "machines", .ref a)]
def kv2 (a b : Addr) : List (Key × V) := [(.inr "machines", .ref a), (.inr "cleanings", .ref b)]
def kv3 (a b c : Addr) : List (Key × V) := [(.inr "machines", .ref a), (.inr "cleanings", .ref b), (.inr "stuffs", .ref c)]
theorem key_ne : ((Sum.inr "machines" : Key) = .inr "cleanings") = False ∧ ((Sum.inr "machines" : Key) = .inr "stuffs") = False ∧ ((Sum.inr "cleanings" : Key) = .inr "stuffs") = False ∧ ((Sum.inr "machines" : Key) = .inr "products") = False ∧ ((Sum.inr "cleanings" : Key) = .inr "products") = False ∧ ((Sum.inr "stuffs" : Key) = .inr "products") = False := by
  refine ⟨?_, ?_, ?_, ?_, ?_, ?_⟩ <;> exact eq_false (by decide +kernel)
theorem put1 (a : Addr) : mergeK [] [((.inr "machines" : Key), V.ref a)] = kv1 a := rfl
theorem put2 (a b : Addr) : putK (kv1 a) (.inr "cleanings") (.ref b) = kv2 a b := by
  unfold putK kv1
  simp [key_ne.1, kv2]
theorem put3 (a b c : Addr) : putK (kv2 a b) (.inr "stuffs") (.ref c) = kv3 a b c := by
  unfold putK kv2
  simp [key_ne.2.1, key_ne.2.2.1, kv3]
theorem put4 (a b c d : Addr) : putK (kv3 a b c) (.inr "products") (.ref d) = skK a b c d := by
  unfold putK kv3
  simp [key_ne.2.2.2.1, key_ne.2.2.2.2.1, key_ne.2.2.2.2.2, skK]
theorem get_sk (a b c d : Addr) : valV (skK a b c d) (.inr "machines") = some (.ref a) ∧ valV (skK a b c d) (.inr "cleanings") = some (.ref b) ∧ valV (skK a b c d) (.inr "stuffs") = some (.ref c) ∧ valV (skK a b c d) (.inr "products") = some (.ref d) := by
  refine ⟨?_, ?_, ?_, ?_⟩ <;> (unfold valV skK; simp [key_ne.1, key_ne.2.1, key_ne.2.2.1, key_ne.2.2.2.1, key_ne.2.2.2.2.1, key_ne.2.2.2.2.2])
theorem nm_at {ls : List Str} {off n i : Nat} {x : V} (h : (((ls.drop off).take n).map V.str)[i]? = some x) : ∃ nm : Str, x = .str nm ∧ ls[off + i]? = some nm ∧ i < n := by
  rw [List.getElem?_map, List.getElem?_take] at h
  by_cases hi : i < n
  · rw [if_pos hi, List.getElem?_drop] at h
    cases e : ls[off + i]? with
    | none => rw [e] at h; cases h
    | some nm =>
      rw [e] at h
      exact ⟨nm, (Option.some.inj h).symm, rfl, hi⟩
  · rw [if_neg hi] at h
    cases h
section
variable {P : Program} {w : World} {K : PySem.W.Frag} {mg : Str → Option Value} {base : Heap}
abbrev nSk : List Str := ["_law_jar_here", "_law_products", "_law_stuffs", "_law_sizes", "_law_names_here", "_law_edges", "_law_at", "_law_name", "_law_found", "_law_limits", "_law_k"]
theorem scSk : FnScope nSk pSk (defScope sSk) := ⟨rfl, rfl, rfl, by decide +kernel, rfl, by decide +kernel, by decide +kernel⟩
theorem ok_sk {f fD fO fN fB fC : Addr} {fd fdD fdO fdN fdB fdC : FuncData} (F : Fun K "_law_works" "_law_works" sSk f fd) (T : BltK mg)
    (GD : FnOk P w K mg base CX0 1 fD fdD ["_law_jar_here", "_law_top"] spDip) (mD : mg "_law_tap" = some (.ref fD)) (kD : PySem.W.keepIn K (.ref fD) = true) (bD : Binds K fdD ["_law_jar_here", "_law_top"] [])
    (GO : FnOk P w K mg base CX0 2 fO fdO ["_law_jar_here", "_law_things"] spOne) (mO : mg "_law_one" = some (.ref fO)) (kO : PySem.W.keepIn K (.ref fO) = true) (bO : Binds K fdO ["_law_jar_here", "_law_things"] [])
    (GN : FnOk P w K mg base CX0 3 fN fdN ["_law_jar_here", "_law_many"] spNames) (mN : mg "_law_names" = some (.ref fN)) (kN : PySem.W.keepIn K (.ref fN) = true) (bN : Binds K fdN ["_law_jar_here", "_law_many"] [])
    (GB : FnOk P w K mg base CX0 3 fB fdB pBnT spBnT) (mB : mg "_law_bounds" = some (.ref fB)) (kB : PySem.W.keepIn K (.ref fB) = true) (bB : Binds K fdB pBnT [])
    (GC : FnOk P w K mg base CX0 4 fC fdC ["_law_jar_here"] spCnT) (mC : mg "_law_content" = some (.ref fC)) (kC : PySem.W.keepIn K (.ref fC) = true) (bC : Binds K fdC ["_law_jar_here"] []) :
    FnOk P w K mg base CX0 5 f fd pSk spSk := by
  refine F.ok scSk (fun vs H Q E h => ?_) (fun cdv A outer s H vs Q E hr h => ?_)
  · obtain ⟨j, np, ns, rfl, _⟩ := h
    rfl
  · obtain ⟨j, np, ns, rfl, J, p0, p1, s0, s1, k⟩ := h
    have hr1 : Room 1 _ := hr.mono (by decide)
    have hr2 : Room 2 _ := hr.mono (by decide)
    have hr3 : Room 3 _ := hr.mono (by decide)
    have hu := hu_of hr
    refine ⟨_, pss_cons (ps_set (i := 3) scSk.nd rfl (Or.inl rfl) (pe_lst (pa_cons (pe_op op_add pe_int (pe_call GD hr1 (by rfl) mD kD bD .nil pass0 (pa_cons (pv 0) (pa_cons pe_int pa_nil)))) (pa_cons (pe_call GD hr1 (by rfl) mD kD bD .nil pass0 (pa_cons (pv 0) (pa_cons pe_int pa_nil))) (pa_cons (pe_op op_add pe_int (pe_call GD hr1 (by rfl) mD kD bD .nil pass0 (pa_cons (pv 0) (pa_cons (pv 2) pa_nil)))) (pa_cons (pe_op op_add pe_int (pe_call GD hr1 (by rfl) mD kD bD .nil pass0 (pa_cons (pv 0) (pa_cons (pv 1) pa_nil)))) pa_nil))))))
      (pss_cons (ps_asg (pe_tup (pa_cons (pe_call GN hr3 (by rfl) mN kN bN .nil pass0 (pa_cons (pv 0) (pa_cons (pe_callB (cr_sum (by rfl)) (by rfl) T.sum (by decide +kernel) (pa_cons (pv 3) pa_nil)) pa_nil))) (pa_cons (pe_lst (pa_cons pe_int (pa_cons pe_int (pa_cons pe_int (pa_cons pe_int (pa_cons pe_int (pa_cons pe_int pa_nil))))))) pa_nil))) (pg_tup (by rfl) (pgs_cons (pg_name (i := 4) scSk.nd rfl (Or.inl rfl)) (pgs_cons (pg_name (i := 5) scSk.nd rfl (Or.inr rfl)) pgs_nil))))
      (pss_cons (ps_set (i := 6) scSk.nd rfl (Or.inl rfl) (pe_lst (pa_cons (pe_ix ix_list (pv 3) pe_int (fun _ _ => rfl)) (pa_cons (pe_op op_add (pe_ix ix_list (pv 3) pe_int (fun _ _ => rfl)) (pe_ix ix_list (pv 3) pe_int (fun _ _ => rfl))) (pa_cons (pe_op op_add (pe_op op_add (pe_ix ix_list (pv 3) pe_int (fun _ _ => rfl)) (pe_ix ix_list (pv 3) pe_int (fun _ _ => rfl))) (pe_ix ix_list (pv 3) pe_int (fun _ _ => rfl))) pa_nil)))))
      (pss_cons (ps_set (i := 8) scSk.nd rfl (Or.inl rfl) (pe_disp (pps_cons pe_str (pe_lc (own := [("_law_name", 7)]) (g := gName 7) (by rfl) scSk.nd (pi_list (pe_slice sl_list (pv 4) po_none (po_some (pe_ix ix_list (pv 6) pe_int (fun _ _ => rfl))))) (blkOk_by (own := [("_law_name", 7)]) (N := nSk) (sc := defScope sSk) (by decide +kernel)) (fun _ _ _ _ _ => pg_name (i := 7) scSk.nd rfl (Or.inl rfl)) (fun _ _ _ _ _ => pts_nil)
          (fun _ _ _ _ _ => pe_op (show OpR _ _ (rCatT K) from op_catT) (pe_tup (pa_cons (pv 7) pa_nil)) (pe_call GB hr3 (by rfl) mB kB bB .nil pass0 (pa_cons (pv 0) (pa_cons pe_int (pa_cons (pv 5) pa_nil)))))) pps_nil) (by rfl) (by rfl) (fun z => by cases z) (by decide)))
      (pss_cons (ps_dput hu (pv 8) pe_str (pe_lc (own := [("_law_name", 7)]) (g := gName 7) (by rfl) scSk.nd (pi_list (pe_slice sl_list (pv 4) (po_some (pe_ix ix_list (pv 6) pe_int (fun _ _ => rfl))) (po_some (pe_ix ix_list (pv 6) pe_int (fun _ _ => rfl))))) (blkOk_by (own := [("_law_name", 7)]) (N := nSk) (sc := defScope sSk) (by decide +kernel)) (fun _ _ _ _ _ => pg_name (i := 7) scSk.nd rfl (Or.inl rfl)) (fun _ _ _ _ _ => pts_nil)
          (fun _ _ _ _ _ => pe_op (show OpR _ _ (rCatT K) from op_catT) (pe_tup (pa_cons (pv 7) pa_nil)) (pe_call GB hr3 (by rfl) mB kB bB .nil pass0 (pa_cons (pv 0) (pa_cons pe_int (pa_cons (pv 5) pa_nil)))))) (by rfl))
      (pss_cons (ps_set (i := 9) scSk.nd rfl (Or.inr rfl) (pe_lst (pa_cons pe_int (pa_cons pe_int (pa_cons pe_int (pa_cons (pe_op op_pow pe_int pe_int) (pa_cons (pe_call GD hr1 (by rfl) mD kD bD .nil pass0 (pa_cons (pv 0) (pa_cons (pe_op op_add (pe_op op_pow pe_int pe_int) pe_int) pa_nil))) (pa_cons pe_int pa_nil))))))))
      (pss_cons (ps_dput hu (pv 8) pe_str (pe_lc (own := [("_law_name", 7)]) (g := gName 7) (by rfl) scSk.nd (pi_list (pe_slice sl_list (pv 4) (po_some (pe_ix ix_list (pv 6) pe_int (fun _ _ => rfl))) (po_some (pe_ix ix_list (pv 6) pe_int (fun _ _ => rfl))))) (blkOk_by (own := [("_law_name", 7)]) (N := nSk) (sc := defScope sSk) (by decide +kernel)) (fun _ _ _ _ _ => pg_name (i := 7) scSk.nd rfl (Or.inl rfl)) (fun _ _ _ _ _ => pts_nil)
          (fun _ _ _ _ _ => pe_tup (pa_cons (pv 7) (pa_cons (pe_call GO hr2 (by rfl) mO kO bO .nil pass0 (pa_cons (pv 0) (pa_cons (pv 9) pa_nil))) pa_nil)))) (by rfl))
      (pss_cons (ps_dput hu (pv 8) pe_str (pe_lst pa_nil) (by rfl))
      (pss_cons (ps_for PassesOwn.never rfl (pi_list (pe_slice sl_list (pv 4) (po_some (pe_ix ix_list (pv 6) pe_int (fun _ _ => rfl))) po_none)) (pg_name (i := 7) scSk.nd rfl (Or.inl rfl))
        (pss_one (ps_expr (pe_bm PySem.F.plainAttrs_list PySem.F.slot_list_append PySem.F.type_list_append mt_append (pe_dget hu (pv 8) pe_str (fun _ _ => rfl)) (pa_cons (pe_tup (pa_cons (pv 7) (pa_cons (pe_callTy call_tuple_of (by rfl) T.tuple (by decide +kernel) (pa_cons (pe_lc (own := [("_law_k", 10)]) (g := gName 10) (by rfl) scSk.nd (pi_range1 (by rfl) T.range (pa_cons (pe_ix ix_list (pv 3) pe_int (fun _ _ => rfl)) pa_nil)) (blkOk_by (own := [("_law_k", 10)]) (N := nSk) (sc := defScope sSk) (by decide +kernel)) (fun _ _ _ _ _ => pg_name (i := 10) scSk.nd rfl (Or.inl rfl)) (fun _ _ _ _ _ => pts_nil)
          (fun _ _ _ _ _ => pe_call GC hr (by rfl) mC kC bC .nil pass0 (pa_cons (pv 0) pa_nil))) pa_nil)) pa_nil))) pa_nil)))))
      (pss_one (ps_ret (pv 8))))))))))), ?_⟩
    refine ⟨_, rfl, j, 2, rfl, J, by decide, by decide, fun r1 H1 a0 a1 J1 b1 => ⟨_, _, rfl, rfl, ?_⟩⟩
    refine ⟨_, rfl, j, 4, rfl, J1, by decide, by decide, fun r2 H2 c0 c1 J2 b2 => ?_⟩
    refine ⟨_, rfl, _, rfl, j, ns, rfl, J2, by omega, by omega, fun r3 H3 d0 d1 J3 b3 => ⟨_, _, rfl, rfl, ?_⟩⟩
    refine ⟨_, rfl, _, rfl, j, np, rfl, J3, by omega, by omega, fun r4 H4 g0 g1 J4 b4 => ⟨_, _, rfl, rfl, ?_⟩⟩
    refine ⟨big100 (Nat.le_of_ble_eq_true rfl), fun pz nz => ?_⟩
    obtain ⟨m1, f1⟩ : ∃ m : Nat, 1 + r1 = (m : Int) := ⟨(1 + r1).toNat, by omega⟩
    obtain ⟨m2, f2⟩ : ∃ m : Nat, r2 = (m : Int) := ⟨r2.toNat, by omega⟩
    obtain ⟨m3, f3⟩ : ∃ m : Nat, 1 + r3 = (m : Int) := ⟨(1 + r3).toNat, by omega⟩
    obtain ⟨m4, f4⟩ : ∃ m : Nat, 1 + r4 = (m : Int) := ⟨(1 + r4).toNat, by omega⟩
    change gName 3 (V.ref pz) _ (upd H4 pz (HO.lst [V.int (1 + r1), V.int r2, V.int (1 + r3), V.int (1 + r4)])) _
    rw [f1, f2, f3, f4]
    have B4 := ((b1.trans b2).trans b3).trans b4
    have ez : (upd H4 pz (.lst [.int m1, .int m2, .int m3, .int m4])) pz = some (.lst ([(m1 : Int), (m2 : Int), (m3 : Int), (m4 : Int)].map V.int)) := upd_same
    have J5 := J4.new nz (o := .lst [.int m1, .int m2, .int m3, .int m4])
    have B5 := B4.new nz (o := .lst [.int m1, .int m2, .int m3, .int m4])
    have mz := J4.ne nz
    generalize upd H4 pz (.lst [.int m1, .int m2, .int m3, .int m4]) = H5 at ez J5 B5 ⊢
    have le2 : m1 ≤ 2 := by omega
    have ge1 : 1 ≤ m1 := by omega
    have le3 : m2 ≤ 3 := by omega
    have le4 : m3 ≤ 2 := by omega
    have ge3 : 1 ≤ m3 := by omega
    have le5 : m4 ≤ 4 := by omega
    have ge4 : 1 ≤ m4 := by omega
    clear b1 b2 b3 b4 B4 nz J1 J2 J3 J4 a0 a1 c0 c1 d0 d1 g0 g1 f1 f2 f3 f4
    refine ⟨_, rfl, _, rfl, pz, _, rfl, SqL.of ez, ?_⟩
    rw [show ([(m1 : Int), (m2 : Int), (m3 : Int), (m4 : Int)].sum) = ((m1 + m2 + m3 + m4 : Nat) : Int) from by simp only [List.sum_cons, List.sum_nil]; omega]
    refine ⟨j, m1 + m2 + m3 + m4, rfl, J5, by omega, fun pl ls H6 hls hnd hw J6 b6 npl mpl el => ?_⟩
    have ez6 := b6 _ _ mz ez
    have B6 := B5.trans b6
    refine ⟨big100 (Nat.le_of_ble_eq_true rfl), fun pe npe => ⟨big100 (Nat.le_of_ble_eq_true rfl), fun t nt => ⟨t, _, rfl, SqT.of upd_same, rfl, _, _, rfl, _, _, rfl, rfl, ?_⟩⟩⟩
    have x7 : Ex H6 (upd (upd H6 pe (.lst [.int 0, .int 1000, .int 1000, .int 999, .int 1, .int 500])) t (.tup [.ref pl, .ref pe])) := (Ex.refl.new npe).new nt
    have ee : (upd (upd H6 pe (.lst [.int 0, .int 1000, .int 1000, .int 999, .int 1, .int 500])) t (.tup [.ref pl, .ref pe])) pe = some (.lst ([(0 : Int), 1000, 1000, 999, 1, 500].map V.int)) := by
      rw [upd_ne (ne_of_none upd_same nt)]
      exact upd_same
    have me := J6.ne npe
    generalize upd (upd H6 pe (.lst [.int 0, .int 1000, .int 1000, .int 999, .int 1, .int 500])) t (.tup [.ref pl, .ref pe]) = H7 at x7 ee ⊢
    have B7 := B6.trans (But.ex x7)
    have J7 := jar_ex x7 J6
    have ez7 := x7 _ _ ez6
    have el7 := x7 _ _ el
    clear b6 B6 J6 ez6 el x7 npe nt B5 J5 ez
    refine ⟨_, rfl, pz, _, 0, _, rfl, rfl, SqL.of ez7, rfl, _, rfl, pz, _, 0, _, rfl, rfl, SqL.of ez7, rfl, _, rfl, pz, _, 1, _, rfl, rfl, SqL.of ez7, rfl, _, _, rfl, rfl,
      _, rfl, pz, _, 0, _, rfl, rfl, SqL.of ez7, rfl, _, rfl, pz, _, 1, _, rfl, rfl, SqL.of ez7, rfl, _, _, rfl, rfl, _, rfl, pz, _, 2, _, rfl, rfl, SqL.of ez7, rfl, _, _, rfl, rfl, big100 (Nat.le_of_ble_eq_true rfl), fun pa npa => ?_⟩
    change gName 6 (V.ref pa) _ (upd H7 pa (HO.lst [V.int m1, V.int ((m1 : Int) + (m2 : Int)), V.int ((m1 : Int) + (m2 : Int) + (m3 : Int))])) _
    rw [show (m1 : Int) + (m2 : Int) + (m3 : Int) = ((m1 + m2 + m3 : Nat) : Int) from by omega, show (m1 : Int) + (m2 : Int) = ((m1 + m2 : Nat) : Int) from by omega]
    have ma := J7.ne npa
    have x8 : Ex H7 (upd H7 pa (.lst [.int m1, .int ((m1 + m2 : Nat) : Int), .int ((m1 + m2 + m3 : Nat) : Int)])) := Ex.refl.new npa
    have ea : (upd H7 pa (.lst [.int m1, .int ((m1 + m2 : Nat) : Int), .int ((m1 + m2 + m3 : Nat) : Int)])) pa = some (.lst ([.int m1, .int ((m1 + m2 : Nat) : Int), .int ((m1 + m2 + m3 : Nat) : Int)])) := upd_same
    generalize upd H7 pa (.lst [.int m1, .int ((m1 + m2 : Nat) : Int), .int ((m1 + m2 + m3 : Nat) : Int)]) = H8 at x8 ea ⊢
    have B8 := B7.trans (But.ex x8)
    have J8 := jar_ex x8 J7
    have ez8 := x8 _ _ ez7
    have el8 := x8 _ _ el7
    have ee8 := x8 _ _ ee
    clear x8 B7 J7 ez7 el7 ee npa
    intro dr ndr
    have md := J8.ne ndr
    have nHd : H dr = none := B8.gone md ndr
    have x9 : Ex H8 (upd H8 dr (.dK [])) := Ex.refl.new ndr
    have ed : (upd H8 dr (.dK [])) dr = some (.dK []) := upd_same
    generalize upd H8 dr (.dK []) = H9 at x9 ed ⊢
    have B9 := B8.trans (But.ex x9)
    have J9 := jar_ex x9 J8
    have ez9 := x9 _ _ ez8
    have el9 := x9 _ _ el8
    have ee9 := x9 _ _ ee8
    have ea9 := x9 _ _ ea
    clear x9 B8 J8 ez8 el8 ee8 ea
    have dz : pz ≠ dr := ne_of ez9 ed fun z => nomatch z
    have dl : pl ≠ dr := ne_of el9 ed fun z => nomatch z
    have de : pe ≠ dr := ne_of ee9 ed fun z => nomatch z
    have da : pa ≠ dr := ne_of ea9 ed fun z => nomatch z
    -- machines
    refine ⟨_, rfl, _, rfl, pa, _, 0, _, rfl, rfl, SqL.of ea9, rfl, _, rfl, pl, _, rfl, SqL.of el9, fun q nq => ?_⟩
    rw [cutV_pre (by rw [List.length_map]; omega), ← List.map_take]
    have mq := J9.ne nq
    have eq : (upd H9 q (.lst ((ls.take m1).map V.str))) q = some (.lst ((ls.take m1).map V.str)) := upd_same
    have xA : Ex H9 (upd H9 q (.lst ((ls.take m1).map V.str))) := Ex.refl.new nq
    generalize upd H9 q (.lst ((ls.take m1).map V.str)) = HA at eq xA ⊢
    have JA := jar_ex xA J9
    have bA : But j H9 HA := But.ex xA
    clear nq xA
    refine ⟨q, rfl, ⟨_, SqL.of eq⟩, fun D hD => lc_list (K := K) (a := q) (fun n G => JarAt G j ∧ But j HA G ∧ ∃ ms, Rows3 G D ls 0 n ms)
      ⟨JA.new hD, But.refl.new hD, [], ⟨⟨[], upd_same, rfl, .nil⟩, rfl, fun r hr => nomatch hr⟩⟩ (fun i G _ h => SqL.of (h.2.1 _ _ mq eq)) ?_ ?_⟩
    · rintro n y G hn ⟨JG, bG, ms, ⟨vs, hv, hvl, hpr⟩, hnm, hbd⟩
      obtain ⟨nm, rfl, hx, nlt⟩ := nm_at (off := 0) hn
      have dD : D ≠ j := JA.ne hD
      refine ⟨rfl, ?_⟩
      refine ⟨_, rfl, big100 (Nat.le_of_ble_eq_true rfl), fun t1 nt1 => ?_⟩
      have mt1 := JG.ne nt1
      refine ⟨_, rfl, _, rfl, j, pe, 1000, _, rfl, JG.new nt1, by decide, by decide, (But.new (bA.trans bG) nt1) _ _ me ee9, me, by decide, (by decide), fun p lo hi G3 l0 l1 l2 J3 b3 np mp e3 => ?_⟩
      have e1 := b3 _ _ mt1 upd_same
      refine ⟨t1, p, _, _, rfl, rfl, SqT.of e1, SqT.of e3, (by simp), big100 (Nat.le_of_ble_eq_true rfl), (fun z => by cases z), fun _ q2 nq2 => ?_⟩
      have bb : But j HA (upd G3 q2 (.tup [.str nm, .int lo, .int hi])) := (But.trans (bG.new nt1) b3).new nq2
      have eD : (upd G3 q2 (.tup [.str nm, .int lo, .int hi])) D = some (.lst vs) := by
        have z := b3 _ _ dD (show (upd G t1 (.tup [.str nm])) D = some (.lst vs) by rw [upd_ne (ne_of_none hv nt1)]; exact hv)
        rw [upd_ne (ne_of_none z nq2)]
        exact z
      have tt : Tup G (upd G3 q2 (.tup [.str nm, .int lo, .int hi])) := Tup.trans (Tup.new nt1) (Tup.trans (Tup.of (JG.new nt1) b3) (Tup.new nq2))
      have hq : (upd G3 q2 (.tup [.str nm, .int lo, .int hi])) q2 = some (.tup [.str nm, .int lo, .int hi]) := upd_same
      have J4 := J3.new nq2 (o := .tup [.str nm, .int lo, .int hi])
      refine ⟨vs, eD, big100 (by omega), J4.put dD, bb.put hD, ms ++ [(nm, lo, hi)], ⟨⟨vs ++ [.ref q2], upd_same, by rw [List.length_append, hvl]; rfl, ?_⟩, ?_, ?_⟩⟩
      · have t5 : Tup (upd G3 q2 (.tup [.str nm, .int lo, .int hi])) (upd (upd G3 q2 (.tup [.str nm, .int lo, .int hi])) D (.lst (vs ++ [.ref q2]))) := Tup.put eD
        exact Paired.snoc (L2.Paired.mapP hpr fun a b z => Row3.seq (Tup.trans tt t5) z) ⟨q2, rfl, t5 _ _ hq⟩
      · rw [List.map_append, hnm, names_succ hx]
        rfl
      · intro r hr
        rcases List.mem_append.mp hr with h | h
        · exact hbd r h
        · obtain rfl := List.mem_singleton.mp h
          exact ⟨l0, l1, l2⟩
    rintro HB ⟨JB, bB', ms, RM⟩
    have dDj : D ≠ j := JA.ne hD
    have lM : ((ls.take m1).map V.str).length = m1 := by
      rw [List.length_map, List.length_take]
      omega
    rw [lM] at RM
    have edB := bB' _ _ md (bA _ _ md ed)
    have dD : D ≠ dr := (ne_of_none (bA _ _ md ed) hD).symm
    refine ⟨edB, [(.inr "machines", .ref D)], rfl, by exact (by decide : 1 ≤ 15), ?_⟩
    rw [put1]
    have bAB := bA.trans bB'
    have CB : B2 j dr H9 (upd HB dr (.dK (kv1 D))) := B2.own (B2.of bAB)
    have JC := JB.put md (o := .dK (kv1 D))
    have edC : (upd HB dr (.dK (kv1 D))) dr = some (.dK (kv1 D)) := upd_same
    have RM2 : Rows3 (upd HB dr (.dK (kv1 D))) D ls 0 m1 ms := Rows3.b2 JB edB (B2.own B2.refl) dDj dD RM
    generalize upd HB dr (.dK (kv1 D)) = HC at CB JC edC RM2 ⊢
    clear RM edB bAB bB' bA JB JA lM eq
    have azC := CB _ _ mz dz ez9
    have elC := CB _ _ mpl dl el9
    have eeC := CB _ _ me de ee9
    have eaC := CB _ _ ma da ea9
    -- cleanings
    refine ⟨_, rfl, _, rfl, pa, _, 0, _, rfl, rfl, SqL.of eaC, rfl, _, rfl, _, rfl, pa, _, 1, _, rfl, rfl, SqL.of eaC, rfl, _, rfl, pl, _, rfl, SqL.of elC, fun q2 nq2 => ?_⟩
    rw [cutV_nat (by omega) (by rw [List.length_map]; omega), show m1 + m2 - m1 = m2 from by omega, ← List.map_drop, ← List.map_take]
    have mq2 := JC.ne nq2
    have dq2 := ne_of_none edC nq2
    have eq2 : (upd HC q2 (.lst (((ls.drop m1).take m2).map V.str))) q2 = some (.lst (((ls.drop m1).take m2).map V.str)) := upd_same
    have xA : Ex HC (upd HC q2 (.lst (((ls.drop m1).take m2).map V.str))) := Ex.refl.new nq2
    generalize upd HC q2 (.lst (((ls.drop m1).take m2).map V.str)) = HE at eq2 xA ⊢
    have JE := jar_ex xA JC
    have bE : But j HC HE := But.ex xA
    clear nq2 xA
    refine ⟨q2, rfl, ⟨_, SqL.of eq2⟩, fun D2 hD2 => lc_list (K := K) (a := q2) (fun n G => JarAt G j ∧ But j HE G ∧ ∃ ms, Rows3 G D2 ls m1 n ms)
      ⟨JE.new hD2, But.refl.new hD2, [], ⟨⟨[], upd_same, rfl, .nil⟩, rfl, fun r hr => nomatch hr⟩⟩ (fun i G _ h => SqL.of (h.2.1 _ _ mq2 eq2)) ?_ ?_⟩
    · rintro n y G hn ⟨JG, bG, ms, ⟨vs, hv, hvl, hpr⟩, hnm, hbd⟩
      obtain ⟨nm, rfl, hx, nlt⟩ := nm_at (off := m1) hn
      have dD : D2 ≠ j := JE.ne hD2
      refine ⟨rfl, ?_⟩
      refine ⟨_, rfl, big100 (Nat.le_of_ble_eq_true rfl), fun t1 nt1 => ?_⟩
      have mt1 := JG.ne nt1
      refine ⟨_, rfl, _, rfl, j, pe, 1000, _, rfl, JG.new nt1, by decide, by decide, (But.new (bE.trans bG) nt1) _ _ me eeC, me, by decide, (by decide), fun p lo hi G3 l0 l1 l2 J3 b3 np mp e3 => ?_⟩
      have e1 := b3 _ _ mt1 upd_same
      refine ⟨t1, p, _, _, rfl, rfl, SqT.of e1, SqT.of e3, (by simp), big100 (Nat.le_of_ble_eq_true rfl), (fun z => by cases z), fun _ q2 nq2 => ?_⟩
      have bb : But j HE (upd G3 q2 (.tup [.str nm, .int lo, .int hi])) := (But.trans (bG.new nt1) b3).new nq2
      have eD : (upd G3 q2 (.tup [.str nm, .int lo, .int hi])) D2 = some (.lst vs) := by
        have z := b3 _ _ dD (show (upd G t1 (.tup [.str nm])) D2 = some (.lst vs) by rw [upd_ne (ne_of_none hv nt1)]; exact hv)
        rw [upd_ne (ne_of_none z nq2)]
        exact z
      have tt : Tup G (upd G3 q2 (.tup [.str nm, .int lo, .int hi])) := Tup.trans (Tup.new nt1) (Tup.trans (Tup.of (JG.new nt1) b3) (Tup.new nq2))
      have hq : (upd G3 q2 (.tup [.str nm, .int lo, .int hi])) q2 = some (.tup [.str nm, .int lo, .int hi]) := upd_same
      have J4 := J3.new nq2 (o := .tup [.str nm, .int lo, .int hi])
      refine ⟨vs, eD, big100 (by omega), J4.put dD, bb.put hD2, ms ++ [(nm, lo, hi)], ⟨⟨vs ++ [.ref q2], upd_same, by rw [List.length_append, hvl]; rfl, ?_⟩, ?_, ?_⟩⟩
      · have t5 : Tup (upd G3 q2 (.tup [.str nm, .int lo, .int hi])) (upd (upd G3 q2 (.tup [.str nm, .int lo, .int hi])) D2 (.lst (vs ++ [.ref q2]))) := Tup.put eD
        exact Paired.snoc (L2.Paired.mapP hpr fun a b z => Row3.seq (Tup.trans tt t5) z) ⟨q2, rfl, t5 _ _ hq⟩
      · rw [List.map_append, hnm, names_succ hx]
        rfl
      · intro r hr
        rcases List.mem_append.mp hr with h | h
        · exact hbd r h
        · obtain rfl := List.mem_singleton.mp h
          exact ⟨l0, l1, l2⟩
    rintro HF ⟨JF, bF, cs, RC⟩
    have dD2j : D2 ≠ j := JE.ne hD2
    have lC : (((ls.drop m1).take m2).map V.str).length = m2 := by
      rw [List.length_map, List.length_take, List.length_drop]
      omega
    rw [lC] at RC
    have edE := bE _ _ md edC
    have edF := bF _ _ md edE
    have dD2 : D2 ≠ dr := (ne_of_none edE hD2).symm
    refine ⟨_, rfl, dr, _, rfl, (show DPut HF dr (kV (.inr "cleanings")) (.ref D2) _ from DPut.k edF (big100 (by exact (by decide : 2 ≤ 100)))), ?_⟩
    rw [put2]
    have bCF := bE.trans bF
    have CCF : B2 j dr HC (upd HF dr (.dK (kv2 D D2))) := B2.own (B2.of bCF)
    have JG0 := JF.put md (o := .dK (kv2 D D2))
    have edG : (upd HF dr (.dK (kv2 D D2))) dr = some (.dK (kv2 D D2)) := upd_same
    have RM3 : Rows3 (upd HF dr (.dK (kv2 D D2))) D ls 0 m1 ms := Rows3.b2 JC edC CCF dDj dD RM2
    have RC2 : Rows3 (upd HF dr (.dK (kv2 D D2))) D2 ls m1 m2 cs := Rows3.b2 JF edF (B2.own B2.refl) dD2j dD2 RC
    have CG := CB.trans CCF
    generalize upd HF dr (.dK (kv2 D D2)) = HG at CG JG0 edG RM3 RC2 ⊢
    clear RC edE edF bE bF bCF CCF JE JF lC eq2 RM2 azC elC eeC eaC JC edC CB
    have ezG := CG _ _ mz dz ez9
    have elG := CG _ _ mpl dl el9
    have eaG := CG _ _ ma da ea9
    -- the limits
    have p12 : (10 : Int) ^ ((12 : Int).toNat) = 1000000000000 := by decide
    refine ⟨_, _, rfl, rfl, ⟨by decide, by decide, by decide⟩, _, rfl, _, _, rfl, rfl, ⟨by decide, by decide, by decide⟩, _, _, rfl, rfl, ?_⟩
    rw [p12]
    refine ⟨j, _, rfl, JG0, by decide, by decide, fun qv HI q0 q1 JI bI => ⟨big100 (Nat.le_of_ble_eq_true rfl), fun L hL => ?_⟩⟩
    have hqv : qv ≤ 1000000000000 := by omega
    have edI := bI _ _ md edG
    have mL := JI.ne hL
    have dL := ne_of_none edI hL
    have hin : ∀ z ∈ ([0, 1, 500, 1000000000000, qv, 1000] : List Int), 0 ≤ z ∧ z ≤ 1000000000000 := by
      intro z hz
      simp only [List.mem_cons, List.not_mem_nil, or_false] at hz
      rcases hz with rfl | rfl | rfl | rfl | rfl | rfl <;> omega
    have eL : (upd HI L (.lst ([0, 1, 500, 1000000000000, qv, 1000].map V.int))) L = some (.lst ([0, 1, 500, 1000000000000, qv, 1000].map V.int)) := upd_same
    have CJ : B2 j dr HG (upd HI L (.lst ([0, 1, 500, 1000000000000, qv, 1000].map V.int))) := (B2.of bI).new hL
    have JJ : JarAt (upd HI L (.lst ([0, 1, 500, 1000000000000, qv, 1000].map V.int))) j := JI.new hL
    have edJ : (upd HI L (.lst ([0, 1, 500, 1000000000000, qv, 1000].map V.int))) dr = some (.dK (kv2 D D2)) := by
      rw [upd_ne dL]
      exact edI
    change gName 9 (V.ref L) _ (upd HI L (.lst ([0, 1, 500, 1000000000000, qv, 1000].map V.int))) _
    generalize upd HI L (.lst ([0, 1, 500, 1000000000000, qv, 1000].map V.int)) = HJ at eL CJ JJ edJ ⊢
    have RM4 : Rows3 HJ D ls 0 m1 ms := Rows3.b2 JG0 edG CJ dDj dD RM3
    have RC4 : Rows3 HJ D2 ls m1 m2 cs := Rows3.b2 JG0 edG CJ dD2j dD2 RC2
    have CJ9 := CG.trans CJ
    clear RM3 RC2 CJ CG JG0 edG edI hL JI bI ezG elG eaG q0 q1
    generalize hzs : ([0, 1, 500, 1000000000000, qv, 1000] : List Int) = zs at eL hin
    have lzs : zs.length = 6 := by rw [← hzs]; rfl
    clear hzs hqv
    have ezJ := CJ9 _ _ mz dz ez9
    have elJ := CJ9 _ _ mpl dl el9
    have eaJ := CJ9 _ _ ma da ea9
    -- stuffs
    refine ⟨_, rfl, _, rfl, pa, _, 1, _, rfl, rfl, SqL.of eaJ, rfl, _, rfl, _, rfl, pa, _, 2, _, rfl, rfl, SqL.of eaJ, rfl, _, rfl, pl, _, rfl, SqL.of elJ, fun q3 nq3 => ?_⟩
    rw [cutV_nat (by omega) (by rw [List.length_map]; omega), show m1 + m2 + m3 - (m1 + m2) = m3 from by omega, ← List.map_drop, ← List.map_take]
    have mq3 := JJ.ne nq3
    have dq3 := ne_of_none edJ nq3
    have eq3 : (upd HJ q3 (.lst (((ls.drop (m1 + m2)).take m3).map V.str))) q3 = some (.lst (((ls.drop (m1 + m2)).take m3).map V.str)) := upd_same
    have xA : Ex HJ (upd HJ q3 (.lst (((ls.drop (m1 + m2)).take m3).map V.str))) := Ex.refl.new nq3
    generalize upd HJ q3 (.lst (((ls.drop (m1 + m2)).take m3).map V.str)) = HK at eq3 xA ⊢
    have JK := jar_ex xA JJ
    have bK : But j HJ HK := But.ex xA
    have eLK := xA _ _ eL
    clear nq3 xA
    refine ⟨q3, rfl, ⟨_, SqL.of eq3⟩, fun D3 hD3 => lc_list (K := K) (a := q3) (fun n G => JarAt G j ∧ But j HK G ∧ ∃ ss, Rows2 G D3 ls (m1 + m2) n ss)
      ⟨JK.new hD3, But.refl.new hD3, [], ⟨⟨[], upd_same, rfl, .nil⟩, rfl, fun r hr => nomatch hr⟩⟩ (fun i G _ h => SqL.of (h.2.1 _ _ mq3 eq3)) ?_ ?_⟩
    · rintro n y G hn ⟨JG, bG, ss, ⟨vs, hv, hvl, hpr⟩, hnm, hbd⟩
      obtain ⟨nm, rfl, hx, nlt⟩ := nm_at (off := m1 + m2) hn
      have dD : D3 ≠ j := JK.ne hD3
      refine ⟨rfl, ?_⟩
      refine ⟨_, rfl, _, rfl, _, rfl, j, L, _, rfl, JG, bG _ _ mL eLK, mL, by rw [List.length_map, lzs]; decide, by rw [List.length_map, lzs]; decide, fun iv v G2 hvv J2 b2 => ?_⟩
      obtain ⟨z, rfl, z0, z1⟩ : ∃ z : Int, v = V.int z ∧ 0 ≤ z ∧ z ≤ 1000000000000 := by
        have h := List.mem_of_getElem? hvv
        obtain ⟨z, hz, rfl⟩ := List.mem_map.mp h
        exact ⟨z, rfl, hin z hz⟩
      refine ⟨big100 (Nat.le_of_ble_eq_true rfl), fun q4 nq4 => ?_⟩
      have bb : But j HK (upd G2 q4 (.tup [.str nm, .int z])) := (bG.trans b2).new nq4
      have eD : (upd G2 q4 (.tup [.str nm, .int z])) D3 = some (.lst vs) := by
        have z := b2 _ _ dD hv
        rw [upd_ne (ne_of_none z nq4)]
        exact z
      have tt : Tup G (upd G2 q4 (.tup [.str nm, .int z])) := Tup.trans (Tup.of JG b2) (Tup.new nq4)
      have hq : (upd G2 q4 (.tup [.str nm, .int z])) q4 = some (.tup [.str nm, .int z]) := upd_same
      have J4 := J2.new nq4 (o := .tup [.str nm, .int z])
      refine ⟨vs, eD, big100 (by omega), J4.put dD, bb.put hD3, ss ++ [(nm, z)], ⟨⟨vs ++ [.ref q4], upd_same, by rw [List.length_append, hvl]; rfl, ?_⟩, ?_, ?_⟩⟩
      · have t5 : Tup (upd G2 q4 (.tup [.str nm, .int z])) (upd (upd G2 q4 (.tup [.str nm, .int z])) D3 (.lst (vs ++ [.ref q4]))) := Tup.put eD
        exact Paired.snoc (L2.Paired.mapP hpr fun a b z => Row2.seq (Tup.trans tt t5) z) ⟨q4, rfl, t5 _ _ hq⟩
      · rw [List.map_append, hnm, names_succ hx]
        rfl
      · intro r hr
        rcases List.mem_append.mp hr with h | h
        · exact hbd r h
        · obtain rfl := List.mem_singleton.mp h
          exact ⟨z0, z1⟩
    rintro HL ⟨JL, bL', ss, RS⟩
    have dD3j : D3 ≠ j := JK.ne hD3
    have lS : (((ls.drop (m1 + m2)).take m3).map V.str).length = m3 := by
      rw [List.length_map, List.length_take, List.length_drop]
      omega
    rw [lS] at RS
    have edK := bK _ _ md edJ
    have edL := bL' _ _ md edK
    have dD3 : D3 ≠ dr := (ne_of_none edK hD3).symm
    refine ⟨_, rfl, dr, _, rfl, (show DPut HL dr (kV (.inr "stuffs")) (.ref D3) _ from DPut.k edL (big100 (by exact (by decide : 3 ≤ 100)))), ?_⟩
    rw [put3]
    have bJL := bK.trans bL'
    have CJL : B2 j dr HJ (upd HL dr (.dK (kv3 D D2 D3))) := B2.own (B2.of bJL)
    have JM := JL.put md (o := .dK (kv3 D D2 D3))
    have edM : (upd HL dr (.dK (kv3 D D2 D3))) dr = some (.dK (kv3 D D2 D3)) := upd_same
    have RM5 : Rows3 (upd HL dr (.dK (kv3 D D2 D3))) D ls 0 m1 ms := Rows3.b2 JJ edJ CJL dDj dD RM4
    have RC5 : Rows3 (upd HL dr (.dK (kv3 D D2 D3))) D2 ls m1 m2 cs := Rows3.b2 JJ edJ CJL dD2j dD2 RC4
    have RS2 : Rows2 (upd HL dr (.dK (kv3 D D2 D3))) D3 ls (m1 + m2) m3 ss := Rows2.b2 JL edL (B2.own B2.refl) dD3j dD3 RS
    have CM := CJ9.trans CJL
    generalize upd HL dr (.dK (kv3 D D2 D3)) = HM at CM JM edM RM5 RC5 RS2 ⊢
    clear RS edK edL bK bL' bJL CJL JL JK JJ lS eq3 RM4 RC4 CJ9 eLK eL ezJ elJ eaJ edJ hD3
    have ezM := CM _ _ mz dz ez9
    have elM := CM _ _ mpl dl el9
    have eaM := CM _ _ ma da ea9
    -- products
    refine ⟨big100 (Nat.le_of_ble_eq_true rfl), fun D4 hD4 => ?_⟩
    have mD4 := JM.ne hD4
    have dD4 : dr ≠ D4 := ne_of_none edM hD4
    have edM1 : (upd HM D4 (.lst [])) dr = some (.dK (kv3 D D2 D3)) := by
      rw [upd_ne dD4]
      exact edM
    refine ⟨_, rfl, dr, _, rfl, (show DPut (upd HM D4 (.lst [])) dr (kV (.inr "products")) (.ref D4) _ from DPut.k edM1 (big100 (by exact (by decide : 4 ≤ 100)))), ?_⟩
    rw [put4]
    have edN : (upd (upd HM D4 (.lst [])) dr (.dK (skK D D2 D3 D4))) dr = some (.dK (skK D D2 D3 D4)) := upd_same
    have e4N : (upd (upd HM D4 (.lst [])) dr (.dK (skK D D2 D3 D4))) D4 = some (.lst []) := by
      rw [upd_ne dD4.symm]
      exact upd_same
    have JN : JarAt (upd (upd HM D4 (.lst [])) dr (.dK (skK D D2 D3 D4))) j := (JM.put mD4).put md
    have CN : B2 j dr HM (upd (upd HM D4 (.lst [])) dr (.dK (skK D D2 D3 D4))) := (B2.refl.put hD4).own
    generalize upd (upd HM D4 (.lst [])) dr (.dK (skK D D2 D3 D4)) = HN at edN e4N JN CN ⊢
    have elN := CN _ _ mpl dl elM
    have eaN := CN _ _ ma da eaM
    clear edM1
    refine ⟨_, rfl, _, rfl, pa, _, 2, _, rfl, rfl, SqL.of eaN, rfl, _, rfl, pl, _, rfl, SqL.of elN, fun q4 nq4 => ?_⟩
    rw [cutV_suf (by rw [List.length_map]; omega), ← List.map_drop]
    have mq4 := JN.ne nq4
    have d44 : D4 ≠ q4 := ne_of_none e4N nq4
    have d4r : dr ≠ q4 := ne_of_none edN nq4
    have eq4 : (upd HN q4 (.lst ((ls.drop (m1 + m2 + m3)).map V.str))) q4 = some (.lst ((ls.drop (m1 + m2 + m3)).map V.str)) := upd_same
    have xA : Ex HN (upd HN q4 (.lst ((ls.drop (m1 + m2 + m3)).map V.str))) := Ex.refl.new nq4
    have CO : B2 j dr HM (upd HN q4 (.lst ((ls.drop (m1 + m2 + m3)).map V.str))) := CN.new nq4
    generalize upd HN q4 (.lst ((ls.drop (m1 + m2 + m3)).map V.str)) = HO' at eq4 xA CO ⊢
    have JO := jar_ex xA JN
    have edO := xA _ _ edN
    have e4O := xA _ _ e4N
    clear nq4 xA edN e4N JN CN elN eaN
    have lP : ((ls.drop (m1 + m2 + m3)).map V.str).length = m4 := by
      rw [List.length_map, List.length_drop]
      omega
    refine ⟨q4, rfl, ⟨_, SqL.of eq4⟩, for_list (K := K) (a := q4) (fun n σ G => (∃ v7 v10 : Option V, σ = [some (.ref j), some (.int np), some (.int ns), some (.ref pz), some (.ref pl), some (.ref pe), some (.ref pa), v7, some (.ref dr), some (.ref L), v10]) ∧ JarAt G j ∧ B2 j dr HM G ∧ G dr = some (.dK (skK D D2 D3 D4)) ∧ G q4 = some (.lst ((ls.drop (m1 + m2 + m3)).map V.str)) ∧ ∃ ps, RowsP G D4 ls (m1 + m2 + m3) n m3 ps)
      ⟨⟨_, _, rfl⟩, JO, CO, edO, eq4, [], ⟨⟨[], e4O, rfl, .nil⟩, rfl, fun r hr => nomatch hr⟩⟩ (fun i σ G _ h => SqL.of h.2.2.2.2.1) ?_ ?_⟩
    · rintro n y σ G hn ⟨⟨v7, v10, rfl⟩, JG, bG, edG, eqG, ps, ⟨vs, hv, hvl, hpr⟩, hnm, hbd⟩
      have hlt : n < m4 := by
        rw [← lP]
        exact (List.getElem?_eq_some_iff.mp hn).1
      obtain ⟨nm, rfl, hx⟩ : ∃ nm : Str, y = .str nm ∧ ls[m1 + m2 + m3 + n]? = some nm := by
        rw [List.getElem?_map, List.getElem?_drop] at hn
        cases e : ls[m1 + m2 + m3 + n]? with
        | none => rw [e] at hn; cases hn
        | some nm =>
          rw [e] at hn
          exact ⟨nm, (Option.some.inj hn).symm, rfl⟩
      have ezG := bG _ _ mz dz ezM
      have gd : DGet G dr (.str "products") (some (.ref D4)) := by
        have h := DGet.k (k := .inr "products") edG
        rw [(get_sk D D2 D3 D4).2.2.2] at h
        exact h
      refine ⟨_, rfl, dr, .ref D4, rfl, gd, .inl ⟨rfl, _, SqL.of hv⟩, _, rfl, _, rfl, pz, _, 2, _, rfl, rfl, SqL.of ezG, rfl, _, rfl, by omega, by omega, fun E9 hE => lc_range (lo := 0) (n := m3) (fun i G2 => JarAt G2 j ∧ But j G G2 ∧ ∃ (ws : List V) (bs : List (Int × Int)), G2 E9 = some (.lst ws) ∧ ws.length = i ∧ Paired (Bnd G2) ws bs ∧ ∀ b ∈ bs, 0 ≤ b.1 ∧ b.1 ≤ b.2 ∧ b.2 ≤ 1000000000000)
        ⟨JG.new hE, But.refl.new hE, [], [], upd_same, rfl, .nil, fun b hb => nomatch hb⟩ ?_ ?_⟩
      · rintro i G2 hi ⟨JG2, bG2, ws, bs, hw, hwl, hwp, hwb⟩
        have dE : E9 ≠ j := JG.ne hE
        refine ⟨rfl, ?_⟩
        refine ⟨_, rfl, j, rfl, JG2, fun p lo hi G3 l0 l1 l2 JG3 bG3 np mp e3 => ?_⟩
        have hw3 := bG3 _ _ dE hw
        refine ⟨ws, hw3, big100 (by omega), JG3.put dE, (But.trans bG2 bG3).put hE, ws ++ [.ref p], bs ++ [(lo, hi)], upd_same, by rw [List.length_append, hwl]; rfl, ?_, ?_⟩
        · have t5 : Tup G3 (upd G3 E9 (.lst (ws ++ [.ref p]))) := Tup.put hw3
          exact Paired.snoc (L2.Paired.mapP hwp fun a b z => Bnd.seq (Tup.trans (Tup.of JG2 bG3) t5) z) ⟨p, rfl, t5 _ _ e3⟩
        · intro b hb
          rcases List.mem_append.mp hb with h | h
          · exact hwb b h
          · obtain rfl := List.mem_singleton.mp h
            exact ⟨l0, l1, l2⟩
      · rintro G2 ⟨JG2, bG2, ws, bs, hw, hwl, hwp, hwb⟩
        refine ⟨E9, ws, rfl, .inl ⟨SqL.of hw, fun t nt => ?_⟩⟩
        refine ⟨big100 (Nat.le_of_ble_eq_true rfl), fun q nq => ?_⟩
        have f1 : (upd (upd G2 t (.tup ws)) q (.tup [.str nm, .ref t])) q = some (.tup [.str nm, .ref t]) := upd_same
        have f2 : (upd (upd G2 t (.tup ws)) q (.tup [.str nm, .ref t])) t = some (.tup ws) := by
          rw [upd_ne (ne_of_none upd_same nq)]
          exact upd_same
        have T1 : Tup G2 (upd (upd G2 t (.tup ws)) q (.tup [.str nm, .ref t])) := Tup.trans (Tup.new nt) (Tup.new nq)
        have B1 : But j G (upd (upd G2 t (.tup ws)) q (.tup [.str nm, .ref t])) := (bG2.new nt).new nq
        have JX : JarAt (upd (upd G2 t (.tup ws)) q (.tup [.str nm, .ref t])) j := (JG2.new nt).new nq
        generalize upd (upd G2 t (.tup ws)) q (.tup [.str nm, .ref t]) = G4 at f1 f2 T1 B1 JX ⊢
        have hv4 := B1 _ _ mD4 hv
        have t5 : Tup G4 (upd G4 D4 (.lst (vs ++ [.ref q]))) := Tup.put hv4
        have tG : Tup G (upd G4 D4 (.lst (vs ++ [.ref q]))) := Tup.trans (Tup.of JG B1) t5
        refine ⟨D4, _, _, rfl, rfl, hv4, big100 (by omega), ⟨⟨_, _, rfl⟩, JX.put mD4, (bG.trans (B2.of B1)).put hD4, ?_, ?_, ps ++ [(nm, bs)], ⟨⟨vs ++ [.ref q], upd_same, by rw [List.length_append, hvl]; rfl, ?_⟩, ?_, ?_⟩⟩⟩
        · rw [upd_ne dD4]
          exact B1 _ _ md edG
        · rw [upd_ne d44.symm]
          exact B1 _ _ mq4 eqG
        · exact Paired.snoc (L2.Paired.mapP hpr fun a b z => RowP.seq tG z) ⟨q, t, ws, rfl, t5 _ _ f1, t5 _ _ f2, L2.Paired.mapP hwp fun a b z => Bnd.seq (Tup.trans T1 t5) z⟩
        · rw [List.map_append, hnm, names_succ hx]
          rfl
        · intro r hr
          rcases List.mem_append.mp hr with h | h
          · exact hbd r h
          · obtain rfl := List.mem_singleton.mp h
            exact ⟨by rw [← Paired.len hwp, hwl], hwb⟩
    · rw [lP]
      rintro σ G ⟨⟨v7, v10, rfl⟩, JG, bG, edG, eqG, ps, RP⟩
      obtain ⟨⟨va, ha, la, pa⟩, na, ba'⟩ := Rows3.b2 JM edM bG dDj dD RM5
      obtain ⟨⟨vb, hb, lb, pb⟩, nb, bb'⟩ := Rows3.b2 JM edM bG dD2j dD2 RC5
      obtain ⟨⟨vc, hc, lc, pc⟩, nc, bc'⟩ := Rows2.b2 JM edM bG dD3j dD3 RS2
      obtain ⟨⟨vd, hd, ld, pd⟩, nd', bd'⟩ := RP
      have xa := Paired.len pa
      have xb := Paired.len pb
      have xc := Paired.len pc
      have xd := Paired.len pd
      have all : ms.map (·.1) ++ (cs.map (·.1) ++ (ss.map (·.1) ++ ps.map (·.1))) = ls := by
        rw [na, nb, nc, nd', List.drop_zero, List.take_of_length_le (l := ls.drop (m1 + m2 + m3)) (by rw [List.length_drop]; omega)]
        rw [← List.drop_drop (i := m3) (j := m1 + m2), List.take_append_drop, ← List.drop_drop (i := m2) (j := m1), List.take_append_drop, List.take_append_drop]
      refine ⟨_, rfl, k dr ⟨ms, cs, ss, ps⟩ G ⟨D, D2, D3, D4, va, vb, vc, vd, edG, ha, pa, hb, pb, hc, pc, hd, pd⟩ ⟨⟨?_, ?_, ?_, ?_, ?_, ?_, ?_, ba', bb', bc', ?_, ?_, ?_⟩, ?_, ?_, ?_, ?_⟩ JG (((B2.of B9).trans (CM.trans bG)).but nHd) nHd md⟩
      · show 1 ≤ ms.length
        omega
      · show ms.length ≤ 6
        omega
      · show cs.length ≤ 6
        omega
      · show 1 ≤ ss.length
        omega
      · show ss.length ≤ 3
        omega
      · show 1 ≤ ps.length
        omega
      · show ps.length ≤ 8
        omega
      · intro r hr
        obtain ⟨h1, h2⟩ := bd' r hr
        exact ⟨by show _ = ss.length; omega, h2⟩
      · show (ms.map (·.1) ++ (cs.map (·.1) ++ (ss.map (·.1) ++ ps.map (·.1)))).Nodup
        rw [all]
        exact hnd
      · show ∀ x ∈ ms.map (·.1) ++ (cs.map (·.1) ++ (ss.map (·.1) ++ ps.map (·.1))), isW x = true
        rw [all]
        exact hw
      · show ms.length ≤ 2
        omega
      · show cs.length ≤ 3
        omega
      · show ss.length ≤ 2
        omega
      · show ps.length ≤ 4
        omega
end
end LJ
set_option Elab.async false
set_option linter.all false
set_option maxRecDepth 100000
set_option maxHeartbeats 8000000
namespace LJ
open PySem PySem.Spec L2
open LamX (ExtN)
open NdefX (NTab TabsN)
def rowsK (l0 l1 l2 l3 : Addr) : List (Key × V) := [(.inr kM, .ref l0), (.inr kC, .ref l1), (.inr kS, .ref l2), (.inr kP, .ref l3)]
theorem rk0 {l0 l1 l2 l3 : Addr} : valV (rowsK l0 l1 l2 l3) (.inr kM) = some (.ref l0) := by
  unfold rowsK valV
  rfl
theorem rk1 {l0 l1 l2 l3 : Addr} : valV (rowsK l0 l1 l2 l3) (.inr kC) = some (.ref l1) := by
  unfold rowsK valV
  rfl
theorem rk2 {l0 l1 l2 l3 : Addr} : valV (rowsK l0 l1 l2 l3) (.inr kS) = some (.ref l2) := by
  unfold rowsK valV
  rfl
theorem rk3 {l0 l1 l2 l3 : Addr} : valV (rowsK l0 l1 l2 l3) (.inr kP) = some (.ref l3) := by
  unfold rowsK valV
  rfl
def LstOf {α : Type} (R : Hp → V → α → Prop) (G : Hp) (l : Addr) (xs : List α) : Prop := ∃ v, G l = some (.lst v) ∧ Paired (R G) v xs
/-- the rows read so far -/
structure RwS (H G : Hp) (dr l0 l1 l2 l3 : Addr) (pre : List Ln) : Prop where
  ex : Ex H G
  d : G dr = some (.dK (rowsK l0 l1 l2 l3))
  n0 : H l0 = none
  n1 : H l1 = none
  n2 : H l2 = none
  n3 : H l3 = none
  e01 : l0 ≠ l1
  e02 : l0 ≠ l2
  e03 : l0 ≠ l3
  e12 : l1 ≠ l2
  e13 : l1 ≠ l3
  e23 : l2 ≠ l3
  p0 : LstOf Row3 G l0 (pre.filterMap getM)
  p1 : LstOf Row3 G l1 (pre.filterMap getC)
  p2 : LstOf Row2 G l2 (pre.filterMap getS)
  p3 : LstOf RowP G l3 (pre.filterMap getP)
/-- a relation that tuples alone carry -/
def ByTup {α : Type} (R : Hp → V → α → Prop) : Prop := ∀ (H H1 : Hp) (v : V) (x : α), Tup H H1 → R H v x → R H1 v x
theorem bt3 : ByTup Row3 := fun _ _ _ _ t h => Row3.seq t h
theorem bt2 : ByTup Row2 := fun _ _ _ _ t h => Row2.seq t h
theorem btP : ByTup RowP := fun _ _ _ _ t h => RowP.seq t h
theorem LstOf.far {α : Type} {R : Hp → V → α → Prop} (b : ByTup R) {G : Hp} {l m : Addr} {xs : List α} {ys zs : List V} (ne : l ≠ m) (hm : G m = some (.lst ys)) (h : LstOf R G l xs) : LstOf R (upd G m (.lst zs)) l xs := by
  obtain ⟨v, h1, h2⟩ := h
  exact ⟨v, by rw [upd_ne ne]; exact h1, L2.Paired.mapP h2 fun _ _ z => b _ _ _ _ (Tup.put hm) z⟩
theorem LstOf.add {α : Type} {R : Hp → V → α → Prop} (b : ByTup R) {G : Hp} {l : Addr} {xs : List α} {v : List V} {x : V} {y : α} (h1 : G l = some (.lst v)) (h2 : Paired (R G) v xs) (hx : R G x y) : LstOf R (upd G l (.lst (v ++ [x]))) l (xs ++ [y]) :=
  ⟨v ++ [x], upd_same, Paired.snoc (L2.Paired.mapP h2 fun _ _ z => b _ _ _ _ (Tup.put h1) z) (b _ _ _ _ (Tup.put h1) hx)⟩
theorem LstOf.exx {α : Type} {R : Hp → V → α → Prop} (b : ByTup R) {G G1 : Hp} {l : Addr} {xs : List α} (e : Ex G G1) (h : LstOf R G l xs) : LstOf R G1 l xs := by
  obtain ⟨v, h1, h2⟩ := h
  exact ⟨v, e _ _ h1, L2.Paired.mapP h2 fun _ _ z => b _ _ _ _ (Ex.tup e) z⟩
theorem fm_same {β : Type} {g : Ln → Option β} {pre : List Ln} {x : Ln} (h : g x = none) : (pre ++ [x]).filterMap g = pre.filterMap g := by
  rw [List.filterMap_append, List.filterMap_cons, h]
  simp
theorem fm_more {β : Type} {g : Ln → Option β} {pre : List Ln} {x : Ln} {y : β} (h : g x = some y) : (pre ++ [x]).filterMap g = pre.filterMap g ++ [y] := by
  rw [List.filterMap_append, List.filterMap_cons, h]
  simp
namespace RwS
variable {H G G1 : Hp} {dr l0 l1 l2 l3 : Addr} {pre : List Ln}
theorem exx (s : RwS H G dr l0 l1 l2 l3 pre) (e : Ex G G1) : RwS H G1 dr l0 l1 l2 l3 pre :=
  ⟨s.ex.trans e, e _ _ s.d, s.n0, s.n1, s.n2, s.n3, s.e01, s.e02, s.e03, s.e12, s.e13, s.e23, s.p0.exx bt3 e, s.p1.exx bt3 e, s.p2.exx bt2 e, s.p3.exx btP e⟩
theorem dne (s : RwS H G dr l0 l1 l2 l3 pre) {l : Addr} {ys zs : List V} (h : G l = some (.lst ys)) : (upd G l (.lst zs)) dr = some (.dK (rowsK l0 l1 l2 l3)) := by
  rw [upd_ne (ne_of s.d h fun z => nomatch z)]
  exact s.d
theorem addM (s : RwS H G dr l0 l1 l2 l3 pre) {v : List V} {x : V} {r : Str × Int × Int} (h : G l0 = some (.lst v)) (hx : Row3 G x r) : RwS H (upd G l0 (.lst (v ++ [x]))) dr l0 l1 l2 l3 (pre ++ [.m r]) := by
  obtain ⟨v', h1, h2⟩ := s.p0
  rw [h] at h1
  cases h1
  refine ⟨s.ex.put s.n0, s.dne h, s.n0, s.n1, s.n2, s.n3, s.e01, s.e02, s.e03, s.e12, s.e13, s.e23, ?_, ?_, ?_, ?_⟩
  · rw [fm_more (y := r) rfl]
    exact LstOf.add bt3 h h2 hx
  · rw [fm_same rfl]
    exact s.p1.far bt3 s.e01.symm h
  · rw [fm_same rfl]
    exact s.p2.far bt2 s.e02.symm h
  · rw [fm_same rfl]
    exact s.p3.far btP s.e03.symm h
theorem addC (s : RwS H G dr l0 l1 l2 l3 pre) {v : List V} {x : V} {r : Str × Int × Int} (h : G l1 = some (.lst v)) (hx : Row3 G x r) : RwS H (upd G l1 (.lst (v ++ [x]))) dr l0 l1 l2 l3 (pre ++ [.c r]) := by
  obtain ⟨v', h1, h2⟩ := s.p1
  rw [h] at h1
  cases h1
  refine ⟨s.ex.put s.n1, s.dne h, s.n0, s.n1, s.n2, s.n3, s.e01, s.e02, s.e03, s.e12, s.e13, s.e23, ?_, ?_, ?_, ?_⟩
  · rw [fm_same rfl]
    exact s.p0.far bt3 s.e01 h
  · rw [fm_more (y := r) rfl]
    exact LstOf.add bt3 h h2 hx
  · rw [fm_same rfl]
    exact s.p2.far bt2 s.e12.symm h
  · rw [fm_same rfl]
    exact s.p3.far btP s.e13.symm h
theorem addS (s : RwS H G dr l0 l1 l2 l3 pre) {v : List V} {x : V} {r : Str × Int} (h : G l2 = some (.lst v)) (hx : Row2 G x r) : RwS H (upd G l2 (.lst (v ++ [x]))) dr l0 l1 l2 l3 (pre ++ [.s r]) := by
  obtain ⟨v', h1, h2⟩ := s.p2
  rw [h] at h1
  cases h1
  refine ⟨s.ex.put s.n2, s.dne h, s.n0, s.n1, s.n2, s.n3, s.e01, s.e02, s.e03, s.e12, s.e13, s.e23, ?_, ?_, ?_, ?_⟩
  · rw [fm_same rfl]
    exact s.p0.far bt3 s.e02 h
  · rw [fm_same rfl]
    exact s.p1.far bt3 s.e12 h
  · rw [fm_more (y := r) rfl]
    exact LstOf.add bt2 h h2 hx
  · rw [fm_same rfl]
    exact s.p3.far btP s.e23.symm h
theorem addP (s : RwS H G dr l0 l1 l2 l3 pre) {v : List V} {x : V} {r : Str × List (Int × Int)} (h : G l3 = some (.lst v)) (hx : RowP G x r) : RwS H (upd G l3 (.lst (v ++ [x]))) dr l0 l1 l2 l3 (pre ++ [.p r]) := by
  obtain ⟨v', h1, h2⟩ := s.p3
  rw [h] at h1
  cases h1
  refine ⟨s.ex.put s.n3, s.dne h, s.n0, s.n1, s.n2, s.n3, s.e01, s.e02, s.e03, s.e12, s.e13, s.e23, ?_, ?_, ?_, ?_⟩
  · rw [fm_same rfl]
    exact s.p0.far bt3 s.e03 h
  · rw [fm_same rfl]
    exact s.p1.far bt3 s.e13 h
  · rw [fm_same rfl]
    exact s.p2.far bt2 s.e23 h
  · rw [fm_more (y := r) rfl]
    exact LstOf.add btP h h2 hx
end RwS
end LJ
set_option Elab.async false
set_option linter.all false
set_option maxRecDepth 100000
set_option maxHeartbeats 8000000
namespace LJ
open PySem PySem.Spec L2
open LamX (ExtN)
open NdefX (NTab TabsN)
open OwnX (pg_star pgs_star)
abbrev sRW : Stmt := top 37
abbrev nRW : List Str := ["text", "rows", "line", "kind", "words"]
/-- four tuples that hold these works -/
structure Data4 (H : Hp) (am ac as ap : Addr) (W : Wd) : Prop where
  m : ∃ v, H am = some (.tup v) ∧ Paired (Row3 H) v W.ms
  c : ∃ v, H ac = some (.tup v) ∧ Paired (Row3 H) v W.cs
  s : ∃ v, H as = some (.tup v) ∧ Paired (Row2 H) v W.ss
  p : ∃ v, H ap = some (.tup v) ∧ Paired (RowP H) v W.ps
def spRW (C : Addr) (T : List NTab) : Sp := fun vs H Q _ => ∃ W : Wd, vs = [.str (wtext W)] ∧ GoodF W ∧ TabsN T H ∧
  ∀ (x am ac as ap : Addr) (H1 : Hp), ExtN H H1 → H x = none → TabsN T H1 → WorksAt C H1 x am ac as ap W → Data4 H1 am ac as ap W → Q (.ref x) H1
theorem ln_len {x : Ln} (h : lnOk x) : (lnT x).length ≤ 400 := by
  have fs : ∀ {r : Str × Int × Int}, isW r.1 = true ∧ 0 ≤ r.2.1 ∧ r.2.1 ≤ r.2.2 ∧ r.2.2 ≤ 1000 → Fit3 r := fun {r} h => ⟨isW_8 h.1, h.2.1, h.2.2.1, by have := h.2.2.2; omega⟩
  cases x with
  | m r =>
    show (Txt.join sp1 [kM, r.1, num r.2.1, num r.2.2]).length ≤ 400
    rw [← line3_join kM_pre]
    exact line3_len (by decide +kernel) (fs h)
  | c r =>
    show (Txt.join sp1 [kC, r.1, num r.2.1, num r.2.2]).length ≤ 400
    rw [← line3_join kC_pre]
    exact line3_len (by decide +kernel) (fs h)
  | s r =>
    show (Txt.join sp1 [kS, r.1, num r.2]).length ≤ 400
    rw [← line2_join kS_pre]
    exact line2_len (by decide +kernel) ⟨isW_8 h.1, h.2.1, h.2.2⟩
  | p r =>
    show (Txt.join sp1 (kP :: r.1 :: r.2.map bword)).length ≤ 400
    rw [← pline_join]
    have := pline_len (n := r.1) (bs := r.2) (isW_8 h.1) (by have := h.2.1; omega) h.2.2
    omega
theorem lns_len {W : Wd} (g : GoodF W) : (lns W).length ≤ 23 := by
  have := g.m2
  have := g.c2
  have := g.s2
  have := g.p2
  unfold lns
  simp only [List.length_append, List.length_map]
  omega
theorem wtext_len {W : Wd} (g : GoodF W) : (wtext W).length ≤ 10000 := by
  have l := lns_len g
  have h : ((wlines W).map (·.length)).sum ≤ (lns W).length * 400 := by
    rw [lns_text, List.map_map]
    exact sum_most fun x hx => ln_len (lns_ok g x hx)
  have l2 : (wlines W).length = (lns W).length := by rw [lns_text, List.length_map]
  unfold wtext
  rw [join_len, l2, show (Str.ofString "\n").length = 1 from by decide +kernel]
  have h2 : (lns W).length * 400 ≤ 23 * 400 := Nat.mul_le_mul_right _ l
  omega
theorem up_none {H : Hp} {a b : Addr} {o : HO} (h : (upd H a o) b = none) : b ≠ a ∧ H b = none := by
  by_cases e : b = a
  · rw [e, upd_same] at h
    cases h
  · rw [upd_ne e] at h
    exact ⟨e, h⟩
theorem start_rws {H : Hp} {dr l0 l1 l2 l3 : Addr} (nd : H dr = none) (n0 : (upd H dr (.dK [])) l0 = none) (n1 : (upd (upd H dr (.dK [])) l0 (.lst [])) l1 = none)
    (n2 : (upd (upd (upd H dr (.dK [])) l0 (.lst [])) l1 (.lst [])) l2 = none) (n3 : (upd (upd (upd (upd H dr (.dK [])) l0 (.lst [])) l1 (.lst [])) l2 (.lst [])) l3 = none) :
    RwS H (upd (upd (upd (upd (upd (upd H dr (.dK [])) l0 (.lst [])) l1 (.lst [])) l2 (.lst [])) l3 (.lst [])) dr (.dK (rowsK l0 l1 l2 l3))) dr l0 l1 l2 l3 [] := by
  obtain ⟨d0, m0⟩ := up_none n0
  obtain ⟨e10, m1⟩ := up_none n1
  obtain ⟨d1, m1⟩ := up_none m1
  obtain ⟨e21, m2⟩ := up_none n2
  obtain ⟨e20, m2⟩ := up_none m2
  obtain ⟨d2, m2⟩ := up_none m2
  obtain ⟨e32, m3⟩ := up_none n3
  obtain ⟨e31, m3⟩ := up_none m3
  obtain ⟨e30, m3⟩ := up_none m3
  obtain ⟨d3, m3⟩ := up_none m3
  have x0 : Ex H (upd H dr (.dK [])) := Ex.refl.new nd
  refine ⟨((((x0.trans (Ex.refl.new n0)).trans (Ex.refl.new n1)).trans (Ex.refl.new n2)).trans (Ex.refl.new n3)).put nd, upd_same, m0, m1, m2, m3, e10.symm, e20.symm, e30.symm, e21.symm, e31.symm, e32.symm, ⟨[], ?_, .nil⟩, ⟨[], ?_, .nil⟩, ⟨[], ?_, .nil⟩, ⟨[], ?_, .nil⟩⟩
  · rw [upd_ne d0, upd_ne e30.symm, upd_ne e20.symm, upd_ne e10.symm, upd_same]
  · rw [upd_ne d1, upd_ne e31.symm, upd_ne e21.symm, upd_same]
  · rw [upd_ne d2, upd_ne e32.symm, upd_same]
  · rw [upd_ne d3, upd_same]
theorem merge_rows {l0 l1 l2 l3 : Addr} : mergeK [] (rowsK l0 l1 l2 l3) = rowsK l0 l1 l2 l3 := by
  unfold rowsK mergeK
  rfl
def lkOf (l0 l1 l2 l3 : Addr) : Ln → Addr
  | .m _ => l0
  | .c _ => l1
  | .s _ => l2
  | .p _ => l3
theorem rkx {l0 l1 l2 l3 : Addr} (x : Ln) : valV (rowsK l0 l1 l2 l3) (.inr (lnK x)) = some (.ref (lkOf l0 l1 l2 l3 x)) := by
  cases x
  · exact rk0
  · exact rk1
  · exact rk2
  · exact rk3
theorem k_ne : kM ≠ kP ∧ kC ≠ kP ∧ kS ≠ kP := by decide +kernel
theorem Paired.long {α β : Type} {R : α → β → Prop} : ∀ {xs : List α} {ys : List β}, Paired R xs ys → xs.length = ys.length := fun h => Paired.size h
section
variable {P : Program} {w : World} {K : PySem.W.Frag} {mg : Str → Option Value} {base : Heap}
theorem scRW : FnScope nRW ["text"] (defScope sRW) := ⟨rfl, rfl, rfl, by decide +kernel, rfl, by decide +kernel, by decide +kernel⟩
theorem ok_rw {f fR fI C : Addr} {fd fdR fdI : FuncData} {T : List NTab} (F : Fun K "_read_works" "_read_works" sRW f fd) (BT : mg "tuple" = none)
    (GR : FnOk P w K mg base CX0 3 fR fdR ["kind", "words"] spRd) (mR : mg "_read_row" = some (.ref fR)) (kR : PySem.W.keepIn K (.ref fR) = true) (bR : Binds K fdR ["kind", "words"] [])
    (M : Mk K C fI) (mW : mg "Works" = some (.ref C)) (GI : FnOk P w K mg base CX0 7 fI fdI pInit (spInit K C T)) (bI : Binds K fdI pInit []) :
    FnOk P w K mg base CX0 9 f fd ["text"] (spRW C T) := by
  refine F.ok scRW (fun vs H Q E h => ?_) (fun cdv A outer s H vs Q E hr h => ?_)
  · obtain ⟨W, rfl, _⟩ := h
    rfl
  · obtain ⟨W, rfl, g, tabs, q⟩ := h
    have hr3 : Room 3 _ := hr.mono (by decide)
    have hu := hu_of hr
    refine ⟨_, pss_cons (ps_set (i := 1) scRW.nd rfl (Or.inl rfl) (pe_disp (pps_cons pe_str (pe_lst pa_nil) (pps_cons pe_str (pe_lst pa_nil) (pps_cons pe_str (pe_lst pa_nil) (pps_cons pe_str (pe_lst pa_nil) pps_nil)))) (by rfl) (by rfl) (fun z => by cases z) (by decide)))
      (pss_cons (ps_for PassesOwn.never rfl (pi_list (pe_split (pv 0) pe_str)) (pg_name (i := 2) scRW.nd rfl (Or.inl rfl))
        (pss_cons (ps_asg (pe_split (pv 2) pe_str) (pg_star (n := 2) (i := 1) rfl (pgs_cons (pg_name (i := 3) scRW.nd rfl (Or.inl rfl)) (pgs_star (pg_name (i := 4) scRW.nd rfl (Or.inl rfl)) pgs_nil))))
        (pss_cons (ps_if (pt_cmp (pc_dnotin hu (pv 3) (pv 1))) (pss_one ps_never) pss_nil)
        (pss_one (ps_expr (pe_bm PySem.F.plainAttrs_list PySem.F.slot_list_append PySem.F.type_list_append mt_append (pe_dget hu (pv 1) (pv 3) (fun _ _ => rfl)) (pa_cons (pe_call GR hr3 (by rfl) mR kR bR .nil pass0 (pa_cons (pv 3) (pa_cons (pv 4) pa_nil))) pa_nil)))))))
      (pss_one (ps_ret (pe_make M GI hr (by rfl) mW bI .nil pass0 (pa_cons (pe_tupleOf (by rfl) BT (pe_dget hu (pv 1) pe_str (fun _ _ => rfl))) (pa_cons (pe_tupleOf (by rfl) BT (pe_dget hu (pv 1) pe_str (fun _ _ => rfl)))
        (pa_cons (pe_tupleOf (by rfl) BT (pe_dget hu (pv 1) pe_str (fun _ _ => rfl))) (pa_cons (pe_tupleOf (by rfl) BT (pe_dget hu (pv 1) pe_str (fun _ _ => rfl))) pa_nil)))))))), ?_⟩
    have sz := sizeLine_eq
    intro dr nd
    refine ⟨Nat.zero_le _, fun l0 n0 => ⟨Nat.zero_le _, fun l1 n1 => ⟨Nat.zero_le _, fun l2 n2 => ⟨Nat.zero_le _, fun l3 n3 => ⟨?_, rowsK l0 l1 l2 l3, rfl, (by decide : 4 ≤ 15), ?_⟩⟩⟩⟩⟩
    · obtain ⟨d0, _⟩ := up_none n0
      obtain ⟨_, m1⟩ := up_none n1
      obtain ⟨d1, _⟩ := up_none m1
      obtain ⟨_, m2⟩ := up_none n2
      obtain ⟨_, m2⟩ := up_none m2
      obtain ⟨d2, _⟩ := up_none m2
      obtain ⟨_, m3⟩ := up_none n3
      obtain ⟨_, m3⟩ := up_none m3
      obtain ⟨_, m3⟩ := up_none m3
      obtain ⟨d3, _⟩ := up_none m3
      rw [upd_ne d3.symm, upd_ne d2.symm, upd_ne d1.symm, upd_ne d0.symm, upd_same]
    have st := start_rws nd n0 n1 n2 n3
    rw [merge_rows]
    generalize upd (upd (upd (upd (upd (upd H dr (.dK [])) l0 (.lst [])) l1 (.lst [])) l2 (.lst [])) l3 (.lst [])) dr (.dK (rowsK l0 l1 l2 l3)) = G0 at st ⊢
    have tl := wtext_len g
    refine ⟨_, rfl, ⟨_, rfl⟩, _, _, rfl, rfl, by decide +kernel, by omega, fun L nL => ?_⟩
    rw [split_text g, lns_text, List.map_map]
    have eL : (upd G0 L (.lst ((lns W).map (V.str ∘ lnT)))) L = some (.lst ((lns W).map (V.str ∘ lnT))) := upd_same
    have xL : Ex G0 (upd G0 L (.lst ((lns W).map (V.str ∘ lnT)))) := Ex.refl.new nL
    have stL := st.exx xL
    have nHL : H L = none := st.ex.gone nL
    have fL : L ≠ l0 ∧ L ≠ l1 ∧ L ≠ l2 ∧ L ≠ l3 := by
      obtain ⟨v0, h0, _⟩ := st.p0
      obtain ⟨v1, h1, _⟩ := st.p1
      obtain ⟨v2, h2, _⟩ := st.p2
      obtain ⟨v3, h3, _⟩ := st.p3
      refine ⟨fun z => ?_, fun z => ?_, fun z => ?_, fun z => ?_⟩
      · rw [z, h0] at nL
        cases nL
      · rw [z, h1] at nL
        cases nL
      · rw [z, h2] at nL
        cases nL
      · rw [z, h3] at nL
        cases nL
    generalize upd G0 L (.lst ((lns W).map (V.str ∘ lnT))) = G1 at eL stL xL ⊢
    have ll := lns_len g
    refine ⟨L, rfl, ⟨_, SqL.of eL⟩, for_list (K := K) (a := L) (xs := (lns W).map (V.str ∘ lnT)) (fun i σ G => (∃ v2 v3 v4, σ = [some (.str (wtext W)), some (.ref dr), v2, v3, v4]) ∧ RwS H G dr l0 l1 l2 l3 ((lns W).take i) ∧ G L = some (.lst ((lns W).map (V.str ∘ lnT)))) ⟨⟨_, _, _, rfl⟩, stL, eL⟩ (fun i σ G _ h => SqL.of h.2.2) ?_ ?_⟩
    · rintro i v σ G hv ⟨⟨v2, v3, v4, rfl⟩, sG, eG⟩
      rw [List.getElem?_map] at hv
      obtain ⟨x, hx, rfl⟩ := Option.map_eq_some_iff.mp hv
      have ok := lns_ok g x (List.mem_of_getElem? hx)
      have tk : (lns W).take (i + 1) = (lns W).take i ++ [x] := by
        rw [List.take_succ, hx]
        rfl
      have lx := ln_len ok
      refine ⟨_, rfl, ⟨_, rfl⟩, _, _, rfl, rfl, by decide +kernel, by omega, fun p np => ?_⟩
      rw [show Str.ofString " " = sp1 from rfl, split_ln ok]
      have e1 : (upd G p (.lst ((lnK x :: lnW x).map V.str))) p = some (.lst ((lnK x :: lnW x).map V.str)) := upd_same
      have x1 : Ex G (upd G p (.lst ((lnK x :: lnW x).map V.str))) := Ex.refl.new np
      generalize upd G p (.lst ((lnK x :: lnW x).map V.str)) = G2 at e1 x1 ⊢
      have wl := lnW_len ok
      refine ⟨p, _, rfl, SqL.of e1, by decide, by rw [List.length_map, List.length_cons]; omega, by rw [List.length_map, List.length_cons]; omega, fun D nD => ?_⟩
      have c1 : ((lnK x :: lnW x).map V.str).take 1 ++ [.ref D] ++ (((lnK x :: lnW x).map V.str).drop 1).drop (((lnK x :: lnW x).map V.str).length + 1 - 2) = [.str (lnK x), .ref D] := by
        simp
      have c2 : (((lnK x :: lnW x).map V.str).drop 1).take (((lnK x :: lnW x).map V.str).length + 1 - 2) = (lnW x).map V.str := by
        rw [List.map_cons, List.drop_succ_cons, List.drop_zero, List.take_of_length_le (by simp)]
      rw [c1, c2]
      have e2 : (upd G2 D (.lst ((lnW x).map V.str))) D = some (.lst ((lnW x).map V.str)) := upd_same
      have x2 : Ex G2 (upd G2 D (.lst ((lnW x).map V.str))) := Ex.refl.new nD
      generalize upd G2 D (.lst ((lnW x).map V.str)) = G3 at e2 x2 ⊢
      have s3 := sG.exx (x1.trans x2)
      have eG3 := x2 _ _ (x1 _ _ eG)
      refine ⟨_, _, rfl, _, _, rfl, rfl, ?_⟩
      have dk : DGet G3 dr (.str (lnK x)) (some (.ref (lkOf l0 l1 l2 l3 x))) := .inl ⟨rowsK l0 l1 l2 l3, .inr (lnK x), .inl s3.d, rfl, (rkx x).symm⟩
      refine ⟨_, rfl, _, rfl, dr, _, rfl, dk, _, rfl, ?_⟩
      refine ite2 (fun z => by cases z) (fun _ => ?_)
      obtain ⟨vk, hvk, lvk⟩ : ∃ vk, G3 (lkOf l0 l1 l2 l3 x) = some (.lst vk) ∧ vk.length < 24 := by
        have lt : ((lns W).take i).length ≤ 23 := by rw [List.length_take]; omega
        cases x with
        | m r =>
          obtain ⟨v, h1, h2⟩ := s3.p0
          have := Paired.size h2
          have := List.length_filterMap_le getM ((lns W).take i)
          exact ⟨v, h1, by omega⟩
        | c r =>
          obtain ⟨v, h1, h2⟩ := s3.p1
          have := Paired.size h2
          have := List.length_filterMap_le getC ((lns W).take i)
          exact ⟨v, h1, by omega⟩
        | s r =>
          obtain ⟨v, h1, h2⟩ := s3.p2
          have := Paired.size h2
          have := List.length_filterMap_le getS ((lns W).take i)
          exact ⟨v, h1, by omega⟩
        | p r =>
          obtain ⟨v, h1, h2⟩ := s3.p3
          have := Paired.size h2
          have := List.length_filterMap_le getP ((lns W).take i)
          exact ⟨v, h1, by omega⟩
      have farL : L ≠ lkOf l0 l1 l2 l3 x := by
        cases x
        · exact fL.1
        · exact fL.2.1
        · exact fL.2.2.1
        · exact fL.2.2.2
      refine ⟨_, rfl, _, rfl, dr, _, rfl, dk, .inl ⟨rfl, _, .inl (.inl hvk)⟩, _, rfl, _, rfl, lnK x, D, lnW x, rfl, e2, by omega, lnW_short ok, fun ek t b vals G4 x4 nb e4 et pv4 => ?_, fun ek b G4 x4 nb e4 => ?_⟩
      · cases x with
        | m r => exact absurd ek k_ne.1
        | c r => exact absurd ek k_ne.2.1
        | s r => exact absurd ek k_ne.2.2
        | p r =>
          refine ⟨_, _, _, rfl, rfl, x4 _ _ hvk, by omega, ⟨_, _, _, rfl⟩, ?_, ?_⟩
          · rw [tk]
            exact (s3.exx x4).addP (x4 _ _ hvk) ⟨b, t, vals, rfl, e4, et, pairs_bnds ok.2.2 pv4⟩
          · rw [upd_ne farL]
            exact x4 _ _ eG3
      · have e5 : G4 L = some (.lst ((lns W).map (V.str ∘ lnT))) := x4 _ _ eG3
        refine ⟨_, _, _, rfl, rfl, x4 _ _ hvk, by omega, ⟨_, _, _, rfl⟩, ?_, by rw [upd_ne farL]; exact e5⟩
        rw [tk]
        cases x with
        | m r =>
          obtain ⟨h1, h2, h3, h4⟩ := ok
          have e6 : G4 b = some (.tup [.str r.1, optI (rdN (num r.2.1)), optI (rdN (num r.2.2))]) := e4
          rw [rdN_num h2, rdN_num (Int.le_trans h2 h3)] at e6
          exact (s3.exx x4).addM (x4 _ _ hvk) ⟨b, rfl, e6⟩
        | c r =>
          obtain ⟨h1, h2, h3, h4⟩ := ok
          have e6 : G4 b = some (.tup [.str r.1, optI (rdN (num r.2.1)), optI (rdN (num r.2.2))]) := e4
          rw [rdN_num h2, rdN_num (Int.le_trans h2 h3)] at e6
          exact (s3.exx x4).addC (x4 _ _ hvk) ⟨b, rfl, e6⟩
        | s r =>
          obtain ⟨h1, h2, h3⟩ := ok
          have e6 : G4 b = some (.tup [.str r.1, optI (rdN (num r.2))]) := e4
          rw [rdN_num h2] at e6
          exact (s3.exx x4).addS (x4 _ _ hvk) ⟨b, rfl, e6⟩
        | p r => exact absurd rfl ek
    · rintro σ G ⟨⟨v2, v3, v4, rfl⟩, sG, eG⟩
      rw [List.length_map, List.take_of_length_le (Nat.le_refl _)] at sG
      have q0 := sG.p0
      have q1 := sG.p1
      have q2 := sG.p2
      have q3 := sG.p3
      rw [lns_m] at q0
      rw [lns_c] at q1
      rw [lns_s] at q2
      rw [lns_p] at q3
      obtain ⟨vm, hm, pm⟩ := q0
      obtain ⟨vc, hc, pc⟩ := q1
      obtain ⟨vs, hs, ps⟩ := q2
      obtain ⟨vp, hp, pp⟩ := q3
      have gd : ∀ {G' : Hp} {k : Str} {l : Addr}, Ex G G' → valV (rowsK l0 l1 l2 l3) (.inr k) = some (.ref l) → DGet G' dr (.str k) (some (.ref l)) := fun {G' k l} e h => .inl ⟨rowsK l0 l1 l2 l3, .inr k, .inl (e _ _ sG.d), rfl, h.symm⟩
      refine ⟨_, rfl, dr, _, rfl, gd Ex.refl rk0, .inl ⟨l0, vm, rfl, SqL.of hm, fun am n1 => ?_⟩⟩
      have x1 : Ex G (upd G am (.tup vm)) := Ex.refl.new n1
      have e1 : (upd G am (.tup vm)) am = some (.tup vm) := upd_same
      generalize upd G am (.tup vm) = H1 at x1 e1 ⊢
      refine ⟨_, rfl, dr, _, rfl, gd x1 rk1, .inl ⟨l1, vc, rfl, SqL.of (x1 _ _ hc), fun ac n2 => ?_⟩⟩
      have x2 : Ex H1 (upd H1 ac (.tup vc)) := Ex.refl.new n2
      have e2 : (upd H1 ac (.tup vc)) ac = some (.tup vc) := upd_same
      generalize upd H1 ac (.tup vc) = H2 at x2 e2 ⊢
      have y2 := x1.trans x2
      refine ⟨_, rfl, dr, _, rfl, gd y2 rk2, .inl ⟨l2, vs, rfl, SqL.of (y2 _ _ hs), fun as n3 => ?_⟩⟩
      have x3 : Ex H2 (upd H2 as (.tup vs)) := Ex.refl.new n3
      have e3 : (upd H2 as (.tup vs)) as = some (.tup vs) := upd_same
      generalize upd H2 as (.tup vs) = H3 at x3 e3 ⊢
      have y3 := y2.trans x3
      refine ⟨_, rfl, dr, _, rfl, gd y3 rk3, .inl ⟨l3, vp, rfl, SqL.of (y3 _ _ hp), fun ap n4 => ?_⟩⟩
      have x4 : Ex H3 (upd H3 ap (.tup vp)) := Ex.refl.new n4
      have e4 : (upd H3 ap (.tup vp)) ap = some (.tup vp) := upd_same
      generalize upd H3 ap (.tup vp) = H4 at x4 e4 ⊢
      have y4 := y3.trans x4
      intro x dx nx ndx ne
      have x5 : Ex H4 (upd (upd H4 dx (.own x)) x (.ins C dx [])) := (Ex.refl.new ndx).new (by rw [upd_ne ne.symm]; exact nx)
      have e5 : (upd (upd H4 dx (.own x)) x (.ins C dx [])) x = some (.ins C dx []) := upd_same
      generalize upd (upd H4 dx (.own x)) x (.ins C dx []) = H5 at x5 e5 ⊢
      have y5 := y4.trans x5
      have tt := Ex.tup y5
      have hm5 := x5 _ _ (x4 _ _ (x3 _ _ (x2 _ _ e1)))
      have hc5 := x5 _ _ (x4 _ _ (x3 _ _ e2))
      have hs5 := x5 _ _ (x4 _ _ e3)
      have hp5 := x5 _ _ e4
      have T5 : TabsN T H5 := TabsN.exs tabs (sG.ex.trans y5)
      refine ⟨x, dx, am, ac, as, ap, vm, vc, vs, vp, W, rfl, e5, goodF_fit g hm5 hc5 hs5 hp5 (rows3 tt pm) (rows3 tt pc) (rows2 tt ps) (rowsP tt pp), rows3 tt pm, rows3 tt pc, rows2 tt ps, rowsP tt pp, goodF_told g, fun r hr => (g.pb r hr).1, T5, fun H6 keep t6 at6 => ⟨rfl, ?_⟩⟩
      have hxn : H x = none := sG.ex.gone (y4.gone nx)
      have far : ∀ {b : Addr} {xs : List V}, H5 b = some (.tup xs) → H6 b = some (.tup xs) := fun {b xs} e => keep b _ (ne_of e e5 fun z => nomatch z) e fun _ z => nomatch z
      have t56 : Tup H5 H6 := fun a xs e => far e
      refine q x am ac as ap H6 (fun b o e nt => keep b o (fun z => ?_) (y5 _ _ (sG.ex _ _ e)) nt) hxn t6 at6 ⟨⟨vm, far hm5, rows3 t56 (rows3 tt pm)⟩, ⟨vc, far hc5, rows3 t56 (rows3 tt pc)⟩, ⟨vs, far hs5, rows2 t56 (rows2 tt ps)⟩, ⟨vp, far hp5, rowsP t56 (rowsP tt pp)⟩⟩
      rw [z, hxn] at e
      cases e
end
end LJ
set_option Elab.async false
set_option linter.all false
set_option maxRecDepth 100000
set_option maxHeartbeats 8000000
/-! _law_built of the laws about rules: Works of a sketch. -/
namespace LJ
open PySem PySem.Spec L2
open LamX (ExtN)
open NdefX (NTab TabsN)
abbrev sBr : Stmt := top 58
def spBr (C : Addr) (T : List NTab) : Sp := fun vs H Q _ => ∃ (p : Addr) (W : Wd), vs = [.ref p] ∧ SkAt H p W ∧ GoodF W ∧ TabsN T H ∧
  ∀ (x am ac as ap : Addr) (H1 : Hp), ExtN H H1 → H x = none → TabsN T H1 → WorksAt C H1 x am ac as ap W → Data4 H1 am ac as ap W → Q (.ref x) H1
theorem sk_get {H : Hp} {p a b c d : Addr} (h : H p = some (.dK (skK a b c d))) : DGet H p (.str "machines") (some (.ref a)) ∧ DGet H p (.str "cleanings") (some (.ref b)) ∧ DGet H p (.str "stuffs") (some (.ref c)) ∧ DGet H p (.str "products") (some (.ref d)) := by
  have g := get_sk a b c d
  refine ⟨?_, ?_, ?_, ?_⟩
  · have h := DGet.k (k := .inr "machines") h
    rw [g.1] at h
    exact h
  · have h := DGet.k (k := .inr "cleanings") h
    rw [g.2.1] at h
    exact h
  · have h := DGet.k (k := .inr "stuffs") h
    rw [g.2.2.1] at h
    exact h
  · have h := DGet.k (k := .inr "products") h
    rw [g.2.2.2] at h
    exact h
section
variable {P : Program} {w : World} {K : PySem.W.Frag} {mg : Str → Option Value} {base : Heap}
theorem scBr : FnScope ["_law_sketch", "_law_machines", "_law_cleanings"] ["_law_sketch"] (defScope sBr) := ⟨rfl, rfl, rfl, by decide +kernel, rfl, by decide +kernel, by decide +kernel⟩
theorem ok_br {f fI C : Addr} {fd fdI : FuncData} {T : List NTab} (F : Fun K "_law_built" "_law_built" sBr f fd) (BT : mg "tuple" = none) (M : Mk K C fI) (mW : mg "Works" = some (.ref C))
    (GI : FnOk P w K mg base CX0 7 fI fdI pInit (spInit K C T)) (bI : Binds K fdI pInit []) :
    FnOk P w K mg base CX0 9 f fd ["_law_sketch"] (spBr C T) := by
  refine F.ok scBr (fun vs H Q E h => ?_) (fun cdv A outer s H vs Q E hr h => ?_)
  · obtain ⟨p, W, rfl, _⟩ := h
    rfl
  · obtain ⟨p, W, rfl, ⟨a, b, c, d, va, vb, vc, vd, hp, ha, pa, hb, pb, hc, pc, hd, pd⟩, g, tabs, q⟩ := h
    have hu := hu_of hr
    refine ⟨_, pss_cons (ps_par (i := 1) (j := 2) (by rfl) scBr.nd rfl rfl (by decide) rfl rfl (pa_cons (pe_tupleOf (by rfl) BT (pe_dget hu (pv 0) pe_str (fun _ _ => rfl))) (pa_cons (pe_tupleOf (by rfl) BT (pe_dget hu (pv 0) pe_str (fun _ _ => rfl))) pa_nil)) (by rfl))
      (pss_one (ps_ret (pe_make M GI hr (by rfl) mW bI .nil pass0 (pa_cons (pv 1) (pa_cons (pv 2)
      (pa_cons (pe_tupleOf (by rfl) BT (pe_dget hu (pv 0) pe_str (fun _ _ => rfl))) (pa_cons (pe_tupleOf (by rfl) BT (pe_dget hu (pv 0) pe_str (fun _ _ => rfl))) pa_nil))))))), ?_⟩
    refine ⟨_, rfl, p, _, rfl, (sk_get hp).1, .inl ⟨a, va, rfl, SqL.of ha, fun am n1 => ?_⟩⟩
    have x1 : Ex H (upd H am (.tup va)) := Ex.refl.new n1
    have e1 : (upd H am (.tup va)) am = some (.tup va) := upd_same
    generalize upd H am (.tup va) = H1 at x1 e1 ⊢
    refine ⟨_, rfl, p, _, rfl, (sk_get (x1 _ _ hp)).2.1, .inl ⟨b, vb, rfl, SqL.of (x1 _ _ hb), fun ac n2 => ⟨_, _, rfl, ?_⟩⟩⟩
    have x2 : Ex H1 (upd H1 ac (.tup vb)) := Ex.refl.new n2
    have e2 : (upd H1 ac (.tup vb)) ac = some (.tup vb) := upd_same
    generalize upd H1 ac (.tup vb) = H2 at x2 e2 ⊢
    have y2 := x1.trans x2
    refine ⟨_, rfl, _, rfl, _, rfl, p, _, rfl, (sk_get (y2 _ _ hp)).2.2.1, .inl ⟨c, vc, rfl, SqL.of (y2 _ _ hc), fun as n3 => ?_⟩⟩
    have x3 : Ex H2 (upd H2 as (.tup vc)) := Ex.refl.new n3
    have e3 : (upd H2 as (.tup vc)) as = some (.tup vc) := upd_same
    generalize upd H2 as (.tup vc) = H3 at x3 e3 ⊢
    have y3 := y2.trans x3
    refine ⟨_, rfl, p, _, rfl, (sk_get (y3 _ _ hp)).2.2.2, .inl ⟨d, vd, rfl, SqL.of (y3 _ _ hd), fun ap n4 => ?_⟩⟩
    have x4 : Ex H3 (upd H3 ap (.tup vd)) := Ex.refl.new n4
    have e4 : (upd H3 ap (.tup vd)) ap = some (.tup vd) := upd_same
    generalize upd H3 ap (.tup vd) = H4 at x4 e4 ⊢
    have y4 := y3.trans x4
    intro x dx nx ndx ne
    have x5 : Ex H4 (upd (upd H4 dx (.own x)) x (.ins C dx [])) := (Ex.refl.new ndx).new (by rw [upd_ne ne.symm]; exact nx)
    have e5 : (upd (upd H4 dx (.own x)) x (.ins C dx [])) x = some (.ins C dx []) := upd_same
    generalize upd (upd H4 dx (.own x)) x (.ins C dx []) = H5 at x5 e5 ⊢
    have y5 := y4.trans x5
    have tt := Ex.tup y5
    have hm5 := x5 _ _ (x4 _ _ (x3 _ _ (x2 _ _ e1)))
    have hc5 := x5 _ _ (x4 _ _ (x3 _ _ e2))
    have hs5 := x5 _ _ (x4 _ _ e3)
    have hp5 := x5 _ _ e4
    refine ⟨x, dx, am, ac, as, ap, va, vb, vc, vd, W, rfl, e5, goodF_fit g (x5 _ _ (x4 _ _ (x3 _ _ (x2 _ _ e1)))) (x5 _ _ (x4 _ _ (x3 _ _ e2))) (x5 _ _ (x4 _ _ e3)) (x5 _ _ e4) (rows3 tt pa) (rows3 tt pb) (rows2 tt pc) (rowsP tt pd), rows3 tt pa, rows3 tt pb, rows2 tt pc, rowsP tt pd, goodF_told g, fun r hr => (g.pb r hr).1, TabsN.exs tabs y5, fun H6 keep t6 at6 => ⟨rfl, ?_⟩⟩
    have hxn : H x = none := y4.gone nx
    have far : ∀ {b : Addr} {xs : List V}, H5 b = some (.tup xs) → H6 b = some (.tup xs) := fun {b xs} e => keep b _ (ne_of e e5 fun z => nomatch z) e fun _ z => nomatch z
    have t56 : Tup H5 H6 := fun a xs e => far e
    refine q x am ac as ap H6 (fun b o e nt => keep b o (fun z => ?_) (y5 _ _ e) nt) hxn t6 at6 ⟨⟨va, far hm5, rows3 t56 (rows3 tt pa)⟩, ⟨vb, far hc5, rows3 t56 (rows3 tt pb)⟩, ⟨vc, far hs5, rows2 t56 (rows2 tt pc)⟩, ⟨vd, far hp5, rowsP t56 (rowsP tt pd)⟩⟩
    rw [z, hxn] at e
    cases e
end
end LJ
set_option Elab.async false
set_option linter.all false
set_option maxRecDepth 100000
set_option maxHeartbeats 8000000
namespace LJ
open PySem PySem.Spec L2
open LamX (ExtN)
open NdefX (NTab TabsN)
open OwnX
/-! Works: its other methods. -/
abbrev sStr : Stmt := meth 12
abbrev sRepr : Stmt := meth 13
abbrev sEq : Stmt := meth 11
abbrev sRead : Stmt := meth 1
/-- an object of Works that has these words as its text -/
def TextOf (C : Addr) (H : Hp) (x : Addr) (z : Str) : Prop := ∃ dx fs, H x = some (.ins C dx fs) ∧ fs.lookup ("_text" : Str) = some (.str z)
def spStrW (C : Addr) : Sp := fun vs H Q _ => ∃ x z, vs = [.ref x] ∧ TextOf C H x z ∧ Q (.str z) H
def spEqW (C : Addr) : Sp := fun vs H Q _ => ∃ x z y, vs = [.ref x, y] ∧ TextOf C H x z ∧ ((∃ a z2, y = .ref a ∧ TextOf C H a z2 ∧ Q (.bl (decide (z = z2))) H) ∨ (∃ z2, y = .str z2 ∧ Q (.bl false) H))
def reprW (m p : Int) : Str := Str.empty ++ Str.ofString "Works of " ++ num m ++ Str.ofString " machines and " ++ num p ++ Str.ofString " products"
def spReprW (C : Addr) : Sp := fun vs H Q _ => ∃ x dx fs am ap vm vp, vs = [.ref x] ∧ H x = some (.ins C dx fs) ∧ fs.lookup ("_machines" : Str) = some (.ref am) ∧ fs.lookup ("_products" : Str) = some (.ref ap) ∧ H am = some (.tup vm) ∧ H ap = some (.tup vp) ∧ vm.length ≤ 100 ∧ vp.length ≤ 100 ∧ Q (.str (reprW vm.length vp.length)) H
/-- what isinstance asks of Works -/
structure WIns (K : PySem.W.Frag) (C : Addr) : Prop where
  c1 : PySem.W.findIn K (.ref C) "__class__" = some (some (.builtin "object.__class__"))
  c2 : PySem.W.specialIn K (.builtin "object.__class__") "__get__" = some (some (.builtin "getset_descriptor.__get__"))
  c3 : PySem.W.takesIn K (.builtin "object.__class__") = some true
  c4 : PySem.W.mroIn K C (.type "object") = some true
  kt : PySem.W.kitOne K (.ref C) (.ref C) = some true
  kf : PySem.W.kitOne K (.type "str") (.ref C) = some false
structure BltS (mg : Str → Option Value) : Prop where
  str : mg "str" = none
  len : mg "len" = none
  isi : mg "isinstance" = none
section
variable {P : Program} {w : World} {K : PySem.W.Frag} {mg : Str → Option Value} {base : Heap} {C : Addr}
theorem scStr : FnScope ["self"] ["self"] (defScope sStr) := ⟨rfl, rfl, rfl, by decide +kernel, rfl, by decide +kernel, by decide +kernel⟩
theorem ok_str {f : Addr} {fd : FuncData} (F : Fun K "__str__" "Works.__str__" sStr f fd) (c : WCls K C) (B : BltS mg) : FnOk P w K mg base CX0 1 f fd ["self"] (spStrW C) := by
  refine F.ok scStr (fun vs H Q E h => ?_) (fun cdv A outer s H vs Q E hr h => ?_)
  · obtain ⟨x, z, rfl, _⟩ := h
    rfl
  · obtain ⟨x, z, rfl, ⟨dx, fs, hx, hf⟩, q⟩ := h
    refine ⟨_, pss_one (ps_ret (pe_callTy SkE.call_str_str (by rfl) B.str (by decide +kernel) (pa_cons (pe_fld (pv 0) rfl) pa_nil))), ?_⟩
    exact ⟨_, rfl, x, C, dx, fs, _, rfl, hx, c.cl, c.n9, hf, z, rfl, q⟩
theorem scRepr : FnScope ["self"] ["self"] (defScope sRepr) := ⟨rfl, rfl, rfl, by decide +kernel, rfl, by decide +kernel, by decide +kernel⟩
theorem ok_repr {f : Addr} {fd : FuncData} (F : Fun K "__repr__" "Works.__repr__" sRepr f fd) (c : WCls K C) (B : BltS mg) : FnOk P w K mg base CX0 1 f fd ["self"] (spReprW C) := by
  refine F.ok scRepr (fun vs H Q E h => ?_) (fun cdv A outer s H vs Q E hr h => ?_)
  · obtain ⟨x, dx, fs, am, ap, vm, vp, rfl, _⟩ := h
    rfl
  · obtain ⟨x, dx, fs, am, ap, vm, vp, rfl, hx, f1, f2, hm, hp, lm, lp, q⟩ := h
    refine ⟨_, pss_one (ps_ret (pe_joined (.cons pe_str (.cons (pe_fmt (pe_callB call_len_seq (by rfl) B.len (by decide +kernel) (pa_cons (pe_fld (pv 0) rfl) pa_nil))) (.cons pe_str (.cons (pe_fmt (pe_callB call_len_seq (by rfl) B.len (by decide +kernel) (pa_cons (pe_fld (pv 0) rfl) pa_nil))) (.cons pe_str .nil))))))), ?_⟩
    have sz := sizeLine_eq
    have l1 := num_len (i := (vm.length : Int)) (by omega) (by omega)
    have l2 := num_len (i := (vp.length : Int)) (by omega) (by omega)
    have k1 : (Str.empty ++ Str.ofString "Works of ").length = 9 := by decide +kernel
    have k2 : (Str.empty ++ Str.ofString "Works of " ++ num vm.length).length ≤ 23 := by
      rw [Str.length_append]
      omega
    have k3 : (Str.empty ++ Str.ofString "Works of " ++ num vm.length ++ Str.ofString " machines and ").length ≤ 37 := by
      rw [Str.length_append, show (Str.ofString " machines and ").length = 14 by decide +kernel]
      omega
    have k4 : (Str.empty ++ Str.ofString "Works of " ++ num vm.length ++ Str.ofString " machines and " ++ num vp.length).length ≤ 51 := by
      rw [Str.length_append]
      omega
    have k5 : (reprW vm.length vp.length).length ≤ 60 := by
      unfold reprW
      rw [Str.length_append, show (Str.ofString " products").length = 9 by decide +kernel]
      omega
    have b : ∀ {m : Nat}, m ≤ 80 → m ≤ sizeLine := fun h => by omega
    refine ⟨_, rfl, b (by omega), _, rfl, x, C, dx, fs, _, rfl, hx, c.cl, c.n1, f1, am, vm, rfl, .inr (SqT.of hm), .inr ⟨_, rfl, num_log (by omega) (by omega), num vm.length, rfl, b (by omega), _, rfl, b (by omega), _, rfl, x, C, dx, fs, _, rfl, hx, c.cl, c.n4, f2, ap, vp, rfl, .inr (SqT.of hp), .inr ⟨_, rfl, num_log (by omega) (by omega), num vp.length, rfl, b (by omega), _, rfl, b (Nat.le_trans k5 (by omega)), q⟩⟩⟩
theorem scEq : FnScope ["self", "other"] ["self", "other"] (defScope sEq) := ⟨rfl, rfl, rfl, by decide +kernel, rfl, by decide +kernel, by decide +kernel⟩
theorem ok_eq {f : Addr} {fd : FuncData} (F : Fun K "__eq__" "Works.__eq__" sEq f fd) (c : WCls K C) (B : BltS mg) (mW : mg "Works" = some (.ref C)) (I : WIns K C) : FnOk P w K mg base CX0 1 f fd ["self", "other"] (spEqW C) := by
  refine F.ok scEq (fun vs H Q E h => ?_) (fun cdv A outer s H vs Q E hr h => ?_)
  · obtain ⟨x, z, y, rfl, _⟩ := h
    rfl
  · obtain ⟨x, z, y, rfl, ⟨dx, fs, hx, hf⟩, hy⟩ := h
    refine ⟨_, pss_one (ps_ret (pe_and (pe_callB call_isi (by rfl) B.isi (by decide +kernel) (pa_cons (pv 1) (pa_cons (pe_glob (v := .ref C) (by rfl) mW rfl) pa_nil))) (pe_one (pe_cmpR op_eq (pe_fld (pv 0) rfl) (pe_fld (pv 1) rfl) (nomark _))))), ?_⟩
    rcases hy with ⟨a, z2, rfl, ⟨dx2, fs2, ha, hf2⟩, q⟩ | ⟨z2, rfl, q⟩
    · refine ⟨_, rfl, _, _, _, _, true, rfl, .own C, .base (.ins ha c.cl I.c1 I.c2 I.c3 I.c4), I.kt, true, rfl, ?_⟩
      refine ⟨_, rfl, x, C, dx, fs, _, rfl, hx, c.cl, c.n9, hf, _, rfl, a, C, dx2, fs2, _, rfl, ha, c.cl, c.n9, hf2, rfl, ?_⟩
      have e2 : decide (V.str z = V.str z2) = decide (z = z2) := decide_eq_decide.mpr ⟨fun e => V.str.inj e, fun e => by rw [e]⟩
      rw [e2]
      exact q
    · refine ⟨_, rfl, _, _, _, _, false, rfl, .own C, .base (.str z2), I.kf, false, rfl, ?_⟩
      exact q
end
end LJ
set_option Elab.async false
set_option linter.all false
set_option maxRecDepth 100000
set_option maxHeartbeats 4000000
namespace LJ
open PySem PySem.Spec L2
section
variable {P : Program} {w : World} {K : PySem.W.Frag} {mg : Str → Option Value} {base : Heap} {C : Addr}
theorem scG2 : FnScope ["self"] ["self"] (defScope (meth 2)) := ⟨rfl, rfl, rfl, by decide +kernel, rfl, by decide +kernel, by decide +kernel⟩
theorem scG3 : FnScope ["self"] ["self"] (defScope (meth 3)) := ⟨rfl, rfl, rfl, by decide +kernel, rfl, by decide +kernel, by decide +kernel⟩
theorem scG4 : FnScope ["self"] ["self"] (defScope (meth 4)) := ⟨rfl, rfl, rfl, by decide +kernel, rfl, by decide +kernel, by decide +kernel⟩
theorem scG5 : FnScope ["self"] ["self"] (defScope (meth 5)) := ⟨rfl, rfl, rfl, by decide +kernel, rfl, by decide +kernel, by decide +kernel⟩
theorem ok_get2 {f : Addr} {fd : FuncData} (F : Fun K "machines" "Works.machines" (meth 2) f fd) (c : WCls K C) : FnOk P w K mg base CX0 1 f fd ["self"] (getSp C "_machines") := by
  refine F.ok scG2 (fun vs H Q E h => ?_) (fun cdv A outer s H vs Q E hr h => ?_)
  · obtain ⟨x, dx, fs, v, rfl, _⟩ := h
    rfl
  · obtain ⟨x, dx, fs, v, rfl, hx, hf, q⟩ := h
    refine ⟨_, pss_one (ps_ret (pe_fld (pv 0) rfl)), ?_⟩
    exact ⟨_, rfl, x, C, dx, fs, _, rfl, hx, c.cl, c.n1, hf, q⟩
theorem ok_get3 {f : Addr} {fd : FuncData} (F : Fun K "cleanings" "Works.cleanings" (meth 3) f fd) (c : WCls K C) : FnOk P w K mg base CX0 1 f fd ["self"] (getSp C "_cleanings") := by
  refine F.ok scG3 (fun vs H Q E h => ?_) (fun cdv A outer s H vs Q E hr h => ?_)
  · obtain ⟨x, dx, fs, v, rfl, _⟩ := h
    rfl
  · obtain ⟨x, dx, fs, v, rfl, hx, hf, q⟩ := h
    refine ⟨_, pss_one (ps_ret (pe_fld (pv 0) rfl)), ?_⟩
    exact ⟨_, rfl, x, C, dx, fs, _, rfl, hx, c.cl, c.n2, hf, q⟩
theorem ok_get4 {f : Addr} {fd : FuncData} (F : Fun K "stuffs" "Works.stuffs" (meth 4) f fd) (c : WCls K C) : FnOk P w K mg base CX0 1 f fd ["self"] (getSp C "_stuffs") := by
  refine F.ok scG4 (fun vs H Q E h => ?_) (fun cdv A outer s H vs Q E hr h => ?_)
  · obtain ⟨x, dx, fs, v, rfl, _⟩ := h
    rfl
  · obtain ⟨x, dx, fs, v, rfl, hx, hf, q⟩ := h
    refine ⟨_, pss_one (ps_ret (pe_fld (pv 0) rfl)), ?_⟩
    exact ⟨_, rfl, x, C, dx, fs, _, rfl, hx, c.cl, c.n3, hf, q⟩
theorem ok_get5 {f : Addr} {fd : FuncData} (F : Fun K "products" "Works.products" (meth 5) f fd) (c : WCls K C) : FnOk P w K mg base CX0 1 f fd ["self"] (getSp C "_products") := by
  refine F.ok scG5 (fun vs H Q E h => ?_) (fun cdv A outer s H vs Q E hr h => ?_)
  · obtain ⟨x, dx, fs, v, rfl, _⟩ := h
    rfl
  · obtain ⟨x, dx, fs, v, rfl, hx, hf, q⟩ := h
    refine ⟨_, pss_one (ps_ret (pe_fld (pv 0) rfl)), ?_⟩
    exact ⟨_, rfl, x, C, dx, fs, _, rfl, hx, c.cl, c.n4, hf, q⟩
end
end LJ
set_option Elab.async false
set_option linter.all false
set_option maxRecDepth 100000
set_option maxHeartbeats 4000000
/-! Own errors over any base: raised; methods called by keywords; a lambda called in a try. -/
namespace L2
open PySem PySem.Spec PyProof.Rows PySem.ErrV
section
variable {X : Cx} {C fI : Addr} {x f : Str} {B nw ini : String} {bmB : List Value} {a : Expr} {p pos : Pos} {ta : TA}
/-- C(e), to be raised -/
def tMkE (C : Addr) (f : Str) (ta : TA) : St → Hp → XK → Prop := fun σ H Q => ta σ H fun vs H1 => ∃ v, vs = [v] ∧ ∀ d, H1 d = none → Q (.ref C) (some d) (upd H1 d (.xd [(f, v)]))
theorem pmk_err (hf : f = "given" ∨ f = "index") (T : ErrC X.K X.mg x f C fI nw bmB) (Bo : BaseOk B nw ini bmB) (exC : PySem.W.subIn X.K (.ref C) (.type "BaseException") = some true) (tyC : PySem.W.typeIn X.K (.ref C) = some (.type "type"))
    (hr : Room 1 X.A) (ha : PA X [a] ta) (hg : Gl X x) (hdb : (x == ("__debug__" : Str)) = false := by decide)
    (he : starEach (a :: []) X.env = (false, eval a X.env) :: starEach [] X.env := by rfl) (hpl : (backTo pos (starEach [] X.env)).any (·.1) = false := by rfl) :
    PMk X (.Call (.Name x p) [a] [] pos) (tMkE C f ta) := by
  intro pins s σ H Q I h
  refine wpAny_Call_Name_kw (ld_glob I hg T.gC ?_ hdb)
  refine PySem.W.callWith_K (h₀ := X.base) I.ok.mod.kin T.kC (thn (ha.run pos pins s σ H _ I h) fun us s1 hh => ?_) he hpl
  obtain ⟨vs, H1, I1, r1, v, ev, q1⟩ := hh
  subst ev
  refine ⟨I1.kIn, ?_⟩
  cases r1 with
  | cons rv rn =>
    rename_i u us
    cases rn
    show wpAny _ _ (call (.ref C) [u]) _ _ _
    have lim := I1.nolimit
    obtain ⟨hp, g, dr, tk, os⟩ := s1
    refine wpAny_call (err_made hf T Bo (v := u) (.inl ⟨rfl, rfl⟩) I1.kIn lim (by have := hr.dp; omega) fun h1 tk1 e d M => ?_)
    show MkP X pins σ Q (.ref e) ⟨h1, g, dr, tk1, os⟩
    obtain ⟨uo, hoe⟩ := M.obj
    have hns := M.ns
    obtain ⟨G1, g1, g2⟩ := restrict h1 fun b => decide (b ≠ e)
    have gk : ∀ b, b ≠ e → G1.get? b = h1.get? b := fun b hb => g1 b (decide_eq_true hb)
    have ge : G1.get? e = none := g2 e (by simp)
    have old : ∀ b o, hp.get? b = some o → G1.get? b = some o := fun b o q => (gk b (Nat.ne_of_lt (Nat.lt_of_lt_of_le (Heap.lt_size q) M.big))).trans (M.keep b o q)
    have ob : ObjOk X.prog X.w (upd H1 d (.xd [(f, v)])) G1 d (.xd [(f, v)]) :=
      ⟨_, hns.at (fun o q => (gk d M.ne).trans q), relO_put (fs := []) rv fun g => True.intro⟩
    have J : Inv X pins σ (upd H1 d (.xd [(f, v)])) ⟨G1, g, dr, tk1, os⟩ := I1.laid (t' := tk1) old M.dbig ob
    refine ⟨e, _, _, ⟨G1, g, dr, tk1, os⟩, _, .ref C, some d, rfl, J, fun b o q => ?_, ge, hoe, ⟨rfl, rfl⟩, rfl, rfl, ?_, rfl, I1.bare, raises_own exC tyC, q1 d (I1.hok.fresh M.dbig)⟩
    · by_cases hb : b = e
      · have q2 : G1.get? b = some o := q
        rw [hb, ge] at q2
        cases q2
      · exact (gk b hb).symm.trans q
    · rw [upd_ne (Ne.symm M.ne)]
      exact I1.hok.fresh M.big
/-- raise C(e) -/
theorem ps_raiseE {W : WX} {pos2 : Pos} (hc : X.calm = true) (hf : f = "given" ∨ f = "index") (T : ErrC X.K X.mg x f C fI nw bmB) (Bo : BaseOk B nw ini bmB) (exC : PySem.W.subIn X.K (.ref C) (.type "BaseException") = some true) (tyC : PySem.W.typeIn X.K (.ref C) = some (.type "type"))
    (hr : Room 1 X.A) (tk : Takes X W) (ha : PA X [a] ta) (hg : Gl X x) (hdb : (x == ("__debug__" : Str)) = false := by decide)
    (he : starEach (a :: []) X.env = (false, eval a X.env) :: starEach [] X.env := by rfl) (hpl : (backTo pos (starEach [] X.env)).any (·.1) = false := by rfl) :
    PS X (.Raise (some (.Call (.Name x p) [a] [] pos)) none pos2) (fun _ σ H => tMkE C f ta σ H fun cls d H1 => W cls d σ H1) := ps_raise hc tk (pmk_err hf T Bo exC tyC hr ha hg hdb he hpl)
end
/-! ### o.m(k = v, ..) -/
/-- by keywords alone: gV tells how the parameters behind the object are filled from the keywords' values -/
def tMethK (C : Addr) (m : Str) (sp : Sp) (n : Nat) (gV : List V → List V → List V) (E : XK) (ta : TE) (t : TA) : TE := fun σ H Q => ta σ H fun x H1 => ∃ a dx fs, x = .ref a ∧ H1 a = some (.ins C dx fs) ∧ fs.lookup m = none ∧
  t σ H1 fun zs H2 => zs.length = n ∧ sp (gV [x] zs) H2 Q E
section
variable {X : Cx} {CX : CXT} {k : Nat} {f C : Addr} {fd : FuncData} {ps ks : List Str} {sp : Sp} {E : XK} {m : Str} {pos apos : Pos} {o : Expr} {kws : List Keyword} {ta : TE} {tk : TA} {g : List Value → List Value → List Value} {gV : List V → List V → List V}
theorem pe_methK {pl : Sem Bool} (he : PE X o ta) (c : Cls X.K C) (hm : Meth X.K C m f) (F : FnOk X.prog X.w X.K X.mg X.base CX k f fd ps sp) (hr : Room k X.A) (hb : KBn X.K fd ps 1 ks g gV) (hx : Passes CX X E) (hkw : PK X kws tk)
    (hall : (backToKw pos (keywordEach kws X.env)).all (·.1.isSome) = true := by rfl) (hks : (backToKw pos (keywordEach kws X.env)).filterMap (·.1) = ks := by rfl)
    (hpl : ((backTo pos (starEach [] X.env)).any (·.1) || (backToKw pos (keywordEach kws X.env)).any (·.1.isNone)) = false := by rfl)
    (ht : eval (.Call (.Attribute o m apos) [] kws pos) X.env = (do
      let ov ← eval o X.env
      standAt apos.atName
      let (f, first) ← holding [ov] (getMethod ov m pl)
      callWith pos f first (backTo pos (starEach [] X.env)) (backToKw pos (keywordEach kws X.env))) := by rfl) :
    PE X (.Call (.Attribute o m apos) [] kws pos) (tMethK C m sp ks.length gV E ta tk) := by
  refine ⟨fun pins s σ H Q I h => ?_⟩
  refine PySem.W.methodCall_KW (pl := pl) (thn (he.run pins s σ H _ I h) fun u s1 ⟨x, H1, I1, rx, a, dx, fs, ex, ea, l, q⟩ => ?_) ht
  subst ex
  obtain rfl : u = Value.ref a := rx
  refine getmeth_ok I1 ea c hm l ?_
  refine PySem.W.callWith_KW0 (first := [.ref a]) (h₀ := X.base) I.ok.mod.kin hm.kp hall ?_ hpl
  refine thn (hkw.run pos pins s1 σ H1 _ I1 q) fun ws s2 ⟨zs, H2, I2, rz, l2, q2⟩ => ⟨I2.kIn, ?_⟩
  rw [hks]
  show wpAny _ _ (call (.ref f) [.ref a] (ks.zip ws)) _ _ _
  have e2 : ws.length = ks.length := rz.length.symm.trans l2
  have r1 : Vals [V.ref a] [Value.ref a] := .cons rfl .nil
  refine wpAny_call (codeAny_mono (F.run X.A X.stack s2 H2 ⟨[.ref a], ks.zip ws⟩ (g [.ref a] ws) (gV [.ref a] zs) Q E hr I2.env0 (hb.to s2 [.ref a] ws I2.kIn rfl e2) (hb.rel r1 rz) q2) fun r s3 hq => ?_)
  cases r with
  | error e => exact hx pins σ H2 s2 e s3 I2 hq
  | ok fl =>
    cases fl with
    | ret u => exact I2.after hq
    | next => exact False.elim hq
    | brk => exact False.elim hq
    | cont => exact False.elim hq
end
end L2
namespace LamV
open PySem PySem.Spec PyProof.Rows L2
open LamX (CodeO ExtN TabB)
open NdefX (NF NTab TabN TabsN CellsAt NScope startF ncx envF)
section
variable {Y : Cx} {pins : List (Addr × Obj)} {σ : L2.St} {H : Hp} {s : Shared} {f : Addr} {F : NF} {body : Expr} {fr : List Str} {ws : List (Option V)}
variable {CX : CXT} {n i j k : Nat} {x : Str} {sp : List (Option V) → Sp} {E : L2.St → XK} {t : TA} {e : Expr} {es : List Expr} {p pos : Pos}
/-- the reading: slot i holds the lambda without parameters; what it raises is wished for at the slots -/
def tCallL0S (f : Addr) (F : NF) (body : Expr) (i : Nat) (ws : List (Option V)) (sp : List (Option V) → Sp) (E : L2.St → XK) : TE := fun σ H Q =>
  (σ[i]? = some (some (.ref f)) ∧ H f = some (LnO f F body)) ∧ H F.c = some (CodeO F.c F.qual) ∧ sp ws [] H Q (E σ)
theorem pe_lact0S (G : LOk Y.prog Y.w Y.K Y.mg Y.base CX k f F body n fr sp) (C : CellsAt F.cl fr ws Y.s_0.heap Y.H_0) (ex : Y.ex = []) (room : Room j Y.A) (le : k ≤ j) (out : ∀ σ, PassesAt CX Y σ (E σ)) (slot : Y.N[i]? = some x) (vis : Vis Y.env.scope x)
    (d1 : (x == ("__debug__" : Str)) = false := by decide) (d2 : (x == ("__classdict__" : Str)) = false := by decide) :
    PE Y (.Call (.Name x p) [] [] pos) (tCallL0S f F body i ws sp E) := by
  constructor
  rintro pins s σ H Q I ⟨⟨hs, hf⟩, h2, q⟩
  apply wpAny_Call_Name_kw
  refine thn ((pe_var slot vis d1 d2).run pins s σ H (fun v H1 => v = .ref f ∧ H1 = H) I ⟨_, hs, rfl, rfl⟩) ?_
  rintro u s1 ⟨_, _, I1, ru, rfl, rfl⟩
  cases (show u = Value.ref f from ru)
  refine PySem.W.callWith_F0 (first := []) (fnAt I1 hf) ?_
  refine wpAny_call (codeAny_mono (G.call (room.mono le) I1.env0 ⟨hf, h2, cells_stay C ex I1⟩ .nil q) ?_)
  rintro (u | fl) s2 hq
  · exact out σ _ _ _ _ _ I1 hq
  · cases fl with
    | ret u => exact I1.after hq
    | _ => exact (hq : False).elim
end
end LamV
set_option Elab.async false
set_option linter.all false
set_option maxRecDepth 100000
set_option maxHeartbeats 4000000
/-! Values of a bounded size and depth; what stands beside the jar; a tuple beside the empty one. -/
namespace LJ
open PySem PySem.Spec L2
open LamX (ExtN TabB)
open NdefX (NTab TabsN)
/-- known, to this depth, and no tuple longer than B -/
def Bd (K : PySem.W.Frag) (H : Hp) (B : Nat) : Nat → V → Prop
  | 0, x => Kn K H x ∧ ∀ xs, tupOf H x = some xs → xs.length ≤ B
  | n + 1, x => Kn K H x ∧ ∀ xs, tupOf H x = some xs → xs.length ≤ B ∧ ∀ y ∈ xs, Bd K H B n y
section
variable {K : PySem.W.Frag} {H H1 : Hp} {B B1 : Nat}
theorem Bd.kn : ∀ {n : Nat} {x : V}, Bd K H B n x → Kn K H x
  | 0, _, d => d.1
  | _ + 1, _, d => d.1
theorem Bd.len : ∀ {n : Nat} {x : V} {xs : List V}, Bd K H B n x → tupOf H x = some xs → xs.length ≤ B
  | 0, _, _, d, e => d.2 _ e
  | _ + 1, _, _, d, e => (d.2 _ e).1
theorem Bd.deep : ∀ {n : Nat} {x : V}, Bd K H B n x → Deep K H n x
  | 0, _, d => d.1
  | _ + 1, _, d => ⟨d.1, fun xs e y hy => Bd.deep ((d.2 xs e).2 y hy)⟩
theorem Bd.exN (e : ExtN H H1) : ∀ {n : Nat} {x : V}, Bd K H B n x → Bd K H1 B n x
  | 0, x, d => ⟨d.1.exN e, fun xs h => d.2 xs (by rw [← d.1.tupsN e]; exact h)⟩
  | n + 1, x, d => ⟨d.1.exN e, fun xs h => ⟨(d.2 xs (by rw [← d.1.tupsN e]; exact h)).1, fun y hy => Bd.exN e ((d.2 xs (by rw [← d.1.tupsN e]; exact h)).2 y hy)⟩⟩
theorem Bd.more (l : B ≤ B1) : ∀ {n : Nat} {x : V}, Bd K H B n x → Bd K H B1 n x
  | 0, x, d => ⟨d.1, fun xs h => Nat.le_trans (d.2 xs h) l⟩
  | n + 1, x, d => ⟨d.1, fun xs h => ⟨Nat.le_trans (d.2 xs h).1 l, fun y hy => Bd.more l ((d.2 xs h).2 y hy)⟩⟩
theorem Bd.down : ∀ {n : Nat} {x : V}, Bd K H B (n + 1) x → Bd K H B n x
  | 0, _, d => ⟨d.1, fun xs h => (d.2 xs h).1⟩
  | n + 1, _, d => ⟨d.1, fun xs h => ⟨(d.2 xs h).1, fun y hy => Bd.down ((d.2 xs h).2 y hy)⟩⟩
theorem Bd.flat {x : V} (k : Kn K H x) (n : tupOf H x = none) : ∀ {m : Nat}, Bd K H B m x
  | 0 => ⟨k, fun xs e => by rw [n] at e; cases e⟩
  | _ + 1 => ⟨k, fun xs e => by rw [n] at e; cases e⟩
theorem Bd.int {i : Int} {m : Nat} : Bd K H B m (.int i) := .flat (.int i) rfl
theorem Bd.str {s : Str} {m : Nat} (l : s.length ≤ 1000) : Bd K H B m (.str s) := .flat (.str s (by rw [sizeLine_eq]; omega)) rfl
theorem Bd.non {m : Nat} : Bd K H B m .non := .flat (.oth (t := .type "NoneType") (b := false) (fun _ _ => .base .non) (kit_ty (by decide +kernel)) (kit_ty (by decide +kernel)) (kit_ty (by decide +kernel)) (kit_ty (by decide +kernel)) rfl rfl fun _ _ => rfl) rfl
theorem Bd.bl {b : Bool} {m : Nat} : Bd K H B m (.bl b) := .flat (.oth (t := .type "bool") (b := true) (fun _ _ => .base (.bl b)) (kit_ty (by decide +kernel)) (kit_ty (by decide +kernel)) (kit_ty (by decide +kernel)) (kit_ty (by decide +kernel)) rfl rfl fun _ _ => rfl) rfl
theorem no_tup {a : Addr} {o : HO} (h : H a = some o) (n : ∀ xs, o ≠ .tup xs) : tupOf H (.ref a) = none := by
  show (match H a with
    | some (.tup ys) => some ys
    | _ => none) = none
  rw [h]
  cases o <;> first | rfl | exact absurd rfl (n _)
theorem Bd.lst {a : Addr} {xs : List V} {m : Nat} (h : H a = some (.lst xs)) : Bd K H B m (.ref a) :=
  .flat (.oth (t := .type "list") (b := false) (fun H1 e => .base (.lst (e _ _ h fun _ z => nomatch z))) (kit_ty (by decide +kernel)) (kit_ty (by decide +kernel)) (kit_ty (by decide +kernel)) (kit_ty (by decide +kernel)) rfl rfl
    fun H1 e => no_tup (e _ _ h fun _ z => nomatch z) fun _ z => nomatch z) (no_tup h fun _ z => nomatch z)
theorem Bd.dct {a : Addr} {kvs : List (Key × V)} {m : Nat} (h : H a = some (.dK kvs)) : Bd K H B m (.ref a) :=
  .flat (.oth (t := .type "dict") (b := false) (fun H1 e => .base (.dK (e _ _ h fun _ z => nomatch z))) (kit_ty (by decide +kernel)) (kit_ty (by decide +kernel)) (kit_ty (by decide +kernel)) (kit_ty (by decide +kernel)) rfl rfl
    fun H1 e => no_tup (e _ _ h fun _ z => nomatch z) fun _ z => nomatch z) (no_tup h fun _ z => nomatch z)
theorem Bd.tup {a : Addr} {xs : List V} {n : Nat} (h : H a = some (.tup xs)) (l : xs.length ≤ B) (b : B ≤ 100000) (d : ∀ y ∈ xs, Bd K H B n y) : Bd K H B (n + 1) (.ref a) :=
  ⟨.tup h (by rw [sizeLine_eq]; omega), fun ys e => by
    rw [tup_at h] at e
    cases e
    exact ⟨l, d⟩⟩
theorem Bd.at {a : Addr} {xs : List V} {n : Nat} (d : Bd K H B (n + 1) (.ref a)) (h : H a = some (.tup xs)) : xs.length ≤ B ∧ ∀ y ∈ xs, Bd K H B n y := d.2 xs (tup_at h)
theorem Bd.tup0 {a : Addr} {n : Nat} (h : H a = some (.tup [])) : Bd K H B n (.ref a) := by
  cases n with
  | zero => exact ⟨.tup h (Nat.zero_le _), fun ys e => by
      rw [tup_at h] at e
      cases e
      exact Nat.zero_le _⟩
  | succ n => exact ⟨.tup h (Nat.zero_le _), fun ys e => by
      rw [tup_at h] at e
      cases e
      exact ⟨Nat.zero_le _, fun _ z => nomatch z⟩⟩
end
/-! beside the jar, and what else is still changed -/
def cut (js : List Addr) (H : Hp) : Hp := fun b => if b ∈ js then none else H b
theorem cut_ne {js : List Addr} {b : Addr} {H : Hp} (h : b ∉ js) : cut js H b = H b := if_neg h
theorem cut_same {js : List Addr} {b : Addr} {H : Hp} (h : b ∈ js) : cut js H b = none := if_pos h
/-- all these stand -/
def Held (js : List Addr) (H : Hp) : Prop := ∀ a ∈ js, H a ≠ none
theorem Held.ne {js : List Addr} {H : Hp} {p : Addr} (h : Held js H) (n : H p = none) : p ∉ js := fun m => h p m n
/-- all but j and the tables stays -/
def Kp (j : Addr) (H H1 : Hp) : Prop := ∀ b o, b ≠ j → H b = some o → (∀ ps, o ≠ .tbl ps) → H1 b = some o
theorem Kp.of_but {j : Addr} {H H1 : Hp} (b : But j H H1) : Kp j H H1 := fun a o n e _ => b a o n e
theorem Kp.of_ext {j : Addr} {H H1 : Hp} (e : ExtN H H1) : Kp j H H1 := fun a o _ h n => e a o h n
theorem Kp.of_ex {j : Addr} {H H1 : Hp} (e : Ex H H1) : Kp j H H1 := fun a o _ h _ => e a o h
theorem Kp.trans {j : Addr} {H H1 H2 : Hp} (a : Kp j H H1) (b : Kp j H1 H2) : Kp j H H2 := fun c o n e t => b c o n (a c o n e t) t
theorem Kp.refl {j : Addr} {H : Hp} : Kp j H H := fun _ _ _ e _ => e
theorem tabs_but {j : Addr} {T : List NTab} {H H1 : Hp} (J : JarAt H j) (b : But j H H1) (t : TabsN T H) : TabsN T H1 := fun r hr => by
  obtain ⟨d, m, c, e, _⟩ := J
  obtain ⟨ps, h1, h2, h3⟩ := t r hr
  refine ⟨ps, b _ _ (ne_of h1 e fun z => nomatch z) h1, h2, fun pos v hv => ?_⟩
  obtain ⟨c, e1, e2⟩ := h3 pos v hv
  exact ⟨c, e1, b _ _ (ne_of e2 e fun z => nomatch (show HO.ext _ = HO.lst _ from z)) e2⟩
theorem Ex.jar {j : Addr} {H H1 : Hp} (e : Ex H H1) (h : JarAt H j) : JarAt H1 j := by
  obtain ⟨d, m, c, z, r⟩ := h
  exact ⟨d, m, c, e _ _ z, r⟩
theorem ExtN.jar {j : Addr} {H H1 : Hp} (e : ExtN H H1) (h : JarAt H j) : JarAt H1 j := by
  obtain ⟨d, m, c, z, r⟩ := h
  exact ⟨d, m, c, e _ _ z (fun _ q => nomatch q), r⟩
theorem But.cut {j : Addr} {js : List Addr} {H H1 : Hp} (b : But j H H1) (m : j ∈ js) : ExtN (cut js H) (cut js H1) := fun a o e _ => by
  by_cases z : a ∈ js
  · rw [cut_same z] at e
    cases e
  · rw [cut_ne z] at e ⊢
    exact b a o (fun y => z (y ▸ m)) e
theorem Ex.cut {js : List Addr} {H H1 : Hp} (b : Ex H H1) : ExtN (cut js H) (cut js H1) := fun a o e _ => by
  by_cases z : a ∈ js
  · rw [cut_same z] at e
    cases e
  · rw [cut_ne z] at e ⊢
    exact b a o e
theorem cut_up {js : List Addr} {H : Hp} : ExtN (cut js H) H := fun a o e _ => by
  by_cases z : a ∈ js
  · rw [cut_same z] at e
    cases e
  · rw [cut_ne z] at e
    exact e
theorem cut_at {js : List Addr} {a : Addr} {H : Hp} {o : HO} (e : cut js H a = some o) : H a = some o ∧ a ∉ js := by
  by_cases z : a ∈ js
  · rw [cut_same z] at e
    cases e
  · exact ⟨by rw [cut_ne z] at e; exact e, z⟩
theorem cut_of {js : List Addr} {a : Addr} {H : Hp} {o : HO} (e : H a = some o) (n : a ∉ js) : cut js H a = some o := by
  rw [cut_ne n]
  exact e
theorem Held.ex {js : List Addr} {H H1 : Hp} (e : Ex H H1) (h : Held js H) : Held js H1 := fun a m z => by
  cases q : H a with
  | none => exact h a m q
  | some o =>
    rw [e a o q] at z
    cases z
theorem Held.but {j : Addr} {js : List Addr} {H H1 : Hp} (b : But j H H1) (J : JarAt H1 j) (h : Held js H) : Held js H1 := fun a m z => by
  by_cases y : a = j
  · obtain ⟨d, m, c, e, _⟩ := J
    rw [y, e] at z
    cases z
  · cases q : H a with
    | none => exact h a m q
    | some o =>
      rw [b a o y q] at z
      cases z
end LJ
set_option Elab.async false
set_option linter.all false
set_option maxRecDepth 100000
set_option maxHeartbeats 8000000
namespace LJ
open PySem PySem.Spec L2 PySem.ErrV
open LamX (ExtN)
open NdefX (NTab TabsN)
/-! Works that are there: check_works, is_name_of, check_name. -/
/-- a value that is asked for: a text, or one that is known to be none -/
inductive St (K : PySem.W.Frag) (H : Hp) : V → Prop
  | str (s : Str) (le : s.length ≤ sizeLine) : St K H (.str s)
  | oth {x : V} {t : Value} (ty : ∀ H1, ExtN H H1 → TyX K H1 x t) (s : PySem.W.kitOne K t (.type "str") = some false) (ns : ∀ z, x ≠ .str z) : St K H x
theorem St.exN {K : PySem.W.Frag} {H H1 : Hp} {x : V} (k : St K H x) (e : ExtN H H1) : St K H1 x := by
  cases k with
  | str s le => exact .str s le
  | oth ty s ns => exact .oth (fun H2 e2 => ty H2 (e.trans e2)) s ns
theorem St.ty {K : PySem.W.Frag} {H : Hp} {x : V} (k : St K H x) : ∃ t b, TyX K H x t ∧ PySem.W.kitOne K t (.type "str") = some b ∧ ((b = true ∧ ∃ s, x = .str s) ∨ (b = false ∧ ∀ z, x ≠ .str z)) := by
  cases k with
  | str s le => exact ⟨_, true, .base (.str s), kit_ty (by decide +kernel), .inl ⟨rfl, s, rfl⟩⟩
  | @oth _ t ty s ns => exact ⟨t, false, ty _ (ExtN.refl _), s, .inr ⟨rfl, ns⟩⟩
/-- what the written part tells of UnknownName -/
structure Unk (K : PySem.W.Frag) (mg : Str → Option Value) (CU fU : Addr) : Prop where
  c : ∃ bm, ErrC K mg "UnknownName" "given" CU fU "LookupError.__new__" bm ∧ BaseOk "LookupError" "LookupError.__new__" "LookupError.__init__" bm
  exC : PySem.W.subIn K (.ref CU) (.type "BaseException") = some true
  tyC : PySem.W.typeIn K (.ref CU) = some (.type "type")
  xf : XfC K CU
  te : PySem.W.exmOne K (.ref CU) (.ref CU) = some true
abbrev sCw : Stmt := top 41
abbrev sNo : Stmt := top 42
/-- rows that begin with these names -/
def NRow (H : Hp) (v : V) (n : Str) : Prop := ∃ (a : Addr) (xs : List V), v = .ref a ∧ H a = some (.tup (.str n :: xs))
theorem NRow.tup {H H1 : Hp} {v : V} {n : Str} (t : Tup H H1) (h : NRow H v n) : NRow H1 v n := by
  obtain ⟨a, xs, rfl, e⟩ := h
  exact ⟨a, xs, rfl, t _ _ e⟩
def isOf (names : List Str) : V → Bool
  | .str z => names.contains z
  | _ => false
theorem isOf_no {names : List Str} {v : V} (h : ∀ z, v ≠ .str z) : isOf names v = false := by
  cases v with
  | str z => exact absurd rfl (h z)
  | _ => rfl
def spCw (C : Addr) : Sp := fun vs H Q _ => ∃ x dx fs, vs = [.ref x] ∧ H x = some (.ins C dx fs) ∧ Q .non H
def spNo (K : PySem.W.Frag) : Sp := fun vs H Q _ => ∃ (t : Addr) (v : V) (rs : List V) (names : List Str), vs = [.ref t, v] ∧ H t = some (.tup rs) ∧ Paired (NRow H) rs names ∧ names.length ≤ 100 ∧ St K H v ∧ ∀ H1, Ex H H1 → Q (.bl (isOf names v)) H1
theorem inV_strs (z : Str) : ∀ ns : List Str, inV (.str z) (ns.map V.str) = ns.contains z
  | [] => rfl
  | n :: ns => by
    have ih := inV_strs z ns
    unfold inV at ih ⊢
    rw [List.map_cons, List.any_cons, ih, List.contains_cons]
    show ((n == z) || _) = _
    have : (n == z) = (z == n) := by
      by_cases h : n = z
      · rw [h]
      · rw [beq_eq_false_iff_ne.mpr h, beq_eq_false_iff_ne.mpr (Ne.symm h)]
    rw [this]
theorem flat_strs : ∀ ns : List Str, (ns.map V.str).all flatV = true
  | [] => rfl
  | n :: ns => by
    rw [List.map_cons, List.all_cons, flat_strs ns]
    rfl
section
variable {P : Program} {w : World} {K : PySem.W.Frag} {mg : Str → Option Value} {base : Heap} {C : Addr}
theorem scCw : FnScope ["works"] ["works"] (defScope sCw) := ⟨rfl, rfl, rfl, by decide +kernel, rfl, by decide +kernel, by decide +kernel⟩
theorem scNo : FnScope ["rows", "value", "row"] ["rows", "value"] (defScope sNo) := ⟨rfl, rfl, rfl, by decide +kernel, rfl, by decide +kernel, by decide +kernel⟩
def teNo (K : PySem.W.Frag) : TE := tOp (rIxT K) (tVar 2) (tC (.int 0))
theorem ok_no {f : Addr} {fd : FuncData} (F : Fun K "is_name_of" "is_name_of" sNo f fd) (B : BltI mg) : FnOk P w K mg base CX0 1 f fd ["rows", "value"] (spNo K) := by
  refine F.ok scNo (fun vs H Q E h => ?_) (fun cdv A outer s H vs Q E hr h => ?_)
  · obtain ⟨t, v, rs, names, rfl, _⟩ := h
    rfl
  · obtain ⟨t, v, rs, names, rfl, ht, pr, ln, st, q⟩ := h
    refine ⟨_, pss_one (ps_ret (pe_and (pe_callB call_isi (by rfl) B.isinstance (by decide +kernel) (pa_cons (pv 1) (pa_cons (pe_bltn (by rfl) B.str (by decide +kernel) (v := .ty "str") rfl) pa_nil)))
      (pe_one (pe_cmpR op_in_seq (pv 1) (pe_lc (own := [("row", 2)]) (g := gName 2) (te := teNo K) (by rfl) scNo.nd (pi_tup (pv 0)) (blkOk_by (own := [("row", 2)]) (N := ["rows", "value", "row"]) (sc := defScope sNo) (by decide +kernel)) (fun _ _ _ _ _ => pg_name (i := 2) scNo.nd rfl (Or.inl rfl)) (fun _ _ _ _ _ => pts_nil)
        (fun _ _ _ _ _ => pe_ix ix_tup (pv 2) pe_int (fun _ _ => rfl))) rfl)))), ?_⟩
    obtain ⟨ty, b, tx, e, hb⟩ := st.ty
    refine ⟨_, rfl, _, _, ty, _, b, rfl, .ty "str", tx, e, b, rfl, ?_⟩
    have lr : rs.length = names.length := Paired.size pr
    rcases hb with ⟨rfl, z, rfl⟩ | ⟨rfl, ns⟩
    · refine ⟨_, rfl, _, rfl, t, rfl, ⟨_, SqT.of ht⟩, fun D hD => lc_tup (K := K) (a := t) (xs := rs) (fun i G => Ex H G ∧ G D = some (.lst ((names.take i).map V.str))) ⟨Ex.refl.new hD, upd_same⟩ (fun i G _ h => SqT.of (h.1 _ _ ht)) ?_ ?_⟩
      · rintro i v G hv ⟨xG, eG⟩
        obtain ⟨n, hn, a, xs, rfl, ea⟩ := Paired.spot pr hv
        refine ⟨rfl, _, rfl, a, _, _, _, rfl, rfl, SqT.of (xG _ _ ea), atI_nat (j := 0) rfl, _, eG, by rw [List.length_map, List.length_take, sizeLine_eq]; omega, xG.put hD, ?_⟩
        rw [upd_same, List.take_succ, hn, List.map_append]
        rfl
      · rintro G ⟨xG, eG⟩
        rw [lr, List.take_of_length_le (Nat.le_refl _)] at eG
        refine ⟨D, _, rfl, .inl (SqL.of eG), rfl, flat_strs _, ?_⟩
        show Q (.bl (inV (.str z) (names.map V.str))) G
        rw [inV_strs]
        exact q G xG
    · have := q H Ex.refl
      rw [isOf_no ns] at this
      exact this
theorem ok_cw {f : Addr} {fd : FuncData} (F : Fun K "check_works" "check_works" sCw f fd) (B : BltI mg) (c : WCls K C) (mW : mg "Works" = some (.ref C)) (I : WIns K C) : FnOk P w K mg base CX0 1 f fd ["works"] (spCw C) := by
  refine F.ok scCw (fun vs H Q E h => ?_) (fun cdv A outer s H vs Q E hr h => ?_)
  · obtain ⟨x, dx, fs, rfl, _⟩ := h
    rfl
  · obtain ⟨x, dx, fs, rfl, hx, q⟩ := h
    refine ⟨_, pss_one (ps_if (pt_not (pt_truth (pe_callB call_isi (by rfl) B.isinstance (by decide +kernel) (pa_cons (pv 0) (pa_cons (pe_glob (v := .ref C) (by rfl) mW rfl) pa_nil))) (fun _ => rfl))) (pss_one ps_never) pss_nil), ?_⟩
    refine ⟨_, rfl, _, _, _, _, true, rfl, .own C, .base (.ins hx c.cl I.c1 I.c2 I.c3 I.c4), I.kt, true, rfl, ?_⟩
    exact ite2 (fun z => by cases z) (fun _ => q)
end
/-- the works that a plan is of: what their properties give -/
structure WkD (C : Addr) (H : Hp) (x : Addr) (W : Wd) : Prop where
  at_ : ∃ am ac as ap, WorksAt C H x am ac as ap W ∧ Data4 H am ac as ap W
theorem WkD.ex {C x : Addr} {W : Wd} {H H1 : Hp} (e : Ex H H1) (h : WkD C H x W) : WkD C H1 x W := by
  obtain ⟨am, ac, as, ap, ⟨dx, D1, D2, D3, D4, b1, b2, v4, hx, ⟨g1, g2⟩, ⟨g3, g4⟩, g5, g6, g7⟩, ⟨⟨v1, m1, m2⟩, ⟨v2, m3, m4⟩, ⟨v3, m5, m6⟩, ⟨v5, m7, m8⟩⟩⟩ := h
  have t := Ex.tup e
  refine ⟨am, ac, as, ap, ⟨dx, D1, D2, D3, D4, b1, b2, v4, e _ _ hx, ⟨e _ _ g1, bnds t g2⟩, ⟨e _ _ g3, bnds t g4⟩, e _ _ g5, e _ _ g6, L2.Paired.mapP g7 fun v q z => ?_⟩, ⟨⟨v1, e _ _ m1, rows3 t m2⟩, ⟨v2, e _ _ m3, rows3 t m4⟩, ⟨v3, e _ _ m5, rows2 t m6⟩, ⟨v5, e _ _ m7, rowsP t m8⟩⟩⟩
  obtain ⟨Dp, ys, z1, z2, z3⟩ := z
  exact ⟨Dp, ys, z1, e _ _ z2, bnds t z3⟩
theorem named3 {H : Hp} {vs : List V} {rs : List (Str × Int × Int)} (h : Paired (Row3 H) vs rs) : Paired (NRow H) vs (rs.map (·.1)) := by
  induction h with
  | nil => exact .nil
  | cons a t ih =>
    obtain ⟨b, rfl, e⟩ := a
    exact .cons ⟨b, _, rfl, e⟩ ih
theorem namedP {H : Hp} {vs : List V} {rs : List (Str × List (Int × Int))} (h : Paired (RowP H) vs rs) : Paired (NRow H) vs (rs.map (·.1)) := by
  induction h with
  | nil => exact .nil
  | cons a t ih =>
    obtain ⟨b, t1, ys, rfl, e, _⟩ := a
    exact .cons ⟨b, _, rfl, e⟩ ih
theorem cut_takeN (xs : List V) {i : Nat} (h : i ≤ xs.length) : cutV xs none (some (i : Int)) = xs.take i := by
  unfold cutV HT.sIx
  show List.take ((if (i : Int) < 0 then ((i : Int) + (xs.length : Int)).toNat else min (i : Int).toNat xs.length) - 0) (List.drop 0 xs) = _
  rw [if_neg (by omega), Int.toNat_natCast, Nat.min_eq_left h]
  rfl
theorem cut_dropN (xs : List V) {i : Nat} (h : i ≤ xs.length) : cutV xs (some (i : Int)) none = xs.drop i := by
  unfold cutV HT.sIx
  show List.take (xs.length - (if (i : Int) < 0 then ((i : Int) + (xs.length : Int)).toNat else min (i : Int).toNat xs.length)) (List.drop (if (i : Int) < 0 then ((i : Int) + (xs.length : Int)).toNat else min (i : Int).toNat xs.length) xs) = _
  rw [if_neg (by omega), Int.toNat_natCast, Nat.min_eq_left h]
  exact List.take_of_length_le (by rw [List.length_drop]; exact Nat.le_refl _)
theorem sIx_le {n i : Nat} (h : i ≤ n) : HT.sIx n n (some (i : Int)) = i := by
  show (if (i : Int) < 0 then ((i : Int) + (n : Int)).toNat else min (i : Int).toNat n) = i
  rw [if_neg (by omega), Int.toNat_natCast, Nat.min_eq_left h]
theorem not_mem_take {α : Type} : ∀ {xs : List α} {i : Nat} {x : α}, xs.Nodup → xs[i]? = some x → x ∉ xs.take i
  | [], _, _, _, h => by simp at h
  | y :: ys, 0, x, _, _ => by simp
  | y :: ys, i + 1, x, nd, h => by
    rw [List.getElem?_cons_succ] at h
    rw [List.take_succ_cons]
    intro z
    rcases List.mem_cons.mp z with rfl | z
    · exact (List.nodup_cons.mp nd).1 (List.mem_of_getElem? h)
    · exact not_mem_take (List.nodup_cons.mp nd).2 h z
/-- an error of one field over ValueError -/
structure Er1 (K : PySem.W.Frag) (mg : Str → Option Value) (x f : Str) (C : Addr) : Prop where
  c : ∃ fI bm, ErrC K mg x f C fI "ValueError.__new__" bm ∧ BaseOk "ValueError" "ValueError.__new__" "ValueError.__init__" bm
  exC : PySem.W.subIn K (.ref C) (.type "BaseException") = some true
  tyC : PySem.W.typeIn K (.ref C) = some (.type "type")
  xf : XfC K C
def Raised (ce : Addr) (f : Str) (u : V) (H : Hp) (E : XK) : Prop := ∀ H1 d, Ex H H1 → H1 d = some (.xd [(f, u)]) → E (.ref ce) (some d) H1
abbrev sCn : Stmt := top 43
def spCn (K : PySem.W.Frag) (CU : Addr) : Sp := fun vs H Q E => ∃ (t : Addr) (v : V) (rs : List V) (names : List Str), vs = [.ref t, v] ∧ H t = some (.tup rs) ∧ Paired (NRow H) rs names ∧ names.length ≤ 100 ∧ St K H v ∧
  (isOf names v = true → ∀ H1, Ex H H1 → Q .non H1) ∧ (isOf names v = false → Raised CU "given" v H E)
section
variable {P : Program} {w : World} {K : PySem.W.Frag} {mg : Str → Option Value} {base : Heap} {C CU fU : Addr}
theorem scCn : FnScope ["rows", "value"] ["rows", "value"] (defScope sCn) := ⟨rfl, rfl, rfl, by decide +kernel, rfl, by decide +kernel, by decide +kernel⟩
theorem ok_cn {f fN : Addr} {fd fdN : FuncData} (F : Fun K "check_name" "check_name" sCn f fd) (U : Unk K mg CU fU)
    (GN : FnOk P w K mg base CX0 1 fN fdN ["rows", "value"] (spNo K)) (mN : mg "is_name_of" = some (.ref fN)) (kN : PySem.W.keepIn K (.ref fN) = true) (bN : Binds K fdN ["rows", "value"] []) :
    FnOk P w K mg base (L2.CX P w) 2 f fd ["rows", "value"] (spCn K CU) := by
  refine F.okX scCn (fun vs H Q E h => ?_) (fun cdv A outer s H vs Q E hr h => ?_)
  · obtain ⟨t, v, rs, names, rfl, _⟩ := h
    rfl
  · obtain ⟨t, v, rs, names, rfl, ht, pr, ln, st, good, bad⟩ := h
    obtain ⟨bm, T, Bo⟩ := U.c
    refine ⟨_, pss_one (ps_if (pt_not (pt_val (pe_call GN hr (by rfl) mN kN bN .nil pass0 (pa_cons (pv 0) (pa_cons (pv 1) pa_nil))))) (pss_one (ps_raiseE rfl (.inl rfl) T Bo U.exC U.tyC hr (takes_of rfl rfl rfl rfl) (pa_cons (pv 1) pa_nil) (by rfl))) pss_nil), ?_⟩
    refine ⟨_, rfl, _, rfl, t, v, rs, names, rfl, ht, pr, ln, st, fun H1 x1 => ⟨_, rfl, ?_⟩⟩
    cases e : isOf names v with
    | true => exact ite2 (fun z => by cases z) (fun _ => good e H1 x1)
    | false =>
      refine ite2 (fun _ => ?_) (fun z => absurd rfl z)
      exact ⟨_, rfl, _, rfl, fun d nd => bad e _ d (x1.new nd) upd_same⟩
end
end LJ
set_option Elab.async false
set_option linter.all false
set_option maxRecDepth 100000
set_option maxHeartbeats 4000000
/-! Own errors whose context is told: none. Raised, also in an except suite from None. -/
namespace L2
open PySem PySem.Spec PyProof.Rows PySem.ErrV
section
variable {X : Cx} {C fI : Addr} {x f : Str} {B nw ini : String} {bmB : List Value} {a : Expr} {p pos : Pos} {ta : TA}
theorem pmk5_err (hf : f = "given" ∨ f = "index") (T : ErrC X.K X.mg x f C fI nw bmB) (Bo : BaseOk B nw ini bmB) (exC : PySem.W.subIn X.K (.ref C) (.type "BaseException") = some true) (tyC : PySem.W.typeIn X.K (.ref C) = some (.type "type"))
    (hr : X.A.depth + 3 * 1 + 5 < recursionLimit) (ha : PA X [a] ta) (hg : Gl X x) (hdb : (x == ("__debug__" : Str)) = false := by decide)
    (he : starEach (a :: []) X.env = (false, eval a X.env) :: starEach [] X.env := by rfl) (hpl : (backTo pos (starEach [] X.env)).any (·.1) = false := by rfl) :
    L2H.PMk5 X (.Call (.Name x p) [a] [] pos) (tMkE C f ta) := by
  intro pins s σ H Q I h
  refine wpAny_Call_Name_kw (ld_glob I hg T.gC ?_ hdb)
  refine PySem.W.callWith_K (h₀ := X.base) I.ok.mod.kin T.kC (thn (ha.run pos pins s σ H _ I h) fun us s1 hh => ?_) he hpl
  obtain ⟨vs, H1, I1, r1, v, ev, q1⟩ := hh
  subst ev
  refine ⟨I1.kIn, ?_⟩
  cases r1 with
  | cons rv rn =>
    rename_i u us
    cases rn
    show wpAny _ _ (call (.ref C) [u]) _ _ _
    have lim := I1.nolimit
    obtain ⟨hp, g, dr, tk, os⟩ := s1
    refine wpAny_call (err_made hf T Bo (v := u) (.inl ⟨rfl, rfl⟩) I1.kIn lim (by omega) fun h1 tk1 e d M => ?_)
    show L2N.MkP X pins σ Q (.ref e) ⟨h1, g, dr, tk1, os⟩ ∧ _
    obtain ⟨uo, hoe⟩ := M.obj
    have hns := M.ns
    obtain ⟨G1, g1, g2⟩ := restrict h1 fun b => decide (b ≠ e)
    have gk : ∀ b, b ≠ e → G1.get? b = h1.get? b := fun b hb => g1 b (decide_eq_true hb)
    have ge : G1.get? e = none := g2 e (by simp)
    have old : ∀ b o, hp.get? b = some o → G1.get? b = some o := fun b o q => (gk b (Nat.ne_of_lt (Nat.lt_of_lt_of_le (Heap.lt_size q) M.big))).trans (M.keep b o q)
    have ob : ObjOk X.prog X.w (upd H1 d (.xd [(f, v)])) G1 d (.xd [(f, v)]) :=
      ⟨_, hns.at (fun o q => (gk d M.ne).trans q), relO_put (fs := []) rv fun g => True.intro⟩
    have J : Inv X pins σ (upd H1 d (.xd [(f, v)])) ⟨G1, g, dr, tk1, os⟩ := I1.laid (t' := tk1) old M.dbig ob
    refine ⟨⟨e, _, _, ⟨G1, g, dr, tk1, os⟩, _, .ref C, some d, rfl, J, fun b o q => ?_, ge, hoe, ⟨rfl, rfl, fun vs hv => by cases hv; rfl⟩, rfl, rfl, ?_, rfl, I1.bare, raises_own exC tyC, q1 d (I1.hok.fresh M.dbig)⟩, fun a2 oe2 vs2 e1 e2 e3 => ?_⟩
    · by_cases hb : b = e
      · have q2 : G1.get? b = some o := q
        rw [hb, ge] at q2
        cases q2
      · exact (gk b hb).symm.trans q
    · rw [upd_ne (Ne.symm M.ne)]
      exact I1.hok.fresh M.big
    · cases e1
      have e2 : h1.get? e = some oe2 := e2
      rw [hoe] at e2
      cases e2
      cases e3
      show 4 < 6
      decide
theorem ps_raiseEN {W : WX} {pos2 : Pos} (hc : X.calm = true) (hf : f = "given" ∨ f = "index") (T : ErrC X.K X.mg x f C fI nw bmB) (Bo : BaseOk B nw ini bmB) (exC : PySem.W.subIn X.K (.ref C) (.type "BaseException") = some true) (tyC : PySem.W.typeIn X.K (.ref C) = some (.type "type"))
    (hr : Room 1 X.A) (tk : L2N.Takes X W) (ha : PA X [a] ta) (hg : Gl X x) (hdb : (x == ("__debug__" : Str)) = false := by decide)
    (he : starEach (a :: []) X.env = (false, eval a X.env) :: starEach [] X.env := by rfl) (hpl : (backTo pos (starEach [] X.env)).any (·.1) = false := by rfl) :
    PS X (.Raise (some (.Call (.Name x p) [a] [] pos)) none pos2) (fun _ σ H => tMkE C f ta σ H fun cls d H1 => W cls d σ H1) := L2N.ps_raise hc tk (pmk5_err hf T Bo exC tyC (by have := hr.dp; omega) ha hg hdb he hpl).pmk
end
theorem Fun.okC {CX : CXT} {P : Program} {w : World} {K : PySem.W.Frag} {mg : Str → Option Value} {base : Heap} {x qual : Str} {st : Stmt} {f : Addr} {fd : FuncData} {N ps : List Str} {k : Nat} {sp : Sp} (F : Fun K x qual st f fd) (S : FnScope N ps (defScope st)) (len : ∀ vs H Q E, sp vs H Q E → vs.length = ps.length)
    (hb : ∀ (cdv : Value) (A : Around) (outer : List Env) (s : Shared) (H : Hp) (vs : List V) (Q : VK) (E : XK), Room k (A.deeper (envOfC qual (defScope st) s.heap.objs.size f cdv)) → sp vs H Q E →
      ∃ t, PSs (cxOf CX P w K mg base N qual (defScope st) f cdv A outer s H E) (defBody st) t ∧ t { nx := fun _ H' => Q V.non H', rt := Q } (L2.start N vs) H) : FnOk P w K mg base CX (k + 1) f fd ps sp := by
  obtain ⟨oc, od, kV, doc, pm, an, cdv, ct, osl, rfl, lk, hcd⟩ := F.ex
  exact fn_of lk hcd S len fun A outer s H vs Q E hr h => hb cdv A outer s H vs Q E hr h
section
variable {X : Cx} {CX : CXT} {k : Nat} {f C : Addr} {fd : FuncData} {ps : List Str} {sp : Sp} {E : St → XK} {x : Str} {p pos : Pos} {e : PySem.Expr} {es : List PySem.Expr} {t : TA}
/-- C(..) whose error is passed on with what the slots hold -/
def tMakeS (C : Addr) (sp : Sp) (E : St → XK) (t : TA) : TE := fun σ H Q => t σ H fun vs H1 => ∀ (x dx : Addr), H1 x = none → H1 dx = none → dx ≠ x → sp (V.ref x :: vs) (upd (upd H1 dx (.own x)) x (.ins C dx [])) (fun v H2 => v = V.non ∧ Q (V.ref x) H2) (E σ)
theorem run_makeS {pins : List (Addr × Obj)} {σ : St} {H : Hp} {s : Shared} {Q : VK} {us : List Value} {vs : List V} {E : XK} (M : Mk X.K C f) (F : FnOk X.prog X.w X.K X.mg X.base CX k f fd ps sp) (hr : Room (k + 1) X.A) (hb : Binds X.K fd ps []) (hx : PassesAt CX X σ E) (I : Inv X pins σ H s) (r : Vals vs us)
    (h : ∀ (x dx : Addr), H x = none → H dx = none → dx ≠ x → sp (V.ref x :: vs) (upd (upd H dx (.own x)) x (.ins C dx [])) (fun v H2 => v = V.non ∧ Q (V.ref x) H2) E) : wpAny (model X.prog X.w) X.A (call (.ref C) us) (EP X pins σ Q) X.xe s := by
  have hq := h (s.heap.objs.size + 1) s.heap.objs.size (HOk.fresh I.hok (Nat.le_succ _)) (HOk.fresh I.hok (Nat.le_refl _)) (Nat.ne_of_lt (Nat.lt_succ_self _))
  have I2 := Inv.made (C := C) I
  have r2 : Vals (V.ref (s.heap.objs.size + 1) :: vs) (Value.ref (s.heap.objs.size + 1) :: us) := .cons rfl r
  have hl : (Value.ref (s.heap.objs.size + 1) :: us).length = ps.length := by
    rw [← F.len _ _ _ _ hq]
    exact (Vals.length r2).symm
  have hb2 := hb { s with heap := (s.heap.push PySem.W.emptyDict).push (PySem.W.instObj C s.heap.objs.size) } (Value.ref (s.heap.objs.size + 1) :: us) I2.kIn (by rw [List.append_nil]; exact hl)
  rw [List.append_nil] at hb2
  refine wpAny_call (make_map I.kIn M.makes M.init (beq_iff_eq.mp M.fn) (codeAny_mono (F.run (X.A.under (.builtin "type.__call__" { pos := .ref C :: us })) X.stack _ _ { pos := .ref (s.heap.objs.size + 1) :: us } (.ref (s.heap.objs.size + 1) :: us) (.ref (s.heap.objs.size + 1) :: vs) _ E (Room.make hr C us []) (Env0.make I2.env0 C us []) hb2 r2 hq) fun r s' hq' => ?_))
  cases r with
  | error e => exact hx pins _ _ e s' I2 hq'
  | ok fl =>
    cases fl with
    | ret u =>
      obtain ⟨v, H', I3, rv, ev, q3⟩ := I2.after hq'
      subst ev
      have eu : u = .none := rv
      subst eu
      exact ⟨rfl, .ref _, H', I3, rfl, q3⟩
    | next => exact False.elim hq'
    | brk => exact False.elim hq'
    | cont => exact False.elim hq'
theorem pe_makeS (M : Mk X.K C f) (F : FnOk X.prog X.w X.K X.mg X.base CX k f fd ps sp) (hr : Room (k + 1) X.A) (hg : Gl X x) (hm : X.mg x = some (.ref C)) (hb : Binds X.K fd ps []) (hx : ∀ σ, PassesAt CX X σ (E σ)) (ha : PA X (e :: es) t) (hdb : (x == ("__debug__" : Str)) = false := by decide)
    (he : starEach (e :: es) X.env = (false, eval e X.env) :: starEach es X.env := by rfl) (hpl : (backTo pos (starEach es X.env)).any (·.1) = false := by rfl) : PE X (.Call (.Name x p) (e :: es) [] pos) (tMakeS C sp E t) :=
  ⟨fun pins s σ H Q I h => wpAny_Call_Name_kw (ld_glob I hg hm (PySem.W.callWith_K I.ok.mod.kin M.kp (thn (ha.run pos pins s σ H _ I h) fun us s1 z => by
    obtain ⟨vs, H1, I1, r, q⟩ := z
    exact ⟨I1.kIn, run_makeS M F hr hb (hx σ) I1 r q⟩) he hpl) hdb)⟩
/-- an error is passed on with what the slots hold -/
theorem passesAtN {W : WX} {E : St → XK} (tk : L2N.Takes X W) (i : ∀ σ cls d H, E σ cls d H → W cls d σ H) : ∀ σ, PassesAt (L2N.CX X.prog X.w) X σ (E σ) := fun σ pins H s e s' I h => by
  exact tk e s' (L2N.XE.of_call I (fun cls d H' hh => i σ cls d H' hh) h)
end
end L2
set_option Elab.async false
set_option linter.all false
namespace LJ
open PySem L2
/-! Steps of a reading, each by its own name. -/
theorem rd_seqU {a b : TS} {D : Ends} {σ : L2.St} {H : Hp} (h : a { D with nx := b D } σ H) : tSeq a b D σ H := h
theorem rd_asgU {te : TE} {g : TG} {D : Ends} {σ : L2.St} {H : Hp} (h : te σ H fun v H1 => g v σ H1 D.nx) : tAsg te g D σ H := h
theorem rd_nameU {i : Nat} {v : V} {σ : L2.St} {H : Hp} {Q : L2.St → Hp → Prop} (h : Q (σ.set i (some v)) H) : gName i v σ H Q := h
theorem rd_nextU {D : Ends} {σ : L2.St} {H : Hp} (h : D.nx σ H) : tNext D σ H := h
theorem rd_cbU {r : List V → Hp → VK → Prop} {t : TA} {σ : L2.St} {H : Hp} {Q : VK} (h : t σ H fun vs H1 => r vs H1 Q) : tCB r t σ H Q := h
theorem rd_consU {te : TE} {t : TA} {σ : L2.St} {H : Hp} {Q : List V → Hp → Prop} (h : te σ H fun v H1 => t σ H1 fun vs H2 => Q (v :: vs) H2) : tCons te t σ H Q := h
theorem rd_ifU {c : TT} {t u : TS} {D : Ends} {σ : L2.St} {H : Hp} (h : c σ H fun b H1 => if b = true then t D σ H1 else u D σ H1) : tIfS c t u D σ H := h
theorem rd_testU {t : TE} {σ : L2.St} {H : Hp} {Q : Bool → Hp → Prop} (h : t σ H fun x H1 => ∃ k, x = .bl k ∧ Q k H1) : tTest t σ H Q := h
theorem rd_opU {r : R2} {ta tb : TE} {σ : L2.St} {H : Hp} {Q : VK} (h : ta σ H fun x H1 => tb σ H1 fun y H2 => r x y H2 Q) : tOp r ta tb σ H Q := h
end LJ
set_option Elab.async false
set_option linter.all false
set_option maxRecDepth 100000
set_option maxHeartbeats 4000000
/-! {k: v for ..} whose keys are tuples. -/
namespace L2
open PySem PySem.Spec PyProof.Rows
def tDcT (wi : TI) (g : TG) (tt : TT) (tk tv : TE) (vs : List Nat) : TE := fun σ H Q => wi σ H fun J H1 => ∀ D, H1 D = none → ∃ W : Nat → Nat → Hp → Prop, (∃ m, W 0 m (upd H1 D (.dT []))) ∧
  ∀ i m H, W i m H → (J.stop i H ∧ Q (.ref D) H) ∨ (J.go i H ∧ ∃ Nx : Hp → Prop, (∀ H', Nx H' → ∃ m', m' < m ∧ W (i + 1) m' H') ∧ ∀ x H', J.yld i H x H' → g x (wipe σ vs) H' fun σ2 H2 => wipe σ2 vs = wipe σ vs ∧ tt σ2 H2 fun b H3 =>
    if b = true then tk σ2 H3 fun y H4 => tv σ2 H4 fun z H5 => ∃ kvs k b, y = .ref b ∧ H5 b = some (.tup (k.map kV)) ∧ H5 D = some (.dT kvs) ∧ kvs.length < sizeLine ∧ Nx (upd H5 D (.dT (putK kvs k z))) else Nx H3)
theorem d_dictSetT {X : Cx} {pins : List (Addr × Obj)} {σ : St} {H : Hp} {s : Shared} {A : Around} {E : Value → Shared → Prop} {D b : Addr} {kvs : List (List Key × V)} {k : List Key} {v : V} {u r : Value} {Q : Unit → Shared → Prop} (hu : A.units < cLine) (I : Inv X pins σ H s) (hD : H D = some (.dT kvs)) (hz : kvs.length < sizeLine) (eb : H b = some (.tup (k.map kV)))
    (ry : RelV (.ref b) u) (rv : RelV v r) (h : ∀ s', Inv X pins σ (upd H D (.dT (putK kvs k v))) s' → Q () s') : wpAny (model X.prog X.w) A (dictSet D u r) Q E s := by
  obtain rfl : u = Value.ref b := ry
  obtain ⟨z, hd, xs, rel, dd⟩ := dt_of I.hok hD
  have hz2 : xs.length ≤ sizeLine := by
    rw [← Paired.length rel]
    exact z
  have hl : (putK kvs k v).length ≤ sizeLine := by
    have := length_putK kvs k v
    omega
  refine wpAny_dictSet_heap (knd := tupleKind (mixKind X.prog X.w)) ?_ (key_of I.hok eb) dd (fun h' dd' hs => h _ ?_) hz2
  · exact hu
  · obtain ⟨q, es, ep, hq, h2, h3, h4, _, h5⟩ := dd'
    refine d_write I (by rw [hD]; exact True.intro) hs ⟨q, hq⟩ ⟨hl, hd, storedH xs k b r, KT.keeps (KT.put rel k eb rv) fun c ys ec => ?_, q, es, ep, hq, h2, h3, h4, h5⟩
    rw [upd_ne (ne_of ec hD fun z => nomatch z)]
    exact ec
theorem dct_core {X : Cx} {pins : List (Addr × Obj)} {s : Shared} {σ : St} {H : Hp} {Q : VK} {kx vx tg iter : PySem.Expr} {ifs : List PySem.Expr} {scope : PySem.Scope} {own : List (Str × Nat)} {pos pos' : Pos} {wi : TI} {g : TG} {tt : TT} {tk tv : TE} {use : Option (Value → Sem Unit)} {Qf : Value → Shared → Prop}
    (hu : X.A.units < cLine) (hc : X.calm = true) (hN : X.N.Nodup) (I : Inv X pins σ H s) (hi : PI X tg iter wi) (ok : BlkOk X.N X.env.scope scope own)
    (hg : ∀ (s : Shared) (H : Hp) (C : Addr) (cl : List (Str × Addr)) (fp : List Addr), PG (X.blk s H scope (compEnvC scope cl C X.env) fp) tg g) (ht : ∀ (s : Shared) (H : Hp) (C : Addr) (cl : List (Str × Addr)) (fp : List Addr), PTs (X.blk s H scope (compEnvC scope cl C X.env) fp) ifs tt)
    (hk : ∀ (s : Shared) (H : Hp) (C : Addr) (cl : List (Str × Addr)) (fp : List Addr), PE (X.blk s H scope (compEnvC scope cl C X.env) fp) kx tk) (he : ∀ (s : Shared) (H : Hp) (C : Addr) (cl : List (Str × Addr)) (fp : List Addr), PE (X.blk s H scope (compEnvC scope cl C X.env) fp) vx tv)
    (hs : ∀ (x : Value), foldedSetIterable iter X.env x = pure x) (h : tDcT wi g tt tk tv (own.map (·.2)) σ H Q)
    (hRR : ∀ (D C : Addr) (s' : Shared) (m : Str → Option Value) (H' : Hp), Inv X pins σ H' s' → Q (.ref D) H' → s'.heap.Ns C m → FpOk X pins H' C → compPost (model X.prog X.w) X.A X.xe use Qf (.ref D) C (.ok .next) s') :
    wpAny (model X.prog X.w) X.A (comprehension (kx.DictComp vx [{ target := tg, iter := iter, ifs := ifs, is_async := 0 }] scope pos) scope X.env pos' newDict false (eval iter X.env) use) Qf X.xe s := by
  have hfree : ∀ (y : Str × NameKind), y ∈ scope.names → y.2 = NameKind.free → ∃ c, List.lookup y.1 X.env.cells = some c := fun y hy e => by
    rcases ok.free y hy e with k | k
    · exact I.ok.has y.1 (.inl k)
    · exact I.ok.has y.1 (.inr k)
  refine wpAny_comprehension_free rfl hs (closure_ok hfree) ok.kind (fun y hy e => by rw [ok.uniq y hy, e]) ?_
  refine thn (hi.run pins s σ H _ I h) fun xv s1 hx => thn hx fun itv s2 h2 => ?_
  obtain ⟨it, fp, tn, J, H2, rfl, I2, T, st2, f2, q⟩ := h2
  refine wpAny_newObj_type (newEnv_comp ?_)
  have hDn := HOk.fresh I2.hok (Nat.le_refl s2.heap.objs.size)
  obtain ⟨W, ⟨m0, w0⟩, turn⟩ := q s2.heap.objs.size hDn
  generalize hD0 : s2.heap.objs.size = D0 at hDn w0 turn ⊢
  have I3 : Inv X pins σ (upd H2 D0 (.dT [])) { s2 with heap := s2.heap.push { cls := .type "dict", data := .dict #[] } } := by
    rw [← hD0]
    exact Inv.laid I2 (fun b o e => Heap.get?_push_of_some _ e) (Nat.le_refl _) (dt_empty s2.heap (Inv.big I2))
  have sz : ∀ b ∈ fp, b < s2.heap.objs.size := fun b hb => by
    obtain ⟨o, e, _⟩ := T.obj 0 s2.heap st2 b hb
    exact Heap.lt_size e
  have f3 : ∀ b, b ∈ fp → FpOk X pins (upd H2 D0 (.dT [])) b ∧ b < (s2.heap.push { cls := .type "dict", data := .dict #[] }).objs.size := fun b hb => by
    have hlt := sz b hb
    refine ⟨⟨?_, (f2 b hb).2⟩, ?_⟩
    · rw [upd_ne (by rw [← hD0]; exact Nat.ne_of_lt hlt)]
      exact (f2 b hb).1
    · rw [Heap.size_push]
      exact Nat.lt_succ_of_lt hlt
  have st3 := T.keep 0 s2.heap (s2.heap.push { cls := .type "dict", data := .dict #[] }) st2 fun b x o e => Heap.get?_push_of_some _ e
  have I4 := block_start I3 ok hN f3
  generalize hS3 : ({ s2 with heap := s2.heap.push { cls := .type "dict", data := .dict #[] } } : Shared) = S3 at I3 I4 ⊢
  rw [show (s2.heap.push { cls := .type "dict", data := .dict #[] }) = S3.heap from by rw [← hS3]] at f3 st3
  generalize hCL : cellsFrom (S3.heap.objs.size + 1) scope.names (cloFrom X.env.cells scope.names []) = CL at I4 ⊢
  have pg := hg S3 (upd H2 D0 (.dT [])) S3.heap.objs.size CL fp
  have pt := ht S3 (upd H2 D0 (.dT [])) S3.heap.objs.size CL fp
  have pk := hk S3 (upd H2 D0 (.dT [])) S3.heap.objs.size CL fp
  have pe := he S3 (upd H2 D0 (.dT [])) S3.heap.objs.size CL fp
  have nfp : ∀ b ∈ fp, upd H2 D0 (.dT []) b = none := fun b hb => (f3 b hb).1.1
  generalize hCE : compEnvC scope CL S3.heap.objs.size X.env = CE at I4 pg pt pk pe
  have cL : CE.locals = S3.heap.objs.size := by
    rw [← hCE]
    rfl
  have st4 := T.keep 0 S3.heap (pushCells (S3.heap.push { cls := .type "dict", data := .dict #[] }) scope.names) st3 fun b x o e => pushCells_keeps scope.names (S3.heap.push { cls := .type "dict", data := .dict #[] }) b o (Heap.get?_push_of_some _ e)
  have stat : ∀ {σ' : St} {H' : Hp} {s' : Shared}, Inv (X.blk S3 (upd H2 D0 (.dT [])) scope CE fp) [] σ' H' s' → (∀ b ∈ fp, H' b = none) → ∀ b ∈ fp, FpOk (X.blk S3 (upd H2 D0 (.dT [])) scope CE fp) [] H' b := fun I' hn b hb =>
    ⟨hn b hb, (I'.ok.exf b hb).1, I'.ok.exfs b hb, .inl hb, fun x c e => (I'.ok.exf b hb).2 x c e, fun p hp => absurd (show p ∈ ([] : List (Addr × Obj)) ++ [] from hp) (by simp)⟩
  have loop := compLoop_anyD (prog := X.prog) (w := X.w) (A := X.A) (R := compPost (model X.prog X.w) X.A X.xe use Qf (.ref D0) S3.heap.objs.size) (kx := kx) (vx := vx) (target := tg) (iter := iter) (ifs := ifs) (scope := scope) (pos := pos) (it := .ref it) (D := D0) (env := CE)
    (fun n s' => ∃ i H', Inv (X.blk S3 (upd H2 D0 (.dT [])) scope CE fp) [] (wipe σ (own.map (·.2))) H' s' ∧ tn i s'.heap ∧ (∀ b ∈ fp, H' b = none) ∧ W i n H') (fun n s5 a => ?_) m0 ⟨0, _, I4, st4, nfp, w0⟩
  · subst hCE
    exact codeAny_compStart_dict loop (T.self X.A 0 _ _ _ st4 loop)
  · obtain ⟨i, H5, I5, st5, n5, w5⟩ := a
    rcases turn i n H5 w5 with ⟨stop, qq⟩ | ⟨go, Nx, hNx, step⟩
    · have td := T.done (X.blk S3 (upd H2 D0 (.dT [])) scope CE fp) rfl rfl rfl hc i [] s5 (wipe σ (own.map (·.2))) H5 (fun _ _ => False) I5 (stat I5 n5) st5 stop
      refine thnF td fun r s6 x => ?_
      obtain ⟨rfl, I6⟩ := x
      have I7 := Inv.call' I3 I6.os I6.base I6.hok I6.bare fun b hb => ⟨(f3 b hb).1.2.2.2.1, (f3 b hb).1.2.1, (f3 b hb).1.2.2.2.2.1, (f3 b hb).1.2.2.2.2.2⟩
      have nC : H5 S3.heap.objs.size = none := by
        have z := I6.free
        rw [← cL]
        exact z
      obtain ⟨m, hn, _⟩ := I6.loc
      have hn : s6.heap.Ns CE.locals m := hn
      rw [cL] at hn
      exact hRR D0 S3.heap.objs.size s6 m H5 I7 qq hn (Inv.fpOk I3 (Nat.le_refl _) nC)
    · have ti := T.item (X.blk S3 (upd H2 D0 (.dT [])) scope CE fp) rfl rfl rfl hc i [] s5 (wipe σ (own.map (·.2))) H5 (fun _ _ => False) I5 (stat I5 n5) st5 go
      refine thnF ti fun r s6 x => ?_
      obtain ⟨u, rfl, h6⟩ := x
      refine thnF h6 fun _ s7 x1 => ?_
      obtain ⟨x, H7, I7, r7, y7, st7, n7⟩ := x1
      have I7' := Inv.pinned I7 (stat I7 n7) (T.obj (i + 1) s7.heap st7)
      refine thnF (pg.run ([] ++ pinsAt fp s7.heap) s7 (wipe σ (own.map (·.2))) H7 x u _ I7' r7 (step x H7 y7)) fun _ s8 x2 => ?_
      obtain ⟨σ8, H8, I8, hw8, q8⟩ := x2
      refine thnF (pt.run ([] ++ pinsAt fp s7.heap) s8 σ8 H8 _ I8 q8) fun b s9 x => ?_
      obtain ⟨H9, I9, q9⟩ := x
      have fin : ∀ {s' : Shared} {H' : Hp}, Inv (X.blk S3 (upd H2 D0 (.dT [])) scope CE fp) ([] ++ pinsAt fp s7.heap) σ8 H' s' → Nx H' → ∃ m, m < n ∧ ∃ i H', Inv (X.blk S3 (upd H2 D0 (.dT [])) scope CE fp) [] (wipe σ (own.map (·.2))) H' s' ∧ tn i s'.heap ∧ (∀ b ∈ fp, H' b = none) ∧ W i m H' := fun {s' H'} I' nx => by
        obtain ⟨m', hm, w'⟩ := hNx H' nx
        have pin' : ∀ b ∈ fp, ∀ o, s7.heap.get? b = some o → s'.heap.get? b = some o ∧ H' b = none := fun b hb o e => by
          have z := I'.pin (b, o) (List.mem_append_right _ (List.mem_append_right [] (mem_pinsAt hb e)))
          exact ⟨z.1, z.2.1⟩
        have hl : (wipe σ (own.map (·.2))).length = σ8.length := by rw [← hw8, wipe_length]
        exact ⟨m', hm, i + 1, H', Inv.weak (Inv.unpinned I') hl (fun j v e => (wipe_some (by rw [hw8]; exact e)).1), T.keep (i + 1) s7.heap s'.heap st7 (fun b hb o e => (pin' b hb o e).1), (fun b hb => by
          obtain ⟨o, e, _⟩ := T.obj (i + 1) s7.heap st7 b hb
          exact (pin' b hb o e).2), w'⟩
      cases b with
      | false => exact fin I9 q9
      | true =>
        refine thnF (pk.run ([] ++ pinsAt fp s7.heap) s9 σ8 H9 _ I9 q9) fun z s10 x => ?_
        obtain ⟨yk, H10, I10, r10, q10⟩ := x
        refine thnF (pe.run ([] ++ pinsAt fp s7.heap) s10 σ8 H10 _ I10 q10) fun z2 s11 x => ?_
        obtain ⟨yv, H11, I11, r11, kvs, k, b, rfl, eb, hD11, hz11, nx⟩ := x
        exact d_dictSetT (X := X.blk S3 (upd H2 D0 (.dT [])) scope CE fp) hu I11 hD11 hz11 eb r10 r11 fun s12 I12 => fin I12 nx
theorem pe_dcT {X : Cx} {kx vx tg iter : PySem.Expr} {ifs : List PySem.Expr} {scope : PySem.Scope} {own : List (Str × Nat)} {pos : Pos} {wi : TI} {g : TG} {tt : TT} {tk tv : TE} (hu : X.A.units < cLine) (hc : X.calm = true) (hN : X.N.Nodup) (hi : PI X tg iter wi) (ok : BlkOk X.N X.env.scope scope own)
    (hg : ∀ (s : Shared) (H : Hp) (C : Addr) (cl : List (Str × Addr)) (fp : List Addr), PG (X.blk s H scope (compEnvC scope cl C X.env) fp) tg g) (ht : ∀ (s : Shared) (H : Hp) (C : Addr) (cl : List (Str × Addr)) (fp : List Addr), PTs (X.blk s H scope (compEnvC scope cl C X.env) fp) ifs tt)
    (hk : ∀ (s : Shared) (H : Hp) (C : Addr) (cl : List (Str × Addr)) (fp : List Addr), PE (X.blk s H scope (compEnvC scope cl C X.env) fp) kx tk) (he : ∀ (s : Shared) (H : Hp) (C : Addr) (cl : List (Str × Addr)) (fp : List Addr), PE (X.blk s H scope (compEnvC scope cl C X.env) fp) vx tv)
    (hs : ∀ (x : Value), foldedSetIterable iter X.env x = pure x := by intro x; rfl) : PE X (kx.DictComp vx [{ target := tg, iter := iter, ifs := ifs, is_async := 0 }] scope pos) (tDcT wi g tt tk tv (own.map (·.2))) := by
  constructor
  intro pins s σ H Q I h
  rw [arm_eval_DictComp]
  refine dct_core hu hc hN I hi ok hg ht hk he hs h fun D C s' m H' I' q hn f => ⟨m, hn, fun h'' sb => ?_⟩
  obtain ⟨f0, f1, f2, f3, f4, f5⟩ := f
  exact ⟨.ref D, H', Inv.turned I' (fun b o hb e => (sb.2 b hb).trans e) f0 f1 f3 f4 f5, rfl, q⟩
theorem dcT_it {J : It} {n : Nat} {G : Hp → Prop} {Y : Nat → Hp → V → Hp → Prop} (w : Walk J n G Y) {g : TG} {tt : TT} {tk tv : TE} {vs : List Nat} {σ : St} {H1 : Hp} {D : Addr} {Qd : Hp → Prop} (Pv : Nat → Hp → Prop) (h0 : Pv 0 (upd H1 D (.dT []))) (hl : ∀ i H, i ≤ n → Pv i H → G H)
    (hs : ∀ (i : Nat) (x : V) (H H' : Hp), i < n → Pv i H → Y i H x H' → g x (wipe σ vs) H' fun σ2 H2 => wipe σ2 vs = wipe σ vs ∧ tt σ2 H2 fun b H3 =>
      if b = true then tk σ2 H3 fun y H4 => tv σ2 H4 fun z H5 => ∃ kvs k b, y = .ref b ∧ H5 b = some (.tup (k.map kV)) ∧ H5 D = some (.dT kvs) ∧ kvs.length < sizeLine ∧ Pv (i + 1) (upd H5 D (.dT (putK kvs k z))) else Pv (i + 1) H3)
    (hd : ∀ H, Pv n H → Qd H) : ∃ W : Nat → Nat → Hp → Prop, (∃ m, W 0 m (upd H1 D (.dT []))) ∧
      ∀ i m H, W i m H → (J.stop i H ∧ Qd H) ∨ (J.go i H ∧ ∃ Nx : Hp → Prop, (∀ H', Nx H' → ∃ m', m' < m ∧ W (i + 1) m' H') ∧ ∀ x H', J.yld i H x H' → g x (wipe σ vs) H' fun σ2 H2 => wipe σ2 vs = wipe σ vs ∧ tt σ2 H2 fun b H3 =>
        if b = true then tk σ2 H3 fun y H4 => tv σ2 H4 fun z H5 => ∃ kvs k b, y = .ref b ∧ H5 b = some (.tup (k.map kV)) ∧ H5 D = some (.dT kvs) ∧ kvs.length < sizeLine ∧ Nx (upd H5 D (.dT (putK kvs k z))) else Nx H3) := by
  refine ⟨fun i m H => m = n - i ∧ i ≤ n ∧ Pv i H, ⟨n, rfl, Nat.zero_le _, h0⟩, fun i m H a => ?_⟩
  obtain ⟨rfl, hi, p⟩ := a
  have q := hl i H hi p
  by_cases hlt : i < n
  · exact .inr ⟨w.goes i H hlt q, Pv (i + 1), fun H' p' => ⟨n - (i + 1), by omega, rfl, hlt, p'⟩, fun x H' y => hs i x H H' hlt p (w.yields i H x H' hlt q y)⟩
  · obtain rfl : i = n := by omega
    exact .inl ⟨w.stops H q, hd H p⟩
end L2
set_option Elab.async false
set_option linter.all false
set_option maxRecDepth 100000
set_option maxHeartbeats 4000000
/-! a == b of dicts whose keys are tuples. -/
namespace L2
open PySem PySem.Spec PyProof.Rows
/-- entry for entry: what is found of the other dict -/
inductive TeqHits {prog : Program} {w : World} {K : Type} [DecidableEq K] (knd : HeapKind prog w K) (A : Around) (s : Shared) (ys : List (K × Addr × Value)) : List (K × Addr × Value) → Bool → Prop
  | nil : TeqHits knd A s ys [] true
  | miss {k : K} {a : Addr} {v : Value} {r : List (K × Addr × Value)} (no : ∀ (j : Nat) (p : Addr × Value), ys[j]? ≠ some (k, p)) : TeqHits knd A s ys ((k, a, v) :: r) false
  | hit {k : K} {a b : Addr} {v y : Value} {r : List (K × Addr × Value)} {e c : Bool} (at_ : ∃ j : Nat, ys[j]? = some (k, b, y)) (eq : SeqAt.EqAt A s v y e) (rest : TeqHits knd A s ys r c) : TeqHits knd A s ys ((k, a, v) :: r) (e && c)
section
variable {prog : Program} {w : World} {K : Type} [DecidableEq K] {knd : HeapKind prog w K} {A : Around} {E : Value → Shared → Prop} {s : Shared} {nm : String} {a b : Addr} {xs ys : List (K × Addr × Value)} {r : Bool}
theorem nodup_at {ys : List (K × Addr × Value)} (nd : (ys.map (·.1)).Nodup) {i j : Nat} {k : K} {p q : Addr × Value} (h1 : ys[i]? = some (k, p)) (h2 : ys[j]? = some (k, q)) : i = j := by
  have e1 : (ys.map (·.1))[i]? = some k := by rw [List.getElem?_map, h1]; rfl
  have e2 : (ys.map (·.1))[j]? = some k := by rw [List.getElem?_map, h2]; rfl
  exact (List.getElem?_inj (List.getElem?_eq_some_iff.mp e1).1 nd).mp (e1.trans e2.symm)
theorem teq_pairs {Q : Bool → Shared → Prop} (ha : (a == sysModules) = false) (hb : (b == sysModules) = false) (da : s.heap.DictOfH knd a xs) (db : s.heap.DictOfH knd b ys) (room : knd.room A) (hits : xs.length = ys.length → TeqHits knd A s ys xs r) (h : Q (xs.length == ys.length && r) s) :
    wpAny (model prog w) A (Builtin.Dict.samePairs nm a b) Q E s := by
  obtain ⟨oa, es, ep, hoa, _, hda, hea, hka, hna⟩ := da
  obtain ⟨ob, es', ep', hob, _, hdb, heb, hkb, hnb⟩ := db
  have hla : es.size = xs.length := by rw [← Array.length_toList, hea, List.length_map]
  have hlb : es'.size = ys.length := by rw [← Array.length_toList, heb, List.length_map]
  unfold Builtin.Dict.samePairs Builtin.Dict.showsAll
  rw [if_neg (by rw [ha]; exact Bool.false_ne_true), if_neg (by rw [hb]; exact Bool.false_ne_true)]
  refine wpAny_bind (wpAny_pure (wpAny_bind (wpAny_pure (wpAny_bind (wpAny_dictEntries hoa hda ?_)))))
  refine wpAny_bind (wpAny_dictEntries hob hdb ?_)
  by_cases hlen : xs.length = ys.length
  case neg =>
    rw [beq_eq_false_iff_ne.mpr hlen, Bool.false_and] at h
    rw [if_pos (by rw [hla, hlb]; exact bne_iff_ne.mpr hlen)]
    exact wpAny_bind (wpAny_rule (wpAny_pure h))
  have hits := hits hlen
  rw [hlen, BEq.rfl, Bool.true_and] at h
  rw [if_neg (by rw [hla, hlb, hlen]; simp)]
  refine wpAny_bind (wpAny_dictEpoch hoa hda ?_)
  refine wpAny_bind ?_
  rw [Std.Legacy.Range.forIn_eq_forIn_range']
  show wpAny _ _ (forIn (List.range' 0 ((es.size - 0 + 1 - 1) / 1) 1) _ _) _ _ _
  rw [show (es.size - 0 + 1 - 1) / 1 = es.size from by omega]
  suffices loop : ∀ (m i : Nat) (r : Bool), i + m = es.size → TeqHits knd A s ys (xs.drop i) r → ∀ {Q' : Option Bool × Unit → Shared → Prop}, (r = true → Q' (none, ()) s) → (r = false → Q' (some false, ()) s) → wpAny (model prog w) A (forIn (List.range' i m 1) ((none, ()) : Option Bool × Unit) fun i __s => do
            let __do_lift ← dictEntries a
            match __do_lift[i]? with
              | some e => do
                let same ←
                  holding [e.key, e.val] do
                      let __x ← dictFind b e.key e.hash
                      match __x with
                        | some j => do
                          let __do_lift ← dictEntries b
                          match __do_lift[j]? with
                            | some f => holding [f.val] (eqBool e.val f.val)
                            | x => unsupported "internal:dict-equal"
                        | x => pure false
                if (!same) = true then pure (ForInStep.done (some false, ()))
                  else do
                    let __do_lift ← dictEpoch a
                    if (__do_lift != ep) = true then do
                        unsupported (toString nm ++ toString ":changed-during-callback")
                        pure (ForInStep.yield (none, ()))
                      else pure (ForInStep.yield (none, ()))
              | x => do
                unsupported "internal:dict-equal"
                pure (ForInStep.yield (none, ()))) Q' E s by
    refine loop es.size 0 r (by omega) (by rw [List.drop_zero]; exact hits) (fun e => ?_) (fun e => ?_)
    · subst e
      exact wpAny_pure h
    · subst e
      exact wpAny_pure h
  intro m
  induction m with
  | zero =>
    intro i r hi ht Q' q1 q2
    rw [List.drop_eq_nil_of_le (by omega)] at ht
    cases ht
    exact wpAny_pure (q1 rfl)
  | succ m ih =>
    intro i r hi ht Q' q1 q2
    have li : i < xs.length := by omega
    rw [List.range'_succ, List.forIn_cons]
    refine wpAny_bind (wpAny_bind (wpAny_dictEntries hoa hda ?_))
    have ei : es[i]? = some (entryOfKey knd xs[i]) := by
      rw [← Array.getElem?_toList, hea, List.getElem?_map, List.getElem?_eq_getElem li]
      rfl
    rw [ei]
    rw [List.drop_eq_getElem_cons li] at ht
    have mem : xs[i] ∈ xs := List.getElem_mem li
    have isx := hka _ mem
    generalize hx : xs[i] = x at ht isx ⊢
    obtain ⟨k, a1, v⟩ := x
    refine wpAny_bind (wpAny_holding (wpAny_bind ?_))
    show wpAny _ _ (dictFind b (.ref a1) (knd.hash k)) _ _ _
    cases ht with
    | miss no =>
      refine wpAny_dictFind_heap room isx hob hdb heb hkb hnb (fun _ => wpAny_pure ?_) (fun j p e => absurd e (no j p))
      exact wpAny_pure (wpAny_pure (q2 rfl))
    | @hit _ _ b1 _ y _ e c at_ eq rest =>
      obtain ⟨j0, hj0⟩ := at_
      refine wpAny_dictFind_heap room isx hob hdb heb hkb hnb (fun no => absurd hj0 (no j0 _)) (fun j p ej => ?_)
      obtain rfl := nodup_at hnb hj0 ej
      rw [hj0] at ej
      cases ej
      refine wpAny_bind (wpAny_dictEntries hob hdb ?_)
      have ej : es'[j0]? = some (entryOfKey knd (k, b1, y)) := by
        rw [← Array.getElem?_toList, heb, List.getElem?_map, hj0]
        rfl
      rw [ej]
      refine wpAny_holding (eq _ _ _ _ ?_)
      cases e with
      | false => exact wpAny_pure (wpAny_pure (q2 rfl))
      | true =>
        refine wpAny_bind (wpAny_dictEpoch hoa hda ?_)
        rw [if_neg (by simp)]
        refine wpAny_pure ?_
        exact ih (i + 1) c (by omega) rest (fun e => q1 (by rw [e]; rfl)) (fun e => q2 (by rw [e]; rfl))
theorem teq_eq {Q : Value → Shared → Prop} (ha : (a == sysModules) = false) (hb : (b == sysModules) = false) (da : s.heap.DictOfH knd a xs) (db : s.heap.DictOfH knd b ys) (hu : A.units < cLine) (room : knd.room A.in1) (hits : xs.length = ys.length → TeqHits knd A.in1 s ys xs r) (h : Q (.bool (xs.length == ys.length && r)) s) :
    wpAny (model prog w) A (compareOp CmpOp.Eq (.ref a) (.ref b)) Q E s := by
  have ta := Heap.DictOfH.typeIs da
  have tb := Heap.DictOfH.typeIs db
  unfold compareOp
  refine wpAny_richCompare_same_room (op := CmpOp.Eq) (T := "dict") ta tb F.slot_dict_eq ?_ hu
  refine wpAny_call_entry F.slot_dict_eq ta F.entry_dict_eq ?_ (F.args_dict_eq_2 (.ref a) (.ref b))
  show wpAny _ _ (do
      let __x ← Builtin.Dict.dictSlotArgs "__eq__" { pos := [Value.ref a, Value.ref b] }
      match __x with
        | (self, other) => do
          let __do_lift ← isInstance other (Value.type "dict")
          if (!__do_lift) = true then do
              rule (toString "dict." ++ toString "__eq__" ++ toString ".not-a-dict")
              ret Value.notImplemented
            else do
              let __do_lift ← Builtin.Dict.addrOf self
              let __do_lift_1 ← Builtin.Dict.addrOf other
              let __do_lift ← Builtin.Dict.samePairs (toString "dict." ++ toString "__eq__") __do_lift __do_lift_1
              ret (Value.bool (__do_lift == true))) _ _ _
  refine wpAny_bind ?_
  refine wpAny_bind (wpAny_notOrdered_dict ta ?_)
  refine wpAny_pure (wpAny_bind (wpAny_isInstance tb F.sub_dict_dict ?_))
  simp only [Bool.not_true, Bool.false_eq_true, if_false]
  refine wpAny_bind (wpAny_pure (wpAny_bind (wpAny_pure (wpAny_bind (teq_pairs ha hb da db room hits (wpAny_pure ⟨_, rfl, (fun x => nomatch x), ?_⟩))))))
  simpa using h
end
theorem str_eq {A : Around} {s : Shared} {z z' : Str} {u u' : Value} (h : RelV (.str z) u) (h' : RelV (.str z') u') : SeqAt.EqAt A s u u' (decide (z = z')) := by
  obtain ⟨t, rfl⟩ := h
  obtain ⟨t', rfl⟩ := h'
  have := PySem.W.keq_flat (A := A) (s := s) (v := .str z t) (y := .str z' t') (d := .str z) (e := .str z') (fun _ => .str _ _) (fun _ => .str _ _)
  exact this
def strV (p : List Key × Str) : List Key × V := (p.1, .str p.2)
theorem kt_at {H : Hp} : ∀ {ls : List (List Key × Str)} {ys : List (List Key × Addr × Value)}, KT H (ls.map strV) ys → ∀ {j : Nat} {k : List Key} {z : Str}, ls[j]? = some (k, z) → ∃ b y, ys[j]? = some (k, b, y) ∧ RelV (.str z) y
  | [], _, _, _, _, _, h => by cases h
  | p :: ls, q :: ys, .cons ⟨h1, _, h3⟩ t, 0, k, z, h => by
    cases h
    obtain ⟨k', b, y⟩ := q
    cases h1
    exact ⟨b, y, rfl, h3⟩
  | p :: ls, q :: ys, .cons _ t, j + 1, k, z, h => kt_at t (j := j) h
theorem kt_keys {H : Hp} : ∀ {ls : List (List Key × Str)} {ys : List (List Key × Addr × Value)}, KT H (ls.map strV) ys → ys.map (·.1) = ls.map (·.1)
  | [], _, .nil => rfl
  | p :: ls, q :: ys, .cons ⟨h1, _⟩ t => by
    rw [List.map_cons, List.map_cons, kt_keys t]
    exact congrArg (· :: _) h1.symm
open Classical in
theorem teq_strs {prog : Program} {w : World} {H : Hp} {A : Around} {s : Shared} {ls : List (List Key × Str)} {ys : List (List Key × Addr × Value)} (hy : KT H (ls.map strV) ys) (nd : (ls.map (·.1)).Nodup) :
    ∀ {ks : List (List Key × Str)} {xs : List (List Key × Addr × Value)}, KT H (ks.map strV) xs → TeqHits (tupleKind (mixKind prog w)) A s ys xs (ks.all fun p => decide (p ∈ ls))
  | [], _, .nil => .nil
  | p :: ks, q :: xs, .cons ⟨h1, h2, h3⟩ t => by
    obtain ⟨k, z⟩ := p
    obtain ⟨k', a, v⟩ := q
    obtain rfl : k = k' := h1
    have ih := teq_strs (prog := prog) (w := w) (A := A) (s := s) hy nd t
    rw [List.all_cons]
    by_cases hk : k ∈ ls.map (·.1)
    · obtain ⟨⟨k2, z2⟩, hm, rfl⟩ := List.mem_map.mp hk
      obtain ⟨j, hj⟩ := List.mem_iff_getElem?.mp hm
      obtain ⟨b, y, e1, e2⟩ := kt_at hy hj
      have : decide ((k2, z) ∈ ls) = decide (z = z2) := by
        by_cases e : z = z2
        · subst e
          rw [decide_eq_true hm, decide_eq_true rfl]
        · rw [decide_eq_false e, decide_eq_false]
          intro hm2
          obtain ⟨j2, hj2⟩ := List.mem_iff_getElem?.mp hm2
          have e1 : (ls.map (·.1))[j]? = some k2 := by rw [List.getElem?_map, hj]; rfl
          have e2 : (ls.map (·.1))[j2]? = some k2 := by rw [List.getElem?_map, hj2]; rfl
          have := (List.getElem?_inj (List.getElem?_eq_some_iff.mp e1).1 nd).mp (e1.trans e2.symm)
          rw [this, hj2] at hj
          cases hj
          exact e rfl
      rw [this]
      exact .hit ⟨j, e1⟩ (str_eq h3 e2) ih
    · have : decide ((k, z) ∈ ls) = false := decide_eq_false fun hm => hk (List.mem_map.mpr ⟨_, hm, rfl⟩)
      rw [this, Bool.false_and]
      refine .miss fun j p e => hk ?_
      rw [← kt_keys hy]
      exact List.mem_map.mpr ⟨_, List.mem_of_getElem? e, rfl⟩
/-- dicts from tuples to texts -/
def rEqTT : V → V → Hp → VK → Prop := fun x y H Q => ∃ (a b : Addr) (ks ls : List (List Key × Str)), x = .ref a ∧ y = .ref b ∧ H a = some (.dT (ks.map strV)) ∧ H b = some (.dT (ls.map strV)) ∧ ∀ c : Bool, (c = true ↔ (ks.length = ls.length ∧ ∀ p ∈ ks, p ∈ ls)) → Q (.bl c) H
open Classical in
theorem op_eqTT {X : Cx} (hu : X.A.units + 1 < cLine) : OpR X (compareOp CmpOp.Eq) rEqTT := by
  intro pins s σ H x y v u Q I rx ry h
  obtain ⟨a, b, ks, ls, rfl, rfl, ea, eb, q⟩ := h
  obtain rfl : v = Value.ref a := rx
  obtain rfl : u = Value.ref b := ry
  obtain ⟨_, ya, xs, ra, da⟩ := dt_of I.hok ea
  obtain ⟨_, yb, ys, rb, db⟩ := dt_of I.hok eb
  have nd : (ls.map (·.1)).Nodup := by
    rw [← kt_keys rb]
    obtain ⟨_, _, _, _, _, _, _, _, h⟩ := db
    exact h
  have l1 : xs.length = ks.length := by rw [← Paired.length ra, List.length_map]
  have l2 : ys.length = ls.length := by rw [← Paired.length rb, List.length_map]
  refine teq_eq ya yb da db (by omega) (tupleKind_room_in1 hu) (fun _ => teq_strs rb nd ra) ?_
  rw [l1, l2]
  refine fin_bl I (q _ ?_) rfl
  rw [Bool.and_eq_true, beq_iff_eq, List.all_eq_true]
  constructor
  · rintro ⟨h1, h2⟩
    exact ⟨h1, fun p hp => of_decide_eq_true (h2 p hp)⟩
  · rintro ⟨h1, h2⟩
    exact ⟨h1, fun p hp => decide_eq_true (h2 p hp)⟩
end L2
set_option Elab.async false
set_option linter.all false
set_option maxRecDepth 100000
set_option maxHeartbeats 8000000
namespace LJ
open PySem PySem.Spec L2 PySem.ErrV
open LamX (ExtN)
open NdefX (NTab TabsN)
/-! is_cleaning, _is_row, _check_table over rows of texts. -/
abbrev sIc : Stmt := top 49
abbrev sIr : Stmt := top 48
abbrev sCt : Stmt := top 47
abbrev PrW (P : Program) (w : World) (K : PySem.W.Frag) (mg : Str → Option Value) (base : Heap) (C : Addr) (n f : Str) : Prop := ∃ p g fd, PropOf K C n p g ∧ FnOk P w K mg base CX0 1 g fd ["self"] (getSp C f) ∧ Binds K fd ["self"] []
def dash : Str := Str.ofString "-"
def isCl (W : Wd) (v : V) : Bool := isOf (W.cs.map (·.1)) v || decide (v = .str dash)
/-- three words: two products and a cleaning, or none -/
def rowOk (W : Wd) : List Str → Bool
  | [a, b, c] => isOf (W.ps.map (·.1)) (.str a) && (isOf (W.ps.map (·.1)) (.str b) && isCl W (.str c))
  | _ => false
def tabOk (W : Wd) (wss : List (List Str)) : Prop := (∀ ws ∈ wss, rowOk W ws = true) ∧ (wss.map (·.take 2)).Nodup
theorem rowOk_3 {W : Wd} {ws : List Str} (h : rowOk W ws = true) : ∃ a b c, ws = [a, b, c] ∧ a ∈ W.ps.map (·.1) ∧ b ∈ W.ps.map (·.1) ∧ (c ∈ W.cs.map (·.1) ∨ c = dash) := by
  match ws, h with
  | [a, b, c], h =>
    unfold rowOk isCl at h
    rw [Bool.and_eq_true, Bool.and_eq_true, Bool.or_eq_true] at h
    refine ⟨a, b, c, rfl, List.mem_of_elem_eq_true h.1, List.mem_of_elem_eq_true h.2.1, ?_⟩
    rcases h.2.2 with q | q
    · exact .inl (List.mem_of_elem_eq_true q)
    · have := of_decide_eq_true q
      injection this with this
      exact .inr this
def RowW (H : Hp) (v : V) (ws : List Str) : Prop := ∃ a, v = .ref a ∧ H a = some (.tup (ws.map V.str))
theorem RowW.tup {H H1 : Hp} {v : V} {ws : List Str} (t : Tup H H1) (h : RowW H v ws) : RowW H1 v ws := by
  obtain ⟨a, rfl, e⟩ := h
  exact ⟨a, rfl, t _ _ e⟩
def spIc (K : PySem.W.Frag) (C : Addr) : Sp := fun vs H Q _ => ∃ (x : Addr) (v : V) (W : Wd), vs = [.ref x, v] ∧ WkD C H x W ∧ GoodF W ∧ St K H v ∧ ∀ H1, Ex H H1 → Q (.bl (isCl W v)) H1
def spIr (C : Addr) : Sp := fun vs H Q _ => ∃ (x r : Addr) (W : Wd) (ws : List Str), vs = [.ref x, .ref r] ∧ WkD C H x W ∧ GoodF W ∧ H r = some (.tup (ws.map V.str)) ∧ (∀ z ∈ ws, z.length ≤ sizeLine) ∧ ∀ H1, Ex H H1 → Q (.bl (rowOk W ws)) H1
def spCt (C cB : Addr) : Sp := fun vs H Q E => ∃ (x t : Addr) (W : Wd) (rs : List V) (wss : List (List Str)), vs = [.ref x, .ref t] ∧ WkD C H x W ∧ GoodF W ∧ H t = some (.tup rs) ∧ Paired (RowW H) rs wss ∧ (∀ ws ∈ wss, ∀ z ∈ ws, z.length ≤ sizeLine) ∧ wss.length < sizeLine ∧
  (tabOk W wss → ∀ H1, Ex H H1 → Q .non H1) ∧ (¬ tabOk W wss → ∀ i : Int, Raised cB "index" (.int i) H E)
section
variable {P : Program} {w : World} {K : PySem.W.Frag} {mg : Str → Option Value} {base : Heap} {C cB : Addr}
theorem scIc : FnScope ["works", "value"] ["works", "value"] (defScope sIc) := ⟨rfl, rfl, rfl, by decide +kernel, rfl, by decide +kernel, by decide +kernel⟩
theorem scIr : FnScope ["works", "row", "first", "second", "cleaning"] ["works", "row"] (defScope sIr) := ⟨rfl, rfl, rfl, by decide +kernel, rfl, by decide +kernel, by decide +kernel⟩
theorem scCt : FnScope ["works", "table", "taken", "at", "row"] ["works", "table"] (defScope sCt) := ⟨rfl, rfl, rfl, by decide +kernel, rfl, by decide +kernel, by decide +kernel⟩
theorem ok_ic {f fN : Addr} {fd fdN : FuncData} {uD : Value} (F : Fun K "is_cleaning" "is_cleaning" sIc f fd) (B : BltI mg) (c : WCls K C) (mD : mg "NO_CLEANING" = some uD) (rD : RelV (.str dash) uD)
    (PM : PrW P w K mg base C "cleanings" "_cleanings") (GN : FnOk P w K mg base CX0 1 fN fdN ["rows", "value"] (spNo K)) (mN : mg "is_name_of" = some (.ref fN)) (kN : PySem.W.keepIn K (.ref fN) = true) (bN : Binds K fdN ["rows", "value"] []) :
    FnOk P w K mg base CX0 3 f fd ["works", "value"] (spIc K C) := by
  refine F.ok scIc (fun vs H Q E h => ?_) (fun cdv A outer s H vs Q E hr h => ?_)
  · obtain ⟨x, v, W, rfl, _⟩ := h
    rfl
  · obtain ⟨x, v, W, rfl, wk, g, st, q⟩ := h
    obtain ⟨p1, g1, fd1, P1, G1, b1⟩ := PM
    have hr1 : Room 1 _ := hr.mono (by decide)
    refine ⟨_, pss_one (ps_ret (pe_or (pe_call GN hr1 (by rfl) mN kN bN .nil pass0 (pa_cons (pe_prop (pv 0) c.cl P1 G1 hr b1 .nil pass0 (by rfl)) (pa_cons (pv 1) pa_nil)))
      (pe_one (pe_and (pe_callB call_isi (by rfl) B.isinstance (by decide +kernel) (pa_cons (pv 1) (pa_cons (pe_bltn (by rfl) B.str (by decide +kernel) (v := .ty "str") rfl) pa_nil))) (pe_one (pe_cmpR op_eq (pv 1) (pe_glob (by rfl) mD rD) rfl)))))), ?_⟩
    obtain ⟨am, ac, as, ap, ⟨dx, D1, D2, D3, D4, b1, b2, v4, hx, _⟩, ⟨_, ⟨vc, hc, pc⟩, _, _⟩⟩ := wk.at_
    have lc : W.cs.length ≤ 6 := g.c2
    refine ⟨_, rfl, x, dx, _, rfl, hx, x, dx, _, _, rfl, hx, rfl, _, rfl, ac, v, vc, W.cs.map (·.1), rfl, hc, named3 pc, by rw [List.length_map]; omega, st, fun H1 x1 => ?_⟩
    refine ⟨_, rfl, ?_⟩
    have q := q H1 x1
    unfold isCl at q
    cases e : isOf (W.cs.map (·.1)) v with
    | true =>
      rw [e, Bool.true_or] at q
      exact q
    | false =>
      rw [e, Bool.false_or] at q
      obtain ⟨t, b, ty, hb, hs⟩ := (st.exN (fun b o hb _ => x1 b o hb)).ty
      refine ⟨_, rfl, _, _, t, _, b, rfl, .ty "str", ty, hb, b, rfl, ?_⟩
      rcases hs with ⟨rfl, z, rfl⟩ | ⟨rfl, ns⟩
      · exact ⟨_, rfl, rfl, q⟩
      · rw [decide_eq_false (ns dash)] at q
        exact q
theorem ok_ir {f fN fC : Addr} {fd fdN fdC : FuncData} (F : Fun K "_is_row" "_is_row" sIr f fd) (B : BltI mg) (c : WCls K C)
    (PM : PrW P w K mg base C "products" "_products") (GN : FnOk P w K mg base CX0 1 fN fdN ["rows", "value"] (spNo K)) (mN : mg "is_name_of" = some (.ref fN)) (kN : PySem.W.keepIn K (.ref fN) = true) (bN : Binds K fdN ["rows", "value"] [])
    (GC : FnOk P w K mg base CX0 3 fC fdC ["works", "value"] (spIc K C)) (mC : mg "is_cleaning" = some (.ref fC)) (kC : PySem.W.keepIn K (.ref fC) = true) (bC : Binds K fdC ["works", "value"] []) :
    FnOk P w K mg base CX0 4 f fd ["works", "row"] (spIr C) := by
  refine F.ok scIr (fun vs H Q E h => ?_) (fun cdv A outer s H vs Q E hr h => ?_)
  · obtain ⟨x, r, W, ws, rfl, _⟩ := h
    rfl
  · obtain ⟨x, r, W, ws, rfl, wk, g, hrw, hz, q⟩ := h
    obtain ⟨p1, g1, fd1, P1, G1, b1⟩ := PM
    have hr1 : Room 1 _ := hr.mono (by decide)
    have hr2 : Room 2 _ := hr.mono (by decide)
    refine ⟨_, pss_cons (ps_if (PW.pt (pw_or (pt_not (pt_truth (pe_callB call_isi (by rfl) B.isinstance (by decide +kernel) (pa_cons (pv 1) (pa_cons (pe_bltn (by rfl) B.tuple (by decide +kernel) (v := .ty "tuple") rfl) pa_nil))) (fun _ => rfl)))
        (pw_or1 (pt_cmpR op_ne (pe_callB call_len_seq (by rfl) B.len (by decide +kernel) (pa_cons (pv 1) pa_nil)) pe_int (nomark _))))) (pss_one (ps_ret pe_bl)) pss_nil)
      (pss_cons (ps_asg (pv 1) (pg_tup (by rfl) (pgs_cons (pg_name (i := 2) scIr.nd rfl (Or.inl rfl)) (pgs_cons (pg_name (i := 3) scIr.nd rfl (Or.inl rfl)) (pgs_cons (pg_name (i := 4) scIr.nd rfl (Or.inl rfl)) pgs_nil)))))
      (pss_one (ps_ret (pe_and (pe_call GN hr1 (by rfl) mN kN bN .nil pass0 (pa_cons (pe_prop (pv 0) c.cl P1 G1 hr2 b1 .nil pass0 (by rfl)) (pa_cons (pv 2) pa_nil)))
        (pe_and (pe_call GN hr1 (by rfl) mN kN bN .nil pass0 (pa_cons (pe_prop (pv 0) c.cl P1 G1 hr2 b1 .nil pass0 (by rfl)) (pa_cons (pv 3) pa_nil)))
        (pe_one (pe_call GC hr (by rfl) mC kC bC .nil pass0 (pa_cons (pv 0) (pa_cons (pv 4) pa_nil))))))))), ?_⟩
    have sz := sizeLine_eq
    refine ⟨_, rfl, _, _, _, _, true, rfl, .ty "tuple", .base (.tup hrw), kit_ty (by decide +kernel), true, rfl, ?_⟩
    refine ite2 (fun z => by cases z) (fun _ => ?_)
    refine ⟨_, rfl, r, _, rfl, .inr (SqT.of hrw), rfl, ?_⟩
    rw [List.length_map]
    by_cases l3 : ws.length = 3
    case neg =>
      have e : rowOk W ws = false := by
        match ws, l3 with
        | [], _ => rfl
        | [_], _ => rfl
        | [_, _], _ => rfl
        | [_, _, _], l3 => exact absurd rfl l3
        | _ :: _ :: _ :: _ :: _, _ => rfl
      rw [e] at q
      refine ⟨_, rfl, ?_⟩
      refine ite2 (fun _ => q H Ex.refl) (fun z => absurd ?_ z)
      simp only [Bool.not_eq_true', decide_eq_false_iff_not]
      intro z
      injection z with z
      omega
    obtain ⟨a, b, cl, rfl⟩ : ∃ a b cl, ws = [a, b, cl] := by
      match ws, l3 with
      | [a, b, cl], _ => exact ⟨a, b, cl, rfl⟩
    refine ⟨_, rfl, ?_⟩
    refine ite2 (fun z => absurd z (by show ¬(!decide (V.int ((3 : Nat) : Int) = V.int 3)) = true; decide)) (fun _ => ?_)
    obtain ⟨am, ac, as, ap, ⟨dx, D1, D2, D3, D4, bb1, bb2, v4, hx, _⟩, ⟨_, _, _, ⟨vp, hp, pp⟩⟩⟩ := wk.at_
    have lp : W.ps.length ≤ 8 := g.p2
    have za := hz a (by simp)
    have zb := hz b (by simp)
    have zc := hz cl (by simp)
    refine rd_nextU ?_
    try dsimp only
    refine ⟨_, rfl, r, _, rfl, SqT.of hrw, rfl, _, _, rfl, _, _, rfl, _, _, rfl, rfl, ?_⟩
    try dsimp only
    refine ⟨_, rfl, x, dx, _, rfl, hx, x, dx, _, _, rfl, hx, rfl, _, rfl, ap, .str a, vp, W.ps.map (·.1), rfl, hp, namedP pp, by rw [List.length_map]; omega, .str a za, fun H1 x1 => ⟨_, rfl, ?_⟩⟩
    have q1 : ∀ H2, Ex H1 H2 → Q (.bl (isOf (W.ps.map (·.1)) (.str a) && (isOf (W.ps.map (·.1)) (.str b) && isCl W (.str cl)))) H2 := fun H2 x2 => q H2 (x1.trans x2)
    cases e1 : isOf (W.ps.map (·.1)) (.str a) with
    | false =>
      rw [e1, Bool.false_and] at q1
      exact q1 H1 Ex.refl
    | true =>
      rw [e1, Bool.true_and] at q1
      refine ⟨_, rfl, x, dx, _, rfl, x1 _ _ hx, x, dx, _, _, rfl, x1 _ _ hx, rfl, _, rfl, ap, .str b, vp, W.ps.map (·.1), rfl, x1 _ _ hp, L2.Paired.mapP (namedP pp) (fun _ _ z => z.tup (Ex.tup x1)), by rw [List.length_map]; omega, .str b zb, fun H2 x2 => ⟨_, rfl, ?_⟩⟩
      cases e2 : isOf (W.ps.map (·.1)) (.str b) with
      | false =>
        rw [e2, Bool.false_and] at q1
        exact q1 H2 x2
      | true =>
        rw [e2, Bool.true_and] at q1
        exact ⟨_, rfl, _, rfl, x, .str cl, W, rfl, wk.ex (x1.trans x2), g, .str cl zc, fun H3 x3 => q1 H3 (x2.trans x3)⟩
theorem key2 {ws : List Str} : ∀ {n : Nat}, ((ws.take n).map V.str) = ((ws.take n).map (Sum.inr : Str → Key)).map kV := by
  intro n
  rw [List.map_map]
  rfl
theorem inr_inj : ∀ {a b : List Str}, a.map (Sum.inr : Str → Key) = b.map Sum.inr → a = b
  | [], [], _ => rfl
  | [], _ :: _, h => nomatch h
  | _ :: _, [], h => nomatch h
  | x :: a, y :: b, h => by
    rw [List.map_cons, List.map_cons] at h
    obtain ⟨h1, h2⟩ := List.cons.inj h
    rw [Sum.inr.inj h1, inr_inj h2]
/-- the table of the pairs that are taken -/
def takenOf (wss : List (List Str)) : List (List Key × V) := wss.map fun ws => ((ws.take 2).map Sum.inr, .bl true)
theorem taken_none {wss : List (List Str)} {ws : List Str} (h : ws.take 2 ∉ wss.map (·.take 2)) : valV (takenOf wss) ((ws.take 2).map Sum.inr) = none := by
  unfold valV
  rw [Option.map_eq_none_iff, List.find?_eq_none]
  intro kv hkv
  obtain ⟨us, hu, rfl⟩ := List.mem_map.mp hkv
  intro z
  have := inr_inj (of_decide_eq_true z)
  exact h (List.mem_map.mpr ⟨us, hu, this⟩)
theorem taken_some {wss : List (List Str)} {ws : List Str} (h : ws.take 2 ∈ wss.map (·.take 2)) : (valV (takenOf wss) ((ws.take 2).map Sum.inr)).isSome = true := by
  unfold valV
  rw [Option.isSome_map, List.find?_isSome]
  obtain ⟨us, hu, e⟩ := List.mem_map.mp h
  exact ⟨_, List.mem_map.mpr ⟨us, hu, rfl⟩, decide_eq_true (by show (us.take 2).map Sum.inr = _; rw [e])⟩
theorem put_new {κ : Type} [DecidableEq κ] {kvs : List (κ × V)} {k : κ} {v : V} (h : k ∉ kvs.map (·.1)) : putK kvs k v = kvs ++ [(k, v)] := by
  unfold putK
  rw [if_neg]
  intro z
  obtain ⟨kv, hkv, e⟩ := List.any_eq_true.mp z
  exact h (List.mem_map.mpr ⟨kv, hkv, of_decide_eq_true e⟩)
theorem taken_put {wss : List (List Str)} {ws : List Str} (h : ws.take 2 ∉ wss.map (·.take 2)) : putK (takenOf wss) ((ws.take 2).map Sum.inr) (.bl true) = takenOf (wss ++ [ws]) := by
  rw [put_new]
  · unfold takenOf
    rw [List.map_append]
    rfl
  · intro z
    obtain ⟨kv, hkv, e⟩ := List.mem_map.mp z
    obtain ⟨us, hu, rfl⟩ := List.mem_map.mp hkv
    exact h (List.mem_map.mpr ⟨us, hu, inr_inj e⟩)
theorem ok_ct {f fR : Addr} {fd fdR : FuncData} (F : Fun K "_check_table" "_check_table" sCt f fd) (B : BltI mg) (e0 : Er1 K mg "InvalidTable" "index" cB)
    (GR : FnOk P w K mg base CX0 4 fR fdR ["works", "row"] (spIr C)) (mR : mg "_is_row" = some (.ref fR)) (kR : PySem.W.keepIn K (.ref fR) = true) (bR : Binds K fdR ["works", "row"] []) :
    FnOk P w K mg base (L2N.CX P w) 5 f fd ["works", "table"] (spCt C cB) := by
  refine F.okC scCt (fun vs H Q E h => ?_) (fun cdv A outer s H vs Q E hr h => ?_)
  · obtain ⟨x, t, W, rs, wss, rfl, _⟩ := h
    rfl
  · obtain ⟨x, t, W, rs, wss, rfl, wk, g, ht, pr, hz, lw, good, bad⟩ := h
    obtain ⟨f0, b0, T0, B0⟩ := e0.c
    have hr1 : Room 1 _ := hr.mono (by decide)
    have hu := hu_of hr
    refine ⟨_, pss_cons (ps_if (pt_not (pt_truth (pe_callB call_isi (by rfl) B.isinstance (by decide +kernel) (pa_cons (pv 1) (pa_cons (pe_bltn (by rfl) B.tuple (by decide +kernel) (v := .ty "tuple") rfl) pa_nil))) (fun _ => rfl))) (pss_one (ps_raiseEN rfl (.inr rfl) T0 B0 e0.exC e0.tyC hr1 (L2N.takes_of rfl rfl rfl rfl) (pa_cons pe_non pa_nil) (by rfl))) pss_nil)
      (pss_cons (ps_set (i := 2) scCt.nd rfl (Or.inl rfl) pe_dnewT)
      (pss_one (ps_for PassesOwn.leaving rfl (EnT.pi_enT (by rfl) B.enumerate (pa_cons (pv 1) pa_nil)) (pg_tup (by rfl) (pgs_cons (pg_name (i := 3) scCt.nd rfl (Or.inl rfl)) (pgs_cons (pg_name (i := 4) scCt.nd rfl (Or.inl rfl)) pgs_nil)))
        (pss_cons (ps_if (PW.pt (pw_or (pt_not (pt_val (pe_call GR hr (by rfl) mR kR bR .nil pass0 (pa_cons (pv 0) (pa_cons (pv 4) pa_nil))))) (pw_or1 (pt_cmp (pc_din hu (pe_slice sl_tup (pv 4) po_none (po_some pe_int)) (pv 2)))))) (pss_one (ps_raiseEN rfl (.inr rfl) T0 B0 e0.exC e0.tyC hr1 (L2N.takes_of rfl rfl rfl rfl) (pa_cons (pv 3) pa_nil) (by rfl))) pss_nil)
        (pss_one (ps_dput hu (pv 2) (pe_slice sl_tup (pv 4) po_none (po_some pe_int)) pe_bl (by rfl))))))), ?_⟩
    have sz := sizeLine_eq
    refine ⟨_, rfl, _, _, _, _, true, rfl, .ty "tuple", .base (.tup ht), kit_ty (by decide +kernel), true, rfl, ?_⟩
    refine ite2 (fun z => by cases z) (fun _ => ?_)
    refine rd_nextU ?_
    try dsimp only
    intro D hD
    have lr := Paired.size pr
    have eD : (upd H D (.dT [])) D = some (.dT (takenOf [])) := upd_same
    have xD : Ex H (upd H D (.dT [])) := Ex.refl.new hD
    generalize upd H D (.dT []) = HD at eD xD ⊢
    refine ⟨_, rfl, t, _, rfl, SqT.of (xD _ _ ht), for_it walk_en (fun n σ G => (∃ v3 v4 : Option V, σ = [some (.ref x), some (.ref t), some (.ref D), v3, v4]) ∧ Ex H G ∧ G D = some (.dT (takenOf (wss.take n))) ∧ (∀ ws ∈ wss.take n, rowOk W ws = true) ∧ ((wss.take n).map (·.take 2)).Nodup)
      ⟨⟨_, _, rfl⟩, xD, eD, (fun ws h => by simp at h), (by simp)⟩ (fun n σ G _ h => SqT.of (h.2.1 _ _ ht)) ?_ ?_⟩
    · rintro i v σ G G1 hi ⟨⟨v3, v4, rfl⟩, xG, dG, al, nd⟩ ⟨T, y1, y2, rfl, nT, rfl, h1, h2⟩
      cases h1
      have h2 : rs[i]? = some y2 := h2
      obtain ⟨ws, hws, r, rfl, hrw⟩ := Paired.spot pr h2
      have mem := List.mem_of_getElem? hws
      have xT : Ex G (upd G T (.tup [.int (i : Nat), .ref r])) := Ex.refl.new nT
      have eT : (upd G T (.tup [.int (i : Nat), .ref r])) T = some (.tup [.int (i : Nat), .ref r]) := upd_same
      generalize upd G T (.tup [.int (i : Nat), .ref r]) = G1 at xT eT ⊢
      refine ⟨T, _, rfl, SqT.of eT, rfl, _, _, rfl, _, _, rfl, rfl, ?_⟩
      try dsimp only
      have xH1 := xG.trans xT
      have tk : wss.take (i + 1) = wss.take i ++ [ws] := by
        rw [List.take_succ, hws]
        rfl
      have li : (wss.take i).length < sizeLine := by
        rw [List.length_take]
        omega
      refine rd_seqU (rd_ifU ?_)
      refine ⟨_, rfl, _, rfl, x, r, W, ws, rfl, wk.ex xH1, g, xH1 _ _ hrw, hz ws mem, fun G2 x2 => ⟨_, rfl, ?_⟩⟩
      have xH2 := xH1.trans x2
      cases ro : rowOk W ws with
      | false =>
        refine ite2 (fun _ => ?_) (fun z => absurd rfl z)
        exact ⟨_, rfl, _, rfl, fun d nd => bad (fun z => by rw [z.1 ws mem] at ro; cases ro) i _ d (xH2.new nd) upd_same⟩
      | true =>
        refine ite2 (fun z => by cases z) (fun _ => ?_)
        obtain ⟨a, b, cl, rfl, _⟩ := rowOk_3 ro
        have d2 := x2 _ _ (xT _ _ dG)
        refine ⟨_, rfl, 2, rfl, r, _, rfl, SqT.of (xH2 _ _ hrw), (by show ¬(_ ∧ (2 : Nat) = 3); rintro ⟨_, z⟩; cases z), fun p np => ?_⟩
        have ep : (upd G2 p (.tup (cutV ([a, b, cl].map V.str) none (some 2)))) p = some (.tup ((([a, b, cl].take 2).map (Sum.inr : Str → Key)).map kV)) := upd_same
        have xp : Ex G2 (upd G2 p (.tup (cutV ([a, b, cl].map V.str) none (some 2)))) := Ex.refl.new np
        generalize upd G2 p (.tup (cutV ([a, b, cl].map V.str) none (some 2))) = G3 at ep xp ⊢
        refine ⟨_, rfl, D, _, rfl, DGet.t (xp _ _ d2) ep, ?_⟩
        by_cases tn : [a, b, cl].take 2 ∈ (wss.take i).map (·.take 2)
        · rw [taken_some tn]
          refine ⟨_, rfl, ?_⟩
          refine ite2 (fun _ => ?_) (fun z => absurd rfl z)
          refine ⟨_, rfl, _, rfl, fun d nd => bad (fun z => ?_) i _ d ((xH2.trans xp).new nd) upd_same⟩
          have z2 := z.2
          have e1 : (wss.map (·.take 2))[i]? = some ([a, b, cl].take 2) := by rw [List.getElem?_map, hws]; rfl
          exact not_mem_take z2 e1 (by rw [← List.map_take]; exact tn)
        · rw [taken_none tn]
          refine ⟨_, rfl, ?_⟩
          refine ite2 (fun z => by cases z) (fun _ => ?_)
          refine rd_nextU ?_
          try dsimp only
          refine ⟨_, rfl, _, rfl, 2, rfl, r, _, rfl, SqT.of (xp _ _ (xH2 _ _ hrw)), (by show ¬(_ ∧ (2 : Nat) = 3); rintro ⟨_, z⟩; cases z), fun p2 np2 => ?_⟩
          have ep2 : (upd G3 p2 (.tup (cutV ([a, b, cl].map V.str) none (some 2)))) p2 = some (.tup ((([a, b, cl].take 2).map (Sum.inr : Str → Key)).map kV)) := upd_same
          have xp2 : Ex G3 (upd G3 p2 (.tup (cutV ([a, b, cl].map V.str) none (some 2)))) := Ex.refl.new np2
          generalize upd G3 p2 (.tup (cutV ([a, b, cl].map V.str) none (some 2))) = G4 at ep2 xp2 ⊢
          have d4 := xp2 _ _ (xp _ _ d2)
          refine ⟨D, _, rfl, DPut.t d4 ep2 (by unfold takenOf; rw [List.length_map]; exact li), ?_⟩
          rw [taken_put tn]
          have hnD : H D = none := hD
          refine ⟨⟨_, _, rfl⟩, fun b o hb => ?_, ?_, ?_, ?_⟩
          · rw [upd_ne (ne_of_none hb hD)]
            exact (xH2.trans (xp.trans xp2)) b o hb
          · rw [tk]
            exact upd_same
          · rw [tk]
            intro ws2 h2
            rcases List.mem_append.mp h2 with h | h
            · exact al ws2 h
            · obtain rfl := List.mem_singleton.mp h
              exact ro
          · rw [tk, List.map_append]
            refine List.nodup_append.mpr ⟨nd, (by simp), fun u hu v hv e => ?_⟩
            obtain rfl := List.mem_singleton.mp hv
            subst e
            exact tn hu
    · rintro σ G ⟨⟨v3, v4, rfl⟩, xG, dG, al, nd⟩
      rw [lr, List.take_length] at al nd
      exact good ⟨al, nd⟩ G xG
theorem ok_cnN {CU fU f fN : Addr} {fd fdN : FuncData} (F : Fun K "check_name" "check_name" sCn f fd) (U : Unk K mg CU fU)
    (GN : FnOk P w K mg base CX0 1 fN fdN ["rows", "value"] (spNo K)) (mN : mg "is_name_of" = some (.ref fN)) (kN : PySem.W.keepIn K (.ref fN) = true) (bN : Binds K fdN ["rows", "value"] []) :
    FnOk P w K mg base (L2N.CX P w) 2 f fd ["rows", "value"] (spCn K CU) := by
  refine F.okC scCn (fun vs H Q E h => ?_) (fun cdv A outer s H vs Q E hr h => ?_)
  · obtain ⟨t, v, rs, names, rfl, _⟩ := h
    rfl
  · obtain ⟨t, v, rs, names, rfl, ht, pr, ln, st, good, bad⟩ := h
    obtain ⟨bm, T, Bo⟩ := U.c
    refine ⟨_, pss_one (ps_if (pt_not (pt_val (pe_call GN hr (by rfl) mN kN bN .nil pass0 (pa_cons (pv 0) (pa_cons (pv 1) pa_nil))))) (pss_one (ps_raiseEN rfl (.inl rfl) T Bo U.exC U.tyC hr (L2N.takes_of rfl rfl rfl rfl) (pa_cons (pv 1) pa_nil) (by rfl))) pss_nil), ?_⟩
    refine ⟨_, rfl, _, rfl, t, v, rs, names, rfl, ht, pr, ln, st, fun H1 x1 => ⟨_, rfl, ?_⟩⟩
    cases e : isOf names v with
    | true => exact ite2 (fun z => by cases z) (fun _ => good e H1 x1)
    | false =>
      refine ite2 (fun _ => ?_) (fun z => absurd rfl z)
      exact ⟨_, rfl, _, rfl, fun d nd => bad e _ d (x1.new nd) upd_same⟩
end
end LJ
set_option Elab.async false
set_option linter.all false
set_option maxRecDepth 100000
set_option maxHeartbeats 8000000
/-! _law_called, _law_table of the laws about rules. -/
namespace LJ
open PySem PySem.Spec L2
abbrev sCld : Stmt := top 59
abbrev sTab : Stmt := top 60
def spCld : Sp := fun vs H Q _ => ∃ (p l : Addr) (z : Str) (rs : List V) (names : List Str), vs = [.ref p, .str z] ∧ DGet H p (.str z) (some (.ref l)) ∧ H l = some (.lst rs) ∧ Paired (NRow H) rs names ∧ names.length ≤ 100 ∧
  ∀ (D : Addr) (H1 : Hp), Ex H H1 → H D = none → H1 D = some (.lst (names.map V.str)) → Q (.ref D) H1
theorem named2 {H : Hp} {vs : List V} {rs : List (Str × Int)} (h : Paired (Row2 H) vs rs) : Paired (NRow H) vs (rs.map (·.1)) := by
  induction h with
  | nil => exact .nil
  | cons a t ih =>
    obtain ⟨b, rfl, e⟩ := a
    exact .cons ⟨b, _, rfl, e⟩ ih
section
variable {H : Hp} {p : Addr} {W : Wd}
theorem cld_m (h : SkAt H p W) (g : GoodF W) : ∃ l rs, DGet H p (.str "machines") (some (.ref l)) ∧ H l = some (.lst rs) ∧ Paired (NRow H) rs (W.ms.map (·.1)) ∧ (W.ms.map (·.1)).length ≤ 100 := by
  obtain ⟨a, b, c, d, va, vb, vc, vd, hp, ha, pa, hb, pb, hc, pc, hd, pd⟩ := h
  have := g.m2
  exact ⟨a, va, (sk_get hp).1, ha, named3 pa, by rw [List.length_map]; omega⟩
theorem cld_c (h : SkAt H p W) (g : GoodF W) : ∃ l rs, DGet H p (.str "cleanings") (some (.ref l)) ∧ H l = some (.lst rs) ∧ Paired (NRow H) rs (W.cs.map (·.1)) ∧ (W.cs.map (·.1)).length ≤ 100 := by
  obtain ⟨a, b, c, d, va, vb, vc, vd, hp, ha, pa, hb, pb, hc, pc, hd, pd⟩ := h
  have := g.c2
  exact ⟨b, vb, (sk_get hp).2.1, hb, named3 pb, by rw [List.length_map]; omega⟩
theorem cld_p (h : SkAt H p W) (g : GoodF W) : ∃ l rs, DGet H p (.str "products") (some (.ref l)) ∧ H l = some (.lst rs) ∧ Paired (NRow H) rs (W.ps.map (·.1)) ∧ (W.ps.map (·.1)).length ≤ 100 := by
  obtain ⟨a, b, c, d, va, vb, vc, vd, hp, ha, pa, hb, pb, hc, pc, hd, pd⟩ := h
  have := g.p2
  exact ⟨d, vd, (sk_get hp).2.2.2, hd, namedP pd, by rw [List.length_map]; omega⟩
end
theorem SkAt.but {j p : Addr} {W : Wd} {H H1 : Hp} (J : JarAt H j) (b : But j H H1) (h : SkAt H p W) : SkAt H1 p W := by
  obtain ⟨a, b1, c, d, va, vb, vc, vd, hp, ha, pa, hb, pb, hc, pc, hd, pd⟩ := h
  have t := Tup.of J b
  have nj : ∀ {q : Addr} {o : HO}, H q = some o → q = j → ∃ xs, o = .lst xs ∧ xs.length = 2 ∧ ∃ u v, xs = [.int u, .int v] := fun {q o} e z => by
    obtain ⟨u, v, c, w, _⟩ := J
    rw [z, w] at e
    cases e
    exact ⟨_, rfl, rfl, _, _, rfl⟩
  have n1 : p ≠ j := fun z => by
    obtain ⟨xs, e, _⟩ := nj hp z
    cases e
  have go : ∀ {q : Addr} {vs : List V}, H q = some (.lst vs) → (∀ u ∈ vs, ∃ r, u = V.ref r) → q ≠ j := fun {q vs} e al z => by
    obtain ⟨xs, e2, _, u, v, rfl⟩ := nj e z
    cases e2
    obtain ⟨r, hr⟩ := al (.int u) (List.mem_cons_self ..)
    cases hr
  have refs3 : ∀ {vs : List V} {rs : List (Str × Int × Int)}, Paired (Row3 H) vs rs → ∀ u ∈ vs, ∃ r, u = V.ref r := fun {vs rs} h => by
    induction h with
    | nil => exact fun _ z => nomatch z
    | cons a t ih =>
      intro u hu
      rcases List.mem_cons.mp hu with rfl | hu
      · obtain ⟨q, rfl, _⟩ := a
        exact ⟨q, rfl⟩
      · exact ih u hu
  have refs2 : ∀ {vs : List V} {rs : List (Str × Int)}, Paired (Row2 H) vs rs → ∀ u ∈ vs, ∃ r, u = V.ref r := fun {vs rs} h => by
    induction h with
    | nil => exact fun _ z => nomatch z
    | cons a t ih =>
      intro u hu
      rcases List.mem_cons.mp hu with rfl | hu
      · obtain ⟨q, rfl, _⟩ := a
        exact ⟨q, rfl⟩
      · exact ih u hu
  have refsP : ∀ {vs : List V} {rs : List (Str × List (Int × Int))}, Paired (RowP H) vs rs → ∀ u ∈ vs, ∃ r, u = V.ref r := fun {vs rs} h => by
    induction h with
    | nil => exact fun _ z => nomatch z
    | cons a t ih =>
      intro u hu
      rcases List.mem_cons.mp hu with rfl | hu
      · obtain ⟨q, t1, ys, rfl, _⟩ := a
        exact ⟨q, rfl⟩
      · exact ih u hu
  exact ⟨a, b1, c, d, va, vb, vc, vd, b p _ n1 hp, b a _ (go ha (refs3 pa)) ha, rows3 t pa, b b1 _ (go hb (refs3 pb)) hb, rows3 t pb, b c _ (go hc (refs2 pc)) hc, rows2 t pc, b d _ (go hd (refsP pd)) hd, rowsP t pd⟩
/-- rows of a table, drawn -/
structure Drawn (W : Wd) (vis : List (List Str)) (wss : List (List Str)) : Prop where
  ok : ∀ ws ∈ wss, rowOk W ws = true
  nd : (wss.map (·.take 2)).Nodup
  sub : ∀ ws ∈ wss, ws.take 2 ∈ vis
  len : wss.length ≤ vis.length
theorem Drawn.tab {W : Wd} {vis wss : List (List Str)} (h : Drawn W vis wss) : tabOk W wss := ⟨h.ok, h.nd⟩
theorem Drawn.more {W : Wd} {vis wss : List (List Str)} {v : List Str} (h : Drawn W vis wss) : Drawn W (vis ++ [v]) wss := ⟨h.ok, h.nd, fun ws hw => List.mem_append_left _ (h.sub ws hw), by rw [List.length_append]; exact Nat.le_trans h.len (Nat.le_add_right _ _)⟩
theorem Drawn.ins {W : Wd} {vis wss : List (List Str)} {a b c : Str} {k : Nat} (h : Drawn W vis wss) (nv : [a, b] ∉ vis) (ok : rowOk W [a, b, c] = true) : Drawn W (vis ++ [[a, b]]) (wss.take k ++ [[a, b, c]] ++ wss.drop k) := by
  have pm : (wss.take k ++ [[a, b, c]] ++ wss.drop k).Perm ([a, b, c] :: wss) := by
    rw [List.append_assoc]
    refine (List.perm_append_comm_assoc ..).trans ?_
    rw [List.take_append_drop]
    exact List.Perm.refl _
  refine ⟨fun ws hw => ?_, ?_, fun ws hw => ?_, ?_⟩
  · rcases List.mem_cons.mp (pm.mem_iff.mp hw) with rfl | hw
    · exact ok
    · exact h.ok ws hw
  · refine ((pm.map (·.take 2)).nodup_iff).mpr ?_
    rw [List.map_cons]
    refine List.nodup_cons.mpr ⟨fun z => ?_, h.nd⟩
    obtain ⟨us, hu, e⟩ := List.mem_map.mp z
    have := h.sub us hu
    rw [e] at this
    exact nv this
  · rcases List.mem_cons.mp (pm.mem_iff.mp hw) with rfl | hw
    · exact List.mem_append_right _ (List.mem_cons_self ..)
    · exact List.mem_append_left _ (h.sub ws hw)
  · rw [pm.length_eq, List.length_cons, List.length_append, List.length_singleton]
    have := h.len
    omega
/-- the table at a turn -/
def TabI (W : Wd) (ns : List Str) (F : Addr) (H2 : Hp) (j : Addr) (i k : Nat) (G : Hp) : Prop := JarAt G j ∧ But j H2 G ∧ ∃ vals wss vis, G F = some (.lst vals) ∧ Paired (RowW G) vals wss ∧ Drawn W vis wss ∧ vis.length ≤ i * 4 + k ∧
  ∀ v ∈ vis, ∃ a b : Str, v = [a, b] ∧ (a ∈ ns.take i ∨ (ns[i]? = some a ∧ b ∈ ns.take k))
theorem TabI.row {W : Wd} {ns : List Str} {F : Addr} {H2 : Hp} {j : Addr} {i : Nat} {G : Hp} (l4 : ns.length ≤ 4) (h : TabI W ns F H2 j i ns.length G) : TabI W ns F H2 j (i + 1) 0 G := by
  obtain ⟨h1, h2, vals, wss, vis, h3, h4, h5, h6, h7⟩ := h
  refine ⟨h1, h2, vals, wss, vis, h3, h4, h5, by omega, fun v hv => ?_⟩
  obtain ⟨a, b, e, q⟩ := h7 v hv
  refine ⟨a, b, e, .inl ?_⟩
  rw [List.take_succ]
  rcases q with q | ⟨q, _⟩
  · exact List.mem_append_left _ q
  · rw [q]
    exact List.mem_append_right _ (List.mem_cons_self ..)
theorem Paired.ins {α β : Type} {R : α → β → Prop} {xs : List α} {ys : List β} {x : α} {y : β} {k : Nat} (h : Paired R xs ys) (r : R x y) : Paired R (xs.take k ++ [x] ++ xs.drop k) (ys.take k ++ [y] ++ ys.drop k) := by
  induction h generalizing k with
  | nil =>
    rw [List.take_nil, List.take_nil, List.drop_nil, List.drop_nil]
    exact .cons r .nil
  | @cons a b as bs h t ih =>
    cases k with
    | zero => exact .cons r (.cons h t)
    | succ k => exact .cons h (ih (k := k))
def spTab (C : Addr) : Sp := fun vs H Q _ => ∃ (j p : Addr) (share : Int) (W : Wd), vs = [.ref j, .ref p, .int share] ∧ JarAt H j ∧ SkAt H p W ∧ GoodR W ∧
  ∀ (F : Addr) (vals : List V) (wss : List (List Str)) (H1 : Hp), H1 F = some (.lst vals) → Paired (RowW H1) vals wss → tabOk W wss → wss.length ≤ 16 → JarAt H1 j → But j H H1 → H F = none → Q (.ref F) H1
structure BltT (mg : Str → Option Value) : Prop where
  len : mg "len" = none
section
variable {P : Program} {w : World} {K : PySem.W.Frag} {mg : Str → Option Value} {base : Heap} {C : Addr}
theorem scCld : FnScope ["_law_sketch", "_law_part", "_law_each"] ["_law_sketch", "_law_part"] (defScope sCld) := ⟨rfl, rfl, rfl, by decide +kernel, rfl, by decide +kernel, by decide +kernel⟩
abbrev nTab : List Str := ["_law_jar_here", "_law_sketch", "_law_share", "_law_names_here", "_law_found", "_law_early", "_law_late", "_law_wash"]
theorem scTab : FnScope nTab ["_law_jar_here", "_law_sketch", "_law_share"] (defScope sTab) := ⟨rfl, rfl, rfl, by decide +kernel, rfl, by decide +kernel, by decide +kernel⟩
theorem ok_cld {f : Addr} {fd : FuncData} (F : Fun K "_law_called" "_law_called" sCld f fd) : FnOk P w K mg base CX0 1 f fd ["_law_sketch", "_law_part"] spCld := by
  refine F.ok scCld (fun vs H Q E h => ?_) (fun cdv A outer s H vs Q E hr h => ?_)
  · obtain ⟨p, l, z, rs, names, rfl, _⟩ := h
    rfl
  · obtain ⟨p, l, z, rs, names, rfl, hd, hl, pr, ln, q⟩ := h
    have hu := hu_of hr
    refine ⟨_, pss_one (ps_ret (pe_lc (own := [("_law_each", 2)]) (g := gName 2) (te := tOp (rIxT K) (tVar 2) (tC (.int 0))) (by rfl) scCld.nd (pi_list (pe_dget hu (pv 0) (pv 1) (fun _ _ => rfl))) (blkOk_by (own := [("_law_each", 2)]) (N := ["_law_sketch", "_law_part", "_law_each"]) (sc := defScope sCld) (by decide +kernel)) (fun _ _ _ _ _ => pg_name (i := 2) scCld.nd rfl (Or.inl rfl)) (fun _ _ _ _ _ => pts_nil)
      (fun _ _ _ _ _ => pe_ix ix_tup (pv 2) pe_int (fun _ _ => rfl)))), ?_⟩
    have lr : rs.length = names.length := Paired.size pr
    have sz := sizeLine_eq
    refine ⟨_, rfl, _, rfl, p, _, rfl, hd, l, rfl, ⟨_, SqL.of hl⟩, fun D hD => lc_list (K := K) (a := l) (xs := rs) (fun i G => Ex H G ∧ G D = some (.lst ((names.take i).map V.str))) ⟨Ex.refl.new hD, upd_same⟩ (fun i G _ h => SqL.of (h.1 _ _ hl)) ?_ ?_⟩
    · rintro i v G hv ⟨xG, eG⟩
      obtain ⟨n, hn, a, xs, rfl, ea⟩ := Paired.spot pr hv
      refine ⟨rfl, _, rfl, a, _, _, _, rfl, rfl, SqT.of (xG _ _ ea), atI_nat (j := 0) rfl, _, eG, by rw [List.length_map, List.length_take]; omega, xG.put hD, ?_⟩
      rw [upd_same, List.take_succ, hn, List.map_append]
      rfl
    · rintro G ⟨xG, eG⟩
      rw [lr, List.take_length] at eG
      exact q D G xG hD eG
theorem ok_tab {f fD fO fL : Addr} {fd fdD fdO fdL : FuncData} (F : Fun K "_law_table" "_law_table" sTab f fd) (T : BltT mg)
    (GD : FnOk P w K mg base CX0 1 fD fdD ["_law_jar_here", "_law_top"] spDip) (mD : mg "_law_tap" = some (.ref fD)) (kD : PySem.W.keepIn K (.ref fD) = true) (bD : Binds K fdD ["_law_jar_here", "_law_top"] [])
    (GO : FnOk P w K mg base CX0 2 fO fdO ["_law_jar_here", "_law_things"] spOne) (mO : mg "_law_one" = some (.ref fO)) (kO : PySem.W.keepIn K (.ref fO) = true) (bO : Binds K fdO ["_law_jar_here", "_law_things"] [])
    (GL : FnOk P w K mg base CX0 1 fL fdL ["_law_sketch", "_law_part"] spCld) (mL : mg "_law_called" = some (.ref fL)) (kL : PySem.W.keepIn K (.ref fL) = true) (bL : Binds K fdL ["_law_sketch", "_law_part"] []) :
    FnOk P w K mg base CX0 3 f fd ["_law_jar_here", "_law_sketch", "_law_share"] (spTab C) := by
  refine F.ok scTab (fun vs H Q E h => ?_) (fun cdv A outer s H vs Q E hr h => ?_)
  · obtain ⟨j, p, sh, W, rfl, _⟩ := h
    rfl
  · obtain ⟨j, p, sh, W, rfl, J, sk, g, k⟩ := h
    have hr1 : Room 1 _ := hr.mono (by decide)
    refine ⟨_, pss_cons (ps_par (i := 3) (j := 4) (by rfl) scTab.nd rfl rfl (by decide) rfl rfl (pa_cons (pe_call GL hr1 (by rfl) mL kL bL .nil pass0 (pa_cons (pv 1) (pa_cons pe_str pa_nil))) (pa_cons (pe_lst pa_nil) pa_nil)) (by rfl))
      (pss_cons (ps_for PassesOwn.never rfl (pi_list (pv 3)) (pg_name (i := 5) scTab.nd rfl (Or.inl rfl)) (pss_one
        (ps_for PassesOwn.never rfl (pi_list (pv 3)) (pg_name (i := 6) scTab.nd rfl (Or.inl rfl)) (pss_one
          (ps_if (pt_cmpR op_lt (pe_call GD hr1 (by rfl) mD kD bD .nil pass0 (pa_cons (pv 0) (pa_cons pe_int pa_nil))) (pv 2) (nomark _))
            (pss_cons (ps_set (i := 7) scTab.nd rfl (Or.inl rfl) (pe_call GO hr (by rfl) mO kO bO .nil pass0 (pa_cons (pv 0) (pa_cons (pe_op op_cat (pe_call GL hr1 (by rfl) mL kL bL .nil pass0 (pa_cons (pv 1) (pa_cons pe_str pa_nil))) (pe_lst (pa_cons pe_str pa_nil))) pa_nil))))
            (pss_one (ps_expr (pe_bm PySem.F.plainAttrs_list PySem.F.slot_list_insert PySem.F.type_list_insert mt_insert (pv 4) (pa_cons (pe_call GD hr1 (by rfl) mD kD bD .nil pass0 (pa_cons (pv 0) (pa_cons (pe_op op_add (pe_callB call_len_seq (by rfl) T.len (by decide +kernel) (pa_cons (pv 4) pa_nil)) pe_int) pa_nil))) (pa_cons (pe_tup (pa_cons (pv 5) (pa_cons (pv 6) (pa_cons (pv 7) pa_nil)))) pa_nil)))))) pss_nil)))))
      (pss_one (ps_ret (pv 4)))), ?_⟩
    have sz := sizeLine_eq
    have gf := g.f
    have l4 : W.ps.length ≤ 4 := g.p4
    have c3 : W.cs.length ≤ 3 := g.c3
    have nd : (W.ps.map (·.1)).Nodup := ((List.nodup_append.mp (List.nodup_append.mp (List.nodup_append.mp gf.nd).2.1).2.1).2.1)
    generalize hns : W.ps.map (·.1) = ns at nd
    have ln : ns.length ≤ 4 := by
      rw [← hns, List.length_map]
      exact l4
    obtain ⟨lp, rp, dp1, dp2, dp3, dp4⟩ := cld_p sk gf
    refine ⟨_, rfl, p, lp, _, rp, _, rfl, dp1, dp2, dp3, dp4, fun L H1 x1 nL eL => ⟨Nat.zero_le _, fun F nF => ?_⟩⟩
    rw [hns] at eL
    have J1 := jar_ex x1 J
    have b1 : But j H H1 := But.ex x1
    have nLF : L ≠ F := ne_of_none eL nF
    have mF := J1.ne nF
    have mL : L ≠ j := fun z => by
      obtain ⟨u, v, c, w, _⟩ := J
      rw [z, w] at nL
      cases nL
    have eF2 : (upd H1 F (.lst [])) F = some (.lst []) := upd_same
    have start : TabI W ns F H1 j 0 0 (upd H1 F (.lst [])) := ⟨J1.new nF, But.refl.new nF, [], [], [], eF2, .nil, ⟨(fun _ z => nomatch z), List.nodup_nil, (fun _ z => nomatch z), Nat.le_refl _⟩, Nat.le_refl _, fun _ z => nomatch z⟩
    have eL2 : (upd H1 F (.lst [])) L = some (.lst (ns.map V.str)) := by
      rw [upd_ne nLF]
      exact eL
    generalize upd H1 F (.lst []) = H2 at start eL2 ⊢
    have keepL : ∀ {i k : Nat} {G : Hp}, TabI W ns F H1 j i k G → G L = some (.lst (ns.map V.str)) := fun h => h.2.1 _ _ mL eL
    have lm : (ns.map V.str).length = ns.length := List.length_map ..
    refine ⟨_, _, rfl, ?_⟩
    refine ⟨_, rfl, L, rfl, ⟨_, SqL.of eL2⟩, for_list (K := K) (a := L) (xs := ns.map V.str) (fun i σ G => (∃ v5 v6 v7 : Option V, σ = [some (.ref j), some (.ref p), some (.int sh), some (.ref L), some (.ref F), v5, v6, v7]) ∧ TabI W ns F H1 j i 0 G)
      ⟨⟨_, _, _, rfl⟩, start⟩ (fun i σ G _ h => SqL.of (keepL h.2)) ?_ ?_⟩
    · rintro i y σ G hy ⟨⟨v5, v6, v7, rfl⟩, tG⟩
      rw [List.getElem?_map] at hy
      obtain ⟨a, ha, rfl⟩ := Option.map_eq_some_iff.mp hy
      refine ⟨_, rfl, L, rfl, ⟨_, SqL.of (keepL tG)⟩, for_list (K := K) (a := L) (xs := ns.map V.str) (fun k σ G => (∃ v6 v7 : Option V, σ = [some (.ref j), some (.ref p), some (.int sh), some (.ref L), some (.ref F), some (.str a), v6, v7]) ∧ TabI W ns F H1 j i k G)
        ⟨⟨_, _, rfl⟩, tG⟩ (fun i σ G _ h => SqL.of (keepL h.2)) ?_ ?_⟩
      · rintro k y σ G hy ⟨⟨v6, v7, rfl⟩, tG⟩
        rw [List.getElem?_map] at hy
        obtain ⟨b, hb, rfl⟩ := Option.map_eq_some_iff.mp hy
        obtain ⟨JG, bG, vals, wss, vis, hF, pr, dr, lv, hv⟩ := tG
        have li : i < ns.length := (List.getElem?_eq_some_iff.mp ha).1
        have lk : k < ns.length := (List.getElem?_eq_some_iff.mp hb).1
        have lw := dr.len
        have lvals := Paired.size pr
        have tk : ns.take (k + 1) = ns.take k ++ [b] := by
          rw [List.take_succ, hb]
          rfl
        have hv1 : ∀ v ∈ vis, ∃ a b : Str, v = [a, b] ∧ (a ∈ ns.take i ∨ (ns[i]? = some a ∧ b ∈ ns.take (k + 1))) := fun v h => by
          obtain ⟨a, b, e, q⟩ := hv v h
          refine ⟨a, b, e, q.imp id fun z => ⟨z.1, ?_⟩⟩
          rw [tk]
          exact List.mem_append_left _ z.2
        refine ⟨_, rfl, j, 10, rfl, JG, by decide, by decide, fun r G1 r0 r1 J1' b1' => ?_⟩
        refine ⟨_, rfl, _, _, rfl, rfl, _, rfl, ?_⟩
        have skG := sk.but J (b1.trans bG)
        have bG1 := bG.trans b1'
        have hF1 := b1' _ _ mF hF
        refine ite2 (fun _ => ?_) (fun _ => ?_)
        · have skG1 := skG.but JG b1'
          obtain ⟨lc, rc, dc1, dc2, dc3, dc4⟩ := cld_c skG1 gf
          refine ⟨_, rfl, _, rfl, p, lc, _, rc, _, rfl, dc1, dc2, dc3, dc4, fun D1 G2 x2 nD1 e1 => ⟨big100 (Nat.le_of_ble_eq_true rfl), fun l nl => ?_⟩⟩
          have nl1 : D1 ≠ l := ne_of_none e1 nl
          refine ⟨D1, l, _, _, rfl, rfl, by rw [upd_ne nl1]; exact e1, upd_same, by rw [List.length_map, List.length_map]; show _ + 1 ≤ _; omega, fun q nq => ?_⟩
          have x3 : Ex G2 (upd (upd G2 l (.lst [.str (Str.ofString "-")])) q (.lst (((W.cs.map (·.1)).map V.str) ++ [.str (Str.ofString "-")]))) := (Ex.refl.new nl).new nq
          have e3 : (upd (upd G2 l (.lst [.str (Str.ofString "-")])) q (.lst (((W.cs.map (·.1)).map V.str) ++ [.str (Str.ofString "-")]))) q = some (.lst ((W.cs.map (·.1) ++ [dash]).map V.str)) := by
            rw [List.map_append]
            exact upd_same
          generalize upd (upd G2 l (.lst [.str (Str.ofString "-")])) q (.lst (((W.cs.map (·.1)).map V.str) ++ [.str (Str.ofString "-")])) = G3 at x3 e3 nq ⊢
          have x13 := x2.trans x3
          have J3 := jar_ex x13 J1'
          have mq : q ≠ j := ((jar_ex x2 J1').new nl).ne nq
          refine ⟨j, q, _, rfl, J3, e3, mq, by rw [List.length_map, List.length_append, List.length_singleton]; omega, by rw [List.length_map, List.length_append, List.length_singleton, List.length_map]; omega, fun m v G4 hvv J4 b4 => ?_⟩
          obtain ⟨c, hc, rfl⟩ : ∃ c : Str, c ∈ W.cs.map (·.1) ++ [dash] ∧ v = .str c := by
            have h := List.mem_of_getElem? hvv
            obtain ⟨c, hc, rfl⟩ := List.mem_map.mp h
            exact ⟨c, hc, rfl⟩
          have b14 : But j G1 G4 := (But.ex x13).trans b4
          have hF4 := b14 _ _ mF hF1
          refine ⟨_, rfl, .inl ⟨rfl, _, SqL.of hF4⟩, _, rfl, _, rfl, F, _, rfl, .inl (SqL.of hF4), _, _, rfl, rfl, ?_⟩
          refine ⟨j, _, rfl, J4, by omega, by omega, fun t G5 t0 t1 J5 b5 => ?_⟩
          have hF5 := b5 _ _ mF hF4
          refine ⟨_, rfl, _, rfl, _, rfl, big100 (Nat.le_of_ble_eq_true rfl), fun q2 nq2 => ?_⟩
          have e6 : (upd G5 q2 (.tup [.str a, .str b, .str c])) q2 = some (.tup ([a, b, c].map V.str)) := upd_same
          have x6 : Ex G5 (upd G5 q2 (.tup [.str a, .str b, .str c])) := Ex.refl.new nq2
          have J6 : JarAt (upd G5 q2 (.tup [.str a, .str b, .str c])) j := J5.new nq2
          have b6 : But j G1 (upd G5 q2 (.tup [.str a, .str b, .str c])) := (b14.trans b5).new nq2
          have hF6 := x6 _ _ hF5
          generalize upd G5 q2 (.tup [.str a, .str b, .str c]) = G6 at e6 x6 J6 b6 hF6 ⊢
          refine ⟨F, vals, t, .ref q2, rfl, rfl, hF6, by omega, t0, by omega, ?_⟩
          refine ⟨⟨_, _, rfl⟩, J6.put mF, (bG1.trans b6).put ?_, vals.take t.toNat ++ [.ref q2] ++ vals.drop t.toNat, wss.take t.toNat ++ [[a, b, c]] ++ wss.drop t.toNat, vis ++ [[a, b]], upd_same, ?_, ?_, ?_, ?_⟩
          · exact nF
          · have t6 : Tup G (upd G6 F (.lst (vals.take t.toNat ++ [.ref q2] ++ vals.drop t.toNat))) := (Tup.of JG (b1'.trans b6)).trans (Tup.put hF6)
            have pr6 : Paired (RowW (upd G6 F (.lst (vals.take t.toNat ++ [.ref q2] ++ vals.drop t.toNat)))) vals wss := L2.Paired.mapP pr fun _ _ z => z.tup t6
            exact Paired.ins pr6 ⟨q2, rfl, (Tup.put hF6) _ _ e6⟩
          · refine dr.ins (fun z => ?_) ?_
            · obtain ⟨a', b', e, q⟩ := hv _ z
              injection e with e1 e2
              injection e2 with e2 _
              subst e1
              subst e2
              rcases q with q | ⟨_, q⟩
              · exact not_mem_take nd ha q
              · exact not_mem_take nd hb q
            · show (isOf (W.ps.map (·.1)) (.str a) && (isOf (W.ps.map (·.1)) (.str b) && isCl W (.str c))) = true
              rw [hns]
              have h1 : isOf ns (.str a) = true := List.elem_eq_true_of_mem (List.mem_of_getElem? ha)
              have h2 : isOf ns (.str b) = true := List.elem_eq_true_of_mem (List.mem_of_getElem? hb)
              rw [h1, h2, Bool.true_and, Bool.true_and]
              unfold isCl
              rcases List.mem_append.mp hc with h | h
              · have : isOf (W.cs.map (·.1)) (.str c) = true := List.elem_eq_true_of_mem h
                rw [this, Bool.true_or]
              · rw [List.mem_singleton.mp h, decide_eq_true rfl, Bool.or_true]
          · rw [List.length_append, List.length_singleton]
            omega
          · intro v hvm
            rcases List.mem_append.mp hvm with h | h
            · exact hv1 v h
            · refine ⟨a, b, List.mem_singleton.mp h, .inr ⟨ha, ?_⟩⟩
              rw [tk]
              exact List.mem_append_right _ (List.mem_cons_self ..)
        · exact ⟨⟨_, _, rfl⟩, J1', bG1, vals, wss, vis, hF1, L2.Paired.mapP pr (fun _ _ z => z.tup (Tup.of JG b1')), dr, by omega, hv1⟩
      · rintro σ G ⟨⟨v6, v7, rfl⟩, tG⟩
        rw [lm] at tG
        exact ⟨⟨_, _, _, rfl⟩, tG.row ln⟩
    · rintro σ G ⟨⟨v5, v6, v7, rfl⟩, tG⟩
      rw [lm] at tG
      obtain ⟨JG, bG, vals, wss, vis, hF, pr, dr, lv, hv⟩ := tG
      have := dr.len
      refine ⟨_, rfl, k F vals wss G hF pr dr.tab (by omega) JG (b1.trans bG) ?_⟩
      cases e : H F with
      | none => rfl
      | some o =>
        rw [x1 _ _ e] at nF
        cases nF
end
end LJ
set_option Elab.async false
set_option linter.all false
set_option maxRecDepth 100000
set_option maxHeartbeats 8000000
namespace LJ
open PySem PySem.Spec L2 PySem.ErrV
open LamX (ExtN)
open NdefX (NTab TabsN)
/-! Rule.__init__ over a text and a tuple of rows of texts. -/
def rmeth (i : Nat) : Stmt := (clsBody (top 46)).getD i (.Pass ⟨0, 0, 0, 0⟩)
abbrev sRi : Stmt := rmeth 0
abbrev nl : Str := Str.ofString "\n"
abbrev wRule : Str := Str.ofString "rule "
structure RCls (K : PySem.W.Frag) (C : Addr) : Prop where
  cl : Cls K C
  n1 : NoAttr K C "_works"
  n2 : NoAttr K C "_machine"
  n3 : NoAttr K C "_table"
  n4 : NoAttr K C "_let"
  n5 : NoAttr K C "_text"
def rlines (m : Str) (wss : List (List Str)) : List Str := (Str.empty ++ wRule ++ m) :: wss.map (Txt.join sp1)
def rtext (m : Str) (wss : List (List Str)) : Str := Txt.join nl (rlines m wss)
def letS (wss : List (List Str)) : List (List Key × Str) := wss.map fun ws => ((ws.take 2).map Sum.inr, ws.getD 2 Str.empty)
/-- what a made Rule holds -/
structure RuleAt (RC C : Addr) (H : Hp) (y x : Addr) (W : Wd) (m : Str) (t : Addr) (wss : List (List Str)) : Prop where
  wk : WkD C H x W
  at_ : ∃ (dy D : Addr) (rs : List V), H y = some (.ins RC dy [("_works", .ref x), ("_machine", .str m), ("_table", .ref t), ("_let", .ref D), ("_text", .str (rtext m wss))]) ∧ H t = some (.tup rs) ∧ Paired (RowW H) rs wss ∧ H D = some (.dT ((letS wss).map strV))
theorem WkD.but {C x y PC dy : Addr} {fs : List (Str × V)} {W : Wd} {H H1 : Hp} (hy : H y = some (.ins PC dy fs)) (ne : y ≠ x) (b : But y H H1) (h : WkD C H x W) : WkD C H1 x W := by
  obtain ⟨am, ac, as, ap, ⟨dx, D1, D2, D3, D4, b1, b2, v4, hx, ⟨g1, g2⟩, ⟨g3, g4⟩, g5, g6, g7⟩, ⟨⟨v1, m1, m2⟩, ⟨v2, m3, m4⟩, ⟨v3, m5, m6⟩, ⟨v5, m7, m8⟩⟩⟩ := h
  have t := But.tup hy b
  have k : ∀ {a : Addr} {kvs : List (Key × V)}, H a = some (.dK kvs) → H1 a = some (.dK kvs) := fun {a kvs} e => b a _ (ne_of e hy fun z => nomatch z) e
  refine ⟨am, ac, as, ap, ⟨dx, D1, D2, D3, D4, b1, b2, v4, b x _ ne.symm hx, ⟨k g1, bnds t g2⟩, ⟨k g3, bnds t g4⟩, k g5, k g6, L2.Paired.mapP g7 fun v q z => ?_⟩, ⟨⟨v1, t _ _ m1, rows3 t m2⟩, ⟨v2, t _ _ m3, rows3 t m4⟩, ⟨v3, t _ _ m5, rows2 t m6⟩, ⟨v5, t _ _ m7, rowsP t m8⟩⟩⟩
  obtain ⟨Dp, ys, z1, z2, z3⟩ := z
  exact ⟨Dp, ys, z1, k z2, bnds t z3⟩
theorem let_put {wss : List (List Str)} {a b c : Str} (h : [a, b] ∉ wss.map (·.take 2)) : putK ((letS wss).map strV) [.inr a, .inr b] (.str c) = (letS (wss ++ [[a, b, c]])).map strV := by
  rw [put_new]
  · unfold letS
    rw [List.map_append, List.map_append]
    rfl
  · intro z
    obtain ⟨kv, hkv, e⟩ := List.mem_map.mp z
    obtain ⟨p, hp, rfl⟩ := List.mem_map.mp hkv
    obtain ⟨us, hu, rfl⟩ := List.mem_map.mp hp
    exact h (List.mem_map.mpr ⟨us, hu, inr_inj (b := [a, b]) e⟩)
theorem sum_bound {xs : List Nat} {b : Nat} (h : ∀ x ∈ xs, x ≤ b) : xs.sum ≤ xs.length * b := by
  induction xs with
  | nil => simp
  | cons x xs ih =>
    rw [List.sum_cons, List.length_cons, Nat.succ_mul]
    have h1 := h x (List.mem_cons_self ..)
    have h2 := ih fun y hy => h y (List.mem_cons_of_mem _ hy)
    omega
theorem join3 {p : Str} {ws : List Str} (one : p.length = 1) (w3 : ws.length = 3) (w8 : ∀ z ∈ ws, z.length ≤ 8) : (Txt.join p ws).length ≤ 100 := by
  have h := join_len (sep := p) (ys := ws)
  have sb := sum_bound (xs := ws.map (fun x => x.length)) (b := 8) (fun n hn => by
    obtain ⟨z, hz, rfl⟩ := List.mem_map.mp hn
    exact w8 z hz)
  rw [List.length_map, w3] at sb
  rw [w3, one] at h
  rw [h]
  have : (ws.map (·.length)).sum = (ws.map (fun x => x.length)).sum := rfl
  omega
def spRi (K : PySem.W.Frag) (RC C CU cB : Addr) : Sp := fun vs H Q E => ∃ (y dy x t : Addr) (m : Str) (W : Wd) (rs : List V) (wss : List (List Str)), vs = [.ref y, .ref x, .str m, .ref t] ∧ H y = some (.ins RC dy []) ∧ WkD C H x W ∧ GoodF W ∧ m.length ≤ sizeLine ∧
  H t = some (.tup rs) ∧ Paired (RowW H) rs wss ∧ (∀ ws ∈ wss, ∀ z ∈ ws, z.length ≤ sizeLine) ∧ wss.length ≤ 100000 ∧
  (m ∉ W.ms.map (·.1) → Raised CU "given" (.str m) H E) ∧ (m ∈ W.ms.map (·.1) → ¬ tabOk W wss → ∀ i : Int, Raised cB "index" (.int i) H E) ∧
  (m ∈ W.ms.map (·.1) → tabOk W wss → ∀ H1, But y H H1 → RuleAt RC C H1 y x W m t wss → Q .non H1)
section
variable {P : Program} {w : World} {K : PySem.W.Frag} {mg : Str → Option Value} {base : Heap} {C RC CU cB : Addr}
abbrev nRi : List Str := ["self", "works", "machine", "table", "first", "second", "cleaning", "lines", "row"]
theorem scRi : FnScope nRi ["self", "works", "machine", "table"] (defScope sRi) := ⟨rfl, rfl, rfl, by decide +kernel, rfl, by decide +kernel, by decide +kernel⟩
def teJr (K : PySem.W.Frag) : TE := tM1 (fun x xs H Q => ∃ a p ys, x = .str a ∧ xs = [.ref p] ∧ (SqL K H p (ys.map V.str) ∨ SqT K H p (ys.map V.str)) ∧ (ys.map (fun x => x.length)).sum + ys.length * a.length ≤ 16777216 ∧ Q (.str (Txt.join a ys)) H) (tC (.str sp1)) (tVar 8)
theorem ok_ri {f fW fN fT : Addr} {fd fdW fdN fdT : FuncData} (F : Fun K "__init__" "Rule.__init__" sRi f fd) (c : RCls K RC) (cw : WCls K C)
    (PM : PrW P w K mg base C "machines" "_machines")
    (GW : FnOk P w K mg base CX0 1 fW fdW ["works"] (spCw C)) (mW : mg "check_works" = some (.ref fW)) (kW : PySem.W.keepIn K (.ref fW) = true) (bW : Binds K fdW ["works"] [])
    (GN : FnOk P w K mg base (L2N.CX P w) 2 fN fdN ["rows", "value"] (spCn K CU)) (mN : mg "check_name" = some (.ref fN)) (kN : PySem.W.keepIn K (.ref fN) = true) (bN : Binds K fdN ["rows", "value"] [])
    (GT : FnOk P w K mg base (L2N.CX P w) 5 fT fdT ["works", "table"] (spCt C cB)) (mT : mg "_check_table" = some (.ref fT)) (kT : PySem.W.keepIn K (.ref fT) = true) (bT : Binds K fdT ["works", "table"] []) :
    FnOk P w K mg base (L2N.CX P w) 6 f fd ["self", "works", "machine", "table"] (spRi K RC C CU cB) := by
  refine F.okC scRi (fun vs H Q E h => ?_) (fun cdv A outer s H vs Q E hr h => ?_)
  · obtain ⟨y, dy, x, t, m, W, rs, wss, rfl, _⟩ := h
    rfl
  · obtain ⟨y, dy, x, t, m, W, rs, wss, rfl, hy, wk, g, lm, ht, pr, hz, lw, bad1, bad2, good⟩ := h
    obtain ⟨p1, g1, fd1, P1, G1, b1⟩ := PM
    have hr1 : Room 1 _ := hr.mono (by decide)
    have hr2 : Room 2 _ := hr.mono (by decide)
    have hu := hu_of hr
    refine ⟨_, pss_cons (ps_expr (pe_call GW hr1 (by rfl) mW kW bW .nil pass0 (pa_cons (pv 1) pa_nil)))
      (pss_cons (ps_expr (pe_call GN hr2 (by rfl) mN kN bN .nil (L2N.passes_call (W := fun cls d _ H => E cls d H) (L2N.takes_of rfl rfl rfl rfl) (fun _ _ _ _ z => z)) (pa_cons (pe_prop (pv 1) cw.cl P1 G1 hr2 b1 .nil pass0 (by rfl)) (pa_cons (pv 2) pa_nil))))
      (pss_cons (ps_expr (pe_call GT hr (by rfl) mT kT bT .nil (L2N.passes_call (W := fun cls d _ H => E cls d H) (L2N.takes_of rfl rfl rfl rfl) (fun _ _ _ _ z => z)) (pa_cons (pv 1) (pa_cons (pv 3) pa_nil))))
      (pss_cons (ps_fld (pv 0) (pv 1) rfl)
      (pss_cons (ps_fld (pv 0) (pv 2) rfl)
      (pss_cons (ps_fld (pv 0) (pv 3) rfl)
      (pss_cons (ps_fld (pv 0) (pe_dcT (own := [("first", 4), ("second", 5), ("cleaning", 6)]) (g := gTup K 3 (gCons (gName 4) (gCons (gName 5) (gCons (gName 6) gNil)))) (tk := tTup (tCons (tVar 4) (tCons (tVar 5) tNil))) (tv := tVar 6) (by exact Nat.lt_of_succ_lt hu) (by rfl) scRi.nd (pi_tup (pv 3)) (blkOk_by (own := [("first", 4), ("second", 5), ("cleaning", 6)]) (N := nRi) (sc := defScope sRi) (by decide +kernel))
          (fun _ _ _ _ _ => pg_tup (by rfl) (pgs_cons (pg_name (i := 4) scRi.nd rfl (Or.inl rfl)) (pgs_cons (pg_name (i := 5) scRi.nd rfl (Or.inl rfl)) (pgs_cons (pg_name (i := 6) scRi.nd rfl (Or.inl rfl)) pgs_nil)))) (fun _ _ _ _ _ => pts_nil) (fun _ _ _ _ _ => pe_tup (pa_cons (pv 4) (pa_cons (pv 5) pa_nil))) (fun _ _ _ _ _ => pv 6)) rfl)
      (pss_cons (ps_set (i := 7) scRi.nd rfl (Or.inl rfl) (pe_op op_cat (pe_lst (pa_cons (pe_joined (.cons pe_str (.cons (pe_fmt (pv 2)) .nil))) pa_nil)) (pe_lc (own := [("row", 8)]) (g := gName 8) (te := teJr K) (by rfl) scRi.nd (pi_tup (pv 3)) (blkOk_by (own := [("row", 8)]) (N := nRi) (sc := defScope sRi) (by decide +kernel)) (fun _ _ _ _ _ => pg_name (i := 8) scRi.nd rfl (Or.inl rfl)) (fun _ _ _ _ _ => pts_nil)
          (fun _ _ _ _ _ => pe_join pe_str (pv 8)))))
      (pss_one (ps_fld (pv 0) (pe_join pe_str (pv 7)) rfl))))))))), ?_⟩
    have sz := sizeLine_eq
    have lr : rs.length = wss.length := Paired.size pr
    obtain ⟨am, ac, as, ap, ⟨dx, D1, D2, D3, D4, bb1, bb2, v4, hx, _⟩, ⟨⟨vm, hm, pm⟩, _⟩⟩ := wk.at_
    have nyx : y ≠ x := fun z => by
      rw [z, hx] at hy
      cases hy
    have lms : W.ms.length ≤ 6 := g.m2
    refine ⟨_, rfl, x, dx, _, rfl, hx, ?_⟩
    refine ⟨_, rfl, x, dx, _, rfl, hx, x, dx, _, _, rfl, hx, rfl, _, rfl, am, .str m, vm, W.ms.map (·.1), rfl, hm, named3 pm, by rw [List.length_map]; omega, .str m lm, fun im H0 x0 => ?_, fun im => ?_⟩
    rotate_left
    · exact bad1 fun z => by
        rw [isOf, List.contains_iff_mem.mpr z] at im
        cases im
    have mm : m ∈ W.ms.map (·.1) := List.mem_of_elem_eq_true im
    refine ⟨_, rfl, _, rfl, x, t, W, rs, wss, rfl, wk.ex x0, g, x0 _ _ ht, L2.Paired.mapP pr (fun _ _ z => z.tup (Ex.tup x0)), hz, by omega, fun tab H1 x1 => ?_, fun tab i H2 d x2 e2 => bad2 mm tab i H2 d (x0.trans x2) e2⟩
    have x01 := x0.trans x1
    have q := good mm tab
    clear bad1 bad2 good
    have hy1 := x01 _ _ hy
    refine ⟨_, rfl, _, rfl, y, RC, dy, _, rfl, hy1, c.cl, c.n1, (by decide : (0 : Nat) < 1000), ?_⟩
    refine ⟨_, rfl, _, rfl, y, RC, dy, _, rfl, upd_same, c.cl, c.n2, (by decide : (1 : Nat) < 1000), ?_⟩
    rw [upd_upd]
    refine ⟨_, rfl, _, rfl, y, RC, dy, _, rfl, upd_same, c.cl, c.n3, (by decide : (2 : Nat) < 1000), ?_⟩
    rw [upd_upd]
    show tSeq _ _ _ _ (upd H1 y (.ins RC dy [("_works", .ref x), ("_machine", .str m), ("_table", .ref t)]))
    have B2 : But y H1 (upd H1 y (.ins RC dy [("_works", .ref x), ("_machine", .str m), ("_table", .ref t)])) := But.self
    have X2 : (upd H1 y (.ins RC dy [("_works", .ref x), ("_machine", .str m), ("_table", .ref t)])) y = some (.ins RC dy [("_works", .ref x), ("_machine", .str m), ("_table", .ref t)]) := upd_same
    generalize upd H1 y (.ins RC dy [("_works", .ref x), ("_machine", .str m), ("_table", .ref t)]) = H2 at B2 X2 ⊢
    have B02 : But y H H2 := (But.ex x01).trans B2
    have t2 := But.tup hy B02
    have pr2 : Paired (RowW H2) rs wss := L2.Paired.mapP pr (fun _ _ z => z.tup t2)
    have ht2 := t2 _ _ ht
    -- the dict
    refine ⟨_, rfl, t, rfl, ⟨_, SqT.of ht2⟩, fun D hD => dcT_it (walk_tup (K := K) (a := t) (xs := rs)) (fun i G => Ex H2 G ∧ G D = some (.dT ((letS (wss.take i)).map strV))) ⟨Ex.refl.new hD, upd_same⟩ (fun i G _ h => SqT.of (h.1 _ _ ht2)) ?_ ?_⟩
    · rintro i v G G' hi ⟨xG, eG⟩ ⟨rfl, hv⟩
      obtain ⟨ws, hws, r, rfl, hrw⟩ := Paired.spot pr2 hv
      have mem := List.mem_of_getElem? hws
      obtain ⟨a, b, cl, rfl, _⟩ := rowOk_3 (tab.1 ws mem)
      refine ⟨_, _, rfl, SqT.of (xG _ _ hrw), rfl, _, _, rfl, _, _, rfl, _, _, rfl, rfl, rfl, ?_⟩
      refine ⟨_, rfl, _, rfl, Nat.le_of_lt (by rw [sz]; exact (by decide : 2 < 16777216)), fun p np => ?_⟩
      have ep : (upd G' p (.tup [.str a, .str b])) p = some (.tup (([.inr a, .inr b] : List Key).map kV)) := upd_same
      have xp : Ex G' (upd G' p (.tup [.str a, .str b])) := Ex.refl.new np
      generalize upd G' p (.tup [.str a, .str b]) = G2 at ep xp ⊢
      refine ⟨_, rfl, _, [.inr a, .inr b], p, rfl, ep, xp _ _ eG, ?_, ?_, ?_⟩
      · unfold letS
        rw [List.length_map, List.length_map, List.length_take]
        omega
      · exact fun b o hb => by
          rw [upd_ne (ne_of_none hb hD)]
          exact (xG.trans xp) b o hb
      · have e1 : (wss.map (·.take 2))[i]? = some [a, b] := by rw [List.getElem?_map, hws]; rfl
        rw [upd_same, let_put (by rw [List.map_take]; exact not_mem_take tab.2 e1), List.take_succ, hws]
        rfl
    rintro G ⟨xG, eG⟩
    rw [lr, List.take_length] at eG
    have hy3 := xG _ _ X2
    refine ⟨_, rfl, y, RC, dy, _, rfl, hy3, c.cl, c.n4, (by decide : (3 : Nat) < 1000), ?_⟩
    show tSeq _ _ _ _ (upd G y (.ins RC dy [("_works", .ref x), ("_machine", .str m), ("_table", .ref t), ("_let", .ref D)]))
    have B4 : But y G (upd G y (.ins RC dy [("_works", .ref x), ("_machine", .str m), ("_table", .ref t), ("_let", .ref D)])) := But.self
    have X4 : (upd G y (.ins RC dy [("_works", .ref x), ("_machine", .str m), ("_table", .ref t), ("_let", .ref D)])) y = some (.ins RC dy [("_works", .ref x), ("_machine", .str m), ("_table", .ref t), ("_let", .ref D)]) := upd_same
    have nyD : D ≠ y := fun z => by
      rw [z, hy3] at eG
      cases eG
    have eD4 := B4 _ _ nyD eG
    generalize upd G y (.ins RC dy [("_works", .ref x), ("_machine", .str m), ("_table", .ref t), ("_let", .ref D)]) = H4 at B4 X4 eD4 ⊢
    have B04 : But y H H4 := (B02.trans (But.ex xG)).trans B4
    have t4 := But.tup hy B04
    have pr4 : Paired (RowW H4) rs wss := L2.Paired.mapP pr (fun _ _ z => z.tup t4)
    have ht4 := t4 _ _ ht
    -- the lines
    have l8 : ∀ {z : Str}, z ∈ W.ms.map (·.1) ++ (W.cs.map (·.1) ++ (W.ss.map (·.1) ++ W.ps.map (·.1))) → z.length ≤ 8 := fun h => isW_8 (g.nm _ h)
    have lm8 : m.length ≤ 8 := l8 (List.mem_append_left _ mm)
    have hl : (Str.empty ++ Str.ofString "rule ").length = 5 := by decide +kernel
    have row8 : ∀ ws ∈ wss, ws.length = 3 ∧ ∀ z ∈ ws, z.length ≤ 8 := fun ws hw => by
      obtain ⟨a, b, cl, rfl, h1, h2, h3⟩ := rowOk_3 (tab.1 ws hw)
      have g1 := l8 (List.mem_append_right _ (List.mem_append_right _ (List.mem_append_right _ h1)))
      have g2 := l8 (List.mem_append_right _ (List.mem_append_right _ (List.mem_append_right _ h2)))
      have g3 : cl.length ≤ 8 := by
        rcases h3 with h | h
        · exact l8 (List.mem_append_right _ (List.mem_append_left _ h))
        · rw [h]
          decide +kernel
      refine ⟨rfl, fun z hz => ?_⟩
      simp only [List.mem_cons, List.not_mem_nil, or_false] at hz
      rcases hz with rfl | rfl | rfl
      · exact g1
      · exact g2
      · exact g3
    have l5 : (Str.empty ++ Str.ofString "rule " ++ m).length ≤ 13 := by
      rw [Str.length_append, hl]
      omega
    have one : sp1.length = 1 := by decide +kernel
    have onen : nl.length = 1 := by decide +kernel
    refine ⟨_, rfl, by rw [hl, sz]; decide, _, rfl, .inl ⟨m, rfl, by omega, m, rfl, by omega, ?_⟩⟩
    refine ⟨(by rw [sz]; exact (by decide : 1 ≤ 16777216)), fun L1 hL1 => ?_⟩
    have eL1 : (upd H4 L1 (.lst [.str (Str.empty ++ Str.ofString "rule " ++ m)])) L1 = some (.lst [.str (Str.empty ++ wRule ++ m)]) := upd_same
    have xL1 : Ex H4 (upd H4 L1 (.lst [.str (Str.empty ++ Str.ofString "rule " ++ m)])) := Ex.refl.new hL1
    generalize upd H4 L1 (.lst [.str (Str.empty ++ Str.ofString "rule " ++ m)]) = H5 at eL1 xL1 ⊢
    refine ⟨_, rfl, t, rfl, ⟨_, SqT.of (xL1 _ _ ht4)⟩, fun D2 hD2 => lc_tup (K := K) (a := t) (xs := rs) (fun i G => Ex H5 G ∧ G D2 = some (.lst (((wss.take i).map (Txt.join sp1)).map V.str))) ⟨Ex.refl.new hD2, upd_same⟩ (fun i G _ h => SqT.of (h.1 _ _ (xL1 _ _ ht4))) ?_ ?_⟩
    · rintro i v G2 hv ⟨xG2, eG2⟩
      obtain ⟨ws, hws, r, rfl, hrw⟩ := Paired.spot pr4 hv
      obtain ⟨w3, w8⟩ := row8 ws (List.mem_of_getElem? hws)
      refine ⟨rfl, ⟨_, rfl⟩, _, rfl, sp1, r, ws, rfl, rfl, .inr (SqT.of (xG2 _ _ (xL1 _ _ hrw))), ?_, _, eG2, ?_, xG2.put hD2, ?_⟩
      · have sb := sum_bound (xs := ws.map (fun x => x.length)) (b := 8) (fun n hn => by
          obtain ⟨z, hz, rfl⟩ := List.mem_map.mp hn
          exact w8 z hz)
        rw [List.length_map, w3] at sb
        rw [w3, one]
        omega
      · rw [List.length_map, List.length_map, List.length_take]
        omega
      · rw [upd_same, List.take_succ, hws, List.map_append, List.map_append]
        rfl
    · rintro G2 ⟨xG2, eG2⟩
      rw [lr, List.take_length] at eG2
      refine ⟨L1, D2, _, _, rfl, rfl, xG2 _ _ eL1, eG2, ?_, fun L3 hL3 => ?_⟩
      · rw [List.length_map, List.length_map]
        show 1 + _ ≤ _
        omega
      · have eL3 : (upd G2 L3 (.lst ([.str (Str.empty ++ wRule ++ m)] ++ (wss.map (Txt.join sp1)).map V.str))) L3 = some (.lst ((rlines m wss).map V.str)) := upd_same
        have xL3 : Ex G2 (upd G2 L3 (.lst ([.str (Str.empty ++ wRule ++ m)] ++ (wss.map (Txt.join sp1)).map V.str))) := Ex.refl.new hL3
        generalize upd G2 L3 (.lst ([.str (Str.empty ++ wRule ++ m)] ++ (wss.map (Txt.join sp1)).map V.str)) = H6 at eL3 xL3 ⊢
        have x46 := (xL1.trans xG2).trans xL3
        refine ⟨⟨_, rfl⟩, _, rfl, nl, L3, rlines m wss, rfl, rfl, .inl (SqL.of eL3), ?_, ?_⟩
        · have sb := sum_bound (xs := (rlines m wss).map (fun x => x.length)) (b := 100) (fun n hn => by
            obtain ⟨z, hz, rfl⟩ := List.mem_map.mp hn
            rcases List.mem_cons.mp hz with rfl | hz
            · have : (Str.empty ++ wRule ++ m).length ≤ 13 := l5
              omega
            · obtain ⟨ws, hw, rfl⟩ := List.mem_map.mp hz
              obtain ⟨w3, w8⟩ := row8 ws hw
              exact join3 one w3 w8)
          have lrl : (rlines m wss).length = wss.length + 1 := by
            unfold rlines
            rw [List.length_cons, List.length_map]
          rw [List.length_map, lrl] at sb
          rw [lrl, onen]
          omega
        · refine ⟨_, rfl, y, RC, dy, _, rfl, x46 _ _ X4, c.cl, c.n5, (by decide : (4 : Nat) < 1000), ?_⟩
          have B5 : But y H6 (upd H6 y (.ins RC dy [("_works", .ref x), ("_machine", .str m), ("_table", .ref t), ("_let", .ref D), ("_text", .str (rtext m wss))])) := But.self
          have X5 : (upd H6 y (.ins RC dy [("_works", .ref x), ("_machine", .str m), ("_table", .ref t), ("_let", .ref D), ("_text", .str (rtext m wss))])) y = some (.ins RC dy [("_works", .ref x), ("_machine", .str m), ("_table", .ref t), ("_let", .ref D), ("_text", .str (rtext m wss))]) := upd_same
          have B06 : But y H _ := (B04.trans (But.ex x46)).trans B5
          have t6 := But.tup hy B06
          exact q _ B06 ⟨WkD.but hy nyx B06 wk, dy, D, rs, X5, t6 _ _ ht, L2.Paired.mapP pr (fun _ _ z => z.tup t6), B5 _ _ nyD (x46 _ _ eD4)⟩
end
end LJ
set_option Elab.async false
set_option linter.all false
set_option maxRecDepth 100000
set_option maxHeartbeats 8000000
/-! _law_bond, _law_rule_text of the laws about rules. -/
namespace LJ
open PySem PySem.Spec L2
abbrev sBo : Stmt := top 61
abbrev sRt : Stmt := top 62
/-- a rule drawn, as data: a machine and rows -/
def BondAt (H : Hp) (q : Addr) (W : Wd) (m : Str) (wss : List (List Str)) : Prop := ∃ (F : Addr) (vals : List V), H q = some (.lst [.str m, .ref F]) ∧ H F = some (.lst vals) ∧ Paired (RowW H) vals wss ∧ m ∈ W.ms.map (·.1) ∧ tabOk W wss ∧ wss.length ≤ 16
def spBo : Sp := fun vs H Q _ => ∃ (j p : Addr) (share : Int) (W : Wd), vs = [.ref j, .ref p, .int share] ∧ JarAt H j ∧ SkAt H p W ∧ GoodR W ∧
  ∀ (q : Addr) (m : Str) (wss : List (List Str)) (H1 : Hp), BondAt H1 q W m wss → JarAt H1 j → But j H H1 → H q = none → Q (.ref q) H1
def sdl (m : Str) (wss : List (List Str)) : List Str := (wRule ++ m) :: wss.map (Txt.join sp1)
def said (m : Str) (wss : List (List Str)) : Str := Txt.join nl (sdl m wss)
def spRt : Sp := fun vs H Q _ => ∃ (q : Addr) (W : Wd) (m : Str) (wss : List (List Str)), vs = [.ref q] ∧ BondAt H q W m wss ∧ GoodF W ∧ ∀ H1, Ex H H1 → (said m wss).length ≤ 1000 → Q (.str (said m wss)) H1
theorem row_short {W : Wd} (g : GoodF W) {ws : List Str} (h : rowOk W ws = true) : ws.length = 3 ∧ ∀ z ∈ ws, z.length ≤ 8 ∧ (isW z = true ∨ z = dash) := by
  have l8 : ∀ {z : Str}, z ∈ W.ms.map (·.1) ++ (W.cs.map (·.1) ++ (W.ss.map (·.1) ++ W.ps.map (·.1))) → z.length ≤ 8 ∧ (isW z = true ∨ z = dash) := fun h => ⟨isW_8 (g.nm _ h), .inl (g.nm _ h)⟩
  obtain ⟨a, b, cl, rfl, h1, h2, h3⟩ := rowOk_3 h
  refine ⟨rfl, fun z hz => ?_⟩
  simp only [List.mem_cons, List.not_mem_nil, or_false] at hz
  rcases hz with rfl | rfl | rfl
  · exact l8 (List.mem_append_right _ (List.mem_append_right _ (List.mem_append_right _ h1)))
  · exact l8 (List.mem_append_right _ (List.mem_append_right _ (List.mem_append_right _ h2)))
  · rcases h3 with h | h
    · exact l8 (List.mem_append_right _ (List.mem_append_left _ h))
    · exact ⟨by rw [h]; decide +kernel, .inr h⟩
theorem join3b {p : Str} {ws : List Str} (one : p.length = 1) (w3 : ws.length = 3) (w8 : ∀ z ∈ ws, z.length ≤ 8) : (Txt.join p ws).length ≤ 26 := by
  have h := join_len (sep := p) (ys := ws)
  have sb := sum_bound (xs := ws.map (fun x => x.length)) (b := 8) (fun n hn => by
    obtain ⟨z, hz, rfl⟩ := List.mem_map.mp hn
    exact w8 z hz)
  rw [List.length_map, w3] at sb
  rw [w3, one] at h
  rw [h]
  have : (ws.map (·.length)).sum = (ws.map (fun x => x.length)).sum := rfl
  omega
theorem said_len {W : Wd} (g : GoodF W) {m : Str} {wss : List (List Str)} (mm : m ∈ W.ms.map (·.1)) (t : tabOk W wss) (l : wss.length ≤ 16) : ((sdl m wss).map (fun x => x.length)).sum ≤ 600 ∧ (said m wss).length ≤ 1000 ∧ (wRule ++ m).length ≤ 13 := by
  have one : sp1.length = 1 := by decide +kernel
  have onen : nl.length = 1 := by decide +kernel
  have h5 : wRule.length = 5 := by decide +kernel
  have m8 : m.length ≤ 8 := isW_8 (g.nm _ (List.mem_append_left _ mm))
  have l13 : (wRule ++ m).length ≤ 13 := by
    rw [Str.length_append, h5]
    omega
  have sb := sum_bound (xs := (sdl m wss).map (fun x => x.length)) (b := 26) (fun n hn => by
    obtain ⟨z, hz, rfl⟩ := List.mem_map.mp hn
    rcases List.mem_cons.mp hz with rfl | hz
    · omega
    · obtain ⟨ws, hw, rfl⟩ := List.mem_map.mp hz
      have r := row_short g (t.1 ws hw)
      exact join3b one r.1 fun z hz => (r.2 z hz).1)
  have ls : (sdl m wss).length = wss.length + 1 := by
    unfold sdl
    rw [List.length_cons, List.length_map]
  rw [List.length_map, ls] at sb
  refine ⟨by omega, ?_, l13⟩
  unfold said
  rw [join_len, ls, onen]
  have : ((sdl m wss).map (·.length)).sum = ((sdl m wss).map (fun x => x.length)).sum := rfl
  omega
section
variable {P : Program} {w : World} {K : PySem.W.Frag} {mg : Str → Option Value} {base : Heap} {C : Addr}
theorem scBo : FnScope ["_law_jar_here", "_law_sketch", "_law_share"] ["_law_jar_here", "_law_sketch", "_law_share"] (defScope sBo) := ⟨rfl, rfl, rfl, by decide +kernel, rfl, by decide +kernel, by decide +kernel⟩
theorem scRt : FnScope ["_law_bond_here", "_law_each"] ["_law_bond_here"] (defScope sRt) := ⟨rfl, rfl, rfl, by decide +kernel, rfl, by decide +kernel, by decide +kernel⟩
theorem ok_bo {f fO fL fT : Addr} {fd fdO fdL fdT : FuncData} (F : Fun K "_law_bond" "_law_bond" sBo f fd)
    (GO : FnOk P w K mg base CX0 2 fO fdO ["_law_jar_here", "_law_things"] spOne) (mO : mg "_law_one" = some (.ref fO)) (kO : PySem.W.keepIn K (.ref fO) = true) (bO : Binds K fdO ["_law_jar_here", "_law_things"] [])
    (GL : FnOk P w K mg base CX0 1 fL fdL ["_law_sketch", "_law_part"] spCld) (mL : mg "_law_called" = some (.ref fL)) (kL : PySem.W.keepIn K (.ref fL) = true) (bL : Binds K fdL ["_law_sketch", "_law_part"] [])
    (GT : FnOk P w K mg base CX0 3 fT fdT ["_law_jar_here", "_law_sketch", "_law_share"] (spTab C)) (mT : mg "_law_table" = some (.ref fT)) (kT : PySem.W.keepIn K (.ref fT) = true) (bT : Binds K fdT ["_law_jar_here", "_law_sketch", "_law_share"] []) :
    FnOk P w K mg base CX0 4 f fd ["_law_jar_here", "_law_sketch", "_law_share"] spBo := by
  refine F.ok scBo (fun vs H Q E h => ?_) (fun cdv A outer s H vs Q E hr h => ?_)
  · obtain ⟨j, p, sh, W, rfl, _⟩ := h
    rfl
  · obtain ⟨j, p, sh, W, rfl, J, sk, g, k⟩ := h
    have hr1 : Room 1 _ := hr.mono (by decide)
    have hr2 : Room 2 _ := hr.mono (by decide)
    refine ⟨_, pss_one (ps_ret (pe_lst (pa_cons (pe_call GO hr2 (by rfl) mO kO bO .nil pass0 (pa_cons (pv 0) (pa_cons (pe_call GL hr1 (by rfl) mL kL bL .nil pass0 (pa_cons (pv 1) (pa_cons pe_str pa_nil))) pa_nil)))
      (pa_cons (pe_call GT hr (by rfl) mT kT bT .nil pass0 (pa_cons (pv 0) (pa_cons (pv 1) (pa_cons (pv 2) pa_nil)))) pa_nil)))), ?_⟩
    have gf := g.f
    have m1 := gf.m1
    have m6 := gf.m2
    obtain ⟨lp, rp, dp1, dp2, dp3, dp4⟩ := cld_m sk gf
    refine ⟨_, rfl, _, rfl, p, lp, _, rp, _, rfl, dp1, dp2, dp3, dp4, fun L H1 x1 nL eL => ?_⟩
    have J1 := jar_ex x1 J
    have mL : L ≠ j := fun z => by
      obtain ⟨u, v, c, w, _⟩ := J
      rw [z, w] at nL
      cases nL
    refine ⟨j, L, _, rfl, J1, eL, mL, by rw [List.length_map, List.length_map]; omega, by rw [List.length_map, List.length_map]; omega, fun n v H2 hv J2 b2 => ?_⟩
    obtain ⟨m, hm, rfl⟩ := List.mem_map.mp (List.mem_of_getElem? hv)
    have b02 := (show But j H H1 from But.ex x1).trans b2
    refine ⟨_, rfl, _, rfl, _, rfl, j, p, sh, W, rfl, J2, sk.but J b02, g, fun F vals wss H3 hF pr tab lw J3 b3 nF => ?_⟩
    refine ⟨big100 (Nat.le_of_ble_eq_true rfl), fun q nq => ?_⟩
    have x4 : Ex H3 (upd H3 q (.lst [.str m, .ref F])) := Ex.refl.new nq
    have b04 := (b02.trans b3).new nq (o := .lst [.str m, .ref F])
    exact k q m wss _ ⟨F, vals, upd_same, x4 _ _ hF, L2.Paired.mapP pr (fun _ _ z => z.tup (Ex.tup x4)), hm, tab, lw⟩ (J3.new nq) b04 ((b02.trans b3).gone (J3.ne nq) nq)
def teRt (K : PySem.W.Frag) : TE := tM1 (fun x xs H Q => ∃ a p ys, x = .str a ∧ xs = [.ref p] ∧ (SqL K H p (ys.map V.str) ∨ SqT K H p (ys.map V.str)) ∧ (ys.map (fun x => x.length)).sum + ys.length * a.length ≤ 16777216 ∧ Q (.str (Txt.join a ys)) H) (tC (.str sp1)) (tVar 1)
theorem ok_rt {f : Addr} {fd : FuncData} (F : Fun K "_law_rule_text" "_law_rule_text" sRt f fd) : FnOk P w K mg base CX0 1 f fd ["_law_bond_here"] spRt := by
  refine F.ok scRt (fun vs H Q E h => ?_) (fun cdv A outer s H vs Q E hr h => ?_)
  · obtain ⟨q, W, m, wss, rfl, _⟩ := h
    rfl
  · obtain ⟨q, W, m, wss, rfl, ⟨F1, vals, hq, hF, pr, mm, tab, lw⟩, g, k⟩ := h
    refine ⟨_, pss_one (ps_ret (pe_join pe_str (pe_op op_cat (pe_lst (pa_cons (pe_op op_add_str pe_str (pe_ix ix_list (pv 0) pe_int (fun _ _ => rfl))) pa_nil))
      (pe_lc (own := [("_law_each", 1)]) (g := gName 1) (te := teRt K) (by rfl) scRt.nd (pi_list (pe_ix ix_list (pv 0) pe_int (fun _ _ => rfl))) (blkOk_by (own := [("_law_each", 1)]) (N := ["_law_bond_here", "_law_each"]) (sc := defScope sRt) (by decide +kernel)) (fun _ _ _ _ _ => pg_name (i := 1) scRt.nd rfl (Or.inl rfl)) (fun _ _ _ _ _ => pts_nil)
        (fun _ _ _ _ _ => pe_join pe_str (pv 1)))))), ?_⟩
    have sz := sizeLine_eq
    have sl := said_len g mm tab lw
    have one : sp1.length = 1 := by decide +kernel
    have onen : nl.length = 1 := by decide +kernel
    have lr : vals.length = wss.length := Paired.size pr
    refine ⟨⟨_, rfl⟩, _, rfl, q, _, 0, _, rfl, rfl, SqL.of hq, atI_nat (j := 0) rfl, _, _, rfl, rfl, ?_, ?_, fun L nL => ?_⟩
    · have := sl.2.2
      rw [Str.length_append] at this
      have h2 : (Str.ofString "rule ").length + m.length ≤ 13 := this
      omega
    · exact big100 (Nat.le_of_ble_eq_true rfl)
    · have xL : Ex H (upd H L (.lst [.str (wRule ++ m)])) := Ex.refl.new nL
      have eL : (upd H L (.lst [.str (wRule ++ m)])) L = some (.lst [.str (wRule ++ m)]) := upd_same
      change tLc _ _ _ _ _ _ (upd H L (.lst [.str (wRule ++ m)])) _
      generalize upd H L (.lst [.str (wRule ++ m)]) = H1 at xL eL ⊢
      refine ⟨_, rfl, q, _, 1, _, rfl, rfl, SqL.of (xL _ _ hq), atI_nat (j := 1) rfl, F1, rfl, ⟨_, SqL.of (xL _ _ hF)⟩, fun D hD => lc_list (K := K) (a := F1) (xs := vals) (fun i G => Ex H1 G ∧ G D = some (.lst (((wss.take i).map (Txt.join sp1)).map V.str))) ⟨Ex.refl.new hD, upd_same⟩ (fun i G _ h => SqL.of (h.1 _ _ (xL _ _ hF))) ?_ ?_⟩
      · rintro i v G hv ⟨xG, eG⟩
        obtain ⟨ws, hws, r, rfl, hrw⟩ := Paired.spot pr hv
        obtain ⟨w3, w8⟩ := row_short g (tab.1 ws (List.mem_of_getElem? hws))
        refine ⟨rfl, ⟨_, rfl⟩, _, rfl, sp1, r, ws, rfl, rfl, .inr (SqT.of (xG _ _ (xL _ _ hrw))), ?_, _, eG, ?_, xG.put hD, ?_⟩
        · have sb := sum_bound (xs := ws.map (fun x => x.length)) (b := 8) (fun n hn => by
            obtain ⟨z, hz, rfl⟩ := List.mem_map.mp hn
            exact (w8 z hz).1)
          rw [List.length_map, w3] at sb
          rw [w3, one]
          omega
        · rw [List.length_map, List.length_map, List.length_take]
          omega
        · rw [upd_same, List.take_succ, hws, List.map_append, List.map_append]
          rfl
      · rintro G ⟨xG, eG⟩
        rw [lr, List.take_length] at eG
        refine ⟨L, D, _, _, rfl, rfl, xG _ _ eL, eG, ?_, fun L3 hL3 => ?_⟩
        · rw [List.length_map, List.length_map]
          show 1 + _ ≤ _
          omega
        · have eL3 : (upd G L3 (.lst ([.str (wRule ++ m)] ++ (wss.map (Txt.join sp1)).map V.str))) L3 = some (.lst ((sdl m wss).map V.str)) := upd_same
          have xL3 : Ex G (upd G L3 (.lst ([.str (wRule ++ m)] ++ (wss.map (Txt.join sp1)).map V.str))) := Ex.refl.new hL3
          generalize upd G L3 (.lst ([.str (wRule ++ m)] ++ (wss.map (Txt.join sp1)).map V.str)) = H6 at eL3 xL3 ⊢
          refine ⟨nl, L3, sdl m wss, rfl, rfl, .inl (SqL.of eL3), ?_, k _ ((xL.trans xG).trans xL3) sl.2.1⟩
          have ls : (sdl m wss).length = wss.length + 1 := by
            unfold sdl
            rw [List.length_cons, List.length_map]
          rw [ls, onen]
          have := sl.1
          omega
end
end LJ
set_option Elab.async false
set_option linter.all false
set_option maxRecDepth 100000
/-! try .. except (A, B): without a name, whose suite may raise. -/
namespace TupX
open PySem PySem.Spec PyProof.Rows L2
theorem fly_grow {B h h' : Heap} {l : List Env} {a : Addr} {Z : Obj → Prop} (k : ∀ b o, h.get? b = some o → h'.get? b = some o) (f : HandSPX.FlyingZ B l a Z h) : HandSPX.FlyingZ B l a Z h' := by
  obtain ⟨f1, f2, f3, oe, vs, T, oT, ts, e1, z, d1, v1, bT, ne, eT, dT, tv⟩ := f
  exact ⟨fun b o e => k b o (f1 b o e), f2, f3.of_keeps (fun b o e _ => ⟨o, k b o e, rfl⟩), oe, vs, T, oT, ts, k _ _ e1, z, d1, v1, bT, ne, k _ _ eT, dT, tv⟩
theorem up_grow {h h' : Heap} (k : ∀ b o, h.get? b = some o → h'.get? b = some o) : h.UpToSlots h' := fun b o e _ => ⟨o.slots, k b o e⟩
def wTwo (K : PySem.W.Frag) (c1 c2 : Value) (ts : Addr → Value → Option Addr → TS) (Wout : WX) (D : Ends) : WX := fun cls d σ H => ∃ b, PySem.W.exmAny K cls [c1, c2] = some b ∧ (b = true → ∀ a, H a = none → ts a cls d D σ H) ∧ (b = false → Wout cls d σ H)
/-- an exception that was caught: it stands at a, and its flight is over -/
structure Stands (X : Cx) (pins : List (Addr × Obj)) (σ : L2.St) (H : Hp) (cls : Value) (d : Option Addr) (a : Addr) (B : Heap) (sI s : Shared) : Prop where
  inv : Inv X pins σ H sI
  old : ∀ b o, sI.heap.get? b = some o → b ∉ frs X.stack → B.get? b = some o
  near : sI.heap.UpToSlots s.heap
  fly : HandSPX.FlyingZ B X.stack a (L2N.Zn cls d) s.heap
  new : H a = none
  os : s.os = sI.os
  bare : AllBare s.gens
section
variable {X : Cx} {pins : List (Addr × Obj)} {σ : L2.St} {H : Hp} {cls : Value} {d : Option Addr} {a : Addr} {B : Heap} {sI s : Shared} {D : Ends} {Wout : WX} {x1 x2 : Str} {c1 c2 : Value} {p1 p2 np pos pos' : Pos} {kx : Nat}
variable {ts : Addr → Value → Option Addr → TS} {b₀ : Stmt} {suite body : List Stmt}
theorem Stands.now (S : Stands X pins σ H cls d a B sI s) : Inv X pins σ H s := S.inv.landed S.old S.fly.1 S.near S.os S.bare
theorem Stands.on (S : Stands X pins σ H cls d a B sI s) {h : Heap} (f : HandSPX.FlyingZ B X.stack a (L2N.Zn cls d) h) (u : s.heap.UpToSlots h) : Stands X pins σ H cls d a B sI { s with heap := h } :=
  ⟨S.inv, S.old, S.near.trans u, f, S.new, S.os, S.bare⟩
theorem Stands.obj (S : Stands X pins σ H cls d a B sI s) (hs : X.stack = X.env :: X.outer) (hf : X.env.frame = some X.env.locals) :
    ∃ oe vs, s.heap.get? a = some oe ∧ L2N.Zn cls d oe ∧ oe.data = .fields vs ∧ a ≠ X.env.locals ∧ a ∉ X.fs := by
  obtain ⟨oe, vs, e1, e2, e3⟩ := S.fly.there
  have out : a ∉ frs X.stack := fun m => by
    obtain ⟨_, o, e4, e5⟩ := S.fly.2.2.1.mem m
    rw [e1] at e4
    cases e4
    exact e5 _ e3
  rw [hs] at out
  refine ⟨oe, vs, e1, e2, e3, fun z => out ?_, fun m => out ?_⟩
  · rw [z]
    exact List.mem_filterMap.mpr ⟨_, List.mem_cons_self, hf⟩
  · obtain ⟨e, h1, h2⟩ := List.mem_filterMap.mp m
    exact List.mem_filterMap.mpr ⟨e, List.mem_cons_of_mem _ h1, h2⟩
theorem Stands.leave {R : Flow → Shared → Prop} (S : Stands X pins σ H cls d a B sI s) (hs : X.stack = X.env :: X.outer) (hf : X.env.frame = some X.env.locals) (tk : Takes X Wout) (w : Wout cls d σ H) :
    wpAny (model X.prog X.w) X.A (handleBy (.ref a) X.env []) R X.xe s := by
  have fl : HandSPX.FlyingZ B X.stack a (Zc cls d) s.heap := L2H.flyingZ_imp (fun o z => L2N.Zn.zc z) S.fly
  have go : wpAny (model X.prog X.w) X.A (setFlight (.ref a) X.env.frame) (fun _ s1 => wpAny (model X.prog X.w) X.A (throw (.ref a) : Sem Flow) R X.xe s1) X.xe s := by
    rw [hf]
    exact HandSPX.setFlight_upZ fl fun h held u => wpAny_throw (tk _ _ ⟨a, B, sI, pins, σ, H, cls, d, rfl, S.inv, S.old, S.near.trans u, .inr (.inr held), S.new, S.os, S.bare, w⟩)
  refine wpAny_handleBy_nil ?_
  obtain ⟨_, _, _, oe, vs, T, oT, t1, e1, _, e2, e3, _⟩ := id S.fly
  unfold PySem.passOn
  refine wpAny_bind (wpAny_field e1 e2 e3 ?_)
  rw [if_neg (show ¬ ((Value.ref T == Value.none) = true) by simp)]
  first
    | exact wpAny_bind go
    | exact wpAny_bind (wpAny_pure (wpAny_bind go))
theorem Stands.two (S : Stands X pins σ H cls d a B sI s) (hs : X.stack = X.env :: X.outer) (hf : X.env.frame = some X.env.locals) (hc1 : Names X x1 c1) (hc2 : Names X x2 c2)
    (hst : starEach [.Name x1 p1, .Name x2 p2] X.env = [(false, eval (.Name x1 p1) X.env), (false, eval (.Name x2 p2) X.env)])
    (hpa : ∀ (hd : Option Value), PassesOwnAt (model X.prog X.w) (X.A.mark hd) X.A X.env X.xe) (tk : Takes X Wout)
    (hsu : ∀ (a : Addr) (oe : Obj) (cls : Value) (d : Option Addr) (pn : List (Addr × Obj)), L2N.Zn cls d oe → (∃ vs, oe.data = .fields vs) → Takes (L2H.suiteX X a ((a, oe) :: pn)) Wout → L2H.HotC (L2H.suiteX X a ((a, oe) :: pn)) → PSs (L2H.suiteX X a ((a, oe) :: pn)) (b₀ :: suite) (ts a cls d))
    (w : wTwo X.K c1 c2 ts Wout D cls d σ H) :
    wpAny (model X.prog X.w) X.A (handleBy (.ref a) X.env [.ExceptHandler (some (.Tuple [.Name x1 p1, .Name x2 p2] kx np)) none (b₀ :: suite) pos']) (SP X pins D) X.xe s := by
  obtain ⟨oe, vs, e1, e2, e3, nL, nF⟩ := S.obj hs hf
  have I0 := S.now
  have I1 := I0.suite e1 e3 S.new nL nF
  obtain ⟨b, hb, yes, no⟩ := w
  have named1 : ∀ {Q : Value → Shared → Prop} {E : Value → Shared → Prop}, Q c1 s → wpAny (model X.prog X.w) (X.A.mark (some (.ref a))) (eval (.Name x1 p1) X.env) Q E s := fun q => by
    rcases hc1 with ⟨g, nd, m | ⟨m, v, nn⟩⟩
    · exact ld_glob (X := X.suite a ((a, oe) :: (X.pn ++ pins))) I1 g m q nd
    · exact ld_blt (X := X.suite a ((a, oe) :: (X.pn ++ pins))) I1 g m v q nn nd
  have named2 : ∀ {Q : Value → Shared → Prop} {E : Value → Shared → Prop}, Q c2 s → wpAny (model X.prog X.w) (X.A.mark (some (.ref a))) (eval (.Name x2 p2) X.env) Q E s := fun q => by
    rcases hc2 with ⟨g, nd, m | ⟨m, v, nn⟩⟩
    · exact ld_glob (X := X.suite a ((a, oe) :: (X.pn ++ pins))) I1 g m q nd
    · exact ld_blt (X := X.suite a ((a, oe) :: (X.pn ++ pins))) I1 g m v q nn nd
  refine wpAny_handleBy_cons (codeAny_handlers_test (wpAny_Tuple_spliced ?_)) (by intro q; cases q)
  rw [hst]
  refine Calls.spliced_cons (named1 (Calls.spliced_cons (named2 (Calls.spliced_nil ⟨?_, ?_⟩))))
  · rw [sizeLine_eq]
    exact Nat.le_of_ble_eq_true rfl
  have kp : ∀ b o, s.heap.get? b = some o → (s.heap.push { cls := .type "tuple", data := .seq #[c1, c2] }).get? b = some o := fun b o e => Heap.get?_push_of_some _ e
  have tp : (s.heap.push { cls := .type "tuple", data := .seq #[c1, c2] }).get? s.heap.objs.size = some { cls := .type "tuple", data := .seq #[c1, c2] } := Heap.get?_push_size s.heap rfl
  have S' := S.on (fly_grow kp S.fly) (up_grow kp)
  have e1' := kp _ _ e1
  have I0' := S'.now
  show wpAny _ _ (excMatches (.ref a) (.ref s.heap.objs.size)) _ _ { s with heap := s.heap.push { cls := .type "tuple", data := .seq #[c1, c2] } }
  have look : PySem.W.Looks (model X.prog X.w) (s.heap.push { cls := .type "tuple", data := .seq #[c1, c2] }) (typeOf (.ref a)) cls := fun A Q E s1 k q => wpAny_typeOf_ref (k _ _ e1') (by rw [e2.1]; exact q)
  have fits := PySem.W.exm_tup2 (M := model X.prog X.w) I0'.kIn look tp hb
  refine fits.here ?_
  cases b with
  | false => exact S'.leave hs hf tk (no rfl)
  | true =>
    refine codeAny_handlers_suite (HandSPX.lands_againZ S'.fly fun h f u => ?_)
    have S2 := S'.on f u
    obtain ⟨oe2, vs2, f1, f2, f3, _, _⟩ := S2.obj hs hf
    have I2 := L2H.suiteX_of (S2.now.suite f1 f3 S.new nL nF)
    have tkS : Takes (L2H.suiteX X a ((a, oe2) :: (X.pn ++ pins))) Wout := by
      rintro u2 s2 ⟨a2, B2, sI2, pn2, σ2, H2, cls2, d2, z1, J2, nb2, up2, sky2, na2, os2, ag2, w2⟩
      exact tk u2 s2 ⟨a2, B2, sI2, pins, σ2, H2, cls2, d2, z1, L2H.unsuiteX J2 I0.ok, nb2, up2, sky2, na2, os2, ag2, w2⟩
    have hot : L2H.HotC (L2H.suiteX X a ((a, oe2) :: (X.pn ++ pins))) := ⟨(a, oe2), ⟨rfl, ⟨vs2, f3, f2.2.2 vs2 f3⟩⟩, List.mem_cons_self⟩
    refine wpAny_mono ((hsu a oe2 cls d (X.pn ++ pins) f2 ⟨_, f3⟩ tkS hot).run [] _ _ H _ I2 (yes rfl a S.new)) (fun fl s6 out => ?_) fun e6 s6 z => hpa (some (.ref a)) e6 s6 z
    match fl, out with
    | .ret u, ⟨v2, σ2, H2, I3, r2, q2⟩ => exact ⟨v2, σ2, H2, L2H.unsuiteX I3 I0.ok, r2, q2⟩
    | .next, ⟨σ2, H2, I3, q2⟩ => exact ⟨σ2, H2, L2H.unsuiteX I3 I0.ok, q2⟩
    | .brk, ⟨σ2, H2, I3, q2⟩ => exact ⟨σ2, H2, L2H.unsuiteX I3 I0.ok, q2⟩
    | .cont, ⟨σ2, H2, I3, q2⟩ => exact ⟨σ2, H2, L2H.unsuiteX I3 I0.ok, q2⟩
theorem ps_try_two {tb : WX → TS} (hs : X.stack = X.env :: X.outer) (hf : X.env.frame = some X.env.locals) (hc1 : Names X x1 c1) (hc2 : Names X x2 c2)
    (hst : starEach [.Name x1 p1, .Name x2 p2] X.env = [(false, eval (.Name x1 p1) X.env), (false, eval (.Name x2 p2) X.env)])
    (hpa : ∀ (hd : Option Value), PassesOwnAt (model X.prog X.w) (X.A.mark hd) X.A X.env X.xe) (tk : Takes X Wout)
    (hb : ∀ (W : WX) (pn : List (Addr × Obj)) (xe : Value → Shared → Prop), L2N.Takes (X.tr pn xe) W → PassesOwn (model X.prog X.w) X.A X.env xe → PSs (X.tr pn xe) body (tb W))
    (hsu : ∀ (a : Addr) (oe : Obj) (cls : Value) (d : Option Addr) (pn : List (Addr × Obj)), L2N.Zn cls d oe → (∃ vs, oe.data = .fields vs) → Takes (L2H.suiteX X a ((a, oe) :: pn)) Wout → L2H.HotC (L2H.suiteX X a ((a, oe) :: pn)) → PSs (L2H.suiteX X a ((a, oe) :: pn)) (b₀ :: suite) (ts a cls d)) :
    PS X (.Try body [.ExceptHandler (some (.Tuple [.Name x1 p1, .Name x2 p2] kx np)) none (b₀ :: suite) pos'] [] [] pos) (fun D σ H => tb (wTwo X.K c1 c2 ts Wout D) D σ H) := by
  constructor
  intro pins s σ H D I h
  have frames : X.A.frames = some (X.env :: X.outer) := by rw [I.ok.frames, hs]
  let catch_ : Value → Shared → Prop := fun e s1 => wpAny (model X.prog X.w) X.A (noteFrame e X.env) (fun _ s2 => wpAny (model X.prog X.w) X.A (setFlight e none) (fun _ s3 => wpAny (model X.prog X.w) X.A (handleBy e X.env [.ExceptHandler (some (.Tuple [.Name x1 p1, .Name x2 p2] kx np)) none (b₀ :: suite) pos']) (SP X pins D) X.xe s3) X.xe s2) X.xe s1
  have caught : L2N.Takes (X.tr (X.pn ++ pins) catch_) (wTwo X.K c1 c2 ts Wout D) := by
    rintro _ s1 ⟨a, B, sI, pins1, σ1, H1, cls, d, rfl, J, old, near, sky, new, os, bare, w⟩
    have sky : Sky B (X.env :: X.outer) a (L2N.Zn cls d) X.env.locals s1.heap := by
      rw [← hs]
      exact sky
    refine L2N.Sky.land L2N.Zn.steady frames hf sky fun h2 fly u => ?_
    have S : Stands X pins σ1 H1 cls d a B sI { s1 with heap := h2 } := ⟨J.ofTry I.ok, old, near.trans u, by rw [hs]; exact fly, new, os, bare⟩
    exact S.two hs hf hc1 hc2 hst hpa tk hsu w
  refine wpAny_Try_except (wpAny_mono ((hb _ _ catch_ caught PassesOwn.looking).run [] s σ H D (I.toTry _) h) (fun f s1 out => ?_) fun _ _ z => z)
  match f, out with
  | .ret u, ⟨v, σ1, H1, J, e, q⟩ => exact ⟨v, _, _, J.ofTry I.ok, e, q⟩
  | .next, ⟨σ1, H1, J, q⟩ => exact wpAny_execs_nil ⟨_, _, J.ofTry I.ok, q⟩
  | .brk, ⟨σ1, H1, J, q⟩ => exact ⟨_, _, J.ofTry I.ok, q⟩
  | .cont, ⟨σ1, H1, J, q⟩ => exact ⟨_, _, J.ofTry I.ok, q⟩
end
end TupX
set_option Elab.async false
set_option linter.all false
set_option maxRecDepth 100000
set_option maxHeartbeats 8000000
namespace LJ
open PySem PySem.Spec L2 PySem.ErrV
open LamX (ExtN)
open NdefX (NTab TabsN)
open OwnX (gStar pg_star pgs_star)
/-! Rule.read of any text. -/
theorem takes_lenN {X : Cx} {W : WX} (tk : L2N.Takes X W) : L2N.Takes X (fun cls d _ H => ∀ σ, σ.length = X.N.length → W cls d σ H) := fun u s' ⟨a, B, sI, pins, σ, H, cls, d, e, I, nb, up, sky, na, os, ag, w⟩ =>
  tk u s' ⟨a, B, sI, pins, σ, H, cls, d, e, I, nb, up, sky, na, os, ag, w σ I.len⟩
abbrev sRr : Stmt := rmeth 1
abbrev nRr : List Str := ["works", "text", "head", "rows", "line", "rule"]
abbrev wRl : Str := Str.ofString "rule"
def rowsOf (z : Str) : List (List Str) := (Txt.split z nl).map (wordsOf ·)
/-- what a text tells, if it is a rule's -/
def GoodText (W : Wd) (z : Str) (m : Str) (wss : List (List Str)) : Prop := rowsOf z = [wRl, m] :: wss ∧ m ∈ W.ms.map (·.1) ∧ tabOk W wss
def spRr (RC C cT : Addr) : Sp := fun vs H Q E => ∃ (x : Addr) (z : Str) (W : Wd), vs = [.ref x, .str z] ∧ WkD C H x W ∧ GoodF W ∧ z.length ≤ 10000 ∧
  (∀ m wss, GoodText W z m wss → ∀ (y t : Addr) (H1 : Hp), Ex H H1 → H y = none → RuleAt RC C H1 y x W m t wss → Q (.ref y) H1) ∧ ((∀ m wss, ¬ GoodText W z m wss) → Raised cT "given" (.str z) H E)
def tryBody : Stmt → List Stmt
  | .Try (body := b) .. => b
  | _ => []
def tbRr (K : PySem.W.Frag) (RC C CU cB : Addr) (W : WX) : TS := tAsg (tMakeS RC (spRi K RC C CU cB) (fun σ cls d H => W cls d σ H)
  (tCons (tVar 0) (tCons (tOp (rIxT K) (tVar 2) (tC (.int 1))) (tCons (tThen (tVar 3) (kTup K)) tNil)))) (gName 5)
def teRr (K : PySem.W.Frag) : TE := tThen (tM1 (fun x xs H Q => ∃ a b, x = .str a ∧ xs = [.str b] ∧ (b.length == 0) = false ∧ a.length + 2 ≤ sizeLine ∧ rNewStrs (Txt.split a b) H Q) (tVar 4) (tC (.str sp1))) (kTup K)
section
variable {P : Program} {w : World} {K : PySem.W.Frag} {mg : Str → Option Value} {base : Heap} {C RC CU fU cB cT : Addr}
theorem scRr : FnScope nRr ["works", "text"] (defScope sRr) := ⟨rfl, rfl, rfl, by decide +kernel, rfl, by decide +kernel, by decide +kernel⟩
theorem ok_rr {f fW fP : Addr} {fd fdW fdP : FuncData} (F : Fun K "read" "Rule.read" sRr f fd) (B : BltI mg) (e0 : Er1 K mg "InvalidText" "given" cT) (U : Unk K mg CU fU) (eB : Er1 K mg "InvalidTable" "index" cB)
    (fitU : PySem.W.exmAny K (.ref CU) [.ref CU, .ref cB] = some true) (fitB : PySem.W.exmAny K (.ref cB) [.ref CU, .ref cB] = some true)
    (GW : FnOk P w K mg base CX0 1 fW fdW ["works"] (spCw C)) (mW : mg "check_works" = some (.ref fW)) (kW : PySem.W.keepIn K (.ref fW) = true) (bW : Binds K fdW ["works"] [])
    (M : Mk K RC fP) (GP : FnOk P w K mg base (L2N.CX P w) 6 fP fdP ["self", "works", "machine", "table"] (spRi K RC C CU cB)) (mP : mg "Rule" = some (.ref RC)) (bP : Binds K fdP ["self", "works", "machine", "table"] []) :
    FnOk P w K mg base (L2.CX P w) 8 f fd ["works", "text"] (spRr RC C cT) := by
  refine F.okX scRr (fun vs H Q E h => ?_) (fun cdv A outer s H vs Q E hr h => ?_)
  · obtain ⟨x, z, W, rfl, _⟩ := h
    rfl
  · obtain ⟨x, z, W, rfl, wk, g, lz, good, bad⟩ := h
    have hr1 : Room 1 _ := hr.mono (by decide)
    obtain ⟨f0, b0, T0, B0⟩ := e0.c
    obtain ⟨bmU, TU, BU⟩ := U.c
    obtain ⟨f1, b1, T1, B1⟩ := eB.c
    have hb : ∀ (W : WX) (pn : List (Addr × Obj)) (xe : Value → Shared → Prop), L2N.Takes ((cxOf (L2.CX P w) P w K mg base nRr "Rule.read" (defScope sRr) f cdv A outer s H E).tr pn xe) W → PSs ((cxOf (L2.CX P w) P w K mg base nRr "Rule.read" (defScope sRr) f cdv A outer s H E).tr pn xe) (tryBody ((defBody sRr).getD 4 (.Pass ⟨0, 0, 0, 0⟩))) (tbRr K RC C CU cB W) := by
      intro W pn xe tk
      exact pss_one (ps_set (i := 5) scRr.nd rfl (Or.inl rfl) (pe_makeS M GP hr (by rfl) mP bP (passesAtN (E := fun σ cls d H => W cls d σ H) tk (fun _ _ _ _ z => z)) (pa_cons (pv 0) (pa_cons (pe_ix (show IxR _ (rIxT K) from ix_tup) (pv 2) pe_int (fun _ _ => rfl)) (pa_cons (pe_tupleOf (X := ((cxOf (L2.CX P w) P w K mg base nRr "Rule.read" (defScope sRr) f cdv A outer s H E).tr pn xe)) (by rfl) B.tuple (pv 3)) pa_nil)))))
    refine ⟨_, pss_cons (ps_expr (pe_call GW hr1 (by rfl) mW kW bW .nil pass0 (pa_cons (pv 0) pa_nil)))
      (pss_cons (ps_if (pt_not (pt_truth (pe_callB call_isi (by rfl) B.isinstance (by decide +kernel) (pa_cons (pv 1) (pa_cons (pe_bltn (by rfl) B.str (by decide +kernel) (v := .ty "str") rfl) pa_nil))) (fun _ => rfl))) (pss_one (ps_raiseE rfl (.inl rfl) T0 B0 e0.exC e0.tyC hr1 (takes_of rfl rfl rfl rfl) (pa_cons (pv 1) pa_nil) (by rfl))) pss_nil)
      (pss_cons (ps_asg (pe_lc (own := [("line", 4)]) (g := gName 4) (te := teRr K) (by rfl) scRr.nd (pi_list (pe_split (pv 1) pe_str)) (blkOk_by (own := [("line", 4)]) (N := nRr) (sc := defScope sRr) (by decide +kernel)) (fun _ _ _ _ _ => pg_name (i := 4) scRr.nd rfl (Or.inl rfl)) (fun _ _ _ _ _ => pts_nil) (fun _ _ _ _ _ => pe_tupleOf (by rfl) B.tuple (pe_split (pv 4) pe_str)))
          (pg_star (n := 2) (i := 1) rfl (pgs_cons (pg_name (i := 2) scRr.nd rfl (Or.inl rfl)) (pgs_star (pg_name (i := 3) scRr.nd rfl (Or.inl rfl)) pgs_nil))))
      (pss_cons (ps_if (PW.pt (pw_or (pt_cmpR op_ne (pe_callB call_len_seq (by rfl) B.len (by decide +kernel) (pa_cons (pv 2) pa_nil)) pe_int (nomark _)) (pw_or1 (pt_cmpR op_ne (pe_ix ix_tup (pv 2) pe_int (fun _ _ => rfl)) pe_str (nomark _))))) (pss_one (ps_raiseE rfl (.inl rfl) T0 B0 e0.exC e0.tyC hr1 (takes_of rfl rfl rfl rfl) (pa_cons (pv 1) pa_nil) (by rfl))) pss_nil)
      (pss_cons (TupX.ps_try_two (Wout := fun cls d _ H => E cls d H) rfl rfl ⟨rfl, by decide, .inl TU.gC⟩ ⟨rfl, by decide, .inl T1.gC⟩ rfl (L2H.passesAt_of rfl) (takes_of rfl rfl rfl rfl)
          (tb := tbRr K RC C CU cB) (fun W pn xe tk _ => hb W pn xe tk)
          (fun a oe cls d pn hz hf tk hot => pss_one (L2H.ps_raiseHN hot tk (pmk5_err (.inl rfl) T0 B0 e0.exC e0.tyC (by have := hr1.dp; exact this) (pa_cons (pv 1) pa_nil) (by rfl)))))
      (pss_one (ps_ret (pv 5))))))), ?_⟩
    have sz := sizeLine_eq
    have hne : ∃ dx fs, H x = some (.ins C dx fs) := by
      obtain ⟨am, ac, as, ap, ⟨dx, D1, D2, D3, D4, b1, b2, v4, hx, _⟩, _⟩ := wk.at_
      exact ⟨dx, _, hx⟩
    obtain ⟨dx, fs, hx⟩ := hne
    refine ⟨_, rfl, x, dx, fs, rfl, hx, ?_⟩
    refine ⟨_, rfl, _, _, _, _, true, rfl, .ty "str", .base (.str z), kit_ty (by decide +kernel), true, rfl, ?_⟩
    refine ite2 (fun q => by cases q) (fun _ => ?_)
    refine rd_nextU ?_
    try dsimp only
    have sn := split_sum (x := z) tl_nl (by decide)
    have sne := split_ne (x := z) tl_nl (by decide)
    refine ⟨_, rfl, ⟨_, rfl⟩, z, nl, rfl, rfl, by decide +kernel, by omega, fun l nnl => ?_⟩
    have x1 : Ex H (upd H l (.lst ((Txt.split z nl).map V.str))) := Ex.refl.new nnl
    have e1 : (upd H l (.lst ((Txt.split z nl).map V.str))) l = some (.lst ((Txt.split z nl).map V.str)) := upd_same
    generalize upd H l (.lst ((Txt.split z nl).map V.str)) = H1 at x1 e1 ⊢
    have ll : ∀ ln ∈ Txt.split z nl, ln.length ≤ z.length := fun ln h => split_le tl_nl (by decide) h
    have lrows : (rowsOf z).length ≤ z.length + 1 := by
      unfold rowsOf
      rw [List.length_map]
      exact sn.2
    have wz : ∀ ws ∈ rowsOf z, ws.length ≤ z.length + 1 ∧ ∀ u ∈ ws, u.length ≤ z.length := fun ws hws => by
      obtain ⟨ln, hln, rfl⟩ := List.mem_map.mp hws
      have l1 := ll ln hln
      have l2 := (split_sum (x := ln) tl_sp1 (by decide)).2
      refine ⟨by show (Txt.split ln sp1).length ≤ _; omega, fun u hu => ?_⟩
      have := split_le tl_sp1 (by decide) (show u ∈ Txt.split ln sp1 from hu)
      omega
    refine ⟨l, rfl, ⟨_, SqL.of e1⟩, fun D hD => lc_list (K := K) (a := l) (xs := (Txt.split z nl).map V.str) (fun i G => Ex H1 G ∧ ∃ vals, G D = some (.lst vals) ∧ Paired (RowW G) vals ((rowsOf z).take i)) ⟨Ex.refl.new hD, [], upd_same, .nil⟩ (fun i G _ h => SqL.of (h.1 _ _ e1)) ?_ ?_⟩
    · rintro i v G hv ⟨xG, vals, eG, pG⟩
      rw [List.getElem?_map] at hv
      obtain ⟨ln, hl, rfl⟩ := Option.map_eq_some_iff.mp hv
      have vl := Paired.size pG
      rw [List.length_take] at vl
      have l1 := ll ln (List.mem_of_getElem? hl)
      refine ⟨rfl, _, rfl, ⟨_, rfl⟩, ln, sp1, rfl, rfl, by decide +kernel, by omega, fun l2 nl2 => .inl ⟨l2, _, rfl, SqL.of upd_same, fun p np => ?_⟩⟩
      have x2 : Ex G (upd (upd G l2 (.lst ((Txt.split ln sp1).map V.str))) p (.tup ((Txt.split ln sp1).map V.str))) := (Ex.refl.new nl2).new np
      have ep : (upd (upd G l2 (.lst ((Txt.split ln sp1).map V.str))) p (.tup ((Txt.split ln sp1).map V.str))) p = some (.tup ((wordsOf ln).map V.str)) := upd_same
      generalize upd (upd G l2 (.lst ((Txt.split ln sp1).map V.str))) p (.tup ((Txt.split ln sp1).map V.str)) = G2 at x2 ep ⊢
      refine ⟨vals, x2 _ _ eG, by omega, (xG.trans x2).put hD, vals ++ [.ref p], upd_same, ?_⟩
      have t2 : Tup G2 (upd G2 D (.lst (vals ++ [.ref p]))) := Tup.put (x2 _ _ eG)
      have hw : (rowsOf z)[i]? = some (wordsOf ln) := by
        unfold rowsOf
        rw [List.getElem?_map, hl]
        rfl
      rw [List.take_succ, hw]
      exact Paired.snoc (L2.Paired.mapP pG fun _ _ h => (h.tup (Ex.tup x2)).tup t2) ⟨p, rfl, t2 _ _ ep⟩
    · rintro G ⟨xG, vals, eG, pG⟩
      have lz2 : ((Txt.split z nl).map V.str).length = (rowsOf z).length := by
        unfold rowsOf
        rw [List.length_map, List.length_map]
      rw [lz2, List.take_length] at pG
      obtain ⟨ws0, wss, er⟩ : ∃ ws0 wss, rowsOf z = ws0 :: wss := by
        cases e : rowsOf z with
        | nil =>
          unfold rowsOf at e
          rw [List.map_eq_nil_iff] at e
          exact absurd e sne
        | cons a b => exact ⟨a, b, rfl⟩
      rw [er] at pG lrows
      cases pG with
      | @cons v0 _ vs _ h0 pr =>
        obtain ⟨r0, rfl, hr0⟩ := h0
        have lvs := Paired.size pr
        rw [List.length_cons] at lrows
        refine ⟨D, _, rfl, SqL.of eG, by decide, by rw [List.length_cons]; omega, by rw [List.length_cons]; omega, fun D2 hD2 => ?_⟩
        rw [show (V.ref r0 :: vs).length + 1 - 2 = vs.length from by rw [List.length_cons]; omega]
        rw [show List.take 1 (V.ref r0 :: vs) ++ [V.ref D2] ++ List.drop vs.length (List.drop 1 (V.ref r0 :: vs)) = [V.ref r0, V.ref D2] from by simp]
        rw [show List.take vs.length (List.drop 1 (V.ref r0 :: vs)) = vs from by simp]
        have x3 : Ex G (upd G D2 (.lst vs)) := Ex.refl.new hD2
        have e3 : (upd G D2 (.lst vs)) D2 = some (.lst vs) := upd_same
        generalize upd G D2 (.lst vs) = G3 at x3 e3 ⊢
        have hr3 := x3 _ _ hr0
        have y3 := (x1.trans xG).trans x3
        have nog : (∀ m wss, ¬ GoodText W z m wss) → ∀ G' d, Ex H G' → G' d = none → E (.ref cT) (some d) (upd G' d (.xd [(("given" : Str), .str z)])) := fun n G' d xx nn => bad n _ d (xx.new nn) upd_same
        refine ⟨_, _, rfl, _, _, rfl, rfl, ?_⟩
        try dsimp only
        refine rd_seqU (rd_ifU ?_)
        refine ⟨_, rfl, r0, _, rfl, .inr (SqT.of hr3), rfl, _, rfl, ?_⟩
        rw [List.length_map]
        by_cases l2 : ws0.length = 2
        case neg =>
          refine ite2 (fun _ => ?_) (fun q => absurd ?_ q)
          · exact ⟨_, rfl, _, rfl, fun d nd => nog (fun m wss2 gt => by
              have := gt.1
              rw [er] at this
              injection this with this _
              exact l2 (by rw [this]; rfl)) G3 d y3 nd⟩
          · simp only [Bool.not_eq_true', decide_eq_false_iff_not]
            intro q
            injection q with q
            omega
        obtain ⟨wa, wm, rfl⟩ : ∃ wa wm, ws0 = [wa, wm] := by
          match ws0, l2 with
          | [a, b], _ => exact ⟨a, b, rfl⟩
        have w0 := (wz [wa, wm] (by rw [er]; exact List.mem_cons_self ..)).2
        have lwm := w0 wm (by simp)
        refine ite2 (fun q => absurd q (by show ¬(!decide (V.int ((2 : Nat) : Int) = V.int 2)) = true; decide)) (fun _ => ?_)
        refine ⟨_, rfl, r0, _, _, _, rfl, rfl, SqT.of hr3, atI_nat (j := 0) rfl, rfl, _, rfl, ?_⟩
        by_cases ew : wa = wRl
        case neg =>
          refine ite2 (fun _ => ?_) (fun q => absurd ?_ q)
          · exact ⟨_, rfl, _, rfl, fun d nd => nog (fun m wss2 gt => by
              have := gt.1
              rw [er] at this
              injection this with this _
              injection this with this _
              exact ew this) G3 d y3 nd⟩
          · simp only [Bool.not_eq_true', decide_eq_false_iff_not]
            intro q
            injection q with q
            exact ew q
        subst ew
        refine ite2 (fun q => absurd q (by rw [decide_eq_true rfl]; decide)) (fun _ => ?_)
        refine rd_nextU ?_
        try dsimp only
        refine ⟨_, rfl, _, rfl, r0, _, _, _, rfl, rfl, SqT.of hr3, atI_nat (j := 1) rfl, _, rfl, .inl ⟨D2, _, rfl, SqL.of e3, fun t nt => ?_⟩⟩
        have x4 : Ex G3 (upd G3 t (.tup vs)) := Ex.refl.new nt
        have e4 : (upd G3 t (.tup vs)) t = some (.tup vs) := upd_same
        generalize upd G3 t (.tup vs) = G4 at x4 e4 ⊢
        have y4 := y3.trans x4
        intro y dy n1 n2 ne
        have x5 : Ex G4 (upd (upd G4 dy (.own y)) y (.ins RC dy [])) := (Ex.refl.new n2).new (by rw [upd_ne ne.symm]; exact n1)
        have e5 : (upd (upd G4 dy (.own y)) y (.ins RC dy [])) y = some (.ins RC dy []) := upd_same
        generalize upd (upd G4 dy (.own y)) y (.ins RC dy []) = G5 at x5 e5 ⊢
        have y5 := y4.trans x5
        have nyH : H y = none := by
          cases q : H y with
          | none => rfl
          | some o => rw [y4 _ _ q] at n1; cases n1
        have p5 : Paired (RowW G5) vs wss := L2.Paired.mapP pr fun _ _ h => h.tup (Ex.tup (x3.trans (x4.trans x5)))
        refine ⟨y, dy, x, t, wm, W, vs, wss, rfl, e5, wk.ex y5, g, by omega, x5 _ _ e4, p5, fun ws hws u hu => ?_, by omega, fun nm H6 d x6 e6 => ?_, fun mm nt2 i H6 d x6 e6 => ?_, fun mm tab H6 b6 ra => ⟨rfl, ?_⟩⟩
        · have := (wz ws (by rw [er]; exact List.mem_cons_of_mem _ hws)).2 u hu
          omega
        · exact ⟨true, fitU, fun _ a ha => ⟨_, rfl, _, rfl, fun d2 n2 => nog (fun m wss2 gt => by
            have h1 := gt.1
            rw [er] at h1
            injection h1 with h1 _
            injection h1 with _ h1
            injection h1 with h1 _
            exact nm (h1 ▸ gt.2.1)) _ d2 (y5.trans x6) n2⟩, fun q => absurd q Bool.false_ne_true.symm⟩
        · exact ⟨true, fitB, fun _ a ha => ⟨_, rfl, _, rfl, fun d2 n2 => nog (fun m wss2 gt => by
            have h1 := gt.1
            rw [er] at h1
            injection h1 with _ h1
            exact nt2 (h1 ▸ gt.2.2)) _ d2 (y5.trans x6) n2⟩, fun q => absurd q Bool.false_ne_true.symm⟩
        · exact ⟨_, rfl, good wm wss ⟨er, mm, tab⟩ y t H6 (fun b o hb => b6 b o (fun q => by rw [q, nyH] at hb; cases hb) (y5 _ _ hb)) nyH ra⟩
end
end LJ
set_option Elab.async false
set_option linter.all false
set_option maxRecDepth 100000
set_option maxHeartbeats 8000000
/-! _law_reads of the laws about rules: what a text is due to tell. -/
namespace LJ
open PySem PySem.Spec L2
abbrev sRs : Stmt := top 63
abbrev nRs : List Str := ["_law_sketch", "_law_said", "_law_lines", "_law_head", "_law_found", "_law_names_here", "_law_washes", "_law_line", "_law_words", "_law_each"]
def dT (xs : List Str) : PyData := .tuple (xs.map PyData.str)
theorem dpAll_strs {K : PySem.W.Frag} {H : Hp} : ∀ xs : List Str, DpAll K H (xs.map V.str) (xs.map PyData.str)
  | [] => .nil
  | x :: xs => .cons (.str x) (dpAll_strs xs)
theorem dp_T {K : PySem.W.Frag} {H : Hp} {r : Addr} {xs : List Str} (h : H r = some (.tup (xs.map V.str))) : Dp K H (.ref r) (dT xs) := .tup (SqT.of h) (dpAll_strs xs)
theorem eqvAll_strs : ∀ xs ys : List Str, PyData.eqvAll (xs.map PyData.str) (ys.map PyData.str) = decide (xs = ys)
  | [], [] => by simp [PyData.eqvAll]
  | [], y :: ys => by simp [PyData.eqvAll]
  | x :: xs, [] => by simp [PyData.eqvAll]
  | x :: xs, y :: ys => by
    have ih := eqvAll_strs xs ys
    simp only [List.map_cons, PyData.eqvAll, PyData.eqv, ih]
    by_cases h1 : x = y
    · subst h1
      by_cases h2 : xs = ys
      · subst h2
        simp
      · simp [h2]
    · have : (x == y) = false := beq_eq_false_iff_ne.mpr h1
      rw [this, Bool.false_and]
      exact (decide_eq_false fun h => h1 (List.cons.inj h).1).symm
theorem eqv_T (xs ys : List Str) : PyData.eqv (dT xs) (dT ys) = decide (xs = ys) := by
  unfold dT
  rw [← eqvAll_strs]
  simp [PyData.eqv]
theorem any_T {k : List Str} : ∀ {l : List (List Str)}, (l.map dT).any (fun z => PyData.eqv z (dT k)) = decide (k ∈ l)
  | [] => by simp
  | x :: l => by
    rw [List.map_cons, List.any_cons, any_T (l := l), eqv_T]
    by_cases h : k = x
    · subst h
      simp
    · have h' : ¬ x = k := fun e => h e.symm
      rw [decide_eq_false h', Bool.false_or]
      by_cases h2 : k ∈ l
      · rw [decide_eq_true h2, decide_eq_true (List.mem_cons_of_mem _ h2)]
      · rw [decide_eq_false h2, decide_eq_false]
        exact fun h3 => (List.mem_cons.mp h3).elim h h2
theorem shw_T {xs : List Str} {n m : Nat} (h : ∀ x ∈ xs, Tk x ∧ x.length ≤ n) (l : xs.length ≤ m) : Shw 1 (m * (n + 1)) (dT xs) := shw_tuple (a := 0) (fun d hd => by
  obtain ⟨x, hx, rfl⟩ := List.mem_map.mp hd
  exact shw_txt (h x hx).1 (h x hx).2) (by rw [List.length_map]; exact l)
theorem dp_pairs {K : PySem.W.Frag} {H : Hp} : ∀ {vals : List V} {l : List (List Str)}, Paired (RowW H) vals l → DpAll K H vals (l.map dT)
  | _, _, .nil => .nil
  | _, _, .cons ⟨a, e, h⟩ t => by
    subst e
    exact .cons (dp_T h) (dp_pairs t)
theorem atTwo {ws : List Str} {i : Nat} {x : Str} (h : ws[i]? = some x) : atI (ws.map V.str) (i : Int) = some (.str x) := atI_nat (by rw [List.getElem?_map, h]; rfl)
def spRs : Sp := fun vs H Q _ => ∃ (p : Addr) (z : Str) (W : Wd), vs = [.ref p, .str z] ∧ SkAt H p W ∧ GoodF W ∧ Tk z ∧ z.length ≤ 10000 ∧
  (∀ m wss, GoodText W z m wss → ∀ (q t : Addr) (rs : List V) (H1 : Hp), Ex H H1 → H1 q = some (.lst [.str m, .ref t]) → H1 t = some (.tup rs) → Paired (RowW H1) rs wss → Q (.ref q) H1) ∧ ((∀ m wss, ¬ GoodText W z m wss) → ∀ H1, Ex H H1 → Q .non H1)
theorem SkAt.ex {H H1 : Hp} {p : Addr} {W : Wd} (e : Ex H H1) (h : SkAt H p W) : SkAt H1 p W := by
  obtain ⟨a, b, c, d, va, vb, vc, vd, hp, ha, pa, hb, pb, hc, pc, hd, pd⟩ := h
  have t := Ex.tup e
  exact ⟨a, b, c, d, va, vb, vc, vd, e _ _ hp, e _ _ ha, rows3 t pa, e _ _ hb, rows3 t pb, e _ _ hc, rows2 t pc, e _ _ hd, rowsP t pd⟩
theorem rowTk {W : Wd} (g : GoodF W) {ws : List Str} (h : rowOk W ws = true) : ∀ x ∈ ws, Tk x ∧ x.length ≤ 8 := fun x hx => by
  obtain ⟨h8, hw⟩ := (row_short g h).2 x hx
  rcases hw with hw | rfl
  · exact ⟨tk_name hw, h8⟩
  · exact ⟨by decide +kernel, h8⟩
structure BltRs (mg : Str → Option Value) : Prop where
  len : mg "len" = none
  tuple : mg "tuple" = none
section
variable {P : Program} {w : World} {K : PySem.W.Frag} {mg : Str → Option Value} {base : Heap} {C : Addr}
theorem scRs : FnScope nRs ["_law_sketch", "_law_said"] (defScope sRs) := ⟨rfl, rfl, rfl, by decide +kernel, rfl, by decide +kernel, by decide +kernel⟩
def teRs (K : PySem.W.Frag) : TE := tSl (rSlT K) (tVar 9) tNoPart (tPart (tC (.int 2)))
theorem ok_rs {f fL : Addr} {fd fdL : FuncData} (F : Fun K "_law_reads" "_law_reads" sRs f fd) (B : BltRs mg)
    (GL : FnOk P w K mg base CX0 1 fL fdL ["_law_sketch", "_law_part"] spCld) (mL : mg "_law_called" = some (.ref fL)) (kL : PySem.W.keepIn K (.ref fL) = true) (bL : Binds K fdL ["_law_sketch", "_law_part"] []) :
    FnOk P w K mg base CX0 2 f fd ["_law_sketch", "_law_said"] spRs := by
  refine F.ok scRs (fun vs H Q E h => ?_) (fun cdv A outer s H vs Q E hr h => ?_)
  · obtain ⟨p, z, W, rfl, _⟩ := h
    rfl
  · obtain ⟨p, z, W, rfl, sk, g, tk, lz, good, bad⟩ := h
    have hu : (A.deeper (PyProof.Rows.envOfC "_law_reads" (defScope sRs) s.heap.objs.size f cdv)).units + 65 < cLine := by
      have := hr.un
      omega
    refine ⟨_, pss_cons (ps_set (i := 2) scRs.nd rfl (Or.inl rfl) (pe_split (pv 1) pe_str))
      (pss_cons (ps_par (i := 3) (j := 4) (by rfl) scRs.nd rfl rfl (by decide) rfl rfl (pa_cons (pe_split (pe_ix ix_list (pv 2) pe_int (fun _ _ => rfl)) pe_str) (pa_cons (pe_lst pa_nil) pa_nil)) (by rfl))
      (pss_cons (ps_if (PW.pt (pw_or (pt_cmpR op_ne (pe_callB call_len_seq (by rfl) B.len (by decide +kernel) (pa_cons (pv 3) pa_nil)) pe_int (nomark _)) (pw_or (pt_cmpR op_ne (pe_ix ix_list (pv 3) pe_int (fun _ _ => rfl)) pe_str (nomark _))
          (pw_or1 (pt_cmpR op_notIn_seq (pe_ix ix_list (pv 3) pe_int (fun _ _ => rfl)) (pe_call GL hr (by rfl) mL kL bL .nil pass0 (pa_cons (pv 0) (pa_cons pe_str pa_nil))) (by with_unfolding_all rfl)))))) (pss_one (ps_ret pe_non)) pss_nil)
      (pss_cons (ps_par (i := 5) (j := 6) (by rfl) scRs.nd rfl rfl (by decide) rfl rfl (pa_cons (pe_call GL hr (by rfl) mL kL bL .nil pass0 (pa_cons (pv 0) (pa_cons pe_str pa_nil))) (pa_cons (pe_op op_cat (pe_call GL hr (by rfl) mL kL bL .nil pass0 (pa_cons (pv 0) (pa_cons pe_str pa_nil))) (pe_lst (pa_cons pe_str pa_nil))) pa_nil)) (by rfl))
      (pss_cons (ps_for PassesOwn.never rfl (pi_list (pe_slice sl_list (pv 2) (po_some pe_int) po_none)) (pg_name (i := 7) scRs.nd rfl (Or.inl rfl))
        (pss_cons (ps_set (i := 8) scRs.nd rfl (Or.inl rfl) (pe_tupleOf (by rfl) B.tuple (pe_split (pv 7) pe_str)))
        (pss_cons (ps_if (PW.pt (pw_or (pt_cmpR op_ne (pe_callB call_len_seq (by rfl) B.len (by decide +kernel) (pa_cons (pv 8) pa_nil)) pe_int (nomark _)) (pw_or (pt_cmpR op_notIn_seq (pe_ix ix_tup (pv 8) pe_int (fun _ _ => rfl)) (pv 5) (by with_unfolding_all rfl))
            (pw_or (pt_cmpR op_notIn_seq (pe_ix ix_tup (pv 8) pe_int (fun _ _ => rfl)) (pv 5) (by with_unfolding_all rfl)) (pw_or1 (pt_cmpR op_notIn_seq (pe_ix ix_tup (pv 8) pe_int (fun _ _ => rfl)) (pv 6) (by with_unfolding_all rfl))))))) (pss_one (ps_ret pe_non)) pss_nil)
        (pss_cons (ps_if (pt_cmpR (op_inD hu) (pe_slice sl_tup (pv 8) po_none (po_some pe_int)) (pe_lc (own := [("_law_each", 9)]) (g := gName 9) (te := teRs K) (by rfl) scRs.nd (pi_list (pv 4)) (blkOk_by (own := [("_law_each", 9)]) (N := nRs) (sc := defScope sRs) (by decide +kernel)) (fun _ _ _ _ _ => pg_name (i := 9) scRs.nd rfl (Or.inl rfl)) (fun _ _ _ _ _ => pts_nil)
            (fun _ _ _ _ _ => pe_slice sl_tup (pv 9) po_none (po_some pe_int))) (by with_unfolding_all rfl)) (pss_one (ps_ret pe_non)) pss_nil)
        (pss_one (ps_expr (pe_bm PySem.F.plainAttrs_list PySem.F.slot_list_append PySem.F.type_list_append mt_append (pv 4) (pa_cons (pv 8) pa_nil))))))))
      (pss_one (ps_ret (pe_lst (pa_cons (pe_ix ix_list (pv 3) pe_int (fun _ _ => rfl)) (pa_cons (pe_tupleOf (by rfl) B.tuple (pv 4)) pa_nil))))))))), ?_⟩
    have sz := sizeLine_eq
    have sn := split_sum (x := z) tl_nl (by decide)
    have sne := split_ne (x := z) tl_nl (by decide)
    have lle : ∀ ln ∈ Txt.split z nl, ln.length ≤ z.length := fun ln h => split_le tl_nl (by decide) h
    have ltk : ∀ ln ∈ Txt.split z nl, Tk ln := fun ln h => tk_split tl_nl (by decide) tk h
    have ero : rowsOf z = (Txt.split z nl).map (wordsOf ·) := rfl
    cases hsp : Txt.split z nl with
    | nil => exact absurd hsp sne
    | cons l0 lr =>
    rw [hsp] at sn lle ltk ero
    rw [List.map_cons] at ero
    clear sne
    have l0l := lle l0 (List.mem_cons_self ..)
    have lrn : lr.length ≤ z.length := by
      have := sn.2
      rw [List.length_cons] at this
      omega
    refine rd_seqU (rd_asgU ?_)
    refine ⟨_, rfl, ⟨_, rfl⟩, z, nl, rfl, rfl, by decide +kernel, by omega, fun l2 n2 => ?_⟩
    rw [hsp]
    have x2 : Ex H (upd H l2 (.lst ((l0 :: lr).map V.str))) := Ex.refl.new n2
    have e2 : (upd H l2 (.lst ((l0 :: lr).map V.str))) l2 = some (.lst ((l0 :: lr).map V.str)) := upd_same
    generalize upd H l2 (.lst ((l0 :: lr).map V.str)) = H2 at x2 e2 ⊢
    refine rd_nameU ?_
    try dsimp only
    refine rd_seqU ?_
    refine ⟨_, rfl, l2, _, 0, _, rfl, rfl, SqL.of e2, atI_nat (j := 0) rfl, ⟨_, rfl⟩, l0, sp1, rfl, rfl, by decide +kernel, by omega, fun l3 n3 => ⟨Nat.zero_le _, fun F nF => ⟨_, _, rfl, ?_⟩⟩⟩
    have x3 : Ex H2 (upd (upd H2 l3 (.lst ((Txt.split l0 sp1).map V.str))) F (.lst [])) := (Ex.refl.new n3).new nF
    have e3 : (upd (upd H2 l3 (.lst ((Txt.split l0 sp1).map V.str))) F (.lst [])) l3 = some (.lst ((wordsOf l0).map V.str)) := (Ex.refl.new nF) _ _ upd_same
    have eF : (upd (upd H2 l3 (.lst ((Txt.split l0 sp1).map V.str))) F (.lst [])) F = some (.lst []) := upd_same
    generalize upd (upd H2 l3 (.lst ((Txt.split l0 sp1).map V.str))) F (.lst []) = H3 at x3 e3 eF ⊢
    have nF2 : H2 F = none := by
      cases e : H2 F with
      | none => rfl
      | some o =>
        have := (Ex.refl.new (o := .lst ((Txt.split l0 sp1).map V.str)) n3) _ _ e
        rw [nF] at this
        cases this
    have x03 := x2.trans x3
    try dsimp only
    generalize hw0 : wordsOf l0 = ws0 at e3 ero
    -- the head
    have nog : ¬ (∃ m, ws0 = [wRl, m] ∧ m ∈ W.ms.map (·.1)) → ∀ H1, Ex H H1 → Q .non H1 := fun n => bad fun m wss gt => by
      have h1 := gt.1
      rw [ero] at h1
      injection h1 with h1 _
      exact n ⟨m, h1, gt.2.1⟩
    refine rd_seqU (rd_ifU ?_)
    refine ⟨_, rfl, l3, _, rfl, .inl (SqL.of e3), rfl, _, rfl, ?_⟩
    rw [List.length_map]
    by_cases l2' : ws0.length = 2
    case neg =>
      refine ite2 (fun _ => nog (fun ⟨m, e, _⟩ => l2' (by rw [e]; rfl)) H3 x03) (fun q => absurd ?_ q)
      simp only [Bool.not_eq_true', decide_eq_false_iff_not]
      intro q
      injection q with q
      omega
    obtain ⟨wa, wm, rfl⟩ : ∃ wa wm, ws0 = [wa, wm] := by
      match ws0, l2' with
      | [a, b], _ => exact ⟨a, b, rfl⟩
    refine ite2 (fun q => absurd q (by show ¬(!decide (V.int ((2 : Nat) : Int) = V.int 2)) = true; decide)) (fun _ => ?_)
    refine ⟨_, rfl, l3, _, 0, _, rfl, rfl, SqL.of e3, atI_nat (j := 0) rfl, rfl, _, rfl, ?_⟩
    by_cases ew : wa = wRl
    case neg =>
      refine ite2 (fun _ => nog (fun ⟨m, e, _⟩ => ew (by injection e)) H3 x03) (fun q => absurd ?_ q)
      simp only [Bool.not_eq_true', decide_eq_false_iff_not]
      intro q
      injection q with q
      exact ew q
    subst ew
    refine ite2 (fun q => absurd q (by rw [decide_eq_true rfl]; decide)) (fun _ => ?_)
    have sk3 := sk.ex x03
    obtain ⟨lm, rm, dm1, dm2, dm3, dm4⟩ := cld_m sk3 g
    refine ⟨_, rfl, l3, _, 1, _, rfl, rfl, SqL.of e3, atI_nat (j := 1) rfl, _, rfl, p, lm, _, rm, _, rfl, dm1, dm2, dm3, dm4, fun D4 H4 x4 nD4 eD4 => ?_⟩
    refine ⟨D4, _, rfl, .inl (SqL.of eD4), rfl, flat_strs _, _, rfl, ?_⟩
    rw [if_pos rfl, inV_strs]
    have x04 := x03.trans x4
    by_cases mm : wm ∈ W.ms.map (·.1)
    case neg =>
      have : (W.ms.map (·.1)).contains wm = false := by
        cases h : (W.ms.map (·.1)).contains wm with
        | false => rfl
        | true => exact absurd (List.contains_iff_mem.mp h) mm
      rw [this]
      refine ite2 (fun _ => nog (fun ⟨m, e, h⟩ => mm (by injection e with _ e; injection e with e _; rw [e]; exact h)) H4 x04) (fun q => absurd rfl q)
    rw [List.contains_iff_mem.mpr mm]
    refine ite2 (fun q => by cases q) (fun _ => ?_)
    refine rd_nextU ?_
    try dsimp only
    -- the names
    refine rd_seqU ?_
    have sk4 := sk.ex x04
    obtain ⟨lp, rp, dp1, dp2, dp3, dp4⟩ := cld_p sk4 g
    refine ⟨_, rfl, p, lp, _, rp, _, rfl, dp1, dp2, dp3, dp4, fun D5 H5 x5 nD5 eD5 => ?_⟩
    obtain ⟨lc, rc, dc1, dc2, dc3, dc4⟩ := cld_c (sk4.ex x5) g
    refine ⟨_, rfl, p, lc, _, rc, _, rfl, dc1, dc2, dc3, dc4, fun D6 H6 x6 nD6 eD6 => ⟨big100 (Nat.le_of_ble_eq_true rfl), fun l7 n7 => ?_⟩⟩
    change rCat _ _ (upd H6 l7 (.lst ([dash].map V.str))) _
    have x7 : Ex H6 (upd H6 l7 (.lst ([dash].map V.str))) := Ex.refl.new n7
    have e7 : (upd H6 l7 (.lst ([dash].map V.str))) l7 = some (.lst ([dash].map V.str)) := upd_same
    generalize upd H6 l7 (.lst ([dash].map V.str)) = H7 at x7 e7 ⊢
    refine ⟨D6, l7, _, _, rfl, rfl, x7 _ _ eD6, e7, by rw [List.length_map]; show _ + 1 ≤ _; omega, fun D8 nD8 => ⟨_, _, rfl, ?_⟩⟩
    rw [← List.map_append]
    have x8 : Ex H7 (upd H7 D8 (.lst ((W.cs.map (·.1) ++ [dash]).map V.str))) := Ex.refl.new nD8
    have e8 : (upd H7 D8 (.lst ((W.cs.map (·.1) ++ [dash]).map V.str))) D8 = some (.lst ((W.cs.map (·.1) ++ [dash]).map V.str)) := upd_same
    generalize upd H7 D8 (.lst ((W.cs.map (·.1) ++ [dash]).map V.str)) = H8 at x8 e8 ⊢
    try dsimp only
    have x48 := ((x5.trans x6).trans x7).trans x8
    have x58 := (x6.trans x7).trans x8
    have x08 := x04.trans x48
    have eD5' := x58 _ _ eD5
    have e2' := x48 _ _ (x4 _ _ (x3 _ _ e2))
    have e3' := x48 _ _ (x4 _ _ e3)
    have eF' := x48 _ _ (x4 _ _ eF)
    clear sk3 sk4 dm1 dm2 dm3 dm4 dp1 dp2 dp3 dp4 dc1 dc2 dc3 dc4 eD4 nD4 nD5 nD6 eD6 e7 n7 nD8 n2 n3 eD5
    refine rd_seqU ?_
    refine ⟨_, rfl, 1, rfl, l2, _, rfl, SqL.of e2', fun q nq => ?_⟩
    rw [show cutV ((l0 :: lr).map V.str) (some 1) none = lr.map V.str from (cutV_suf (a := 1) (by simp)).trans rfl]
    have x9 : Ex H8 (upd H8 q (.lst (lr.map V.str))) := Ex.refl.new nq
    have e9 : (upd H8 q (.lst (lr.map V.str))) q = some (.lst (lr.map V.str)) := upd_same
    have nFq : F ≠ q := ne_of_none eF' nq
    generalize upd H8 q (.lst (lr.map V.str)) = H9 at x9 e9 ⊢
    have hF9 := x9 _ _ eF'
    have h59 := x9 _ _ eD5'
    have h89 := x9 _ _ e8
    have h39 := x9 _ _ e3'
    have x09 := x08.trans x9
    have nFH : H F = none := by
      cases e : H F with
      | none => rfl
      | some o =>
        exact absurd (x2 _ _ e) (fun h => by rw [nF2] at h; cases h)
    have ne3 : l3 ≠ F := fun e => by
      subst e
      rw [h39] at hF9
      cases hF9
    have ne5 : D5 ≠ F := fun e => by
      subst e
      rw [h59] at hF9
      have l := congrArg (fun o => match o with | some (HO.lst xs) => xs.length | _ => 0) hF9
      have p1 := g.p1
      simp only [List.length_map, List.length_nil] at l
      omega
    have ne8 : D8 ≠ F := fun e => by
      subst e
      rw [h89] at hF9
      have l := congrArg (fun o => match o with | some (HO.lst xs) => xs.length | _ => 0) hF9
      simp only [List.length_map, List.length_nil, List.length_append, List.length_singleton] at l
      omega
    have tup9 : ∀ {G : Hp}, But F H9 G → Tup H9 G := fun b a xs e => b a _ (ne_of e hF9 fun z => nomatch z) e
    have exG : ∀ {G : Hp}, But F H9 G → Ex H G := fun b a o e => b a o (ne_of_none e nFH) (x09 _ _ e)
    have badR : ∀ (n : ¬ tabOk W (lr.map (wordsOf ·))) (G : Hp), But F H9 G → Q .non G := fun n G b => bad (fun m wss gt => by
      have h1 := gt.1
      rw [ero] at h1
      injection h1 with _ h1
      exact n (h1 ▸ gt.2.2)) G (exG b)
    refine ⟨q, rfl, ⟨_, SqL.of e9⟩, for_list (K := K) (a := q) (xs := lr.map V.str) (fun i σ G => (∃ v7 v8 v9 : Option V, σ = [some (.ref p), some (.str z), some (.ref l2), some (.ref l3), some (.ref F), some (.ref D5), some (.ref D8), v7, v8, v9]) ∧ But F H9 G ∧ ∃ vals, G F = some (.lst vals) ∧ Paired (RowW G) vals ((lr.map (wordsOf ·)).take i) ∧ (∀ ws ∈ (lr.map (wordsOf ·)).take i, rowOk W ws = true) ∧ (((lr.map (wordsOf ·)).take i).map (·.take 2)).Nodup)
      ⟨⟨_, _, _, rfl⟩, But.refl, [], hF9, .nil, (fun ws h => by simp at h), (by simp)⟩ (fun i σ G _ h => SqL.of (h.2.1 _ _ nFq.symm e9)) ?_ ?_⟩
    · rintro i y σ G hy ⟨⟨v7, v8, v9, rfl⟩, bG, vals, hF, pr, al, nd⟩
      rw [List.getElem?_map] at hy
      obtain ⟨ln, hl, rfl⟩ := Option.map_eq_some_iff.mp hy
      have mln := List.mem_of_getElem? hl
      have lnl := lle ln (List.mem_cons_of_mem _ mln)
      have hw : (lr.map (wordsOf ·))[i]? = some (wordsOf ln) := by rw [List.getElem?_map, hl]; rfl
      have sl := (split_sum (x := ln) tl_sp1 (by decide)).2
      refine rd_seqU (rd_asgU ?_)
      refine ⟨_, rfl, ⟨_, rfl⟩, ln, sp1, rfl, rfl, by decide +kernel, by omega, fun l nl' => .inl ⟨l, _, rfl, SqL.of upd_same, fun t nt => ?_⟩⟩
      have xt : Ex G (upd (upd G l (.lst ((Txt.split ln sp1).map V.str))) t (.tup ((Txt.split ln sp1).map V.str))) := (Ex.refl.new nl').new nt
      have et : (upd (upd G l (.lst ((Txt.split ln sp1).map V.str))) t (.tup ((Txt.split ln sp1).map V.str))) t = some (.tup ((wordsOf ln).map V.str)) := upd_same
      generalize upd (upd G l (.lst ((Txt.split ln sp1).map V.str))) t (.tup ((Txt.split ln sp1).map V.str)) = G1 at xt et ⊢
      have bG1 : But F H9 G1 := bG.trans (But.ex xt)
      refine rd_nameU ?_
      try dsimp only
      generalize wordsOf ln = ws at hw et
      have mws := List.mem_of_getElem? hw
      have tkn : (lr.map (wordsOf ·)).take (i + 1) = (lr.map (wordsOf ·)).take i ++ [ws] := by rw [List.take_succ, hw]; rfl
      have nrow : rowOk W ws = false → Q .non G1 := fun n => badR (fun tb => by rw [tb.1 ws mws] at n; cases n) G1 bG1
      refine rd_seqU (rd_ifU ?_)
      refine ⟨_, rfl, t, _, rfl, .inr (SqT.of et), rfl, _, rfl, ?_⟩
      rw [List.length_map]
      by_cases l3' : ws.length = 3
      case neg =>
        refine ite2 (fun _ => nrow (by
          match ws, l3' with
          | [], _ => rfl
          | [_], _ => rfl
          | [_, _], _ => rfl
          | [_, _, _], l3' => exact absurd rfl l3'
          | _ :: _ :: _ :: _ :: _, _ => rfl)) (fun q => absurd ?_ q)
        simp only [Bool.not_eq_true', decide_eq_false_iff_not]
        intro q
        injection q with q
        omega
      obtain ⟨a, b, c, rfl⟩ : ∃ a b c, ws = [a, b, c] := by
        match ws, l3' with
        | [a, b, c], _ => exact ⟨a, b, c, rfl⟩
      have ero3 : rowOk W [a, b, c] = (isOf (W.ps.map (·.1)) (.str a) && (isOf (W.ps.map (·.1)) (.str b) && isCl W (.str c))) := rfl
      have g5 := bG1 _ _ ne5 h59
      have g8 := bG1 _ _ ne8 h89
      refine ite2 (fun q => absurd q (by show ¬(!decide (V.int ((3 : Nat) : Int) = V.int 3)) = true; decide)) (fun _ => ?_)
      refine ⟨_, rfl, t, _, 0, _, rfl, rfl, SqT.of et, atI_nat (j := 0) rfl, _, rfl, D5, _, rfl, .inl (SqL.of g5), rfl, flat_strs _, _, rfl, ?_⟩
      rw [if_pos rfl, inV_strs]
      cases h1 : (W.ps.map (·.1)).contains a with
      | false =>
        refine ite2 (fun _ => nrow (by rw [ero3]; show ((W.ps.map (·.1)).contains a && _) = false; rw [h1]; rfl)) (fun q => absurd rfl q)
      | true =>
      refine ite2 (fun q => by cases q) (fun _ => ?_)
      refine ⟨_, rfl, t, _, 1, _, rfl, rfl, SqT.of et, atI_nat (j := 1) rfl, _, rfl, D5, _, rfl, .inl (SqL.of g5), rfl, flat_strs _, _, rfl, ?_⟩
      rw [if_pos rfl, inV_strs]
      cases h2 : (W.ps.map (·.1)).contains b with
      | false =>
        refine ite2 (fun _ => nrow (by rw [ero3]; show (_ && ((W.ps.map (·.1)).contains b && _)) = false; rw [h2, Bool.false_and, Bool.and_false])) (fun q => absurd rfl q)
      | true =>
      refine ite2 (fun q => by cases q) (fun _ => ?_)
      refine ⟨_, rfl, t, _, 2, _, rfl, rfl, SqT.of et, atI_nat (j := 2) rfl, _, rfl, D8, _, rfl, .inl (SqL.of g8), rfl, flat_strs _, _, rfl, ?_⟩
      rw [if_pos rfl, inV_strs]
      have ecl : isCl W (.str c) = (W.cs.map (·.1) ++ [dash]).contains c := by
        unfold isCl
        rw [Bool.eq_iff_iff, Bool.or_eq_true, List.contains_iff_mem, List.mem_append, List.mem_singleton]
        constructor
        · rintro (h | h)
          · exact .inl (List.mem_of_elem_eq_true h)
          · have := of_decide_eq_true h
            injection this with this
            exact .inr this
        · rintro (h | h)
          · exact .inl (List.elem_eq_true_of_mem h)
          · exact .inr (decide_eq_true (by rw [h]))
      cases h3 : (W.cs.map (·.1) ++ [dash]).contains c with
      | false =>
        refine ite2 (fun _ => nrow (by rw [ero3, ecl, h3, Bool.and_false, Bool.and_false])) (fun q => absurd rfl q)
      | true =>
      have ok3 : rowOk W [a, b, c] = true := by
        rw [ero3, ecl, h3, Bool.and_true]
        show ((W.ps.map (·.1)).contains a && (W.ps.map (·.1)).contains b) = true
        rw [h1, h2]
        rfl
      refine ite2 (fun q => by cases q) (fun _ => ?_)
      refine rd_nextU ?_
      try dsimp only
      -- the pair
      refine rd_seqU (rd_ifU ?_)
      refine ⟨_, rfl, 2, rfl, t, _, rfl, SqT.of et, (by show ¬(_ ∧ (2 : Nat) = 3); rintro ⟨_, z⟩; cases z), fun p2 np2 => ?_⟩
      have xp : Ex G1 (upd G1 p2 (.tup (cutV ([a, b, c].map V.str) none (some 2)))) := Ex.refl.new np2
      have ep : (upd G1 p2 (.tup (cutV ([a, b, c].map V.str) none (some 2)))) p2 = some (.tup ([a, b].map V.str)) := upd_same
      generalize upd G1 p2 (.tup (cutV ([a, b, c].map V.str) none (some 2))) = G2 at xp ep ⊢
      have hF2 := xp _ _ (xt _ _ hF)
      have pr2 : Paired (RowW G2) vals ((lr.map (wordsOf ·)).take i) := L2.Paired.mapP pr fun _ _ z => z.tup (Ex.tup (xt.trans xp))
      have lv := Paired.size pr
      have lt : ((lr.map (wordsOf ·)).take i).length ≤ z.length := by
        rw [List.length_take, List.length_map]
        omega
      refine ⟨_, rfl, F, rfl, ⟨_, SqL.of hF2⟩, fun D hD => lc_list (K := K) (a := F) (xs := vals) (fun n G => Ex G2 G ∧ ∃ vs, G D = some (.lst vs) ∧ Paired (RowW G) vs ((((lr.map (wordsOf ·)).take i).take n).map (·.take 2))) ⟨Ex.refl.new hD, [], upd_same, .nil⟩ (fun n G _ h => SqL.of (h.1 _ _ hF2)) ?_ ?_⟩
      · rintro n v G3 hv ⟨xG3, vs, eG3, pG3⟩
        obtain ⟨us, hus, r, rfl, hr⟩ := Paired.spot pr2 hv
        obtain ⟨a', b', c', rfl, _⟩ := rowOk_3 (al us (List.mem_of_getElem? hus))
        refine ⟨rfl, _, rfl, 2, rfl, r, _, rfl, SqT.of (xG3 _ _ hr), (by show ¬(_ ∧ (2 : Nat) = 3); rintro ⟨_, z⟩; cases z), fun p3 np3 => ?_⟩
        have x3' : Ex G3 (upd G3 p3 (.tup (cutV ([a', b', c'].map V.str) none (some 2)))) := Ex.refl.new np3
        have e3'' : (upd G3 p3 (.tup (cutV ([a', b', c'].map V.str) none (some 2)))) p3 = some (.tup ([a', b'].map V.str)) := upd_same
        generalize upd G3 p3 (.tup (cutV ([a', b', c'].map V.str) none (some 2))) = G4 at x3' e3'' ⊢
        have lvs := Paired.size pG3
        rw [List.length_map, List.length_take] at lvs
        refine ⟨vs, x3' _ _ eG3, by omega, (xG3.trans x3').put hD, vs ++ [.ref p3], upd_same, ?_⟩
        have t4 : Tup G4 (upd G4 D (.lst (vs ++ [.ref p3]))) := Tup.put (x3' _ _ eG3)
        rw [List.take_succ, hus, List.map_append]
        exact Paired.snoc (L2.Paired.mapP pG3 fun _ _ h => (h.tup (Ex.tup x3')).tup t4) ⟨p3, rfl, t4 _ _ e3''⟩
      · rintro G3 ⟨xG3, vs, eG3, pG3⟩
        rw [lv, List.take_length] at pG3
        have kk2 : ∀ us ∈ ((lr.map (wordsOf ·)).take i).map (·.take 2), (∀ x ∈ us, Tk x ∧ x.length ≤ 8) ∧ us.length ≤ 2 := fun us hu => by
          obtain ⟨w3, hw3, rfl⟩ := List.mem_map.mp hu
          refine ⟨fun x hx => rowTk g (al w3 hw3) x (List.mem_of_mem_take hx), ?_⟩
          rw [List.length_take]
          omega
        have kab : ∀ x ∈ [a, b], Tk x ∧ x.length ≤ 8 := fun x hx => rowTk g ok3 x (by
          simp only [List.mem_cons, List.not_mem_nil, or_false] at hx ⊢
          rcases hx with rfl | rfl
          · exact .inl rfl
          · exact .inr (.inl rfl))
        refine ⟨dT [a, b], (((lr.map (wordsOf ·)).take i).map (·.take 2)).map dT, dp_T (xG3 _ _ ep), .lst (SqL.of eG3) (dp_pairs pG3), (shw_T kab (m := 2) (Nat.le_refl 2)).shaped (by decide), Shw.shaped (shw_list (a := 1) (n := 2 * (8 + 1)) (fun d hd => by
          obtain ⟨us, hu, rfl⟩ := List.mem_map.mp hd
          exact shw_T (kk2 us hu).1 (kk2 us hu).2) (Nat.le_refl _)) (by decide), _, rfl, ?_⟩
        rw [any_T]
        have bG3 : But F H9 G3 := bG1.trans (But.ex (xp.trans xG3))
        by_cases dup : [a, b] ∈ ((lr.map (wordsOf ·)).take i).map (·.take 2)
        · rw [decide_eq_true dup]
          refine ite2 (fun _ => badR (fun tb => ?_) G3 bG3) (fun q => absurd rfl q)
          have e1 : ((lr.map (wordsOf ·)).map (·.take 2))[i]? = some [a, b] := by rw [List.getElem?_map, hw]; rfl
          exact not_mem_take tb.2 e1 (by rw [← List.map_take]; exact dup)
        · rw [decide_eq_false dup]
          refine ite2 (fun q => by cases q) (fun _ => ?_)
          refine rd_nextU ?_
          try dsimp only
          have hF3 := xG3 _ _ hF2
          have t3 : Tup G (upd G3 F (.lst (vals ++ [.ref t]))) := ((Ex.tup ((xt.trans xp).trans xG3))).trans (Tup.put hF3)
          refine ⟨_, rfl, .inl ⟨rfl, _, SqL.of hF3⟩, _, rfl, F, vals, _, rfl, rfl, hF3, by omega, ⟨⟨_, _, _, rfl⟩, fun b o nb e => ?_, vals ++ [.ref t], upd_same, ?_, ?_, ?_⟩⟩
          · rw [upd_ne nb]
            exact bG3 b o nb e
          · rw [tkn]
            exact Paired.snoc (L2.Paired.mapP pr fun _ _ z => z.tup t3) ⟨t, rfl, (Tup.put hF3) _ _ (xG3 _ _ (xp _ _ et))⟩
          · rw [tkn]
            intro ws2 h2'
            rcases List.mem_append.mp h2' with h | h
            · exact al ws2 h
            · rw [List.mem_singleton.mp h]
              exact ok3
          · rw [tkn, List.map_append]
            refine List.nodup_append.mpr ⟨nd, (by simp), fun u hu v hv e => ?_⟩
            obtain rfl := List.mem_singleton.mp hv
            subst e
            exact dup hu
    · rintro σ G ⟨⟨v7, v8, v9, rfl⟩, bG, vals, hF, pr, al, nd⟩
      rw [List.length_map] at pr al nd
      rw [show lr.length = (lr.map (wordsOf ·)).length from (List.length_map ..).symm, List.take_length] at pr al nd
      have h3G := bG _ _ ne3 h39
      refine ⟨_, rfl, l3, _, 1, _, rfl, rfl, SqL.of h3G, atI_nat (j := 1) rfl, _, rfl, .inl ⟨F, _, rfl, SqL.of hF, fun t nt => ⟨big100 (Nat.le_of_ble_eq_true rfl), fun q' nq' => ?_⟩⟩⟩
      have xt : Ex G (upd (upd G t (.tup vals)) q' (.lst [.str wm, .ref t])) := (Ex.refl.new nt).new nq'
      exact good wm _ ⟨ero, mm, al, nd⟩ q' t vals _ ((exG bG).trans xt) upd_same ((Ex.refl.new nq') _ _ upd_same) (L2.Paired.mapP pr fun _ _ z => z.tup (Ex.tup xt))
end
end LJ
set_option Elab.async false
set_option linter.all false
set_option maxRecDepth 100000
set_option maxHeartbeats 8000000
namespace LJ
open PySem PySem.Spec L2 PySem.ErrV
open LamX (ExtN)
open NdefX (NTab TabsN)
open OwnX
/-! Rule's small methods. -/
abbrev sRg3 : Stmt := rmeth 3
abbrev sRg4 : Stmt := rmeth 4
abbrev sReq : Stmt := rmeth 9
abbrev sRst : Stmt := rmeth 10
/-- what isinstance asks of Rule -/
structure RIns (K : PySem.W.Frag) (C : Addr) : Prop where
  c1 : PySem.W.findIn K (.ref C) "__class__" = some (some (.builtin "object.__class__"))
  c2 : PySem.W.specialIn K (.builtin "object.__class__") "__get__" = some (some (.builtin "getset_descriptor.__get__"))
  c3 : PySem.W.takesIn K (.builtin "object.__class__") = some true
  c4 : PySem.W.mroIn K C (.type "object") = some true
  kt : PySem.W.kitOne K (.ref C) (.ref C) = some true
def spStrR (RC : Addr) : Sp := fun vs H Q _ => ∃ (y : Addr) (z : Str), vs = [.ref y] ∧ TextOf RC H y z ∧ Q (.str z) H
/-- the works, the machine and the dict of a rule -/
def RuleOf (RC C : Addr) (H : Hp) (y : Addr) (z m : Str) (ks : List (List Key × Str)) : Prop := ∃ (dy x D : Addr) (fs : List (Str × V)), H y = some (.ins RC dy fs) ∧ fs.lookup ("_works" : Str) = some (.ref x) ∧ TextOf C H x z ∧ fs.lookup ("_machine" : Str) = some (.str m) ∧ fs.lookup ("_let" : Str) = some (.ref D) ∧ H D = some (.dT (ks.map strV))
def spEqR (RC C : Addr) : Sp := fun vs H Q _ => ∃ (y1 y2 : Addr) (z1 z2 m1 m2 : Str) (ks ls : List (List Key × Str)), vs = [.ref y1, .ref y2] ∧ RuleOf RC C H y1 z1 m1 ks ∧ RuleOf RC C H y2 z2 m2 ls ∧
  ∀ c : Bool, (c = true ↔ z1 = z2 ∧ m1 = m2 ∧ ks.length = ls.length ∧ ∀ p ∈ ks, p ∈ ls) → Q (.bl c) H
section
variable {P : Program} {w : World} {K : PySem.W.Frag} {mg : Str → Option Value} {base : Heap} {C RC : Addr}
theorem scRg3 : FnScope ["self"] ["self"] (defScope sRg3) := ⟨rfl, rfl, rfl, by decide +kernel, rfl, by decide +kernel, by decide +kernel⟩
theorem scRg4 : FnScope ["self"] ["self"] (defScope sRg4) := ⟨rfl, rfl, rfl, by decide +kernel, rfl, by decide +kernel, by decide +kernel⟩
theorem scReq : FnScope ["self", "other"] ["self", "other"] (defScope sReq) := ⟨rfl, rfl, rfl, by decide +kernel, rfl, by decide +kernel, by decide +kernel⟩
theorem scRst : FnScope ["self"] ["self"] (defScope sRst) := ⟨rfl, rfl, rfl, by decide +kernel, rfl, by decide +kernel, by decide +kernel⟩
theorem ok_rg3 {f : Addr} {fd : FuncData} (F : Fun K "machine" "Rule.machine" sRg3 f fd) (c : RCls K RC) : FnOk P w K mg base CX0 1 f fd ["self"] (getSp RC "_machine") := by
  refine F.ok scRg3 (fun vs H Q E h => ?_) (fun cdv A outer s H vs Q E hr h => ?_)
  · obtain ⟨x, dx, fs, v, rfl, _⟩ := h
    rfl
  · obtain ⟨x, dx, fs, v, rfl, hx, hf, q⟩ := h
    refine ⟨_, pss_one (ps_ret (pe_fld (pv 0) rfl)), ?_⟩
    exact ⟨_, rfl, x, RC, dx, fs, _, rfl, hx, c.cl, c.n2, hf, q⟩
theorem ok_rg4 {f : Addr} {fd : FuncData} (F : Fun K "table" "Rule.table" sRg4 f fd) (c : RCls K RC) : FnOk P w K mg base CX0 1 f fd ["self"] (getSp RC "_table") := by
  refine F.ok scRg4 (fun vs H Q E h => ?_) (fun cdv A outer s H vs Q E hr h => ?_)
  · obtain ⟨x, dx, fs, v, rfl, _⟩ := h
    rfl
  · obtain ⟨x, dx, fs, v, rfl, hx, hf, q⟩ := h
    refine ⟨_, pss_one (ps_ret (pe_fld (pv 0) rfl)), ?_⟩
    exact ⟨_, rfl, x, RC, dx, fs, _, rfl, hx, c.cl, c.n3, hf, q⟩
theorem ok_rst {f : Addr} {fd : FuncData} (F : Fun K "__str__" "Rule.__str__" sRst f fd) (c : RCls K RC) (B : BltS mg) : FnOk P w K mg base CX0 1 f fd ["self"] (spStrR RC) := by
  refine F.ok scRst (fun vs H Q E h => ?_) (fun cdv A outer s H vs Q E hr h => ?_)
  · obtain ⟨x, z, rfl, _⟩ := h
    rfl
  · obtain ⟨x, z, rfl, ⟨dx, fs, hx, hf⟩, q⟩ := h
    refine ⟨_, pss_one (ps_ret (pe_callTy SkE.call_str_str (by rfl) B.str (by decide +kernel) (pa_cons (pe_fld (pv 0) rfl) pa_nil))), ?_⟩
    exact ⟨_, rfl, x, RC, dx, fs, _, rfl, hx, c.cl, c.n5, hf, z, rfl, q⟩
theorem ok_req {f fE : Addr} {fd fdE : FuncData} (F : Fun K "__eq__" "Rule.__eq__" sReq f fd) (c : RCls K RC) (cw : WCls K C) (B : BltS mg) (mR : mg "Rule" = some (.ref RC)) (I : RIns K RC)
    (mE : Meth K C "__eq__" fE) (GE : FnOk P w K mg base CX0 1 fE fdE ["self", "other"] (spEqW C)) (bE : Binds K fdE ["self", "other"] []) : FnOk P w K mg base CX0 2 f fd ["self", "other"] (spEqR RC C) := by
  refine F.ok scReq (fun vs H Q E h => ?_) (fun cdv A outer s H vs Q E hr h => ?_)
  · obtain ⟨y1, y2, z1, z2, m1, m2, ks, ls, rfl, _⟩ := h
    rfl
  · obtain ⟨y1, y2, z1, z2, m1, m2, ks, ls, rfl, ⟨dy, x, D, fs, hy, f1, tx, f2, f3, hD⟩, ⟨dy2, x2, D2, fs2, hy2, g1, tx2, g2, g3, hD2⟩, q⟩ := h
    have hu := hu_of hr
    refine ⟨_, pss_one (ps_ret (pe_and (pe_callB call_isi (by rfl) B.isi (by decide +kernel) (pa_cons (pv 1) (pa_cons (pe_glob (v := .ref RC) (by rfl) mR rfl) pa_nil)))
      (pe_and (pe_cmpR (op_eqO (E := E0) mE GE hr hu bE pass0) (pe_fld (pv 0) rfl) (pe_fld (pv 1) rfl) (nomark _)) (pe_and (pe_cmpR op_eq (pe_fld (pv 0) rfl) (pe_fld (pv 1) rfl) (nomark _)) (pe_one (pe_cmpR (op_eqTT hu) (pe_fld (pv 0) rfl) (pe_fld (pv 1) rfl) (nomark _))))))), ?_⟩
    refine ⟨_, rfl, _, _, _, _, true, rfl, .own RC, .base (.ins hy2 c.cl I.c1 I.c2 I.c3 I.c4), I.kt, true, rfl, ?_⟩
    obtain ⟨dx, fx, hx, hxf⟩ := tx
    obtain ⟨dx2, fx2, hx2, hxf2⟩ := tx2
    refine ⟨_, rfl, y1, RC, dy, fs, _, rfl, hy, c.cl, c.n1, f1, _, rfl, y2, RC, dy2, fs2, _, rfl, hy2, c.cl, c.n1, g1, x, dx, fx, rfl, hx, .inl ⟨x2, dx2, fx2, rfl, hx2⟩, x, z1, .ref x2, rfl, ⟨dx, fx, hx, hxf⟩, .inl ⟨x2, z2, rfl, ⟨dx2, fx2, hx2, hxf2⟩, _, rfl, _, rfl, ?_⟩⟩
    by_cases ez : z1 = z2
    case neg =>
      rw [decide_eq_false ez]
      exact q false ⟨fun z => (by cases z), fun z => absurd z.1 ez⟩
    rw [decide_eq_true ez]
    refine ⟨_, rfl, y1, RC, dy, fs, _, rfl, hy, c.cl, c.n2, f2, _, rfl, y2, RC, dy2, fs2, _, rfl, hy2, c.cl, c.n2, g2, rfl, _, rfl, ?_⟩
    by_cases em : m1 = m2
    case neg =>
      rw [decide_eq_false (fun z => em (V.str.inj z))]
      exact q false ⟨fun z => (by cases z), fun z => absurd z.2.1 em⟩
    rw [decide_eq_true (congrArg V.str em)]
    refine ⟨_, rfl, y1, RC, dy, fs, _, rfl, hy, c.cl, c.n4, f3, _, rfl, y2, RC, dy2, fs2, _, rfl, hy2, c.cl, c.n4, g3, D, D2, ks, ls, rfl, rfl, hD, hD2, fun b hb => q b ?_⟩
    exact ⟨fun z => ⟨ez, em, hb.mp z⟩, fun z => hb.mpr z.2.2⟩
end
end LJ
set_option Elab.async false
set_option linter.all false
set_option maxRecDepth 100000
set_option maxHeartbeats 4000000
/-! Static methods whose error is passed on with what the slots hold. -/
namespace OwnX
open PySem PySem.Spec PyProof.Rows L2
def tSMethS (C : Addr) (sp : Sp) (dvs : List V) (E : L2.St → XK) (ta : TE) (t : TA) : TE := fun σ H Q => ta σ H fun x H1 => x = .ref C ∧ t σ H1 fun vs H2 => sp (vs ++ dvs) H2 Q (E σ)
def tSMethKS (C : Addr) (sp : Sp) (n : Nat) (gV : List V → List V → List V) (E : L2.St → XK) (ta : TE) (t : TA) : TE := fun σ H Q => ta σ H fun x H1 => x = .ref C ∧ t σ H1 fun zs H2 => zs.length = n ∧ sp (gV [] zs) H2 Q (E σ)
section
variable {X : Cx} {CX : CXT} {k : Nat} {p C g : Addr} {fd : FuncData} {ps ks : List Str} {sp : Sp} {dvs : List V} {ds : List Value} {mc : Value} {E : L2.St → XK} {m : Str} {pos apos : Pos} {o e : Expr} {es : List Expr} {ta : TE} {t tk : TA} {kws : List Keyword} {gg : List Value → List Value → List Value} {gV : List V → List V → List V}
/-- C.m(e, ..) -/
theorem pe_smethS {pl : Sem Bool} (he : PE X o ta) (r : ClX.CRead X.K C mc) (c : SMet X.K C mc m p g) (F : FnOk X.prog X.w X.K X.mg X.base CX k g fd ps sp) (hr : Room k X.A) (hb : Binds X.K fd ps ds) (hd : Vals dvs ds) (hx : ∀ σ, PassesAt CX X σ (E σ)) (ha : PA X (e :: es) t)
    (hs : starEach (e :: es) X.env = (false, eval e X.env) :: starEach es X.env := by rfl) (hp : (backTo pos (starEach es X.env)).any (·.1) = false := by rfl)
    (ht : eval (.Call (.Attribute o m apos) (e :: es) [] pos) X.env = (do
      let ov ← eval o X.env
      standAt apos.atName
      let (f, first) ← holding [ov] (getMethod ov m pl)
      callWith pos f first (backTo pos (starEach (e :: es) X.env)) (backToKw pos (keywordEach [] X.env))) := by rfl) :
    PE X (.Call (.Attribute o m apos) (e :: es) [] pos) (tSMethS C sp dvs E ta t) := by
  refine ⟨fun pins s σ H Q I h => ?_⟩
  refine PySem.W.methodCall_KW (pl := pl) (thn (he.run pins s σ H _ I h) fun u s1 ⟨x, H1, I1, rx, ex, q⟩ => ?_) ht
  subst ex
  obtain rfl : u = Value.ref C := rx
  refine getmeth_sm I1 r c ?_
  refine PySem.W.callWith_K (first := []) (h₀ := X.base) I.ok.mod.kin c.kp ?_ hs hp
  refine thn (ha.run pos pins _ σ H1 _ (I1.tok _) q) fun us s2 ⟨vs, H2, I2, rz, q2⟩ => ⟨I2.kIn, ?_⟩
  have r2 : Vals (vs ++ dvs) (us ++ ds) := Vals.append rz hd
  have l2 : (us ++ ds).length = ps.length := r2.length.symm.trans (F.len _ _ _ _ q2)
  refine wpAny_call (codeAny_mono (F.run X.A X.stack s2 H2 ⟨us, []⟩ (us ++ ds) (vs ++ dvs) Q (E σ) hr I2.env0 (hb s2 us I2.kIn l2) r2 q2) fun r s3 hq => ?_)
  cases r with
  | error e => exact hx σ pins H2 s2 e s3 I2 hq
  | ok fl =>
    cases fl with
    | ret u => exact I2.after hq
    | next => exact False.elim hq
    | brk => exact False.elim hq
    | cont => exact False.elim hq
/-- C.m(k = v, ..) -/
theorem pe_smethKS {pl : Sem Bool} (he : PE X o ta) (r : ClX.CRead X.K C mc) (c : SMet X.K C mc m p g) (F : FnOk X.prog X.w X.K X.mg X.base CX k g fd ps sp) (hr : Room k X.A) (hb : KBn X.K fd ps 0 ks gg gV) (hx : ∀ σ, PassesAt CX X σ (E σ)) (hkw : PK X kws tk)
    (hall : (backToKw pos (keywordEach kws X.env)).all (·.1.isSome) = true := by rfl) (hks : (backToKw pos (keywordEach kws X.env)).filterMap (·.1) = ks := by rfl)
    (hpl : ((backTo pos (starEach [] X.env)).any (·.1) || (backToKw pos (keywordEach kws X.env)).any (·.1.isNone)) = false := by rfl)
    (ht : eval (.Call (.Attribute o m apos) [] kws pos) X.env = (do
      let ov ← eval o X.env
      standAt apos.atName
      let (f, first) ← holding [ov] (getMethod ov m pl)
      callWith pos f first (backTo pos (starEach [] X.env)) (backToKw pos (keywordEach kws X.env))) := by rfl) :
    PE X (.Call (.Attribute o m apos) [] kws pos) (tSMethKS C sp ks.length gV E ta tk) := by
  refine ⟨fun pins s σ H Q I h => ?_⟩
  refine PySem.W.methodCall_KW (pl := pl) (thn (he.run pins s σ H _ I h) fun u s1 ⟨x, H1, I1, rx, ex, q⟩ => ?_) ht
  subst ex
  obtain rfl : u = Value.ref C := rx
  refine getmeth_sm I1 r c ?_
  refine PySem.W.callWith_KW0 (first := []) (h₀ := X.base) I.ok.mod.kin c.kp hall ?_ hpl
  refine thn (hkw.run pos pins _ σ H1 _ (I1.tok _) q) fun ws s2 ⟨zs, H2, I2, rz, l2, q2⟩ => ⟨I2.kIn, ?_⟩
  rw [hks]
  show wpAny _ _ (call (.ref g) [] (ks.zip ws)) _ _ _
  have e2 : ws.length = ks.length := rz.length.symm.trans l2
  have r1 : Vals ([] : List V) ([] : List Value) := .nil
  refine wpAny_call (codeAny_mono (F.run X.A X.stack s2 H2 ⟨[], ks.zip ws⟩ (gg [] ws) (gV [] zs) Q (E σ) hr I2.env0 (hb.to s2 [] ws I2.kIn rfl e2) (hb.rel r1 rz) q2) fun r s3 hq => ?_)
  cases r with
  | error e => exact hx σ pins H2 s2 e s3 I2 hq
  | ok fl =>
    cases fl with
    | ret u => exact I2.after hq
    | next => exact False.elim hq
    | brk => exact False.elim hq
    | cont => exact False.elim hq
end
end OwnX
set_option Elab.async false
set_option linter.all false
set_option maxRecDepth 100000
/-! Several clauses «except x as n», one behind another, all with the same name n. -/
namespace ManyAs
open PySem PySem.Spec PyProof.Rows L2
/-- what the clauses wish: the first that fits is asked, at slot i the exception -/
def wish (K : PySem.W.Frag) (i : Nat) (Wout : WX) (D : Ends) : List (Value × (Addr → Value → Option Addr → TS)) → WX
  | [] => Wout
  | (c, ts) :: r => wAs K c i ts (wish K i Wout D r) D
/-- an exception that was caught: it stands at a, and its flight is over -/
structure Stands (X : Cx) (pins : List (Addr × Obj)) (σ : L2.St) (H : Hp) (cls : Value) (d : Option Addr) (a : Addr) (B : Heap) (sI s : Shared) : Prop where
  inv : Inv X pins σ H sI
  old : ∀ b o, sI.heap.get? b = some o → b ∉ frs X.stack → B.get? b = some o
  near : sI.heap.UpToSlots s.heap
  fly : HandSPX.FlyingZ B X.stack a (Zc cls d) s.heap
  new : H a = none
  os : s.os = sI.os
  bare : AllBare s.gens
section
variable {X : Cx} {pins : List (Addr × Obj)} {σ : L2.St} {H : Hp} {cls : Value} {d : Option Addr} {a : Addr} {B : Heap} {sI s : Shared} {D : Ends} {Wout : WX} {n x : Str} {i : Nat} {c : Value} {np pos pos' : Pos}
variable {ts : Addr → Value → Option Addr → TS} {b₀ : Stmt} {suite body : List Stmt}
theorem Stands.now (S : Stands X pins σ H cls d a B sI s) : Inv X pins σ H s := S.inv.landed S.old S.fly.1 S.near S.os S.bare
theorem Stands.on (S : Stands X pins σ H cls d a B sI s) {h : Heap} (f : HandSPX.FlyingZ B X.stack a (Zc cls d) h) (u : s.heap.UpToSlots h) : Stands X pins σ H cls d a B sI { s with heap := h } :=
  ⟨S.inv, S.old, S.near.trans u, f, S.new, S.os, S.bare⟩
/-- the object of the exception is no frame -/
theorem Stands.obj (S : Stands X pins σ H cls d a B sI s) (hs : X.stack = X.env :: X.outer) (hf : X.env.frame = some X.env.locals) :
    ∃ oe vs, s.heap.get? a = some oe ∧ Zc cls d oe ∧ oe.data = .fields vs ∧ a ≠ X.env.locals ∧ a ∉ X.fs := by
  obtain ⟨oe, vs, e1, e2, e3⟩ := S.fly.there
  have out : a ∉ frs X.stack := fun m => by
    obtain ⟨_, o, e4, e5⟩ := S.fly.2.2.1.mem m
    rw [e1] at e4
    cases e4
    exact e5 _ e3
  rw [hs] at out
  refine ⟨oe, vs, e1, e2, e3, fun z => out ?_, fun m => out ?_⟩
  · rw [z]
    exact List.mem_filterMap.mpr ⟨_, List.mem_cons_self, hf⟩
  · obtain ⟨e, h1, h2⟩ := List.mem_filterMap.mp m
    exact List.mem_filterMap.mpr ⟨e, List.mem_cons_of_mem _ h1, h2⟩
/-- no clause is left: it goes on -/
theorem Stands.leave {R : Flow → Shared → Prop} (S : Stands X pins σ H cls d a B sI s) (hs : X.stack = X.env :: X.outer) (hf : X.env.frame = some X.env.locals) (tk : Takes X Wout) (w : Wout cls d σ H) :
    wpAny (model X.prog X.w) X.A (handleBy (.ref a) X.env []) R X.xe s := by
  have go : wpAny (model X.prog X.w) X.A (setFlight (.ref a) X.env.frame) (fun _ s1 => wpAny (model X.prog X.w) X.A (throw (.ref a) : Sem Flow) R X.xe s1) X.xe s := by
    rw [hf]
    exact HandSPX.setFlight_upZ S.fly fun h held u => wpAny_throw (tk _ _ ⟨a, B, sI, pins, σ, H, cls, d, rfl, S.inv, S.old, S.near.trans u, .inr (.inr held), S.new, S.os, S.bare, w⟩)
  refine wpAny_handleBy_nil ?_
  obtain ⟨_, _, _, oe, vs, T, oT, t1, e1, _, e2, e3, _⟩ := id S.fly
  unfold PySem.passOn
  refine wpAny_bind (wpAny_field e1 e2 e3 ?_)
  rw [if_neg (show ¬ ((Value.ref T == Value.none) = true) by simp)]
  first
    | exact wpAny_bind go
    | exact wpAny_bind (wpAny_pure (wpAny_bind go))
/-- one clause: its suite, or those behind it -/
theorem Stands.clause {r : List ExceptHandler} {Wr : WX} (S : Stands X pins σ H cls d a B sI s) (hs : X.stack = X.env :: X.outer) (hf : X.env.frame = some X.env.locals) (hN : X.N.Nodup) (hi : X.N[i]? = some n) (hl : X.env.kindOf n = some .local) (hc : Names X x c)
    (hsu : ∀ (a : Addr) (oe : Obj) (cls : Value) (d : Option Addr) (pn : List (Addr × Obj)), Zc cls d oe → (∃ vs, oe.data = .fields vs) → PSs (X.suite a ((a, oe) :: pn)) (b₀ :: suite) (ts a cls d))
    (rest : Wr cls d σ H → wpAny (model X.prog X.w) X.A (handleBy (.ref a) X.env r) (SP X pins D) X.xe s) (w : wAs X.K c i ts Wr D cls d σ H) :
    wpAny (model X.prog X.w) X.A (handleBy (.ref a) X.env (.ExceptHandler (some (.Name x np)) (some n) (b₀ :: suite) pos' :: r)) (SP X pins D) X.xe s := by
  obtain ⟨oe, vs, e1, e2, e3, nL, nF⟩ := S.obj hs hf
  have I0 := S.now
  have I1 := I0.suite e1 e3 S.new nL nF
  obtain ⟨b, hb, yes, no⟩ := w
  have look : PySem.W.Looks (model X.prog X.w) s.heap (typeOf (.ref a)) cls := fun A Q E s1 k q => wpAny_typeOf_ref (k _ _ e1) (by rw [e2.1]; exact q)
  have fits := PySem.W.exm_one (M := model X.prog X.w) I0.kIn look hb
  have named : ∀ {Q : Value → Shared → Prop} {E : Value → Shared → Prop}, Q c s → wpAny (model X.prog X.w) (X.A.mark (some (.ref a))) (eval (.Name x np) X.env) Q E s := fun q => by
    rcases hc with ⟨g, nd, m | ⟨m, v, nn⟩⟩
    · exact ld_glob (X := X.suite a ((a, oe) :: (X.pn ++ pins))) I1 g m q nd
    · exact ld_blt (X := X.suite a ((a, oe) :: (X.pn ++ pins))) I1 g m v q nn nd
  refine wpAny_handleBy_cons (codeAny_handlers_test (named (fits.here ?_))) (by intro q; cases q)
  cases b with
  | false => exact rest (no rfl)
  | true =>
    refine codeAny_handlers_suite_as (HandSPX.lands_againZ S.fly fun h f u => ?_)
    have S2 := S.on f u
    obtain ⟨oe2, vs2, f1, f2, f3, _, _⟩ := S2.obj hs hf
    refine store_ok (X := X.suite a ((a, oe2) :: (X.pn ++ pins))) (v := .ref a) (S2.now.suite f1 f3 S.new nL nF) hN hi (.inl hl) rfl (fun s1 I2 => ?_) (.inr hl)
    refine wpAny_mono ((hsu a oe2 cls d (X.pn ++ pins) f2 ⟨_, f3⟩).run [] s1 _ H _ I2 (yes rfl a S.new)) (fun fl s2 out => ?_) fun _ _ z => z.elim
    have name_gone : ∀ {σ2 : L2.St} {H2 : Hp} {Q : Shared → Prop}, Inv (X.suite a ((a, oe2) :: (X.pn ++ pins))) [] σ2 H2 s2 → (∀ s3, Inv X pins (σ2.set i none) H2 s3 → Q s3) →
        wpAny (model X.prog X.w) X.A (do bindName X.env n .none; unbindBehindTheSuite X.env n pos') (fun _ s3 => Q s3) X.xe s2 := fun I3 q => gone_ok (I3.unsuite I0.ok) hN hi hl q
    match fl, out with
    | .ret u, ⟨v2, σ2, H2, I3, r2, q2⟩ => exact name_gone I3 fun s3 I4 => ⟨v2, _, _, I4, r2, q2⟩
    | .next, ⟨σ2, H2, I3, q2⟩ => exact name_gone I3 fun s3 I4 => ⟨_, _, I4, q2⟩
    | .brk, ⟨σ2, H2, I3, q2⟩ => exact name_gone I3 fun s3 I4 => ⟨_, _, I4, q2⟩
    | .cont, ⟨σ2, H2, I3, q2⟩ => exact name_gone I3 fun s3 I4 => ⟨_, _, I4, q2⟩
/-- the clauses and what each of them does -/
inductive Cls (X : Cx) (n : Str) : List ExceptHandler → List (Value × (Addr → Value → Option Addr → TS)) → Prop
  | done : Cls X n [] []
  | more {x : Str} {c : Value} {ts : Addr → Value → Option Addr → TS} {b₀ : Stmt} {suite : List Stmt} {np pos' : Pos} {r : List ExceptHandler} {l : List (Value × (Addr → Value → Option Addr → TS))} (hc : Names X x c)
      (hsu : ∀ (a : Addr) (oe : Obj) (cls : Value) (d : Option Addr) (pn : List (Addr × Obj)), Zc cls d oe → (∃ vs, oe.data = .fields vs) → PSs (X.suite a ((a, oe) :: pn)) (b₀ :: suite) (ts a cls d)) (rest : Cls X n r l) :
      Cls X n (.ExceptHandler (some (.Name x np)) (some n) (b₀ :: suite) pos' :: r) ((c, ts) :: l)
theorem Stands.all {r : List ExceptHandler} {l : List (Value × (Addr → Value → Option Addr → TS))} (S : Stands X pins σ H cls d a B sI s) (hs : X.stack = X.env :: X.outer) (hf : X.env.frame = some X.env.locals) (hN : X.N.Nodup) (hi : X.N[i]? = some n) (hl : X.env.kindOf n = some .local)
    (tk : Takes X Wout) (C : Cls X n r l) : wish X.K i Wout D l cls d σ H → wpAny (model X.prog X.w) X.A (handleBy (.ref a) X.env r) (SP X pins D) X.xe s := by
  induction C with
  | done => exact fun w => S.leave hs hf tk w
  | more hc hsu _ ih => exact fun w => S.clause hs hf hN hi hl hc hsu ih w
theorem ps_try {h₀ : ExceptHandler} {r : List ExceptHandler} {l : List (Value × (Addr → Value → Option Addr → TS))} {tb : WX → TS} (hs : X.stack = X.env :: X.outer) (hf : X.env.frame = some X.env.locals) (hN : X.N.Nodup) (hi : X.N[i]? = some n) (hl : X.env.kindOf n = some .local) (tk : Takes X Wout)
    (hb : ∀ (W : WX) (pn : List (Addr × Obj)) (xe : Value → Shared → Prop), Takes (X.tr pn xe) W → PassesOwn (model X.prog X.w) X.A X.env xe → PSs (X.tr pn xe) body (tb W)) (C : Cls X n (h₀ :: r) l) :
    PS X (.Try body (h₀ :: r) [] [] pos) (fun D σ H => tb (wish X.K i Wout D l) D σ H) := by
  constructor
  intro pins s σ H D I h
  have frames : X.A.frames = some (X.env :: X.outer) := by rw [I.ok.frames, hs]
  let catch_ : Value → Shared → Prop := fun e s1 => wpAny (model X.prog X.w) X.A (noteFrame e X.env) (fun _ s2 => wpAny (model X.prog X.w) X.A (setFlight e none) (fun _ s3 => wpAny (model X.prog X.w) X.A (handleBy e X.env (h₀ :: r)) (SP X pins D) X.xe s3) X.xe s2) X.xe s1
  have caught : Takes (X.tr (X.pn ++ pins) catch_) (wish X.K i Wout D l) := by
    rintro _ s1 ⟨a, B, sI, pins1, σ1, H1, cls, d, rfl, J, old, near, sky, new, os, bare, w⟩
    have sky : Sky B (X.env :: X.outer) a (Zc cls d) X.env.locals s1.heap := by
      rw [← hs]
      exact sky
    refine Sky.land Zc.steady frames hf sky fun h2 fly u => ?_
    have S : Stands X pins σ1 H1 cls d a B sI { s1 with heap := h2 } := ⟨J.ofTry I.ok, old, near.trans u, by rw [hs]; exact fly, new, os, bare⟩
    exact S.all hs hf hN hi hl tk C w
  refine wpAny_Try_except (wpAny_mono ((hb _ _ catch_ caught PassesOwn.looking).run [] s σ H D (I.toTry _) h) (fun f s1 out => ?_) fun _ _ z => z)
  match f, out with
  | .ret u, ⟨v, σ1, H1, J, e, q⟩ => exact ⟨v, _, _, J.ofTry I.ok, e, q⟩
  | .next, ⟨σ1, H1, J, q⟩ => exact wpAny_execs_nil ⟨_, _, J.ofTry I.ok, q⟩
  | .brk, ⟨σ1, H1, J, q⟩ => exact ⟨_, _, J.ofTry I.ok, q⟩
  | .cont, ⟨σ1, H1, J, q⟩ => exact ⟨_, _, J.ofTry I.ok, q⟩
end
end ManyAs
set_option Elab.async false
set_option linter.all false
set_option maxRecDepth 100000
set_option maxHeartbeats 8000000
namespace LJ
open PySem PySem.Spec L2 PySem.ErrV
open LamX (ExtN)
open NdefX (NTab TabsN)
open OwnX
/-! _law_is_read of the laws about rules. -/
abbrev sLir : Stmt := top 65
abbrev pLir : List Str := ["_law_base", "_law_sketch", "_law_said"]
abbrev nLir : List Str := ["_law_base", "_law_sketch", "_law_said", "_law_due", "_law_told", "_law_read", "_law_mine", "e"]
def spLir (C : Addr) : Sp := fun vs H Q _ => ∃ (x p : Addr) (z : Str) (W : Wd), vs = [.ref x, .ref p, .str z] ∧ WkD C H x W ∧ SkAt H p W ∧ GoodF W ∧ Tk z ∧ z.length ≤ 10000 ∧ ∀ H1, Ex H H1 → Q (.bl true) H1
/-- a rule as data -/
def dRl (m : Str) (wss : List (List Str)) : PyData := .list [.str m, .tuple (wss.map dT)]
theorem rtext_eq {W : Wd} {z m : Str} {wss : List (List Str)} (h : GoodText W z m wss) : rtext m wss = z := by
  obtain ⟨h1, _, _⟩ := h
  unfold rowsOf at h1
  have jn := join_split (x := z) tl_nl (by decide)
  cases hs : Txt.split z nl with
  | nil =>
    rw [hs] at h1
    cases h1
  | cons l0 lr =>
    rw [hs, List.map_cons] at h1
    injection h1 with e0 e1
    have j0 := join_split (x := l0) tl_sp1 (by decide)
    have e0 : Txt.split l0 sp1 = [wRl, m] := e0
    rw [e0] at j0
    have el : Str.empty ++ wRule ++ m = l0 := by
      rw [← j0]
      show Str.empty ++ wRule ++ m = Txt.join sp1 [wRl, m]
      apply TL.ext_tl
      rw [tl_join2, TL.tl_append, TL.tl_append]
      have a : TL.tl Str.empty ++ TL.tl wRule = TL.tl wRl ++ TL.tl sp1 := by decide +kernel
      rw [a]
      show _ = TL.joinL (TL.tl sp1) [TL.tl wRl, TL.tl m]
      show _ = TL.tl wRl ++ (TL.tl sp1 ++ TL.tl m)
      rw [List.append_assoc]
    have er : wss.map (Txt.join sp1) = lr := by
      rw [← e1, List.map_map]
      refine (List.map_congr_left fun y _ => ?_).trans (List.map_id lr)
      exact join_split (x := y) tl_sp1 (by decide)
    unfold rtext rlines
    rw [el, er, ← hs]
    exact jn
theorem rpAll_rows {H : Hp} : ∀ {vals : List V} {l : List (List Str)}, Paired (RowW H) vals l → rpAll H (l.map dT) vals
  | [], [], .nil => by
    unfold rpAll
    rfl
  | _ :: _, ws :: _, .cons ⟨a, e, h⟩ t => by
    rw [List.map_cons]
    unfold rpAll
    refine ⟨_, _, rfl, ?_, rpAll_rows t⟩
    unfold dT rp
    exact ⟨a, _, e, h, rpAll_strs _⟩
theorem shw_rule {W : Wd} {m : Str} {wss : List (List Str)} (g : GoodF W) (mm : m ∈ W.ms.map (·.1)) (tb : tabOk W wss) (lw : wss.length ≤ 10001) : Shw 3 (2 * (10001 * (3 * (8 + 1) + 1) + 1)) (dRl m wss) := by
  have mk : Tk m ∧ m.length ≤ 8 := ⟨tk_name (g.nm _ (List.mem_append_left _ mm)), isW_8 (g.nm _ (List.mem_append_left _ mm))⟩
  have s1 : Shw 2 (10001 * (3 * (8 + 1) + 1)) (.tuple (wss.map dT)) := shw_tuple (a := 1) (n := 3 * (8 + 1)) (m := 10001) (fun d hd => by
    obtain ⟨ws, hw, rfl⟩ := List.mem_map.mp hd
    exact shw_T (rowTk g (tb.1 ws hw)) (Nat.le_of_eq (row_short g (tb.1 ws hw)).1)) (by rw [List.length_map]; exact lw)
  exact shw_list (a := 2) (n := 10001 * (3 * (8 + 1) + 1)) (m := 2) (fun d hd => by
    simp only [List.mem_cons, List.not_mem_nil, or_false] at hd
    rcases hd with rfl | rfl
    · exact (shw_txt mk.1 mk.2).mono (by decide) (by decide)
    · exact s1) (Nat.le_refl 2)
theorem Shw.len2 {a n : Nat} {d : PyData} (h : Shw a n d) (x : a ≤ 64) (y : n ≤ 1000000) : d.shown.length ≤ 15728653 := by
  have z : d.layable0 = true := by
    unfold PyData.layable0
    rw [h.lay, decide_eq_true (p := d.depth ≤ 64) (Nat.le_trans h.dp x), decide_eq_true (p := d.weight ≤ 2 ^ 20) (Nat.le_trans h.wt (Nat.le_trans y (by decide)))]
    rfl
  exact PyData.shown_le_of_layable0 z h.ish
theorem dat_rule {H : Hp} {W : Wd} {q t : Addr} {m : Str} {rs : List V} {wss : List (List Str)} (g : GoodF W) (mm : m ∈ W.ms.map (·.1)) (tb : tabOk W wss) (lw : wss.length ≤ 10001) (hq : H q = some (.lst [.str m, .ref t])) (ht : H t = some (.tup rs)) (pr : Paired (RowW H) rs wss) : Dat H (dRl m wss) (.ref q) := by
  have mk : Tk m ∧ m.length ≤ 8 := ⟨tk_name (g.nm _ (List.mem_append_left _ mm)), isW_8 (g.nm _ (List.mem_append_left _ mm))⟩
  refine dat_nice ?_ (shw_rule g mm tb lw) (by decide) (by decide) (.list fun d hd => ?_)
  · unfold dRl rp
    refine ⟨q, _, rfl, hq, ?_⟩
    unfold rpAll rpAll rpAll
    refine ⟨_, _, rfl, by unfold rp; rfl, _, _, rfl, ?_, rfl⟩
    unfold rp
    exact ⟨t, _, rfl, ht, rpAll_rows pr⟩
  · simp only [List.mem_cons, List.not_mem_nil, or_false] at hd
    rcases hd with rfl | rfl
    · exact .str mk.1
    · refine .tuple fun d hd => ?_
      obtain ⟨ws, hw, rfl⟩ := List.mem_map.mp hd
      refine .tuple fun d hd => ?_
      obtain ⟨x, hx, rfl⟩ := List.mem_map.mp hd
      exact .str (rowTk g (tb.1 ws hw) x hx).1
theorem good_one {W : Wd} {z m m2 : Str} {wss wss2 : List (List Str)} (h : GoodText W z m wss) (k : GoodText W z m2 wss2) : m = m2 ∧ wss = wss2 := by
  have e := h.1.symm.trans k.1
  injection e with e1 e2
  injection e1 with _ e1
  injection e1 with e1 _
  exact ⟨e1, e2⟩
theorem good_rows {W : Wd} {z m : Str} {wss : List (List Str)} (h : GoodText W z m wss) (lz : z.length ≤ 10000) : wss.length ≤ 10001 := by
  have h1 := congrArg List.length h.1
  unfold rowsOf at h1
  rw [List.length_map, List.length_cons] at h1
  have h2 : (Txt.split z nl).length ≤ z.length + 1 := (split_sum (x := z) tl_nl (by decide)).2
  omega
theorem wk_text {C x : Addr} {W : Wd} {H : Hp} (h : WkD C H x W) : TextOf C H x (wtext W) := by
  obtain ⟨am, ac, as, ap, ⟨dx, D1, D2, D3, D4, b1, b2, v4, hx, _⟩, _⟩ := h.at_
  exact ⟨dx, _, hx, rfl⟩
theorem RuleAt.of {RC C y x t : Addr} {W : Wd} {m : Str} {wss : List (List Str)} {H : Hp} (h : RuleAt RC C H y x W m t wss) : RuleOf RC C H y (wtext W) m (letS wss) := by
  obtain ⟨dy, D, rs, hy, ht, pr, hD⟩ := h.at_
  exact ⟨dy, x, D, _, hy, rfl, wk_text h.wk, rfl, rfl, hD⟩
theorem RuleAt.ex {RC C y x t : Addr} {W : Wd} {m : Str} {wss : List (List Str)} {H H1 : Hp} (e : Ex H H1) (h : RuleAt RC C H y x W m t wss) : RuleAt RC C H1 y x W m t wss := by
  obtain ⟨dy, D, rs, hy, ht, pr, hD⟩ := h.at_
  exact ⟨h.wk.ex e, dy, D, rs, e _ _ hy, e _ _ ht, L2.Paired.mapP pr (fun _ _ z => z.tup (Ex.tup e)), e _ _ hD⟩
section
variable {P : Program} {w : World} {K : PySem.W.Frag} {mg : Str → Option Value} {base : Heap} {C RC cT : Addr} {mc : Value} {pR : Addr}
theorem scLir : FnScope nLir pLir (defScope sLir) := ⟨rfl, rfl, rfl, by decide +kernel, rfl, by decide +kernel, by decide +kernel⟩
theorem ok_lir {f fS fP fQ fT : Addr} {fd fdS fdP fdQ fdT : FuncData} {gg : List Value → List Value → List Value} (F : Fun K "_law_is_read" "_law_is_read" sLir f fd) (bR : mg "repr" = none) (bS : mg "str" = none) (mP : mg "Rule" = some (.ref RC)) (c : RCls K RC)
    (GS : FnOk P w K mg base CX0 2 fS fdS ["_law_sketch", "_law_said"] spRs) (mS : mg "_law_reads" = some (.ref fS)) (kS : PySem.W.keepIn K (.ref fS) = true) (bdS : Binds K fdS ["_law_sketch", "_law_said"] [])
    (cr : ClX.CRead K RC mc) (sm : SMet K RC mc "read" pR fP) (GP : FnOk P w K mg base (L2.CX P w) 8 fP fdP ["works", "text"] (spRr RC C cT)) (bP : Binds K fdP ["works", "text"] []) (bPK : KBn K fdP ["works", "text"] 0 ["text", "works"] gg (fun vs zs => vs ++ zs.reverse))
    (PM : PrW P w K mg base RC "machine" "_machine") (PT' : PrW P w K mg base RC "table" "_table")
    (mQ : Meth K RC "__eq__" fQ) (GQ : FnOk P w K mg base CX0 2 fQ fdQ ["self", "other"] (spEqR RC C)) (bQ : Binds K fdQ ["self", "other"] [])
    (mT : Meth K RC "__str__" fT) (GT : FnOk P w K mg base CX0 1 fT fdT ["self"] (spStrR RC)) (bT : Binds K fdT ["self"] [])
    (e1 : Er1 K mg "InvalidText" "given" cT) (X2 : PySem.W.exmOne K (.ref cT) (.ref cT) = some true) :
    FnG P w K mg base 10 f fd pLir (spLir C) := by
  refine F.okG scLir (fun vs H Q E h => ?_) (fun cdv A outer s H vs Q hgA hr h => ?_)
  · obtain ⟨x, p, z, W, rfl, _⟩ := h
    rfl
  · obtain ⟨x, p, z, W, rfl, wk, sk, g, tk, lz, q⟩ := h
    have hgd : (A.deeper (PyProof.Rows.envOfC "_law_is_read" (defScope sLir) s.heap.objs.size f cdv)).guards = some [] := hgA
    have hu : (A.deeper (PyProof.Rows.envOfC "_law_is_read" (defScope sLir) s.heap.objs.size f cdv)).units + 150 < cLine := by
      have := hr.un
      omega
    have hu1 : (A.deeper (PyProof.Rows.envOfC "_law_is_read" (defScope sLir) s.heap.objs.size f cdv)).units + 1 < cLine := by omega
    have hr2 : Room 2 (A.deeper (PyProof.Rows.envOfC "_law_is_read" (defScope sLir) s.heap.objs.size f cdv)) := hr.mono (by decide)
    have hr8 : Room 8 (A.deeper (PyProof.Rows.envOfC "_law_is_read" (defScope sLir) s.heap.objs.size f cdv)) := hr.mono (by decide)
    obtain ⟨f1, b1, T1, B1⟩ := e1.c
    obtain ⟨p2, g2, fd2, P2, G2, bP2⟩ := PM
    obtain ⟨p3, g3, fd3, P3, G3, bP3⟩ := PT'
    refine ⟨_, pss_cons (ps_par3 (i := 3) (j := 4) (l := 5) (by rfl) scLir.nd rfl rfl rfl (by decide) (by decide) (by decide) rfl rfl rfl (pa_cons (pe_call GS hr2 (by rfl) mS kS bdS .nil pass0 (pa_cons (pv 1) (pa_cons (pv 2) pa_nil))) (pa_cons pe_str (pa_cons pe_bl pa_nil))) (by rfl))
      (pss_cons (ManyAs.ps_try (i := 7) (n := "e") (Wout := fun _ _ _ _ => False) rfl rfl scLir.nd rfl rfl takes0
        (fun W pn xe tk _ => pss_cons (ps_set (i := 6) scLir.nd rfl (Or.inl rfl) (pe_smethS (pe_glob (v := .ref RC) (by rfl) mP rfl) cr sm GP (by exact hr8) bP .nil (fun σ => passAt tk σ) (pa_cons (pv 0) (pa_cons (pv 2) pa_nil))))
          (pss_cons (ps_set (i := 4) scLir.nd rfl (Or.inl rfl) (pe_op op_add_str (pe_callB (call_repr_data hgd hu) (by rfl) bR (by decide +kernel) (pa_cons (pe_lst (pa_cons (pe_prop (pv 6) c.cl P2 G2 (by exact hr2) bP2 .nil pass0 (by rfl)) (pa_cons (pe_prop (pv 6) c.cl P3 G3 (by exact hr2) bP3 .nil pass0 (by rfl)) pa_nil))) pa_nil))
            (pe_callTy (call_strO mT GT (by exact hr2) bT pass0) (by rfl) bS (by decide +kernel) (pa_cons (pv 6) pa_nil))))
          (pss_one (ps_set (i := 5) scLir.nd rfl (Or.inl rfl) (pe_cmpR (r := rEqO K RC (spEqR RC C) E0) (op_eqO (X := ((cxOf CX0 P w K mg base nLir "_law_is_read" (defScope sLir) f cdv A outer s H E0).nox.tr pn xe)) (E := E0) mQ GQ (by exact hr2) (by exact hu1) bQ pass0) (pe_smethKS (pe_glob (v := .ref RC) (by rfl) mP rfl) cr sm GP (by exact hr8) bPK (fun σ => passAt tk σ) (pk_cons (pv 2) (pk_cons (pv 0) pk_nil))) (pv 6) (nomark _))))))
        (.more ⟨rfl, by decide, .inl T1.gC⟩ (fun a oe cls d pn hz hf => pss_one (ps_set (i := 4) scLir.nd rfl (Or.inl rfl) (pe_callB (call_repr_data hgd hu) (by rfl) bR (by decide +kernel) (pa_cons (pe_xf e1.xf T1.noN hz hf (pv 7)) pa_nil)))) .done))
      (pss_cons (ps_if (pt_cmpR op_isN (pv 3) pe_non (nomark _)) (pss_one (ps_ret (pe_and (pe_cmpR op_eq (pv 4) (pe_callB (call_repr_data hgd hu) (by rfl) bR (by decide +kernel) (pa_cons (pv 2) pa_nil)) (nomark _)) (pe_one (pe_not (pv 5)))))) pss_nil)
      (pss_one (ps_ret (pe_and (pv 5) (pe_one (pe_cmpR op_eq (pv 4) (pe_op op_add_str (pe_callB (call_repr_data hgd hu) (by rfl) bR (by decide +kernel) (pa_cons (pv 3) pa_nil)) (pv 2)) (nomark _)))))))), ?_⟩
    have sz := sizeLine_eq
    by_cases hg : ∃ m wss, GoodText W z m wss
    case neg =>
      have nog : ∀ m wss, ¬ GoodText W z m wss := fun m wss gt => hg ⟨m, wss, gt⟩
      refine ⟨_, rfl, _, rfl, p, z, W, rfl, sk, g, tk, lz, fun m wss gt => absurd gt (nog m wss), fun _ H1 x1 => ⟨_, _, _, rfl, ?_⟩⟩
      try dsimp only
      refine rd_seqU ?_
      refine rd_seqU ?_
      refine ⟨rfl, _, rfl, _, rfl, x, z, W, rfl, wk.ex x1, g, lz, fun m wss gt => absurd gt (nog m wss), fun _ H2 d x2 hd => ?_⟩
      have da : Dat H2 (.str z) (.str z) := dat_str tk (by omega)
      refine ⟨true, X2, fun _ a ha => ?_, (nomatch ·)⟩
      refine ⟨_, rfl, rfl, rfl, d, _, .str z, rfl, hd, rfl, .str z, .str z, rfl, da.at_, da.sh, da.dp, da.sz, ?_⟩
      refine rd_nameU ?_
      try dsimp only
      refine rd_seqU (rd_ifU ?_)
      refine ⟨_, rfl, rfl, _, rfl, ?_⟩
      refine ite2 (fun _ => ?_) (fun z => absurd rfl z)
      refine ⟨_, rfl, _, rfl, .str z, .str z, rfl, da.at_, da.sh, da.dp, da.sz, rfl, _, rfl, ?_⟩
      rw [decide_eq_true rfl]
      exact ⟨_, rfl, _, rfl, q _ (x1.trans x2)⟩
    obtain ⟨m0, wss0, gt0⟩ := hg
    refine ⟨_, rfl, _, rfl, p, z, W, rfl, sk, g, tk, lz, fun m wss gt q0 t0 rs0 H1 x1 eq0 et0 pr0 => ⟨_, _, _, rfl, ?_⟩, fun n => absurd gt0 (n m0 wss0)⟩
    have lw := good_rows gt lz
    have mm := gt.2.1
    have tab := gt.2.2
    try dsimp only
    refine rd_seqU ?_
    refine rd_seqU ?_
    refine ⟨rfl, _, rfl, _, rfl, x, z, W, rfl, wk.ex x1, g, lz, fun m2 wss2 gt2 y1 t1 H2 x2 ny1 ra1 => ?_, fun n => absurd gt (n m wss)⟩
    obtain ⟨rfl, rfl⟩ := good_one gt gt2
    obtain ⟨dy, D, rs1, hy, ht, pr, hD⟩ := ra1.at_
    refine rd_nameU ?_
    try dsimp only
    refine rd_seqU (rd_asgU ?_)
    refine ⟨_, rfl, y1, dy, _, rfl, hy, y1, dy, _, _, rfl, hy, rfl, _, rfl, y1, dy, _, rfl, hy, y1, dy, _, _, rfl, hy, rfl, big100 (Nat.le_of_ble_eq_true rfl), fun q1 nq1 => ?_⟩
    have x3 : Ex H2 (upd H2 q1 (.lst [.str m, .ref t1])) := Ex.refl.new nq1
    have e3 : (upd H2 q1 (.lst [.str m, .ref t1])) q1 = some (.lst [.str m, .ref t1]) := upd_same
    generalize upd H2 q1 (.lst [.str m, .ref t1]) = H3 at x3 e3 ⊢
    have da := dat_rule g mm tab lw e3 (x3 _ _ ht) (L2.Paired.mapP pr (fun _ _ z => z.tup (Ex.tup x3)))
    have sl := (shw_rule g mm tab lw).len2 (by decide) (by decide)
    have rt := rtext_eq gt
    refine ⟨_, dRl m wss, rfl, da.at_, da.sh, da.dp, da.sz, ?_⟩
    refine ⟨_, rfl, y1, dy, _, rfl, x3 _ _ hy, y1, rtext m wss, rfl, ⟨dy, _, x3 _ _ hy, rfl⟩, _, rfl, _, _, rfl, rfl, by rw [rt]; omega, ?_⟩
    rw [rt]
    refine rd_nameU ?_
    try dsimp only
    refine rd_asgU ?_
    refine ⟨rfl, _, rfl, _, rfl, rfl, x, z, W, rfl, wk.ex ((x1.trans x2).trans x3), g, lz, fun m3 wss3 gt3 y2 t2 H4 x4 ny2 ra2 => ?_, fun n => absurd gt (n m wss)⟩
    obtain ⟨rfl, rfl⟩ := good_one gt gt3
    obtain ⟨dy2, D2, rs2, hy2, _⟩ := ra2.at_
    have x24 := x3.trans x4
    refine ⟨_, rfl, y2, dy2, _, rfl, hy2, .inl ⟨y1, dy, _, rfl, x24 _ _ hy⟩, y2, y1, wtext W, wtext W, m, m, letS wss, letS wss, rfl, ra2.of, (ra1.ex x24).of, fun c hc => ⟨_, rfl, ?_⟩⟩
    obtain rfl : c = true := hc.mpr ⟨rfl, rfl, rfl, fun p hp => hp⟩
    refine rd_nameU ?_
    try dsimp only
    have x14 := x2.trans x24
    have da0 := dat_rule g mm tab lw (x14 _ _ eq0) (x14 _ _ et0) (L2.Paired.mapP pr0 (fun _ _ z => z.tup (Ex.tup x14)))
    refine rd_seqU (rd_ifU ?_)
    refine ⟨_, rfl, rfl, _, rfl, ?_⟩
    refine ite2 (fun z => absurd z (by simp)) (fun _ => ?_)
    refine rd_nextU ?_
    try dsimp only
    refine ⟨_, rfl, true, rfl, ?_⟩
    refine ⟨_, rfl, _, rfl, .ref q0, dRl m wss, rfl, da0.at_, da0.sh, da0.dp, da0.sz, _, rfl, _, _, rfl, rfl, by omega, rfl, ?_⟩
    rw [decide_eq_true rfl]
    exact q _ (x1.trans x14)
end
end LJ
set_option Elab.async false
set_option linter.all false
set_option maxRecDepth 100000
set_option maxHeartbeats 8000000
/-! _law_twisted of the laws about rules: a text twisted. -/
namespace LJ
open PySem PySem.Spec L2
abbrev sTw : Stmt := top 64
abbrev nTw : List Str := ["_law_jar_here", "_law_sketch", "_law_said", "_law_lines", "_law_pick", "_law_at", "_law_spot_at", "_law_sign", "_law_words", "_law_k", "_law_names_here", "_law_word", "_law_middle", "_law_later"]
/-- one sign of a text -/
def spOneS : Sp := fun vs H Q _ => ∃ (j : Addr) (z : Str), vs = [.ref j, .str z] ∧ JarAt H j ∧ 0 < z.length ∧ z.length < 100000 ∧ ∀ (c : Nat) (H1 : Hp), c ∈ z.cps.toList → JarAt H1 j → But j H H1 → Q (.str ⟨#[c]⟩) H1
def spTw : Sp := fun vs H Q _ => ∃ (j p : Addr) (z : Str) (W : Wd), vs = [.ref j, .ref p, .str z] ∧ JarAt H j ∧ SkAt H p W ∧ GoodR W ∧ Tk z ∧ z.length ≤ 10000 ∧
  ∀ (y : Str) (H1 : Hp), Tk y → y.length ≤ 2 * z.length + 20 → JarAt H1 j → But j H H1 → Q (.str y) H1
def six : List Str := [Str.ofString "", Str.ofString "-", Str.ofString "rule", Str.ofString "--", Str.ofString "Rule", Str.ofString "q"]
theorem six_ok : ∀ s ∈ six, Tk s ∧ s.length ≤ 8 := by decide +kernel
theorem cutV_at {xs : List Str} {i : Int} (h0 : 0 ≤ i) (h : i.toNat < xs.length) : cutV (xs.map V.str) (some i) none = (xs.drop i.toNat).map V.str := by
  unfold cutV
  rw [HT.sIx_none]
  unfold HT.sIx
  simp only
  rw [if_neg (by omega), List.length_map, Nat.min_eq_left (by omega), List.map_drop, List.take_of_length_le (by rw [List.length_drop, List.length_map]; exact Nat.le_refl _)]
theorem edit_all {z : Str} {ls ms : List Str} {i : Nat} (onen : nl.length = 1) (lt : i < ls.length) (hst : (ls.map Str.length).sum + ls.length = z.length + 1) (lnk : ∀ y ∈ ls, Tk y) (hm : ∀ y ∈ ms, Tk y) :
    Tk (Txt.join nl (edit ls i ms)) ∧ (Txt.join nl (edit ls i ms)).length + ls[i].length ≤ z.length + (ms.map Str.length).sum + ms.length ∧ ((edit ls i ms).map (fun x => x.length)).sum + (edit ls i ms).length ≤ z.length + 1 + (ms.map Str.length).sum + ms.length := by
  refine ⟨tk_join (by decide +kernel) fun y hy => ?_, edit_len onen lt (by omega), ?_⟩
  · rcases edit_mem hy with h | h
    · exact lnk y h
    · exact hm y h
  · have h1 := edit_n (ms := ms) lt
    have h2 := edit_sum (ms := ms) lt
    have h3 : ((edit ls i ms).map (fun x => x.length)).sum = ((edit ls i ms).map Str.length).sum := rfl
    rw [h3]
    omega
theorem line_edit {ws : List Str} {ln : Str} {kk : Int} {mid lat : List Str} {wd : Str} (ltw : kk.toNat < ws.length) (hwt : (ws.map Str.length).sum + ws.length = ln.length + 1) (ml : mid.length ≤ 1) (mm : ∀ m ∈ mid, m = wd) (w8 : wd.length ≤ 8) (hlat : lat = ws.drop (kk.toNat + 1) ∨ lat = ws.drop kk.toNat) :
    ((ws.take kk.toNat ++ mid ++ lat).map (fun x => x.length)).sum + (ws.take kk.toNat ++ mid ++ lat).length * 1 ≤ ln.length + 20 ∧ (Txt.join sp1 (ws.take kk.toNat ++ mid ++ lat)).length ≤ ln.length + 10 := by
  have sm : (mid.map Str.length).sum ≤ 8 := by
    match mid, ml, mm with
    | [], _, _ => exact Nat.zero_le _
    | [m], _, p2 =>
      have := p2 m (List.mem_singleton.mpr rfl)
      show m.length + 0 ≤ 8
      rw [this]
      omega
  obtain ⟨ms, e, s1, s2⟩ : ∃ ms : List Str, ws.take kk.toNat ++ mid ++ lat = edit ws kk.toNat ms ∧ (ms.map Str.length).sum ≤ 8 + ws[kk.toNat].length ∧ ms.length ≤ 2 := by
    rcases hlat with rfl | rfl
    · exact ⟨mid, rfl, by omega, by omega⟩
    · refine ⟨mid ++ [ws[kk.toNat]], ?_, ?_, ?_⟩
      · unfold edit
        rw [List.drop_eq_getElem_cons ltw]
        simp
      · rw [List.map_append, List.sum_append]
        show _ + (ws[kk.toNat].length + 0) ≤ _
        omega
      · rw [List.length_append, List.length_singleton]
        omega
  rw [e]
  have one : sp1.length = 1 := by decide +kernel
  have h0 := edit_len (sep := sp1) one (ms := ms) ltw (L := ln.length) (by omega)
  have h1 := edit_n (ms := ms) ltw
  have h2 := edit_sum (ms := ms) ltw
  have h3 : ((edit ws kk.toNat ms).map (fun x => x.length)).sum = ((edit ws kk.toNat ms).map Str.length).sum := rfl
  refine ⟨by rw [h3]; omega, ?_⟩
  omega
section
variable {K : PySem.W.Frag} {σ : L2.St} {H : Hp} {Q : VK} {j l8 : Addr} {z sg m : Str} {i k kk pick : Int} {ws : List Str}
def rAddR : R2 := fun x y H Q => ∃ i j, x = .str i ∧ y = .str j ∧ i.length + j.length ≤ sizeLine ∧ Q (.str (i ++ j)) H
theorem rd_k3R (s1 : σ[2]? = some (some (.str z))) (s3 : σ[4]? = some (some (.int k))) (s5 : σ[6]? = some (some (.int i))) (s7 : σ[7]? = some (some (.str sg))) (h0 : 0 ≤ i) (h1 : i ≤ z.length) (lz : z.length ≤ 10000) (J : JarAt H j)
    (hA : atI [V.str (Str.ofString ""), .str sg, .str sg] k = some (.str m)) (m5 : m.length ≤ 5) (mk : Tk m) (tk : Tk z)
    (q : ∀ (y : Str) (H1 : Hp), Tk y → y.length ≤ z.length + 6 → JarAt H1 j → But j H H1 → Q (.str y) H1) :
    tOp rAddR (tOp rAddR (tSl rSlS (tVar 2) tNoPart (tPart (tVar 6))) (tOp (rIxL K) (tLst (tCons (tC (.str (Str.ofString ""))) (tCons (tVar 7) (tCons (tVar 7) tNil)))) (tVar 4)))
      (tSl rSlS (tVar 2) (tPart (tOp (rI0 fun i j => V.int (i + j)) (tVar 6) (tCB (fun xs H Q => (∃ i, xs = [.int i] ∧ Q (.int i) H) ∨ ∃ k, xs = [.bl k] ∧ Q (.int (if k = true then 1 else 0)) H) (tCons (tOp rNe (tVar 4) (tC (.int 1))) tNil)))) tNoPart) σ H Q := by
  have sz := sizeLine_eq
  refine ⟨_, s1, _, s5, _, rfl, z, rfl, by omega, ?_⟩
  refine ⟨_, s7, _, s7, by rw [sz]; show 3 ≤ 16777216; decide, fun p1 n1 => ?_⟩
  have J1 := J.new (o := .lst [V.str (Str.ofString ""), .str sg, .str sg]) n1
  have b1 := (But.refl (j := j) (H := H)).new (o := .lst [V.str (Str.ofString ""), .str sg, .str sg]) n1
  have l1 := cut_lo (z := z) h0
  refine ⟨_, s3, p1, _, _, _, rfl, rfl, SqL.of upd_same, hA, _, _, rfl, rfl, by omega, ?_⟩
  generalize upd H p1 (.lst [V.str (Str.ofString ""), .str sg, .str sg]) = H1 at J1 b1 ⊢
  refine ⟨_, s1, _, s5, _, s3, rfl, .inr ⟨_, rfl, _, _, rfl, rfl, _, rfl, z, rfl, by omega, ?_⟩⟩
  generalize ho : (if (!decide (V.int k = V.int 1)) = true then (1 : Int) else 0) = o
  have o01 : o = 0 ∨ o = 1 := by
    rw [← ho]
    split
    · exact .inr rfl
    · exact .inl rfl
  have L := k3_len (z := z) (m := m) (o := o) h0 h1 o01 m5
  have L2 := L
  rw [len_app, len_app] at L2
  exact ⟨_, _, rfl, rfl, by rw [len_app]; omega, q _ _ (k3_tk tk mk) L J1 b1⟩
theorem rd_later (s8 : σ[8]? = some (some (.ref l8))) (s9 : σ[9]? = some (some (.int kk))) (s4 : σ[4]? = some (some (.int pick))) (e : H l8 = some (.lst (ws.map V.str))) (h0 : 0 ≤ kk) (h1 : kk.toNat < ws.length) (lw : ws.length ≤ 100000)
    (q : ∀ (a : Addr) (lat : List Str) (H1 : Hp), Ex H H1 → (lat = ws.drop (kk.toNat + 1) ∨ lat = ws.drop kk.toNat) → H1 a = some (.lst (lat.map V.str)) → Q (.ref a) H1) :
    tIf (tTest (tOp (rI0 fun i j => V.bl (decide (i < j))) (tVar 4) (tC (.int 5)))) (tSl (rSlL K) (tVar 8) (tPart (tOp (rI0 fun i j => V.int (i + j)) (tVar 9) (tC (.int 1)))) tNoPart) (tSl (rSlL K) (tVar 8) (tPart (tVar 9)) tNoPart) σ H Q := by
  refine ⟨_, s4, _, _, rfl, rfl, _, rfl, ?_⟩
  refine ite2 (fun _ => ?_) (fun _ => ?_)
  · refine ⟨_, s8, _, s9, _, _, rfl, rfl, _, rfl, l8, _, rfl, SqL.of e, fun p np => ?_⟩
    rw [cutV_hi h0 h1]
    exact q p _ _ (Ex.refl.new np) (.inl rfl) upd_same
  · refine ⟨_, s8, _, s9, _, rfl, l8, _, rfl, SqL.of e, fun p np => ?_⟩
    rw [cutV_at h0 h1]
    exact q p _ _ (Ex.refl.new np) (.inr rfl) upd_same
end
structure BltTw (mg : Str → Option Value) : Prop where
  len : mg "len" = none
  int : mg "int" = none
section
variable {P : Program} {w : World} {K : PySem.W.Frag} {mg : Str → Option Value} {base : Heap} {C : Addr}
theorem ok_oneS {f fD : Addr} {fd fdD : FuncData} (F : Fun K "_law_one" "_law_one" sOne f fd) (bl : mg "len" = none) (GD : FnOk P w K mg base CX0 1 fD fdD ["_law_jar_here", "_law_top"] spDip) (kD : PySem.W.keepIn K (.ref fD) = true) (bD : Binds K fdD ["_law_jar_here", "_law_top"] []) (mD : mg "_law_tap" = some (.ref fD)) :
    FnOk P w K mg base CX0 2 f fd ["_law_jar_here", "_law_things"] spOneS := by
  refine F.ok scOne (fun vs H Q E h => ?_) (fun cdv A outer s H vs Q E hr h => ?_)
  · obtain ⟨j, z, rfl, _⟩ := h
    rfl
  · obtain ⟨j, z, rfl, J, p0, p1, k⟩ := h
    refine ⟨_, pss_one (ps_ret (pe_ix ix_str (pv 1) (pe_call GD hr (by rfl) mD kD bD .nil pass0 (pa_cons (pv 0) (pa_cons (pe_callB call_len_str (by rfl) bl PySem.boot_len (pa_cons (pv 1) pa_nil)) pa_nil))) (fun _ _ => rfl))), ?_⟩
    have sz := sizeLine_eq
    refine ⟨_, rfl, _, rfl, _, rfl, z, rfl, by omega, j, (z.length : Int), rfl, J, by omega, by omega, fun r H1 r0 r1 J1 bt => ?_⟩
    have lz : z.cps.toList.length = z.length := Array.length_toList
    obtain ⟨c, hc⟩ : ∃ c, z.cps.toList[r.toNat]? = some c := ⟨_, List.getElem?_eq_getElem (by omega)⟩
    refine ⟨z, r, c, rfl, rfl, by omega, ?_, k c H1 (List.mem_of_getElem? hc) J1 bt⟩
    rw [show r = ((r.toNat : Nat) : Int) from by omega]
    exact atI_nat hc
theorem scTw : FnScope nTw ["_law_jar_here", "_law_sketch", "_law_said"] (defScope sTw) := ⟨rfl, rfl, rfl, by decide +kernel, rfl, by decide +kernel, by decide +kernel⟩
theorem ok_tw {f fD fO fL : Addr} {fd fdD fdO fdL : FuncData} (F : Fun K "_law_twisted" "_law_twisted" sTw f fd) (T : BltTw mg)
    (GD : FnOk P w K mg base CX0 1 fD fdD ["_law_jar_here", "_law_top"] spDip) (mD : mg "_law_tap" = some (.ref fD)) (kD : PySem.W.keepIn K (.ref fD) = true) (bD : Binds K fdD ["_law_jar_here", "_law_top"] [])
    (GO : FnOk P w K mg base CX0 2 fO fdO ["_law_jar_here", "_law_things"] spOne) (GS : FnOk P w K mg base CX0 2 fO fdO ["_law_jar_here", "_law_things"] spOneS) (mO : mg "_law_one" = some (.ref fO)) (kO : PySem.W.keepIn K (.ref fO) = true) (bO : Binds K fdO ["_law_jar_here", "_law_things"] [])
    (GL : FnOk P w K mg base CX0 1 fL fdL ["_law_sketch", "_law_part"] spCld) (mL : mg "_law_called" = some (.ref fL)) (kL : PySem.W.keepIn K (.ref fL) = true) (bL : Binds K fdL ["_law_sketch", "_law_part"] []) :
    FnOk P w K mg base CX0 3 f fd ["_law_jar_here", "_law_sketch", "_law_said"] spTw := by
  refine F.ok scTw (fun vs H Q E h => ?_) (fun cdv A outer s H vs Q E hr h => ?_)
  · obtain ⟨j, p, z, W, rfl, _⟩ := h
    rfl
  · obtain ⟨j, p, z, W, rfl, J, sk, g, tk, lz, q⟩ := h
    have hr1 : Room 1 (A.deeper (PyProof.Rows.envOfC "_law_twisted" (defScope sTw) s.heap.objs.size f cdv)) := hr.mono (by decide)
    have hr2 : Room 2 (A.deeper (PyProof.Rows.envOfC "_law_twisted" (defScope sTw) s.heap.objs.size f cdv)) := hr.mono (by decide)
    refine ⟨_, pss_cons (ps_par (i := 3) (j := 4) (by rfl) scTw.nd rfl rfl (by decide) rfl rfl (pa_cons (pe_split (pv 2) pe_str) (pa_cons (pe_call GD hr1 (by rfl) mD kD bD .nil pass0 (pa_cons (pv 0) (pa_cons pe_int pa_nil))) pa_nil)) (by rfl))
      (pss_cons (ps_par3 (i := 5) (j := 6) (l := 7) (by rfl) scTw.nd rfl rfl rfl (by decide) (by decide) (by decide) rfl rfl rfl
          (pa_cons (pe_call GD hr1 (by rfl) mD kD bD .nil pass0 (pa_cons (pv 0) (pa_cons (pe_callB call_len_seq (by rfl) T.len (by decide +kernel) (pa_cons (pv 3) pa_nil)) pa_nil)))
          (pa_cons (pe_call GD hr1 (by rfl) mD kD bD .nil pass0 (pa_cons (pv 0) (pa_cons (pe_op op_add (pe_callB call_len_str (by rfl) T.len (by decide +kernel) (pa_cons (pv 2) pa_nil)) pe_int) pa_nil)))
          (pa_cons (pe_call GS hr2 (by rfl) mO kO bO .nil pass0 (pa_cons (pv 0) (pa_cons pe_str pa_nil))) pa_nil))) (by rfl))
      (pss_cons (ps_set (i := 8) scTw.nd rfl (Or.inl rfl) (pe_split (pe_ix ix_list (pv 3) (pv 5) (fun _ _ => rfl)) pe_str))
      (pss_cons (ps_par (i := 9) (j := 10) (by rfl) scTw.nd rfl rfl (by decide) rfl rfl (pa_cons (pe_call GD hr1 (by rfl) mD kD bD .nil pass0 (pa_cons (pv 0) (pa_cons (pe_callB call_len_seq (by rfl) T.len (by decide +kernel) (pa_cons (pv 8) pa_nil)) pa_nil)))
          (pa_cons (pe_op op_cat (pe_call GL hr1 (by rfl) mL kL bL .nil pass0 (pa_cons (pv 1) (pa_cons pe_str pa_nil))) (pe_call GL hr1 (by rfl) mL kL bL .nil pass0 (pa_cons (pv 1) (pa_cons pe_str pa_nil)))) pa_nil)) (by rfl))
      (pss_cons (ps_set (i := 11) scTw.nd rfl (Or.inl rfl) (pe_call GO hr2 (by rfl) mO kO bO .nil pass0 (pa_cons (pv 0) (pa_cons (pe_op op_cat (pe_op op_cat (pv 10) (pe_call GL hr1 (by rfl) mL kL bL .nil pass0 (pa_cons (pv 1) (pa_cons pe_str pa_nil))))
          (pe_lst (pa_cons pe_str (pa_cons pe_str (pa_cons pe_str (pa_cons pe_str (pa_cons pe_str (pa_cons pe_str pa_nil)))))))) pa_nil))))
      (pss_cons (ps_if (pt_cmpR op_lt (pv 4) pe_int (nomark _)) (pss_one (ps_ret (pe_op op_add_str (pe_op op_add_str (pe_slice sl_str (pv 2) po_none (po_some (pv 6))) (pe_ix ix_list (pe_lst (pa_cons pe_str (pa_cons (pv 7) (pa_cons (pv 7) pa_nil)))) (pv 4) (fun _ _ => rfl)))
          (pe_slice sl_str (pv 2) (po_some (pe_op op_add (pv 6) (pe_callTy call_int1 (by rfl) T.int (by decide +kernel) (pa_cons (pe_cmpR op_ne (pv 4) pe_int rfl) pa_nil)))) po_none)))) pss_nil)
      (pss_cons (ps_if (pt_cmpR op_lt (pv 4) pe_int (nomark _))
          (pss_cons (ps_par (i := 12) (j := 13) (by rfl) scTw.nd rfl rfl (by decide) rfl rfl (pa_cons (pe_ix ix_list (pe_lst (pa_cons (pe_lst (pa_cons (pv 11) pa_nil)) (pa_cons (pe_lst pa_nil) (pa_cons (pe_lst (pa_cons (pv 11) pa_nil)) pa_nil)))) (pe_op op_sub (pv 4) pe_int) (fun _ _ => rfl))
              (pa_cons (pe_ifExp (pt_cmpR op_lt (pv 4) pe_int (nomark _)) (pe_slice sl_list (pv 8) (po_some (pe_op op_add (pv 9) pe_int)) po_none) (pe_slice sl_list (pv 8) (po_some (pv 9)) po_none)) pa_nil)) (by rfl))
          (pss_one (ps_ret (pe_join pe_str (pe_op op_cat (pe_op op_cat (pe_slice sl_list (pv 3) po_none (po_some (pv 5))) (pe_lst (pa_cons (pe_join pe_str (pe_op op_cat (pe_op op_cat (pe_slice sl_list (pv 8) po_none (po_some (pv 9))) (pv 12)) (pv 13))) pa_nil))) (pe_slice sl_list (pv 3) (po_some (pe_op op_add (pv 5) pe_int)) po_none)))))) pss_nil)
      (pss_cons (ps_if (pt_cmpR op_eq (pv 4) pe_int (nomark _)) (pss_one (ps_ret (pe_join pe_str (pe_op op_cat (pe_slice sl_list (pv 3) po_none (po_some (pv 5))) (pe_slice sl_list (pv 3) (po_some (pe_op op_add (pv 5) pe_int)) po_none))))) pss_nil)
      (pss_cons (ps_if (pt_cmpR op_eq (pv 4) pe_int (nomark _)) (pss_one (ps_ret (pe_join pe_str (pe_op op_cat (pe_op op_cat (pe_slice sl_list (pv 3) po_none (po_some (pv 5))) (pe_lst (pa_cons (pe_ix ix_list (pv 3) (pv 5) (fun _ _ => rfl)) pa_nil))) (pe_slice sl_list (pv 3) (po_some (pv 5)) po_none))))) pss_nil)
      (pss_one (ps_ret (pe_op op_add_str (pv 2) (pe_call GO hr2 (by rfl) mO kO bO .nil pass0 (pa_cons (pv 0) (pa_cons (pe_lst (pa_cons pe_str (pa_cons pe_str (pa_cons (pe_op op_add_str pe_str (pe_ix ix_list (pv 3) (pv 5) (fun _ _ => rfl))) (pa_cons pe_str pa_nil))))) pa_nil)))))))))))))), ?_⟩
    have sz := sizeLine_eq
    have hs : ((Txt.split z nl).map Str.length).sum ≤ z.length ∧ (Txt.split z nl).length ≤ z.length + 1 := split_sum (x := z) tl_nl (by decide)
    have hst : ((Txt.split z nl).map Str.length).sum + (Txt.split z nl).length = z.length + 1 := split_tot (x := z) tl_nl (by decide)
    have hne : Txt.split z nl ≠ [] := split_ne (x := z) tl_nl (by decide)
    have hp0 : 0 < (Txt.split z nl).length := List.length_pos_iff.mpr hne
    generalize hls : Txt.split z nl = ls at hs hst hne hp0
    have lnk : ∀ y ∈ ls, Tk y ∧ y.length ≤ z.length := fun y hy => by
      rw [← hls] at hy
      exact ⟨tk_split tl_nl (by decide) tk hy, split_le tl_nl (by decide) hy⟩
    have one : sp1.length = 1 := by decide +kernel
    have onen : nl.length = 1 := by decide +kernel
    have gf := g.f
    have m2 := g.m2
    have c3' := g.c3
    have p4 := g.p4
    refine rd_seqU ?_
    refine ⟨_, rfl, ⟨_, rfl⟩, z, nl, rfl, rfl, by decide +kernel, by omega, fun l2 n2 => ?_⟩
    rw [hls]
    have J2 : JarAt (upd H l2 (.lst (ls.map V.str))) j := J.new n2
    have b2 : But j H (upd H l2 (.lst (ls.map V.str))) := But.refl.new n2
    have e2 : (upd H l2 (.lst (ls.map V.str))) l2 = some (.lst (ls.map V.str)) := upd_same
    generalize upd H l2 (.lst (ls.map V.str)) = H2 at J2 b2 e2 ⊢
    refine ⟨_, rfl, j, 9, rfl, J2, by decide, by decide, fun pick H3 k0 k9 J3 b3 => ⟨_, _, rfl, ?_⟩⟩
    try dsimp only
    have e3 := b3 _ _ (strs_ne J2 e2) e2
    refine rd_seqU ?_
    refine ⟨_, rfl, _, rfl, l2, _, rfl, .inl (SqL.of e3), j, _, rfl, J3, by rw [List.length_map]; omega, by rw [List.length_map]; omega, fun at_ H4 a0 a1 J4 b4 => ?_⟩
    rw [List.length_map] at a1
    refine ⟨_, rfl, _, rfl, z, rfl, by omega, _, _, rfl, rfl, j, _, rfl, J4, by omega, by omega, fun spot H5 s0 s1 J5 b5 => ?_⟩
    refine ⟨_, rfl, j, _, rfl, J5, by decide +kernel, by decide +kernel, fun c H6 hc J6 b6 => ⟨_, _, _, rfl, ?_⟩⟩
    try dsimp only
    have sgk : Tk (⟨#[c]⟩ : Str) ∧ (⟨#[c]⟩ : Str).length ≤ 5 := by
      have all : ∀ c ∈ (Str.ofString " -\nazA0:,").cps.toList, Tk (⟨#[c]⟩ : Str) ∧ (⟨#[c]⟩ : Str).length ≤ 5 := by decide +kernel
      exact all c hc
    generalize (⟨#[c]⟩ : Str) = sg at sgk ⊢
    have B6 : But j H H6 := (((b2.trans b3).trans b4).trans b5).trans b6
    have e6 := ((b4.trans b5).trans b6) _ _ (strs_ne J3 e3) e3
    clear hc b2 b3 b4 b5 b6 J2 J3 J4 J5 e2 e3 n2
    obtain ⟨ln, hln⟩ : ∃ ln, ls[at_.toNat]? = some ln := ⟨_, List.getElem?_eq_getElem (by omega)⟩
    obtain ⟨tln, lln⟩ := lnk ln (List.mem_of_getElem? hln)
    have atl : atI (ls.map V.str) at_ = some (.str ln) := by
      rw [show at_ = ((at_.toNat : Nat) : Int) by omega]
      exact atI_nat (by rw [List.getElem?_map, hln]; rfl)
    have hwt := split_tot (x := ln) tl_sp1 (by decide)
    have hwn := split_ne (x := ln) tl_sp1 (by decide)
    have hwp : 0 < (Txt.split ln sp1).length := List.length_pos_iff.mpr hwn
    generalize hws : Txt.split ln sp1 = ws at hwt hwn hwp
    have wk : ∀ y ∈ ws, Tk y := fun y hy => by
      rw [← hws] at hy
      exact tk_split tl_sp1 (by decide) tln hy
    refine rd_seqU (rd_asgU ?_)
    refine ⟨_, rfl, _, rfl, l2, _, _, _, rfl, rfl, SqL.of e6, atl, ⟨_, rfl⟩, ln, sp1, rfl, rfl, by decide +kernel, by omega, fun l8 n8 => ?_⟩
    rw [hws]
    have J8 : JarAt (upd H6 l8 (.lst (ws.map V.str))) j := J6.new n8
    have b8 : But j H6 (upd H6 l8 (.lst (ws.map V.str))) := But.refl.new n8
    have e8 : (upd H6 l8 (.lst (ws.map V.str))) l8 = some (.lst (ws.map V.str)) := upd_same
    generalize upd H6 l8 (.lst (ws.map V.str)) = H8 at J8 b8 e8 ⊢
    refine rd_nameU ?_
    try dsimp only
    refine rd_seqU ?_
    refine ⟨_, rfl, _, rfl, l8, _, rfl, .inl (SqL.of e8), j, _, rfl, J8, by rw [List.length_map]; omega, by rw [List.length_map]; omega, fun kk H9 kk0 kk1 J9 b9 => ?_⟩
    rw [List.length_map] at kk1
    have B9 := (B6.trans b8).trans b9
    have sk9 := sk.but J B9
    obtain ⟨lp, rp, dp1, dp2, dp3, dp4⟩ := cld_p sk9 gf
    refine ⟨_, rfl, p, lp, _, rp, _, rfl, dp1, dp2, dp3, dp4, fun D1 H10 x10 nD1 eD1 => ?_⟩
    have sk10 := sk9.but J9 (But.ex x10)
    obtain ⟨lc, rc, dc1, dc2, dc3, dc4⟩ := cld_c sk10 gf
    refine ⟨_, rfl, p, lc, _, rc, _, rfl, dc1, dc2, dc3, dc4, fun D2 H11 x11 nD2 eD2 => ?_⟩
    have x911 := x10.trans x11
    refine ⟨D1, D2, _, _, rfl, rfl, x11 _ _ eD1, eD2, by simp only [List.length_map]; omega, fun L10 nL10 => ⟨_, _, rfl, ?_⟩⟩
    rw [← List.map_append]
    have x12 : Ex H11 (upd H11 L10 (.lst ((W.ps.map (·.1) ++ W.cs.map (·.1)).map V.str))) := Ex.refl.new nL10
    have e12 : (upd H11 L10 (.lst ((W.ps.map (·.1) ++ W.cs.map (·.1)).map V.str))) L10 = some (.lst ((W.ps.map (·.1) ++ W.cs.map (·.1)).map V.str)) := upd_same
    generalize upd H11 L10 (.lst ((W.ps.map (·.1) ++ W.cs.map (·.1)).map V.str)) = H12 at x12 e12 ⊢
    have x912 := x911.trans x12
    try dsimp only
    refine rd_seqU (rd_asgU ?_)
    have sk12 := sk9.but J9 (But.ex x912)
    obtain ⟨lm, rm, dm1, dm2, dm3, dm4⟩ := cld_m sk12 gf
    refine ⟨_, rfl, _, rfl, _, rfl, p, lm, _, rm, _, rfl, dm1, dm2, dm3, dm4, fun D3 H13 x13 nD3 eD3 => ?_⟩
    refine ⟨L10, D3, _, _, rfl, rfl, x13 _ _ e12, eD3, by simp only [List.length_map, List.length_append]; omega, fun L14 n14 => ?_⟩
    rw [← List.map_append]
    have x14 : Ex H13 (upd H13 L14 (.lst ((W.ps.map (·.1) ++ W.cs.map (·.1) ++ W.ms.map (·.1)).map V.str))) := Ex.refl.new n14
    have e14 : (upd H13 L14 (.lst ((W.ps.map (·.1) ++ W.cs.map (·.1) ++ W.ms.map (·.1)).map V.str))) L14 = some (.lst ((W.ps.map (·.1) ++ W.cs.map (·.1) ++ W.ms.map (·.1)).map V.str)) := upd_same
    generalize upd H13 L14 (.lst ((W.ps.map (·.1) ++ W.cs.map (·.1) ++ W.ms.map (·.1)).map V.str)) = H14 at x14 e14 ⊢
    refine ⟨big100 (Nat.le_of_ble_eq_true rfl), fun L15 n15 => ?_⟩
    have x15 : Ex H14 (upd H14 L15 (.lst (six.map V.str))) := Ex.refl.new n15
    have e15 : (upd H14 L15 (.lst (six.map V.str))) L15 = some (.lst (six.map V.str)) := upd_same
    change rCat _ _ (upd H14 L15 (.lst (six.map V.str))) _
    generalize upd H14 L15 (.lst (six.map V.str)) = H15 at x15 e15 ⊢
    refine ⟨L14, L15, _, _, rfl, rfl, x15 _ _ e14, e15, by simp only [List.length_map, List.length_append]; have : six.length = 6 := rfl; omega, fun L16 n16 => ?_⟩
    rw [← List.map_append]
    have x16 : Ex H15 (upd H15 L16 (.lst ((W.ps.map (·.1) ++ W.cs.map (·.1) ++ W.ms.map (·.1) ++ six).map V.str))) := Ex.refl.new n16
    have e16 : (upd H15 L16 (.lst ((W.ps.map (·.1) ++ W.cs.map (·.1) ++ W.ms.map (·.1) ++ six).map V.str))) L16 = some (.lst ((W.ps.map (·.1) ++ W.cs.map (·.1) ++ W.ms.map (·.1) ++ six).map V.str)) := upd_same
    generalize upd H15 L16 (.lst ((W.ps.map (·.1) ++ W.cs.map (·.1) ++ W.ms.map (·.1) ++ six).map V.str)) = H16 at x16 e16 ⊢
    have x916 := (((x912.trans x13).trans x14).trans x15).trans x16
    have J16 := jar_ex x916 J9
    refine ⟨j, L16, _, rfl, J16, e16, strs_ne J16 e16, by simp only [List.length_map, List.length_append]; have : six.length = 6 := rfl; omega, by simp only [List.length_map, List.length_append]; have : six.length = 6 := rfl; omega, fun m v H17 hv J17 b17 => ?_⟩
    obtain ⟨wd, hwd, rfl⟩ := List.mem_map.mp (List.mem_of_getElem? hv)
    have wdk : Tk wd ∧ wd.length ≤ 8 := by
      have nm : ∀ x, x ∈ W.ms.map (·.1) ++ (W.cs.map (·.1) ++ (W.ss.map (·.1) ++ W.ps.map (·.1))) → Tk x ∧ x.length ≤ 8 := fun x hx => ⟨tk_name (gf.nm _ hx), isW_8 (gf.nm _ hx)⟩
      rcases List.mem_append.mp hwd with h | h
      · rcases List.mem_append.mp h with h | h
        · rcases List.mem_append.mp h with h | h
          · exact nm _ (List.mem_append_right _ (List.mem_append_right _ (List.mem_append_right _ h)))
          · exact nm _ (List.mem_append_right _ (List.mem_append_left _ h))
        · exact nm _ (List.mem_append_left _ h)
      · exact six_ok wd h
    have b917 : But j H9 H17 := (But.ex x916).trans b17
    have B17 := B9.trans b917
    have el := ((b8.trans b9).trans b917) _ _ (strs_ne J6 e6) e6
    have ew := (b9.trans b917) _ _ (strs_ne J8 e8) e8
    clear hv hwd e16 x16 e15 x15 e14 x14 eD3 x13 e12 x12 x911 x912 x916 eD1 eD2 x10 x11 sk9 sk10 sk12 dp1 dp2 dp3 dp4 dc1 dc2 dc3 dc4 dm1 dm2 dm3 dm4 n16 n15 n14 nD1 nD2 nD3 nL10 b8 b9 b17 b917 B6 B9 J6 J8 J9 J16 e6 e8 n8
    clear H16 H15 H14 H13 H12 H11 H10 H9 H8 H6 H5 H4 H3 H2
    have ll := hs.2
    have lw : ws.length ≤ z.length + 1 := by omega
    refine rd_nameU ?_
    try dsimp only
    refine rd_seqU (rd_ifU ?_)
    refine ⟨_, rfl, _, _, rfl, rfl, _, rfl, ?_⟩
    refine ite2 (fun c3 => ?_) (fun c3 => ?_)
    · have c3 := of_decide_eq_true c3
      rcases (by omega : pick = 0 ∨ pick = 1 ∨ pick = 2) with rfl | rfl | rfl
      · exact rd_k3R (K := K) rfl rfl rfl rfl s0 (by omega) lz J17 (atI_nat (j := 0) rfl) (by decide +kernel) (by decide +kernel) tk fun y Hy ty ly Jy by_ => q _ _ ty (by omega) Jy (B17.trans by_)
      · exact rd_k3R (K := K) rfl rfl rfl rfl s0 (by omega) lz J17 (atI_nat (j := 1) rfl) sgk.2 sgk.1 tk fun y Hy ty ly Jy by_ => q _ _ ty (by omega) Jy (B17.trans by_)
      · exact rd_k3R (K := K) rfl rfl rfl rfl s0 (by omega) lz J17 (atI_nat (j := 2) rfl) sgk.2 sgk.1 tk fun y Hy ty ly Jy by_ => q _ _ ty (by omega) Jy (B17.trans by_)
    have c3 : ¬ pick < 3 := fun h => c3 (decide_eq_true h)
    refine rd_nextU ?_
    try dsimp only
    have lt : at_.toNat < ls.length := by omega
    have ltw : kk.toNat < ws.length := by omega
    have eln : ls[at_.toNat] = ln := by
      rw [List.getElem?_eq_getElem lt] at hln
      exact Option.some.inj hln
    refine rd_seqU (rd_ifU ?_)
    refine ⟨_, rfl, _, _, rfl, rfl, _, rfl, ?_⟩
    refine ite2 (fun c6 => ?_) (fun c6 => ?_)
    · have c6 := of_decide_eq_true c6
      refine rd_seqU ?_
      refine ⟨_, rfl, big100 (Nat.le_of_ble_eq_true rfl), fun a1' na1 => ⟨big100 (Nat.le_of_ble_eq_true rfl), fun a2' na2 => ⟨_, rfl, big100 (Nat.le_of_ble_eq_true rfl), fun a3' na3 => ⟨big100 (Nat.le_of_ble_eq_true rfl), fun a4' na4 => ?_⟩⟩⟩⟩
      have x1 : Ex H17 (upd H17 a1' (.lst ([wd].map V.str))) := Ex.refl.new na1
      have x2 := x1.new (o := .lst (([] : List Str).map V.str)) na2
      have x3 := x2.new (o := .lst ([wd].map V.str)) na3
      have x4 := x3.new (o := .lst [.ref a1', .ref a2', .ref a3']) na4
      have f1 : (upd (upd (upd (upd H17 a1' (.lst ([wd].map V.str))) a2' (.lst (([] : List Str).map V.str))) a3' (.lst ([wd].map V.str))) a4' (.lst [.ref a1', .ref a2', .ref a3'])) a1' = some (.lst ([wd].map V.str)) := by
        rw [upd_ne (ne_of_none ((Ex.refl.new na3) _ _ ((Ex.refl.new na2) _ _ upd_same)) na4)]
        exact (Ex.refl.new na3) _ _ ((Ex.refl.new na2) _ _ upd_same)
      have f2 : (upd (upd (upd (upd H17 a1' (.lst ([wd].map V.str))) a2' (.lst (([] : List Str).map V.str))) a3' (.lst ([wd].map V.str))) a4' (.lst [.ref a1', .ref a2', .ref a3'])) a2' = some (.lst (([] : List Str).map V.str)) := by
        rw [upd_ne (ne_of_none ((Ex.refl.new na3) _ _ upd_same) na4)]
        exact (Ex.refl.new na3) _ _ upd_same
      have f3 : (upd (upd (upd (upd H17 a1' (.lst ([wd].map V.str))) a2' (.lst (([] : List Str).map V.str))) a3' (.lst ([wd].map V.str))) a4' (.lst [.ref a1', .ref a2', .ref a3'])) a3' = some (.lst ([wd].map V.str)) := by
        rw [upd_ne (ne_of_none upd_same na4)]
        exact upd_same
      have f4 : (upd (upd (upd (upd H17 a1' (.lst ([wd].map V.str))) a2' (.lst (([] : List Str).map V.str))) a3' (.lst ([wd].map V.str))) a4' (.lst [.ref a1', .ref a2', .ref a3'])) a4' = some (.lst [.ref a1', .ref a2', .ref a3']) := upd_same
      change tOp _ _ _ _ (upd (upd (upd (upd H17 a1' (.lst ([wd].map V.str))) a2' (.lst (([] : List Str).map V.str))) a3' (.lst ([wd].map V.str))) a4' (.lst [.ref a1', .ref a2', .ref a3'])) _
      generalize upd (upd (upd (upd H17 a1' (.lst ([wd].map V.str))) a2' (.lst (([] : List Str).map V.str))) a3' (.lst ([wd].map V.str))) a4' (.lst [.ref a1', .ref a2', .ref a3']) = G4 at x4 f1 f2 f3 f4 ⊢
      clear x1 x2 x3 na1 na2 na3 na4
      obtain ⟨am, mid, ham, hmid, mk⟩ : ∃ (am : Addr) (mid : List Str), atI [V.ref a1', .ref a2', .ref a3'] (pick - 3) = some (.ref am) ∧ G4 am = some (.lst (mid.map V.str)) ∧ mid.length ≤ 1 ∧ ∀ m ∈ mid, m = wd := by
        rcases (by omega : pick = 3 ∨ pick = 4 ∨ pick = 5) with rfl | rfl | rfl
        · exact ⟨a1', [wd], atI_nat (j := 0) rfl, f1, Nat.le_refl _, fun m hm => List.mem_singleton.mp hm⟩
        · exact ⟨a2', [], atI_nat (j := 1) rfl, f2, Nat.zero_le _, fun m hm => nomatch hm⟩
        · exact ⟨a3', [wd], atI_nat (j := 2) rfl, f3, Nat.le_refl _, fun m hm => List.mem_singleton.mp hm⟩
      obtain ⟨ml, mm⟩ := mk
      refine ⟨_, rfl, _, _, rfl, rfl, a4', _, _, _, rfl, rfl, SqL.of f4, ham, ?_⟩
      clear f1 f2 f3 f4
      refine rd_later (K := K) rfl rfl rfl (x4 _ _ ew) kk0 ltw (by omega) fun a5 lat G5 x5 hlat e5 => ⟨_, _, rfl, ?_⟩
      try dsimp only
      have x45 := x4.trans x5
      refine ⟨⟨_, rfl⟩, _, rfl, _, rfl, _, rfl, l2, _, rfl, SqL.of (x45 _ _ el), fun q1 nq1 => ?_⟩
      rw [cutV_lo a0 lt]
      have x6 : Ex G5 (upd G5 q1 (.lst ((ls.take at_.toNat).map V.str))) := Ex.refl.new nq1
      have e6 : (upd G5 q1 (.lst ((ls.take at_.toNat).map V.str))) q1 = some (.lst ((ls.take at_.toNat).map V.str)) := upd_same
      generalize upd G5 q1 (.lst ((ls.take at_.toNat).map V.str)) = G6 at x6 e6 ⊢
      refine ⟨⟨_, rfl⟩, _, rfl, _, rfl, _, rfl, l8, _, rfl, SqL.of (x6 _ _ (x45 _ _ ew)), fun q2 nq2 => ?_⟩
      rw [cutV_lo kk0 ltw]
      have x7 : Ex G6 (upd G6 q2 (.lst ((ws.take kk.toNat).map V.str))) := Ex.refl.new nq2
      have e7 : (upd G6 q2 (.lst ((ws.take kk.toNat).map V.str))) q2 = some (.lst ((ws.take kk.toNat).map V.str)) := upd_same
      generalize upd G6 q2 (.lst ((ws.take kk.toNat).map V.str)) = G7 at x7 e7 ⊢
      refine ⟨_, rfl, q2, am, _, _, rfl, rfl, e7, x7 _ _ (x6 _ _ (x5 _ _ hmid)), by simp only [List.length_map, List.length_take]; omega, fun q3 nq3 => ?_⟩
      rw [← List.map_append]
      have x8 : Ex G7 (upd G7 q3 (.lst ((ws.take kk.toNat ++ mid).map V.str))) := Ex.refl.new nq3
      have e8 : (upd G7 q3 (.lst ((ws.take kk.toNat ++ mid).map V.str))) q3 = some (.lst ((ws.take kk.toNat ++ mid).map V.str)) := upd_same
      generalize upd G7 q3 (.lst ((ws.take kk.toNat ++ mid).map V.str)) = G8 at x8 e8 ⊢
      have llat : lat.length ≤ ws.length := by rcases hlat with rfl | rfl <;> (rw [List.length_drop]; omega)
      refine ⟨_, rfl, q3, a5, _, _, rfl, rfl, e8, x8 _ _ (x7 _ _ (x6 _ _ e5)), by simp only [List.length_map, List.length_append, List.length_take]; omega, fun q4 nq4 => ?_⟩
      rw [← List.map_append]
      have x9 : Ex G8 (upd G8 q4 (.lst ((ws.take kk.toNat ++ mid ++ lat).map V.str))) := Ex.refl.new nq4
      have e9 : (upd G8 q4 (.lst ((ws.take kk.toNat ++ mid ++ lat).map V.str))) q4 = some (.lst ((ws.take kk.toNat ++ mid ++ lat).map V.str)) := upd_same
      generalize upd G8 q4 (.lst ((ws.take kk.toNat ++ mid ++ lat).map V.str)) = G9 at x9 e9 ⊢
      have W1 := line_edit (ws := ws) (ln := ln) (kk := kk) (mid := mid) (lat := lat) (wd := wd) ltw hwt ml mm wdk.2 hlat
      have W2 : Tk (Txt.join sp1 (ws.take kk.toNat ++ mid ++ lat)) := tk_join (by decide +kernel) fun y hy => by
        rcases List.mem_append.mp hy with h | h
        · rcases List.mem_append.mp h with h | h
          · exact wk y (List.mem_of_mem_take h)
          · rw [mm y h]
            exact wdk.1
        · rcases hlat with rfl | rfl
          · exact wk y (List.mem_of_mem_drop h)
          · exact wk y (List.mem_of_mem_drop h)
      refine ⟨sp1, q4, _, rfl, rfl, .inl (SqL.of e9), by have := W1.1; rw [one]; omega, big100 (Nat.le_of_ble_eq_true rfl), fun q5 nq5 => ?_⟩
      generalize Txt.join sp1 (ws.take kk.toNat ++ mid ++ lat) = nw at W1 W2 ⊢
      change rCat _ _ (upd G9 q5 (.lst ([nw].map V.str))) _
      have x10 : Ex G9 (upd G9 q5 (.lst ([nw].map V.str))) := Ex.refl.new nq5
      have e10 : (upd G9 q5 (.lst ([nw].map V.str))) q5 = some (.lst ([nw].map V.str)) := upd_same
      generalize upd G9 q5 (.lst ([nw].map V.str)) = G10 at x10 e10 ⊢
      refine ⟨q1, q5, _, _, rfl, rfl, x10 _ _ (x9 _ _ (x8 _ _ (x7 _ _ e6))), e10, by simp only [List.length_map, List.length_take]; show _ + 1 ≤ _; omega, fun q6 nq6 => ?_⟩
      rw [← List.map_append]
      have x11 : Ex G10 (upd G10 q6 (.lst ((ls.take at_.toNat ++ [nw]).map V.str))) := Ex.refl.new nq6
      have e11 : (upd G10 q6 (.lst ((ls.take at_.toNat ++ [nw]).map V.str))) q6 = some (.lst ((ls.take at_.toNat ++ [nw]).map V.str)) := upd_same
      generalize upd G10 q6 (.lst ((ls.take at_.toNat ++ [nw]).map V.str)) = G11 at x11 e11 ⊢
      have x611 : Ex G5 G11 := x6.trans (x7.trans (x8.trans (x9.trans (x10.trans x11))))
      refine ⟨_, rfl, _, rfl, _, _, rfl, rfl, _, rfl, l2, _, rfl, SqL.of (x611 _ _ (x45 _ _ el)), fun q7 nq7 => ?_⟩
      rw [cutV_hi a0 lt]
      have x12 : Ex G11 (upd G11 q7 (.lst ((ls.drop (at_.toNat + 1)).map V.str))) := Ex.refl.new nq7
      have e12 : (upd G11 q7 (.lst ((ls.drop (at_.toNat + 1)).map V.str))) q7 = some (.lst ((ls.drop (at_.toNat + 1)).map V.str)) := upd_same
      generalize upd G11 q7 (.lst ((ls.drop (at_.toNat + 1)).map V.str)) = G12 at x12 e12 ⊢
      refine ⟨q6, q7, _, _, rfl, rfl, x12 _ _ e11, e12, by simp only [List.length_map, List.length_append, List.length_take, List.length_drop]; show _ + 1 + _ ≤ _; omega, fun q8 nq8 => ?_⟩
      rw [← List.map_append]
      have x13 : Ex G12 (upd G12 q8 (.lst ((ls.take at_.toNat ++ [nw] ++ ls.drop (at_.toNat + 1)).map V.str))) := Ex.refl.new nq8
      have e13 : (upd G12 q8 (.lst ((ls.take at_.toNat ++ [nw] ++ ls.drop (at_.toNat + 1)).map V.str))) q8 = some (.lst ((ls.take at_.toNat ++ [nw] ++ ls.drop (at_.toNat + 1)).map V.str)) := upd_same
      generalize upd G12 q8 (.lst ((ls.take at_.toNat ++ [nw] ++ ls.drop (at_.toNat + 1)).map V.str)) = G13 at x13 e13 ⊢
      have x13' := (x45.trans x611).trans (x12.trans x13)
      have E := edit_all (z := z) (i := at_.toNat) (ms := [nw]) onen lt hst (lnk := fun y hy => (lnk y hy).1) (fun y hy => (List.mem_singleton.mp hy) ▸ W2)
      refine ⟨nl, q8, _, rfl, rfl, .inl (SqL.of e13), ?_, ?_⟩
      · have := E.2.2
        show ((edit ls at_.toNat [nw]).map (fun x => x.length)).sum + (edit ls at_.toNat [nw]).length * nl.length ≤ _
        have w := W1.2
        have e0 : ([nw].map Str.length).sum = nw.length := by simp
        rw [e0, List.length_singleton] at this
        rw [onen]
        omega
      · refine q _ _ E.1 ?_ (jar_ex x13' J17) (B17.trans (But.ex x13'))
        have w := W1.2
        have e0 : ([nw].map Str.length).sum = nw.length := by simp
        have e1 := E.2.1
        rw [e0, List.length_singleton, eln] at e1
        show (Txt.join nl (edit ls at_.toNat [nw])).length ≤ _
        omega
    have c6 : ¬ pick < 6 := fun h => c6 (decide_eq_true h)
    refine rd_nextU ?_
    try dsimp only
    refine rd_seqU (rd_ifU ?_)
    refine ⟨_, rfl, rfl, _, rfl, ?_⟩
    refine ite2 (fun _ => ?_) (fun _ => ?_)
    · refine ⟨⟨_, rfl⟩, _, rfl, _, rfl, _, rfl, l2, _, rfl, SqL.of el, fun q1 nq1 => ?_⟩
      rw [cutV_lo a0 lt]
      have x6 : Ex H17 (upd H17 q1 (.lst ((ls.take at_.toNat).map V.str))) := Ex.refl.new nq1
      have e6 : (upd H17 q1 (.lst ((ls.take at_.toNat).map V.str))) q1 = some (.lst ((ls.take at_.toNat).map V.str)) := upd_same
      generalize upd H17 q1 (.lst ((ls.take at_.toNat).map V.str)) = G6 at x6 e6 ⊢
      refine ⟨_, rfl, _, rfl, _, _, rfl, rfl, _, rfl, l2, _, rfl, SqL.of (x6 _ _ el), fun q7 nq7 => ?_⟩
      rw [cutV_hi a0 lt]
      have x12 : Ex G6 (upd G6 q7 (.lst ((ls.drop (at_.toNat + 1)).map V.str))) := Ex.refl.new nq7
      have e12 : (upd G6 q7 (.lst ((ls.drop (at_.toNat + 1)).map V.str))) q7 = some (.lst ((ls.drop (at_.toNat + 1)).map V.str)) := upd_same
      generalize upd G6 q7 (.lst ((ls.drop (at_.toNat + 1)).map V.str)) = G12 at x12 e12 ⊢
      refine ⟨q1, q7, _, _, rfl, rfl, x12 _ _ e6, e12, by simp only [List.length_map, List.length_take, List.length_drop]; omega, fun q8 nq8 => ?_⟩
      rw [← List.map_append]
      have x13 : Ex G12 (upd G12 q8 (.lst ((ls.take at_.toNat ++ ls.drop (at_.toNat + 1)).map V.str))) := Ex.refl.new nq8
      have e13 : (upd G12 q8 (.lst ((ls.take at_.toNat ++ ls.drop (at_.toNat + 1)).map V.str))) q8 = some (.lst ((ls.take at_.toNat ++ ls.drop (at_.toNat + 1)).map V.str)) := upd_same
      generalize upd G12 q8 (.lst ((ls.take at_.toNat ++ ls.drop (at_.toNat + 1)).map V.str)) = G13 at x13 e13 ⊢
      have x13' := (x6.trans x12).trans x13
      have E := edit_all (z := z) (i := at_.toNat) (ms := []) onen lt hst (lnk := fun y hy => (lnk y hy).1) (fun y hy => nomatch hy)
      have e0 : edit ls at_.toNat [] = ls.take at_.toNat ++ ls.drop (at_.toNat + 1) := by
        unfold edit
        rw [List.append_nil]
      rw [e0] at E
      refine ⟨nl, q8, _, rfl, rfl, .inl (SqL.of e13), ?_, ?_⟩
      · have e3 : ((ls.take at_.toNat ++ ls.drop (at_.toNat + 1)).map (fun x => x.length)).sum + (ls.take at_.toNat ++ ls.drop (at_.toNat + 1)).length ≤ z.length + 1 + 0 + 0 := E.2.2
        rw [onen]
        omega
      · refine q _ _ E.1 ?_ (jar_ex x13' J17) (B17.trans (But.ex x13'))
        have e1 : (Txt.join nl (ls.take at_.toNat ++ ls.drop (at_.toNat + 1))).length + ls[at_.toNat].length ≤ z.length + 0 + 0 := E.2.1
        omega
    refine rd_nextU ?_
    try dsimp only
    refine rd_seqU (rd_ifU ?_)
    refine ⟨_, rfl, rfl, _, rfl, ?_⟩
    refine ite2 (fun _ => ?_) (fun _ => ?_)
    · refine ⟨⟨_, rfl⟩, _, rfl, _, rfl, _, rfl, l2, _, rfl, SqL.of el, fun q1 nq1 => ?_⟩
      rw [cutV_lo a0 lt]
      have x6 : Ex H17 (upd H17 q1 (.lst ((ls.take at_.toNat).map V.str))) := Ex.refl.new nq1
      have e6 : (upd H17 q1 (.lst ((ls.take at_.toNat).map V.str))) q1 = some (.lst ((ls.take at_.toNat).map V.str)) := upd_same
      generalize upd H17 q1 (.lst ((ls.take at_.toNat).map V.str)) = G6 at x6 e6 ⊢
      refine ⟨_, rfl, _, rfl, l2, _, _, _, rfl, rfl, SqL.of (x6 _ _ el), atl, big100 (Nat.le_of_ble_eq_true rfl), fun q5 nq5 => ?_⟩
      change rCat _ _ (upd G6 q5 (.lst ([ln].map V.str))) _
      have x10 : Ex G6 (upd G6 q5 (.lst ([ln].map V.str))) := Ex.refl.new nq5
      have e10 : (upd G6 q5 (.lst ([ln].map V.str))) q5 = some (.lst ([ln].map V.str)) := upd_same
      generalize upd G6 q5 (.lst ([ln].map V.str)) = G10 at x10 e10 ⊢
      refine ⟨q1, q5, _, _, rfl, rfl, x10 _ _ e6, e10, by simp only [List.length_map, List.length_take]; show _ + 1 ≤ _; omega, fun q6 nq6 => ?_⟩
      rw [← List.map_append]
      have x11 : Ex G10 (upd G10 q6 (.lst ((ls.take at_.toNat ++ [ln]).map V.str))) := Ex.refl.new nq6
      have e11 : (upd G10 q6 (.lst ((ls.take at_.toNat ++ [ln]).map V.str))) q6 = some (.lst ((ls.take at_.toNat ++ [ln]).map V.str)) := upd_same
      generalize upd G10 q6 (.lst ((ls.take at_.toNat ++ [ln]).map V.str)) = G11 at x11 e11 ⊢
      have x611 := x6.trans (x10.trans x11)
      refine ⟨_, rfl, _, rfl, _, rfl, l2, _, rfl, SqL.of (x611 _ _ el), fun q7 nq7 => ?_⟩
      rw [cutV_at a0 lt]
      have x12 : Ex G11 (upd G11 q7 (.lst ((ls.drop at_.toNat).map V.str))) := Ex.refl.new nq7
      have e12 : (upd G11 q7 (.lst ((ls.drop at_.toNat).map V.str))) q7 = some (.lst ((ls.drop at_.toNat).map V.str)) := upd_same
      generalize upd G11 q7 (.lst ((ls.drop at_.toNat).map V.str)) = G12 at x12 e12 ⊢
      refine ⟨q6, q7, _, _, rfl, rfl, x12 _ _ e11, e12, by simp only [List.length_map, List.length_append, List.length_take, List.length_drop]; show _ + 1 + _ ≤ _; omega, fun q8 nq8 => ?_⟩
      rw [← List.map_append]
      have x13 : Ex G12 (upd G12 q8 (.lst ((ls.take at_.toNat ++ [ln] ++ ls.drop at_.toNat).map V.str))) := Ex.refl.new nq8
      have e13 : (upd G12 q8 (.lst ((ls.take at_.toNat ++ [ln] ++ ls.drop at_.toNat).map V.str))) q8 = some (.lst ((ls.take at_.toNat ++ [ln] ++ ls.drop at_.toNat).map V.str)) := upd_same
      generalize upd G12 q8 (.lst ((ls.take at_.toNat ++ [ln] ++ ls.drop at_.toNat).map V.str)) = G13 at x13 e13 ⊢
      have x13' := (x611.trans x12).trans x13
      have E := edit_all (z := z) (i := at_.toNat) (ms := [ln, ln]) onen lt hst (lnk := fun y hy => (lnk y hy).1) (fun y hy => by
        have : y = ln := by
          simp only [List.mem_cons, List.not_mem_nil, or_false] at hy
          rcases hy with h | h <;> exact h
        rw [this]
        exact tln)
      have e0 : edit ls at_.toNat [ln, ln] = ls.take at_.toNat ++ [ln] ++ ls.drop at_.toNat := by
        unfold edit
        rw [List.drop_eq_getElem_cons lt, eln]
        simp
      rw [e0] at E
      have e5 : ([ln, ln].map Str.length).sum = ln.length + ln.length := by simp
      rw [e5, eln] at E
      refine ⟨nl, q8, _, rfl, rfl, .inl (SqL.of e13), ?_, ?_⟩
      · have e3 : ((ls.take at_.toNat ++ [ln] ++ ls.drop at_.toNat).map (fun x => x.length)).sum + (ls.take at_.toNat ++ [ln] ++ ls.drop at_.toNat).length ≤ z.length + 1 + (ln.length + ln.length) + 2 := E.2.2
        rw [onen]
        omega
      · refine q _ _ E.1 ?_ (jar_ex x13' J17) (B17.trans (But.ex x13'))
        have e1 : (Txt.join nl (ls.take at_.toNat ++ [ln] ++ ls.drop at_.toNat)).length + ln.length ≤ z.length + (ln.length + ln.length) + 2 := E.2.1
        omega
    refine rd_nextU ?_
    try dsimp only
    have lnl : (nl ++ ln).length = ln.length + 1 := by
      rw [Str.length_append, onen]
      omega
    refine ⟨_, rfl, _, rfl, _, rfl, _, rfl, l2, _, _, _, rfl, rfl, SqL.of el, atl, _, _, rfl, rfl, by rw [onen]; omega, big100 (Nat.le_of_ble_eq_true rfl), fun q1 nq1 => ?_⟩
    have J18 : JarAt (upd H17 q1 (.lst ([Str.ofString "\n", Str.ofString " ", nl ++ ln, Str.ofString "\n- - -"].map V.str))) j := J17.new nq1
    have x18 : Ex H17 (upd H17 q1 (.lst ([Str.ofString "\n", Str.ofString " ", nl ++ ln, Str.ofString "\n- - -"].map V.str))) := Ex.refl.new nq1
    have e18 : (upd H17 q1 (.lst ([Str.ofString "\n", Str.ofString " ", nl ++ ln, Str.ofString "\n- - -"].map V.str))) q1 = some (.lst ([Str.ofString "\n", Str.ofString " ", nl ++ ln, Str.ofString "\n- - -"].map V.str)) := upd_same
    refine ⟨j, q1, _, rfl, J18, e18, strs_ne J18 e18, by rw [List.length_map]; exact (by decide : 0 < 4), by rw [List.length_map]; exact (by decide : 4 < 100000), fun n v H19 hv J19 b19 => ?_⟩
    obtain ⟨u, hu, rfl⟩ := List.mem_map.mp (List.mem_of_getElem? hv)
    have uk : Tk u ∧ u.length ≤ ln.length + 6 := by
      simp only [List.mem_cons, List.not_mem_nil, or_false] at hu
      rcases hu with rfl | rfl | rfl | rfl
      · exact ⟨by decide +kernel, Nat.le_trans (by decide +kernel : _ ≤ 6) (Nat.le_add_left ..)⟩
      · exact ⟨by decide +kernel, Nat.le_trans (by decide +kernel : _ ≤ 6) (Nat.le_add_left ..)⟩
      · exact ⟨tk_app (by decide +kernel) tln, by omega⟩
      · exact ⟨by decide +kernel, Nat.le_trans (by decide +kernel : _ ≤ 6) (Nat.le_add_left ..)⟩
    have ul := uk.2
    refine ⟨_, _, rfl, rfl, by omega, q _ _ (tk_app tk uk.1) ?_ J19 (B17.trans ((But.ex x18).trans b19))⟩
    rw [Str.length_append]
    omega
end
end LJ
set_option Elab.async false
set_option linter.all false
set_option maxRecDepth 100000
set_option maxHeartbeats 8000000
/-! _law_right, law of k29. -/
namespace LJ
open PySem PySem.Spec L2 PySem.ErrV PyProof.Rows
open LamX (ExtN TabB CodeO)
open NdefX (NTab TabsN)
abbrev sRgt : Stmt := top 66
abbrev sLaw : Stmt := top 67
abbrev nRgt : List Str := ["_law_jar_here", "_law_sketch", "_law_base", "_law_bond_here", "_law_turn", "_law_said", "_law_more"]
theorem WkD.butJ {C x j : Addr} {W : Wd} {H H1 : Hp} (J : JarAt H j) (b : But j H H1) (h : WkD C H x W) : WkD C H1 x W := by
  obtain ⟨am, ac, as, ap, ⟨dx, D1, D2, D3, D4, b1, b2, v4, hx, ⟨g1, g2⟩, ⟨g3, g4⟩, g5, g6, g7⟩, ⟨⟨v1, m1, m2⟩, ⟨v2, m3, m4⟩, ⟨v3, m5, m6⟩, ⟨v5, m7, m8⟩⟩⟩ := h
  have t := Tup.of J b
  obtain ⟨u, v, c, hj, _⟩ := J
  have k : ∀ {a : Addr} {o : HO}, H a = some o → (∀ xs, o ≠ .lst xs) → H1 a = some o := fun {a o} e n => b a _ (ne_of e hj fun z => n _ z) e
  refine ⟨am, ac, as, ap, ⟨dx, D1, D2, D3, D4, b1, b2, v4, k hx (fun _ z => nomatch z), ⟨k g1 (fun _ z => nomatch z), bnds t g2⟩, ⟨k g3 (fun _ z => nomatch z), bnds t g4⟩, k g5 (fun _ z => nomatch z), k g6 (fun _ z => nomatch z), L2.Paired.mapP g7 fun v q z => ?_⟩, ⟨⟨v1, t _ _ m1, rows3 t m2⟩, ⟨v2, t _ _ m3, rows3 t m4⟩, ⟨v3, t _ _ m5, rows2 t m6⟩, ⟨v5, t _ _ m7, rowsP t m8⟩⟩⟩
  obtain ⟨Dp, ys, z1, z2, z3⟩ := z
  exact ⟨Dp, ys, z1, k z2 (fun _ z => nomatch z), bnds t z3⟩
theorem BondAt.ex {H H1 : Hp} {q : Addr} {W : Wd} {m : Str} {wss : List (List Str)} (e : Ex H H1) (h : BondAt H q W m wss) : BondAt H1 q W m wss := by
  obtain ⟨F, vals, h1, h2, h3, h4⟩ := h
  exact ⟨F, vals, e _ _ h1, e _ _ h2, L2.Paired.mapP h3 (fun _ _ z => z.tup (Ex.tup e)), h4⟩
theorem BondAt.butJ {j : Addr} {H H1 : Hp} {q : Addr} {W : Wd} {m : Str} {wss : List (List Str)} (J : JarAt H j) (b : But j H H1) (h : BondAt H q W m wss) : BondAt H1 q W m wss := by
  obtain ⟨F, vals, h1, h2, h3, h4⟩ := h
  have t := Tup.of J b
  obtain ⟨u, v, c, hj, _⟩ := J
  have nq : q ≠ j := fun z => by
    rw [z, hj] at h1
    cases h1
  have nF : F ≠ j := fun z => by
    rw [z, hj] at h2
    cases h2
    cases h3 with
    | cons a t =>
      obtain ⟨r, e, _⟩ := a
      cases e
  exact ⟨F, vals, b _ _ nq h1, b _ _ nF h2, L2.Paired.mapP h3 (fun _ _ z => z.tup t), h4⟩
theorem SkAt.exN {H H1 : Hp} {p : Addr} {W : Wd} (e : ExtN H H1) (h : SkAt H p W) : SkAt H1 p W := by
  obtain ⟨a, b, c, d, va, vb, vc, vd, hp, ha, pa, hb, pb, hc, pc, hd, pd⟩ := h
  have t : Tup H H1 := fun a xs h => tup_n e h
  have k : ∀ {a : Addr} {o : HO}, H a = some o → (∀ ps, o ≠ .tbl ps) → H1 a = some o := fun {a o} h n => e a o h n
  exact ⟨a, b, c, d, va, vb, vc, vd, k hp (fun _ z => nomatch z), k ha (fun _ z => nomatch z), rows3 t pa, k hb (fun _ z => nomatch z), rows3 t pb, k hc (fun _ z => nomatch z), rows2 t pc, k hd (fun _ z => nomatch z), rowsP t pd⟩
/-- what stands at a turn -/
structure Rs (T : List NTab) (C : Addr) (H0 : Hp) (j p x : Addr) (W : Wd) (G : Hp) : Prop where
  kp : Kp j H0 G
  jar : JarAt G j
  tabs : TabsN T G
  sk : SkAt G p W
  wk : WkD C G x W
theorem Rs.ex {T : List NTab} {C : Addr} {H0 : Hp} {j p x : Addr} {W : Wd} {G G1 : Hp} (e : Ex G G1) (h : Rs T C H0 j p x W G) : Rs T C H0 j p x W G1 := ⟨h.kp.trans (Kp.of_ex e), jar_ex e h.jar, TabsN.exs h.tabs e, h.sk.ex e, h.wk.ex e⟩
theorem Rs.but {T : List NTab} {C : Addr} {H0 : Hp} {j p x : Addr} {W : Wd} {G G1 : Hp} (b : But j G G1) (J : JarAt G1 j) (h : Rs T C H0 j p x W G) : Rs T C H0 j p x W G1 := ⟨h.kp.trans (Kp.of_but b), J, tabs_but h.jar b h.tabs, h.sk.but h.jar b, h.wk.butJ h.jar b⟩
def spRight (T : List NTab) : Sp := fun vs H Q _ => ∃ j : Addr, vs = [.ref j] ∧ JarAt H j ∧ TabsN T H ∧ ∀ H1, Kp j H H1 → TabsN T H1 → Q (.bl true) H1
theorem said_tk {W : Wd} (g : GoodF W) {m : Str} {wss : List (List Str)} (mm : m ∈ W.ms.map (·.1)) (t : tabOk W wss) : Tk (said m wss) := by
  unfold said sdl
  refine tk_join (by decide +kernel) fun y hy => ?_
  rcases List.mem_cons.mp hy with rfl | hy
  · exact tk_app (by decide +kernel) (tk_name (g.nm _ (List.mem_append_left _ mm)))
  · obtain ⟨ws, hw, rfl⟩ := List.mem_map.mp hy
    exact tk_join (by decide +kernel) fun y hy => (rowTk g (t.1 ws hw) y hy).1
section
variable {P : Program} {w : World} {K : PySem.W.Frag} {mg : Str → Option Value} {base : Heap} {C : Addr} {T : List NTab}
theorem scRgt : FnScope nRgt ["_law_jar_here"] (defScope sRgt) := ⟨rfl, rfl, rfl, by decide +kernel, rfl, by decide +kernel, by decide +kernel⟩
theorem ok_rgt {f fK fB fD fO fN fX fL fW : Addr} {fd fdK fdB fdD fdO fdN fdX fdL fdW : FuncData} (F : Fun K "_law_right" "_law_right" sRgt f fd) (bRg : mg "range" = none)
    (GK : FnOk P w K mg base CX0 5 fK fdK pSk spSk) (mK : mg "_law_works" = some (.ref fK)) (kK : PySem.W.keepIn K (.ref fK) = true) (bK : Binds K fdK pSk [])
    (GB : FnOk P w K mg base CX0 9 fB fdB ["_law_sketch"] (spBr C T)) (mB : mg "_law_built" = some (.ref fB)) (kB : PySem.W.keepIn K (.ref fB) = true) (bB : Binds K fdB ["_law_sketch"] [])
    (GD : FnOk P w K mg base CX0 1 fD fdD ["_law_jar_here", "_law_top"] spDip) (mD : mg "_law_tap" = some (.ref fD)) (kD : PySem.W.keepIn K (.ref fD) = true) (bD : Binds K fdD ["_law_jar_here", "_law_top"] [])
    (GO : FnOk P w K mg base CX0 2 fO fdO ["_law_jar_here", "_law_things"] spOne) (mO : mg "_law_one" = some (.ref fO)) (kO : PySem.W.keepIn K (.ref fO) = true) (bO : Binds K fdO ["_law_jar_here", "_law_things"] [])
    (GN : FnOk P w K mg base CX0 4 fN fdN ["_law_jar_here", "_law_sketch", "_law_share"] spBo) (mN : mg "_law_bond" = some (.ref fN)) (kN : PySem.W.keepIn K (.ref fN) = true) (bN : Binds K fdN ["_law_jar_here", "_law_sketch", "_law_share"] [])
    (GX : FnOk P w K mg base CX0 1 fX fdX ["_law_bond_here"] spRt) (mX : mg "_law_rule_text" = some (.ref fX)) (kX : PySem.W.keepIn K (.ref fX) = true) (bX : Binds K fdX ["_law_bond_here"] [])
    (GL : FnG P w K mg base 10 fL fdL pLir (spLir C)) (mL : mg "_law_is_read" = some (.ref fL)) (kL : PySem.W.keepIn K (.ref fL) = true) (bL : Binds K fdL pLir [])
    (GW : FnOk P w K mg base CX0 3 fW fdW ["_law_jar_here", "_law_sketch", "_law_said"] spTw) (mW : mg "_law_twisted" = some (.ref fW)) (kW : PySem.W.keepIn K (.ref fW) = true) (bW : Binds K fdW ["_law_jar_here", "_law_sketch", "_law_said"] []) :
    FnG P w K mg base 11 f fd ["_law_jar_here"] (spRight T) := by
  refine F.okG scRgt (fun vs H Q E h => ?_) (fun cdv A outer s H vs Q hgA hr h => ?_)
  · obtain ⟨j, rfl, _⟩ := h
    rfl
  · obtain ⟨j, rfl, J, t, q⟩ := h
    have hgd : (A.deeper (PyProof.Rows.envOfC "_law_right" (defScope sRgt) s.heap.objs.size f cdv)).guards = some [] := hgA
    have hr1 : Room 1 _ := hr.mono (by decide)
    have hr2 : Room 2 _ := hr.mono (by decide)
    have hr3 : Room 3 _ := hr.mono (by decide)
    have hr4 : Room 4 _ := hr.mono (by decide)
    have hr5 : Room 5 _ := hr.mono (by decide)
    have hr9 : Room 9 _ := hr.mono (by decide)
    refine ⟨_, pss_cons (ps_set (i := 1) scRgt.nd rfl (Or.inl rfl) (pe_call GK hr5 (by rfl) mK kK bK .nil pass0 (pa_cons (pv 0) (pa_cons pe_int (pa_cons pe_int pa_nil)))))
      (pss_cons (ps_par (i := 2) (j := 3) (by rfl) scRgt.nd rfl rfl (by decide) rfl rfl (pa_cons (pe_call GB hr9 (by rfl) mB kB bB .nil pass0 (pa_cons (pv 1) pa_nil)) (pa_cons (pe_call GN hr4 (by rfl) mN kN bN .nil pass0 (pa_cons (pv 0) (pa_cons (pv 1) (pa_cons (pe_call GO hr2 (by rfl) mO kO bO .nil pass0 (pa_cons (pv 0) (pa_cons (pe_lst (pa_cons pe_int (pa_cons pe_int (pa_cons pe_int (pa_cons pe_int pa_nil))))) pa_nil))) pa_nil)))) pa_nil)) (by rfl))
      (pss_cons (ps_if (pt_not (pt_val (pe_callNG GL hgd hr (by rfl) mL kL bL (pa_cons (pv 2) (pa_cons (pv 1) (pa_cons (pe_call GX hr1 (by rfl) mX kX bX .nil pass0 (pa_cons (pv 3) pa_nil)) pa_nil)))))) (pss_one (ps_ret pe_bl)) pss_nil)
      (pss_cons (ps_for PassesOwn.never rfl (pi_range1 (by rfl) bRg (pa_cons pe_int pa_nil)) (pg_name (i := 4) scRgt.nd rfl (Or.inl rfl))
        (pss_cons (ps_set (i := 5) scRgt.nd rfl (Or.inl rfl) (pe_call GX hr1 (by rfl) mX kX bX .nil pass0 (pa_cons (pv 3) pa_nil)))
        (pss_cons (ps_for PassesOwn.never rfl (pi_range1 (by rfl) bRg (pa_cons (pe_op op_add pe_int (pe_call GD hr1 (by rfl) mD kD bD .nil pass0 (pa_cons (pv 0) (pa_cons pe_int pa_nil)))) pa_nil)) (pg_name (i := 6) scRgt.nd rfl (Or.inl rfl))
          (pss_one (ps_set (i := 5) scRgt.nd rfl (Or.inl rfl) (pe_call GW hr3 (by rfl) mW kW bW .nil pass0 (pa_cons (pv 0) (pa_cons (pv 1) (pa_cons (pv 5) pa_nil)))))))
        (pss_one (ps_if (pt_not (pt_val (pe_callNG GL hgd hr (by rfl) mL kL bL (pa_cons (pv 2) (pa_cons (pv 1) (pa_cons (pv 5) pa_nil)))))) (pss_one (ps_ret pe_bl)) pss_nil)))))
      (pss_one (ps_ret pe_bl))))), ?_⟩
    have sz := sizeLine_eq
    refine ⟨_, rfl, j, 4, 2, rfl, J, by decide, by decide, by decide, by decide, fun p W H1 sk g J1 b1 np mp => ?_⟩
    have gf := g.f
    have t1 : TabsN T H1 := tabs_but J b1 t
    refine rd_nameU ?_
    try dsimp only
    refine rd_seqU ?_
    refine ⟨_, rfl, p, W, rfl, sk, gf, t1, fun x am ac as ap H2 xn2 nx t2 wk2 dt2 => ?_⟩
    have R2 : Rs T C H j p x W H2 := ⟨(Kp.of_but b1).trans (Kp.of_ext xn2), LJ.ExtN.jar xn2 J1, t2, sk.exN xn2, ⟨am, ac, as, ap, wk2, dt2⟩⟩
    refine ⟨_, rfl, _, rfl, _, rfl, big100 (Nat.le_of_ble_eq_true rfl), fun l nl => ?_⟩
    have x3 : Ex H2 (upd H2 l (.lst [.int 0, .int 3, .int 6, .int 10])) := Ex.refl.new nl
    have R3 := R2.ex x3
    refine ⟨j, l, _, rfl, R3.jar, upd_same, R2.jar.ne nl, by exact (by decide : 0 < 4), by exact (by decide : 4 < 100000), fun n v H4 hv J4 b4 => ?_⟩
    obtain ⟨sh, rfl⟩ : ∃ sh : Int, v = .int sh := by
      have h := List.mem_of_getElem? hv
      simp only [List.mem_cons, List.not_mem_nil, or_false] at h
      rcases h with rfl | rfl | rfl | rfl <;> exact ⟨_, rfl⟩
    have R4 := R3.but b4 J4
    clear hv
    refine ⟨j, p, sh, W, rfl, J4, R4.sk, g, fun q1 m wss H5 bo J5 b5 nq1 => ⟨_, _, rfl, ?_⟩⟩
    have R5 := R4.but b5 J5
    have mm : m ∈ W.ms.map (·.1) := by
      obtain ⟨_, _, _, _, _, h, _⟩ := bo
      exact h
    have tab : tabOk W wss := by
      obtain ⟨_, _, _, _, _, _, h, _⟩ := bo
      exact h
    have stk := said_tk gf mm tab
    try dsimp only
    refine rd_seqU (rd_ifU ?_)
    refine ⟨_, rfl, _, rfl, _, rfl, q1, W, m, wss, rfl, bo, gf, fun H6 x6 l6 => ?_⟩
    have R6 := R5.ex x6
    refine ⟨x, p, said m wss, W, rfl, R6.wk, R6.sk, gf, stk, by omega, fun H7 x7 => ⟨_, rfl, ?_⟩⟩
    have R7 := R6.ex x7
    have bo7 := (bo.ex x6).ex x7
    refine ite2 (fun z => by cases z) (fun _ => ?_)
    refine rd_nextU ?_
    try dsimp only
    clear R2 R3 R4 R5 R6 bo b1 b4 b5 J1 J4 J5 x3 x6 x7 sk t1 t2 wk2 dt2 xn2
    refine rd_seqU ?_
    refine ⟨8, rfl, by decide, by decide, ?_⟩
    refine for_range (lo := 0) (n := 8) (fun i σ G => (∃ v4 v5 v6 : Option V, σ = [some (.ref j), some (.ref p), some (.ref x), some (.ref q1), v4, v5, v6]) ∧ Rs T C H j p x W G ∧ BondAt G q1 W m wss) ⟨⟨_, _, _, rfl⟩, R7, bo7⟩ ?_ ?_
    · rintro i σ G hi ⟨⟨v4, v5, v6, rfl⟩, R, bo⟩
      refine rd_nameU ?_
      try dsimp only
      refine rd_seqU (rd_asgU ?_)
      refine ⟨_, rfl, q1, W, m, wss, rfl, bo, gf, fun G1 y1 l1 => ?_⟩
      have RG1 := R.ex y1
      have bo1 := bo.ex y1
      refine rd_nameU ?_
      try dsimp only
      refine rd_seqU ?_
      refine ⟨_, rfl, j, 3, rfl, RG1.jar, by decide, by decide, fun r G2 r0 r1 J2 b2 => ⟨_, _, rfl, rfl, _, rfl, by omega, by omega, ?_⟩⟩
      have RG2 := RG1.but b2 J2
      have bo2 := bo1.butJ RG1.jar b2
      refine for_range (lo := 0) (n := (1 + r).toNat) (fun k σ G => (∃ (v4 v6 : Option V) (z : Str), σ = [some (.ref j), some (.ref p), some (.ref x), some (.ref q1), v4, some (.str z), v6] ∧ Tk z ∧ (k = 0 → z.length ≤ 1000) ∧ (k = 1 → z.length ≤ 2020) ∧ (k = 2 → z.length ≤ 4060) ∧ (k = 3 → z.length ≤ 8140)) ∧ Rs T C H j p x W G ∧ BondAt G q1 W m wss)
        ⟨⟨_, _, _, rfl, stk, fun _ => l1, fun z => (by cases z), fun z => (by cases z), fun z => (by cases z)⟩, RG2, bo2⟩ ?_ ?_
      · rintro k σ G3 hk ⟨⟨v4, v6, z, rfl, tz, z0, z1, z2, z3⟩, R3, bo3⟩
        refine rd_nameU ?_
        try dsimp only
        refine rd_asgU ?_
        have k3 : k < 3 := by omega
        have zl : z.length ≤ 4060 := by
          rcases (by omega : k = 0 ∨ k = 1 ∨ k = 2) with h | h | h
          · have := z0 h
            omega
          · have := z1 h
            omega
          · exact z2 h
        refine ⟨_, rfl, _, rfl, _, rfl, j, p, z, W, rfl, R3.jar, R3.sk, g, tz, by omega, fun y G4 ty ly J4 b4 => ?_⟩
        refine rd_nameU ?_
        exact ⟨⟨_, _, y, rfl, ty, fun h => (by omega), fun h => (by have := z0 (by omega); omega), fun h => (by have := z1 (by omega); omega), fun h => (by have := z2 (by omega); omega)⟩, R3.but b4 J4, bo3.butJ R3.jar b4⟩
      · rintro σ G3 ⟨⟨v4, v6, z, rfl, tz, z0, z1, z2, z3⟩, R3, bo3⟩
        have zl : z.length ≤ 8140 := by
          rcases (by omega : (1 + r).toNat = 0 ∨ (1 + r).toNat = 1 ∨ (1 + r).toNat = 2 ∨ (1 + r).toNat = 3) with h | h | h | h
          · have := z0 h
            omega
          · have := z1 h
            omega
          · have := z2 h
            omega
          · exact z3 h
        try dsimp only
        refine rd_ifU ?_
        refine ⟨_, rfl, _, rfl, _, rfl, x, p, z, W, rfl, R3.wk, R3.sk, gf, tz, by omega, fun G4 y4 => ⟨_, rfl, ?_⟩⟩
        refine ite2 (fun z => by cases z) (fun _ => ?_)
        exact ⟨⟨_, _, _, rfl⟩, R3.ex y4, bo3.ex y4⟩
    · rintro σ G ⟨⟨v4, v5, v6, rfl⟩, R, bo⟩
      exact q G R.kp R.tabs
end
end LJ
set_option Elab.async false
set_option linter.all false
set_option maxRecDepth 100000
set_option maxHeartbeats 8000000
namespace LJ
open PySem PySem.Spec L2 PySem.ErrV PyProof.Rows
open LamX (ExtN TabB CodeO)
open NdefX (NTab TabsN)
theorem small_line {n : Nat} (h : n ≤ 10000) : n ≤ sizeLine := by
  rw [sizeLine_eq]
  omega
abbrev nLaw : List Str := ["_law_cells", "_law_turn"]
theorem scLaw : FnScope nLaw ["_law_cells"] (defScope sLaw) := ⟨rfl, rfl, rfl, by decide +kernel, rfl, by decide +kernel, by decide +kernel⟩
theorem lstN {G G1 : Hp} (e : ExtN G G1) {a : Addr} {xs : List V} (h : G a = some (.lst xs)) : G1 a = some (.lst xs) := e _ _ h fun _ z => nomatch z
structure BltM (mg : Str → Option Value) : Prop where
  all : mg "all" = none
  range : mg "range" = none
  max : mg "max" = none
  min : mg "min" = none
  len : mg "len" = none
def spLaw (T : List NTab) (K : PySem.W.Frag) : Sp := fun vs H Q _ => ∃ (a : Addr) (ns : List Int), vs = [.ref a] ∧ SqL K H a (ns.map V.int) ∧ ns.length ≤ 63 ∧ TabsN T H ∧ ∀ H1, Q (.bl true) H1
theorem sqN {K : PySem.W.Frag} {H H1 : Hp} {a : Addr} {xs : List V} (e : ExtN H H1) (h : SqL K H a xs) : SqL K H1 a xs := by
  rcases h with (h | ⟨o, h⟩) | h
  · exact .inl (.inl (e _ _ h fun _ z => nomatch z))
  · exact .inl (.inr ⟨o, e _ _ h fun _ z => nomatch z⟩)
  · exact .inr h
/-- the reading of _law_right(_law_jar(_law_cells, _law_turn)) -/
def tR (K : PySem.W.Frag) (T : List NTab) : TE := fun σ H Q => tCons (tCall (spJar K) [] E0 (tCons (tVar 0) (tCons (tVar 1) tNil))) tNil σ H fun vs H1 => spRight T vs H1 Q E0
section
variable {P : Program} {w : World} {K : PySem.W.Frag} {mg : Str → Option Value} {base : Heap} {T : List NTab}
theorem ok_law {f fR fJ : Addr} {fd fdR fdJ : FuncData} (F : Fun K "law" "law" sLaw f fd) (B : BltM mg)
    (GR : FnG P w K mg base 11 fR fdR ["_law_jar_here"] (spRight T)) (mR : mg "_law_right" = some (.ref fR)) (kR : PySem.W.keepIn K (.ref fR) = true) (bR : Binds K fdR ["_law_jar_here"] [])
    (GJ : FnOk P w K mg base CX0 1 fJ fdJ ["_law_cells", "_law_turn"] (spJar K)) (mJ : mg "_law_jar" = some (.ref fJ)) (kJ : PySem.W.keepIn K (.ref fJ) = true) (bJ : Binds K fdJ ["_law_cells", "_law_turn"] []) :
    FnG P w K mg base 12 f fd ["_law_cells"] (spLaw T K) := by
  refine F.okG scLaw (fun vs H Q E h => ?_) (fun cdv A outer s H vs Q hgA hr h => ?_)
  · obtain ⟨a, ns, rfl, _⟩ := h
    rfl
  · obtain ⟨a, ns, rfl, hS, hn, tabs, k⟩ := h
    have hgd : (A.deeper (PyProof.Rows.envOfC "law" (defScope sLaw) s.heap.objs.size f cdv)).guards = some [] := hgA
    have hr1 : Room 1 _ := hr.mono (by decide)
    refine ⟨_, pss_one (ps_ret (pe_callB (cr_all rfl) (by rfl) B.all (by decide +kernel) (pa_cons (pe_lc (own := [("_law_turn", 1)]) (g := gName 1) (te := tR K T) (by rfl) scLaw.nd (pi_range1 (by rfl) B.range (pa_cons (pe_callB (call_max2 rfl) (by rfl) B.max (by decide +kernel) (pa_cons pe_int (pa_cons (pe_callB (call_min2 rfl) (by rfl) B.min (by decide +kernel) (pa_cons (pe_callB call_len_seq (by rfl) B.len PySem.boot_len (pa_cons (pv 0) pa_nil)) (pa_cons pe_int pa_nil))) pa_nil))) pa_nil)) (blkOk_by (own := [("_law_turn", 1)]) (N := nLaw) (sc := defScope sLaw) (by decide +kernel)) (fun _ _ _ _ _ => pg_name (i := 1) scLaw.nd rfl (Or.inl rfl)) (fun _ _ _ _ _ => pts_nil) (fun _ _ _ _ _ => pe_callNG GR hgd hr (by rfl) mR kR bR (pa_cons (pe_call GJ hr1 (by rfl) mJ kJ bJ .nil pass0 (pa_cons (pv 0) (pa_cons (pv 1) pa_nil))) pa_nil))) pa_nil))), ?_⟩
    have six : (if (if (6 : Int) < ((ns.map V.int).length : Int) then (6 : Int) else ((ns.map V.int).length : Int)) > 2 then (if (6 : Int) < ((ns.map V.int).length : Int) then (6 : Int) else ((ns.map V.int).length : Int)) else 2) ≤ 6 := by
      split <;> split <;> omega
    have two : (2 : Int) ≤ (if (if (6 : Int) < ((ns.map V.int).length : Int) then (6 : Int) else ((ns.map V.int).length : Int)) > 2 then (if (6 : Int) < ((ns.map V.int).length : Int) then (6 : Int) else ((ns.map V.int).length : Int)) else 2) := by
      split <;> omega
    refine ⟨_, rfl, a, _, rfl, .inl hS, _, _, rfl, _, _, rfl, _, rfl, ?_⟩
    generalize (if (if (6 : Int) < ((ns.map V.int).length : Int) then (6 : Int) else ((ns.map V.int).length : Int)) > 2 then (if (6 : Int) < ((ns.map V.int).length : Int) then (6 : Int) else ((ns.map V.int).length : Int)) else 2) = n6 at six two ⊢
    refine ⟨by omega, by omega, fun D hD => lc_range (lo := 0) (n := n6.toNat) (fun n H2 => ExtN H H2 ∧ TabsN T H2 ∧ H2 D = some (.lst ((List.replicate n true).map V.bl))) ⟨(Ex.refl.new hD).n, TabsN.exs tabs (Ex.refl.new hD), upd_same⟩ ?_ ?_⟩
    · rintro n H2 hi ⟨h2, t2, hD2⟩
      refine ⟨rfl, ?_⟩
      refine ⟨_, rfl, _, rfl, a, ns, 0 + (n : Int), rfl, sqN h2 hS, hn, by omega, by omega, fun j H8 nj s8 J8 => ?_⟩
      have t8 : TabsN T H8 := TabsN.exs t2 s8
      refine ⟨j, rfl, J8, t8, fun H9 b9 t9 => ?_⟩
      have far : ∀ {b : Addr} {o : HO}, H2 b = some o → b ≠ j := fun {b o} e z => by
        rw [z, nj] at e
        cases e
      have s9 : ExtN H2 H9 := fun b o e nt => b9 b o (far e) (s8 b o e) nt
      have hD9 := lstN s9 hD2
      refine ⟨_, hD9, small_line (by rw [List.length_map, List.length_replicate]; omega), fun b o e nt => ?_, fun r hr => ?_, ?_⟩
      · have nb : b ≠ D := fun z => by
          rw [z, hD] at e
          cases e
        rw [upd_ne nb]
        exact s9 b o (h2 b o e nt) nt
      · obtain ⟨ps, h1, h2, h3⟩ := t9 r hr
        refine ⟨ps, by rw [upd_ne (ne_of h1 hD9 fun z => nomatch z)]; exact h1, h2, fun pos v hv => ?_⟩
        obtain ⟨c, e1, e2⟩ := h3 pos v hv
        exact ⟨c, e1, by rw [upd_ne (ne_of e2 hD9 fun z => nomatch (show HO.ext _ = HO.lst _ from z))]; exact e2⟩
      · rw [List.replicate_succ', List.map_append]
        exact upd_same
    · rintro H2 ⟨h2, t2, hD2⟩
      refine ⟨D, _, rfl, SqL.of hD2, ?_⟩
      have e : (List.replicate n6.toNat true).all id = true := by simp
      rw [e]
      exact k H2
end
end LJ
set_option Elab.async false
set_option linter.all false
set_option maxRecDepth 100000
set_option maxHeartbeats 4000000
/-! The end of a row whose law asks for repr and makes lambdas: no guard stands, tables of code are empty at first. -/
namespace L2
open PySem PySem.Spec PyProof.Rows
/-- what is tracked when the law is called: the tables, and the script where it is not written -/
def Begun (cs : List (Addr × Addr)) (a : Addr) (H : Hp) : Prop := ∀ b, H b = none ∨ b ∈ cs.map (·.2) ∧ H b = some (.tbl #[]) ∨ b = a ∧ ∃ o xs, H b = some (.frz o (.lst xs))
section
variable {P : Program} {w : World} {K : PySem.W.Frag} {mg mb : Str → Option Value} {k : Nat} {fa a : Addr} {fd : FuncData} {x : Str} {sp : Sp} {s1 : Shared} {vs : List Value} {ns : List Int} {cs : List (Addr × Addr)}
/-- the tables of some code objects, all empty -/
structure Empty (K : PySem.W.Frag) (h : Heap) (cs : List (Addr × Addr)) : Prop where
  at_ : ∀ q ∈ cs, h.get? q.2 = some (PySem.W.tabObj #[])
  out : ∀ q ∈ cs, K.lookup q.2 = none
  head : ∀ q ∈ cs, PySem.W.CodeHd h q.1 q.2
theorem Empty.of {h : Heap} (E : Empty K h cs) {b : Addr} (m : b ∈ cs.map (·.2)) : h.get? b = some (PySem.W.tabObj #[]) := by
  obtain ⟨q, hq, rfl⟩ := List.mem_map.mp m
  exact E.at_ q hq
theorem Empty.no {h : Heap} (E : Empty K h cs) {b : Addr} (m : b ∈ cs.map (·.2)) : K.lookup b = none := by
  obtain ⟨q, hq, rfl⟩ := List.mem_map.mp m
  exact E.out q hq
theorem law_gt_at (KX : K.In s1.heap) (hns : s1.heap.Ns mainGlobals mg) (hb : s1.heap.Ns builtinsNs mb) (hbb : ∀ y : Str, y ≠ "__name__" → mb y = bootBuiltins y) (hlim : s1.heap.NoLimit) (hgn : s1.gens = #[]) (E : Empty K s1.heap cs)
    (bi : ∃ (m : Addr) (o : Obj), mg "__builtins__" = some (.ref m) ∧ m ≠ builtinsNs ∧ s1.heap.get? m = some o ∧ o.cls = .type "module" ∧ o.dict = some builtinsNs ∧ o.data = .plain)
    (ha : s1.heap.get? a = some { cls := .type "list", data := .seq vs.toArray }) (hr : Room k callerA)
    (F : ∀ base : Heap, K.In base → base.Ns mainGlobals mg → (∀ q ∈ cs, LamX.TabB base mg q.1 q.2) → FnG P w K mg base k fa fd [x] sp) (hbind : ∀ (s : Shared) (u : Value), BindsTo s fd ⟨[u], []⟩ [(x, u)])
    (H : Hp) (tb : ∀ q ∈ cs, H q.2 = some (.tbl #[])) (only : Begun cs a H) (hsp : sp [.ref a] H (fun v _ => v = .bl true) E0) (hok : HOk P w H s1.heap) (hK : H a ≠ none → K.lookup a = none) :
    codeAny (model P w) callerA (.call (.ref fa) ⟨[.ref a], []⟩) (fun r s2 => r = .ok (.ret (.bool true)) ∧ OldK s1.heap s2.heap ∧ s2.os = s1.os ∧ AllBare s2.gens) s1 := by
  have untracked : ∀ {b : Addr} {o : Obj}, s1.heap.get? b = some o → (∀ us n, o.data ≠ .seq us n) → (∀ us, o.data = .fields us → us ≠ #[]) → H b = none := fun {b o} e n1 n2 => by
    rcases only b with z | ⟨m, _⟩ | ⟨rfl, _⟩
    · exact z
    · rw [E.of m] at e
      cases e
      exact absurd rfl (n2 _ rfl)
    · rw [ha] at e
      cases e
      exact absurd rfl (n1 _ _)
  have ground : ∀ {b : Addr} {o : Obj}, s1.heap.get? b = some o → H b = none → (hidT s1.heap H).get? b = some o := fun e n => hidT_get e n
  have names : ∀ {b : Addr} {m : Str → Option Value}, s1.heap.Ns b m → (hidT s1.heap H).Ns b m := fun {b m} ⟨o, es, ep, e, d, r⟩ =>
    ⟨o, es, ep, ground e (untracked e (fun us n z => nomatch d.symm.trans z) fun us z => nomatch d.symm.trans z), d, r⟩
  have KB : K.In (hidT s1.heap H) := fun b o e => ground (KX b o e) (by
    rcases only b with z | ⟨m, _⟩ | ⟨rfl, o2, xs, z⟩
    · exact z
    · rw [E.no m] at e
      cases e
    · rw [hK (by rw [z]; exact Option.some_ne_none _)] at e
      cases e)
  have md : Mod K mg (hidT s1.heap H) := ⟨KB, names hns, ⟨mb, names hb, hbb⟩, let ⟨mc, h1, h2⟩ := hlim; ⟨mc, names h1, h2⟩⟩
  have TB : ∀ q ∈ cs, LamX.TabB (hidT s1.heap H) mg q.1 q.2 := fun q hq => by
    constructor
    · obtain ⟨o, us, file, tf, flags, tg, inF, text, tt, e1, r1, r2, r3, rest⟩ := E.head q hq
      refine ⟨o, us, file, tf, flags, tg, inF, text, tt, ground e1 (untracked e1 (fun vs n z => nomatch r2.symm.trans z) fun vs z e => ?_), r1, r2, r3, rest⟩
      have es : us = vs := Data.fields.inj (r2.symm.trans z)
      rw [es, e] at r3
      cases r3
    · obtain ⟨m, o, b1, b2, b3, b4, b5, b6⟩ := bi
      refine ⟨m, o, b1, b2, fun z => ?_, fun z => ?_, ground b3 (untracked b3 (fun vs n z => nomatch b6.symm.trans z) fun vs z => nomatch b6.symm.trans z), b4, b5, b6⟩
      · obtain ⟨og, es, ep, e, d, _⟩ := hns
        rw [z, e] at b3
        cases b3
        exact nomatch d.symm.trans b6
      · rw [z, E.at_ q hq] at b3
        cases b3
        cases b6
    · intro z
      obtain ⟨og, es, ep, e, d, _⟩ := hns
      rw [z, E.at_ q hq] at e
      cases e
      cases d
  have start0 : Env0 P w K mg (hidT s1.heap H) callerA [] s1 H :=
    ⟨rfl, md, fun b o e => of_hidT e, Nat.le_of_eq (hidT_size _ _), trivial, fun b hb => absurd (show b ∈ ([] : List Addr) from hb) (by simp), hok, .of_eq hgn⟩
  refine codeAny_mono ((F _ KB (names hns) TB).run callerA [] s1 H ⟨[.ref a], []⟩ [.ref a] [.ref a] _ rfl hr start0 (hbind s1 (.ref a)) (.cons rfl .nil) hsp) fun r s2 h => ?_
  cases r with
  | error e => exact False.elim h
  | ok fl =>
    cases fl with
    | next => exact False.elim h
    | brk => exact False.elim h
    | cont => exact False.elim h
    | ret u =>
      obtain ⟨v, H2, os, bare, un, ok2, rv, q⟩ := h
      obtain rfl : v = .bl true := q
      obtain rfl : u = Value.bool true := rv
      have nox : ∀ b : Addr, b ∉ ([] : List Addr) := fun b => by simp
      have same : ∀ b o, b ∉ cs.map (·.2) → s1.heap.get? b = some o → s2.heap.get? b = some o := fun b o m e => by
        rcases only b with z | ⟨m2, _⟩ | ⟨_, ob, xs, z⟩
        · exact un.keep b o e z (nox b) (nox b)
        · exact absurd m2 m
        · obtain ⟨e1, _⟩ := hok b _ z
          obtain ⟨e2, _⟩ := ok2 b _ (un.frzs b ob _ z)
          rw [e] at e1
          cases e1
          exact e2
      have more : ∀ q ∈ cs, ∃ us : Array Value, s2.heap.get? q.2 = some { cls := .none, data := .fields us } := fun q hq => by
        obtain ⟨us, z⟩ := un.tbls q.2 #[] (tb q hq)
        exact ⟨_, ok2 q.2 _ z⟩
      refine ⟨rfl, { old := fun b o e => ?_, there := fun b o e => ?_ }, os, bare⟩
      · by_cases m : b ∈ cs.map (·.2)
        · obtain ⟨q, hq, rfl⟩ := List.mem_map.mp m
          obtain ⟨us, hu⟩ := more q hq
          rw [E.at_ q hq] at e
          cases e
          exact .inr (.inl ⟨((E.head q hq).tab (E.at_ q hq)).isCodeTable, rfl, #[], us, rfl, by rw [Array.empty_append]; exact hu⟩)
        · exact .inl (same b o m e)
      · by_cases m : b ∈ cs.map (·.2)
        · obtain ⟨q, hq, rfl⟩ := List.mem_map.mp m
          obtain ⟨us, hu⟩ := more q hq
          exact ⟨_, hu⟩
        · exact ⟨o, same b o m e⟩
theorem law_gt (KX : K.In s1.heap) (hns : s1.heap.Ns mainGlobals mg) (hb : s1.heap.Ns builtinsNs mb) (hbb : ∀ y : Str, y ≠ "__name__" → mb y = bootBuiltins y) (hlim : s1.heap.NoLimit) (hgn : s1.gens = #[]) (E : Empty K s1.heap cs)
    (bi : ∃ (m : Addr) (o : Obj), mg "__builtins__" = some (.ref m) ∧ m ≠ builtinsNs ∧ s1.heap.get? m = some o ∧ o.cls = .type "module" ∧ o.dict = some builtinsNs ∧ o.data = .plain)
    (ha : s1.heap.get? a = some { cls := .type "list", data := .seq vs.toArray }) (hi : IntsAre vs ns) (hl : ns.length ≤ sizeLine) (hr : Room k callerA)
    (F : ∀ base : Heap, K.In base → base.Ns mainGlobals mg → (∀ q ∈ cs, LamX.TabB base mg q.1 q.2) → FnG P w K mg base k fa fd [x] sp) (hbind : ∀ (s : Shared) (u : Value), BindsTo s fd ⟨[u], []⟩ [(x, u)])
    (hsp : ∀ H : Hp, (∀ q ∈ cs, H q.2 = some (.tbl #[])) → SqL K H a (ns.map V.int) → sp [.ref a] H (fun v _ => v = .bl true) E0) :
    codeAny (model P w) callerA (.call (.ref fa) ⟨[.ref a], []⟩) (fun r s2 => r = .ok (.ret (.bool true)) ∧ OldK s1.heap s2.heap ∧ s2.os = s1.os ∧ AllBare s2.gens) s1 := by
  have rv := vals_ints hi
  have lenV := hi.length
  have far : a ∉ cs.map (·.2) := fun m => by
    have z := E.of m
    rw [ha] at z
    cases z
  cases hk : K.lookup a with
  | some o =>
    have e := KX a o hk
    rw [ha] at e
    cases e
    let H : Hp := fun b => if b ∈ cs.map (·.2) then some (.tbl #[]) else none
    have yes : ∀ {b : Addr}, b ∈ cs.map (·.2) → H b = some (.tbl #[]) := fun m => if_pos m
    have no : ∀ {b : Addr}, b ∉ cs.map (·.2) → H b = none := fun m => if_neg m
    have tb : ∀ q ∈ cs, H q.2 = some (.tbl #[]) := fun q hq => yes (List.mem_map.mpr ⟨q, hq, rfl⟩)
    refine law_gt_at KX hns hb hbb hlim hgn E bi ha hr F hbind H tb (fun b => ?_) (hsp H tb (.inr ⟨_, vs.toArray, _, hk, rfl, rfl, rfl, by rw [List.size_toArray, lenV]; exact hl, by simpa using rv⟩)) (fun b u z => ?_) fun z => absurd (no far) z
    · by_cases m : b ∈ cs.map (·.2)
      · exact .inr (.inl ⟨m, yes m⟩)
      · exact .inl (no m)
    · by_cases m : b ∈ cs.map (·.2)
      · rw [yes m] at z
        cases z
        exact E.of m
      · rw [no m] at z
        cases z
  | none =>
    let o1 : Obj := { cls := .type "list", data := .seq vs.toArray }
    let H : Hp := fun b => if b = a then some (.frz o1 (.lst (ns.map V.int))) else if b ∈ cs.map (·.2) then some (.tbl #[]) else none
    have hA : H a = some (.frz o1 (.lst (ns.map V.int))) := if_pos rfl
    have yes : ∀ {b : Addr}, b ∈ cs.map (·.2) → H b = some (.tbl #[]) := fun {b} m => (if_neg (show ¬ b = a from fun z => far (by rw [← z]; exact m))).trans (if_pos m)
    have no : ∀ {b : Addr}, b ≠ a → b ∉ cs.map (·.2) → H b = none := fun n m => (if_neg n).trans (if_neg m)
    have tb : ∀ q ∈ cs, H q.2 = some (.tbl #[]) := fun q hq => yes (List.mem_map.mpr ⟨q, hq, rfl⟩)
    refine law_gt_at KX hns hb hbb hlim hgn E bi ha hr F hbind H tb (fun b => ?_) (hsp H tb (.inl (.inr ⟨_, hA⟩))) (fun b u z => ?_) fun _ => hk
    · by_cases n : b = a
      · exact .inr (.inr ⟨n, o1, _, n ▸ hA⟩)
      · by_cases m : b ∈ cs.map (·.2)
        · exact .inr (.inl ⟨m, yes m⟩)
        · exact .inl (no n m)
    · by_cases n : b = a
      · subst n
        rw [hA] at z
        cases z
        exact ⟨ha, by rw [List.length_map]; exact hl, vs, _, rv, ha⟩
      · by_cases m : b ∈ cs.map (·.2)
        · rw [yes m] at z
          cases z
          exact E.of m
        · rw [no n m] at z
          cases z
end
/-- what the end has to show of the law at the head's heap -/
def EndsAt (l : PySem.W.OpenLaw) (w : World) (K : PySem.W.Frag) (k n : Nat) (x : Str) (mg : Str → Option Value) (fa : Addr) (h : Heap) : Prop := ∃ (fd : FuncData) (cs : List (Addr × Addr)) (sp : Sp), Empty K h cs ∧ (∀ (s : Shared) (u : Value), BindsTo s fd ⟨[u], []⟩ [(x, u)]) ∧
  (∀ (H : Hp) (a : Addr) (ns : List Int), ns.length ≤ n → (∀ q ∈ cs, H q.2 = some (.tbl #[])) → SqL K H a (ns.map V.int) → sp [.ref a] H (fun v _ => v = .bl true) E0) ∧
  ∀ base : Heap, K.In base → base.Ns mainGlobals mg → (∀ q ∈ cs, LamX.TabB base mg q.1 q.2) → FnG l.prog w K mg base k fa fd [x] sp
theorem walk_gt {l : PySem.W.OpenLaw} {n k : Nat} {q : Program} {loose : List Str} {XP : (Str → Option Value) → Heap → Prop} {YP : World → Heap → Prop} {d : DefRec} {x : Str} (hn : l.most = some n) (hn2 : n ≤ sizeLine) (hdf : d.params.defaults = []) (hr : Room k callerA)
    (F : ∀ (w : World) (mg : Str → Option Value) (fa : Addr) (h : Heap), YP w h → h.Ns mainGlobals mg → mg d.name = some (.ref fa) → ∃ K : PySem.W.Frag, K.In h ∧ EndsAt l w K k n x mg fa h) :
    PySem.W.WalkO q loose XP YP l.row.toRowW d [] (fun f vs => PySem.call f vs) := by
  refine Att.attach_callB hn hdf fun w s0 s1 mg mb fa o pm cd doc a vs ns G Y ho hd hcd hmg hobj hints hlen hbits hgn => ?_
  obtain ⟨K, KX, fd, cs, sp, E, hb, hsp, hF⟩ := F w mg fa _ Y G.T.g hmg
  exact law_gt KX G.T.g G.T.b G.T.builtins G.T.nolimit hgn E G.T.bmain hobj hints (Nat.le_trans hlen hn2) hr hF hb fun H hH hS => hsp H a ns hlen hH hS
end L2
set_option Elab.async false
set_option linter.all false
set_option maxRecDepth 100000
set_option maxHeartbeats 4000000
namespace LJ
open PySem PySem.Spec L2 PySem.ErrV
open LamX (ExtN TabB)
open NdefX (NTab TabsN)
abbrev veT : List Value := [.type "ValueError", .type "Exception", .type "BaseException", .type "object"]
theorem bo_ve : BaseOk "ValueError" "ValueError.__new__" "ValueError.__init__" veT := ⟨PySem.F.excBase_ValueError, PySem.F.store_ValueError⟩
/-! ### what is asked of the written part, by one look -/
def clsLook (K : PySem.W.Frag) (C : Addr) (B : List Value) (nw : String) : Bool := match K.lookup C with
  | some ⟨.type "type", _, .cls cd, sl⟩ => (match cd.mro, sl.toList with
    | .ref D :: bm, [_, _, _, _, some (.builtin n), _] => D == C && n == nw && !cd.hasDel && cd.hasDict && rowOver B bm
    | _, _ => false)
  | _ => false
theorem clsLook_of {K : PySem.W.Frag} {C : Addr} {B : List Value} {nw : String} (h : clsLook K C B nw = true) : ∃ nm q N bs bm sn sub ab col dd k0 k1 k2 k3 k5,
    K.lookup C = some (excClassObj nm q C N bs bm true sn sub ab col dd k0 k1 k2 k3 k5 nw) ∧ rowOver B bm = true := by
  unfold clsLook at h
  split at h
  · rename_i dd cd sl ho
    split at h
    · rename_i D bm k0 k1 k2 k3 n k5 hm hs
      simp only [Bool.and_eq_true, beq_iff_eq, Bool.not_eq_true'] at h
      obtain ⟨⟨⟨⟨e1, e2⟩, e3⟩, e4⟩, e5⟩ := h
      obtain ⟨nm, bs, mro, ns, qn, hd, sn, sub, ab, col, del⟩ := cd
      dsimp only at hm e3 e4
      subst hm e1 e2 e3 e4
      have hl : sl = #[k0, k1, k2, k3, some (.builtin n), k5] := by
        obtain ⟨l⟩ := sl
        simp only at hs
        rw [hs]
      subst hl
      exact ⟨nm, qn, ns, bs, bm, sn, sub, ab, col, dd, k0, k1, k2, k3, k5, ho, e5⟩
    · cases h
  · cases h
def errLook (K : PySem.W.Frag) (C fI : Addr) (f : Str) (B : List Value) (nw : String) : Bool :=
  clsLook K C B nw && decide (PySem.W.findIn K (.ref C) "__setattr__" = some (some (.builtin "object.__setattr__"))) && decide (PySem.W.findIn K (.ref C) f = some none) &&
  decide (PySem.W.findIn K (.ref C) "__init__" = some (some (.ref fI))) && decide (PySem.W.typeIn K (.ref fI) = some (.type "function")) && PySem.W.keepIn K (.ref C)
theorem errLook_of {K : PySem.W.Frag} {mg : Str → Option Value} {x f : Str} {C fI : Addr} {B : List Value} {nw : String} (h : errLook K C fI f B nw = true) (g : mg x = some (.ref C))
    (fn : ∃ (qual : Str) (oc : Value) (od : Option Addr) (doc pm : Value) (an : Option Addr) (cdv ct : Value) (osl : Array (Option Value)) (p1 p2 q1 q2 q3 q4 : Pos),
      K.lookup fI = some ⟨oc, od, .func (PySem.W.fnOf "__init__" qual (eA f p1 p2) (eB f q1 q2 q3 q4) (eS f) .none .none doc pm an cdv ct), osl⟩ ∧ PySem.W.codeIn K cdv qual = true) : ErrC K mg x f C fI nw B := by
  unfold errLook at h
  simp only [Bool.and_eq_true, decide_eq_true_eq] at h
  obtain ⟨⟨⟨⟨⟨h1, h2⟩, h3⟩, h4⟩, h5⟩, h6⟩ := h
  exact ⟨g, clsLook_of h1, h2, h3, h4, h5, h6, fn⟩
def intLook (K : PySem.W.Frag) (x : Str) (n : Int) : Bool := match PySem.W.nsIn K mainGlobals x with
  | some (some (.int m _)) => m == n
  | _ => false
theorem intLook_of {K : PySem.W.Frag} {x : Str} {n : Int} {h0 : Heap} {mg : Str → Option Value} (X : K.In h0) (G : h0.Ns mainGlobals mg) (h : intLook K x n = true) : ∃ u, mg x = some u ∧ RelV (.int n) u := by
  unfold intLook at h
  split at h
  · rename_i m t e
    obtain rfl := beq_iff_eq.mp h
    exact ⟨_, PySem.W.mg_of X G e, ⟨t, rfl⟩⟩
  · cases h
def outer : List Str := ["divmod", "int", "len", "abs", "isinstance", "bool", "str", "tuple", "all", "enumerate", "range", "sum", "zip", "repr", "max", "min"]
def outLook (K : PySem.W.Frag) : Bool := outer.all fun x => decide (PySem.W.nsIn K mainGlobals x = some none)
theorem outLook_of {K : PySem.W.Frag} {h0 : Heap} {mg : Str → Option Value} (X : K.In h0) (G : h0.Ns mainGlobals mg) (h : outLook K = true) (x : Str) (hx : x ∈ outer) : mg x = none :=
  PySem.W.mg_none_of X G (of_decide_eq_true (List.all_eq_true.mp h x hx))
def cLook (K : PySem.W.Frag) : Bool := intLook K "_MOST_LETTERS" 8 && intLook K "MOST_MACHINES" 6 && intLook K "MOST_CLEANINGS" 6 && intLook K "MOST_STUFFS" 3 && intLook K "MOST_PRODUCTS" 8 && intLook K "MOST_SHARE" 1000 && intLook K "MOST_AMOUNT" 1000000000000
def fields : List Str := ["_machines", "_cleanings", "_stuffs", "_products", "_holds", "_keeps", "_limits", "_contents", "_text"]
/-- the class Works -/
def wLook (K : PySem.W.Frag) (C fI : Addr) : Bool := PySem.W.plainGet K C Str.empty && PySem.W.hasDictIn K C && PySem.W.plainOver K C && decide (PySem.W.findIn K (.ref C) "__setattr__" = some (some (.builtin "object.__setattr__"))) &&
  (fields.all fun f => decide (PySem.W.findIn K (.ref C) f = some none)) && PySem.W.makesIn K C && PySem.W.isFn K (.ref fI) && PySem.W.keepIn K (.ref C)
def fieldsP : List Str := ["_works", "_machine", "_table", "_let", "_text"]
/-- the class Rule -/
def pcLook (K : PySem.W.Frag) (C fI : Addr) : Bool := PySem.W.plainGet K C Str.empty && PySem.W.hasDictIn K C && PySem.W.plainOver K C && decide (PySem.W.findIn K (.ref C) "__setattr__" = some (some (.builtin "object.__setattr__"))) &&
  (fieldsP.all fun f => decide (PySem.W.findIn K (.ref C) f = some none)) && PySem.W.makesIn K C && PySem.W.isFn K (.ref fI) && PySem.W.keepIn K (.ref C)
def mLook (K : PySem.W.Frag) (C : Addr) (ms : List (Str × Addr)) : Bool := ms.all fun q => decide (PySem.W.findIn K (.ref C) q.1 = some (some (.ref q.2))) && PySem.W.isFn K (.ref q.2) && PySem.W.keepIn K (.ref q.2)
theorem mLook_of {K : PySem.W.Frag} {C : Addr} {ms : List (Str × Addr)} (h : mLook K C ms = true) (n : Str) (g : Addr) (m : (n, g) ∈ ms) : Meth K C n g := by
  have z := List.all_eq_true.mp h _ m
  simp only [Bool.and_eq_true, decide_eq_true_eq] at z
  exact ⟨z.1.1, z.1.2, z.2⟩
/-- properties -/
def pLook (K : PySem.W.Frag) (ps : List Addr) : Bool := ps.all fun p => decide (PySem.W.specialIn K (.ref p) "__get__" = some (some (.builtin "property.__get__"))) && decide (PySem.W.takesIn K (.ref p) = some true)
theorem pLook_of {K : PySem.W.Frag} {C : Addr} {ps : List Addr} (h : pLook K ps = true) {n : Str} {p g : Addr} {rest : List Value} (m : p ∈ ps) (a : PySem.W.findIn K (.ref C) n = some (some (.ref p))) (r : PySem.W.recIn K p "property" = some (.ref g :: rest)) : PropOf K C n p g := by
  have z := List.all_eq_true.mp h _ m
  simp only [Bool.and_eq_true, decide_eq_true_eq] at z
  exact ⟨a, z.1, z.2, rest, r⟩
/-- what isinstance, ==, !=, truth ask of Works -/
def iLook (K : PySem.W.Frag) (C : Addr) : Bool := decide (PySem.W.findIn K (.ref C) "__class__" = some (some (.builtin "object.__class__"))) && decide (PySem.W.specialIn K (.builtin "object.__class__") "__get__" = some (some (.builtin "getset_descriptor.__get__"))) && decide (PySem.W.takesIn K (.builtin "object.__class__") = some true) &&
  decide (PySem.W.mroIn K C (.type "object") = some true) && decide (PySem.W.kitOne K (.ref C) (.ref C) = some true) && decide (PySem.W.kitOne K (.type "str") (.ref C) = some false) &&
  decide (PySem.W.findIn K (.ref C) "__ne__" = some (some (.builtin "object.__ne__"))) && decide (PySem.W.subIn K (.ref C) (.type "object") = some true) && decide (PySem.W.subIn K (.type "str") (.ref C) = some false)
/-- a static method of Works, by the class -/
def sLook (K : PySem.W.Frag) (C : Addr) : Bool := PySem.W.readsIn K C (.type "type") && decide (PySem.W.specialIn K (.ref C) "__getattribute__" = some (some (.builtin "type.__getattribute__"))) && decide (PySem.W.typeIn K (.ref C) = some (.type "type"))
abbrev leT : List Value := [.type "LookupError", .type "Exception", .type "BaseException", .type "object"]
theorem bo_le : BaseOk "LookupError" "LookupError.__new__" "LookupError.__init__" leT := ⟨PySem.F.excBase_LookupError, PySem.F.store_LookupError⟩
/-- an error with one field -/
def eLook (K : PySem.W.Frag) (C fI : Addr) (f : Str) (B : List Value) (nw : String) : Bool := errLook K C fI f B nw && decide (PySem.W.findIn K (.ref C) "__getattribute__" = some (some (.builtin "BaseException.__getattribute__"))) && decide (PySem.W.findIn K (.ref C) "__getattr__" = some none) &&
  decide (PySem.W.subIn K (.ref C) (.type "BaseException") = some true) && PySem.W.hasDictIn K C && decide (PySem.W.typeIn K (.ref C) = some (.type "type"))
theorem eLook_of {K : PySem.W.Frag} {mg : Str → Option Value} {x f : Str} {C fI : Addr} (h : eLook K C fI f veT "ValueError.__new__" = true) (g : mg x = some (.ref C))
    (fn : ∃ (qual : Str) (oc : Value) (od : Option Addr) (doc pm : Value) (an : Option Addr) (cdv ct : Value) (osl : Array (Option Value)) (p1 p2 q1 q2 q3 q4 : Pos),
      K.lookup fI = some ⟨oc, od, .func (PySem.W.fnOf "__init__" qual (eA f p1 p2) (eB f q1 q2 q3 q4) (eS f) .none .none doc pm an cdv ct), osl⟩ ∧ PySem.W.codeIn K cdv qual = true) : Er1 K mg x f C := by
  unfold eLook at h
  simp only [Bool.and_eq_true, decide_eq_true_eq] at h
  obtain ⟨⟨⟨⟨⟨u1, u2⟩, u3⟩, u4⟩, u5⟩, u6⟩ := h
  exact ⟨⟨fI, veT, errLook_of u1 g fn, bo_ve⟩, u4, u6, ⟨u2, u3, u4, u5⟩⟩
theorem uLook_of {K : PySem.W.Frag} {mg : Str → Option Value} {C fI : Addr} (h : (eLook K C fI "given" leT "LookupError.__new__" && decide (PySem.W.exmOne K (.ref C) (.ref C) = some true)) = true) (g : mg "UnknownName" = some (.ref C))
    (fn : ∃ (qual : Str) (oc : Value) (od : Option Addr) (doc pm : Value) (an : Option Addr) (cdv ct : Value) (osl : Array (Option Value)) (p1 p2 q1 q2 q3 q4 : Pos),
      K.lookup fI = some ⟨oc, od, .func (PySem.W.fnOf "__init__" qual (eA "given" p1 p2) (eB "given" q1 q2 q3 q4) (eS "given") .none .none doc pm an cdv ct), osl⟩ ∧ PySem.W.codeIn K cdv qual = true) : Unk K mg C fI := by
  unfold eLook at h
  simp only [Bool.and_eq_true, decide_eq_true_eq] at h
  obtain ⟨⟨⟨⟨⟨⟨u1, u2⟩, u3⟩, u4⟩, u5⟩, u6⟩, u7⟩ := h
  exact ⟨⟨leT, errLook_of u1 g fn, bo_le⟩, u4, u6, ⟨u2, u3, u4, u5⟩, u7⟩
/-- which clause fits which error -/
def fLook (K : PySem.W.Frag) (CU CB CT : Addr) : Bool := decide (PySem.W.exmAny K (.ref CU) [.ref CU, .ref CB] = some true) && decide (PySem.W.exmAny K (.ref CB) [.ref CU, .ref CB] = some true) && decide (PySem.W.exmOne K (.ref CT) (.ref CT) = some true)
/-- what isinstance asks of Rule -/
def riLook (K : PySem.W.Frag) (C : Addr) : Bool := decide (PySem.W.findIn K (.ref C) "__class__" = some (some (.builtin "object.__class__"))) && decide (PySem.W.specialIn K (.builtin "object.__class__") "__get__" = some (some (.builtin "getset_descriptor.__get__"))) && decide (PySem.W.takesIn K (.builtin "object.__class__") = some true) &&
  decide (PySem.W.mroIn K C (.type "object") = some true) && decide (PySem.W.kitOne K (.ref C) (.ref C) = some true)
def strLook (K : PySem.W.Frag) (x z : Str) : Bool := match PySem.W.nsIn K mainGlobals x with
  | some (some (.str m _)) => m == z
  | _ => false
theorem strLook_of {K : PySem.W.Frag} {x z : Str} {h0 : Heap} {mg : Str → Option Value} (X : K.In h0) (G : h0.Ns mainGlobals mg) (h : strLook K x z = true) : ∃ u, mg x = some u ∧ RelV (.str z) u := by
  unfold strLook at h
  split at h
  · rename_i m t e
    obtain rfl := beq_iff_eq.mp h
    exact ⟨_, PySem.W.mg_of X G e, ⟨t, rfl⟩⟩
  · cases h
/-- tables of code -/
def tLook (K : PySem.W.Frag) (cs : List (Addr × Addr)) : Bool := cs.all fun q => PySem.W.codeHdIn K q.1 q.2 && (K.lookup q.2).isNone
/-- a def's code -/
def codLook (K : PySem.W.Frag) (f c : Addr) : Bool := match K.lookup f with
  | some ⟨_, _, .func fd, _⟩ => (match fd.code with
    | .ref d => d == c
    | _ => false)
  | _ => false
theorem codLook_of {K : PySem.W.Frag} {f c : Addr} {oc : Value} {od : Option Addr} {fd : FuncData} {sl : Array (Option Value)} (h : codLook K f c = true) (l : K.lookup f = some ⟨oc, od, .func fd, sl⟩) : fd.code = .ref c := by
  unfold codLook at h
  rw [l] at h
  have h2 : (match fd.code with
    | .ref d => d == c
    | _ => false) = true := h
  split at h2
  · rename_i d e
    rw [e, beq_iff_eq.mp h2]
  · cases h2

def inClass : Stmt → Nat → Stmt
  | st, i => (clsBody st).getD i (.Pass ⟨0, 0, 0, 0⟩)
theorem all_mk {l : PySem.W.OpenLaw} {w : World} {K : PySem.W.Frag} {h : Heap} {mg : Str → Option Value} {fa C RC CU CB CT c1 P1 : Addr} (X : K.In h) (G : h.Ns mainGlobals mg) (hfa : mg "law" = some (.ref fa)) {ts : List Addr} (TS : ∀ p ∈ ts, h.get? p = some (PySem.W.tabObj #[]))
    {ocint kVint dcint pmint cdint ctint : Value} {odint anint : Option Addr} {slint : Array (Option Value)} {gint : Addr}
    {ocnam kVnam dcnam pmnam cdnam ctnam : Value} {odnam annam : Option Addr} {slnam : Array (Option Value)} {gnam : Addr}
    {ocby kVby dcby pmby cdby ctby : Value} {odby anby : Option Addr} {slby : Array (Option Value)} {gby : Addr}
    {occhk kVchk dcchk pmchk ctchk : Value} {odchk anchk : Option Addr} {slchk : Array (Option Value)} {gchk : Addr}
    {ocfst kVfst dcfst pmfst cdfst ctfst : Value} {odfst anfst : Option Addr} {slfst : Array (Option Value)} {gfst : Addr}
    {ocshr kVshr dcshr pmshr cdshr ctshr : Value} {odshr anshr : Option Addr} {slshr : Array (Option Value)} {gshr : Addr}
    {oclim kVlim dclim pmlim cdlim ctlim : Value} {odlim anlim : Option Addr} {sllim : Array (Option Value)} {glim : Addr}
    {occon kVcon dccon pmcon cdcon ctcon : Value} {odcon ancon : Option Addr} {slcon : Array (Option Value)} {gcon : Addr}
    {ocnmd kVnmd dcnmd pmnmd cdnmd ctnmd : Value} {odnmd annmd : Option Addr} {slnmd : Array (Option Value)} {gnmd : Addr}
    {ocbnd kVbnd dcbnd pmbnd cdbnd ctbnd : Value} {odbnd anbnd : Option Addr} {slbnd : Array (Option Value)} {gbnd : Addr}
    {octxt kVtxt dctxt pmtxt cdtxt cttxt : Value} {odtxt antxt : Option Addr} {sltxt : Array (Option Value)} {gtxt : Addr}
    {oclin kVlin dclin pmlin cdlin ctlin : Value} {odlin anlin : Option Addr} {sllin : Array (Option Value)} {glin : Addr}
    {occw kVcw dccw pmcw cdcw ctcw : Value} {odcw ancw : Option Addr} {slcw : Array (Option Value)} {gcw : Addr}
    {ocnof kVnof dcnof pmnof cdnof ctnof : Value} {odnof annof : Option Addr} {slnof : Array (Option Value)} {gnof : Addr}
    {occnm kVcnm dccnm pmcnm cdcnm ctcnm : Value} {odcnm ancnm : Option Addr} {slcnm : Array (Option Value)} {gcnm : Addr}
    {occtb kVctb dcctb pmctb cdctb ctctb : Value} {odctb anctb : Option Addr} {slctb : Array (Option Value)} {gctb : Addr}
    {ocirw kVirw dcirw pmirw cdirw ctirw : Value} {odirw anirw : Option Addr} {slirw : Array (Option Value)} {girw : Addr}
    {ocicl kVicl dcicl pmicl cdicl cticl : Value} {odicl anicl : Option Addr} {slicl : Array (Option Value)} {gicl : Addr}
    {ocjar kVjar dcjar pmjar cdjar ctjar : Value} {odjar anjar : Option Addr} {sljar : Array (Option Value)} {gjar : Addr}
    {ocdip kVdip dcdip pmdip cddip ctdip : Value} {oddip andip : Option Addr} {sldip : Array (Option Value)} {gdip : Addr}
    {ocone kVone dcone pmone cdone ctone : Value} {odone anone : Option Addr} {slone : Array (Option Value)} {gone : Addr}
    {ocnms kVnms dcnms pmnms cdnms ctnms : Value} {odnms annms : Option Addr} {slnms : Array (Option Value)} {gnms : Addr}
    {ocbnt kVbnt dcbnt pmbnt cdbnt ctbnt : Value} {odbnt anbnt : Option Addr} {slbnt : Array (Option Value)} {gbnt : Addr}
    {occnt kVcnt dccnt pmcnt cdcnt ctcnt : Value} {odcnt ancnt : Option Addr} {slcnt : Array (Option Value)} {gcnt : Addr}
    {ocwks kVwks dcwks pmwks cdwks ctwks : Value} {odwks anwks : Option Addr} {slwks : Array (Option Value)} {gwks : Addr}
    {ocblt kVblt dcblt pmblt cdblt ctblt : Value} {odblt anblt : Option Addr} {slblt : Array (Option Value)} {gblt : Addr}
    {occld kVcld dccld pmcld cdcld ctcld : Value} {odcld ancld : Option Addr} {slcld : Array (Option Value)} {gcld : Addr}
    {octbl kVtbl dctbl pmtbl cdtbl cttbl : Value} {odtbl antbl : Option Addr} {sltbl : Array (Option Value)} {gtbl : Addr}
    {ocbon kVbon dcbon pmbon cdbon ctbon : Value} {odbon anbon : Option Addr} {slbon : Array (Option Value)} {gbon : Addr}
    {ocrtx kVrtx dcrtx pmrtx cdrtx ctrtx : Value} {odrtx anrtx : Option Addr} {slrtx : Array (Option Value)} {grtx : Addr}
    {oclrs kVlrs dclrs pmlrs cdlrs ctlrs : Value} {odlrs anlrs : Option Addr} {sllrs : Array (Option Value)} {glrs : Addr}
    {octwi kVtwi dctwi pmtwi cdtwi cttwi : Value} {odtwi antwi : Option Addr} {sltwi : Array (Option Value)} {gtwi : Addr}
    {oclir kVlir dclir pmlir cdlir ctlir : Value} {odlir anlir : Option Addr} {sllir : Array (Option Value)} {glir : Addr}
    {ocrig kVrig dcrig pmrig cdrig ctrig : Value} {odrig anrig : Option Addr} {slrig : Array (Option Value)} {grig : Addr}
    {oclaw kVlaw dclaw pmlaw cdlaw ctlaw : Value} {odlaw anlaw : Option Addr} {sllaw : Array (Option Value)} {glaw : Addr}
    {ocini kVini dcini pmini cdini ctini : Value} {odini anini : Option Addr} {slini : Array (Option Value)} {gini : Addr}
    {oceqw kVeqw dceqw pmeqw cdeqw cteqw : Value} {odeqw aneqw : Option Addr} {sleqw : Array (Option Value)} {geqw : Addr}
    {ocrin kVrin dcrin pmrin cdrin ctrin : Value} {odrin anrin : Option Addr} {slrin : Array (Option Value)} {grin : Addr}
    {ocreq kVreq dcreq pmreq cdreq ctreq : Value} {odreq anreq : Option Addr} {slreq : Array (Option Value)} {greq : Addr}
    {ocrst kVrst dcrst pmrst cdrst ctrst : Value} {odrst anrst : Option Addr} {slrst : Array (Option Value)} {grst : Addr}
    {ocpm kVpm dcpm pmpm cdpm ctpm : Value} {odpm anpm : Option Addr} {slpm : Array (Option Value)} {gpm : Addr} {qpm : Addr} {restpm : List Value}
    {ocpc kVpc dcpc pmpc cdpc ctpc : Value} {odpc anpc : Option Addr} {slpc : Array (Option Value)} {gpc : Addr} {qpc : Addr} {restpc : List Value}
    {ocpp kVpp dcpp pmpp cdpp ctpp : Value} {odpp anpp : Option Addr} {slpp : Array (Option Value)} {gpp : Addr} {qpp : Addr} {restpp : List Value}
    {ocrmc kVrmc dcrmc pmrmc cdrmc ctrmc : Value} {odrmc anrmc : Option Addr} {slrmc : Array (Option Value)} {grmc : Addr} {qrmc : Addr} {restrmc : List Value}
    {ocrtb kVrtb dcrtb pmrtb cdrtb ctrtb : Value} {odrtb anrtb : Option Addr} {slrtb : Array (Option Value)} {grtb : Addr} {qrtb : Addr} {restrtb : List Value}
    {ocrd kVrd dcrd pmrd cdrd ctrd : Value} {odrd anrd : Option Addr} {slrd : Array (Option Value)} {grd : Addr} {qrd : Addr} {restrd : List Value}
    {ocuU dcuU pmuU cduU ctuU : Value} {oduU anuU : Option Addr} {sluU : Array (Option Value)} {fEU : Addr}
    {ocuB dcuB pmuB cduB ctuB : Value} {oduB anuB : Option Addr} {sluB : Array (Option Value)} {fEB : Addr}
    {ocuT dcuT pmuT cduT ctuT : Value} {oduT anuT : Option Addr} {sluT : Array (Option Value)} {fET : Addr}
    (aint : PySem.W.nsIn K mainGlobals "is_integer" = some (some (.ref gint)))
    (lint : K.lookup gint = some ⟨ocint, odint, .func (PySem.W.fnOf "is_integer" "is_integer" (defArgs (top 15)) (defBody (top 15)) (defScope (top 15)) .none kVint dcint pmint anint cdint ctint), slint⟩)
    (dint : PySem.W.codeIn K cdint "is_integer" = true)
    (kint : PySem.W.keepIn K (.ref gint) = true)
    (anam : PySem.W.nsIn K mainGlobals "is_name" = some (some (.ref gnam)))
    (lnam : K.lookup gnam = some ⟨ocnam, odnam, .func (PySem.W.fnOf "is_name" "is_name" (defArgs (top 16)) (defBody (top 16)) (defScope (top 16)) .none kVnam dcnam pmnam annam cdnam ctnam), slnam⟩)
    (dnam : PySem.W.codeIn K cdnam "is_name" = true)
    (knam : PySem.W.keepIn K (.ref gnam) = true)
    (aby : PySem.W.nsIn K mainGlobals "_by_stuff" = some (some (.ref gby)))
    (lby : K.lookup gby = some ⟨ocby, odby, .func (PySem.W.fnOf "_by_stuff" "_by_stuff" (defArgs (top 27)) (defBody (top 27)) (defScope (top 27)) .none kVby dcby pmby anby cdby ctby), slby⟩)
    (dby : PySem.W.codeIn K cdby "_by_stuff" = true)
    (kby : PySem.W.keepIn K (.ref gby) = true)
    (achk : PySem.W.nsIn K mainGlobals "_check" = some (some (.ref gchk)))
    (lchk : K.lookup gchk = some ⟨occhk, odchk, .func (PySem.W.fnOf "_check" "_check" (defArgs (top 28)) (defBody (top 28)) (defScope (top 28)) .none kVchk dcchk pmchk anchk (.ref c1) ctchk), slchk⟩)
    (dchk : PySem.W.codeIn K (.ref c1) "_check" = true)
    (kchk : PySem.W.keepIn K (.ref gchk) = true)
    (afst : PySem.W.nsIn K mainGlobals "_first_wrong" = some (some (.ref gfst)))
    (lfst : K.lookup gfst = some ⟨ocfst, odfst, .func (PySem.W.fnOf "_first_wrong" "_first_wrong" (defArgs (top 29)) (defBody (top 29)) (defScope (top 29)) .none kVfst dcfst pmfst anfst cdfst ctfst), slfst⟩)
    (dfst : PySem.W.codeIn K cdfst "_first_wrong" = true)
    (kfst : PySem.W.keepIn K (.ref gfst) = true)
    (ashr : PySem.W.nsIn K mainGlobals "_has_shares" = some (some (.ref gshr)))
    (lshr : K.lookup gshr = some ⟨ocshr, odshr, .func (PySem.W.fnOf "_has_shares" "_has_shares" (defArgs (top 30)) (defBody (top 30)) (defScope (top 30)) .none kVshr dcshr pmshr anshr cdshr ctshr), slshr⟩)
    (dshr : PySem.W.codeIn K cdshr "_has_shares" = true)
    (kshr : PySem.W.keepIn K (.ref gshr) = true)
    (alim : PySem.W.nsIn K mainGlobals "_has_limit" = some (some (.ref glim)))
    (llim : K.lookup glim = some ⟨oclim, odlim, .func (PySem.W.fnOf "_has_limit" "_has_limit" (defArgs (top 31)) (defBody (top 31)) (defScope (top 31)) .none kVlim dclim pmlim anlim cdlim ctlim), sllim⟩)
    (dlim : PySem.W.codeIn K cdlim "_has_limit" = true)
    (klim : PySem.W.keepIn K (.ref glim) = true)
    (acon : PySem.W.nsIn K mainGlobals "_has_contents" = some (some (.ref gcon)))
    (lcon : K.lookup gcon = some ⟨occon, odcon, .func (PySem.W.fnOf "_has_contents" "_has_contents" (defArgs (top 32)) (defBody (top 32)) (defScope (top 32)) .none kVcon dccon pmcon ancon cdcon ctcon), slcon⟩)
    (dcon : PySem.W.codeIn K cdcon "_has_contents" = true)
    (kcon : PySem.W.keepIn K (.ref gcon) = true)
    (anmd : PySem.W.nsIn K mainGlobals "_is_named" = some (some (.ref gnmd)))
    (lnmd : K.lookup gnmd = some ⟨ocnmd, odnmd, .func (PySem.W.fnOf "_is_named" "_is_named" (defArgs (top 33)) (defBody (top 33)) (defScope (top 33)) .none kVnmd dcnmd pmnmd annmd cdnmd ctnmd), slnmd⟩)
    (dnmd : PySem.W.codeIn K cdnmd "_is_named" = true)
    (knmd : PySem.W.keepIn K (.ref gnmd) = true)
    (abnd : PySem.W.nsIn K mainGlobals "_are_bounds" = some (some (.ref gbnd)))
    (lbnd : K.lookup gbnd = some ⟨ocbnd, odbnd, .func (PySem.W.fnOf "_are_bounds" "_are_bounds" (defArgs (top 34)) (defBody (top 34)) (defScope (top 34)) .none kVbnd dcbnd pmbnd anbnd cdbnd ctbnd), slbnd⟩)
    (dbnd : PySem.W.codeIn K cdbnd "_are_bounds" = true)
    (kbnd : PySem.W.keepIn K (.ref gbnd) = true)
    (atxt : PySem.W.nsIn K mainGlobals "_text_of" = some (some (.ref gtxt)))
    (ltxt : K.lookup gtxt = some ⟨octxt, odtxt, .func (PySem.W.fnOf "_text_of" "_text_of" (defArgs (top 35)) (defBody (top 35)) (defScope (top 35)) .none kVtxt dctxt pmtxt antxt cdtxt cttxt), sltxt⟩)
    (dtxt : PySem.W.codeIn K cdtxt "_text_of" = true)
    (ktxt : PySem.W.keepIn K (.ref gtxt) = true)
    (alin : PySem.W.nsIn K mainGlobals "_product_line" = some (some (.ref glin)))
    (llin : K.lookup glin = some ⟨oclin, odlin, .func (PySem.W.fnOf "_product_line" "_product_line" (defArgs (top 36)) (defBody (top 36)) (defScope (top 36)) .none kVlin dclin pmlin anlin cdlin ctlin), sllin⟩)
    (dlin : PySem.W.codeIn K cdlin "_product_line" = true)
    (klin : PySem.W.keepIn K (.ref glin) = true)
    (acw : PySem.W.nsIn K mainGlobals "check_works" = some (some (.ref gcw)))
    (lcw : K.lookup gcw = some ⟨occw, odcw, .func (PySem.W.fnOf "check_works" "check_works" (defArgs (top 41)) (defBody (top 41)) (defScope (top 41)) .none kVcw dccw pmcw ancw cdcw ctcw), slcw⟩)
    (dcw : PySem.W.codeIn K cdcw "check_works" = true)
    (kcw : PySem.W.keepIn K (.ref gcw) = true)
    (anof : PySem.W.nsIn K mainGlobals "is_name_of" = some (some (.ref gnof)))
    (lnof : K.lookup gnof = some ⟨ocnof, odnof, .func (PySem.W.fnOf "is_name_of" "is_name_of" (defArgs (top 42)) (defBody (top 42)) (defScope (top 42)) .none kVnof dcnof pmnof annof cdnof ctnof), slnof⟩)
    (dnof : PySem.W.codeIn K cdnof "is_name_of" = true)
    (knof : PySem.W.keepIn K (.ref gnof) = true)
    (acnm : PySem.W.nsIn K mainGlobals "check_name" = some (some (.ref gcnm)))
    (lcnm : K.lookup gcnm = some ⟨occnm, odcnm, .func (PySem.W.fnOf "check_name" "check_name" (defArgs (top 43)) (defBody (top 43)) (defScope (top 43)) .none kVcnm dccnm pmcnm ancnm cdcnm ctcnm), slcnm⟩)
    (dcnm : PySem.W.codeIn K cdcnm "check_name" = true)
    (kcnm : PySem.W.keepIn K (.ref gcnm) = true)
    (actb : PySem.W.nsIn K mainGlobals "_check_table" = some (some (.ref gctb)))
    (lctb : K.lookup gctb = some ⟨occtb, odctb, .func (PySem.W.fnOf "_check_table" "_check_table" (defArgs (top 47)) (defBody (top 47)) (defScope (top 47)) .none kVctb dcctb pmctb anctb cdctb ctctb), slctb⟩)
    (dctb : PySem.W.codeIn K cdctb "_check_table" = true)
    (kctb : PySem.W.keepIn K (.ref gctb) = true)
    (airw : PySem.W.nsIn K mainGlobals "_is_row" = some (some (.ref girw)))
    (lirw : K.lookup girw = some ⟨ocirw, odirw, .func (PySem.W.fnOf "_is_row" "_is_row" (defArgs (top 48)) (defBody (top 48)) (defScope (top 48)) .none kVirw dcirw pmirw anirw cdirw ctirw), slirw⟩)
    (dirw : PySem.W.codeIn K cdirw "_is_row" = true)
    (kirw : PySem.W.keepIn K (.ref girw) = true)
    (aicl : PySem.W.nsIn K mainGlobals "is_cleaning" = some (some (.ref gicl)))
    (licl : K.lookup gicl = some ⟨ocicl, odicl, .func (PySem.W.fnOf "is_cleaning" "is_cleaning" (defArgs (top 49)) (defBody (top 49)) (defScope (top 49)) .none kVicl dcicl pmicl anicl cdicl cticl), slicl⟩)
    (dicl : PySem.W.codeIn K cdicl "is_cleaning" = true)
    (kicl : PySem.W.keepIn K (.ref gicl) = true)
    (ajar : PySem.W.nsIn K mainGlobals "_law_jar" = some (some (.ref gjar)))
    (ljar : K.lookup gjar = some ⟨ocjar, odjar, .func (PySem.W.fnOf "_law_jar" "_law_jar" (defArgs (top 51)) (defBody (top 51)) (defScope (top 51)) .none kVjar dcjar pmjar anjar cdjar ctjar), sljar⟩)
    (djar : PySem.W.codeIn K cdjar "_law_jar" = true)
    (kjar : PySem.W.keepIn K (.ref gjar) = true)
    (adip : PySem.W.nsIn K mainGlobals "_law_tap" = some (some (.ref gdip)))
    (ldip : K.lookup gdip = some ⟨ocdip, oddip, .func (PySem.W.fnOf "_law_tap" "_law_tap" (defArgs (top 52)) (defBody (top 52)) (defScope (top 52)) .none kVdip dcdip pmdip andip cddip ctdip), sldip⟩)
    (ddip : PySem.W.codeIn K cddip "_law_tap" = true)
    (kdip : PySem.W.keepIn K (.ref gdip) = true)
    (aone : PySem.W.nsIn K mainGlobals "_law_one" = some (some (.ref gone)))
    (lone : K.lookup gone = some ⟨ocone, odone, .func (PySem.W.fnOf "_law_one" "_law_one" (defArgs (top 53)) (defBody (top 53)) (defScope (top 53)) .none kVone dcone pmone anone cdone ctone), slone⟩)
    (done : PySem.W.codeIn K cdone "_law_one" = true)
    (kone : PySem.W.keepIn K (.ref gone) = true)
    (anms : PySem.W.nsIn K mainGlobals "_law_names" = some (some (.ref gnms)))
    (lnms : K.lookup gnms = some ⟨ocnms, odnms, .func (PySem.W.fnOf "_law_names" "_law_names" (defArgs (top 54)) (defBody (top 54)) (defScope (top 54)) .none kVnms dcnms pmnms annms cdnms ctnms), slnms⟩)
    (dnms : PySem.W.codeIn K cdnms "_law_names" = true)
    (knms : PySem.W.keepIn K (.ref gnms) = true)
    (abnt : PySem.W.nsIn K mainGlobals "_law_bounds" = some (some (.ref gbnt)))
    (lbnt : K.lookup gbnt = some ⟨ocbnt, odbnt, .func (PySem.W.fnOf "_law_bounds" "_law_bounds" (defArgs (top 55)) (defBody (top 55)) (defScope (top 55)) .none kVbnt dcbnt pmbnt anbnt cdbnt ctbnt), slbnt⟩)
    (dbnt : PySem.W.codeIn K cdbnt "_law_bounds" = true)
    (kbnt : PySem.W.keepIn K (.ref gbnt) = true)
    (acnt : PySem.W.nsIn K mainGlobals "_law_content" = some (some (.ref gcnt)))
    (lcnt : K.lookup gcnt = some ⟨occnt, odcnt, .func (PySem.W.fnOf "_law_content" "_law_content" (defArgs (top 56)) (defBody (top 56)) (defScope (top 56)) .none kVcnt dccnt pmcnt ancnt cdcnt ctcnt), slcnt⟩)
    (dcnt : PySem.W.codeIn K cdcnt "_law_content" = true)
    (kcnt : PySem.W.keepIn K (.ref gcnt) = true)
    (awks : PySem.W.nsIn K mainGlobals "_law_works" = some (some (.ref gwks)))
    (lwks : K.lookup gwks = some ⟨ocwks, odwks, .func (PySem.W.fnOf "_law_works" "_law_works" (defArgs (top 57)) (defBody (top 57)) (defScope (top 57)) .none kVwks dcwks pmwks anwks cdwks ctwks), slwks⟩)
    (dwks : PySem.W.codeIn K cdwks "_law_works" = true)
    (kwks : PySem.W.keepIn K (.ref gwks) = true)
    (ablt : PySem.W.nsIn K mainGlobals "_law_built" = some (some (.ref gblt)))
    (lblt : K.lookup gblt = some ⟨ocblt, odblt, .func (PySem.W.fnOf "_law_built" "_law_built" (defArgs (top 58)) (defBody (top 58)) (defScope (top 58)) .none kVblt dcblt pmblt anblt cdblt ctblt), slblt⟩)
    (dblt : PySem.W.codeIn K cdblt "_law_built" = true)
    (kblt : PySem.W.keepIn K (.ref gblt) = true)
    (acld : PySem.W.nsIn K mainGlobals "_law_called" = some (some (.ref gcld)))
    (lcld : K.lookup gcld = some ⟨occld, odcld, .func (PySem.W.fnOf "_law_called" "_law_called" (defArgs (top 59)) (defBody (top 59)) (defScope (top 59)) .none kVcld dccld pmcld ancld cdcld ctcld), slcld⟩)
    (dcld : PySem.W.codeIn K cdcld "_law_called" = true)
    (kcld : PySem.W.keepIn K (.ref gcld) = true)
    (atbl : PySem.W.nsIn K mainGlobals "_law_table" = some (some (.ref gtbl)))
    (ltbl : K.lookup gtbl = some ⟨octbl, odtbl, .func (PySem.W.fnOf "_law_table" "_law_table" (defArgs (top 60)) (defBody (top 60)) (defScope (top 60)) .none kVtbl dctbl pmtbl antbl cdtbl cttbl), sltbl⟩)
    (dtbl : PySem.W.codeIn K cdtbl "_law_table" = true)
    (ktbl : PySem.W.keepIn K (.ref gtbl) = true)
    (abon : PySem.W.nsIn K mainGlobals "_law_bond" = some (some (.ref gbon)))
    (lbon : K.lookup gbon = some ⟨ocbon, odbon, .func (PySem.W.fnOf "_law_bond" "_law_bond" (defArgs (top 61)) (defBody (top 61)) (defScope (top 61)) .none kVbon dcbon pmbon anbon cdbon ctbon), slbon⟩)
    (dbon : PySem.W.codeIn K cdbon "_law_bond" = true)
    (kbon : PySem.W.keepIn K (.ref gbon) = true)
    (artx : PySem.W.nsIn K mainGlobals "_law_rule_text" = some (some (.ref grtx)))
    (lrtx : K.lookup grtx = some ⟨ocrtx, odrtx, .func (PySem.W.fnOf "_law_rule_text" "_law_rule_text" (defArgs (top 62)) (defBody (top 62)) (defScope (top 62)) .none kVrtx dcrtx pmrtx anrtx cdrtx ctrtx), slrtx⟩)
    (drtx : PySem.W.codeIn K cdrtx "_law_rule_text" = true)
    (krtx : PySem.W.keepIn K (.ref grtx) = true)
    (alrs : PySem.W.nsIn K mainGlobals "_law_reads" = some (some (.ref glrs)))
    (llrs : K.lookup glrs = some ⟨oclrs, odlrs, .func (PySem.W.fnOf "_law_reads" "_law_reads" (defArgs (top 63)) (defBody (top 63)) (defScope (top 63)) .none kVlrs dclrs pmlrs anlrs cdlrs ctlrs), sllrs⟩)
    (dlrs : PySem.W.codeIn K cdlrs "_law_reads" = true)
    (klrs : PySem.W.keepIn K (.ref glrs) = true)
    (atwi : PySem.W.nsIn K mainGlobals "_law_twisted" = some (some (.ref gtwi)))
    (ltwi : K.lookup gtwi = some ⟨octwi, odtwi, .func (PySem.W.fnOf "_law_twisted" "_law_twisted" (defArgs (top 64)) (defBody (top 64)) (defScope (top 64)) .none kVtwi dctwi pmtwi antwi cdtwi cttwi), sltwi⟩)
    (dtwi : PySem.W.codeIn K cdtwi "_law_twisted" = true)
    (ktwi : PySem.W.keepIn K (.ref gtwi) = true)
    (alir : PySem.W.nsIn K mainGlobals "_law_is_read" = some (some (.ref glir)))
    (llir : K.lookup glir = some ⟨oclir, odlir, .func (PySem.W.fnOf "_law_is_read" "_law_is_read" (defArgs (top 65)) (defBody (top 65)) (defScope (top 65)) .none kVlir dclir pmlir anlir cdlir ctlir), sllir⟩)
    (dlir : PySem.W.codeIn K cdlir "_law_is_read" = true)
    (klir : PySem.W.keepIn K (.ref glir) = true)
    (arig : PySem.W.nsIn K mainGlobals "_law_right" = some (some (.ref grig)))
    (lrig : K.lookup grig = some ⟨ocrig, odrig, .func (PySem.W.fnOf "_law_right" "_law_right" (defArgs (top 66)) (defBody (top 66)) (defScope (top 66)) .none kVrig dcrig pmrig anrig cdrig ctrig), slrig⟩)
    (drig : PySem.W.codeIn K cdrig "_law_right" = true)
    (krig : PySem.W.keepIn K (.ref grig) = true)
    (alaw : PySem.W.nsIn K mainGlobals "law" = some (some (.ref glaw)))
    (llaw : K.lookup glaw = some ⟨oclaw, odlaw, .func (PySem.W.fnOf "law" "law" (defArgs (top 67)) (defBody (top 67)) (defScope (top 67)) .none kVlaw dclaw pmlaw anlaw cdlaw ctlaw), sllaw⟩)
    (dlaw : PySem.W.codeIn K cdlaw "law" = true)
    (klaw : PySem.W.keepIn K (.ref glaw) = true)
    (aW : PySem.W.nsIn K mainGlobals "Works" = some (some (.ref C)))
    (aR : PySem.W.nsIn K mainGlobals "Rule" = some (some (.ref RC)))
    (aini : PySem.W.findIn K (.ref C) "__init__" = some (some (.ref gini)))
    (lini : K.lookup gini = some ⟨ocini, odini, .func (PySem.W.fnOf "__init__" "Works.__init__" (defArgs (meth 0)) (defBody (meth 0)) (defScope (meth 0)) .none kVini dcini pmini anini cdini ctini), slini⟩)
    (dini : PySem.W.codeIn K cdini "Works.__init__" = true)
    (kini : PySem.W.keepIn K (.ref gini) = true)
    (aeqw : PySem.W.findIn K (.ref C) "__eq__" = some (some (.ref geqw)))
    (leqw : K.lookup geqw = some ⟨oceqw, odeqw, .func (PySem.W.fnOf "__eq__" "Works.__eq__" (defArgs (meth 11)) (defBody (meth 11)) (defScope (meth 11)) .none kVeqw dceqw pmeqw aneqw cdeqw cteqw), sleqw⟩)
    (deqw : PySem.W.codeIn K cdeqw "Works.__eq__" = true)
    (keqw : PySem.W.keepIn K (.ref geqw) = true)
    (arin : PySem.W.findIn K (.ref RC) "__init__" = some (some (.ref grin)))
    (lrin : K.lookup grin = some ⟨ocrin, odrin, .func (PySem.W.fnOf "__init__" "Rule.__init__" (defArgs (rmeth 0)) (defBody (rmeth 0)) (defScope (rmeth 0)) .none kVrin dcrin pmrin anrin cdrin ctrin), slrin⟩)
    (drin : PySem.W.codeIn K cdrin "Rule.__init__" = true)
    (krin : PySem.W.keepIn K (.ref grin) = true)
    (areq : PySem.W.findIn K (.ref RC) "__eq__" = some (some (.ref greq)))
    (lreq : K.lookup greq = some ⟨ocreq, odreq, .func (PySem.W.fnOf "__eq__" "Rule.__eq__" (defArgs (rmeth 9)) (defBody (rmeth 9)) (defScope (rmeth 9)) .none kVreq dcreq pmreq anreq cdreq ctreq), slreq⟩)
    (dreq : PySem.W.codeIn K cdreq "Rule.__eq__" = true)
    (kreq : PySem.W.keepIn K (.ref greq) = true)
    (arst : PySem.W.findIn K (.ref RC) "__str__" = some (some (.ref grst)))
    (lrst : K.lookup grst = some ⟨ocrst, odrst, .func (PySem.W.fnOf "__str__" "Rule.__str__" (defArgs (rmeth 10)) (defBody (rmeth 10)) (defScope (rmeth 10)) .none kVrst dcrst pmrst anrst cdrst ctrst), slrst⟩)
    (drst : PySem.W.codeIn K cdrst "Rule.__str__" = true)
    (krst : PySem.W.keepIn K (.ref grst) = true)
    (apm : PySem.W.findIn K (.ref C) "machines" = some (some (.ref qpm)))
    (rpm : PySem.W.recIn K qpm "property" = some (.ref gpm :: restpm))
    (lpm : K.lookup gpm = some ⟨ocpm, odpm, .func (PySem.W.fnOf "machines" "Works.machines" (defArgs (meth 2)) (defBody (meth 2)) (defScope (meth 2)) .none kVpm dcpm pmpm anpm cdpm ctpm), slpm⟩)
    (dpm : PySem.W.codeIn K cdpm "Works.machines" = true)
    (kpm : PySem.W.keepIn K (.ref gpm) = true)
    (apc : PySem.W.findIn K (.ref C) "cleanings" = some (some (.ref qpc)))
    (rpc : PySem.W.recIn K qpc "property" = some (.ref gpc :: restpc))
    (lpc : K.lookup gpc = some ⟨ocpc, odpc, .func (PySem.W.fnOf "cleanings" "Works.cleanings" (defArgs (meth 3)) (defBody (meth 3)) (defScope (meth 3)) .none kVpc dcpc pmpc anpc cdpc ctpc), slpc⟩)
    (dpc : PySem.W.codeIn K cdpc "Works.cleanings" = true)
    (kpc : PySem.W.keepIn K (.ref gpc) = true)
    (app : PySem.W.findIn K (.ref C) "products" = some (some (.ref qpp)))
    (rpp : PySem.W.recIn K qpp "property" = some (.ref gpp :: restpp))
    (lpp : K.lookup gpp = some ⟨ocpp, odpp, .func (PySem.W.fnOf "products" "Works.products" (defArgs (meth 5)) (defBody (meth 5)) (defScope (meth 5)) .none kVpp dcpp pmpp anpp cdpp ctpp), slpp⟩)
    (dpp : PySem.W.codeIn K cdpp "Works.products" = true)
    (kpp : PySem.W.keepIn K (.ref gpp) = true)
    (armc : PySem.W.findIn K (.ref RC) "machine" = some (some (.ref qrmc)))
    (rrmc : PySem.W.recIn K qrmc "property" = some (.ref grmc :: restrmc))
    (lrmc : K.lookup grmc = some ⟨ocrmc, odrmc, .func (PySem.W.fnOf "machine" "Rule.machine" (defArgs (rmeth 3)) (defBody (rmeth 3)) (defScope (rmeth 3)) .none kVrmc dcrmc pmrmc anrmc cdrmc ctrmc), slrmc⟩)
    (drmc : PySem.W.codeIn K cdrmc "Rule.machine" = true)
    (krmc : PySem.W.keepIn K (.ref grmc) = true)
    (artb : PySem.W.findIn K (.ref RC) "table" = some (some (.ref qrtb)))
    (rrtb : PySem.W.recIn K qrtb "property" = some (.ref grtb :: restrtb))
    (lrtb : K.lookup grtb = some ⟨ocrtb, odrtb, .func (PySem.W.fnOf "table" "Rule.table" (defArgs (rmeth 4)) (defBody (rmeth 4)) (defScope (rmeth 4)) .none kVrtb dcrtb pmrtb anrtb cdrtb ctrtb), slrtb⟩)
    (drtb : PySem.W.codeIn K cdrtb "Rule.table" = true)
    (krtb : PySem.W.keepIn K (.ref grtb) = true)
    (ard : PySem.W.findCls K (.ref RC) (.type "type") "read" = some (PySem.W.CFound.get (.builtin "staticmethod.__get__") (.ref qrd) .none (.ref RC)))
    (rrd : PySem.W.recIn K qrd "staticmethod" = some (.ref grd :: restrd))
    (lrd : K.lookup grd = some ⟨ocrd, odrd, .func (PySem.W.fnOf "read" "Rule.read" (defArgs (rmeth 1)) (defBody (rmeth 1)) (defScope (rmeth 1)) .none kVrd dcrd pmrd anrd cdrd ctrd), slrd⟩)
    (drd : PySem.W.codeIn K cdrd "Rule.read" = true)
    (krd : PySem.W.keepIn K (.ref grd) = true)
    (aEU : PySem.W.nsIn K mainGlobals "UnknownName" = some (some (.ref CU)))
    (iEU : PySem.W.findIn K (.ref CU) "__init__" = some (some (.ref fEU)))
    (lEU : K.lookup fEU = some ⟨ocuU, oduU, .func (PySem.W.fnOf "__init__" "UnknownName.__init__" (defArgs (inClass (top 11) 0)) (defBody (inClass (top 11) 0)) (defScope (inClass (top 11) 0)) .none .none dcuU pmuU anuU cduU ctuU), sluU⟩)
    (dEU : PySem.W.codeIn K cduU "UnknownName.__init__" = true)
    (aEB : PySem.W.nsIn K mainGlobals "InvalidTable" = some (some (.ref CB)))
    (iEB : PySem.W.findIn K (.ref CB) "__init__" = some (some (.ref fEB)))
    (lEB : K.lookup fEB = some ⟨ocuB, oduB, .func (PySem.W.fnOf "__init__" "InvalidTable.__init__" (defArgs (inClass (top 9) 0)) (defBody (inClass (top 9) 0)) (defScope (inClass (top 9) 0)) .none .none dcuB pmuB anuB cduB ctuB), sluB⟩)
    (dEB : PySem.W.codeIn K cduB "InvalidTable.__init__" = true)
    (aET : PySem.W.nsIn K mainGlobals "InvalidText" = some (some (.ref CT)))
    (iET : PySem.W.findIn K (.ref CT) "__init__" = some (some (.ref fET)))
    (lET : K.lookup fET = some ⟨ocuT, oduT, .func (PySem.W.fnOf "__init__" "InvalidText.__init__" (defArgs (inClass (top 3) 0)) (defBody (inClass (top 3) 0)) (defScope (inClass (top 3) 0)) .none .none dcuT pmuT anuT cduT ctuT), sluT⟩)
    (dET : PySem.W.codeIn K cduT "InvalidText.__init__" = true)
    (outL : outLook K = true)
    (cL : cLook K = true)
    (stL : strLook K "NO_CLEANING" dash = true)
    (wL : wLook K C gini = true)
    (pcL : pcLook K RC grin = true)
    (mL : mLook K C [("__eq__", geqw)] = true)
    (mR : mLook K RC [("__eq__", greq), ("__str__", grst)] = true)
    (pL : pLook K [qpm, qpc, qpp, qrmc, qrtb] = true)
    (iL : iLook K C = true)
    (riL : riLook K RC = true)
    (sL : sLook K RC = true)
    (eLU : (eLook K CU fEU "given" leT "LookupError.__new__" && decide (PySem.W.exmOne K (.ref CU) (.ref CU) = some true)) = true)
    (eLB : eLook K CB fEB "index" veT "ValueError.__new__" = true)
    (eLT : eLook K CT fET "given" veT "ValueError.__new__" = true)
    (fL : fLook K CU CB CT = true)
    (tL : tLook K [(c1, P1)] = true)
    (inT : P1 ∈ ts) : EndsAt l w K 12 63 "_law_cells" mg fa h := by
  have e := hfa.symm.trans (PySem.W.mg_of X G alaw)
  cases e

  have out := outLook_of X G outL
  have UU := uLook_of eLU (PySem.W.mg_of X G aEU) ⟨_, _, _, _, _, _, _, _, _, _, _, _, _, _, _, lEU, dEU⟩
  have eB := eLook_of eLB (PySem.W.mg_of X G aEB) ⟨_, _, _, _, _, _, _, _, _, _, _, _, _, _, _, lEB, dEB⟩
  have eT := eLook_of eLT (PySem.W.mg_of X G aET) ⟨_, _, _, _, _, _, _, _, _, _, _, _, _, _, _, lET, dET⟩
  obtain ⟨vD, mD, rD⟩ := strLook_of X G stL
  unfold cLook at cL
  unfold wLook at wL
  unfold pcLook at pcL
  unfold tLook at tL
  unfold iLook at iL
  unfold riLook at riL
  unfold sLook at sL
  unfold fLook at fL
  have MW := mLook_of mL
  have MR := mLook_of mR
  simp only [Bool.and_eq_true, decide_eq_true_eq, List.all_cons, List.all_nil, Bool.and_true, Option.isNone_iff_eq_none] at cL wL pcL tL iL riL sL fL
  obtain ⟨⟨⟨⟨⟨⟨z0, z1⟩, z2⟩, z3⟩, z4⟩, z5⟩, z6⟩ := cL
  obtain ⟨v0, m0, r0⟩ := intLook_of X G z0
  obtain ⟨v1, m1, r1⟩ := intLook_of X G z1
  obtain ⟨v2, m2, r2⟩ := intLook_of X G z2
  obtain ⟨v3, m3, r3⟩ := intLook_of X G z3
  obtain ⟨v4, m4, r4⟩ := intLook_of X G z4
  obtain ⟨v5, m5, r5⟩ := intLook_of X G z5
  obtain ⟨v6, m6, r6⟩ := intLook_of X G z6
  obtain ⟨⟨⟨⟨⟨⟨⟨w1, w2⟩, w3⟩, w4⟩, w5⟩, w6⟩, w7⟩, w8⟩ := wL
  have nf : ∀ f ∈ fields, PySem.W.findIn K (.ref C) f = some none := fun f hf => of_decide_eq_true (List.all_eq_true.mp w5 f hf)
  have WC : WCls K C := ⟨⟨w1, w2, w3, w4⟩, nf _ (by decide), nf _ (by decide), nf _ (by decide), nf _ (by decide), nf _ (by decide), nf _ (by decide), nf _ (by decide), nf _ (by decide), nf _ (by decide)⟩
  have MK : Mk K C gini := ⟨w6, aini, w7, w8⟩
  obtain ⟨⟨⟨⟨⟨⟨⟨x1, x2⟩, x3⟩, x4⟩, x5⟩, x6⟩, x7⟩, x8⟩ := pcL
  have nfP : ∀ f ∈ fieldsP, PySem.W.findIn K (.ref RC) f = some none := fun f hf => of_decide_eq_true (List.all_eq_true.mp x5 f hf)
  have RCL : RCls K RC := ⟨⟨x1, x2, x3, x4⟩, nfP _ (by decide), nfP _ (by decide), nfP _ (by decide), nfP _ (by decide), nfP _ (by decide)⟩
  have MKR : Mk K RC grin := ⟨x6, arin, x7, x8⟩
  obtain ⟨t1, t2⟩ := tL
  obtain ⟨⟨⟨⟨⟨⟨⟨⟨i1, i2⟩, i3⟩, i4⟩, i5⟩, i6⟩, i7⟩, i8⟩, i9⟩ := iL
  have WI : WIns K C := ⟨i1, i2, i3, i4, i5, i6⟩
  obtain ⟨⟨⟨⟨ri1, ri2⟩, ri3⟩, ri4⟩, ri5⟩ := riL
  have RI : RIns K RC := ⟨ri1, ri2, ri3, ri4, ri5⟩
  obtain ⟨⟨fitU, fitB⟩, fitT⟩ := fL
  obtain ⟨⟨s1, s2⟩, s3⟩ := sL
  have Bl : Blt mg := ⟨out _ (by decide), out _ (by decide), out _ (by decide), out _ (by decide)⟩
  have BI : BltI mg := ⟨out _ (by decide), out _ (by decide), out _ (by decide), out _ (by decide), out _ (by decide), out _ (by decide), out _ (by decide), out _ (by decide)⟩
  have BN : BltN mg := ⟨out _ (by decide), out _ (by decide)⟩
  have BB : BltB mg := ⟨out _ (by decide), out _ (by decide), out _ (by decide)⟩
  have BK : BltK mg := ⟨out _ (by decide), out _ (by decide), out _ (by decide)⟩
  have BT : BltT mg := ⟨out _ (by decide)⟩
  have BTw : BltTw mg := ⟨out _ (by decide), out _ (by decide)⟩
  have BRs : BltRs mg := ⟨out _ (by decide), out _ (by decide)⟩
  have BZ : BltZ mg := ⟨out _ (by decide)⟩
  have BS : BltS mg := ⟨out _ (by decide), out _ (by decide), out _ (by decide)⟩
  have BM : BltM mg := ⟨out _ (by decide), out _ (by decide), out _ (by decide), out _ (by decide), out _ (by decide)⟩
  have hT : mg "tuple" = none := out _ (by decide)
  have hLen : mg "len" = none := out _ (by decide)
  have hStr : mg "str" = none := out _ (by decide)
  have hRp : mg "repr" = none := out _ (by decide)
  have hRg : mg "range" = none := out _ (by decide)

  have Fint := fun_mk (st := top 15) lint dint kint
  have bInt := Fint.binds (ps := ["value"]) fun _ _ _ _ _ _ us hl => match us, hl with | [_], _ => rfl
  have nint := PySem.W.mg_of X G aint
  have Fnam := fun_mk (st := top 16) lnam dnam knam
  have bnam := Fnam.binds (ps := ["value"]) fun _ _ _ _ _ _ us hl => match us, hl with | [_], _ => rfl
  have nnam := PySem.W.mg_of X G anam
  have Fby := fun_mk (st := top 27) lby dby kby
  have bby := Fby.binds (ps := ["stuffs", "contents"]) fun _ _ _ _ _ _ us hl => match us, hl with | [_, _], _ => rfl
  have nby := PySem.W.mg_of X G aby
  have Fchk := fun_mk (st := top 28) lchk dchk kchk
  have bchk := Fchk.binds (ps := ["machines", "cleanings", "stuffs", "products"]) fun _ _ _ _ _ _ us hl => match us, hl with | [_, _, _, _], _ => rfl
  have nchk := PySem.W.mg_of X G achk
  have Ffst := fun_mk (st := top 29) lfst dfst kfst
  have bfst := Ffst.binds (ps := ["rows", "earlier", "fewest", "most", "is_right"]) fun _ _ _ _ _ _ us hl => match us, hl with | [_, _, _, _, _], _ => rfl
  have nfst := PySem.W.mg_of X G afst
  have Fshr := fun_mk (st := top 30) lshr dshr kshr
  have bshr := Fshr.binds (ps := ["row"]) fun _ _ _ _ _ _ us hl => match us, hl with | [_], _ => rfl
  have nshr := PySem.W.mg_of X G ashr
  have Flim := fun_mk (st := top 31) llim dlim klim
  have blim := Flim.binds (ps := ["row"]) fun _ _ _ _ _ _ us hl => match us, hl with | [_], _ => rfl
  have nlim := PySem.W.mg_of X G alim
  have Fcon := fun_mk (st := top 32) lcon dcon kcon
  have bcon := Fcon.binds (ps := ["row", "many"]) fun _ _ _ _ _ _ us hl => match us, hl with | [_, _], _ => rfl
  have ncon := PySem.W.mg_of X G acon
  have Fnmd := fun_mk (st := top 33) lnmd dnmd knmd
  have bnmd := Fnmd.binds (ps := ["row", "length"]) fun _ _ _ _ _ _ us hl => match us, hl with | [_, _], _ => rfl
  have nnmd := PySem.W.mg_of X G anmd
  have Fbnd := fun_mk (st := top 34) lbnd dbnd kbnd
  have bbnd := Fbnd.binds (ps := ["pair", "most"]) fun _ _ _ _ _ _ us hl => match us, hl with | [_, _], _ => rfl
  have nbnd := PySem.W.mg_of X G abnd
  have Ftxt := fun_mk (st := top 35) ltxt dtxt ktxt
  have btxt := Ftxt.binds (ps := ["machines", "cleanings", "stuffs", "products"]) fun _ _ _ _ _ _ us hl => match us, hl with | [_, _, _, _], _ => rfl
  have ntxt := PySem.W.mg_of X G atxt
  have Flin := fun_mk (st := top 36) llin dlin klin
  have blin := Flin.binds (ps := ["name", "contents"]) fun _ _ _ _ _ _ us hl => match us, hl with | [_, _], _ => rfl
  have nlin := PySem.W.mg_of X G alin
  have Fcw := fun_mk (st := top 41) lcw dcw kcw
  have bcw := Fcw.binds (ps := ["works"]) fun _ _ _ _ _ _ us hl => match us, hl with | [_], _ => rfl
  have ncw := PySem.W.mg_of X G acw
  have Fnof := fun_mk (st := top 42) lnof dnof knof
  have bnof := Fnof.binds (ps := ["rows", "value"]) fun _ _ _ _ _ _ us hl => match us, hl with | [_, _], _ => rfl
  have nnof := PySem.W.mg_of X G anof
  have Fcnm := fun_mk (st := top 43) lcnm dcnm kcnm
  have bcnm := Fcnm.binds (ps := ["rows", "value"]) fun _ _ _ _ _ _ us hl => match us, hl with | [_, _], _ => rfl
  have ncnm := PySem.W.mg_of X G acnm
  have Fctb := fun_mk (st := top 47) lctb dctb kctb
  have bctb := Fctb.binds (ps := ["works", "table"]) fun _ _ _ _ _ _ us hl => match us, hl with | [_, _], _ => rfl
  have nctb := PySem.W.mg_of X G actb
  have Firw := fun_mk (st := top 48) lirw dirw kirw
  have birw := Firw.binds (ps := ["works", "row"]) fun _ _ _ _ _ _ us hl => match us, hl with | [_, _], _ => rfl
  have nirw := PySem.W.mg_of X G airw
  have Ficl := fun_mk (st := top 49) licl dicl kicl
  have bicl := Ficl.binds (ps := ["works", "value"]) fun _ _ _ _ _ _ us hl => match us, hl with | [_, _], _ => rfl
  have nicl := PySem.W.mg_of X G aicl
  have Fjar := fun_mk (st := top 51) ljar djar kjar
  have bjar := Fjar.binds (ps := ["_law_cells", "_law_turn"]) fun _ _ _ _ _ _ us hl => match us, hl with | [_, _], _ => rfl
  have njar := PySem.W.mg_of X G ajar
  have Fdip := fun_mk (st := top 52) ldip ddip kdip
  have bdip := Fdip.binds (ps := ["_law_jar_here", "_law_top"]) fun _ _ _ _ _ _ us hl => match us, hl with | [_, _], _ => rfl
  have ndip := PySem.W.mg_of X G adip
  have Fone := fun_mk (st := top 53) lone done kone
  have bone := Fone.binds (ps := ["_law_jar_here", "_law_things"]) fun _ _ _ _ _ _ us hl => match us, hl with | [_, _], _ => rfl
  have nOne := PySem.W.mg_of X G aone
  have Fnms := fun_mk (st := top 54) lnms dnms knms
  have bnms := Fnms.binds (ps := ["_law_jar_here", "_law_many"]) fun _ _ _ _ _ _ us hl => match us, hl with | [_, _], _ => rfl
  have nnms := PySem.W.mg_of X G anms
  have Fbnt := fun_mk (st := top 55) lbnt dbnt kbnt
  have bbnt := Fbnt.binds (ps := ["_law_jar_here", "_law_most", "_law_menu"]) fun _ _ _ _ _ _ us hl => match us, hl with | [_, _, _], _ => rfl
  have nbnt := PySem.W.mg_of X G abnt
  have Fcnt := fun_mk (st := top 56) lcnt dcnt kcnt
  have bcnt := Fcnt.binds (ps := ["_law_jar_here"]) fun _ _ _ _ _ _ us hl => match us, hl with | [_], _ => rfl
  have ncnt := PySem.W.mg_of X G acnt
  have Fwks := fun_mk (st := top 57) lwks dwks kwks
  have bwks := Fwks.binds (ps := ["_law_jar_here", "_law_products", "_law_stuffs"]) fun _ _ _ _ _ _ us hl => match us, hl with | [_, _, _], _ => rfl
  have nwks := PySem.W.mg_of X G awks
  have Fblt := fun_mk (st := top 58) lblt dblt kblt
  have bblt := Fblt.binds (ps := ["_law_sketch"]) fun _ _ _ _ _ _ us hl => match us, hl with | [_], _ => rfl
  have nblt := PySem.W.mg_of X G ablt
  have Fcld := fun_mk (st := top 59) lcld dcld kcld
  have bcld := Fcld.binds (ps := ["_law_sketch", "_law_part"]) fun _ _ _ _ _ _ us hl => match us, hl with | [_, _], _ => rfl
  have ncld := PySem.W.mg_of X G acld
  have Ftbl := fun_mk (st := top 60) ltbl dtbl ktbl
  have btbl := Ftbl.binds (ps := ["_law_jar_here", "_law_sketch", "_law_share"]) fun _ _ _ _ _ _ us hl => match us, hl with | [_, _, _], _ => rfl
  have ntbl := PySem.W.mg_of X G atbl
  have Fbon := fun_mk (st := top 61) lbon dbon kbon
  have bbon := Fbon.binds (ps := ["_law_jar_here", "_law_sketch", "_law_share"]) fun _ _ _ _ _ _ us hl => match us, hl with | [_, _, _], _ => rfl
  have nbon := PySem.W.mg_of X G abon
  have Frtx := fun_mk (st := top 62) lrtx drtx krtx
  have brtx := Frtx.binds (ps := ["_law_bond_here"]) fun _ _ _ _ _ _ us hl => match us, hl with | [_], _ => rfl
  have nrtx := PySem.W.mg_of X G artx
  have Flrs := fun_mk (st := top 63) llrs dlrs klrs
  have blrs := Flrs.binds (ps := ["_law_sketch", "_law_said"]) fun _ _ _ _ _ _ us hl => match us, hl with | [_, _], _ => rfl
  have nlrs := PySem.W.mg_of X G alrs
  have Ftwi := fun_mk (st := top 64) ltwi dtwi ktwi
  have btwi := Ftwi.binds (ps := ["_law_jar_here", "_law_sketch", "_law_said"]) fun _ _ _ _ _ _ us hl => match us, hl with | [_, _, _], _ => rfl
  have ntwi := PySem.W.mg_of X G atwi
  have Flir := fun_mk (st := top 65) llir dlir klir
  have blir := Flir.binds (ps := ["_law_base", "_law_sketch", "_law_said"]) fun _ _ _ _ _ _ us hl => match us, hl with | [_, _, _], _ => rfl
  have nlir := PySem.W.mg_of X G alir
  have Frig := fun_mk (st := top 66) lrig drig krig
  have brig := Frig.binds (ps := ["_law_jar_here"]) fun _ _ _ _ _ _ us hl => match us, hl with | [_], _ => rfl
  have nrig := PySem.W.mg_of X G arig
  have Flaw := fun_mk (st := top 67) llaw dlaw klaw
  have Fini := fun_mk (st := meth 0) lini dini kini
  have bini := Fini.binds (ps := ["self", "machines", "cleanings", "stuffs", "products"]) fun _ _ _ _ _ _ us hl => match us, hl with | [_, _, _, _, _], _ => rfl
  have Feqw := fun_mk (st := meth 11) leqw deqw keqw
  have beqw := Feqw.binds (ps := ["self", "other"]) fun _ _ _ _ _ _ us hl => match us, hl with | [_, _], _ => rfl
  have Frin := fun_mk (st := rmeth 0) lrin drin krin
  have brin := Frin.binds (ps := ["self", "works", "machine", "table"]) fun _ _ _ _ _ _ us hl => match us, hl with | [_, _, _, _], _ => rfl
  have Freq := fun_mk (st := rmeth 9) lreq dreq kreq
  have breq := Freq.binds (ps := ["self", "other"]) fun _ _ _ _ _ _ us hl => match us, hl with | [_, _], _ => rfl
  have Frst := fun_mk (st := rmeth 10) lrst drst krst
  have brst := Frst.binds (ps := ["self"]) fun _ _ _ _ _ _ us hl => match us, hl with | [_], _ => rfl
  have Fpm := fun_mk (st := meth 2) lpm dpm kpm
  have bpm := Fpm.binds (ps := ["self"]) fun _ _ _ _ _ _ us hl => match us, hl with | [_], _ => rfl
  have Fpc := fun_mk (st := meth 3) lpc dpc kpc
  have bpc := Fpc.binds (ps := ["self"]) fun _ _ _ _ _ _ us hl => match us, hl with | [_], _ => rfl
  have Fpp := fun_mk (st := meth 5) lpp dpp kpp
  have bpp := Fpp.binds (ps := ["self"]) fun _ _ _ _ _ _ us hl => match us, hl with | [_], _ => rfl
  have Frmc := fun_mk (st := rmeth 3) lrmc drmc krmc
  have brmc := Frmc.binds (ps := ["self"]) fun _ _ _ _ _ _ us hl => match us, hl with | [_], _ => rfl
  have Frtb := fun_mk (st := rmeth 4) lrtb drtb krtb
  have brtb := Frtb.binds (ps := ["self"]) fun _ _ _ _ _ _ us hl => match us, hl with | [_], _ => rfl
  have Frd := fun_mk (st := rmeth 1) lrd drd krd
  have brd := Frd.binds (ps := ["works", "text"]) fun _ _ _ _ _ _ us hl => match us, hl with | [_, _], _ => rfl
  have nW := PySem.W.mg_of X G aW
  have nR := PySem.W.mg_of X G aR
  have kbR : KBn K (PySem.W.fnOf "read" "Rule.read" (defArgs (rmeth 1)) (defBody (rmeth 1)) (defScope (rmeth 1)) .none kVrd dcrd pmrd anrd cdrd ctrd) ["works", "text"] 0 ["text", "works"] (fun us ws => us ++ ws.reverse) (fun vs zs => vs ++ zs.reverse) :=
    ⟨fun s us ws X l1 l2 => match us, l1, ws, l2 with | [], _, [_, _], _ => .of_eq rfl, fun r1 r2 => r1.append (by
      have rev : ∀ {vs : List V} {us : List Value}, Vals vs us → Vals vs.reverse us.reverse := by
        intro vs us r
        induction r with
        | nil => exact .nil
        | cons h t ih =>
          rw [List.reverse_cons, List.reverse_cons]
          exact ih.append (.cons h .nil)
      exact rev r2)⟩
  let T : List NTab := [(P1, lamName)]
  have only1 : ∀ r ∈ T, r.1 = P1 → r.2 = lamName := fun r hr e => by
    obtain rfl := List.mem_singleton.mp hr
    rfl
  have E : Empty K h [(c1, P1)] := by
    constructor
    · intro q hq
      obtain rfl := List.mem_singleton.mp hq
      exact TS _ inT
    · intro q hq
      obtain rfl := List.mem_singleton.mp hq
      exact t2
    · intro q hq
      obtain rfl := List.mem_singleton.mp hq
      exact PySem.W.codeHd_of_K X t1
  refine ⟨PySem.W.fnOf "law" "law" (defArgs (top 67)) (defBody (top 67)) (defScope (top 67)) .none kVlaw dclaw pmlaw anlaw cdlaw ctlaw, [(c1, P1)], spLaw T K, E, fun s v => .of_eq rfl, fun H a ns hl ht hS => ⟨a, ns, rfl, hS, hl, fun r hr => ?_, fun _ => rfl⟩, fun base XB GB TB => ?_⟩
  · obtain rfl := List.mem_singleton.mp hr
    exact ⟨#[], ht (c1, P1) (List.mem_cons_self ..), trivial, fun pos v hv => nomatch hv⟩
  · have TB1 := TB (c1, P1) (List.mem_cons_self ..)
    have GI := ok_int (P := l.prog) (w := w) (base := base) (mg := mg) Fint BI
    have GN := ok_name (P := l.prog) (w := w) (base := base) (mg := mg) Fnam BI m0 r0
    have GNd := ok_named (P := l.prog) (w := w) (base := base) (mg := mg) Fnmd BI GN nnam knam bnam
    have GB := ok_bnds (P := l.prog) (w := w) (base := base) (mg := mg) Fbnd BI GI nint kint bInt
    have GS := ok_shar (P := l.prog) (w := w) (base := base) (mg := mg) Fshr GNd nnmd knmd bnmd GB nbnd kbnd bbnd m5 r5
    have GL := ok_lim (P := l.prog) (w := w) (base := base) (mg := mg) Flim GNd nnmd knmd bnmd GI nint kint bInt m6 r6
    have GC := ok_cont (P := l.prog) (w := w) (base := base) (mg := mg) Fcon BI GNd nnmd knmd bnmd GB nbnd kbnd bbnd m6 r6
    have GF := ok_first (P := l.prog) (w := w) (base := base) (mg := mg) Ffst BI GS kshr bshr GL klim blim
    have GK := ok_check (P := l.prog) (w := w) (base := base) (mg := mg) (T := T) Fchk rfl TB1 (List.mem_cons_self ..) only1 BI Ffst GF nfst kfst bfst GC ncon kcon bcon nshr nlim m1 r1 m2 r2 m3 r3 m4 r4
    have GBy := ok_by (P := l.prog) (w := w) (base := base) (mg := mg) Fby BZ
    have GLi := ok_line (P := l.prog) (w := w) (base := base) (mg := mg) Flin 
    have GT := ok_text (P := l.prog) (w := w) (base := base) (mg := mg) Ftxt GLi nlin klin blin
    have GIn := ok_init (P := l.prog) (w := w) (base := base) (mg := mg) Fini WC GK nchk kchk bchk GBy nby kby bby GT ntxt ktxt btxt
    have GBt := ok_br (P := l.prog) (w := w) (base := base) (mg := mg) Fblt hT MK nW GIn bini
    have GD := ok_dip (P := l.prog) (w := w) (base := base) (mg := mg) Fdip Bl
    have GO := ok_one (P := l.prog) (w := w) (base := base) (mg := mg) Fone Bl Fdip bdip ndip
    have GOS := ok_oneS (P := l.prog) (w := w) (base := base) (mg := mg) Fone hLen GD kdip bdip ndip
    have GJ := ok_jar (P := l.prog) (w := w) (base := base) (mg := mg) Fjar Bl
    have GNm := ok_names (P := l.prog) (w := w) (base := base) (mg := mg) Fnms BN GD ndip kdip bdip GO nOne kone bone
    have GBn := ok_bnT (P := l.prog) (w := w) (base := base) (mg := mg) Fbnt BB GD ndip kdip bdip GO nOne kone bone
    have GCn := ok_cnT (P := l.prog) (w := w) (base := base) (mg := mg) Fcnt GD ndip kdip bdip GO nOne kone bone GBn nbnt kbnt bbnt
    have GWk := ok_sk (P := l.prog) (w := w) (base := base) (mg := mg) Fwks BK GD ndip kdip bdip GO nOne kone bone GNm nnms knms bnms GBn nbnt kbnt bbnt GCn ncnt kcnt bcnt
    have GCl := ok_cld (P := l.prog) (w := w) (base := base) (mg := mg) Fcld 
    have GTb := ok_tab (P := l.prog) (w := w) (base := base) (mg := mg) (C := C) Ftbl BT GD ndip kdip bdip GO nOne kone bone GCl ncld kcld bcld
    have GBo := ok_bo (P := l.prog) (w := w) (base := base) (mg := mg) Fbon GO nOne kone bone GCl ncld kcld bcld GTb ntbl ktbl btbl
    have GRt := ok_rt (P := l.prog) (w := w) (base := base) (mg := mg) Frtx 
    have GRs := ok_rs (P := l.prog) (w := w) (base := base) (mg := mg) Flrs BRs GCl ncld kcld bcld
    have GTw := ok_tw (P := l.prog) (w := w) (base := base) (mg := mg) Ftwi BTw GD ndip kdip bdip GO GOS nOne kone bone GCl ncld kcld bcld
    have GPM := ok_get2 (P := l.prog) (w := w) (base := base) (mg := mg) Fpm WC
    have GPC := ok_get3 (P := l.prog) (w := w) (base := base) (mg := mg) Fpc WC
    have GPP := ok_get5 (P := l.prog) (w := w) (base := base) (mg := mg) Fpp WC
    have GCw := ok_cw (P := l.prog) (w := w) (base := base) (mg := mg) Fcw BI WC nW WI
    have GNo := ok_no (P := l.prog) (w := w) (base := base) (mg := mg) Fnof BI
    have GCnN := ok_cnN (P := l.prog) (w := w) (base := base) (mg := mg) Fcnm UU GNo nnof knof bnof
    have GIc := ok_ic (P := l.prog) (w := w) (base := base) (mg := mg) Ficl BI WC mD rD ⟨_, _, _, pLook_of pL (by repeat (first | exact List.mem_cons_self .. | apply List.mem_cons_of_mem)) apc rpc, GPC, bpc⟩ GNo nnof knof bnof
    have GIr := ok_ir (P := l.prog) (w := w) (base := base) (mg := mg) Firw BI WC ⟨_, _, _, pLook_of pL (by repeat (first | exact List.mem_cons_self .. | apply List.mem_cons_of_mem)) app rpp, GPP, bpp⟩ GNo nnof knof bnof GIc nicl kicl bicl
    have GCt := ok_ct (P := l.prog) (w := w) (base := base) (mg := mg) Fctb BI eB GIr nirw kirw birw
    have GRi := ok_ri (P := l.prog) (w := w) (base := base) (mg := mg) Frin RCL WC ⟨_, _, _, pLook_of pL (by repeat (first | exact List.mem_cons_self .. | apply List.mem_cons_of_mem)) apm rpm, GPM, bpm⟩ GCw ncw kcw bcw GCnN ncnm kcnm bcnm GCt nctb kctb bctb
    have GRr := ok_rr (P := l.prog) (w := w) (base := base) (mg := mg) Frd BI eT UU eB fitU fitB GCw ncw kcw bcw MKR GRi nR brin
    have GEq := ok_eq (P := l.prog) (w := w) (base := base) (mg := mg) Feqw WC BS nW WI
    have GRq := ok_req (P := l.prog) (w := w) (base := base) (mg := mg) Freq RCL WC BS nR RI (MW "__eq__" geqw (by repeat (first | exact List.mem_cons_self .. | apply List.mem_cons_of_mem))) GEq beqw
    have GRst := ok_rst (P := l.prog) (w := w) (base := base) (mg := mg) Frst RCL BS
    have GRMC := ok_rg3 (P := l.prog) (w := w) (base := base) (mg := mg) Frmc RCL
    have GRTB := ok_rg4 (P := l.prog) (w := w) (base := base) (mg := mg) Frtb RCL
    have GLir := ok_lir (P := l.prog) (w := w) (base := base) (mg := mg) Flir hRp hStr nR RCL GRs nlrs klrs blrs (mc := .type "type") ⟨s1, s2⟩ ⟨s3, ard, ⟨_, rrd⟩, krd⟩ GRr brd kbR ⟨_, _, _, pLook_of pL (by repeat (first | exact List.mem_cons_self .. | apply List.mem_cons_of_mem)) armc rrmc, GRMC, brmc⟩ ⟨_, _, _, pLook_of pL (by repeat (first | exact List.mem_cons_self .. | apply List.mem_cons_of_mem)) artb rrtb, GRTB, brtb⟩ (MR "__eq__" greq (by repeat (first | exact List.mem_cons_self .. | apply List.mem_cons_of_mem))) GRq breq (MR "__str__" grst (by repeat (first | exact List.mem_cons_self .. | apply List.mem_cons_of_mem))) GRst brst eT fitT
    have GR := ok_rgt (P := l.prog) (w := w) (base := base) (mg := mg) Frig hRg GWk nwks kwks bwks GBt nblt kblt bblt GD ndip kdip bdip GO nOne kone bone GBo nbon kbon bbon GRt nrtx krtx brtx GLir nlir klir blir GTw ntwi ktwi btwi
    exact ok_law Flaw BM GR nrig krig brig GJ njar kjar bjar
end LJ
set_option Elab.async false
open PySem PySem.W PyProof.Rows
set_option maxRecDepth 100000 in
set_option maxHeartbeats 0 in
theorem PySem.Challenge.cw_tracebounds_k29_whole_texts_of_rules_holds : PySem.Challenge.rw_tracebounds_k29_whole_texts_of_rules.Holds := by
  w_on; o_law; k_head; (case hw => w_witness2)
  k_fill
  refine L2.walk_gt (l := PySem.Challenge.rw_tracebounds_k29_whole_texts_of_rules) (n := 63) (k := 12) (x := "_law_cells") rfl (by decide) rfl ⟨rfl, by decide, by decide⟩ ?F
  intro w mg fa h Y G hmg
  refine ⟨_, PySem.W.km_in_of Y, ?_⟩
  have TS := PySem.W.km_tabs_of Y
  refine' LJ.all_mk (P1 := 347) (PySem.W.km_in_of Y) G hmg TS ?aint ?lint ?dint ?kint ?anam ?lnam ?dnam ?knam ?aby ?lby ?dby ?kby ?achk ?lchk ?dchk ?kchk ?afst ?lfst ?dfst ?kfst ?ashr ?lshr ?dshr ?kshr ?alim ?llim ?dlim ?klim ?acon ?lcon ?dcon ?kcon ?anmd ?lnmd ?dnmd ?knmd ?abnd ?lbnd ?dbnd ?kbnd ?atxt ?ltxt ?dtxt ?ktxt ?alin ?llin ?dlin ?klin ?acw ?lcw ?dcw ?kcw ?anof ?lnof ?dnof ?knof ?acnm ?lcnm ?dcnm ?kcnm ?actb ?lctb ?dctb ?kctb ?airw ?lirw ?dirw ?kirw ?aicl ?licl ?dicl ?kicl ?ajar ?ljar ?djar ?kjar ?adip ?ldip ?ddip ?kdip ?aone ?lone ?done ?kone ?anms ?lnms ?dnms ?knms ?abnt ?lbnt ?dbnt ?kbnt ?acnt ?lcnt ?dcnt ?kcnt ?awks ?lwks ?dwks ?kwks ?ablt ?lblt ?dblt ?kblt ?acld ?lcld ?dcld ?kcld ?atbl ?ltbl ?dtbl ?ktbl ?abon ?lbon ?dbon ?kbon ?artx ?lrtx ?drtx ?krtx ?alrs ?llrs ?dlrs ?klrs ?atwi ?ltwi ?dtwi ?ktwi ?alir ?llir ?dlir ?klir ?arig ?lrig ?drig ?krig ?alaw ?llaw ?dlaw ?klaw ?aW ?aR ?aini ?lini ?dini ?kini ?aeqw ?leqw ?deqw ?keqw ?arin ?lrin ?drin ?krin ?areq ?lreq ?dreq ?kreq ?arst ?lrst ?drst ?krst ?apm ?rpm ?lpm ?dpm ?kpm ?apc ?rpc ?lpc ?dpc ?kpc ?app ?rpp ?lpp ?dpp ?kpp ?armc ?rrmc ?lrmc ?drmc ?krmc ?artb ?rrtb ?lrtb ?drtb ?krtb ?ard ?rrd ?lrd ?drd ?krd ?aEU ?iEU ?lEU ?dEU ?aEB ?iEB ?lEB ?dEB ?aET ?iET ?lET ?dET ?outL ?cL ?stL ?wL ?pcL ?mL ?mR ?pL ?iL ?riL ?sL ?eLU ?eLB ?eLT ?fL ?tL ?inT
  (case aint => k_is)
  (case lint => k_is)
  (case dint => k_is)
  (case kint => k_is)
  (case anam => k_is)
  (case lnam => k_is)
  (case dnam => k_is)
  (case knam => k_is)
  (case aby => k_is)
  (case lby => k_is)
  (case dby => k_is)
  (case kby => k_is)
  (case achk => k_is)
  (case lchk => k_is)
  (case dchk => k_is)
  (case kchk => k_is)
  (case afst => k_is)
  (case lfst => k_is)
  (case dfst => k_is)
  (case kfst => k_is)
  (case ashr => k_is)
  (case lshr => k_is)
  (case dshr => k_is)
  (case kshr => k_is)
  (case alim => k_is)
  (case llim => k_is)
  (case dlim => k_is)
  (case klim => k_is)
  (case acon => k_is)
  (case lcon => k_is)
  (case dcon => k_is)
  (case kcon => k_is)
  (case anmd => k_is)
  (case lnmd => k_is)
  (case dnmd => k_is)
  (case knmd => k_is)
  (case abnd => k_is)
  (case lbnd => k_is)
  (case dbnd => k_is)
  (case kbnd => k_is)
  (case atxt => k_is)
  (case ltxt => k_is)
  (case dtxt => k_is)
  (case ktxt => k_is)
  (case alin => k_is)
  (case llin => k_is)
  (case dlin => k_is)
  (case klin => k_is)
  (case acw => k_is)
  (case lcw => k_is)
  (case dcw => k_is)
  (case kcw => k_is)
  (case anof => k_is)
  (case lnof => k_is)
  (case dnof => k_is)
  (case knof => k_is)
  (case acnm => k_is)
  (case lcnm => k_is)
  (case dcnm => k_is)
  (case kcnm => k_is)
  (case actb => k_is)
  (case lctb => k_is)
  (case dctb => k_is)
  (case kctb => k_is)
  (case airw => k_is)
  (case lirw => k_is)
  (case dirw => k_is)
  (case kirw => k_is)
  (case aicl => k_is)
  (case licl => k_is)
  (case dicl => k_is)
  (case kicl => k_is)
  (case ajar => k_is)
  (case ljar => k_is)
  (case djar => k_is)
  (case kjar => k_is)
  (case adip => k_is)
  (case ldip => k_is)
  (case ddip => k_is)
  (case kdip => k_is)
  (case aone => k_is)
  (case lone => k_is)
  (case done => k_is)
  (case kone => k_is)
  (case anms => k_is)
  (case lnms => k_is)
  (case dnms => k_is)
  (case knms => k_is)
  (case abnt => k_is)
  (case lbnt => k_is)
  (case dbnt => k_is)
  (case kbnt => k_is)
  (case acnt => k_is)
  (case lcnt => k_is)
  (case dcnt => k_is)
  (case kcnt => k_is)
  (case awks => k_is)
  (case lwks => k_is)
  (case dwks => k_is)
  (case kwks => k_is)
  (case ablt => k_is)
  (case lblt => k_is)
  (case dblt => k_is)
  (case kblt => k_is)
  (case acld => k_is)
  (case lcld => k_is)
  (case dcld => k_is)
  (case kcld => k_is)
  (case atbl => k_is)
  (case ltbl => k_is)
  (case dtbl => k_is)
  (case ktbl => k_is)
  (case abon => k_is)
  (case lbon => k_is)
  (case dbon => k_is)
  (case kbon => k_is)
  (case artx => k_is)
  (case lrtx => k_is)
  (case drtx => k_is)
  (case krtx => k_is)
  (case alrs => k_is)
  (case llrs => k_is)
  (case dlrs => k_is)
  (case klrs => k_is)
  (case atwi => k_is)
  (case ltwi => k_is)
  (case dtwi => k_is)
  (case ktwi => k_is)
  (case alir => k_is)
  (case llir => k_is)
  (case dlir => k_is)
  (case klir => k_is)
  (case arig => k_is)
  (case lrig => k_is)
  (case drig => k_is)
  (case krig => k_is)
  (case alaw => k_is)
  (case llaw => k_is)
  (case dlaw => k_is)
  (case klaw => k_is)
  (case aW => k_is)
  (case aR => k_is)
  (case aini => k_is)
  (case lini => k_is)
  (case dini => k_is)
  (case kini => k_is)
  (case aeqw => k_is)
  (case leqw => k_is)
  (case deqw => k_is)
  (case keqw => k_is)
  (case arin => k_is)
  (case lrin => k_is)
  (case drin => k_is)
  (case krin => k_is)
  (case areq => k_is)
  (case lreq => k_is)
  (case dreq => k_is)
  (case kreq => k_is)
  (case arst => k_is)
  (case lrst => k_is)
  (case drst => k_is)
  (case krst => k_is)
  (case apm => k_is)
  (case rpm => k_is)
  (case lpm => k_is)
  (case dpm => k_is)
  (case kpm => k_is)
  (case apc => k_is)
  (case rpc => k_is)
  (case lpc => k_is)
  (case dpc => k_is)
  (case kpc => k_is)
  (case app => k_is)
  (case rpp => k_is)
  (case lpp => k_is)
  (case dpp => k_is)
  (case kpp => k_is)
  (case armc => k_is)
  (case rrmc => k_is)
  (case lrmc => k_is)
  (case drmc => k_is)
  (case krmc => k_is)
  (case artb => k_is)
  (case rrtb => k_is)
  (case lrtb => k_is)
  (case drtb => k_is)
  (case krtb => k_is)
  (case ard => k_is)
  (case rrd => k_is)
  (case lrd => k_is)
  (case drd => k_is)
  (case krd => k_is)
  (case aEU => k_is)
  (case iEU => k_is)
  (case lEU => k_is)
  (case dEU => k_is)
  (case aEB => k_is)
  (case iEB => k_is)
  (case lEB => k_is)
  (case dEB => k_is)
  (case aET => k_is)
  (case iET => k_is)
  (case lET => k_is)
  (case dET => k_is)
  (case outL => kernel_rfl)
  (case cL => kernel_rfl)
  (case stL => kernel_rfl)
  (case wL => kernel_rfl)
  (case pcL => kernel_rfl)
  (case mL => kernel_rfl)
  (case mR => kernel_rfl)
  (case pL => kernel_rfl)
  (case iL => kernel_rfl)
  (case riL => kernel_rfl)
  (case sL => kernel_rfl)
  (case eLU => kernel_rfl)
  (case eLB => kernel_rfl)
  (case eLT => kernel_rfl)
  (case fL => kernel_rfl)
  (case tL => kernel_rfl)
  (case inT => decide)
