import PyProof.Rows.All
import Wide.All
import OpenK.AllK
import Wide.FinOn
import HandS.ForSpec
import HandS.ForMost
import HandS.ExcInit
import HandS.ExcValue
import HandS.ExcIs
import HandS.ExcField
import HandS.MakeKwOnly
import KE.KExcInit
import HandS.IsInst
import PyProof.ReprRoads
import HandS.Nested
import HandS.Iter
import KE.GoesMore
import HandS.Flow
import HandS.Walk
import HandS.DictComp
import HandS.Zip
import HandS.FStr
import HandS.Text
import HandS.ExcOwn
import HandS.Defaults
import HandS.Exc
import HandS.Steps
import HandS.TupAny
import HandS.Conv
import HandS.EndTab
import KE.KNestM
import PySem.Challenge.RW_tracebounds_k04_works_refused
set_option Elab.async false
set_option linter.all false
set_option maxRecDepth 100000
set_option maxHeartbeats 4000000
/-! Errors of one's own, over any base, made by position or by name. -/
namespace PySem
namespace ErrV
open PySem.W PySem.Calls PyProof.Rows
open Builtin Builtin.ObjectAttr
/-- own classes in front, then the base's own row -/
def rowOver (B : List Value) : List Value → Bool
  | .ref _ :: r => rowOver B r
  | l => l == B
theorem rowOver_two (B l : List Value) (e : rowOver B l = true) :
    (∃ c r, l = .ref c :: r ∧ rowOver B r = true) ∨ l = B := by
  unfold rowOver at e
  split at e
  · exact .inl ⟨_, _, rfl, e⟩
  · exact .inr (beq_iff_eq.mp e)
/-- what is asked of the built-in base -/
structure BaseOk (B nw ini : String) (bm : List Value) : Prop where
  F : ExcBaseFacts B nw ini bm
  S : StoreFacts B bm "object.__setattr__" "object"
section
variable {B nw ini : String} {bm : List Value}
theorem rowOver_has (T : BaseOk B nw ini bm) (Y : String) :
    ∀ l : List Value, rowOver bm l = true → l.contains (.type Y) = bm.contains (.type Y) := by
  intro l
  induction l with
  | nil =>
    intro e
    rcases rowOver_two _ _ e with ⟨_, _, z, _⟩ | z
    · cases z
    · rw [z]
  | cons a r ih =>
    intro e
    rcases rowOver_two _ _ e with ⟨c, r1, z, h⟩ | z
    · obtain ⟨z1, z2⟩ := List.cons.inj z
      subst z1
      subst z2
      rw [List.contains_cons, ih h]
      rfl
    · rw [z]
theorem rowOver_lets (T : BaseOk B nw ini bm) (self : Value) :
    ∀ l : List Value, rowOver bm l = true → refuseLoop self "__setattr__" l = pure () := by
  intro l
  induction l with
  | nil =>
    intro e
    rcases rowOver_two _ _ e with ⟨_, _, z, _⟩ | z
    · cases z
    · rw [z]
      exact T.S.passes self
  | cons a r ih =>
    intro e
    rcases rowOver_two _ _ e with ⟨c, r1, z, h⟩ | z
    · obtain ⟨z1, z2⟩ := List.cons.inj z
      subst z1
      subst z2
      rw [refuseLoop_ref]
      exact ih h
    · rw [z]
      exact T.S.passes self
theorem rowOver_some (T : BaseOk B nw ini bm) {l : List Value} (e : rowOver bm l = true) : l.isEmpty = false := by
  cases l with
  | cons _ _ => rfl
  | nil =>
    have z := rowOver_has T B [] e
    rw [T.F.hasB] at z
    cases z
end
section
variable {prog : Program} {w : World} {A : Around} {E : Value → Shared → Prop} {R : Result → Shared → Prop}
variable {hp : Heap} {g : Array GenState} {d : Drawn} {t : Nat} {os : OsState} {B nw ini : String} {bmB : List Value}
/-- the object as BaseException.__new__ lays it -/
abbrev fresh (C u : Addr) (dd : Option Addr) : Obj :=
  { cls := .ref C, dict := dd, data := .fields #[.ref u, .none, .none, .none, .bool false, .none] }
/-- self.name = v where the error has no dict so far -/
theorem put_first {K : W.Frag} {name : Str} {tk : Tok} {v : Value} {x C u : Addr} {cd : ClassData} (T : BaseOk B nw ini bmB)
    (X : K.In hp) (hx : hp.get? x = some (fresh C u none)) (hcd : W.clsIn K C = some cd) (hm : rowOver bmB cd.mro = true)
    (hh : cd.hasDict = true) (ha : W.findIn K (.ref C) name = some none)
    (hq : ∀ h1 t1 dx, (∀ b o, b ≠ x → hp.get? b = some o → h1.get? b = some o) → hp.objs.size ≤ dx → dx ≠ x →
      h1.get? x = some (fresh C u (some dx)) → h1.Ns1 dx (fun y => if y = name then some v else none) →
      R (.ok (.ret .none)) ⟨h1, g, d, t1, os⟩) :
    codeAny (model prog w) A (.call (.builtin "object.__setattr__") ⟨[.ref x, .str name tk, v], []⟩) R ⟨hp, g, d, t, os⟩ := by
  have J : W.InstAt hp x (fresh C u none) C none := ⟨hx, rfl, rfl, trivial⟩
  have G := F.store_object
  have obj : cd.mro.contains (.type "object") = true := (rowOver_has T "object" _ hm).trans T.S.hasOwner
  have far : x ≠ hp.objs.size := Nat.ne_of_lt (Heap.lt_size hx)
  have of_obj : W.Looks (model prog w) hp (isInstance (.ref x) (.type "object")) true :=
    J.type.andThen (W.looks_mroIn X (by
      unfold W.mroIn
      rw [hcd, Option.bind_some, if_neg (by rw [rowOver_some T hm]; decide), obj]))
  refine codeAny_call_builtin G.slot.plain G.entry ?_
  refine @W.check_slot (model prog w) _ _ ⟨hp, g, d, t, os⟩ "object.__setattr__" "object" "__setattr__" (.ref x)
    [.str name tk, v] [] _ G.kind G.split of_obj (G.args (.ref x) (.str name tk) v) ?_
  have Lm : W.Looks (model prog w) hp (mroOf (.ref C)) cd.mro := (W.looks_clsIn X hcd).andThen .now
  have Lt : W.Looks (model prog w) hp (storeTaker? none) none := .now
  have Lc : W.Looks (model prog w) hp (classData C) cd := W.looks_clsIn X hcd
  rw [W.osa_eq, refuse_eq]
  refine wpAny_bind (wpAny_bind (J.type.at (wpAny_bind (Lm.at ?_))))
  rw [rowOver_lets T _ _ hm]
  refine wpAny_pure (wpAny_bind (J.type.at (wpAny_bind ((W.looks_findIn X ha).at (wpAny_bind (Lt.at ?_))))))
  show wpAny _ _ (storeInOwnDict (.ref x) (.ref C) (.str name tk) name v false) _ _ _
  obtain ⟨nm, bs, mro, ns, qn, hd, sn, sb, ab, col, del⟩ := cd
  dsimp only at hh
  subst hh
  unfold storeInOwnDict ownDictForStores
  repeat (first
    | with_reducible refine HandSPX.store_in_new ?_ ?_
    | with_reducible refine wpAny_loadPart_at hx ?_
    | with_reducible refine Lc.at ?_
    | wp_step)
  · refine ⟨_, #[], _, (Heap.get?_update_ne _ _ _ _ far.symm).trans (Heap.get?_push_at rfl rfl), rfl, ?_, fun _ => rfl⟩
    intro e he
    exact absurd he (by simp)
  · intro h1 t1 hn same
    have hx1 : (hp.push { cls := .type "dict", data := .dict #[] }).get? x = some (fresh C u none) := Heap.get?_push_of_some _ hx
    refine hq h1 t1 hp.objs.size (fun b o hb ho => ?_) (Nat.le_refl _) far.symm ?_ hn
    · refine (same.2 b (Nat.ne_of_lt (Heap.lt_size ho))).trans ?_
      exact (Heap.get?_update_ne _ _ _ _ hb).trans (Heap.get?_push_of_some _ ho)
    · exact (same.2 x far).trans (Heap.get?_update_self _ hx1 rfl)
end
/-! ### the class is called -/
section
variable {prog : Program} {w : World} {A : Around} {E : Value → Shared → Prop} {R : Result → Shared → Prop} {h : Heap}
variable {g : Array GenState} {d : Drawn} {t : Nat} {os : OsState} {M : Model}
variable {nm q : Str} {C N : Addr} {bs bm bmB : List Value} {hdct : Bool} {sn : List Str} {sub : List Value} {ab : Bool}
variable {col : Option Bool} {dd : Option Addr} {k0 k1 k2 k3 k5 : Option Value} {B nw ini : String}
variable {rest : List Value} {kw : List (Str × Value)}
theorem new_checked (F : ExcBaseFacts B nw ini bmB) (hT : ∀ Y : String, bm.contains (.type Y) = bmB.contains (.type Y)) {Q : Unit → Shared → Prop}
    (hC : h.get? C = some (excClassObj nm q C N bs bm hdct sn sub ab col dd k0 k1 k2 k3 k5 nw)) (hq : Q () ⟨h, g, d, t, os⟩) :
    wpAny M A (checkBuiltinCall nw ⟨.ref C :: rest, kw⟩) Q E ⟨h, g, d, t, os⟩ := by
  have inB : (Value.ref C :: bm).contains (.type B) = true := by
    rw [List.contains_cons, hT, F.hasB, Bool.or_true]
  have ns := F.noStar
  simp only [checkBuiltinCall, F.newKind, F.newSplit, F.newRow]
  repeat (first
    | refine wpAny_loadPart_at hC ?_
    | (refine wpAny_isSubtype_exc hC ?_; rw [inB])
    | refine wpAny_staticBase_exc hC ?_
    | refine wpAny_madeBy_exc hC ?_
    | simp only [bne_self_eq_false, Bool.false_eq_true, if_false]
    | wp_step)
  exact hq
theorem new_laid (F : ExcBaseFacts B nw ini bmB) (hT : ∀ Y : String, bm.contains (.type Y) = bmB.contains (.type Y))
    (hC : h.get? C = some (excClassObj nm q C N bs bm hdct sn sub ab col dd k0 k1 k2 k3 k5 nw)) (hrest : rest.length ≤ sizeLine)
    (hq : R (.ok (.ret (.ref (h.objs.size + 1)))) ⟨(h.push (W.kdv_tup rest)).push (fresh C h.objs.size none), g, d, t, os⟩) :
    codeAny (model prog w) A (.builtin nw ⟨.ref C :: rest, kw⟩) R ⟨h, g, d, t, os⟩ := by
  have ends := F.ends
  have inB : (Value.ref C :: bm).contains (.type B) = true := by
    rw [List.contains_cons, hT, F.hasB, Bool.or_true]
  have noA : (Value.ref C :: bm).contains (.type "AttributeError") = false := by
    rw [List.contains_cons, hT, F.noAttr]
    rfl
  have noN : (Value.ref C :: bm).contains (.type "NameError") = false := by
    rw [List.contains_cons, hT, F.noName]
    rfl
  refine codeAny_builtinAt F.entry ?_
  unfold Builtin.«BaseException.__new__»
  refine wpAt_bind ?_
  show wpAt _ _ _ (stack >>= _) _ _ _
  refine wpAt_bind (wpAt_stack fun p below => wpAt_of_wpAny ?_)
  wp_walk
  refine wpAt_of_wpAny ?_
  rw [F.owner]
  repeat (first
    | with_reducible refine wpAny_madeHere_exc F.canon hC ?_
    | with_reducible refine wpAny_loadPart_at hC ?_
    | (with_reducible refine wpAny_isSubtype_exc hC ?_; first | rw [inB] | rw [noA] | rw [noN])
    | wp_step)
  show R _ _
  rw [Heap.size_push]
  exact hq
theorem type_called (F : ExcBaseFacts B nw ini bmB) (hT : ∀ Y : String, bm.contains (.type Y) = bmB.contains (.type Y)) {fI : Addr} {Q : Fin → Shared → Prop}
    (hC : h.get? C = some (excClassObj nm q C N bs bm hdct sn sub ab col dd k0 k1 k2 k3 k5 nw)) (hrest : rest.length ≤ sizeLine)
    (hi : W.Looks (model prog w) h (typeLookup (.ref C) "__init__") (some (.ref fI)))
    (hb : ∀ self, W.Looks (model prog w) h (bindSpecial (.ref fI) self) (.ref fI, [self]))
    (hq : codeAny (model prog w) A (.call (.ref fI) ⟨.ref (h.objs.size + 1) :: rest, kw⟩)
      (fun r s1 => match r with
        | .ok (.ret v) => v = .none ∧ Q (.done (.ret (.ref (h.objs.size + 1)))) s1
        | .ok _ => False
        | .error e => E e s1)
      ⟨(h.push (W.kdv_tup rest)).push (fresh C h.objs.size none), g, d, t, os⟩) :
    wpAny (model prog w) A (Builtin.«type.__call__» ⟨.ref C :: rest, kw⟩) Q E ⟨h, g, d, t, os⟩ := by
  repeat (first
    | with_reducible refine wpAny_loadPart_at hC ?_
    | with_reducible refine wpAny_madeBy_exc hC ?_
    | wp_step)
  refine codeAny_call_builtin_code (Code.quiet_builtin _ F.quiet) (new_checked F hT hC ?_)
  refine new_laid F hT hC hrest ?_
  show wpAny _ _ _ _ _ _
  have k : ∀ b o, h.get? b = some o → ((h.push (W.kdv_tup rest)).push (fresh C h.objs.size none)).get? b = some o :=
    fun b o e => Heap.get?_push_of_some _ (Heap.get?_push_of_some _ e)
  have hC1 := k _ _ hC
  have at1 : ((h.push (W.kdv_tup rest)).push (fresh C h.objs.size none)).get? (h.objs.size + 1) = some (fresh C h.objs.size none) := by
    heap_get
  have inC : (Value.ref C :: bm).contains (.ref C) = true := by simp
  have i1 := hi.keeps k
  have b1 := (hb (.ref (h.objs.size + 1))).keeps k
  unfold isInstance
  repeat (first
    | with_reducible refine wpAny_loadPart_at at1 ?_
    | (with_reducible refine wpAny_isSubtype_exc hC1 ?_; rw [inC])
    | wp_step)
  show wpAny _ _ (typeLookup (.ref C) _) _ _ _
  refine i1.at ?_
  refine wpAny_holding (wpAny_bind (b1.at ?_))
  refine wpAny_bind (wpAny_call (codeAny_mono hq fun r s1 z => ?_))
  rcases r with e | (v | _ | _ | _) <;> first | exact z | exact z.elim | skip
  obtain ⟨rfl, z⟩ := z
  first
    | exact wpAny_pure (wpAny_pure z)
    | (wp_walk; exact z)
theorem call_checked {Q : Unit → Shared → Prop}
    (hC : h.get? C = some (excClassObj nm q C N bs bm hdct sn sub ab col dd k0 k1 k2 k3 k5 nw)) (hq : Q () ⟨h, g, d, t, os⟩) :
    wpAny M A (checkBuiltinCall "type.__call__" ⟨.ref C :: rest, kw⟩) Q E ⟨h, g, d, t, os⟩ := by
  have f3 := tc_sub
  have isT : (⟨h, g, d, t, os⟩ : Shared).TypeIs (.ref C) "type" := ⟨_, hC, rfl⟩
  simp only [checkBuiltinCall, tc_kind, tc_split]
  repeat (any_goals (first
    | assumption
    | with_reducible refine wpAny_loadPart_at hC ?_
    | with_reducible refine wpAny_onRaise ?_
    | with_reducible refine wpAny_map ?_
    | wp_step))
theorem class_called (F : ExcBaseFacts B nw ini bmB) (hT : ∀ Y : String, bm.contains (.type Y) = bmB.contains (.type Y)) {fI : Addr}
    (hC : h.get? C = some (excClassObj nm q C N bs bm hdct sn sub ab col dd k0 k1 k2 k3 k5 nw)) (hrest : rest.length ≤ sizeLine)
    (hi : W.Looks (model prog w) h (typeLookup (.ref C) "__init__") (some (.ref fI)))
    (hb : ∀ self, W.Looks (model prog w) h (bindSpecial (.ref fI) self) (.ref fI, [self]))
    (hq : codeAny (model prog w) (A.under (.builtin "type.__call__" ⟨.ref C :: rest, kw⟩)) (.call (.ref fI) ⟨.ref (h.objs.size + 1) :: rest, kw⟩)
      (W.InitBack (h.objs.size + 1) R) ⟨(h.push (W.kdv_tup rest)).push (fresh C h.objs.size none), g, d, t, os⟩) :
    codeAny (model prog w) A (.call (.ref C) ⟨rest, kw⟩) R ⟨h, g, d, t, os⟩ := by
  have f1 := tc_lookup
  have f2 := tc_bind (.ref C)
  have isT : (⟨h, g, d, t, os⟩ : Shared).TypeIs (.ref C) "type" := ⟨_, hC, rfl⟩
  refine codeAny_of_tree ?_
  show wpAny _ _ (callAny (.ref C) _) _ _ _
  repeat (any_goals (first
    | assumption
    | with_reducible refine wpAny_loadPart_at hC ?_
    | wp_step))
  refine ⟨rfl, ?_⟩
  refine codeAny_call_builtin_at (Code.quiet_builtin _ (by decide +kernel)) entry_typeCall ?_
  refine call_checked hC (type_called F hT hC hrest hi hb ?_)
  refine codeAny_mono hq fun r s1 z => ?_
  rcases r with e | (v | _ | _ | _) <;> exact z
end
end ErrV
end PySem
set_option Elab.async false
set_option linter.all false
set_option maxRecDepth 100000
set_option maxHeartbeats 4000000
namespace PySem
namespace ErrV
open PySem.W PySem.Calls PyProof.Rows
/-! ### the text of an error's __init__ -/
def eA (f : Str) (p1 p2 : Pos) : Arguments :=
  { posonlyargs := [], args := [{ arg := "self", annotation := none, pos := p1 }, { arg := f, annotation := none, pos := p2 }], vararg := none, kwonlyargs := [], kw_defaults := [], kwarg := none, defaults := [] }
def eB (f : Str) (q1 q2 q3 q4 : Pos) : List Stmt := [.Assign [.Attribute (.Name "self" q1) f q2] (.Name f q3) q4]
def eS (f : Str) : Scope :=
  { kind := .function, names := [(PySem.Str.ofString "self", .local), (f, .local)], isGenerator := false, isCoroutine := false, more := [] }
/-- what the written part says of an error's class, at C, and of its __init__, at fI -/
structure ErrC (K : Frag) (mg : Str → Option Value) (x f : Str) (C fI : Addr) (nw : String) (bmB : List Value) : Prop where
  gC : mg x = some (.ref C)
  cls : ∃ nm q N bs bm sn sub ab col dd k0 k1 k2 k3 k5,
    K.lookup C = some (excClassObj nm q C N bs bm true sn sub ab col dd k0 k1 k2 k3 k5 nw) ∧ rowOver bmB bm = true
  sa : findIn K (.ref C) "__setattr__" = some (some (.builtin "object.__setattr__"))
  noN : findIn K (.ref C) f = some none
  iC : findIn K (.ref C) "__init__" = some (some (.ref fI))
  tC : typeIn K (.ref fI) = some (.type "function")
  kC : keepIn K (.ref C) = true
  fn : ∃ (qual : Str) (oc : Value) (od : Option Addr) (doc pm : Value) (an : Option Addr) (cdv ct : Value) (osl : Array (Option Value)) (p1 p2 q1 q2 q3 q4 : Pos),
    K.lookup fI = some ⟨oc, od, .func (fnOf "__init__" qual (eA f p1 p2) (eB f q1 q2 q3 q4) (eS f) .none .none doc pm an cdv ct), osl⟩ ∧ codeIn K cdv qual = true
theorem ldL {M : Model} {s : Shared} {name : Str} {scope : Scope} {L a : Addr} {cd : Value} {m : Str → Option Value} {x : Str} {pos : Pos} {v : Value}
    {Q : Value → Shared → Prop} {A : Around} {E : Value → Shared → Prop} (hn : s.heap.Ns L m) (hv : m x = some v) (h : Q v s)
    (hk : scope.kind = .function := by rfl) (hl : (envOfC name scope L a cd).kindOf x = some .local := by rfl) (hd : (x == ("__debug__" : Str)) = false := by decide) :
    wpAny M A (eval (.Name x pos) (envOfC name scope L a cd)) Q E s :=
  wpAny_Name (wpAny_loadName_local hk hl hn hv h) hd
section
variable {prog : Program} {w : World} {A : Around} {E : Value → Shared → Prop} {R : Result → Shared → Prop} {s : Shared}
variable {K : Frag} {mg : Str → Option Value} {n f : Str} {C fI : Addr} {B nw ini : String} {bmB : List Value}
/-- __init__(self, f): self.f = f -/
theorem init_run (hf : f = "given" ∨ f = "index") (T : ErrC K mg n f C fI nw bmB) (Bo : BaseOk B nw ini bmB) {x t0 : Addr} {v : Value} {args : Args}
    (hargs : args = ⟨[.ref x, v], []⟩ ∨ args = ⟨[.ref x], [(f, v)]⟩)
    (X : K.In s.heap) (hlim : s.heap.NoLimit) (hx : s.heap.get? x = some (fresh C t0 none)) (hroom : A.depth < recursionLimit)
    (hq : ∀ h1 tk dx, (∀ b o, b ≠ x → s.heap.get? b = some o → h1.get? b = some o) → h1.get? x = some (fresh C t0 (some dx)) → s.heap.objs.size ≤ dx → dx ≠ x →
      h1.Ns1 dx (fun y => if y = f then some v else none) → R (.ok (.ret .none)) { s with heap := h1, toks := tk }) :
    codeAny (model prog w) A (.call (.ref fI) args) R s := by
  obtain ⟨qual, oc, od, doc, pm, an, cdv, ct, osl, p1, p2, q1, q2, q3, q4, ho, hcd⟩ := T.fn
  obtain ⟨nm, q, N, bs, bm, sn, sub, ab, col, dd, k0, k1, k2, k3, k5, hC, hbm⟩ := T.cls
  have hcl : clsIn K C = some { name := nm, bases := bs, mro := .ref C :: bm, ns := N, qualname := q, hasDict := true, slotNames := sn, subclasses := sub, abstract := ab, collection := col, hasDel := false } := by
    unfold clsIn
    rw [hC] <;> rfl
  have noN := T.noN
  have sa := T.sa
  clear T hC
  rcases hf with rfl | rfl
  · refine Att.call_fn (binds := [("self", .ref x), ("given", v)]) X hlim ho hcd hroom ?_ (by first | rfl | decide | with_unfolding_all rfl) (fun s1 IC => ?_) rfl rfl rfl
    · rcases hargs with rfl | rfl
      · exact BindsTo.of_eq (by first | rfl | with_unfolding_all rfl)
      · exact BindsTo.of_eq (by first | rfl | with_unfolding_all rfl)
    · obtain ⟨h1, tk1, rfl⟩ := IC.toInCall.same
      have k : ∀ b o, s.heap.get? b = some o → h1.get? b = some o := IC.toInCall.keep
      have hn := IC.toInCall.ns
      have far : s.heap.objs.size ≠ x := Nat.ne_of_gt (Heap.lt_size hx)
      have X1 : K.In h1 := X.keeps k
      have hx1 := k _ _ hx
      show wpAny _ _ (execs _ _) _ _ _
      refine wpAny_execs_cons (plainObj_wpAny_Assign_Attribute ?_)
      refine ldL (v := v) hn (by first | rfl | with_unfolding_all rfl | kernel_rfl) ?_
      refine ldL (v := .ref x) hn (by first | rfl | with_unfolding_all rfl | kernel_rfl) ?_
      refine set_plain X1 (ox := fresh C t0 none) (od := none) ⟨hx1, rfl, rfl, trivial⟩ sa ?_
      refine put_first Bo X1 hx1 hcl (show rowOver bmB (.ref C :: bm) = true from hbm) rfl noN (fun h3 tk3 dx k3 big ne hx3 hn3 => ?_)
      show wpAny _ _ (execs _ _) _ _ _
      have z : s.heap.objs.size < h1.objs.size := hn.lt
      exact wpAny_execs_nil (hq h3 tk3 dx (fun b o hb e => k3 b o hb (k b o e)) hx3 (Nat.le_of_lt (Nat.lt_of_lt_of_le z big)) ne hn3)
  · refine Att.call_fn (binds := [("self", .ref x), ("index", v)]) X hlim ho hcd hroom ?_ (by first | rfl | decide | with_unfolding_all rfl) (fun s1 IC => ?_) rfl rfl rfl
    · rcases hargs with rfl | rfl
      · exact BindsTo.of_eq (by first | rfl | with_unfolding_all rfl)
      · exact BindsTo.of_eq (by first | rfl | with_unfolding_all rfl)
    · obtain ⟨h1, tk1, rfl⟩ := IC.toInCall.same
      have k : ∀ b o, s.heap.get? b = some o → h1.get? b = some o := IC.toInCall.keep
      have hn := IC.toInCall.ns
      have far : s.heap.objs.size ≠ x := Nat.ne_of_gt (Heap.lt_size hx)
      have X1 : K.In h1 := X.keeps k
      have hx1 := k _ _ hx
      show wpAny _ _ (execs _ _) _ _ _
      refine wpAny_execs_cons (plainObj_wpAny_Assign_Attribute ?_)
      refine ldL (v := v) hn (by first | rfl | with_unfolding_all rfl | kernel_rfl) ?_
      refine ldL (v := .ref x) hn (by first | rfl | with_unfolding_all rfl | kernel_rfl) ?_
      refine set_plain X1 (ox := fresh C t0 none) (od := none) ⟨hx1, rfl, rfl, trivial⟩ sa ?_
      refine put_first Bo X1 hx1 hcl (show rowOver bmB (.ref C :: bm) = true from hbm) rfl noN (fun h3 tk3 dx k3 big ne hx3 hn3 => ?_)
      show wpAny _ _ (execs _ _) _ _ _
      have z : s.heap.objs.size < h1.objs.size := hn.lt
      exact wpAny_execs_nil (hq h3 tk3 dx (fun b o hb e => k3 b o hb (k b o e)) hx3 (Nat.le_of_lt (Nat.lt_of_lt_of_le z big)) ne hn3)
/-- a made error: at e, its dict at d -/
structure Made (h h1 : Heap) (e C d : Addr) (f : Str) (v : Value) : Prop where
  keep : ∀ b o, h.get? b = some o → h1.get? b = some o
  big : h.objs.size ≤ e
  obj : ∃ u, h1.get? e = some (fresh C u (some d))
  dbig : h.objs.size ≤ d
  ne : d ≠ e
  ns : h1.Ns1 d (fun y => if y = f then some v else none)
theorem err_made (hf : f = "given" ∨ f = "index") (T : ErrC K mg n f C fI nw bmB) (Bo : BaseOk B nw ini bmB) {v : Value} {rest : List Value} {kw : List (Str × Value)}
    (hargs : (rest = [v] ∧ kw = []) ∨ (rest = [] ∧ kw = [(f, v)])) (X : K.In s.heap) (hlim : s.heap.NoLimit) (hroom : A.depth + 1 < recursionLimit)
    (hq : ∀ h1 tk e d, Made s.heap h1 e C d f v → R (.ok (.ret (.ref e))) { s with heap := h1, toks := tk }) :
    codeAny (model prog w) A (.call (.ref C) ⟨rest, kw⟩) R s := by
  obtain ⟨nm, q, N, bs, bm, sn, sub, ab, col, dd, k0, k1, k2, k3, k5, hC, hbm⟩ := T.cls
  obtain ⟨hp, g, dr, tk, os⟩ := s
  have sz : rest.length ≤ sizeLine := by
    rw [sizeLine_eq]
    rcases hargs with ⟨rfl, _⟩ | ⟨rfl, _⟩
    · exact (by decide : 1 ≤ 16777216)
    · exact (by decide : 0 ≤ 16777216)
  have k : ∀ b o, hp.get? b = some o → ((hp.push (kdv_tup rest)).push (fresh C hp.objs.size none)).get? b = some o :=
    fun b o e => Heap.get?_push_of_some _ (Heap.get?_push_of_some _ e)
  have at1 : ((hp.push (kdv_tup rest)).push (fresh C hp.objs.size none)).get? (hp.objs.size + 1) = some (fresh C hp.objs.size none) := by heap_get
  refine class_called Bo.F (fun Y => rowOver_has Bo Y bm hbm) (X _ _ hC) sz (looks_findIn X T.iC) (fun self => bind_fn X self T.tC) ?_
  refine init_run (s := ⟨(hp.push (kdv_tup rest)).push (fresh C hp.objs.size none), g, dr, tk, os⟩) (x := hp.objs.size + 1) hf T Bo (v := v) ?_ (X.keeps k) (hlim.keeps k) at1 ?_ ?_
  · rcases hargs with ⟨rfl, rfl⟩ | ⟨rfl, rfl⟩
    · exact .inl rfl
    · exact .inr rfl
  · rw [L2.make_depth]
    exact hroom
  · intro h1 tk1 dx k1 hx big ne hns
    have old : ∀ b o, hp.get? b = some o → h1.get? b = some o :=
      fun b o e => k1 b o (Nat.ne_of_lt (Nat.lt_succ_of_lt (Heap.lt_size e))) (k b o e)
    have z : hp.objs.size + 1 + 1 ≤ dx := by
      have q := big
      simp only [Heap.size_push] at q
      exact q
    exact ⟨rfl, hq h1 tk1 (hp.objs.size + 1) dx ⟨old, Nat.le_succ _, ⟨_, hx⟩, Nat.le_trans (Nat.le_trans (Nat.le_succ _) (Nat.le_succ _)) z, ne, hns⟩⟩
end
/-! ### an error whose __init__ does nothing -/
def eA0 (p1 : Pos) : Arguments :=
  { posonlyargs := [], args := [{ arg := "self", annotation := none, pos := p1 }], vararg := none, kwonlyargs := [], kw_defaults := [], kwarg := none, defaults := [] }
def eS0 : Scope := { kind := .function, names := [(PySem.Str.ofString "self", .local)], isGenerator := false, isCoroutine := false, more := [] }
structure PassC (K : Frag) (mg : Str → Option Value) (x : Str) (C fI : Addr) (nw : String) (bmB : List Value) : Prop where
  gC : mg x = some (.ref C)
  cls : ∃ nm q N bs bm sn sub ab col dd k0 k1 k2 k3 k5,
    K.lookup C = some (excClassObj nm q C N bs bm true sn sub ab col dd k0 k1 k2 k3 k5 nw) ∧ rowOver bmB bm = true
  iC : findIn K (.ref C) "__init__" = some (some (.ref fI))
  tC : typeIn K (.ref fI) = some (.type "function")
  kC : keepIn K (.ref C) = true
  fn : ∃ (qual : Str) (oc : Value) (od : Option Addr) (doc pm : Value) (an : Option Addr) (cdv ct : Value) (osl : Array (Option Value)) (p1 q1 : Pos),
    K.lookup fI = some ⟨oc, od, .func (fnOf "__init__" qual (eA0 p1) [.Pass q1] eS0 .none .none doc pm an cdv ct), osl⟩ ∧ codeIn K cdv qual = true
section
variable {prog : Program} {w : World} {A : Around} {E : Value → Shared → Prop} {R : Result → Shared → Prop} {s : Shared}
variable {K : Frag} {mg : Str → Option Value} {n : Str} {C fI : Addr} {B nw ini : String} {bmB : List Value}
theorem pass_made (T : PassC K mg n C fI nw bmB) (Bo : BaseOk B nw ini bmB) (X : K.In s.heap) (hlim : s.heap.NoLimit) (hroom : A.depth + 1 < recursionLimit)
    (hq : ∀ h1 tk e u, (∀ b o, s.heap.get? b = some o → h1.get? b = some o) → s.heap.objs.size ≤ e → h1.get? e = some (fresh C u none) → R (.ok (.ret (.ref e))) { s with heap := h1, toks := tk }) :
    codeAny (model prog w) A (.call (.ref C) ⟨[], []⟩) R s := by
  obtain ⟨nm, q, N, bs, bm, sn, sub, ab, col, dd, k0, k1, k2, k3, k5, hC, hbm⟩ := T.cls
  obtain ⟨qual, oc, od, doc, pm, an, cdv, ct, osl, p1, q1, ho, hcd⟩ := T.fn
  obtain ⟨hp, g, dr, tk, os⟩ := s
  have k : ∀ b o, hp.get? b = some o → ((hp.push (kdv_tup [])).push (fresh C hp.objs.size none)).get? b = some o :=
    fun b o e => Heap.get?_push_of_some _ (Heap.get?_push_of_some _ e)
  have at1 : ((hp.push (kdv_tup [])).push (fresh C hp.objs.size none)).get? (hp.objs.size + 1) = some (fresh C hp.objs.size none) := by heap_get
  refine class_called Bo.F (fun Y => rowOver_has Bo Y bm hbm) (X _ _ hC) (by rw [sizeLine_eq]; exact (by decide : 0 ≤ 16777216)) (looks_findIn X T.iC) (fun self => bind_fn X self T.tC) ?_
  have room1 : (A.under (.builtin "type.__call__" ⟨.ref C :: [], []⟩)).depth < recursionLimit := by
    rw [L2.make_depth]
    exact hroom
  refine Att.call_fn (s := ⟨(hp.push (kdv_tup [])).push (fresh C hp.objs.size none), g, dr, tk, os⟩) (binds := [("self", .ref (hp.objs.size + 1))]) (X.keeps k) (hlim.keeps k) ho hcd room1 (BindsTo.of_eq (by first | rfl | with_unfolding_all rfl))
    (by first | rfl | decide | with_unfolding_all rfl) (fun s1 IC => ?_) rfl rfl rfl
  obtain ⟨h1, tk1, rfl⟩ := IC.toInCall.same
  have kk : ∀ b o, ((hp.push (kdv_tup [])).push (fresh C hp.objs.size none)).get? b = some o → h1.get? b = some o := IC.toInCall.keep
  show wpAny _ _ (execs [.Pass q1] _) _ _ _
  refine wpAny_execs_cons ?_
  have fin : InitBack (hp.objs.size + 1) R (.ok (.ret .none)) ⟨h1, g, dr, tk1, os⟩ :=
    ⟨rfl, hq h1 tk1 (hp.objs.size + 1) hp.objs.size (fun b o e => kk b o (k b o e)) (Nat.le_succ _) (kk _ _ at1)⟩
  first
    | exact wpAny_Pass (wpAny_execs_nil fin)
    | (wp_walk; exact fin)
end
end ErrV
end PySem
set_option Elab.async false
set_option linter.all false
set_option maxRecDepth 100000
set_option maxHeartbeats 4000000
/-! The hand layer's rules for errors held as values. -/
namespace L2
open PySem PySem.Spec PyProof.Rows PySem.ErrV
section
variable {fs ex : List Addr} {H : Hp} {h h1 : Heap} {a b : Addr} {o u : HO}
/-- two new objects at once -/
theorem Un.two (k : ∀ c z, h.get? c = some z → h1.get? c = some z) (ha : h.objs.size ≤ a) (hb : h.objs.size ≤ b) (na : H a = none) (nb : H b = none) :
    Un fs ex H (upd (upd H a o) b u) h h1 := by
  have oa : ∀ {c : Addr} {z : Obj}, h.get? c = some z → c ≠ a := fun {c z} q => Nat.ne_of_lt (Nat.lt_of_lt_of_le (Heap.lt_size q) ha)
  have ob : ∀ {c : Addr} {z : Obj}, h.get? c = some z → c ≠ b := fun {c z} q => Nat.ne_of_lt (Nat.lt_of_lt_of_le (Heap.lt_size q) hb)
  exact {
    keep := fun c z q _ _ _ => k c z q
    slot := fun c z q _ _ _ => ⟨z.slots, k c z q⟩
    free := fun c z q n _ => by
      rw [upd_ne (ob q), upd_ne (oa q)]
      exact n
    there := fun c z q _ => ⟨z, k c z q⟩
    tups := fun c xs q => by
      rw [upd_ne (ne_of_none q nb), upd_ne (ne_of_none q na)]
      exact q
    frzs := fun c z xs q => by
      rw [upd_ne (ne_of_none q nb), upd_ne (ne_of_none q na)]
      exact q
    tbls := fun c ps q => ⟨#[], by
      rw [upd_ne (ne_of_none q nb), upd_ne (ne_of_none q na), q]
      simp⟩ }
theorem HOk.two {P : Program} {w : World} (x : HOk P w H h) (k : ∀ c z, h.get? c = some z → h1.get? c = some z) (na : H a = none) (nb : H b = none) (ne : a ≠ b)
    (oka : ObjOk P w (upd (upd H a o) b u) h1 a o) (okb : ObjOk P w (upd (upd H a o) b u) h1 b u) : HOk P w (upd (upd H a o) b u) h1 := fun c z e => by
  by_cases cb : c = b
  · subst cb
    rw [upd_same] at e
    cases e
    exact okb
  · rw [upd_ne cb] at e
    by_cases ca : c = a
    · subst ca
      rw [upd_same] at e
      cases e
      exact oka
    · rw [upd_ne ca] at e
      have up : ∀ {y : Addr} {v : HO}, H y = some v → upd (upd H a o) b u y = some v := fun {y v} q => by
        rw [upd_ne (ne_of_none q nb), upd_ne (ne_of_none q na)]
        exact q
      exact (x c z e).stay (fun y v _ q => k y v q) (fun y q => up q) fun y xs q => up q
end
section
variable {X : Cx} {C fI : Addr} {x f : Str} {B nw ini : String} {bmB : List Value} {e : Expr} {p pos : Pos} {te : TE}
/-- C(e): a new error whose dict has the one field -/
def tErr (C : Addr) (f : Str) (te : TE) : TE := fun σ H Q => te σ H fun v H1 => ∀ a d, H1 a = none → H1 d = none → d ≠ a → Q (.ref a) (upd (upd H1 d (exd d [(f, v)])) a (exo a C (some d)))
theorem err_end {pins : List (Addr × Obj)} {σ : St} {H1 : Hp} {s1 : Shared} {h1 : Heap} {tk : Nat} {a d : Addr} {y : V} {u : Value} {Q : VK} (I : Inv X pins σ H1 s1) (ry : RelV y u) (m : Made s1.heap h1 a C d f u)
    (q : ∀ a d, H1 a = none → H1 d = none → d ≠ a → Q (.ref a) (upd (upd H1 d (exd d [(f, y)])) a (exo a C (some d)))) : EP X pins σ Q (.ref a) { s1 with heap := h1, toks := tk } := by
  have na : H1 a = none := I.hok.fresh m.big
  have nd : H1 d = none := I.hok.fresh m.dbig
  obtain ⟨t, ob⟩ := m.obj
  refine ⟨.ref a, _, I.un (t' := tk) (Un.two m.keep m.dbig m.big nd na) (I.hok.two m.keep nd na m.ne ?_ (exo_ok ob)), rfl, q a d na nd m.ne⟩
  exact exd_ok m.ns (relO_put (fs := []) ry fun g => True.intro)
theorem pe_err (hf : f = "given" ∨ f = "index") (T : ErrC X.K X.mg x f C fI nw bmB) (Bo : BaseOk B nw ini bmB) (hr : Room 1 X.A) (hg : Gl X x) (he : PE X e te)
    (hs : starEach [e] X.env = (false, eval e X.env) :: starEach [] X.env := by rfl) (hdb : (x == ("__debug__" : Str)) = false := by decide) :
    PE X (.Call (.Name x p) [e] [] pos) (tErr C f te) := by
  refine ⟨fun pins s σ H Q I h => ?_⟩
  refine wpAny_Call_Name_kw (ld_glob I hg T.gC ?_ hdb)
  refine PySem.W.callWith_K (h₀ := X.base) I.ok.mod.kin T.kC ?_ hs (by rfl)
  rw [hs]
  show wpAny _ _ (spliced ((false, eval e X.env) :: backTo pos (starEach [] X.env))) _ _ s
  refine Calls.spliced_cons (thn (he.run pins s σ H _ I h) fun u s1 ⟨v, H1, I1, r1, q1⟩ => ?_)
  refine Calls.spliced_nil ⟨I1.kIn, ?_⟩
  show wpAny _ _ (call (.ref C) [u]) _ _ _
  refine wpAny_call (err_made hf T Bo (v := u) (.inl ⟨rfl, rfl⟩) I1.kIn I1.nolimit (by have := hr.dp; omega) fun h1 tk a d m => ?_)
  exact err_end I1 r1 m q1
theorem pe_errK {kpos : Pos} (hf : f = "given" ∨ f = "index") (T : ErrC X.K X.mg x f C fI nw bmB) (Bo : BaseOk B nw ini bmB) (hr : Room 1 X.A) (hg : Gl X x) (he : PE X e te)
    (hall : (backToKw pos (keywordEach [⟨some f, e, kpos⟩] X.env)).all (·.1.isSome) = true := by rfl) (hks : (backToKw pos (keywordEach [⟨some f, e, kpos⟩] X.env)).filterMap (·.1) = [f] := by rfl)
    (hpl : ((backTo pos (starEach [] X.env)).any (·.1) || (backToKw pos (keywordEach [⟨some f, e, kpos⟩] X.env)).any (·.1.isNone)) = false := by rfl) (hdb : (x == ("__debug__" : Str)) = false := by decide) :
    PE X (.Call (.Name x p) [] [⟨some f, e, kpos⟩] pos) (tErr C f te) := by
  refine ⟨fun pins s σ H Q I h => ?_⟩
  refine wpAny_Call_Name_kw (ld_glob I hg T.gC ?_ hdb)
  refine PySem.W.callWith_KW0 (h₀ := X.base) I.ok.mod.kin T.kC hall ?_ hpl
  have hk : PK X [⟨some f, e, kpos⟩] (tCons te tNil) := pk_cons he pk_nil
  refine thn (hk.run pos pins s σ H (fun zs H2 => match zs with
    | [v] => ∀ a d, H2 a = none → H2 d = none → d ≠ a → Q (.ref a) (upd (upd H2 d (exd d [(f, v)])) a (exo a C (some d)))
    | _ => False) I h) fun ws s2 ⟨zs, H2, I2, rz, q2⟩ => ⟨I2.kIn, ?_⟩
  rw [hks]
  cases rz with
  | nil => exact q2.elim
  | @cons v u vs us rv rr =>
    cases rr with
    | cons _ _ => exact q2.elim
    | nil =>
      show wpAny _ _ (call (.ref C) [] [(f, u)]) _ _ _
      refine wpAny_call (err_made hf T Bo (v := u) (.inr ⟨rfl, rfl⟩) I2.kIn I2.nolimit (by have := hr.dp; omega) fun h1 tk a d m => ?_)
      exact err_end I2 rv m q2
end
section
variable {X : Cx} {e : Expr} {f : Str} {pos : Pos} {te : TE}
/-- e.f, e an error -/
def tEf (K : PySem.W.Frag) (f : Str) (te : TE) : TE := fun σ H Q => te σ H fun x H1 => ∃ (a C d : Addr) (fs : List (Str × V)) (v : V), x = .ref a ∧ XfC K C ∧ PySem.W.findIn K (.ref C) f = some none ∧
  H1 a = some (exo a C (some d)) ∧ H1 d = some (exd d fs) ∧ fs.lookup f = some v ∧ Q v H1
theorem pe_ef (he : PE X e te) (hb : attributeBase e f X.env (eval e X.env) = eval e X.env := by rfl) : PE X (.Attribute e f pos) (tEf X.K f te) := by
  refine ⟨fun pins s σ H Q I h => ?_⟩
  refine attr_of hb (thn (he.run pins s σ H _ I h) fun u s1 hh => ?_)
  obtain ⟨x, H1, I1, rx, a, C, d, fs, v, ex, T, hno, ea, ed, l, q⟩ := hh
  subst ex
  obtain rfl : u = Value.ref a := rx
  obtain ⟨t1, ho⟩ := exo_at I1.hok ea
  obtain ⟨mA, hns, hr⟩ := exd_at I1.hok ed
  obtain ⟨od, hd, hl⟩ := lookIn_ns hns
  obtain ⟨u, hu, ru⟩ := RelO.some_of (v := v) (o := mA f) (by rw [← l]; exact hr f)
  have J : PySem.W.InstAt s1.heap a _ C (some od) := ⟨ho, rfl, rfl, hd⟩
  exact HandSPX.exc_get I1.kIn J T.ga T.gg T.exC (PySem.W.findObj_own T.hdC hno rfl (by rw [hl, hu])) (handed_of ru) ⟨v, H1, I1.tok _, ru, q⟩
end
/-! ### isinstance of such a value -/
end L2
namespace PySem.W
open PySem PySem.Spec PySem.Calls PyProof.Rows
section
variable {prog : Program} {w : World} {A : Around} {E : Value → Shared → Prop} {s : Shared} {K : Frag} {x D : Addr} {ox : Obj} {od : Option Obj}
theorem data_found {C : Addr} {name : Str} {a g : Value} (hc : (clsIn K C).isSome = true) (ha : findIn K (.ref C) name = some (some a)) (hg : specialIn K a "__get__" = some (some g))
    (ht : takesIn K a = some true) : findObj K C od name = some (.bind g a) := by
  obtain ⟨cd, e⟩ := Option.isSome_iff_exists.mp hc
  unfold findObj
  rw [e, Option.bind_some, ha, Option.bind_some]
  simp only [hg, ht, Option.bind_some]
theorem errv_class {Q : Option Value → Shared → Prop} (c : L2.ExcC K D) (X : K.In s.heap) (I : InstAt s.heap x ox D od) (h : Q (some (.ref D)) { s with toks := s.toks + 1 }) :
    wpAny (model prog w) A (getAttr? (.ref x) "__class__") Q E s := by
  have hf : findObj K D od "__class__" = some (.bind (.builtin "getset_descriptor.__get__") (.builtin "object.__class__")) :=
    data_found (by obtain ⟨cd, hc, _⟩ := any_some c.hd; rw [hc]; rfl) c.ha c.hn c.ht
  obtain ⟨hp, g, d, t, os⟩ := s
  have ty := I.type (M := model prog w)
  have ga := looks_findIn (M := model prog w) X c.hg
  have gt := looks_findIn (M := model prog w) X c.hk
  have fd := looks_find (M := model prog w) X I hf
  have isB : Looks (model prog w) hp (isInstance (.ref x) (.type "BaseException")) true := ty.andThen (looks_subIn X c.hs)
  have n0 : (false && onTheHeap (Value.builtin "BaseException.__getattribute__")) = false := rfl
  have n2 : (Value.builtin "BaseException.__getattribute__" == Value.builtin "object.__getattribute__") = false := by decide +kernel
  have n1 : (onTheHeap (Value.ref D) && Value.builtin "BaseException.__getattribute__" == Value.builtin "object.__getattribute__") = false := by
    rw [n2]
    rfl
  unfold getAttr? getAttrBy? getAttrBy
  refine wpAny_bind (wpAny_mkText (wpAny_bind (wpAny_attempt (wpAny_holding (wpAny_bind (ty.at (wpAny_bind (ga.at ?_))))))))
  show wpAny _ _ (if (onTheHeap (Value.ref D) && Value.builtin "BaseException.__getattribute__" == Value.builtin "object.__getattribute__") = true then _ else _) _ _ _
  rw [n1, if_neg Bool.false_ne_true]
  unfold getAttrByItsOwn hookBefore
  refine wpAny_bind ?_
  rw [if_pos (show onTheHeap (Value.ref D) = true from rfl)]
  refine gt.at ?_
  refine wpAny_bind (wpAny_attempt (wpAny_holding ?_))
  unfold callGetattribute
  rw [n0, if_neg Bool.false_ne_true]
  unfold boundAndCalled
  rw [PySem.F.excAttr_ValueError.ga.bind (.ref x)]
  refine wpAny_bind (wpAny_pure ?_)
  show wpAny _ _ (call (.builtin "BaseException.__getattribute__") [.ref x, .str "__class__" t]) _ _ _
  refine wpAny_call (codeAny_call_builtin PySem.F.excAttr_ValueError.ga.plain PySem.F.entry_bexc_ga ?_)
  refine @check_slot (model prog w) _ _ ⟨hp, g, d, t + 1, os⟩ "BaseException.__getattribute__" "BaseException" "__getattribute__" (.ref x)
    [.str "__class__" t] [] _ (by decide +kernel) (by decide +kernel) isB (PySem.F.args_bexc_ga (.ref x) (.str "__class__" t)) ?_
  unfold Builtin.«object.__getattribute__»
  refine wpAny_bind (wpAny_of_eq (a := ((Value.ref x : Value), [Value.str "__class__" t])) (by first | rfl | (simp only [slotArgs]; rfl)) ?_)
  refine wpAny_bind (wpAny_pure (wpAny_bind (ty.at (wpAny_bind (fd.at ?_)))))
  show wpAny _ _ (holding [Value.builtin "object.__class__"] (call (.builtin "getset_descriptor.__get__") [.builtin "object.__class__", .ref x, .ref D]) >>= ret) _ _ _
  refine wpAny_bind (wpAny_holding (wpAny_call (class_get (s := ⟨hp, g, d, t + 1, os⟩) (ox := ox) (od := od) X I c.hm ?_)))
  refine wpAny_pure ?_
  show wpAny _ _ (handedOut (.ref D)) _ _ _
  rw [handedOut_of (v := .ref D) rfl]
  first
    | exact wpAny_pure (wpAny_pure h)
    | exact wpAny_pure h
    | exact wpAny_pure (wpAny_bind (wpAny_pure (wpAny_pure h)))
theorem errv_kit (c : L2.ExcC K D) : KitX K (.ref x) (.ref D) (fun h => ∃ ox od, InstAt h x ox D od) where
  ty := fun _ _ _ ⟨_, _, I⟩ => I.type
  it := fun _ _ X _ => by
    obtain ⟨cd, hc, _⟩ := any_some c.hd
    unfold clsIn at hc
    split at hc
    · rename_i ho
      intro A1 Q1 E1 s1 k q
      unfold isType loadHead
      exact wpAny_bind (wpAny_loadPart (k _ _ (X _ _ ho)) (wpAny_pure q))
    · cases hc
  ne := fun h tp dd its n sl X htp => by
    obtain ⟨cd, hc, _⟩ := any_some c.hd
    refine Bool.eq_false_iff.mpr fun q => ?_
    have e : D = tp := Value.ref.inj (beq_iff_eq.mp q)
    subst e
    unfold clsIn at hc
    split at hc
    · rename_i ho
      have z := (X _ _ ho).symm.trans htp
      cases z
    · cases hc
  ca := fun X ⟨_, _, I⟩ k => errv_class c X I k
end
end PySem.W
namespace L2
open PySem PySem.Spec PyProof.Rows PySem.ErrV
/-- isinstance(e, c), e an error that is held as a value -/
def rIsErr (K : PySem.W.Frag) : List V → Hp → VK → Prop := fun xs H Q => ∃ (a C : Addr) (d : Option Addr) (c : V) (cv : Value) (b : Bool), xs = [.ref a, c] ∧ H a = some (exo a C d) ∧ (∀ z, d = some z → ∃ fs, H z = some (exd z fs)) ∧ ExcC K C ∧
  ClsV c cv ∧ PySem.W.kitOne K (.ref C) cv = some b ∧ Q (.bl b) H
theorem call_isErr {X : Cx} : CallR X (.builtin "isinstance") (rIsErr X.K) := by
  intro pins s σ H xs us Q I r h
  obtain ⟨a, C, d, c, cv, b, rfl, ea, hd, c0, hcv, e, q⟩ := h
  cases r with
  | cons rx rr =>
    cases rr with
    | cons rt rr =>
      cases rr
      cases rx
      obtain ⟨t1, ho⟩ := exo_at I.hok ea
      have J : ∃ ox od, PySem.W.InstAt s.heap a ox C od := by
        cases d with
        | none => exact ⟨_, none, ho, rfl, rfl, trivial⟩
        | some z =>
          obtain ⟨o, eo⟩ := hd z rfl
          obtain ⟨_, ⟨oz, _, _, gz, _⟩, _⟩ := exd_at I.hok eo
          exact ⟨_, some oz, ho, rfl, rfl, gz⟩
      have ec := hcv.eq rt
      subst ec
      exact PySem.W.kia_one (PySem.W.errv_kit c0) I.kIn J e (fun z => nomatch z) fun tk => ⟨.bl b, H, I.kept (t' := tk) fun _ _ z => z, rfl, q⟩
end L2
set_option Elab.async false
set_option linter.all false
set_option maxRecDepth 100000
set_option maxHeartbeats 4000000
/-! repr of data that the hand layer tracks. -/
namespace L2
open PySem PySem.Spec PyProof.Rows
mutual
/-- x is the datum d, its lists and tuples standing in H -/
def rp (H : Hp) : PyData → V → Prop
  | .none, x => x = .non
  | .bool b, x => x = .bl b
  | .int i, x => x = .int i
  | .str z, x => x = .str z
  | .list ds, x => ∃ (a : Addr) (xs : List V), x = .ref a ∧ H a = some (.lst xs) ∧ rpAll H ds xs
  | .tuple ds, x => ∃ (a : Addr) (xs : List V), x = .ref a ∧ H a = some (.tup xs) ∧ rpAll H ds xs
  | .dict _, _ => False
def rpAll (H : Hp) : List PyData → List V → Prop
  | [], xs => xs = []
  | d :: ds, xs => ∃ (y : V) (ys : List V), xs = y :: ys ∧ rp H d y ∧ rpAll H ds ys
end
section
variable {P : Program} {w : World} {H : Hp} {h : Heap}
mutual
theorem rp_reads (ok : HOk P w H h) : ∀ (d : PyData) (x : V) (u : Value), rp H d x → RelV x u → d.hasDict = false ∧ ∃ as, Reads h u d as
  | .none, x, u, e, r => by
    unfold rp at e
    subst e
    obtain rfl : u = Value.none := r
    exact ⟨rfl, _, .none⟩
  | .bool b, x, u, e, r => by
    unfold rp at e
    subst e
    obtain rfl : u = Value.bool b := r
    exact ⟨rfl, _, .bool b⟩
  | .int i, x, u, e, r => by
    unfold rp at e
    subst e
    obtain ⟨t, rfl⟩ : ∃ t, u = Value.int i t := r
    exact ⟨rfl, _, .int i t⟩
  | .str z, x, u, e, r => by
    unfold rp at e
    subst e
    obtain ⟨t, rfl⟩ : ∃ t, u = Value.str z t := r
    exact ⟨rfl, _, .str z t⟩
  | .list ds, x, u, e, r => by
    unfold rp at e
    obtain ⟨a, xs, rfl, ea, q⟩ := e
    obtain rfl : u = Value.ref a := r
    obtain ⟨_, its, n, rv, g⟩ := (show ObjOk P w H h a (.lst xs) from ok a _ ea)
    obtain ⟨nd, as, R⟩ := rpAll_reads ok ds xs its q rv
    exact ⟨by simpa only [PyData.hasDict] using nd, _, .list g rfl rfl (by simpa using R)⟩
  | .tuple ds, x, u, e, r => by
    unfold rp at e
    obtain ⟨a, xs, rfl, ea, q⟩ := e
    obtain rfl : u = Value.ref a := r
    obtain ⟨_, its, rv, o, g, c, n, dd⟩ := (show ObjOk P w H h a (.tup xs) from ok a _ ea)
    obtain ⟨nd, as, R⟩ := rpAll_reads ok ds xs its q rv
    exact ⟨by simpa only [PyData.hasDict] using nd, _, .tuple g c dd (by simpa using R)⟩
  | .dict _, x, u, e, r => by
    unfold rp at e
    exact e.elim
theorem rpAll_reads (ok : HOk P w H h) : ∀ (ds : List PyData) (xs : List V) (us : List Value), rpAll H ds xs → Vals xs us → PyData.hasDictAll ds = false ∧ ∃ as, ReadsAll h us ds as
  | [], xs, us, e, r => by
    unfold rpAll at e
    subst e
    cases r
    exact ⟨rfl, _, .nil⟩
  | d :: ds, xs, us, e, r => by
    unfold rpAll at e
    obtain ⟨y, ys, rfl, e1, e2⟩ := e
    cases r with
    | cons r1 r2 =>
      obtain ⟨n1, as, R1⟩ := rp_reads ok d y _ e1 r1
      obtain ⟨n2, bs, R2⟩ := rpAll_reads ok ds ys _ e2 r2
      exact ⟨by simp only [PyData.hasDictAll, n1, n2, Bool.or_self], _, .cons R1 R2⟩
end
/-- a key of a dict as a datum -/
def kdat0 : Key → PyData
  | .inl i => .int i
  | .inr z => .str z
/-- a dict whose values are flat -/
def rpD (H : Hp) (d : PyData) (x : V) : Prop := ∃ (a : Addr) (kvs : List (Key × V)) (ds : List (PyData × PyData)), x = .ref a ∧ H a = some (.dK kvs) ∧ d = .dict ds ∧
  Paired (fun (p : Key × V) (q : PyData × PyData) => q.1 = kdat0 p.1 ∧ rp (fun _ => none) q.2 p.2) kvs ds
theorem key_reads {k : Key} {v : Value} (e : keyIs k v = true) : Reads h v (kdat0 k) [] := by
  rcases keyIs_shape e with ⟨i, t, rfl, rfl⟩ | ⟨z, t, rfl, rfl⟩
  · exact .int i t
  · exact .str z t
theorem nothing_ok : HOk P w (fun _ => none) h := fun a o e => by cases e
/-- flat data stand nowhere -/
theorem flat_reads {d : PyData} {x : V} {u : Value} (e : rp (fun _ => none) d x) (r : RelV x u) : Reads h u d [] := by
  cases d with
  | none =>
    unfold rp at e
    subst e
    obtain rfl : u = Value.none := r
    exact .none
  | bool b =>
    unfold rp at e
    subst e
    obtain rfl : u = Value.bool b := r
    exact .bool b
  | int i =>
    unfold rp at e
    subst e
    obtain ⟨t, rfl⟩ : ∃ t, u = Value.int i t := r
    exact .int i t
  | str z =>
    unfold rp at e
    subst e
    obtain ⟨t, rfl⟩ : ∃ t, u = Value.str z t := r
    exact .str z t
  | list ds =>
    unfold rp at e
    obtain ⟨a, xs, _, q, _⟩ := e
    cases q
  | tuple ds =>
    unfold rp at e
    obtain ⟨a, xs, _, q, _⟩ := e
    cases q
  | dict ds =>
    unfold rp at e
    exact e.elim
theorem rpD_reads (ok : HOk P w H h) {d : PyData} {x : V} {u : Value} (e : rpD H d x) (r : RelV x u) : ∃ as, sysModules ∉ as ∧ Reads h u d as := by
  obtain ⟨a, kvs, ds, rfl, ea, rfl, q⟩ := e
  obtain rfl : u = Value.ref a := r
  obtain ⟨_, sys, vs, kv, o, es, ep, g, ex, dd, _, prs, _⟩ := (show ObjOk P w H h a (.dK kvs) from ok a _ ea)
  have hc : o.cls = .type "dict" := ex.1
  have both : ∀ {l : List (Key × V)} {m : List (Key × Value)} {c : List (PyData × PyData)} {el : List DictEntry}, KV l m → Pairs (mixKind P w) el m →
      Paired (fun (p : Key × V) (q : PyData × PyData) => q.1 = kdat0 p.1 ∧ rp (fun _ => none) q.2 p.2) l c →
      ReadsAll h (el.map (·.key)) (c.map (·.1)) [] ∧ ReadsAll h (el.map (·.val)) (c.map (·.2)) [] := by
    intro l
    induction l with
    | nil =>
      intro m c el k1 k2 k3
      cases k1
      cases k2
      cases k3
      exact ⟨.nil, .nil⟩
    | cons p l ih =>
      intro m c el k1 k2 k3
      cases k1 with
      | cons ka kb =>
        cases k2 with
        | cons ia ib ic =>
          cases k3 with
          | cons ja jb =>
            obtain ⟨i1, i2⟩ := ih kb ic jb
            obtain ⟨k0, kr⟩ := ka
            obtain ⟨j0, jr⟩ := ja
            rw [← k0] at ia
            refine ⟨?_, ?_⟩
            · have z := ReadsAll.cons (j0 ▸ key_reads ia) i1
              simpa using z
            · have z := ReadsAll.cons (flat_reads jr (ib ▸ kr)) i2
              simpa using z
  obtain ⟨r1, r2⟩ := both kv prs q
  refine ⟨_, ?_, .dict g hc dd r1 r2⟩
  simp only [List.append_nil, List.mem_singleton]
  intro z
  rw [z, beq_self_eq_true] at sys
  cases sys
end
section
variable {X : Cx}
/-- repr(x), x data -/
def rRepr : List V → Hp → VK → Prop := fun xs H Q => ∃ (x : V) (d : PyData), xs = [x] ∧ (rp H d x ∨ rpD H d x) ∧ d.showable = true ∧ d.depth ≤ 100 ∧ d.shown.length ≤ sizeLine ∧ Q (.str d.shown) H
theorem call_repr_data (hg : X.A.guards = some []) (hu : X.A.units + 150 < cLine) : CallR X (.builtin "repr") rRepr := by
  intro pins s σ H xs us Q I r h
  obtain ⟨x, d, rfl, hd, sh, dp, sz, q⟩ := h
  obtain ⟨u, rfl, ru⟩ : ∃ u, us = [u] ∧ RelV x u := by
    cases r with
    | cons r1 r2 =>
      cases r2
      exact ⟨_, rfl, r1⟩
  obtain ⟨as, hs, R⟩ : ∃ as, (d.hasDict = true → sysModules ∉ as) ∧ Reads s.heap u d as := by
    rcases hd with hd | hd
    · obtain ⟨nd, as, R⟩ := rp_reads I.hok d x u hd ru
      exact ⟨as, PyData.noDict_hsm nd, R⟩
    · obtain ⟨as, nm, R⟩ := rpD_reads I.hok hd ru
      exact ⟨as, fun _ => nm, R⟩
  have byRef : ∀ {a : Addr}, u = .ref a → wpAny (model X.prog X.w) X.A (call (.builtin "repr") [u]) (EP X pins σ Q) X.xe s := fun {a} e => by
    subst e
    exact repr_of_reads' R sh hs hg (by omega) (fun _ _ z => z) (fun h1 v tk k => ⟨.str d.shown, H, I.kept (t' := tk) k, ⟨_, rfl⟩, q⟩) sz
  cases R with
  | none => exact PySem.P.repr_of_none ⟨.str _, H, I.tok _, ⟨_, rfl⟩, q⟩
  | bool b => exact PySem.P.repr_of_bool ⟨.str _, H, I.tok _, ⟨_, rfl⟩, q⟩
  | int i t => exact PySem.P.repr_of_int (by simpa only [PyData.showable, decide_eq_true_eq] using sh) ⟨.str _, H, I.tok _, ⟨_, rfl⟩, q⟩
  | str z t => exact PySem.P.repr_of_str ⟨.str _, H, I.tok _, ⟨_, rfl⟩, q⟩ sz
  | list => exact byRef rfl
  | tuple => exact byRef rfl
  | dict => exact byRef rfl
end
end L2
set_option Elab.async false
set_option linter.all false
set_option maxRecDepth 100000
set_option maxHeartbeats 4000000
/-! Defs that are called where no repr is under way (so that repr of lists and dicts may be asked in them). -/
namespace L2
open PySem PySem.Spec PyProof.Rows
/-- the def at f keeps the promise sp wherever it is called with no guard standing; nothing is raised out of it -/
structure FnG (P : Program) (w : World) (K : PySem.W.Frag) (mg : Str → Option Value) (base : Heap) (k : Nat) (f : Addr) (fd : FuncData) (ps : List Str) (sp : Sp) : Prop where
  len : ∀ vs H Q E, sp vs H Q E → vs.length = ps.length
  run : ∀ (A : Around) (outer : List Env) (s : Shared) (H : Hp) (args : Args) (us : List Value) (vs : List V) (Q : VK), A.guards = some [] → Room k A →
    Env0 P w K mg base A outer s H → BindsTo s fd args (ps.zip us) → Vals vs us → sp vs H Q E0 → codeAny (model P w) A (.call (.ref f) args) (CR CX0 outer P w H s Q E0) s
section
variable {P : Program} {w : World} {K : PySem.W.Frag} {mg : Str → Option Value} {base : Heap} {k : Nat} {f : Addr} {fd : FuncData} {N ps : List Str} {sp : Sp}
theorem FnOk.toG (F : FnOk P w K mg base CX0 k f fd ps sp) : FnG P w K mg base k f fd ps sp :=
  ⟨F.len, fun A outer s H args us vs Q _ hr e0 hb r h => F.run A outer s H args us vs Q E0 hr e0 hb r h⟩
theorem Fun.okG {x qual : Str} {st : Stmt} (F : Fun K x qual st f fd) (S : FnScope N ps (defScope st)) (len : ∀ vs H Q E, sp vs H Q E → vs.length = ps.length)
    (hbody : ∀ (cdv : Value) (A : Around) (outer : List Env) (s : Shared) (H : Hp) (vs : List V) (Q : VK), A.guards = some [] → Room k (A.deeper (envOfC qual (defScope st) s.heap.objs.size f cdv)) → sp vs H Q E0 →
      ∃ t, PSs (cxOf CX0 P w K mg base N qual (defScope st) f cdv A outer s H E0).nox (defBody st) t ∧ t { nx := fun _ H1 => Q .non H1, rt := Q } (start N vs) H) :
    FnG P w K mg base (k + 1) f fd ps sp := by
  obtain ⟨oc, od, kV, doc, pm, an, cdv, ct, osl, rfl, lk, hcd⟩ := F.ex
  refine ⟨len, fun A outer s H args us vs Q hg hr e0 hb r hsp => ?_⟩
  have hl := len _ _ _ _ hsp
  have up : ∀ b o, base.get? b = some o → s.heap.get? b = some o := fun b o e => (e0.bs b o e).1
  have X1 : K.In s.heap := e0.mod.kin.keeps up
  have nl : s.heap.NoLimit := e0.mod.nolimit.keeps up
  have slots : ∀ y ∈ ps.zip us, (defScope st).names.lookup y.1 = some .local ∨
      ((defScope st).names.lookup y.1 = some .cell ∧ ((cellsFrom (s.heap.objs.size + 1) (defScope st).names []).lookup y.1).isSome = true) := fun ⟨n, v⟩ hy =>
    (S.par n (List.of_mem_zip hy).1).elim (fun q => .inl q) fun q => .inr ⟨q, PySem.W.cellsFrom_some _ _ _ (.inl q)⟩
  refine codeAny_call_function hr.depth (X1 _ _ lk) rfl S.co S.gen rfl (PySem.W.codeRec_of X1 hcd) (hb _ _ _ _ ?_)
  refine wpAny_newFunctionEnv_cells S.kind slots fun env he s1 x1 => ?_
  subst he
  refine ⟨nl.keeps x1.toInCall.keep, codeAny_func ?_⟩
  obtain ⟨t, ht, hq⟩ := hbody cdv A outer s H vs Q hg (hr.deeper _) hsp
  have J : Inv (cxOf CX0 P w K mg base N qual (defScope st) f cdv A outer s H E0) [] (start N vs) H s1 := inv_start S hr.hd e0 hl r x1
  refine wpAny_mono (ht.nox.run [] s1 (start N vs) H _ J hq) (fun fl s2 hs => ?_) fun e s2 hs => hs
  cases fl with
  | ret u =>
    obtain ⟨v, σ1, H1, I1, rv, q⟩ := hs
    exact ⟨v, H1, I1.os, I1.bare, I1.base, I1.hok, rv, q⟩
  | next =>
    obtain ⟨σ1, H1, I1, q⟩ := hs
    exact ⟨.non, H1, I1.os, I1.bare, I1.base, I1.hok, rfl, q⟩
  | brk =>
    obtain ⟨_, _, _, q⟩ := hs
    exact q.elim
  | cont =>
    obtain ⟨_, _, _, q⟩ := hs
    exact q.elim
end
section
variable {X : Cx} {k : Nat} {f : Addr} {fd : FuncData} {ps : List Str} {sp : Sp} {x : Str} {p pos : Pos} {e : Expr} {es : List Expr} {t : TA}
theorem run_g {pins : List (Addr × Obj)} {σ : St} {H : Hp} {s : Shared} {Q : VK} {us : List Value} {vs : List V} (F : FnG X.prog X.w X.K X.mg X.base k f fd ps sp) (hg : X.A.guards = some []) (hr : Room k X.A) (hb : Binds X.K fd ps [])
    (I : Inv X pins σ H s) (r : Vals vs us) (h : sp vs H Q E0) : wpAny (model X.prog X.w) X.A (call (.ref f) us) (EP X pins σ Q) X.xe s := by
  have hl : us.length = ps.length := by
    rw [← r.length]
    exact F.len _ _ _ _ h
  have b := hb s us I.kIn (by rw [List.append_nil]; exact hl)
  rw [List.append_nil] at b
  refine wpAny_call (codeAny_mono (F.run X.A X.stack s H ⟨us, []⟩ us vs Q hg hr I.env0 b r h) fun r1 s1 hq => ?_)
  cases r1 with
  | error er => exact hq.elim
  | ok fl =>
    cases fl with
    | ret u => exact I.after hq
    | next => exact False.elim hq
    | brk => exact False.elim hq
    | cont => exact False.elim hq
/-- f(e, ..) of such a def -/
theorem pe_callNG (F : FnG X.prog X.w X.K X.mg X.base k f fd ps sp) (hgd : X.A.guards = some []) (hr : Room k X.A) (hg : Gl X x) (hm : X.mg x = some (.ref f)) (hk : PySem.W.keepIn X.K (.ref f) = true) (hb : Binds X.K fd ps [])
    (ha : PA X (e :: es) t) (hdb : (x == ("__debug__" : Str)) = false := by decide) (he : starEach (e :: es) X.env = (false, eval e X.env) :: starEach es X.env := by rfl)
    (hpl : (backTo pos (starEach es X.env)).any (·.1) = false := by rfl) : PE X (.Call (.Name x p) (e :: es) [] pos) (fun σ H Q => t σ H fun vs H1 => sp vs H1 Q E0) := by
  refine ⟨fun pins s σ H Q I h => ?_⟩
  refine wpAny_Call_Name_kw (ld_glob I hg hm ?_ hdb)
  exact PySem.W.callWith_K (h₀ := X.base) I.ok.mod.kin hk (thn (ha.run pos pins s σ H _ I h) fun us s1 ⟨vs, H1, I1, r, q⟩ => ⟨I1.kIn, run_g F hgd hr hb I1 r q⟩) he hpl
end
/-! ### the law's own call -/
section
variable {P : Program} {w : World} {K : PySem.W.Frag} {mg mb : Str → Option Value} {k : Nat} {fa a : Addr} {fd : FuncData} {x : Str} {sp : Sp} {s1 : Shared} {vs : List Value} {ns : List Int}
theorem law_callG_at (KX : K.In s1.heap) (hns : s1.heap.Ns mainGlobals mg) (hb : s1.heap.Ns builtinsNs mb) (hbb : ∀ y : Str, y ≠ "__name__" → mb y = bootBuiltins y) (hlim : s1.heap.NoLimit) (hgn : s1.gens = #[])
    (ha : s1.heap.get? a = some { cls := .type "list", data := .seq vs.toArray }) (hr : Room k callerA)
    (F : ∀ base : Heap, K.In base → base.Ns mainGlobals mg → FnG P w K mg base k fa fd [x] sp) (hbind : ∀ (s : Shared) (u : Value), BindsTo s fd ⟨[u], []⟩ [(x, u)])
    (H : Hp) (hO : Only H) (hsp : sp [.ref a] H (fun v _ => v = .bl true) E0) (hok : HOk P w H s1.heap) (hA : ∀ b, H b ≠ none → b = a) (hK : H a ≠ none → K.lookup a = none) :
    codeAny (model P w) callerA (.call (.ref fa) ⟨[.ref a], []⟩) (fun r s2 => r = .ok (.ret (.bool true)) ∧ OldK s1.heap s2.heap ∧ s2.os = s1.os ∧ AllBare s2.gens) s1 := by
  have stay : ∀ {b : Addr} {o : Obj}, s1.heap.get? b = some o → H b = none → (hidT s1.heap H).get? b = some o := fun e n => hidT_get e n
  have dictFree : ∀ {b : Addr} {o : Obj} {es : Array DictEntry} {ep : Nat}, s1.heap.get? b = some o → o.data = .dict es ep → H b = none := fun {b o es ep} e d => by
    cases q : H b with
    | none => rfl
    | some u =>
      obtain rfl : b = a := hA b (by rw [q]; simp)
      rw [ha] at e
      cases e
      exact absurd (show Data.seq vs.toArray _ = Data.dict es ep from d) (fun z => by cases z)
  have names : ∀ {b : Addr} {m : Str → Option Value}, s1.heap.Ns b m → (hidT s1.heap H).Ns b m := fun {b m} ⟨o, es, ep, e, d, r⟩ => ⟨o, es, ep, stay e (dictFree e d), d, r⟩
  have KB : K.In (hidT s1.heap H) := fun b o e => stay (KX b o e) (by
    cases q : H b with
    | none => rfl
    | some u =>
      obtain rfl : b = a := hA b (by rw [q]; simp)
      rw [hK (by rw [q]; simp)] at e
      cases e)
  have md : Mod K mg (hidT s1.heap H) := ⟨KB, names hns, ⟨mb, names hb, hbb⟩, let ⟨mc, h1, h2⟩ := hlim; ⟨mc, names h1, h2⟩⟩
  have start0 : Env0 P w K mg (hidT s1.heap H) callerA [] s1 H :=
    ⟨rfl, md, fun b o e => of_hidT e, Nat.le_of_eq (hidT_size _ _), trivial, fun b hb => absurd (show b ∈ ([] : List Addr) from hb) (by simp), hok, .of_eq hgn⟩
  refine codeAny_mono ((F _ KB (names hns)).run callerA [] s1 H ⟨[.ref a], []⟩ [.ref a] [.ref a] _ rfl hr start0 (hbind s1 (.ref a)) (.cons rfl .nil) hsp) fun r s2 h => ?_
  cases r with
  | error e => exact False.elim h
  | ok fl =>
    cases fl with
    | next => exact False.elim h
    | brk => exact False.elim h
    | cont => exact False.elim h
    | ret u =>
      obtain ⟨v, H2, os, bare, un, ok2, rv, q⟩ := h
      obtain rfl : v = .bl true := q
      obtain rfl : u = Value.bool true := rv
      refine ⟨rfl, OldK.of_keep fun b o e => ?_, os, bare⟩
      have nox : b ∉ ([] : List Addr) := by simp
      cases q : H b with
      | none => exact un.keep b o e q (fun z => absurd (show b ∈ ([] : List Addr) from z) nox) nox
      | some u =>
        rcases hO b with z | ⟨ob, xs, z⟩
        · rw [q] at z
          cases z
        · obtain ⟨e1, _⟩ := hok b _ z
          obtain ⟨e2, _⟩ := ok2 b _ (un.frzs b ob _ z)
          rw [e] at e1
          cases e1
          exact e2
theorem law_callG (KX : K.In s1.heap) (hns : s1.heap.Ns mainGlobals mg) (hb : s1.heap.Ns builtinsNs mb) (hbb : ∀ y : Str, y ≠ "__name__" → mb y = bootBuiltins y) (hlim : s1.heap.NoLimit) (hgn : s1.gens = #[])
    (ha : s1.heap.get? a = some { cls := .type "list", data := .seq vs.toArray }) (hi : IntsAre vs ns) (hl : ns.length ≤ sizeLine) (hr : Room k callerA)
    (F : ∀ base : Heap, K.In base → base.Ns mainGlobals mg → FnG P w K mg base k fa fd [x] sp) (hbind : ∀ (s : Shared) (u : Value), BindsTo s fd ⟨[u], []⟩ [(x, u)])
    (hsp : ∀ H : Hp, Only H → SqL K H a (ns.map V.int) → sp [.ref a] H (fun v _ => v = .bl true) E0) :
    codeAny (model P w) callerA (.call (.ref fa) ⟨[.ref a], []⟩) (fun r s2 => r = .ok (.ret (.bool true)) ∧ OldK s1.heap s2.heap ∧ s2.os = s1.os ∧ AllBare s2.gens) s1 := by
  have rv := vals_ints hi
  have lenV := hi.length
  cases hk : K.lookup a with
  | some o =>
    have e := KX a o hk
    rw [ha] at e
    cases e
    have only : Only (fun _ => none) := fun _ => .inl rfl
    have told : SqL K (fun _ => none) a (ns.map V.int) :=
      .inr ⟨_, vs.toArray, _, hk, rfl, rfl, rfl, by rw [List.size_toArray, lenV]; exact hl, by simpa using rv⟩
    exact law_callG_at KX hns hb hbb hlim hgn ha hr F hbind (fun _ => none) only (hsp _ only told) (fun b u z => by cases z) (fun b z => absurd rfl z) fun z => absurd rfl z
  | none =>
    let H : Hp := fun b => if b = a then some (.frz { cls := .type "list", data := .seq vs.toArray } (.lst (ns.map V.int))) else none
    have at_a : H a = some (.frz { cls := .type "list", data := .seq vs.toArray } (.lst (ns.map V.int))) := if_pos rfl
    have off : ∀ {b : Addr}, b ≠ a → H b = none := fun hb => if_neg hb
    have only : Only H := fun b => by
      by_cases hb : b = a
      · exact .inr ⟨_, _, if_pos hb⟩
      · exact .inl (off hb)
    refine law_callG_at KX hns hb hbb hlim hgn ha hr F hbind H only (hsp H only (.inl (.inr ⟨_, at_a⟩))) (fun b u z => ?_) (fun b z => ?_) fun _ => hk
    · by_cases hb : b = a
      · subst hb
        rw [at_a] at z
        cases z
        exact ⟨ha, by rw [List.length_map]; exact hl, vs, _, rv, ha⟩
      · rw [off hb] at z
        cases z
    · by_cases hb : b = a
      · exact hb
      · exact absurd (off hb) z
end
theorem walk_ofG {l : PySem.W.OpenLaw} {n k : Nat} {q : Program} {loose : List Str} {XP : (Str → Option Value) → Heap → Prop} {YP : World → Heap → Prop} {d : DefRec} {K : Params → PySem.W.Frag} {sp : PySem.W.Frag → Sp} {x : Str}
    (hn : l.most = some n) (hn2 : n ≤ sizeLine) (hdf : d.params.defaults = []) (hr : Room k callerA) (hY : ∀ (w : World) (h : Heap), YP w h → (K w.params).In h)
    (F : ∀ (w : World) (mg : Str → Option Value) (fa : Addr) (h : Heap), (K w.params).In h → h.Ns mainGlobals mg → mg d.name = some (.ref fa) →
      ∃ fd : FuncData, (∀ (s : Shared) (u : Value), BindsTo s fd ⟨[u], []⟩ [(x, u)]) ∧
        ∀ base : Heap, (K w.params).In base → base.Ns mainGlobals mg → FnG l.prog w (K w.params) mg base k fa fd [x] (sp (K w.params)))
    (hsp : ∀ (K : PySem.W.Frag) (H : Hp) (a : Addr) (ns : List Int), ns.length ≤ n → Only H → SqL K H a (ns.map V.int) → sp K [.ref a] H (fun v _ => v = .bl true) E0) :
    PySem.W.WalkO q loose XP YP l.row.toRowW d [] (fun f vs => PySem.call f vs) := by
  refine Att.attach_call hn hdf fun w s₀ s₁ mg mb fa o pm cd doc a vs ns G Y ho hd hcd hmg hobj hints hlen hgn => ?_
  have KX := hY w _ Y
  obtain ⟨fd, hb, hF⟩ := F w mg fa _ KX G.T.g hmg
  exact law_callG KX G.T.g G.T.b G.T.builtins G.T.nolimit hgn hobj hints (Nat.le_trans hlen hn2) hr hF hb fun H hO hS => hsp (K w.params) H a ns hlen hO hS
end L2
set_option Elab.async false
set_option linter.all false
set_option maxRecDepth 100000
set_option maxHeartbeats 4000000
namespace L2
open PySem PySem.Spec PyProof.Rows PySem.ErrV
section
variable {X : Cx} {C fI : Addr} {x : Str} {B nw ini : String} {bmB : List Value} {p pos : Pos}
/-- C(), no __init__ of its own -/
theorem pe_bare (F : ExcBaseFacts B nw ini bmB) (q : PySem.W.excIn X.K C bmB nw = true) (gC : X.mg x = some (.ref C)) (kC : PySem.W.keepIn X.K (.ref C) = true) (hg : Gl X x) (hdb : (x == ("__debug__" : Str)) = false := by decide) :
    PE X (.Call (.Name x p) [] [] pos) (fun σ H Q => ∀ a, H a = none → Q (.ref a) (upd H a (exo a C none))) := by
  refine ⟨fun pins s σ H Q I h => ?_⟩
  refine wpAny_Call_Name_kw (ld_glob I hg gC ?_ hdb)
  refine PySem.W.callWith_K0 I.kIn kC ?_
  show wpAny _ _ (call (.ref C) []) _ _ _
  obtain ⟨bm, N, nm, qn, bs, hdct, sn, sub, ab, col, dd, k0, k1, k2, k3, k5, mN, hC, hN, hni, T⟩ := exc_obj I.kIn q
  refine wpAny_call_exc_subT F T hC hN hni (fun h1 a hm => ?_) (by show 0 ≤ sizeLine; exact Nat.zero_le _)
  have hn : H a = none := I.hok.gone hm.new
  obtain ⟨t, ht, _, _⟩ := hm.there
  exact ⟨.ref a, upd H a (exo a C none), I.laidN hm.keeps hm.new hn (exo_ok ht), rfl, h a hn⟩
/-- C(), __init__ does nothing -/
theorem pe_pass0 (T : PassC X.K X.mg x C fI nw bmB) (Bo : BaseOk B nw ini bmB) (hr : Room 1 X.A) (hg : Gl X x) (hdb : (x == ("__debug__" : Str)) = false := by decide) :
    PE X (.Call (.Name x p) [] [] pos) (fun σ H Q => ∀ a, H a = none → Q (.ref a) (upd H a (exo a C none))) := by
  refine ⟨fun pins s σ H Q I h => ?_⟩
  refine wpAny_Call_Name_kw (ld_glob I hg T.gC ?_ hdb)
  refine PySem.W.callWith_K0 I.kIn T.kC ?_
  show wpAny _ _ (call (.ref C) []) _ _ _
  refine wpAny_call (pass_made T Bo I.kIn I.nolimit (by have := hr.dp; omega) fun h1 tk a u k big ho => ?_)
  exact ⟨.ref a, upd H a (exo a C none), I.laid (t' := tk) k big (exo_ok ho), rfl, h a (I.hok.fresh big)⟩
end
/-- ways joined: what is wanted of an expression, said in between -/
def tJoin0 (te : TE) : TE := fun σ H Q => ∃ R : VK, te σ H R ∧ ∀ v H1, R v H1 → Q v H1
theorem pe_join0 {X : Cx} {e : Expr} {te : TE} (he : PE X e te) : PE X e (tJoin0 te) := ⟨fun pins s σ H Q I h => by
  obtain ⟨R, h1, h2⟩ := h
  exact thn (he.run pins s σ H R I h1) fun u s1 ⟨v, H1, I1, r, q⟩ => ⟨v, H1, I1, r, h2 v H1 q⟩⟩
end L2
set_option Elab.async false
set_option linter.all false
set_option maxRecDepth 100000
set_option maxHeartbeats 8000000
/-! Lambdas as values: with parameters, with captured names; made anywhere, handed on, called in the def that got them. -/
namespace LamV
open PySem PySem.Spec PyProof.Rows L2
open LamX (CodeO ExtN TabB)
open NdefX (NF NTab TabN TabsN CellsAt NScope startF ncx envF)
/-- there stands a lambda with the words of F and this body -/
def Stands (f : Addr) (F : NF) (body : Expr) (h : Heap) : Prop :=
  ∃ (d : Option Addr) (z : Array (Option Value)) (m t : Value), h.get? f = some ⟨.type "function", d, .func (PySem.W.kla_fn F.name F.qual F.params body F.scope F.cl m (.ref F.c) t), z⟩
def LnO (f : Addr) (F : NF) (body : Expr) : HO := .ext (Stands f F body)
theorem stands {P : Program} {w : World} {H : Hp} {h : Heap} {f : Addr} {F : NF} {body : Expr} (k : HOk P w H h) (e : H f = some (LnO f F body)) : Stands f F body h := (k f _ e).1
theorem LnO.tbl {f : Addr} {F : NF} {body : Expr} {ps : Array Value} : LnO f F body ≠ .tbl ps := fun z => nomatch (show HO.ext _ = HO.tbl _ from z)
theorem CodeO.tbl {c : Addr} {q : Str} {ps : Array Value} : CodeO c q ≠ .tbl ps := fun z => nomatch (show HO.ext _ = HO.tbl _ from z)
theorem Gone.upd {H : Hp} {a b : Addr} {o : HO} (e : L2.upd H a o b = none) : H b = none := by
  by_cases z : b = a
  · rw [z, upd_same] at e
    cases e
  · rwa [upd_ne z] at e
/-- the table of a def tells one code object more -/
theorem tabs_more {T : List NTab} {H H1 : Hp} {P c1 : Addr} {nm : Nat → Nat → Str} {ps : Array Value} {pos : Pos} (hT : TabsN T H) (me : H P = some (.tbl ps)) (ok : TriplesOk ps.toList) (only : ∀ r ∈ T, r.1 = P → r.2 = nm) (new : H c1 = none)
    (e1 : H1 = L2.upd (L2.upd H P (.tbl (ps ++ #[rawInt pos.line, rawInt pos.col, .ref c1]))) c1 (CodeO c1 (nm pos.line pos.col))) : TabsN T H1 ∧ ExtN H H1 := by
  have ext : ExtN H H1 := by
    intro b o eb nb
    have x1 : b ≠ c1 := ne_of_none eb new
    have x2 : b ≠ P := by
      rintro rfl
      exact nb ps (Option.some.inj (eb.symm.trans me))
    rw [e1, upd_ne x1, upd_ne x2, eb]
  have atC : H1 c1 = some (CodeO c1 (nm pos.line pos.col)) := by rw [e1, upd_same]
  refine ⟨fun r hr => ?_, ext⟩
  obtain ⟨qs, a1, a2, a3⟩ := hT r hr
  have old : ∀ {p2 : Pos} {v : Value}, codeAmong p2 qs.toList = some v → ∃ c, v = .ref c ∧ H1 c = some (CodeO c (r.2 p2.line p2.col)) := fun {p2 v} hv => by
    obtain ⟨c, ev, ec⟩ := a3 p2 v hv
    exact ⟨c, ev, ext c _ ec fun _ => CodeO.tbl⟩
  by_cases z : r.1 = P
  · have ep : qs = ps := by
      rw [z, me] at a1
      exact (HO.tbl.inj (Option.some.inj a1)).symm
    have lt : (ps ++ #[rawInt pos.line, rawInt pos.col, .ref c1]).toList = ps.toList ++ [rawInt pos.line, rawInt pos.col, .ref c1] := by simp
    refine ⟨ps ++ #[rawInt pos.line, rawInt pos.col, .ref c1], ?_, ?_, fun p2 v hv => ?_⟩
    · rw [e1, z, upd_ne (ne_of_none me new), upd_same]
    · rw [lt]
      exact TriplesOk_snoc _ _ _ _ ok
    · rw [lt] at hv
      rcases NdefX.among_app2 _ ok hv with w1 | ⟨w1, w2, w3⟩
      · rw [← ep] at w1
        exact old w1
      · refine ⟨c1, w1, ?_⟩
        rw [only r hr z, ← w2, ← w3]
        exact atC
  · have nC : r.1 ≠ c1 := ne_of_none a1 new
    refine ⟨qs, ?_, a2, fun p2 v hv => old hv⟩
    rw [e1, upd_ne nC, upd_ne z, a1]
/-- the words of a lambda of X's def -/
def lamF (X : Cx) (params : Arguments) (scope : Scope) (c1 : Addr) : NF where
  name := "<lambda>"
  qual := X.env.qual ++ "<lambda>"
  params := params
  body := []
  scope := scope
  cl := cloFrom X.env.cells scope.names []
  c := c1
/-- a lambda was made: the new function at f, its code object at c1 -/
structure Born (X : Cx) (pins : List (Addr × Obj)) (σ : L2.St) (T : List NTab) (H : Hp) (F : NF) (body : Expr) (f : Addr) (H1 : Hp) (s1 : Shared) : Prop where
  inv : Inv X pins σ H1 s1
  ext : ExtN H H1
  gone : ∀ b, H1 b = none → H b = none
  tabs : TabsN T H1
  was : H f = none
  fn : H1 f = some (LnO f F body)
  code : H1 F.c = some (CodeO F.c F.qual)
section
variable {X : Cx} {pins : List (Addr × Obj)} {σ : L2.St} {H H1 : Hp} {s s1 : Shared} {T : List NTab}
/-- the push of the function object, behind the code object's making -/
theorem Born.push {F : NF} {body : Expr} {m t : Value} {k : Nat} (I : Inv X pins σ H1 s1) (x : ExtN H H1) (g : ∀ b, H1 b = none → H b = none) (hT : TabsN T H1) (hc : H1 F.c = some (CodeO F.c F.qual)) :
    Born X pins σ T H F body s1.heap.objs.size (L2.upd H1 s1.heap.objs.size (LnO s1.heap.objs.size F body))
      { s1 with heap := s1.heap.push (PySem.W.kla_obj F.name F.qual F.params body F.scope F.cl m F.c t), toks := k } := by
  have free : H1 s1.heap.objs.size = none := I.hok.fresh (Nat.le_refl _)
  have up : ∀ b o, H1 b = some o → L2.upd H1 s1.heap.objs.size (LnO s1.heap.objs.size F body) b = some o := fun b o e => by
    rw [upd_ne (ne_of_none e free), e]
  have here : Stands s1.heap.objs.size F body (s1.heap.push (PySem.W.kla_obj F.name F.qual F.params body F.scope F.cl m F.c t)) := ⟨_, _, m, t, Heap.get?_push_size _ rfl⟩
  refine ⟨I.laid (fun b u e => Heap.get?_push_of_some _ e) (Nat.le_refl _) ⟨here, ?_, ?_⟩, fun b o e n => up b o (x b o e n), fun b e => g b (Gone.upd e), hT.ext up, g _ free, upd_same, up _ _ hc⟩
  · obtain ⟨_, _, _, _, e⟩ := here
    exact ⟨_, e⟩
  · rintro g1 g2 ⟨d, z, m1, t1, e⟩ keep
    exact ⟨d, z, m1, t1, keep _ e⟩
theorem lam_born {nm : Nat → Nat → Str} {c P : Addr} {params : Arguments} {body : Expr} {scope : Scope} {pos : Pos} {E : Value → Shared → Prop} {Q : Value → Shared → Prop} (I : Inv X pins σ H s) (B : TabB X.base X.mg c P) (ec : X.env.code = .ref c)
    (inT : (P, nm) ∈ T) (name : nm pos.line pos.col = X.env.qual ++ "<lambda>") (only : ∀ r ∈ T, r.1 = P → r.2 = nm) (hT : TabsN T H) (nodef : defaultsOf params X.env = ([], [])) (caps : ∀ y ∈ scope.names, y.2 = .free → ∃ c, X.env.cells.lookup y.1 = some c)
    (k : ∀ (f c1 : Addr) (H1 : Hp) (s1 : Shared), Born X pins σ T H (lamF X params scope c1) body f H1 s1 → Q (.ref f) s1) :
    wpAny (model X.prog X.w) X.A (eval (.Lambda params body scope pos) X.env) Q E s := by
  have tn : TabN H P nm := hT _ inT
  obtain ⟨ps, tb, ok, told⟩ := tn
  have real := I.hok P _ tb
  have mods := I.mod.glob.keeps I.bk
  have bl := B.bm.keeps I.bk
  have hd := B.code.keeps I.bk
  apply PySem.W.kla_eval nodef
  match hc : codeAmong pos ps.toList with
  | some v =>
    obtain ⟨c1, rfl, e1⟩ := told pos v hc
    rw [name] at e1
    exact PySem.W.kla_makeFunctionHit (closure_ok caps) I.ok.glob mods ec hd real ok hc bl fun t h1 k1 up _ =>
      k _ c1 _ _ (Born.push (F := lamF X params scope c1) (I.kept (t' := k1) up) (ExtN.refl H) (fun _ e => e) hT e1)
  | none =>
    refine PySem.W.kla_makeFunction (closure_ok caps) I.ok.glob mods ec hd real ok hc B.gP bl fun c1 t h1 k1 up lo hi rec tab => ?_
    obtain ⟨_, o, vs, n, ce, q1, q2, q3⟩ := rec
    cases ce
    have new : H c1 = none := I.hok.fresh lo
    have J := LamX.inv_table (t' := k1) I tb (fun b o nb e => up b o nb e) tab lo ⟨o, vs, n, q1, q2, q3⟩
    obtain ⟨t1, x1⟩ := tabs_more (pos := pos) hT tb ok only new rfl
    rw [name] at t1 x1
    exact k _ c1 _ _ (Born.push (F := lamF X params scope c1) J x1 (fun b e => Gone.upd (Gone.upd e)) t1 upd_same)
end
/-- a lambda's reading -/
def tLamE (T : List NTab) (mk : Addr → NF) (body : Expr) : TE := fun _ H Q => TabsN T H ∧ ∀ (f c1 : Addr) (H1 : Hp), ExtN H H1 → (∀ b, H1 b = none → H b = none) → TabsN T H1 → H f = none → H1 f = some (LnO f (mk c1) body) →
  H1 (mk c1).c = some (CodeO (mk c1).c (mk c1).qual) → Q (.ref f) H1
theorem pe_lam {X : Cx} {T : List NTab} {nm : Nat → Nat → Str} {c P : Addr} {params : Arguments} {body : Expr} {scope : Scope} {pos : Pos} (B : TabB X.base X.mg c P) (ec : X.env.code = .ref c) (inT : (P, nm) ∈ T) (name : nm pos.line pos.col = X.env.qual ++ "<lambda>")
    (only : ∀ r ∈ T, r.1 = P → r.2 = nm) (nodef : defaultsOf params X.env = ([], [])) (caps : ∀ y ∈ scope.names, y.2 = .free → X.env.scope.names.lookup y.1 = some .cell ∨ X.env.scope.names.lookup y.1 = some .free) :
    PE X (.Lambda params body scope pos) (tLamE T (lamF X params scope) body) where
  run _ _ _ _ _ I h := lam_born I B ec inT name only h.1 nodef (fun y hy e => I.ok.has _ (caps y hy e)) fun f c1 H1 _ b => ⟨.ref f, H1, b.inv, rfl, h.2 f c1 H1 b.ext b.gone b.tabs b.was b.fn b.code⟩
/-! ### its promise -/
/-- the lambda stands at f, its captured names hold ws -/
structure Ready (f : Addr) (F : NF) (body : Expr) (fr : List Str) (ws : List (Option V)) (h : Heap) (H : Hp) : Prop where
  fn : H f = some (LnO f F body)
  code : H F.c = some (CodeO F.c F.qual)
  cells : CellsAt F.cl fr ws h H
structure LOk (P : Program) (w : World) (K : PySem.W.Frag) (mg : Str → Option Value) (base : Heap) (CX : CXT) (k : Nat) (f : Addr) (F : NF) (body : Expr) (n : Nat) (fr : List Str) (sp : List (Option V) → Sp) : Prop where
  many : ∀ {ws vs H Q E}, sp ws vs H Q E → vs.length = n
  call : ∀ {A : Around} {outer : List Env} {s : Shared} {H : Hp} {us : List Value} {vs : List V} {ws : List (Option V)} {Q : VK} {E : XK}, Room k A → Env0 P w K mg base A outer s H → Ready f F body fr ws s.heap H → Vals vs us →
    sp ws vs H Q E → codeAny (model P w) A (.call (.ref f) ⟨us, []⟩) (CR CX outer P w H s Q E) s
section
variable {CX : CXT} {P : Program} {w : World} {K : PySem.W.Frag} {mg : Str → Option Value} {base : Heap} {N ps fr : List Str} {F : NF} {body : Expr} {f : Addr} {j k : Nat} {sp : List (Option V) → Sp}
theorem LOk.less {n : Nat} (o : LOk P w K mg base CX j f F body n fr sp) (h : j ≤ k) : LOk P w K mg base CX k f F body n fr sp := ⟨o.many, fun r => o.call (r.mono h)⟩
/-- by its body -/
theorem LOk.by_body (S : NScope N ps fr F.scope) (bind : ∀ (m t : Value) (us : List Value), us.length = ps.length → bindArgs (PySem.W.kla_fn F.name F.qual F.params body F.scope F.cl m (.ref F.c) t) ⟨us, []⟩ = pure (ps.zip us))
    (many : ∀ {ws vs H Q E}, sp ws vs H Q E → vs.length = ps.length)
    (hbody : ∀ (A : Around) (outer : List Env) (s : Shared) (H : Hp) (vs : List V) (ws : List (Option V)) (Q : VK) (E : XK), Room k (A.deeper (envF F f s.heap.objs.size)) → Ready f F body fr ws s.heap H → sp ws vs H Q E →
      ∃ t, PE (ncx CX P w K mg base N F f A outer s H E) body t ∧ t (startF N vs ws) H Q) :
    LOk P w K mg base CX (k + 1) f F body ps.length fr sp where
  many := many
  call := by
    intro A outer s H us vs ws Q E room e0 L r h
    have lv := many h
    have lu : us.length = ps.length := r.length ▸ lv
    obtain ⟨d, z, m, t, real⟩ := stands e0.hok L.fn
    obtain ⟨tb, hp, hq⟩ := hbody A outer s H vs ws Q E (room.deeper _) L h
    apply PySem.W.kla_callFunE room.depth real rfl S.co S.gen rfl (NdefX.codeO_at e0.hok L.code)
    rw [bind m t us lu]
    refine wpAny_pure (wpAny_newFunctionEnv S.nocell (fun y hy => S.par _ (List.of_mem_zip hy).1) (fun h1 ns same => ?_) S.kind)
    have kept : ∀ b o, s.heap.get? b = some o → h1.get? b = some o := fun b o e => same.extBut b o (Nat.ne_of_lt (Heap.lt_size e)) (Heap.get?_push_of_some _ e)
    refine ⟨(e0.mod.nolimit.keeps fun b o e => (e0.bs b o e).1).fresh _ same, ?_⟩
    have I := NdefX.inv_startN (CX := CX) (f := f) (E := E) (tk := s.toks + (ps.zip us).length) S room.hd e0 lv r L.cells ns kept
    exact PySem.W.kla_codeExpr (wpAny_mono (hp.run _ _ _ _ _ I hq) (fun u s1 ⟨v, H1, J, rv, q⟩ => ⟨v, H1, J.os, J.bare, J.base, J.hok, rv, q⟩) fun _ _ x => x)
end
/-! ### its call, in the def that got it -/
section
variable {Y : Cx} {pins : List (Addr × Obj)} {σ : L2.St} {H : Hp} {s : Shared} {f : Addr} {F : NF} {body : Expr} {fr : List Str} {ws : List (Option V)}
/-- captured cells are no objects of the frames between -/
theorem cells_stay {cl : List (Str × Addr)} (C : CellsAt cl fr ws Y.s_0.heap Y.H_0) (ex : Y.ex = []) (I : Inv Y pins σ H s) : CellsAt cl fr ws s.heap H := by
  have out : ∀ b : Addr, b ∉ Y.ex := fun b => by
    rw [ex]
    exact List.not_mem_nil
  have same : ∀ {y c v}, cl.lookup y = some c → Y.s_0.heap.IsCell c v → s.heap.IsCell c v := by
    rintro y c v e ⟨o, ho, hv⟩
    obtain ⟨_, q⟩ := I.base.any ho (C.all y c e).1 (out c)
    exact ⟨_, q, hv⟩
  constructor
  · exact C.len
  · intro y c e
    obtain ⟨free, v, o, ho, hv⟩ := C.all y c e
    exact ⟨I.base.free c o ho free (out c), v, same e ⟨o, ho, hv⟩⟩
  · exact C.inj
  · intro i y e
    obtain ⟨c, ec, hold⟩ := C.has i y e
    refine ⟨c, ec, fun v ev => ?_⟩
    obtain ⟨u, ru, cu⟩ := hold v ev
    exact ⟨u, ru, same ec cu⟩
/-- the reading: slot i holds the lambda; sp its promise with what it captured -/
def tCallL (f : Addr) (F : NF) (body : Expr) (i : Nat) (ws : List (Option V)) (sp : List (Option V) → Sp) (E : XK) (t : TA) : TE := fun σ H Q =>
  (σ[i]? = some (some (.ref f)) ∧ H f = some (LnO f F body)) ∧ t σ H fun vs H1 => (H1 f = some (LnO f F body) ∧ H1 F.c = some (CodeO F.c F.qual)) ∧ sp ws vs H1 Q E
variable {CX : CXT} {n i j k : Nat} {x : Str} {sp : List (Option V) → Sp} {E : XK} {t : TA} {e : Expr} {es : List Expr} {p pos : Pos}
theorem LOk.runs {us : List Value} {vs : List V} {Q : VK} (G : LOk Y.prog Y.w Y.K Y.mg Y.base CX k f F body n fr sp) (room : Room j Y.A) (le : k ≤ j) (out : Passes CX Y E) (I : Inv Y pins σ H s) (L : Ready f F body fr ws s.heap H) (r : Vals vs us) (h : sp ws vs H Q E) :
    wpAny (model Y.prog Y.w) Y.A (PySem.call (.ref f) us) (EP Y pins σ Q) Y.xe s := by
  refine wpAny_call (codeAny_mono (G.call (room.mono le) I.env0 L r h) ?_)
  rintro (u | fl) s1 hq
  · exact out _ _ _ _ _ _ I hq
  · cases fl with
    | ret u => exact I.after hq
    | _ => exact (hq : False).elim
theorem fnAt (I : Inv Y pins σ H s) (h : H f = some (LnO f F body)) : PySem.W.FnAt f s.heap := by
  obtain ⟨d, z, m, q, real⟩ := stands I.hok h
  exact ⟨_, d, _, z, real⟩
theorem pe_lact (G : LOk Y.prog Y.w Y.K Y.mg Y.base CX k f F body n fr sp) (C : CellsAt F.cl fr ws Y.s_0.heap Y.H_0) (ex : Y.ex = []) (room : Room j Y.A) (le : k ≤ j) (out : Passes CX Y E) (slot : Y.N[i]? = some x) (vis : Vis Y.env.scope x) (args : PA Y (e :: es) t)
    (d1 : (x == ("__debug__" : Str)) = false := by decide) (d2 : (x == ("__classdict__" : Str)) = false := by decide)
    (p1 : starEach (e :: es) Y.env = (false, eval e Y.env) :: starEach es Y.env := by rfl) (p2 : (backTo pos (starEach es Y.env)).any (·.1) = false := by rfl) :
    PE Y (.Call (.Name x p) (e :: es) [] pos) (tCallL f F body i ws sp E t) := by
  constructor
  rintro pins s σ H Q I ⟨⟨hs, hf⟩, ht⟩
  apply wpAny_Call_Name_kw
  refine thn ((pe_var slot vis d1 d2).run pins s σ H (fun v H1 => v = .ref f ∧ H1 = H) I ⟨_, hs, rfl, rfl⟩) ?_
  rintro u s1 ⟨_, _, I1, ru, rfl, rfl⟩
  cases (show u = Value.ref f from ru)
  refine PySem.W.callWith_F (first := []) (fnAt I1 hf) (thn (args.run pos pins s1 σ _ _ I1 ht) ?_) p1 p2
  rintro us s2 ⟨vs, H2, I2, r, ⟨h1, h2⟩, q⟩
  exact ⟨fnAt I2 h1, G.runs room le out I2 ⟨h1, h2, cells_stay C ex I2⟩ r q⟩
theorem pe_lact0 (G : LOk Y.prog Y.w Y.K Y.mg Y.base CX k f F body n fr sp) (C : CellsAt F.cl fr ws Y.s_0.heap Y.H_0) (ex : Y.ex = []) (room : Room j Y.A) (le : k ≤ j) (out : Passes CX Y E) (slot : Y.N[i]? = some x) (vis : Vis Y.env.scope x)
    (d1 : (x == ("__debug__" : Str)) = false := by decide) (d2 : (x == ("__classdict__" : Str)) = false := by decide) :
    PE Y (.Call (.Name x p) [] [] pos) (tCallL f F body i ws sp E tNil) := by
  constructor
  rintro pins s σ H Q I ⟨⟨hs, hf⟩, ⟨h1, h2⟩, q⟩
  apply wpAny_Call_Name_kw
  refine thn ((pe_var slot vis d1 d2).run pins s σ H (fun v H1 => v = .ref f ∧ H1 = H) I ⟨_, hs, rfl, rfl⟩) ?_
  rintro u s1 ⟨_, _, I1, ru, rfl, rfl⟩
  cases (show u = Value.ref f from ru)
  exact PySem.W.callWith_F0 (first := []) (fnAt I1 hf) (G.runs room le out I1 ⟨h1, h2, cells_stay C ex I1⟩ .nil q)
end
/-! ### a def called, its body walked at the very state -/
section
variable {X : Cx} {x qual : Str} {st : Stmt} {f : Addr} {fd : FuncData} {N ps : List Str} {k : Nat} {e : Expr} {es : List Expr} {t : TA} {p pos : Pos}
/-- what the callee's body has to show when it is entered from X at s -/
abbrev Walks (X : Cx) (qual : Str) (st : Stmt) (f : Addr) (N : List Str) (cdv : Value) (s : Shared) (H : Hp) (vs : List V) (Q : VK) : Prop :=
  ∃ t, PSs (cxOf CX0 X.prog X.w X.K X.mg X.base N qual (defScope st) f cdv X.A X.stack s H E0).nox (defBody st) t ∧ t { nx := fun _ H1 => Q .non H1, rt := Q } (start N vs) H
theorem pe_in {TT : L2.St → List V → Hp → VK → Prop} (D : Fun X.K x qual st f fd) (S : FnScope N ps (defScope st)) (room : Room (k + 1) X.A) (gl : Gl X x) (is : X.mg x = some (.ref f)) (kp : PySem.W.keepIn X.K (.ref f) = true) (bd : Binds X.K fd ps [])
    (many : ∀ {σ vs H Q}, TT σ vs H Q → vs.length = ps.length)
    (go : ∀ (cdv : Value) (pins : List (Addr × Obj)) (σ : L2.St) (H : Hp) (s : Shared) (vs : List V) (Q : VK), Inv X pins σ H s → Room k (X.A.deeper (envOfC qual (defScope st) s.heap.objs.size f cdv)) → TT σ vs H Q → Walks X qual st f N cdv s H vs Q)
    (args : PA X (e :: es) t) (d1 : (x == ("__debug__" : Str)) = false := by decide) (p1 : starEach (e :: es) X.env = (false, eval e X.env) :: starEach es X.env := by rfl) (p2 : (backTo pos (starEach es X.env)).any (·.1) = false := by rfl) :
    PE X (.Call (.Name x p) (e :: es) [] pos) (fun σ H Q => t σ H fun vs H1 => TT σ vs H1 Q) := by
  obtain ⟨_, _, _, _, _, _, cdv, _, _, rfl, lk, cd⟩ := D.ex
  constructor
  intro pins s σ H Q I h
  apply wpAny_Call_Name_kw
  refine ld_glob I gl is (PySem.W.callWith_K (h₀ := X.base) I.ok.mod.kin kp (thn (args.run pos pins s σ H _ I h) ?_) p1 p2) d1
  rintro us s1 ⟨vs, H1, I1, r, q⟩
  have lv := many q
  have b := bd s1 us I1.kIn (by rw [List.append_nil, ← r.length]; exact lv)
  rw [List.append_nil] at b
  refine ⟨I1.kIn, wpAny_call (codeAny_mono (LamX.run_ofS (CX := CX0) (E := E0) (Q := Q) lk cd S room I1.env0 b r lv fun deep => ?_) ?_)⟩
  · obtain ⟨t1, w1, w2⟩ := go cdv pins σ H1 s1 vs Q I1 deep q
    exact ⟨t1, w1.nox, w2⟩
  · rintro (u | fl) s2 hq
    · exact (hq : False).elim
    · cases fl with
      | ret u => exact I1.after hq
      | _ => exact (hq : False).elim
end
end LamV
set_option Elab.async false
set_option linter.all false
set_option maxRecDepth 100000
set_option maxHeartbeats 4000000
/-! for i, x in enumerate(t), t a tuple. -/
namespace EnT
open PySem PySem.Spec PyProof.Rows L2
section
variable {prog : Program} {w : World} {A : Around} {E : Value → Shared → Prop} {s : Shared}
theorem meets_en (a : Addr) (items : Array Value) :
    Meets (Builtin.«enumerate.__new__» ⟨[.type "enumerate", .ref a], []⟩) (fun _ R s => s.heap.IsTuple a items ∧
      R (.ok (.ret (.ref (s.heap.push { cls := .type "tuple_iterator", data := .fields #[.ref a, .int 0 0] }).objs.size)))
        { s with heap := (s.heap.push { cls := .type "tuple_iterator", data := .fields #[.ref a, .int 0 0] }).push { cls := .type "enumerate", data := .fields #[.none, .bool false, .ref s.heap.objs.size, rawInt 0, .none, .none] } }) :=
  .of_wp fun prog w A R s h => by
    obtain ⟨hp, g, d, tk, os⟩ := s
    obtain ⟨hT, h⟩ := h
    have hs := sub_enumerate
    have q : ∀ {A' : Around} {E : Value → Shared → Prop} {Q : Value → Shared → Prop}, Q (.ref hp.objs.size) ⟨hp.push { cls := .type "tuple_iterator", data := .fields #[.ref a, .int 0 0] }, g, d, tk, os⟩ →
        wpAny (model prog w) A' (pyIter (.ref a)) Q E ⟨hp, g, d, tk, os⟩ := fun k => wpAny_pyIter_tuple hT k
    wp_walk using q
    refine wpAny_stack_any fun st => wpAny_pure ?_
    split
    · rename_i c _ _ _ _ _
      cases (c == Value.type "enumerate") <;> (wp_walk using q; exact ⟨_, rfl, h⟩)
    · wp_walk using q
      exact ⟨_, rfl, h⟩
theorem call_en {a : Addr} {items : Array Value} {Q : Value → Shared → Prop} (hT : s.heap.IsTuple a items)
    (h : ∀ h1, IsEnum h1 (s.heap.objs.size + 1) s.heap.objs.size 0 .none → h1.IsTupleIter s.heap.objs.size a 0 → (∀ b o, s.heap.get? b = some o → h1.get? b = some o) → Q (.ref (s.heap.objs.size + 1)) { s with heap := h1 }) :
    wpAny (model prog w) A (call (.type "enumerate") [.ref a]) Q E s := by
  refine callType_new F.called_enumerate (by decide) (F.typeCall_enumerate_1 _) (F.newCall_enumerate_1 _) (fun obj => F.args_object_init_2 obj _) F.entry_enumerate_new (meets_en a items) ⟨hT, ?_⟩
  generalize hq : s.heap.push { cls := .type "tuple_iterator", data := .fields #[.ref a, .int 0 0] } = q
  have sz : q.objs.size = s.heap.objs.size + 1 := by rw [← hq]; exact Heap.size_push ..
  have it : q.get? s.heap.objs.size = some { cls := .type "tuple_iterator", data := .fields #[.ref a, .int 0 0] } := by rw [← hq]; exact Heap.get?_push_size _ rfl
  have en := Heap.get?_push_size q (o := { cls := .type "enumerate", data := .fields #[.none, .bool false, .ref s.heap.objs.size, rawInt 0, .none, .none] }) rfl
  rw [sz] at en
  show _ ∧ _
  rw [sz]
  refine ⟨⟨_, en, rfl⟩, h _ en ⟨_, Heap.get?_push_of_some _ it, rfl, rfl⟩ fun b o x => ?_⟩
  refine Heap.get?_push_of_some _ ?_
  rw [← hq]
  exact Heap.get?_push_of_some _ x
end
/-- the tuple at a, each item in a new pair -/
def Itn (K : PySem.W.Frag) (a : Addr) : It where
  go := fun i H => ∃ (xs : List V) (x : V), SqT K H a xs ∧ xs[i]? = some x
  yld := fun i H v H' => ∃ T x, v = .ref T ∧ H T = none ∧ H' = upd H T (.tup [.int (i : Nat), x]) ∧ ∀ xs, SqT K H a xs → xs[i]? = some x
  stop := fun i H => ∃ xs : List V, SqT K H a xs ∧ xs.length = i
theorem turn_en {P : Program} {w : World} {K : PySem.W.Frag} {elts : List Expr} {kk : Nat} {tpos : Pos} (a e it : Addr) :
    Turn P w K (.Tuple elts kk tpos) (Itn K a) [e, it] e (fun i h => (∃ old, IsEnum h e it ((i : Nat) : Int) old) ∧ h.IsTupleIter it a i ∧ e ≠ it) where
  mem := List.mem_cons_self ..
  self := by
    rintro A i s Q E ⟨⟨_, q⟩, _⟩ h
    exact wpAny_pyIter_enum q h
  keep := by
    rintro i h h1 ⟨⟨old, q⟩, r, ne⟩ k
    exact ⟨⟨old, k e (List.mem_cons_self ..) _ q⟩, r.at fun o q => k it (by simp) o q, ne⟩
  obj := by
    rintro i h ⟨⟨old, q⟩, ⟨o, r1, _, r2⟩, _⟩ b hb
    rcases List.mem_cons.mp hb with rfl | hb
    · exact ⟨_, q, fun _ z => nomatch z⟩
    · obtain rfl := List.mem_singleton.mp hb
      exact ⟨o, r1, fun _ z => nomatch (r2.symm.trans z)⟩
  item := by
    intro X hP hw hK calm i pins s σ H E I free st hg
    subst hP hw hK
    obtain ⟨⟨old, en⟩, ti, ne⟩ := st
    obtain ⟨xs, x, sq, hx⟩ := hg
    obtain ⟨its, vals, tup, _⟩ := I.tuple sq
    have T1 : s.heap.IsTuple a its.toArray := tup
    obtain ⟨u, hu, ru⟩ := vals.get hx
    have hu2 : its.toArray[i]? = some u := by rw [List.getElem?_toArray, hu]
    have lt : i < its.toArray.size := (Array.getElem?_eq_some_iff.mp hu2).1
    have nI : a ≠ it := by
      rintro rfl
      obtain ⟨o1, g1, c1, _⟩ := T1
      obtain ⟨o2, g2, c2, _⟩ := ti
      cases g1.symm.trans g2
      exact absurd (c1.symm.trans c2) (by decide)
    have nE : e ≠ a := by
      rintro rfl
      obtain ⟨o1, g1, c1, _⟩ := T1
      cases g1.symm.trans en
      exact absurd (show Value.type "enumerate" = Value.type "tuple" from c1) (by decide)
    have l1 := Heap.lt_size en
    have l2 : it < s.heap.objs.size := Heap.lt_size ti.choose_spec.1
    refine wpAny_pyNext_enum_itemD (Draws.tuple (A := X.A.in1) (I.ok.hd calm) it a nI its.toArray) en ⟨ti, T1⟩ lt ne (by simp [ne, nE]) fun y h1 tk hy out st1 new1 _ hk => ?_
    obtain rfl : y = u := Option.some.inj (hy.symm.trans hu2)
    refine ⟨_, rfl, wpAny_letOwnedTupleGo_enum (s := { s with heap := h1, toks := tk + 1 }) out fun h2 en2 same => ?_⟩
    have new2 := (same.2 _ (Nat.ne_of_gt l1)).trans new1
    have O : ObjOk X.prog X.w (upd H s.heap.objs.size (.tup [.int (i : Nat), x])) h2 s.heap.objs.size (.tup [.int (i : Nat), x]) := by
      refine ⟨?_, [.int i tk, y], .cons ⟨_, rfl⟩ (.cons ru .nil), _, new2, rfl, _, rfl⟩
      show 2 ≤ sizeLine
      decide
    have old1 : ∀ b o, b ∉ [e, it] → s.heap.get? b = some o → h2.get? b = some o := fun b o nb q => by
      simp only [List.mem_cons, List.not_mem_nil, or_false, not_or] at nb
      exact (same.2 b nb.1).trans (hk b o nb.1 nb.2 q)
    have J := I.turnedNew (t' := tk + 1) (ch := [e, it]) old1 free (Nat.le_refl _) O
    refine ⟨.ref s.heap.objs.size, _, J, rfl, ⟨_, x, rfl, I.hok.fresh (Nat.le_refl _), rfl, fun ys hy => ?_⟩, ⟨⟨y, ?_⟩, st1.1.at fun o q => (same.2 it ne.symm).trans q, ne⟩, fun b hb => ?_⟩
    · rw [I.tuple_inj hy sq, hx]
    · rw [show ((i + 1 : Nat) : Int) = (i : Int) + 1 from rfl]
      exact en2
    · have lb : b ≠ s.heap.objs.size := by
        rcases List.mem_cons.mp hb with rfl | hb
        · exact Nat.ne_of_lt l1
        · exact Nat.ne_of_lt (List.mem_singleton.mp hb ▸ l2)
      rw [upd_ne lb]
      exact (free b hb).1
  done := by
    intro X hP hw hK calm i pins s σ H E I free st hg
    subst hP hw hK
    obtain ⟨⟨old, en⟩, ti, ne⟩ := st
    obtain ⟨xs, sq, rfl⟩ := hg
    obtain ⟨its, vals, tup, _⟩ := I.tuple sq
    have T1 : s.heap.IsTuple a its.toArray := tup
    have nI : a ≠ it := by
      rintro rfl
      obtain ⟨o1, g1, c1, _⟩ := T1
      obtain ⟨o2, g2, c2, _⟩ := ti
      cases g1.symm.trans g2
      exact absurd (c1.symm.trans c2) (by decide)
    have sz : its.toArray.size = xs.length := by
      rw [List.size_toArray]
      exact vals.length.symm
    obtain ⟨f0, f1, f2, f3, f4, f5⟩ := free it (by simp)
    refine wpAny_pyNext_enum_endD (Draws.tuple (A := X.A.in1) (I.ok.hd calm) it a nI its.toArray) en (by rw [sz]; exact ⟨ti, T1⟩) fun h1 but => ⟨rfl, ?_⟩
    exact I.turned (t' := s.toks) (fun b o nb q => but b o nb q) f0 f1 f3 f4 f5
def iEnT (K : PySem.W.Frag) (ta : TA) : TI := fun σ H R => ta σ H fun vs H1 => ∃ a xs, vs = [.ref a] ∧ SqT K H1 a xs ∧ R (Itn K a) H1
theorem pi_enT {X : Cx} {e : Expr} {ta : TA} {p pos tpos : Pos} {elts : List Expr} {kk : Nat} (gl : Gl X "enumerate") (no : X.mg "enumerate" = none) (args : PA X [e] ta) (p1 : starEach [e] X.env = [(false, eval e X.env)] := by rfl) :
    PI X (.Tuple elts kk tpos) (.Call (.Name "enumerate" p) [e] [] pos) (iEnT X.K ta) := by
  constructor
  intro pins s σ H R I h
  refine Call_ (ld_blt I gl no boot_enumerate (PyProof.Rows.callWith_type1 (thn (args.run pos pins s σ H _ I h) ?_) p1 rfl))
  rintro us s1 ⟨vs, H1, I1, rv, a, xs, rfl, sq, q⟩
  obtain ⟨u, rfl⟩ : ∃ u, us = [u] := by
    cases rv with
    | cons _ t => cases t; exact ⟨_, rfl⟩
  cases rv with
  | cons ru _ =>
    cases (show u = Value.ref a from ru)
    obtain ⟨its, vals, tup, _⟩ := I1.tuple sq
    refine call_en (show s1.heap.IsTuple a its.toArray from tup) fun h1 en ti up => wpAny_pyIter_enum en ?_
    have J : Inv X pins σ H1 { s1 with heap := h1 } := I1.kept (t' := s1.toks) up
    refine ⟨_, [s1.heap.objs.size + 1, s1.heap.objs.size], _, _, H1, rfl, J, turn_en a (s1.heap.objs.size + 1) s1.heap.objs.size, ⟨⟨.none, en⟩, ti, Nat.succ_ne_self _⟩, fun b hb => ?_, q⟩
    have lo : s1.heap.objs.size ≤ b := by
      rcases List.mem_cons.mp hb with z | z
      · rw [z]
        exact Nat.le_succ _
      · rw [List.mem_singleton.mp z]
        exact Nat.le_refl _
    exact I1.fpOk lo (I1.hok.fresh lo)
end EnT
set_option Elab.async false
set_option linter.all false
set_option maxRecDepth 100000
set_option maxHeartbeats 4000000
namespace LJ
open PySem L2
def top (i : Nat) : Stmt := PySem.Challenge.pw_tracebounds_k04_works_refused.main.body.getD i (.Pass ⟨0, 0, 0, 0⟩)
abbrev sDip : Stmt := top 39
abbrev sOne : Stmt := top 40
abbrev sJar : Stmt := top 45
/-- where draws come from: a list of three numbers, the middle one small -/
def JarAt (H : Hp) (j : Addr) : Prop := ∃ (d m c : Int), H j = some (.lst [.int d, .int m, .int c]) ∧ 0 ≤ m ∧ m < 2147483249
/-- all but j stays -/
def But (j : Addr) (H H1 : Hp) : Prop := ∀ b o, b ≠ j → H b = some o → H1 b = some o
def spDip : Sp := fun vs H Q _ => ∃ (j : Addr) (t : Int), vs = [.ref j, .int t] ∧ JarAt H j ∧ 0 < t ∧ t < 1073741824 ∧
  ∀ (r : Int) (H1 : Hp), 0 ≤ r → r < t → JarAt H1 j → But j H H1 → Q (.int r) H1
/-- built-ins that are still what they were -/
structure Blt (mg : Str → Option Value) : Prop where
  divmod : mg "divmod" = none
  int : mg "int" = none
  len : mg "len" = none
  abs : mg "abs" = none
section
variable {P : Program} {w : World} {K : PySem.W.Frag} {mg : Str → Option Value} {base : Heap}
theorem scDip : FnScope ["_law_jar_here", "_law_top", "_law_digit"] ["_law_jar_here", "_law_top"] (defScope sDip) := ⟨rfl, rfl, rfl, by decide +kernel, rfl, by decide +kernel, by decide +kernel⟩
theorem ok_dip {f : Addr} {fd : FuncData} (F : Fun K "_law_dip" "_law_dip" sDip f fd) (T : Blt mg) : FnOk P w K mg base CX0 1 f fd ["_law_jar_here", "_law_top"] spDip := by
  refine F.ok scDip (fun vs H Q E h => ?_) (fun cdv A outer s H vs Q E hr h => ?_)
  · obtain ⟨j, t, rfl, _⟩ := h
    rfl
  · obtain ⟨j, t, rfl, ⟨d, m, c, hj, m0, m1⟩, t0, t1, k⟩ := h
    refine ⟨_, pss_cons (ps_asg (pe_op op_add (pe_ix ix_list (pv 0) pe_int (fun _ _ => rfl)) pe_int) (pg_sub (pv 0) pe_int set_list))
      (pss_cons (ps_if (pt_cmpR op_gt (pe_ix ix_list (pv 0) pe_int (fun _ _ => rfl)) pe_int (nomark _))
        (pss_cons (ps_asg (pe_callB call_divmod (by rfl) T.divmod (by decide +kernel) (pa_cons (pe_ix ix_list (pv 0) pe_int (fun _ _ => rfl)) (pa_cons (pv 1) pa_nil)))
          (pg_tup (by rfl) (pgs_cons (pg_sub (pv 0) pe_int set_list) (pgs_cons (pg_name (i := 2) scDip.nd rfl (Or.inl rfl)) pgs_nil))))
        (pss_one (ps_ret (pv 2)))) pss_nil)
      (pss_cons (ps_asg (pe_op op_mod (pe_callTy call_int1 (by rfl) T.int (by decide +kernel) (pa_cons (pe_op op_add (pe_op op_mul (pe_ix ix_list (pv 0) pe_int (fun _ _ => rfl)) pe_int) (pe_op op_mul pe_int (pe_ix ix_list (pv 0) pe_int (fun _ _ => rfl)))) pa_nil)) pe_int)
          (pg_sub (pv 0) pe_int set_list))
      (pss_one (ps_ret (pe_op op_mod (pe_callTy call_int1 (by rfl) T.int (by decide +kernel) (pa_cons (pe_op op_fdiv (pe_ix ix_list (pv 0) pe_int (fun _ _ => rfl)) pe_int) pa_nil)) (pv 1)))))), ?_⟩
    refine ⟨_, rfl, j, _, 2, .int c, rfl, rfl, SqL.of hj, rfl, _, _, rfl, rfl, _, rfl, j, _, 2, 2, rfl, rfl, hj, rfl, ?_⟩
    have h1 : ∀ v, (upd H j (.lst [.int d, .int m, v])) j = some (.lst [.int d, .int m, v]) := fun v => upd_same
    have b1 : ∀ o, But j H (upd H j o) := fun o b z hb hz => by
      rw [upd_ne hb]
      exact hz
    refine ⟨_, rfl, j, _, 0, .int d, rfl, rfl, SqL.of (h1 _), rfl, _, _, rfl, rfl, _, rfl, ?_⟩
    refine ite2 (fun c0 => ?_) (fun c0 => ?_)
    · refine ⟨_, rfl, j, _, 0, .int d, rfl, rfl, SqL.of (h1 _), rfl, _, rfl, _, _, rfl, ⟨t0, t1⟩, fun p hp => ?_⟩
      have jp : j ≠ p := ne_of_none (h1 _) hp
      refine ⟨p, _, rfl, SqT.of upd_same, rfl, ?_⟩
      refine ⟨_, _, rfl, _, rfl, j, _, 0, 0, rfl, rfl, (by rw [upd_ne jp]; exact h1 _), rfl, ?_⟩
      refine ⟨_, _, rfl, rfl, ?_⟩
      refine ⟨_, rfl, ?_⟩
      refine k (d % t) _ (Int.emod_nonneg _ (by omega)) (Int.emod_lt_of_pos _ t0) ⟨d / t, m, c + 1, upd_same, m0, m1⟩ fun b o hb hz => ?_
      rw [upd_ne hb, upd_ne (ne_of_none (b1 _ b o hb hz) hp), upd_ne hb]
      exact hz
    · refine ⟨_, rfl, j, _, 1, .int m, rfl, rfl, SqL.of (h1 _), rfl, _, _, rfl, rfl, .inl ⟨by omega, by omega⟩, _, rfl, j, _, 2, .int (c + 1), rfl, rfl, SqL.of (h1 _), rfl, _, _, rfl, rfl, .inl ⟨by omega, by omega⟩, _, _, rfl, rfl, .inl ⟨_, rfl, ?_⟩⟩
      refine ⟨_, _, rfl, rfl, (by show (0 : Int) < 2147483249; decide), _, rfl, j, _, 1, 1, rfl, rfl, h1 _, rfl, ?_⟩
      refine ⟨_, rfl, j, _, 1, _, rfl, rfl, SqL.of upd_same, rfl, _, _, rfl, rfl, ⟨by decide, by decide⟩, .inl ⟨_, rfl, ?_⟩⟩
      refine ⟨_, rfl, _, _, rfl, rfl, t0, ?_⟩
      refine k _ _ (Int.emod_nonneg _ (by omega)) (Int.emod_lt_of_pos _ t0) ⟨d, _, c + 1, upd_same, Int.emod_nonneg _ (by decide), Int.emod_lt_of_pos _ (by decide)⟩ fun b o hb hz => ?_
      rw [upd_ne hb, upd_ne hb]
      exact hz
theorem But.seq {j l : Addr} {H H1 : Hp} {o : HO} (b : But j H H1) (h : H l = some o) (n : l ≠ j) : H1 l = some o := b l o n h
def spOne : Sp := fun vs H Q _ => ∃ (j l : Addr) (xs : List V), vs = [.ref j, .ref l] ∧ JarAt H j ∧ H l = some (.lst xs) ∧ l ≠ j ∧ 0 < xs.length ∧ xs.length < 100000 ∧
  ∀ (n : Nat) (v : V) (H1 : Hp), xs[n]? = some v → JarAt H1 j → But j H H1 → Q v H1
theorem scOne : FnScope ["_law_jar_here", "_law_some"] ["_law_jar_here", "_law_some"] (defScope sOne) := ⟨rfl, rfl, rfl, by decide +kernel, rfl, by decide +kernel, by decide +kernel⟩
theorem ok_one {f fD : Addr} {fd fdD : FuncData} (F : Fun K "_law_one_of" "_law_one_of" sOne f fd) (T : Blt mg) (FD : Fun K "_law_dip" "_law_dip" sDip fD fdD) (bD : Binds K fdD ["_law_jar_here", "_law_top"] []) (mD : mg "_law_dip" = some (.ref fD)) :
    FnOk P w K mg base CX0 2 f fd ["_law_jar_here", "_law_some"] spOne := by
  have GD : FnOk P w K mg base CX0 1 fD fdD ["_law_jar_here", "_law_top"] spDip := ok_dip FD T
  refine F.ok scOne (fun vs H Q E h => ?_) (fun cdv A outer s H vs Q E hr h => ?_)
  · obtain ⟨j, l, xs, rfl, _⟩ := h
    rfl
  · obtain ⟨j, l, xs, rfl, J, hl, nl, p0, p1, k⟩ := h
    refine ⟨_, pss_one (ps_ret (pe_ix ix_list (pv 1) (pe_call GD hr (by rfl) mD FD.kp bD .nil pass0 (pa_cons (pv 0) (pa_cons (pe_callB call_len_seq (by rfl) T.len PySem.boot_len (pa_cons (pv 1) pa_nil)) pa_nil))) (fun _ _ => rfl))), ?_⟩
    refine ⟨_, rfl, _, rfl, _, rfl, l, _, rfl, .inl (SqL.of hl), j, (xs.length : Int), rfl, J, by omega, by omega, fun r H1 r0 r1 J1 bt => ?_⟩
    obtain ⟨v, hv⟩ : ∃ v, xs[r.toNat]? = some v := ⟨xs[r.toNat]'(by omega), List.getElem?_eq_getElem (by omega)⟩
    refine ⟨l, xs, r, v, rfl, rfl, SqL.of (bt.seq hl nl), ?_, k r.toNat v H1 hv J1 bt⟩
    unfold atI ixN
    rw [if_pos r0, if_pos r1]
    exact hv
theorem same_new {H H1 : Hp} {p : Addr} {o : HO} (s : Same H H1) (n : H1 p = none) : Same H (upd H1 p o) := fun b z e => by
  rw [upd_ne (ne_of_none (s b z e) n)]
  exact s b z e
def spJar (K : PySem.W.Frag) : Sp := fun vs H Q _ => ∃ (a : Addr) (ns : List Int) (t : Int), vs = [.ref a, .int t] ∧ SqL K H a (ns.map V.int) ∧ ns.length ≤ 63 ∧ 0 ≤ t ∧ t ≤ 100 ∧
  ∀ (j : Addr) (H1 : Hp), H j = none → Same H H1 → JarAt H1 j → Q (.ref j) H1
theorem scJar : FnScope ["_law_cells", "_law_turn", "_law_cell", "_law_mixed", "_law_each"] ["_law_cells", "_law_turn"] (defScope sJar) := ⟨rfl, rfl, rfl, by decide +kernel, rfl, by decide +kernel, by decide +kernel⟩
theorem ok_jar {f : Addr} {fd : FuncData} (F : Fun K "_law_jar" "_law_jar" sJar f fd) (T : Blt mg) : FnOk P w K mg base CX0 1 f fd ["_law_cells", "_law_turn"] (spJar K) := by
  refine F.ok scJar (fun vs H Q E h => ?_) (fun cdv A outer s H vs Q E hr h => ?_)
  · obtain ⟨j, l, xs, rfl, _⟩ := h
    rfl
  · obtain ⟨a, ns, t, rfl, hS, hn, t0, t1, k⟩ := h
    refine ⟨_, pss_cons (ps_set (i := 2) scJar.nd rfl (Or.inl rfl) (pe_join0 (pe_ifExp (pt_cmpR op_lt (pv 1) (pe_callB call_len_seq (by rfl) T.len PySem.boot_len (pa_cons (pv 0) pa_nil)) (nomark _))
        (pe_ix ix_list (pv 0) (pv 1) (fun _ _ => rfl)) (pe_op op_add (pe_op op_mul pe_int (pv 1)) pe_int))))
      (pss_cons (ps_set (i := 3) scJar.nd rfl (Or.inl rfl) (pe_op op_add pe_int (pe_op op_mul pe_int (pv 1))))
      (pss_cons (ps_for PassesOwn.never rfl (pi_list (pe_op op_cat (pe_slice sl_list (pv 0) po_none (po_some pe_int)) (pe_lst (pa_cons (pv 2) pa_nil)))) (pg_name (i := 4) scJar.nd rfl (Or.inl rfl))
        (pss_one (ps_set (i := 3) scJar.nd rfl (Or.inl rfl) (pe_op op_mod (pe_callTy call_int1 (by rfl) T.int (by decide +kernel) (pa_cons (pe_op op_add (pe_op op_mul (pv 3) pe_int) (pv 4)) pa_nil)) pe_int))))
      (pss_one (ps_ret (pe_lst (pa_cons (pe_join0 (pe_ifExp (PW.pt (pw_or (pt_cmpR op_lt (pv 2) pe_int (nomark _)) (pw_or1 (pt_cmpR op_ge (pv 2) (pe_op op_pow pe_int pe_int) (nomark _)))))
        (pe_callB call_abs (by rfl) T.abs (by decide +kernel) (pa_cons (pv 2) pa_nil)) pe_int)) (pa_cons (pv 3) (pa_cons pe_int pa_nil)))))))), ?_⟩
    refine ⟨fun v H1 => (∃ z : Int, v = .int z) ∧ H1 = H, ?_, ?_⟩
    · refine ⟨_, rfl, _, rfl, a, _, rfl, .inl hS, _, _, rfl, rfl, _, rfl, ?_⟩
      refine ite2 (fun c => ?_) (fun c => ?_)
      · have c1 : t < (ns.length : Int) := by
          have z := of_decide_eq_true c
          rw [List.length_map] at z
          exact z
        obtain ⟨z, hz⟩ : ∃ z, ns[t.toNat]? = some z := ⟨ns[t.toNat]'(by omega), List.getElem?_eq_getElem (by omega)⟩
        refine ⟨_, rfl, _, rfl, a, _, t, .int z, rfl, rfl, hS, ?_, ⟨z, rfl⟩, rfl⟩
        unfold atI ixN
        rw [if_pos t0, if_pos (by rw [List.length_map]; exact c1), Option.bind_some, List.getElem?_map, hz]
        rfl
      · exact ⟨_, rfl, _, _, rfl, rfl, .inl ⟨by omega, by omega⟩, _, _, rfl, rfl, ⟨_, rfl⟩, rfl⟩
    · rintro v H1 ⟨⟨z, rfl⟩, rfl⟩
      refine ⟨_, rfl, _, _, rfl, rfl, .inl ⟨by omega, by omega⟩, _, _, rfl, rfl, ?_⟩
      refine ⟨_, rfl, 5, rfl, a, _, rfl, hS, fun p hp => ?_⟩
      refine ⟨_, rfl, (by show 1 ≤ sizeLine; rw [sizeLine_eq]; decide), fun l hl => ?_⟩
      have pl : p ≠ l := ne_of_none upd_same hl
      have cl : (cutV (ns.map V.int) none (some 5)).length ≤ 63 := by
        have z1 := cutV_length (ns.map V.int) none (some 5)
        rw [List.length_map] at z1
        omega
      refine ⟨p, l, _, _, rfl, rfl, (by rw [upd_ne pl]; exact upd_same), upd_same, (by rw [sizeLine_eq]; show (cutV (ns.map V.int) none (some 5)).length + 1 ≤ 16777216; omega), fun q hq => ?_⟩
      have allI : ∀ (i : Nat) (y : V), (cutV (ns.map V.int) none (some 5) ++ [V.int z])[i]? = some y → ∃ e : Int, y = .int e := by
        intro i y hy
        have hm := List.mem_of_getElem? hy
        rcases List.mem_append.mp hm with hm | hm
        · have h2 := List.mem_of_mem_drop (List.mem_of_mem_take hm)
          obtain ⟨e, _, he⟩ := List.mem_map.mp h2
          exact ⟨e, he.symm⟩
        · exact ⟨z, List.mem_singleton.mp hm⟩
      have s1 : ∀ o, Same H1 (upd _ q o) := fun o => same_new (same_new (same_new (fun _ _ z => z) hp) hl) hq
      refine ⟨q, rfl, ⟨_, SqL.of upd_same⟩, for_list (K := K) (a := q) (xs := cutV (ns.map V.int) none (some 5) ++ [V.int z]) (fun i σ H2 => ∃ (m : Int) (v : Option V),
        σ = [some (.ref a), some (.int t), some (.int z), some (.int m), v] ∧ 0 ≤ m ∧ m < 2147483249 ∧ Same H1 H2 ∧ H2 q = some (.lst (cutV (ns.map V.int) none (some 5) ++ [V.int z])))
        ⟨_, none, rfl, by omega, by omega, s1 _, upd_same⟩ (fun i σ H2 _ ⟨_, _, _, _, _, _, h⟩ => SqL.of h) ?_ ?_⟩
      · rintro i y σ H2 hi ⟨m, v, rfl, m0, m1, s2, hq2⟩
        obtain ⟨e, rfl⟩ := allI i y hi
        refine ⟨_, rfl, _, _, rfl, rfl, .inl ⟨by omega, by omega⟩, _, rfl, _, _, rfl, rfl, .inl ⟨_, rfl, ?_⟩⟩
        refine ⟨_, _, rfl, rfl, (by show (0 : Int) < 2147483249; decide), ?_⟩
        exact ⟨_, _, rfl, Int.emod_nonneg _ (by decide), Int.emod_lt_of_pos _ (by decide), s2, hq2⟩
      · rintro σ H2 ⟨m, v, rfl, m0, m1, s2, hq2⟩
        refine ⟨fun v H3 => (∃ d : Int, v = .int d) ∧ H3 = H2, ?_, ?_⟩
        · refine ⟨_, rfl, _, _, rfl, rfl, _, rfl, ?_⟩
          refine ite2 (fun c => ⟨_, rfl, _, rfl, ⟨_, rfl⟩, rfl⟩) (fun c => ?_)
          refine ⟨_, rfl, _, _, rfl, rfl, ⟨by decide, by decide, by decide⟩, _, _, rfl, rfl, _, rfl, ?_⟩
          exact ite2 (fun c => ⟨_, rfl, _, rfl, ⟨_, rfl⟩, rfl⟩) (fun c => ⟨⟨_, rfl⟩, rfl⟩)
        · rintro v H3 ⟨⟨d, rfl⟩, rfl⟩
          refine ⟨_, rfl, (by show 3 ≤ sizeLine; rw [sizeLine_eq]; decide), fun j hj => ?_⟩
          have nj : H1 j = none := by
            cases e : H1 j with
            | none => rfl
            | some o =>
              rw [s2 j o e] at hj
              cases hj
          exact k j _ nj (same_new s2 hj) ⟨d, m, 0, upd_same, m0, m1⟩
end
end LJ
set_option Elab.async false
set_option linter.all false
set_option maxRecDepth 100000
set_option maxHeartbeats 4000000
namespace LJ
open PySem L2
abbrev sLabels : Stmt := top 41
abbrev sShares : Stmt := top 42
abbrev sInside : Stmt := top 43
theorem But.refl {j : Addr} {H : Hp} : But j H H := fun _ _ _ z => z
theorem But.trans {j : Addr} {H H1 H2 : Hp} (b : But j H H1) (d : But j H1 H2) : But j H H2 := fun a o n e => d a o n (b a o n e)
theorem But.new {j p : Addr} {H H1 : Hp} {o : HO} (b : But j H H1) (n : H1 p = none) : But j H (upd H1 p o) := fun a u m e => by
  rw [upd_ne (ne_of_none (b a u m e) n)]
  exact b a u m e
/-- a change of what was none when we began -/
theorem But.put {j p : Addr} {H H1 : Hp} {o : HO} (b : But j H H1) (n : H p = none) : But j H (upd H1 p o) := fun a u m e => by
  rw [upd_ne (ne_of_none e n)]
  exact b a u m e
theorem But.gone {j p : Addr} {H H1 : Hp} (b : But j H H1) (m : p ≠ j) (n : H1 p = none) : H p = none := by
  cases e : H p with
  | none => rfl
  | some o =>
    rw [b p o m e] at n
    cases n
theorem JarAt.ne {j p : Addr} {H : Hp} (h : JarAt H j) (n : H p = none) : p ≠ j := fun z => by
  obtain ⟨d, m, c, e, _⟩ := h
  rw [z, e] at n
  cases n
theorem JarAt.new {j p : Addr} {H : Hp} {o : HO} (h : JarAt H j) (n : H p = none) : JarAt (upd H p o) j := by
  have m := h.ne n
  obtain ⟨d, m1, c, e, r⟩ := h
  exact ⟨d, m1, c, by rw [upd_ne m.symm]; exact e, r⟩
theorem JarAt.put {j p : Addr} {H : Hp} {o : HO} (h : JarAt H j) (m : p ≠ j) : JarAt (upd H p o) j := by
  obtain ⟨d, m1, c, e, r⟩ := h
  exact ⟨d, m1, c, by rw [upd_ne m.symm]; exact e, r⟩
/-- a pair of bounds up to top -/
def spBounds (top : Int) : Sp := fun vs H Q _ => ∃ j : Addr, vs = [.ref j] ∧ JarAt H j ∧ ∀ (p : Addr) (lo hi : Int) (H1 : Hp), 0 ≤ lo → lo ≤ hi → hi ≤ top → JarAt H1 j → But j H H1 → H p = none → p ≠ j → H1 p = some (.tup [.int lo, .int hi]) → Q (.ref p) H1
structure BltD (mg : Str → Option Value) : Prop where
  sorted : mg "sorted" = none
  range : mg "range" = none
theorem two_sorted {a b : Int} {ns : List Int} (hp : ns.Perm [a, b]) (hs : ns.Pairwise (· ≤ ·)) : ∃ lo hi, ns = [lo, hi] ∧ lo ≤ hi ∧ (lo = a ∨ lo = b) ∧ (hi = a ∨ hi = b) := by
  have hl := hp.length_eq
  match ns, hl with
  | [x, y], _ =>
    refine ⟨x, y, rfl, ?_, ?_, ?_⟩
    · simpa using hs
    · have h := hp.mem_iff (a := x)
      simpa using h
    · have h := hp.mem_iff (a := y)
      simpa using h
section
variable {P : Program} {w : World} {K : PySem.W.Frag} {mg : Str → Option Value} {base : Heap}
theorem scShares : FnScope ["_law_jar_here", "_law_some", "_law_k"] ["_law_jar_here"] (defScope sShares) := ⟨rfl, rfl, rfl, by decide +kernel, rfl, by decide +kernel, by decide +kernel⟩
theorem scInside : FnScope ["_law_jar_here", "_law_some", "_law_k"] ["_law_jar_here"] (defScope sInside) := ⟨rfl, rfl, rfl, by decide +kernel, rfl, by decide +kernel, by decide +kernel⟩
/-- the end of both: the same bound twice, or both -/
theorem rd_ends {n : Int} {σ : St} {D : Ends} {H H2 : Hp} {j L : Addr} {lo hi top : Int} (hn0 : 0 < n) (hn1 : n < 1073741824) (h0 : σ[0]? = some (some (.ref j))) (h1 : σ[1]? = some (some (.ref L))) (J : JarAt H2 j) (b : But j H H2) (hL : H2 L = some (.lst [.int lo, .int hi])) (nL : L ≠ j)
    (l0 : 0 ≤ lo) (l1 : lo ≤ hi) (l2 : hi ≤ top) (k : ∀ (p : Addr) (lo hi : Int) (H1 : Hp), 0 ≤ lo → lo ≤ hi → hi ≤ top → JarAt H1 j → But j H H1 → H p = none → p ≠ j → H1 p = some (.tup [.int lo, .int hi]) → D.rt (.ref p) H1) :
    tRet (tIf (tTest (tOp rEq (tCall spDip [] E0 (tCons (tVar 0) (tCons (tC (.int n)) tNil))) (tC (.int 0))))
      (tTup (tCons (tOp (rIxL K) (tVar 1) (tC (.int 0))) (tCons (tOp (rIxL K) (tVar 1) (tC (.int 0))) tNil)))
      (tTup (tCons (tOp (rIxL K) (tVar 1) (tC (.int 0))) (tCons (tOp (rIxL K) (tVar 1) (tC (.int 1))) tNil)))) D σ H2 := by
  have two : 2 ≤ sizeLine := by
    rw [sizeLine_eq]
    decide
  refine ⟨_, h0, j, n, rfl, J, hn0, hn1, fun r H3 r0 r1 J3 b3 => ?_⟩
  have hL3 := b3 _ _ nL hL
  have bb := But.trans b b3
  refine ⟨rfl, _, rfl, ?_⟩
  refine ite2 (fun _ => ?_) (fun _ => ?_)
  · refine ⟨_, h1, L, _, 0, .int lo, rfl, rfl, SqL.of hL3, rfl, _, h1, L, _, 0, .int lo, rfl, rfl, SqL.of hL3, rfl, two, fun p np => ?_⟩
    have m := J3.ne np
    exact k p lo lo _ l0 (Int.le_refl _) (by omega) (J3.new np) (bb.new np) (bb.gone m np) m upd_same
  · refine ⟨_, h1, L, _, 0, .int lo, rfl, rfl, SqL.of hL3, rfl, _, h1, L, _, 1, .int hi, rfl, rfl, SqL.of hL3, rfl, two, fun p np => ?_⟩
    have m := J3.ne np
    exact k p lo hi _ l0 l1 l2 (J3.new np) (bb.new np) (bb.gone m np) m upd_same
theorem ok_shares {f fD fO : Addr} {fd fdD fdO : FuncData} (F : Fun K "_law_shares" "_law_shares" sShares f fd) (T : BltD mg)
    (GD : FnOk P w K mg base CX0 1 fD fdD ["_law_jar_here", "_law_top"] spDip) (mD : mg "_law_dip" = some (.ref fD)) (kD : PySem.W.keepIn K (.ref fD) = true) (bD : Binds K fdD ["_law_jar_here", "_law_top"] [])
    (GO : FnOk P w K mg base CX0 2 fO fdO ["_law_jar_here", "_law_some"] spOne) (mO : mg "_law_one_of" = some (.ref fO)) (kO : PySem.W.keepIn K (.ref fO) = true) (bO : Binds K fdO ["_law_jar_here", "_law_some"] []) :
    FnOk P w K mg base CX0 3 f fd ["_law_jar_here"] (spBounds 1000) := by
  refine F.ok scShares (fun vs H Q E h => ?_) (fun cdv A outer s H vs Q E hr h => ?_)
  · obtain ⟨j, rfl, _⟩ := h
    rfl
  · obtain ⟨j, rfl, J, k⟩ := h
    have hr1 : Room 1 _ := hr.mono (by decide)
    refine ⟨_, pss_cons (ps_set (i := 1) scShares.nd rfl (Or.inl rfl) (pe_callB cr_sorted (by rfl) T.sorted (by decide +kernel) (pa_cons (pe_lc (own := [("_law_k", 2)]) (g := gName 2) (by rfl) scShares.nd (pi_range1 (by rfl) T.range (pa_cons pe_int pa_nil)) (blkOk_by (own := [("_law_k", 2)]) (N := ["_law_jar_here", "_law_some", "_law_k"]) (sc := defScope sShares) (by decide +kernel)) (fun _ _ _ _ _ => pg_name (i := 2) scShares.nd rfl (Or.inl rfl)) (fun _ _ _ _ _ => pts_nil) (fun _ _ _ _ _ => pe_call GO hr (by rfl) mO kO bO .nil pass0 (pa_cons (pv 0) (pa_cons (pe_lst (pa_cons pe_int (pa_cons pe_int (pa_cons pe_int (pa_cons pe_int (pa_cons pe_int (pa_cons pe_int (pa_cons pe_int (pa_cons (pe_call GD hr1 (by rfl) mD kD bD .nil pass0 (pa_cons (pv 0) (pa_cons pe_int pa_nil))) pa_nil))))))))) pa_nil)))) pa_nil)))
      (pss_one (ps_ret (pe_ifExp (pt_cmpR op_eq (pe_call GD hr1 (by rfl) mD kD bD .nil pass0 (pa_cons (pv 0) (pa_cons pe_int pa_nil))) pe_int (nomark _)) (pe_tup (pa_cons (pe_ix ix_list (pv 1) pe_int (fun _ _ => rfl)) (pa_cons (pe_ix ix_list (pv 1) pe_int (fun _ _ => rfl)) pa_nil))) (pe_tup (pa_cons (pe_ix ix_list (pv 1) pe_int (fun _ _ => rfl)) (pa_cons (pe_ix ix_list (pv 1) pe_int (fun _ _ => rfl)) pa_nil)))))), ?_⟩
    have J0 := J
    have b0 : But j H H := But.refl
    have big : ∀ {n : Nat}, n ≤ 100 → n ≤ sizeLine := fun h => by rw [sizeLine_eq]; omega
    refine ⟨2, rfl, by decide, by decide, fun D hD => lc_range (lo := 0) (n := 2) (fun n H2 => JarAt H2 j ∧ But j H H2 ∧ ∃ zs : List Int, zs.length = n ∧ n ≤ 2 ∧ H2 D = some (.lst (zs.map V.int)) ∧ ∀ z ∈ zs, 0 ≤ z ∧ z ≤ 1000)
      ⟨J0.new hD, b0.new hD, [], rfl, by decide, upd_same, fun z hz => nomatch hz⟩ ?_ ?_⟩
    · rintro n H2 hn ⟨J2, b2, zs, hz, hz2, hDl, hb⟩
      refine ⟨rfl, ?_⟩
      refine ⟨_, rfl, _, rfl, j, 1001, rfl, J2, by decide, by decide, fun r H3 r0 r1 J3 b3 => ?_⟩
      refine ⟨big (Nat.le_of_ble_eq_true rfl), fun l nl => ?_⟩
      have ml := J3.ne nl
      refine ⟨j, l, _, rfl, J3.new nl, upd_same, ml, by exact (by decide : 0 < 8), by exact (by decide : 8 < 100000), fun m v H4 hv J4 b4 => ?_⟩
      have hm := List.mem_of_getElem? hv
      obtain ⟨z, rfl, z0, z1⟩ : ∃ z : Int, v = V.int z ∧ 0 ≤ z ∧ z ≤ 1000 := by
        simp only [List.mem_cons, List.not_mem_nil, or_false] at hm
        rcases hm with rfl | rfl | rfl | rfl | rfl | rfl | rfl | rfl <;> exact ⟨_, rfl, by omega, by omega⟩
      have dj : D ≠ j := J0.ne hD
      have e4 : H4 D = some (.lst (zs.map V.int)) := b4 _ _ dj (by rw [upd_ne (ne_of_none (b3 _ _ dj hDl) nl)]; exact b3 _ _ dj hDl)
      have bb : But j H H4 := But.trans ((But.trans b2 b3).new nl) b4
      refine ⟨_, e4, ?_, J4.put dj, bb.put (b0.gone dj hD), zs ++ [z], ?_, by omega, ?_, ?_⟩
      · rw [sizeLine_eq, List.length_map]
        omega
      · rw [List.length_append, hz]
        rfl
      · rw [List.map_append]
        exact upd_same
      · intro y hy
        rcases List.mem_append.mp hy with h | h
        · exact hb y h
        · obtain rfl := List.mem_singleton.mp h
          exact ⟨z0, z1⟩
    · rintro H2 ⟨J2, b2, zs, hz, hz2, hDl, hb⟩
      refine ⟨D, zs, rfl, SqL.of hDl, by omega, fun ns L hp hs nL => ?_⟩
      obtain ⟨a, b, rfl⟩ : ∃ a b, zs = [a, b] := by
        match zs, hz with
        | [a, b], _ => exact ⟨a, b, rfl⟩
      obtain ⟨lo, hi, rfl, hle, hlo, hhi⟩ := two_sorted hp hs
      have ba := hb a (by simp)
      have bb := hb b (by simp)
      have mL := J2.ne nL
      refine rd_ends (n := 4) (top := 1000) (j := j) (L := L) (lo := lo) (hi := hi) (by decide) (by decide) rfl rfl (J2.new nL) (b2.new nL) upd_same mL ?_ hle ?_ k
      · rcases hlo with h | h <;> omega
      · rcases hhi with h | h <;> omega
theorem ok_inside {f fD fO : Addr} {fd fdD fdO : FuncData} (F : Fun K "_law_inside" "_law_inside" sInside f fd) (T : BltD mg)
    (GD : FnOk P w K mg base CX0 1 fD fdD ["_law_jar_here", "_law_top"] spDip) (mD : mg "_law_dip" = some (.ref fD)) (kD : PySem.W.keepIn K (.ref fD) = true) (bD : Binds K fdD ["_law_jar_here", "_law_top"] [])
    (GO : FnOk P w K mg base CX0 2 fO fdO ["_law_jar_here", "_law_some"] spOne) (mO : mg "_law_one_of" = some (.ref fO)) (kO : PySem.W.keepIn K (.ref fO) = true) (bO : Binds K fdO ["_law_jar_here", "_law_some"] []) :
    FnOk P w K mg base CX0 3 f fd ["_law_jar_here"] (spBounds 1000000000000) := by
  refine F.ok scInside (fun vs H Q E h => ?_) (fun cdv A outer s H vs Q E hr h => ?_)
  · obtain ⟨j, rfl, _⟩ := h
    rfl
  · obtain ⟨j, rfl, J, k⟩ := h
    have hr1 : Room 1 _ := hr.mono (by decide)
    refine ⟨_, pss_cons (ps_if (pt_cmpR op_eq (pe_call GD hr1 (by rfl) mD kD bD .nil pass0 (pa_cons (pv 0) (pa_cons pe_int pa_nil))) pe_int (nomark _)) (pss_one (ps_ret (pe_tup (pa_cons pe_int (pa_cons pe_int pa_nil))))) pss_nil)
      (pss_cons (ps_set (i := 1) scInside.nd rfl (Or.inl rfl) (pe_callB cr_sorted (by rfl) T.sorted (by decide +kernel) (pa_cons (pe_lc (own := [("_law_k", 2)]) (g := gName 2) (by rfl) scInside.nd (pi_range1 (by rfl) T.range (pa_cons pe_int pa_nil)) (blkOk_by (own := [("_law_k", 2)]) (N := ["_law_jar_here", "_law_some", "_law_k"]) (sc := defScope sInside) (by decide +kernel)) (fun _ _ _ _ _ => pg_name (i := 2) scInside.nd rfl (Or.inl rfl)) (fun _ _ _ _ _ => pts_nil) (fun _ _ _ _ _ => pe_call GO hr (by rfl) mO kO bO .nil pass0 (pa_cons (pv 0) (pa_cons (pe_lst (pa_cons pe_int (pa_cons pe_int (pa_cons pe_int (pa_cons pe_int (pa_cons pe_int (pa_cons pe_int (pa_cons (pe_op op_sub (pe_op op_pow pe_int pe_int) (pe_call GD hr1 (by rfl) mD kD bD .nil pass0 (pa_cons (pv 0) (pa_cons pe_int pa_nil)))) pa_nil)))))))) pa_nil)))) pa_nil)))
      (pss_one (ps_ret (pe_ifExp (pt_cmpR op_eq (pe_call GD hr1 (by rfl) mD kD bD .nil pass0 (pa_cons (pv 0) (pa_cons pe_int pa_nil))) pe_int (nomark _)) (pe_tup (pa_cons (pe_ix ix_list (pv 1) pe_int (fun _ _ => rfl)) (pa_cons (pe_ix ix_list (pv 1) pe_int (fun _ _ => rfl)) pa_nil))) (pe_tup (pa_cons (pe_ix ix_list (pv 1) pe_int (fun _ _ => rfl)) (pa_cons (pe_ix ix_list (pv 1) pe_int (fun _ _ => rfl)) pa_nil))))))), ?_⟩
    refine ⟨_, rfl, j, 3, rfl, J, by decide, by decide, fun r H0 r0 r1 J0 b0 => ?_⟩
    refine ⟨rfl, _, rfl, ?_⟩
    refine ite2 (fun _ => ?_) (fun _ => ?_)
    · refine ⟨by rw [sizeLine_eq]; exact Nat.le_of_ble_eq_true rfl, fun p np => ?_⟩
      have m := J0.ne np
      exact k p 0 0 _ (by decide) (by decide) (by decide) (J0.new np) (b0.new np) (b0.gone m np) m upd_same
    · have big : ∀ {n : Nat}, n ≤ 100 → n ≤ sizeLine := fun h => by rw [sizeLine_eq]; omega
      refine ⟨2, rfl, by decide, by decide, fun D hD => lc_range (lo := 0) (n := 2) (fun n H2 => JarAt H2 j ∧ But j H H2 ∧ ∃ zs : List Int, zs.length = n ∧ n ≤ 2 ∧ H2 D = some (.lst (zs.map V.int)) ∧ ∀ z ∈ zs, 0 ≤ z ∧ z ≤ 1000000000000)
        ⟨J0.new hD, b0.new hD, [], rfl, by decide, upd_same, fun z hz => nomatch hz⟩ ?_ ?_⟩
      · rintro n H2 hn ⟨J2, b2, zs, hz, hz2, hDl, hb⟩
        refine ⟨rfl, ?_⟩
        refine ⟨_, rfl, _, _, rfl, rfl, ⟨by decide, by decide, by decide⟩, _, rfl, j, 3, rfl, J2, by decide, by decide, fun r H3 r0 r1 J3 b3 => ?_⟩
        refine ⟨_, _, rfl, rfl, ?_⟩
        refine ⟨big (Nat.le_of_ble_eq_true rfl), fun l nl => ?_⟩
        have ml := J3.ne nl
        refine ⟨j, l, _, rfl, J3.new nl, upd_same, ml, by exact (by decide : 0 < 7), by exact (by decide : 7 < 100000), fun m v H4 hv J4 b4 => ?_⟩
        have hm := List.mem_of_getElem? hv
        obtain ⟨z, rfl, z0, z1⟩ : ∃ z : Int, v = V.int z ∧ 0 ≤ z ∧ z ≤ 1000000000000 := by
          have p12 : (10 : Int) ^ ((12 : Int).toNat) = 1000000000000 := by decide
          simp only [List.mem_cons, List.not_mem_nil, or_false, p12] at hm
          rcases hm with rfl | rfl | rfl | rfl | rfl | rfl | rfl <;> exact ⟨_, rfl, by omega, by omega⟩
        have dj : D ≠ j := J0.ne hD
        have e4 : H4 D = some (.lst (zs.map V.int)) := b4 _ _ dj (by rw [upd_ne (ne_of_none (b3 _ _ dj hDl) nl)]; exact b3 _ _ dj hDl)
        have bb : But j H H4 := But.trans ((But.trans b2 b3).new nl) b4
        refine ⟨_, e4, ?_, J4.put dj, bb.put (b0.gone dj hD), zs ++ [z], ?_, by omega, ?_, ?_⟩
        · rw [sizeLine_eq, List.length_map]
          omega
        · rw [List.length_append, hz]
          rfl
        · rw [List.map_append]
          exact upd_same
        · intro y hy
          rcases List.mem_append.mp hy with h | h
          · exact hb y h
          · obtain rfl := List.mem_singleton.mp h
            exact ⟨z0, z1⟩
      · rintro H2 ⟨J2, b2, zs, hz, hz2, hDl, hb⟩
        refine ⟨D, zs, rfl, SqL.of hDl, by omega, fun ns L hp hs nL => ?_⟩
        obtain ⟨a, b, rfl⟩ : ∃ a b, zs = [a, b] := by
          match zs, hz with
          | [a, b], _ => exact ⟨a, b, rfl⟩
        obtain ⟨lo, hi, rfl, hle, hlo, hhi⟩ := two_sorted hp hs
        have ba := hb a (by simp)
        have bb := hb b (by simp)
        have mL := J2.ne nL
        refine rd_ends (n := 3) (top := 1000000000000) (j := j) (L := L) (lo := lo) (hi := hi) (by decide) (by decide) rfl rfl (J2.new nL) (b2.new nL) upd_same mL ?_ hle ?_ k
        · rcases hlo with h | h <;> omega
        · rcases hhi with h | h <;> omega
end
end LJ
set_option Elab.async false
set_option linter.all false
set_option maxRecDepth 100000
set_option maxHeartbeats 4000000
namespace LJ
open PySem L2
def menu : List Str := ["mixer", "oven", "belt", "run", "clean", "machine", "stuff", "rinse", "wash", "nuts", "milk", "a", "bar", "cake", "roll", "product", "zzzzzzzz", "rule"]
/-- the eighteen names from s on, g apart -/
def lab (s g : Int) (n : Nat) : List Str := (List.range n).map fun (k : Nat) => menu.getD ((s + g * (k : Int)) % 18).toNat Str.empty
def gaps : List Int := [1, 5, 7, 11, 13, 17]
theorem lab_nodup : ∀ s : Fin 18, ∀ g ∈ gaps, (lab (s.val : Int) g 18).Nodup := by decide +kernel
theorem lab_in (s g : Int) (n : Nat) : ∀ x ∈ lab s g n, x ∈ menu := fun x hx => by
  unfold lab at hx
  obtain ⟨k, _, rfl⟩ := List.mem_map.mp hx
  have h0 : 0 ≤ (s + g * (k : Int)) % 18 := Int.emod_nonneg _ (by decide)
  have h1 : (s + g * (k : Int)) % 18 < 18 := Int.emod_lt_of_pos _ (by decide)
  have hl : ((s + g * (k : Int)) % 18).toNat < menu.length := by
    show _ < 18
    omega
  rw [List.getD_eq_getElem?_getD, List.getElem?_eq_getElem hl]
  exact List.getElem_mem hl
theorem lab_succ (s g : Int) (n : Nat) : lab s g (n + 1) = lab s g n ++ [menu.getD ((s + g * (n : Int)) % 18).toNat Str.empty] := by
  unfold lab
  rw [List.range_succ, List.map_append]
  rfl
theorem lab_len (s g : Int) (n : Nat) : (lab s g n).length = n := by
  unfold lab
  rw [List.length_map, List.length_range]
theorem menu_at {i : Int} (h0 : 0 ≤ i) (h1 : i < 18) : atI (menu.map V.str) i = some (.str (menu.getD i.toNat Str.empty)) := by
  have hl : i.toNat < menu.length := by
    show _ < 18
    omega
  have e : atI (menu.map V.str) (i.toNat : Int) = some (.str (menu.getD i.toNat Str.empty)) := by
    refine atI_nat ?_
    rw [List.getElem?_map, List.getD_eq_getElem?_getD, List.getElem?_eq_getElem hl]
    rfl
  rwa [Int.toNat_of_nonneg h0] at e
def spLabels : Sp := fun vs H Q _ => ∃ j : Addr, vs = [.ref j] ∧ JarAt H j ∧ ∀ (p : Addr) (ls : List Str) (H1 : Hp), ls.length = 18 → ls.Nodup → (∀ x ∈ ls, x ∈ menu) → JarAt H1 j → But j H H1 → H p = none → p ≠ j → H1 p = some (.lst (ls.map V.str)) → Q (.ref p) H1
structure BltL (mg : Str → Option Value) : Prop where
  range : mg "range" = none
  int : mg "int" = none
section
variable {P : Program} {w : World} {K : PySem.W.Frag} {mg : Str → Option Value} {base : Heap}
theorem scLabels : FnScope ["_law_jar_here", "_law_menu", "_law_found", "_law_start", "_law_gap", "_law_k"] ["_law_jar_here"] (defScope sLabels) := ⟨rfl, rfl, rfl, by decide +kernel, rfl, by decide +kernel, by decide +kernel⟩
theorem ok_labels {f fD fO : Addr} {fd fdD fdO : FuncData} (F : Fun K "_law_labels" "_law_labels" sLabels f fd) (T : BltL mg)
    (GD : FnOk P w K mg base CX0 1 fD fdD ["_law_jar_here", "_law_top"] spDip) (mD : mg "_law_dip" = some (.ref fD)) (kD : PySem.W.keepIn K (.ref fD) = true) (bD : Binds K fdD ["_law_jar_here", "_law_top"] [])
    (GO : FnOk P w K mg base CX0 2 fO fdO ["_law_jar_here", "_law_some"] spOne) (mO : mg "_law_one_of" = some (.ref fO)) (kO : PySem.W.keepIn K (.ref fO) = true) (bO : Binds K fdO ["_law_jar_here", "_law_some"] []) :
    FnOk P w K mg base CX0 3 f fd ["_law_jar_here"] spLabels := by
  refine F.ok scLabels (fun vs H Q E h => ?_) (fun cdv A outer s H vs Q E hr h => ?_)
  · obtain ⟨j, rfl, _⟩ := h
    rfl
  · obtain ⟨j, rfl, J, k⟩ := h
    have hr1 : Room 1 _ := hr.mono (by decide)
    have big : ∀ {n : Nat}, n ≤ 100 → n ≤ sizeLine := fun h => by rw [sizeLine_eq]; omega
    refine ⟨_, pss_cons (ps_par (i := 1) (j := 2) (by rfl) scLabels.nd rfl rfl (by decide) rfl rfl (pa_cons (pe_lst (pa_cons pe_str (pa_cons pe_str (pa_cons pe_str (pa_cons pe_str (pa_cons pe_str (pa_cons pe_str (pa_cons pe_str (pa_cons pe_str (pa_cons pe_str (pa_cons pe_str (pa_cons pe_str pa_nil)))))))))))) (pa_cons (pe_lst pa_nil) pa_nil)) (by rfl))
      (pss_cons (ps_set (i := 1) scLabels.nd rfl (Or.inl rfl) (pe_op op_cat (pv 1) (pe_lst (pa_cons pe_str (pa_cons pe_str (pa_cons pe_str (pa_cons pe_str (pa_cons pe_str (pa_cons pe_str (pa_cons pe_str pa_nil)))))))))
      )
      (pss_cons (ps_par (i := 3) (j := 4) (by rfl) scLabels.nd rfl rfl (by decide) rfl rfl (pa_cons (pe_call GD hr1 (by rfl) mD kD bD .nil pass0 (pa_cons (pv 0) (pa_cons pe_int pa_nil))) (pa_cons (pe_call GO hr (by rfl) mO kO bO .nil pass0 (pa_cons (pv 0) (pa_cons (pe_lst (pa_cons pe_int (pa_cons pe_int (pa_cons pe_int (pa_cons pe_int (pa_cons pe_int (pa_cons pe_int pa_nil))))))) pa_nil))) pa_nil)) (by rfl))
      (pss_cons (ps_for PassesOwn.never rfl (pi_range1 (by rfl) T.range (pa_cons pe_int pa_nil)) (pg_name (i := 5) scLabels.nd rfl (Or.inl rfl))
        (pss_one (ps_expr (pe_bm PySem.F.plainAttrs_list PySem.F.slot_list_append PySem.F.type_list_append mt_append (pv 2) (pa_cons (pe_ix ix_list (pv 1) (pe_op op_mod (pe_callTy call_int1 (by rfl) T.int (by decide +kernel) (pa_cons (pe_op op_add (pv 3) (pe_op op_mul (pv 4) (pv 5))) pa_nil)) pe_int) (fun _ _ => rfl)) pa_nil)))))
      (pss_one (ps_ret (pv 2)))))), ?_⟩
    refine ⟨big (Nat.le_of_ble_eq_true rfl), fun p1 n1 => ⟨big (Nat.le_of_ble_eq_true rfl), fun p2 n2 => ?_⟩⟩
    refine ⟨_, _, rfl, ?_⟩
    refine ⟨_, rfl, big (Nat.le_of_ble_eq_true rfl), fun p3 n3 => ?_⟩
    refine ⟨p1, p3, _, _, rfl, rfl, (by rw [upd_ne (ne_of_none (by rw [upd_ne (ne_of_none upd_same n2)]; exact upd_same) n3), upd_ne (ne_of_none upd_same n2)]; exact upd_same), upd_same, big (Nat.le_of_ble_eq_true rfl), fun p4 n4 => ?_⟩
    obtain ⟨H4, s4, e2, e4, N2, ne24, hG⟩ : ∃ H4 : Hp, Same H H4 ∧ H4 p2 = some (.lst []) ∧ H4 p4 = some (.lst (menu.map V.str)) ∧ H p2 = none ∧ p2 ≠ p4 ∧ H4 = upd (upd (upd (upd H p1 (.lst [.str "mixer", .str "oven", .str "belt", .str "run", .str "clean", .str "machine", .str "stuff", .str "rinse", .str "wash", .str "nuts", .str "milk"])) p2 (.lst [])) p3 (.lst [.str "a", .str "bar", .str "cake", .str "roll", .str "product", .str "zzzzzzzz", .str "rule"])) p4
        (.lst ([.str "mixer", .str "oven", .str "belt", .str "run", .str "clean", .str "machine", .str "stuff", .str "rinse", .str "wash", .str "nuts", .str "milk"] ++ [.str "a", .str "bar", .str "cake", .str "roll", .str "product", .str "zzzzzzzz", .str "rule"])) := by
      have N2 : H p2 = none := by
        cases e : H p2 with
        | none => rfl
        | some o =>
          rw [upd_ne (ne_of_none e n1), e] at n2
          cases n2
      have S1 := fun (b : Addr) (o : HO) (e : H b = some o) => (show (upd H p1 (.lst [.str "mixer", .str "oven", .str "belt", .str "run", .str "clean", .str "machine", .str "stuff", .str "rinse", .str "wash", .str "nuts", .str "milk"])) b = some o by rw [upd_ne (ne_of_none e n1)]; exact e)
      have S2 : Same H (upd (upd H p1 (.lst [.str "mixer", .str "oven", .str "belt", .str "run", .str "clean", .str "machine", .str "stuff", .str "rinse", .str "wash", .str "nuts", .str "milk"])) p2 (.lst [])) := fun b o e => by
        rw [upd_ne (ne_of_none (S1 b o e) n2)]
        exact S1 b o e
      have S3 := fun (b : Addr) (o : HO) (e : H b = some o) => ne_of_none (S2 b o e) n3
      have X2 : (upd (upd (upd H p1 (.lst [.str "mixer", .str "oven", .str "belt", .str "run", .str "clean", .str "machine", .str "stuff", .str "rinse", .str "wash", .str "nuts", .str "milk"])) p2 (.lst [])) p3 (.lst [.str "a", .str "bar", .str "cake", .str "roll", .str "product", .str "zzzzzzzz", .str "rule"])) p2 = some (.lst []) := by
        rw [upd_ne (ne_of_none upd_same n3)]
        exact upd_same
      refine ⟨_, fun b o e => ?_, ?_, upd_same, N2, ne_of_none X2 n4, rfl⟩
      · have z : (upd (upd (upd H p1 (.lst [.str "mixer", .str "oven", .str "belt", .str "run", .str "clean", .str "machine", .str "stuff", .str "rinse", .str "wash", .str "nuts", .str "milk"])) p2 (.lst [])) p3 (.lst [.str "a", .str "bar", .str "cake", .str "roll", .str "product", .str "zzzzzzzz", .str "rule"])) b = some o := by
          rw [upd_ne (S3 b o e)]
          exact S2 b o e
        rw [upd_ne (ne_of_none z n4)]
        exact z
      · rw [upd_ne (ne_of_none X2 n4)]
        exact X2
    rw [← hG]
    clear hG n1 n2 n3 n4
    have J4 : JarAt H4 j := by
      obtain ⟨d0, m0, c0, hj0, r0⟩ := J
      exact ⟨d0, m0, c0, s4 _ _ hj0, r0⟩
    have m2 : p2 ≠ j := J.ne N2
    have m4 : p4 ≠ j := by
      intro z
      obtain ⟨d0, m0, c0, hj0, _⟩ := J4
      rw [z, hj0] at e4
      cases e4
    refine ⟨_, rfl, j, 18, rfl, J4, by decide, by decide, fun s H5 s0 s1 J5 b5 => ⟨_, rfl, big (Nat.le_of_ble_eq_true rfl), fun l nl => ?_⟩⟩
    have ml := J5.ne nl
    refine ⟨j, l, _, rfl, J5.new nl, upd_same, ml, by exact (by decide : 0 < 6), by exact (by decide : 6 < 100000), fun n v H6 hv J6 b6 => ?_⟩
    obtain ⟨g, hg, rfl⟩ : ∃ g, g ∈ gaps ∧ v = V.int g := by
      have hm : v ∈ gaps.map V.int := List.mem_of_getElem? hv
      obtain ⟨g, h1, h2⟩ := List.mem_map.mp hm
      exact ⟨g, h1, h2.symm⟩
    have b56 : But j H4 H6 := But.trans (b5.new nl) b6
    have f2 := b56 _ _ m2 e2
    have f4 := b56 _ _ m4 e4
    have bH : But j H H6 := fun b o n e => b56 b o n (s4 b o e)
    have gb : -(2 ^ 64) < g ∧ g < 2 ^ 64 := by
      simp only [gaps, List.mem_cons, List.not_mem_nil, or_false] at hg
      omega
    refine ⟨_, _, rfl, ?_⟩
    refine ⟨18, rfl, by decide, by decide, for_range (lo := 0) (n := 18) (fun n σ H7 => ∃ v5 : Option V, σ = [some (.ref j), some (.ref p4), some (.ref p2), some (.int s), some (.int g), v5] ∧ JarAt H7 j ∧ But j H H7 ∧ H7 p4 = some (.lst (menu.map V.str)) ∧ H7 p2 = some (.lst ((lab s g n).map V.str)))
      ⟨_, rfl, J6, bH, f4, f2⟩ ?_ ?_⟩
    · rintro n σ H7 hn ⟨v5, rfl, J7, b7, g4, g2⟩
      have e0 : (0 : Int) + (n : Int) = (n : Int) := by omega
      rw [e0]
      refine ⟨_, rfl, .inl ⟨rfl, _, SqL.of g2⟩, _, rfl, _, rfl, _, rfl, _, rfl, _, _, rfl, rfl, .inl gb, _, _, rfl, rfl, .inl ⟨_, rfl, ?_⟩⟩
      have i0 : 0 ≤ (s + g * (n : Int)) % 18 := Int.emod_nonneg _ (by decide)
      have i1 : (s + g * (n : Int)) % 18 < 18 := Int.emod_lt_of_pos _ (by decide)
      refine ⟨_, _, rfl, rfl, (by show (0 : Int) < 18; decide), p4, _, _, _, rfl, rfl, SqL.of g4, menu_at i0 i1, p2, _, _, rfl, rfl, g2, ?_, ?_⟩
      · rw [sizeLine_eq, List.length_map, lab_len]
        omega
      · refine ⟨_, rfl, J7.put m2, b7.put N2, ?_, ?_⟩
        · rw [upd_ne ne24.symm]
          exact g4
        · rw [lab_succ, List.map_append]
          exact upd_same
    · rintro σ H7 ⟨v5, rfl, J7, b7, g4, g2⟩
      refine ⟨_, rfl, ?_⟩
      have hs : (lab s g 18).Nodup := by
        have z := lab_nodup ⟨s.toNat, by omega⟩ g hg
        have e : ((s.toNat : Nat) : Int) = s := Int.toNat_of_nonneg s0
        simpa only [e] using z
      exact k p2 (lab s g 18) H7 (lab_len s g 18) hs (lab_in s g 18) J7 b7 N2 m2 g2
end
end LJ
set_option Elab.async false
set_option linter.all false
set_option maxRecDepth 100000
set_option maxHeartbeats 4000000
namespace LJ
open PySem L2
abbrev sWorld : Stmt := top 44
/-- drawn works, as data -/
structure Wd where
  ms : List (Str × Int × Int)
  cs : List (Str × Int × Int)
  ss : List (Str × Int)
  ps : List (Str × List (Int × Int))
def Row3 (H : Hp) (v : V) (r : Str × Int × Int) : Prop := ∃ a : Addr, v = .ref a ∧ H a = some (.tup [.str r.1, .int r.2.1, .int r.2.2])
def Row2 (H : Hp) (v : V) (r : Str × Int) : Prop := ∃ a : Addr, v = .ref a ∧ H a = some (.tup [.str r.1, .int r.2])
def Bnd (H : Hp) (v : V) (r : Int × Int) : Prop := ∃ a : Addr, v = .ref a ∧ H a = some (.tup [.int r.1, .int r.2])
def RowP (H : Hp) (v : V) (r : Str × List (Int × Int)) : Prop := ∃ (a t : Addr) (vs : List V), v = .ref a ∧ H a = some (.tup [.str r.1, .ref t]) ∧ H t = some (.tup vs) ∧ Paired (Bnd H) vs r.2
/-- all tuples stay -/
def Tup (H H1 : Hp) : Prop := ∀ b xs, H b = some (.tup xs) → H1 b = some (.tup xs)
theorem Tup.of {j : Addr} {H H1 : Hp} (J : JarAt H j) (b : But j H H1) : Tup H H1 := fun a xs e => b a _ (fun z => by
  obtain ⟨d, m, c, q, _⟩ := J
  rw [z, q] at e
  cases e) e
theorem Tup.new {H : Hp} {p : Addr} {o : HO} (n : H p = none) : Tup H (upd H p o) := fun a xs e => by
  rw [upd_ne (ne_of_none e n)]
  exact e
theorem Tup.put {H : Hp} {p : Addr} {o : HO} {ys : List V} (n : H p = some (.lst ys)) : Tup H (upd H p o) := fun a xs e => by
  have m : a ≠ p := fun z => by
    rw [z, n] at e
    cases e
  rw [upd_ne m]
  exact e
theorem Tup.trans {H H1 H2 : Hp} (s : Tup H H1) (t : Tup H1 H2) : Tup H H2 := fun a xs e => t a xs (s a xs e)
theorem Row3.seq {H H1 : Hp} {v : V} {r : Str × Int × Int} (t : Tup H H1) (h : Row3 H v r) : Row3 H1 v r := by
  obtain ⟨a, e, q⟩ := h
  exact ⟨a, e, t _ _ q⟩
theorem Row2.seq {H H1 : Hp} {v : V} {r : Str × Int} (t : Tup H H1) (h : Row2 H v r) : Row2 H1 v r := by
  obtain ⟨a, e, q⟩ := h
  exact ⟨a, e, t _ _ q⟩
theorem Bnd.seq {H H1 : Hp} {v : V} {r : Int × Int} (t : Tup H H1) (h : Bnd H v r) : Bnd H1 v r := by
  obtain ⟨a, e, q⟩ := h
  exact ⟨a, e, t _ _ q⟩
theorem RowP.seq {H H1 : Hp} {v : V} {r : Str × List (Int × Int)} (t : Tup H H1) (h : RowP H v r) : RowP H1 v r := by
  obtain ⟨a, b, vs, e, q, s, p⟩ := h
  exact ⟨a, b, vs, e, t _ _ q, t _ _ s, L2.Paired.mapP p fun x y z => Bnd.seq t z⟩
theorem Paired.snoc {α β : Type} {F : α → β → Prop} : ∀ {xs : List α} {ys : List β} {x : α} {y : β}, Paired F xs ys → F x y → Paired F (xs ++ [x]) (ys ++ [y])
  | _, _, _, _, .nil, h => .cons h .nil
  | _, _, _, _, .cons r t, h => .cons r (Paired.snoc t h)
/-- so many rows: the names one behind another from a place on -/
def Rows3 (H : Hp) (p : Addr) (ls : List Str) (off n : Nat) (ms : List (Str × Int × Int)) : Prop := (∃ vs, H p = some (.lst vs) ∧ vs.length = n ∧ Paired (Row3 H) vs ms) ∧ ms.map (·.1) = (ls.drop off).take n ∧ ∀ r ∈ ms, 0 ≤ r.2.1 ∧ r.2.1 ≤ r.2.2 ∧ r.2.2 ≤ 1000
def Rows2 (H : Hp) (p : Addr) (ls : List Str) (off n : Nat) (ss : List (Str × Int)) : Prop := (∃ vs, H p = some (.lst vs) ∧ vs.length = n ∧ Paired (Row2 H) vs ss) ∧ ss.map (·.1) = (ls.drop off).take n ∧ ∀ r ∈ ss, 0 ≤ r.2 ∧ r.2 ≤ 1000000000000
def RowsP (H : Hp) (p : Addr) (ls : List Str) (off n many : Nat) (ps : List (Str × List (Int × Int))) : Prop := (∃ vs, H p = some (.lst vs) ∧ vs.length = n ∧ Paired (RowP H) vs ps) ∧ ps.map (·.1) = (ls.drop off).take n ∧
  ∀ r ∈ ps, r.2.length = many ∧ ∀ b ∈ r.2, 0 ≤ b.1 ∧ b.1 ≤ b.2 ∧ b.2 ≤ 1000000000000
theorem names_succ {ls : List Str} {off n : Nat} {x : Str} (h : ls[off + n]? = some x) : (ls.drop off).take (n + 1) = (ls.drop off).take n ++ [x] := by
  rw [List.take_succ, List.getElem?_drop, h]
  rfl
theorem lab_at {ls : List Str} {i : Int} {n : Nat} {x : Str} (e : i = (n : Int)) (h : ls[n]? = some x) : atI (ls.map V.str) i = some (.str x) := by
  rw [e]
  refine atI_nat ?_
  rw [List.getElem?_map, h]
  rfl
theorem Rows3.but {j : Addr} {H H1 : Hp} {p : Addr} {ls : List Str} {off n : Nat} {ms : List (Str × Int × Int)} (J : JarAt H j) (b : But j H H1) (m : p ≠ j) (h : Rows3 H p ls off n ms) : Rows3 H1 p ls off n ms := by
  obtain ⟨⟨vs, h1, h2, h3⟩, h4⟩ := h
  exact ⟨⟨vs, b _ _ m h1, h2, L2.Paired.mapP h3 fun x y z => Row3.seq (Tup.of J b) z⟩, h4⟩
theorem Rows2.but {j : Addr} {H H1 : Hp} {p : Addr} {ls : List Str} {off n : Nat} {ms : List (Str × Int)} (J : JarAt H j) (b : But j H H1) (m : p ≠ j) (h : Rows2 H p ls off n ms) : Rows2 H1 p ls off n ms := by
  obtain ⟨⟨vs, h1, h2, h3⟩, h4⟩ := h
  exact ⟨⟨vs, b _ _ m h1, h2, L2.Paired.mapP h3 fun x y z => Row2.seq (Tup.of J b) z⟩, h4⟩
theorem RowsP.but {j : Addr} {H H1 : Hp} {p : Addr} {ls : List Str} {off n many : Nat} {ms : List (Str × List (Int × Int))} (J : JarAt H j) (b : But j H H1) (m : p ≠ j) (h : RowsP H p ls off n many ms) : RowsP H1 p ls off n many ms := by
  obtain ⟨⟨vs, h1, h2, h3⟩, h4⟩ := h
  exact ⟨⟨vs, b _ _ m h1, h2, L2.Paired.mapP h3 fun x y z => RowP.seq (Tup.of J b) z⟩, h4⟩
def WorldAt (H : Hp) (p : Addr) (W : Wd) : Prop := ∃ (a b c d : Addr) (va vb vc vd : List V), H p = some (.lst [.ref a, .ref b, .ref c, .ref d]) ∧ H a = some (.lst va) ∧ Paired (Row3 H) va W.ms ∧ H b = some (.lst vb) ∧ Paired (Row3 H) vb W.cs ∧
  H c = some (.lst vc) ∧ Paired (Row2 H) vc W.ss ∧ H d = some (.lst vd) ∧ Paired (RowP H) vd W.ps
structure Good (W : Wd) : Prop where
  m1 : 1 ≤ W.ms.length
  m2 : W.ms.length ≤ 6
  c2 : W.cs.length ≤ 3
  s1 : 1 ≤ W.ss.length
  s2 : W.ss.length ≤ 2
  p1 : 1 ≤ W.ps.length
  p2 : W.ps.length ≤ 4
  mb : ∀ r ∈ W.ms, 0 ≤ r.2.1 ∧ r.2.1 ≤ r.2.2 ∧ r.2.2 ≤ 1000
  cb : ∀ r ∈ W.cs, 0 ≤ r.2.1 ∧ r.2.1 ≤ r.2.2 ∧ r.2.2 ≤ 1000
  sb : ∀ r ∈ W.ss, 0 ≤ r.2 ∧ r.2 ≤ 1000000000000
  pb : ∀ r ∈ W.ps, r.2.length = W.ss.length ∧ ∀ b ∈ r.2, 0 ≤ b.1 ∧ b.1 ≤ b.2 ∧ b.2 ≤ 1000000000000
  nd : (W.ms.map (·.1) ++ (W.cs.map (·.1) ++ (W.ss.map (·.1) ++ W.ps.map (·.1)))).Nodup
  nm : ∀ x ∈ W.ms.map (·.1) ++ (W.cs.map (·.1) ++ (W.ss.map (·.1) ++ W.ps.map (·.1))), x ∈ menu
theorem Paired.len {α β : Type} {F : α → β → Prop} : ∀ {xs : List α} {ys : List β}, Paired F xs ys → xs.length = ys.length
  | _, _, .nil => rfl
  | _, _, .cons _ t => by rw [List.length_cons, List.length_cons, Paired.len t]
/-- names from four stretches of one row without doubles -/
theorem four_nodup {ls : List Str} (hl : ls.length = 18) (nd : ls.Nodup) {n1 n2 n3 n4 : Nat} (h1 : n1 ≤ 6) (h2 : n2 ≤ 3) (h3 : n3 ≤ 3) (h4 : n4 ≤ 6) :
    (ls.take n1 ++ ((ls.drop 6).take n2 ++ ((ls.drop 9).take n3 ++ (ls.drop 12).take n4))).Sublist ls := by
  have e1 : ls = ls.take 6 ++ ls.drop 6 := (List.take_append_drop 6 ls).symm
  have e2 : ls.drop 6 = (ls.drop 6).take 3 ++ ls.drop 9 := by
    have z := (List.take_append_drop 3 (ls.drop 6)).symm
    rw [List.drop_drop] at z
    exact z
  have e3 : ls.drop 9 = (ls.drop 9).take 3 ++ ls.drop 12 := by
    have z := (List.take_append_drop 3 (ls.drop 9)).symm
    rw [List.drop_drop] at z
    exact z
  have t : ∀ {xs : List Str} {a b : Nat}, a ≤ b → (xs.take a).Sublist (xs.take b) := fun {xs a b} h => by
    have z : xs.take a = (xs.take b).take a := by rw [List.take_take, Nat.min_eq_left h]
    rw [z]
    exact List.take_sublist _ _
  have s3 : ((ls.drop 9).take n3 ++ (ls.drop 12).take n4).Sublist (ls.drop 9) := by
    conv => rhs; rw [e3]
    exact (t h3).append (List.take_sublist _ _)
  have s2 : ((ls.drop 6).take n2 ++ ((ls.drop 9).take n3 ++ (ls.drop 12).take n4)).Sublist (ls.drop 6) := by
    conv => rhs; rw [e2]
    exact (t h2).append s3
  conv => rhs; rw [e1]
  exact (t h1).append s2
def spWorld : Sp := fun vs H Q _ => ∃ (j : Addr) (m : Int), vs = [.ref j, .int m] ∧ JarAt H j ∧ 0 < m ∧ m ≤ 6 ∧ ∀ (p : Addr) (W : Wd) (H1 : Hp), WorldAt H1 p W → Good W → JarAt H1 j → But j H H1 → H p = none → p ≠ j → Q (.ref p) H1
structure BltW (mg : Str → Option Value) : Prop where
  range : mg "range" = none
  tuple : mg "tuple" = none
section
variable {P : Program} {w : World} {K : PySem.W.Frag} {mg : Str → Option Value} {base : Heap}
theorem scWorld : FnScope ["_law_jar_here", "_law_most", "_law_labels_here", "_law_many", "_law_k", "_law_machines_here", "_law_cleanings_here", "_law_stuffs_here", "_law_goods", "_law_each"] ["_law_jar_here", "_law_most"] (defScope sWorld) := ⟨rfl, rfl, rfl, by decide +kernel, rfl, by decide +kernel, by decide +kernel⟩

theorem ok_world {f fD fO fL fS fN : Addr} {fd fdD fdO fdL fdS fdN : FuncData} (F : Fun K "_law_world" "_law_world" sWorld f fd) (T : BltW mg)
    (GD : FnOk P w K mg base CX0 1 fD fdD ["_law_jar_here", "_law_top"] spDip) (mD : mg "_law_dip" = some (.ref fD)) (kD : PySem.W.keepIn K (.ref fD) = true) (bD : Binds K fdD ["_law_jar_here", "_law_top"] [])
    (GO : FnOk P w K mg base CX0 2 fO fdO ["_law_jar_here", "_law_some"] spOne) (mO : mg "_law_one_of" = some (.ref fO)) (kO : PySem.W.keepIn K (.ref fO) = true) (bO : Binds K fdO ["_law_jar_here", "_law_some"] [])
    (GL : FnOk P w K mg base CX0 3 fL fdL ["_law_jar_here"] spLabels) (mL : mg "_law_labels" = some (.ref fL)) (kL : PySem.W.keepIn K (.ref fL) = true) (bL : Binds K fdL ["_law_jar_here"] [])
    (GS : FnOk P w K mg base CX0 3 fS fdS ["_law_jar_here"] (spBounds 1000)) (mS : mg "_law_shares" = some (.ref fS)) (kS : PySem.W.keepIn K (.ref fS) = true) (bS : Binds K fdS ["_law_jar_here"] [])
    (GN : FnOk P w K mg base CX0 3 fN fdN ["_law_jar_here"] (spBounds 1000000000000)) (mN : mg "_law_inside" = some (.ref fN)) (kN : PySem.W.keepIn K (.ref fN) = true) (bN : Binds K fdN ["_law_jar_here"] []) :
    FnOk P w K mg base CX0 4 f fd ["_law_jar_here", "_law_most"] spWorld := by
  refine F.ok scWorld (fun vs H Q E h => ?_) (fun cdv A outer s H vs Q E hr h => ?_)
  · obtain ⟨j, m, rfl, _⟩ := h
    rfl
  · obtain ⟨j, m, rfl, J, m0, m6, k⟩ := h
    have hr1 : Room 1 _ := hr.mono (by decide)
    have hr2 : Room 2 _ := hr.mono (by decide)
    have big : ∀ {n : Nat}, n ≤ 100 → n ≤ sizeLine := fun h => by rw [sizeLine_eq]; omega
    refine ⟨_, pss_cons (ps_asg (pe_tup (pa_cons (pe_call GL hr (by rfl) mL kL bL .nil pass0 (pa_cons (pv 0) pa_nil)) (pa_cons (pe_op op_add pe_int (pe_call GD hr1 (by rfl) mD kD bD .nil pass0 (pa_cons (pv 0) (pa_cons (pv 1) pa_nil)))) pa_nil))) (pg_tup (by rfl) (pgs_cons (pg_name (i := 2) scWorld.nd rfl (Or.inr rfl)) (pgs_cons (pg_name (i := 3) scWorld.nd rfl (Or.inl rfl)) pgs_nil))))
      (pss_cons (ps_setLc (i := 5) (own := [("_law_k", 4)]) (g := gName 4) (by rfl) scWorld.nd rfl rfl (sw_true rfl rfl rfl (by decide +kernel)) (pi_range1 (by rfl) T.range (pa_cons (pv 3) pa_nil)) (blkOk_by (own := [("_law_k", 4)]) (N := ["_law_jar_here", "_law_most", "_law_labels_here", "_law_many", "_law_k", "_law_machines_here", "_law_cleanings_here", "_law_stuffs_here", "_law_goods", "_law_each"]) (sc := defScope sWorld) (by decide +kernel)) (fun _ _ _ _ _ => pg_name (i := 4) scWorld.nd rfl (Or.inl rfl)) (fun _ _ _ _ _ => pts_nil) (fun _ _ _ _ _ => pe_op (show OpR _ _ (rCatT K) from op_catT) (pe_tup (pa_cons (pe_ix (show IxR _ (rIxL K) from ix_list) (pv 2) (pv 4) (fun _ _ => rfl)) pa_nil)) (pe_call GS hr (by rfl) mS kS bS .nil pass0 (pa_cons (pv 0) pa_nil))))
      (pss_cons (ps_setLc (i := 6) (own := [("_law_k", 4)]) (g := gName 4) (by rfl) scWorld.nd rfl rfl (sw_true rfl rfl rfl (by decide +kernel)) (pi_range1 (by rfl) T.range (pa_cons (pe_call GD hr1 (by rfl) mD kD bD .nil pass0 (pa_cons (pv 0) (pa_cons pe_int pa_nil))) pa_nil)) (blkOk_by (own := [("_law_k", 4)]) (N := ["_law_jar_here", "_law_most", "_law_labels_here", "_law_many", "_law_k", "_law_machines_here", "_law_cleanings_here", "_law_stuffs_here", "_law_goods", "_law_each"]) (sc := defScope sWorld) (by decide +kernel)) (fun _ _ _ _ _ => pg_name (i := 4) scWorld.nd rfl (Or.inl rfl)) (fun _ _ _ _ _ => pts_nil) (fun _ _ _ _ _ => pe_op (show OpR _ _ (rCatT K) from op_catT) (pe_tup (pa_cons (pe_ix (show IxR _ (rIxL K) from ix_list) (pv 2) (pe_op op_add pe_int (pv 4)) (fun _ _ => rfl)) pa_nil)) (pe_call GS hr (by rfl) mS kS bS .nil pass0 (pa_cons (pv 0) pa_nil))))
      (pss_cons (ps_par (i := 7) (j := 8) (by rfl) scWorld.nd rfl rfl (by decide) rfl rfl (pa_cons (pe_lst pa_nil) (pa_cons (pe_lst pa_nil) pa_nil)) (by rfl))
      (pss_cons (ps_for PassesOwn.never rfl (pi_range1 (by rfl) T.range (pa_cons (pe_op op_add pe_int (pe_call GD hr1 (by rfl) mD kD bD .nil pass0 (pa_cons (pv 0) (pa_cons pe_int pa_nil)))) pa_nil)) (pg_name (i := 4) scWorld.nd rfl (Or.inl rfl)) (pss_one (ps_expr (pe_bm PySem.F.plainAttrs_list PySem.F.slot_list_append PySem.F.type_list_append mt_append (pv 7) (pa_cons (pe_tup (pa_cons (pe_ix (show IxR _ (rIxL K) from ix_list) (pv 2) (pe_op op_add pe_int (pv 4)) (fun _ _ => rfl)) (pa_cons (pe_call GO hr2 (by rfl) mO kO bO .nil pass0 (pa_cons (pv 0) (pa_cons (pe_lst (pa_cons pe_int (pa_cons pe_int (pa_cons pe_int (pa_cons pe_int (pa_cons (pe_op op_pow pe_int pe_int) pa_nil)))))) pa_nil))) pa_nil))) pa_nil)))))
      (pss_cons (ps_for PassesOwn.never rfl (pi_range1 (by rfl) T.range (pa_cons (pe_op op_add pe_int (pe_call GD hr1 (by rfl) mD kD bD .nil pass0 (pa_cons (pv 0) (pa_cons pe_int pa_nil)))) pa_nil)) (pg_name (i := 4) scWorld.nd rfl (Or.inl rfl)) (pss_one (ps_expr (pe_bm PySem.F.plainAttrs_list PySem.F.slot_list_append PySem.F.type_list_append mt_append (pv 8) (pa_cons (pe_tup (pa_cons (pe_ix (show IxR _ (rIxL K) from ix_list) (pv 2) (pe_op op_add pe_int (pv 4)) (fun _ _ => rfl)) (pa_cons (pe_callTy call_tuple_of (by rfl) T.tuple (by decide +kernel) (pa_cons (pe_lc (own := [("_law_each", 9)]) (g := gName 9) (by rfl) scWorld.nd (pi_list (pv 7)) (blkOk_by (own := [("_law_each", 9)]) (N := ["_law_jar_here", "_law_most", "_law_labels_here", "_law_many", "_law_k", "_law_machines_here", "_law_cleanings_here", "_law_stuffs_here", "_law_goods", "_law_each"]) (sc := defScope sWorld) (by decide +kernel)) (fun _ _ _ _ _ => pg_name (i := 9) scWorld.nd rfl (Or.inl rfl)) (fun _ _ _ _ _ => pts_nil) (fun _ _ _ _ _ => pe_call GN hr (by rfl) mN kN bN .nil pass0 (pa_cons (pv 0) pa_nil))) pa_nil)) pa_nil))) pa_nil)))))
      (pss_one (ps_ret (pe_lst (pa_cons (pv 5) (pa_cons (pv 6) (pa_cons (pv 7) (pa_cons (pv 8) pa_nil)))))))))))), ?_⟩
    refine ⟨_, rfl, j, rfl, J, fun pl ls H1 hls hnd hin J1 b1 npl nl eL1 => ?_⟩
    refine ⟨_, rfl, _, rfl, j, m, rfl, J1, m0, by omega, fun r H2 r0 r1 J2 b2 => ⟨_, _, rfl, rfl, big (Nat.le_of_ble_eq_true rfl), fun t nt => ?_⟩⟩
    have eL2 := b2 _ _ nl eL1
    have eL3 : (upd H2 t (.tup [.ref pl, .int (1 + r)])) pl = some (.lst (ls.map V.str)) := by
      rw [upd_ne (ne_of_none eL2 nt)]
      exact eL2
    have B3 : But j H (upd H2 t (.tup [.ref pl, .int (1 + r)])) := (But.trans b1 b2).new nt
    have J3 : JarAt (upd H2 t (.tup [.ref pl, .int (1 + r)])) j := J2.new nt
    refine ⟨t, _, rfl, SqT.of upd_same, rfl, _, _, rfl, _, _, rfl, rfl, ?_⟩
    generalize upd H2 t (.tup [.ref pl, .int (1 + r)]) = H3 at eL3 B3 J3 ⊢
    refine ⟨_, rfl, _, rfl, by omega, by omega, fun D hD => lc_range (lo := 0) (fun n H2 => JarAt H2 j ∧ But j H3 H2 ∧ ∃ ms, Rows3 H2 D ls 0 n ms)
      ⟨J3.new hD, But.refl.new hD, [], ⟨⟨[], upd_same, rfl, .nil⟩, rfl, fun r hr => nomatch hr⟩⟩ ?_ ?_⟩
    · rintro n H2 hn ⟨J2, b2, ms, ⟨vs, hv, hvl, hpr⟩, hnm, hbd⟩
      have nle : 0 + n < 18 := by omega
      obtain ⟨x, hx⟩ : ∃ x, ls[0 + n]? = some x := ⟨ls[0 + n]'(by omega), List.getElem?_eq_getElem (by omega)⟩
      have dD : D ≠ j := J3.ne hD
      have eL := b2 _ _ nl eL3
      refine ⟨rfl, ?_⟩
      refine ⟨_, rfl, _, rfl, pl, _, _, _, rfl, rfl, SqL.of eL, lab_at (by omega) hx, big (Nat.le_of_ble_eq_true rfl), fun t1 nt1 => ?_⟩
      have mt1 := J2.ne nt1
      refine ⟨_, rfl, j, rfl, J2.new nt1, fun p lo hi G3 l0 l1 l2 JG bG np mp e3 => ?_⟩
      have e1 := bG _ _ mt1 upd_same
      refine ⟨t1, p, _, _, rfl, rfl, SqT.of e1, SqT.of e3, (by simp), big (Nat.le_of_ble_eq_true rfl), (fun z => by cases z), fun _ q nq => ?_⟩
      have mq := JG.ne nq
      have bb : But j H3 (upd G3 q (.tup [.str x, .int lo, .int hi])) := (But.trans (b2.new nt1) bG).new nq
      have eD : (upd G3 q (.tup [.str x, .int lo, .int hi])) D = some (.lst vs) := by
        have z := bG _ _ dD (show (upd H2 t1 (.tup [.str x])) D = some (.lst vs) by rw [upd_ne (ne_of_none hv nt1)]; exact hv)
        rw [upd_ne (ne_of_none z nq)]
        exact z
      have tt : Tup H2 (upd G3 q (.tup [.str x, .int lo, .int hi])) := Tup.trans (Tup.new nt1) (Tup.trans (Tup.of (J2.new nt1) bG) (Tup.new nq))
      have hq : (upd G3 q (.tup [.str x, .int lo, .int hi])) q = some (.tup [.str x, .int lo, .int hi]) := upd_same
      have J4 := JG.new nq (o := .tup [.str x, .int lo, .int hi])
      refine ⟨vs, eD, ?_, J4.put dD, bb.put hD, ms ++ [(x, lo, hi)], ⟨⟨vs ++ [.ref q], upd_same, by rw [List.length_append, hvl]; rfl, ?_⟩, ?_, ?_⟩⟩
      · rw [sizeLine_eq, hvl]
        omega
      · have t5 : Tup (upd G3 q (.tup [.str x, .int lo, .int hi])) (upd (upd G3 q (.tup [.str x, .int lo, .int hi])) D (.lst (vs ++ [.ref q]))) := Tup.put eD
        exact Paired.snoc (L2.Paired.mapP hpr fun a b z => Row3.seq (Tup.trans tt t5) z) ⟨q, rfl, t5 _ _ hq⟩
      · rw [List.map_append, hnm, names_succ hx]
        rfl
      · intro r hr
        rcases List.mem_append.mp hr with h | h
        · exact hbd r h
        · obtain rfl := List.mem_singleton.mp h
          exact ⟨l0, l1, l2⟩
    · rintro H4 ⟨J4, b4, ms, R4⟩
      have dD : D ≠ j := J3.ne hD
      have eL4 := b4 _ _ nl eL3
      refine ⟨_, rfl, j, 4, rfl, J4, by decide, by decide, fun r2 H5 q0 q1 J5 b5 => ⟨_, rfl, by omega, by omega, fun D2 hD2 => lc_range (lo := 0) (fun n H2 => JarAt H2 j ∧ But j H5 H2 ∧ ∃ ms, Rows3 H2 D2 ls 6 n ms)
      ⟨J5.new hD2, But.refl.new hD2, [], ⟨⟨[], upd_same, rfl, .nil⟩, rfl, fun r hr => nomatch hr⟩⟩ ?_ ?_⟩⟩
      · rintro n H2 hn ⟨J2, b2, ms, ⟨vs, hv, hvl, hpr⟩, hnm, hbd⟩
        have nle : 6 + n < 18 := by omega
        obtain ⟨x, hx⟩ : ∃ x, ls[6 + n]? = some x := ⟨ls[6 + n]'(by omega), List.getElem?_eq_getElem (by omega)⟩
        have dD2 : D2 ≠ j := J5.ne hD2
        have eL := b2 _ _ nl (b5 _ _ nl eL4)
        refine ⟨rfl, ?_⟩
        refine ⟨_, rfl, _, rfl, _, _, rfl, rfl, pl, _, _, _, rfl, rfl, SqL.of eL, lab_at (by omega) hx, big (Nat.le_of_ble_eq_true rfl), fun t1 nt1 => ?_⟩
        have mt1 := J2.ne nt1
        refine ⟨_, rfl, j, rfl, J2.new nt1, fun p lo hi G3 l0 l1 l2 JG bG np mp e3 => ?_⟩
        have e1 := bG _ _ mt1 upd_same
        refine ⟨t1, p, _, _, rfl, rfl, SqT.of e1, SqT.of e3, (by simp), big (Nat.le_of_ble_eq_true rfl), (fun z => by cases z), fun _ q nq => ?_⟩
        have mq := JG.ne nq
        have bb : But j H5 (upd G3 q (.tup [.str x, .int lo, .int hi])) := (But.trans (b2.new nt1) bG).new nq
        have eD : (upd G3 q (.tup [.str x, .int lo, .int hi])) D2 = some (.lst vs) := by
          have z := bG _ _ dD2 (show (upd H2 t1 (.tup [.str x])) D2 = some (.lst vs) by rw [upd_ne (ne_of_none hv nt1)]; exact hv)
          rw [upd_ne (ne_of_none z nq)]
          exact z
        have tt : Tup H2 (upd G3 q (.tup [.str x, .int lo, .int hi])) := Tup.trans (Tup.new nt1) (Tup.trans (Tup.of (J2.new nt1) bG) (Tup.new nq))
        have hq : (upd G3 q (.tup [.str x, .int lo, .int hi])) q = some (.tup [.str x, .int lo, .int hi]) := upd_same
        have J4 := JG.new nq (o := .tup [.str x, .int lo, .int hi])
        refine ⟨vs, eD, ?_, J4.put dD2, bb.put hD2, ms ++ [(x, lo, hi)], ⟨⟨vs ++ [.ref q], upd_same, by rw [List.length_append, hvl]; rfl, ?_⟩, ?_, ?_⟩⟩
        · rw [sizeLine_eq, hvl]
          omega
        · have t5 : Tup (upd G3 q (.tup [.str x, .int lo, .int hi])) (upd (upd G3 q (.tup [.str x, .int lo, .int hi])) D2 (.lst (vs ++ [.ref q]))) := Tup.put eD
          exact Paired.snoc (L2.Paired.mapP hpr fun a b z => Row3.seq (Tup.trans tt t5) z) ⟨q, rfl, t5 _ _ hq⟩
        · rw [List.map_append, hnm, names_succ hx]
          rfl
        · intro r hr
          rcases List.mem_append.mp hr with h | h
          · exact hbd r h
          · obtain rfl := List.mem_singleton.mp h
            exact ⟨l0, l1, l2⟩
      · rintro H6 ⟨J6, b6, cs, R6⟩
        have dD2 : D2 ≠ j := J5.ne hD2
        have bH6 : But j H H6 := But.trans B3 (But.trans b4 (But.trans b5 b6))
        have eL5 := b5 _ _ nl eL4
        have eL6 := b6 _ _ nl eL5
        have M6 : Rows3 H6 D ls 0 (1 + r).toNat ms := (R4.but J4 b5 dD).but J5 b6 dD
        clear R4 eL5 eL4 eL3
        refine ⟨big (Nat.le_of_ble_eq_true rfl), fun p7 n7 => ⟨big (Nat.le_of_ble_eq_true rfl), fun p8 n8 => ?_⟩⟩
        have m7 : p7 ≠ j := J6.ne n7
        have n86 : H6 p8 = none := by
          cases e : H6 p8 with
          | none => rfl
          | some o =>
            rw [upd_ne (ne_of_none e n7), e] at n8
            cases n8
        have m8 : p8 ≠ j := J6.ne n86
        have n78 : p7 ≠ p8 := ne_of_none upd_same n8
        have e7 : (upd (upd H6 p7 (.lst [])) p8 (.lst [])) p7 = some (.lst []) := by
          rw [upd_ne n78]
          exact upd_same
        have e8 : (upd (upd H6 p7 (.lst [])) p8 (.lst [])) p8 = some (.lst []) := upd_same
        have J8 : JarAt (upd (upd H6 p7 (.lst [])) p8 (.lst [])) j := (J6.new n7).put m8
        have b8 : But j H6 (upd (upd H6 p7 (.lst [])) p8 (.lst [])) := (But.refl.new n7).put n86
        refine ⟨_, _, rfl, ?_⟩
        generalize upd (upd H6 p7 (.lst [])) p8 (.lst []) = H8 at e7 e8 J8 b8 ⊢
        refine ⟨_, rfl, j, 2, rfl, J8, by decide, by decide, fun r3 H9 u0 u1 J9 b9 => ⟨_, _, rfl, rfl, _, rfl, by omega, by omega, for_range (lo := 0) (fun n σ G => (∃ v4 v9 : Option V, σ = [some (.ref j), some (.int m), some (.ref pl), some (.int (1 + r)), v4, some (.ref D), some (.ref D2), some (.ref p7), some (.ref p8), v9]) ∧ JarAt G j ∧ But j H6 G ∧ G p8 = some (.lst []) ∧ ∃ ss, Rows2 G p7 ls 9 n ss)
          ⟨⟨_, _, rfl⟩, J9, But.trans b8 b9, b9 _ _ m8 e8, [], ⟨⟨[], b9 _ _ m7 e7, rfl, .nil⟩, rfl, fun r hr => nomatch hr⟩⟩ ?_ ?_⟩⟩
        · rintro n σ G hn ⟨⟨v4, v9, rfl⟩, JG, bG, g8, ss, ⟨vs, hv, hvl, hpr⟩, hnm, hbd⟩
          have nle : 9 + n < 18 := by omega
          obtain ⟨x, hx⟩ : ∃ x, ls[9 + n]? = some x := ⟨ls[9 + n]'(by omega), List.getElem?_eq_getElem (by omega)⟩
          have gL := bG _ _ nl eL6
          refine ⟨_, rfl, .inl ⟨rfl, _, SqL.of hv⟩, _, rfl, _, rfl, _, _, rfl, rfl, pl, _, _, _, rfl, rfl, SqL.of gL, lab_at (by omega) hx, _, rfl, _, _, rfl, rfl, ⟨by decide, by decide, by decide⟩, big (Nat.le_of_ble_eq_true rfl), fun l nl2 => ?_⟩
          have ml := JG.ne nl2
          refine ⟨j, l, _, rfl, JG.new nl2, upd_same, ml, by exact (by decide : 0 < 5), by exact (by decide : 5 < 100000), fun i v G2 hvv JG2 bG2 => ?_⟩
          obtain ⟨z, rfl, z0, z1⟩ : ∃ z : Int, v = V.int z ∧ 0 ≤ z ∧ z ≤ 1000000000000 := by
            have hm := List.mem_of_getElem? hvv
            have p12 : (10 : Int) ^ ((12 : Int).toNat) = 1000000000000 := by decide
            simp only [List.mem_cons, List.not_mem_nil, or_false, p12] at hm
            rcases hm with rfl | rfl | rfl | rfl | rfl <;> exact ⟨_, rfl, by omega, by omega⟩
          have bb : But j G G2 := But.trans (But.refl.new nl2) bG2
          have gv := bb _ _ m7 hv
          have gg8 := bb _ _ m8 g8
          refine ⟨big (Nat.le_of_ble_eq_true rfl), fun q nq => ?_⟩
          have gv2 : (upd G2 q (.tup [.str x, .int z])) p7 = some (.lst vs) := by
            rw [upd_ne (ne_of_none gv nq)]
            exact gv
          have gg9 : (upd G2 q (.tup [.str x, .int z])) p8 = some (.lst []) := by
            rw [upd_ne (ne_of_none gg8 nq)]
            exact gg8
          have hq : (upd G2 q (.tup [.str x, .int z])) q = some (.tup [.str x, .int z]) := upd_same
          have tt : Tup G (upd G2 q (.tup [.str x, .int z])) := Tup.trans (Tup.of JG bb) (Tup.new nq)
          have J4' := JG2.new nq (o := .tup [.str x, .int z])
          have bb2 : But j H6 (upd G2 q (.tup [.str x, .int z])) := But.trans bG (bb.new nq)
          refine ⟨p7, _, _, rfl, rfl, gv2, by rw [sizeLine_eq, hvl]; omega, ⟨⟨_, _, rfl⟩, J4'.put m7, bb2.put n7, ?_, ss ++ [(x, z)], ⟨⟨vs ++ [.ref q], upd_same, by rw [List.length_append, hvl]; rfl, ?_⟩, ?_, ?_⟩⟩⟩
          · rw [upd_ne n78.symm]
            exact gg9
          · have t5 : Tup (upd G2 q (.tup [.str x, .int z])) (upd (upd G2 q (.tup [.str x, .int z])) p7 (.lst (vs ++ [.ref q]))) := Tup.put gv2
            exact Paired.snoc (L2.Paired.mapP hpr fun a b z => Row2.seq (Tup.trans tt t5) z) ⟨q, rfl, t5 _ _ hq⟩
          · rw [List.map_append, hnm, names_succ hx]
            rfl
          · intro r hr
            rcases List.mem_append.mp hr with h | h
            · exact hbd r h
            · obtain rfl := List.mem_singleton.mp h
              exact ⟨z0, z1⟩
        · rintro σ Ha ⟨⟨v4, v9, rfl⟩, Ja, ba, a8, ss, Ra⟩
          refine ⟨_, rfl, j, 4, rfl, Ja, by decide, by decide, fun r4 Hb w0 w1 Jb bb => ⟨_, _, rfl, rfl, _, rfl, by omega, by omega, ?_⟩⟩
          have eLb := bb _ _ nl (ba _ _ nl eL6)
          have Sb : Rows2 Hb p7 ls 9 (1 + r3).toNat ss := Ra.but Ja bb m7
          have b8b := bb _ _ m8 a8
          have bHb : But j H6 Hb := But.trans ba bb
          clear Ra a8
          refine for_range (lo := 0) (fun n σ G => (∃ v4 v9 : Option V, σ = [some (.ref j), some (.int m), some (.ref pl), some (.int (1 + r)), v4, some (.ref D), some (.ref D2), some (.ref p7), some (.ref p8), v9]) ∧ JarAt G j ∧ But j H6 G ∧ Rows2 G p7 ls 9 (1 + r3).toNat ss ∧ ∃ ps, RowsP G p8 ls 12 n (1 + r3).toNat ps)
            ⟨⟨_, _, rfl⟩, Jb, bHb, Sb, [], ⟨⟨[], b8b, rfl, .nil⟩, rfl, fun r hr => nomatch hr⟩⟩ ?_ ?_
          · rintro n σ G hn ⟨⟨v4, v9, rfl⟩, JG, bG, SG, ps, ⟨vs, hv, hvl, hpr⟩, hnm, hbd⟩
            have nle : 12 + n < 18 := by omega
            obtain ⟨x, hx⟩ : ∃ x, ls[12 + n]? = some x := ⟨ls[12 + n]'(by omega), List.getElem?_eq_getElem (by omega)⟩
            have gL := bG _ _ nl eL6
            obtain ⟨⟨v7, h7, l7, _⟩, _⟩ := id SG
            refine ⟨_, rfl, .inl ⟨rfl, _, SqL.of hv⟩, _, rfl, _, rfl, _, _, rfl, rfl, pl, _, _, _, rfl, rfl, SqL.of gL, lab_at (by omega) hx, ?_⟩
            refine ⟨_, rfl, p7, rfl, ⟨_, SqL.of h7⟩, fun E9 hE => lc_list (K := K) (a := p7) (xs := v7) (fun i G2 => JarAt G2 j ∧ But j G G2 ∧ ∃ (ws : List V) (bs : List (Int × Int)), G2 E9 = some (.lst ws) ∧ ws.length = i ∧ Paired (Bnd G2) ws bs ∧ ∀ b ∈ bs, 0 ≤ b.1 ∧ b.1 ≤ b.2 ∧ b.2 ≤ 1000000000000)
              ⟨JG.new hE, But.refl.new hE, [], [], upd_same, rfl, .nil, fun b hb => nomatch hb⟩ (fun i G2 _ ⟨_, b2, _⟩ => SqL.of (b2 _ _ m7 h7)) ?_ ?_⟩
            · rintro i y G2 hy ⟨JG2, bG2, ws, bs, hw, hwl, hwp, hwb⟩
              have il : i < v7.length := (List.getElem?_eq_some_iff.mp hy).1
              have dE : E9 ≠ j := JG.ne hE
              refine ⟨rfl, ?_⟩
              refine ⟨_, rfl, j, rfl, JG2, fun p lo hi G3 l0 l1 l2 JG3 bG3 np mp e3 => ?_⟩
              have hw3 := bG3 _ _ dE hw
              refine ⟨ws, hw3, ?_, JG3.put dE, (But.trans bG2 bG3).put hE, ws ++ [.ref p], bs ++ [(lo, hi)], upd_same, by rw [List.length_append, hwl]; rfl, ?_, ?_⟩
              · rw [sizeLine_eq, hwl]
                omega
              · have t5 : Tup G3 (upd G3 E9 (.lst (ws ++ [.ref p]))) := Tup.put hw3
                exact Paired.snoc (L2.Paired.mapP hwp fun a b z => Bnd.seq (Tup.trans (Tup.of JG2 bG3) t5) z) ⟨p, rfl, t5 _ _ e3⟩
              · intro b hb
                rcases List.mem_append.mp hb with h | h
                · exact hwb b h
                · obtain rfl := List.mem_singleton.mp h
                  exact ⟨l0, l1, l2⟩
            · rintro G2 ⟨JG2, bG2, ws, bs, hw, hwl, hwp, hwb⟩
              refine ⟨E9, ws, rfl, .inl ⟨SqL.of hw, fun t nt => ?_⟩⟩
              refine ⟨big (Nat.le_of_ble_eq_true rfl), fun q nq => ?_⟩
              have f1 : (upd (upd G2 t (.tup ws)) q (.tup [.str x, .ref t])) q = some (.tup [.str x, .ref t]) := upd_same
              have f2 : (upd (upd G2 t (.tup ws)) q (.tup [.str x, .ref t])) t = some (.tup ws) := by
                rw [upd_ne (ne_of_none upd_same nq)]
                exact upd_same
              have T1 : Tup G2 (upd (upd G2 t (.tup ws)) q (.tup [.str x, .ref t])) := Tup.trans (Tup.new nt) (Tup.new nq)
              have B1 : But j G (upd (upd G2 t (.tup ws)) q (.tup [.str x, .ref t])) := (bG2.new nt).new nq
              have JX : JarAt (upd (upd G2 t (.tup ws)) q (.tup [.str x, .ref t])) j := (JG2.new nt).new nq
              generalize upd (upd G2 t (.tup ws)) q (.tup [.str x, .ref t]) = G4 at f1 f2 T1 B1 JX ⊢
              have hv4 := B1 _ _ m8 hv
              have t5 : Tup G4 (upd G4 p8 (.lst (vs ++ [.ref q]))) := Tup.put hv4
              have tG : Tup G (upd G4 p8 (.lst (vs ++ [.ref q]))) := Tup.trans (Tup.of JG B1) t5
              refine ⟨p8, _, _, rfl, rfl, hv4, by rw [sizeLine_eq, hvl]; omega, ⟨⟨_, _, rfl⟩, JX.put m8, (But.trans bG B1).put n86, ?_, ps ++ [(x, bs)], ⟨⟨vs ++ [.ref q], upd_same, by rw [List.length_append, hvl]; rfl, ?_⟩, ?_, ?_⟩⟩⟩
              · obtain ⟨⟨v7, h7, l7, p7r⟩, rest⟩ := SG
                exact ⟨⟨v7, by rw [upd_ne n78]; exact B1 _ _ m7 h7, l7, L2.Paired.mapP p7r fun a b z => Row2.seq tG z⟩, rest⟩
              · exact Paired.snoc (L2.Paired.mapP hpr fun a b z => RowP.seq tG z) ⟨q, t, ws, rfl, t5 _ _ f1, t5 _ _ f2, L2.Paired.mapP hwp fun a b z => Bnd.seq (Tup.trans T1 t5) z⟩
              · rw [List.map_append, hnm, names_succ hx]
                rfl
              · intro r hr
                rcases List.mem_append.mp hr with h | h
                · exact hbd r h
                · obtain rfl := List.mem_singleton.mp h
                  exact ⟨by rw [← Paired.len hwp, hwl, l7], hwb⟩
          · rintro σ Hc ⟨⟨v4, v9, rfl⟩, Jc, bc, Sc, ps, Pc⟩
            refine ⟨_, rfl, _, rfl, _, rfl, _, rfl, big (Nat.le_of_ble_eq_true rfl), fun p np => ?_⟩
            have mp := Jc.ne np
            have Mc := M6.but J6 bc dD
            have Cc := R6.but J6 bc dD2
            have bn : But j Hc (upd Hc p (.lst [.ref D, .ref D2, .ref p7, .ref p8])) := But.refl.new np
            obtain ⟨⟨va, ha, la, pa⟩, na, ba'⟩ := Mc.but Jc bn dD
            obtain ⟨⟨vb, hb, lb, pb⟩, nb, bb'⟩ := Cc.but Jc bn dD2
            obtain ⟨⟨vc, hc, lc, pc⟩, nc, bc'⟩ := Sc.but Jc bn m7
            obtain ⟨⟨vd, hd, ld, pd⟩, nd', bd'⟩ := Pc.but Jc bn m8
            have sub := four_nodup hls hnd (n1 := (1 + r).toNat) (n2 := r2.toNat) (n3 := (1 + r3).toNat) (n4 := (1 + r4).toNat) (by omega) (by omega) (by omega) (by omega)
            have xa := Paired.len pa
            have xb := Paired.len pb
            have xc := Paired.len pc
            have xd := Paired.len pd
            refine k p ⟨ms, cs, ss, ps⟩ _ ⟨D, D2, p7, p8, va, vb, vc, vd, upd_same, ha, pa, hb, pb, hc, pc, hd, pd⟩ ?_ (Jc.new np) ((But.trans bH6 bc).new np) ((But.trans bH6 bc).gone mp np) mp
            refine ⟨?_, ?_, ?_, ?_, ?_, ?_, ?_, ba', bb', bc', ?_, ?_, ?_⟩
            · show 1 ≤ ms.length
              omega
            · show ms.length ≤ 6
              omega
            · show cs.length ≤ 3
              omega
            · show 1 ≤ ss.length
              omega
            · show ss.length ≤ 2
              omega
            · show 1 ≤ ps.length
              omega
            · show ps.length ≤ 4
              omega
            · intro r hr
              obtain ⟨h1, h2⟩ := bd' r hr
              exact ⟨by show _ = ss.length; omega, h2⟩
            · show (ms.map (·.1) ++ (cs.map (·.1) ++ (ss.map (·.1) ++ ps.map (·.1)))).Nodup
              rw [na, nb, nc, nd', List.drop_zero]
              exact List.Sublist.nodup sub hnd
            · show ∀ x ∈ ms.map (·.1) ++ (cs.map (·.1) ++ (ss.map (·.1) ++ ps.map (·.1))), x ∈ menu
              rw [na, nb, nc, nd', List.drop_zero]
              exact fun x hx => hin x (sub.subset hx)
end
end LJ
set_option Elab.async false
set_option linter.all false
set_option maxRecDepth 100000
set_option maxHeartbeats 4000000
/-! The small tests of works: is_integer, is_name, _is_named, _are_bounds; over any known value. -/
namespace LJ
open PySem PySem.Spec L2
/-- a op1 b op2 c op3 d -/
def tChain3 (r1 r2 r3 : R2) (ta tb tc td : TE) : TE := fun σ H Q => ta σ H fun x H1 => tb σ H1 fun y H2 => r1 x y H2 fun u H3 => ∃ k, u = .bl k ∧
  if k = true then tc σ H3 fun z H4 => r2 y z H4 fun v H5 => ∃ l, v = .bl l ∧ (if l = true then td σ H5 fun w H6 => r3 z w H6 Q else Q (.bl false) H5) else Q (.bl false) H3
theorem pe_chain3 {X : Cx} {o1 o2 o3 : CmpOp} {r1 r2 r3 : R2} {a b c d : Expr} {ta tb tc td : TE} {pos : Pos} (h1 : OpR X (compareOp o1) r1) (h2 : OpR X (compareOp o2) r2) (h3 : OpR X (compareOp o3) r3) (ea : PE X a ta) (eb : PE X b tb) (ec : PE X c tc) (ed : PE X d td)
    (hm : lastMarks [o1, o2, o3] [b, c, d] = false := by with_unfolding_all rfl) : PE X (.Compare a [o1, o2, o3] [b, c, d] pos) (tChain3 r1 r2 r3 ta tb tc td) := by
  constructor
  intro pins s σ H Q I h
  refine PyProof.Rows.Compare_chain (thn (ea.run pins s σ H _ I h) ?_) hm
  rintro ua s1 ⟨x, H1, I1, rx, q1⟩
  refine PyProof.Rows.chain_link (thn (eb.run pins s1 σ H1 _ I1 q1) ?_)
  rintro ub s2 ⟨y, H2, I2, ry, q2⟩
  refine thn (h1 pins s2 σ H2 x y ua ub _ I2 rx ry q2) ?_
  rintro u1 s3 ⟨_, H3, I3, ru, k, rfl, q3⟩
  cases ru
  refine wpAny_truthy_bool ?_
  cases k
  · exact ⟨.bl false, H3, I3, rfl, q3⟩
  refine PyProof.Rows.chain_link (thn (ec.run pins s3 σ H3 _ I3 q3) ?_)
  rintro uc s4 ⟨z, H4, I4, rz, q4⟩
  refine thn (h2 pins s4 σ H4 y z ub uc _ I4 ry rz q4) ?_
  rintro u2 s5 ⟨_, H5, I5, rv, l, rfl, q5⟩
  cases rv
  refine wpAny_truthy_bool ?_
  cases l
  · exact ⟨.bl false, H5, I5, rfl, q5⟩
  refine PyProof.Rows.chain_last (thn (ed.run pins s5 σ H5 _ I5 q5) ?_)
  rintro ud s6 ⟨w, H6, I6, rw, q6⟩
  exact h3 pins s6 σ H6 z w uc ud Q I6 rz rw q6
/-! ### known values -/
/-- all that stood stands -/
def Ex (H H1 : Hp) : Prop := ∀ b o, H b = some o → H1 b = some o
theorem Ex.refl {H : Hp} : Ex H H := fun _ _ e => e
theorem Ex.trans {H H1 H2 : Hp} (s : Ex H H1) (t : Ex H1 H2) : Ex H H2 := fun b o e => t b o (s b o e)
theorem Ex.new {H H1 : Hp} {p : Addr} {o : HO} (s : Ex H H1) (n : H1 p = none) : Ex H (upd H1 p o) := fun b u e => by
  rw [upd_ne (ne_of_none (s b u e) n)]
  exact s b u e
theorem Ex.put {H H1 : Hp} {p : Addr} {o : HO} (s : Ex H H1) (n : H p = none) : Ex H (upd H1 p o) := fun b u e => by
  rw [upd_ne (ne_of_none e n)]
  exact s b u e
theorem Ex.gone {H H1 : Hp} {p : Addr} (s : Ex H H1) (n : H1 p = none) : H p = none := by
  cases e : H p with
  | none => rfl
  | some o =>
    rw [s p o e] at n
    cases n
def isI : V → Bool
  | .int _ => true
  | _ => false
def tupOf (H : Hp) : V → Option (List V)
  | .ref a => match H a with
    | some (.tup xs) => some xs
    | _ => none
  | _ => none
/-- is this a string of one to eight letters from a to z -/
def isW (s : Str) : Bool := decide (1 ≤ s.length) && (decide (s.length ≤ 8) && s.cps.toList.all fun c => decide (97 ≤ c) && decide (c ≤ 122))
def isN : V → Bool
  | .str s => isW s
  | _ => false
inductive Kn (K : PySem.W.Frag) (H : Hp) : V → Prop
  | int (i : Int) : Kn K H (.int i)
  | str (s : Str) (le : s.length ≤ sizeLine) : Kn K H (.str s)
  | tup {a : Addr} {xs : List V} (e : H a = some (.tup xs)) (le : xs.length ≤ sizeLine) : Kn K H (.ref a)
  | oth {x : V} {t : Value} {b : Bool} (ty : ∀ H1, LamX.ExtN H H1 → TyX K H1 x t) (i : PySem.W.kitOne K t (.type "int") = some b) (l : PySem.W.kitOne K t (.type "bool") = some b) (s : PySem.W.kitOne K t (.type "str") = some false)
      (u : PySem.W.kitOne K t (.type "tuple") = some false) (ni : isI x = false) (nn : isN x = false) (nt : ∀ H1, LamX.ExtN H H1 → tupOf H1 x = none) : Kn K H x
theorem Ex.n {H H1 : Hp} (e : Ex H H1) : LamX.ExtN H H1 := LamX.ExtN.of e
theorem tup_n {H H1 : Hp} {a : Addr} {xs : List V} (e : LamX.ExtN H H1) (h : H a = some (.tup xs)) : H1 a = some (.tup xs) := e _ _ h fun _ z => nomatch z
theorem Kn.exN {K : PySem.W.Frag} {H H1 : Hp} {x : V} (k : Kn K H x) (e : LamX.ExtN H H1) : Kn K H1 x := by
  cases k with
  | int i => exact .int i
  | str s le => exact .str s le
  | tup h le => exact .tup (tup_n e h) le
  | oth ty i l s u ni nn nt => exact .oth (fun H2 e2 => ty H2 (e.trans e2)) i l s u ni nn fun H2 e2 => nt H2 (e.trans e2)
theorem Kn.ex {K : PySem.W.Frag} {H H1 : Hp} {x : V} (k : Kn K H x) (e : Ex H H1) : Kn K H1 x := k.exN e.n
theorem Kn.tupsN {K : PySem.W.Frag} {H H1 : Hp} {x : V} (k : Kn K H x) (e : LamX.ExtN H H1) : tupOf H1 x = tupOf H x := by
  cases k with
  | int i => rfl
  | str s le => rfl
  | @tup a xs h le =>
    show (match H1 a with
      | some (.tup ys) => some ys
      | _ => none) = (match H a with
      | some (.tup ys) => some ys
      | _ => none)
    rw [h, tup_n e h]
  | oth ty i l s u ni nn nt => rw [nt H1 e, nt H (LamX.ExtN.refl _)]
theorem Kn.tups {K : PySem.W.Frag} {H H1 : Hp} {x : V} (k : Kn K H x) (e : Ex H H1) : tupOf H1 x = tupOf H x := k.tupsN e.n
theorem Kn.le {K : PySem.W.Frag} {H : Hp} {x : V} {xs : List V} (k : Kn K H x) (h : tupOf H x = some xs) : xs.length ≤ sizeLine := by
  cases k with
  | int i => cases h
  | str s le => cases h
  | @tup a ys e le =>
    have z : (match H a with
      | some (.tup ys) => some ys
      | _ => none) = some xs := h
    rw [e] at z
    cases z
    exact le
  | oth ty i l s u ni nn nt =>
    rw [nt H (LamX.ExtN.refl _)] at h
    cases h
/-- known to this depth -/
def Deep (K : PySem.W.Frag) (H : Hp) : Nat → V → Prop
  | 0, x => Kn K H x
  | n + 1, x => Kn K H x ∧ ∀ xs, tupOf H x = some xs → ∀ y ∈ xs, Deep K H n y
theorem Deep.kn {K : PySem.W.Frag} {H : Hp} : ∀ {n : Nat} {x : V}, Deep K H n x → Kn K H x
  | 0, _, d => d
  | _ + 1, _, d => d.1
theorem Deep.exN {K : PySem.W.Frag} {H H1 : Hp} (e : LamX.ExtN H H1) : ∀ {n : Nat} {x : V}, Deep K H n x → Deep K H1 n x
  | 0, _, d => Kn.exN d e
  | n + 1, x, d => ⟨d.1.exN e, fun xs h y hy => Deep.exN e (d.2 xs (by rw [← d.1.tupsN e]; exact h) y hy)⟩
theorem Deep.ex {K : PySem.W.Frag} {H H1 : Hp} (e : Ex H H1) {n : Nat} {x : V} (d : Deep K H n x) : Deep K H1 n x := d.exN e.n
structure BltI (mg : Str → Option Value) : Prop where
  isinstance : mg "isinstance" = none
  int : mg "int" = none
  bool : mg "bool" = none
  str : mg "str" = none
  tuple : mg "tuple" = none
  len : mg "len" = none
  all : mg "all" = none
  enumerate : mg "enumerate" = none
/-- the answer of is_integer -/
theorem rd_int {K : PySem.W.Frag} {H : Hp} {x : V} (k : Kn K H x) {Q : VK} (q : Q (.bl (isI x)) H) : rIsi K [x, .ty "int"] H fun v H1 => ∃ c, v = .bl c ∧ if c = true then rIsi K [x, .ty "bool"] H1 fun w H2 => ∃ d, w = .bl d ∧ Q (.bl (!d)) H2 else Q (.bl false) H1 := by
  cases k with
  | int i =>
    refine ⟨_, _, _, _, true, rfl, .ty "int", .base (.int i), kit_ty (by decide +kernel), true, rfl, ?_⟩
    rw [if_pos rfl]
    exact ⟨_, _, _, _, false, rfl, .ty "bool", .base (.int i), kit_ty (by decide +kernel), false, rfl, q⟩
  | str s le =>
    refine ⟨_, _, _, _, false, rfl, .ty "int", .base (.str s), kit_ty (by decide +kernel), false, rfl, ?_⟩
    rw [if_neg (by decide)]
    exact q
  | tup e le =>
    refine ⟨_, _, _, _, false, rfl, .ty "int", .base (.tup e), kit_ty (by decide +kernel), false, rfl, ?_⟩
    rw [if_neg (by decide)]
    exact q
  | @oth _ t b ty i l s u ni nn nt =>
    rw [ni] at q
    refine ⟨_, _, _, _, b, rfl, .ty "int", ty _ (LamX.ExtN.refl _), i, b, rfl, ?_⟩
    cases b with
    | false =>
      rw [if_neg (by decide)]
      exact q
    | true =>
      rw [if_pos rfl]
      exact ⟨_, _, _, _, true, rfl, .ty "bool", ty _ (LamX.ExtN.refl _), l, true, rfl, q⟩
abbrev sInt : Stmt := top 4
abbrev sName : Stmt := top 5
def spInt (K : PySem.W.Frag) : Sp := fun vs H Q _ => ∃ x, vs = [x] ∧ Kn K H x ∧ Q (.bl (isI x)) H
section
variable {P : Program} {w : World} {K : PySem.W.Frag} {mg : Str → Option Value} {base : Heap}
theorem scInt : FnScope ["value"] ["value"] (defScope sInt) := ⟨rfl, rfl, rfl, by decide +kernel, rfl, by decide +kernel, by decide +kernel⟩
theorem ok_int {f : Addr} {fd : FuncData} (F : Fun K "is_integer" "is_integer" sInt f fd) (B : BltI mg) : FnOk P w K mg base CX0 1 f fd ["value"] (spInt K) := by
  refine F.ok scInt (fun vs H Q E h => ?_) (fun cdv A outer s H vs Q E hr h => ?_)
  · obtain ⟨x, rfl, _⟩ := h
    rfl
  · obtain ⟨x, rfl, k, q⟩ := h
    refine ⟨_, pss_one (ps_ret (pe_and (pe_callB call_isi (by rfl) B.isinstance (by decide +kernel) (pa_cons (pv 0) (pa_cons (pe_bltn (by rfl) B.int (by decide +kernel) (v := .ty "int") rfl) pa_nil)))
      (pe_one (pe_not (pe_callB call_isi (by rfl) B.isinstance (by decide +kernel) (pa_cons (pv 0) (pa_cons (pe_bltn (by rfl) B.bool (by decide +kernel) (v := .ty "bool") rfl) pa_nil))))))), ?_⟩
    have z := rd_int k q
    obtain ⟨_, c, t, u, b, e1, e2, e3, e4, c1, e5, z⟩ := z
    cases e1
    refine ⟨_, rfl, _, _, t, u, b, rfl, e2, e3, e4, c1, e5, ?_⟩
    cases c1 with
    | false => exact z
    | true =>
      obtain ⟨_, c, t, u, b, e1, e2, e3, e4, z⟩ := z
      cases e1
      exact ⟨_, rfl, _, _, t, u, b, rfl, e2, e3, e4, z⟩
end
end LJ
set_option Elab.async false
set_option linter.all false
set_option maxRecDepth 100000
set_option maxHeartbeats 4000000
namespace LJ
open PySem PySem.Spec L2
/-- the answer is b, whatever new stands beside -/
def Says (Q : VK) (H : Hp) (b : Bool) : Prop := ∀ H1, Ex H H1 → Q (.bl b) H1
def spName (K : PySem.W.Frag) : Sp := fun vs H Q _ => ∃ x, vs = [x] ∧ Kn K H x ∧ Says Q H (isN x)
theorem Kn.atStr {K : PySem.W.Frag} {H : Hp} {x : V} (k : Kn K H x) : ∃ t b, TyX K H x t ∧ PySem.W.kitOne K t (.type "str") = some b ∧ ((b = true ∧ ∃ s, x = .str s ∧ s.length ≤ sizeLine) ∨ (b = false ∧ isN x = false)) := by
  cases k with
  | int i => exact ⟨_, false, .base (.int i), kit_ty (by decide +kernel), .inr ⟨rfl, rfl⟩⟩
  | str s le => exact ⟨_, true, .base (.str s), kit_ty (by decide +kernel), .inl ⟨rfl, s, rfl, le⟩⟩
  | tup e le => exact ⟨_, false, .base (.tup e), kit_ty (by decide +kernel), .inr ⟨rfl, rfl⟩⟩
  | @oth _ t b ty i l s u ni nn nt => exact ⟨t, false, ty _ (LamX.ExtN.refl _), s, .inr ⟨rfl, nn⟩⟩
theorem Kn.atTup {K : PySem.W.Frag} {H : Hp} {x : V} (k : Kn K H x) : ∃ t b, TyX K H x t ∧ PySem.W.kitOne K t (.type "tuple") = some b ∧ ((b = true ∧ ∃ a xs, x = .ref a ∧ H a = some (.tup xs) ∧ tupOf H x = some xs) ∨ (b = false ∧ tupOf H x = none)) := by
  cases k with
  | int i => exact ⟨_, false, .base (.int i), kit_ty (by decide +kernel), .inr ⟨rfl, rfl⟩⟩
  | str s le => exact ⟨_, false, .base (.str s), kit_ty (by decide +kernel), .inr ⟨rfl, rfl⟩⟩
  | @tup a xs e le =>
    refine ⟨_, true, .base (.tup e), kit_ty (by decide +kernel), .inl ⟨rfl, a, xs, rfl, e, ?_⟩⟩
    show (match H a with
      | some (.tup ys) => some ys
      | _ => none) = some xs
    rw [e]
  | @oth _ t b ty i l s u ni nn nt => exact ⟨t, false, ty _ (LamX.ExtN.refl _), u, .inr ⟨rfl, nt _ (LamX.ExtN.refl _)⟩⟩
def low (c : Nat) : Bool := decide (97 ≤ c) && decide (c ≤ 122)
/-- one sign between two -/
theorem le_one (a b : Nat) : (!decide ((⟨#[b]⟩ : Str).cps.toList < (⟨#[a]⟩ : Str).cps.toList)) = decide (a ≤ b) := by
  have e : ((⟨#[b]⟩ : Str).cps.toList < (⟨#[a]⟩ : Str).cps.toList) ↔ b < a := by
    show [b] < [a] ↔ _
    simp [List.cons_lt_cons_iff]
  by_cases h : a ≤ b
  · rw [decide_eq_true h, decide_eq_false (fun z => by have := e.mp z; omega)]
    rfl
  · rw [decide_eq_false h, decide_eq_true (e.mpr (by omega))]
    rfl
section
variable {P : Program} {w : World} {K : PySem.W.Frag} {mg : Str → Option Value} {base : Heap}
theorem scName : FnScope ["value", "letter"] ["value"] (defScope sName) := ⟨rfl, rfl, rfl, by decide +kernel, rfl, by decide +kernel, by decide +kernel⟩
theorem ok_name {f : Addr} {fd : FuncData} {uL : Value} (F : Fun K "is_name" "is_name" sName f fd) (B : BltI mg) (mL : mg "_MOST_LETTERS" = some uL) (rL : RelV (.int 8) uL) : FnOk P w K mg base CX0 1 f fd ["value"] (spName K) := by
  refine F.ok scName (fun vs H Q E h => ?_) (fun cdv A outer s H vs Q E hr h => ?_)
  · obtain ⟨x, rfl, _⟩ := h
    rfl
  · obtain ⟨x, rfl, k, q⟩ := h
    refine ⟨_, pss_cons (ps_if (PW.pt (pw_or (pt_not (pt_truth (pe_callB call_isi (by rfl) B.isinstance (by decide +kernel) (pa_cons (pv 0) (pa_cons (pe_bltn (by rfl) B.str (by decide +kernel) (v := .ty "str") rfl) pa_nil))) (fun _ => rfl)))
        (pw_or1 (pt_not (pt_chain op_le op_le pe_int (pe_callB call_len_str (by rfl) B.len (by decide +kernel) (pa_cons (pv 0) pa_nil)) (pe_glob (by rfl) mL rL)))))) (pss_one (ps_ret pe_bl)) pss_nil)
      (pss_one (ps_ret (pe_callB (cr_all (by rfl)) (by rfl) B.all (by decide +kernel) (pa_cons (pe_lc (own := [("letter", 1)]) (g := gName 1) (by rfl) scName.nd (pi_str (pv 0)) (blkOk_by (own := [("letter", 1)]) (N := ["value", "letter"]) (sc := defScope sName) (by decide +kernel)) (fun _ _ _ _ _ => pg_name scName.nd rfl (Or.inl rfl)) (fun _ _ _ _ _ => pts_nil) (fun _ _ _ _ _ => pe_chain op_le_str op_le_str pe_str (pv 1) pe_str)) pa_nil)))), ?_⟩
    obtain ⟨t, b, ty, e, hb⟩ := k.atStr
    refine ⟨_, rfl, _, _, t, _, b, rfl, .ty "str", ty, e, b, rfl, ?_⟩
    rcases hb with ⟨rfl, s, rfl, le⟩ | ⟨rfl, n⟩
    · have out : ∀ c : Bool, c = false → isN (.str s) = c → Q (.bl false) H := fun c e1 e2 => by
        have z := q H Ex.refl
        rw [e2, e1] at z
        exact z
      refine ⟨_, rfl, s, rfl, le, 1, s.length, rfl, rfl, _, rfl, ?_⟩
      refine ite2 (fun c1 => ?_) (fun c1 => ?_)
      · refine ⟨_, _, rfl, rfl, _, rfl, ?_⟩
        have l1 : (1 : Int) ≤ s.length := of_decide_eq_true c1
        by_cases c2 : (s.length : Int) ≤ 8
        · rw [decide_eq_true c2]
          have l2 : s.length ≤ 8 := by omega
          have sz : s.cps.toList.length ≤ 8 := l2
          have big : (8 : Nat) < sizeLine := by
            rw [sizeLine_eq]
            decide
          refine ⟨_, rfl, s, rfl, fun D hD => lc_it walk_str (fun n H2 => Ex H H2 ∧ H2 D = some (.lst (((s.cps.toList.take n).map low).map V.bl))) ⟨Ex.refl.new hD, upd_same⟩ (fun _ _ _ _ => True.intro) ?_ ?_⟩
          · rintro i y _ H2 hi ⟨x2, e2⟩ ⟨rfl, c, hc, rfl⟩
            refine ⟨rfl, ?_⟩
            have hc2 : s.cps.toList[i]? = some c := by rw [Array.getElem?_toList]; exact hc
            have done : ∃ acc, H2 D = some (.lst acc) ∧ acc.length < sizeLine ∧ Ex H (upd H2 D (.lst (acc ++ [.bl (low c)]))) ∧ (upd H2 D (.lst (acc ++ [.bl (low c)]))) D = some (.lst (((s.cps.toList.take (i + 1)).map low).map V.bl)) := by
              refine ⟨_, e2, ?_, x2.put hD, ?_⟩
              · rw [List.length_map, List.length_map, List.length_take]
                omega
              · rw [upd_same, List.take_succ, hc2, List.map_append, List.map_append]
                rfl
            refine ⟨_, rfl, _, _, rfl, rfl, _, rfl, ?_⟩
            rw [show (!decide ((⟨#[c]⟩ : Str).cps.toList < (Str.ofString "a").cps.toList)) = decide (97 ≤ c) from le_one 97 c]
            refine ite2 (fun k1 => ?_) (fun k1 => ?_)
            · refine ⟨_, _, rfl, rfl, ?_⟩
              rw [show (!decide ((Str.ofString "z").cps.toList < (⟨#[c]⟩ : Str).cps.toList)) = decide (c ≤ 122) from le_one c 122]
              have e : low c = decide (c ≤ 122) := by
                unfold low
                rw [k1, Bool.true_and]
              rw [← e]
              exact done
            · have e : low c = false := by
                unfold low
                rw [Bool.eq_false_iff.mpr k1, Bool.false_and]
              rw [e] at done
              exact done
          · rintro H2 ⟨x2, e2⟩
            refine ⟨D, _, rfl, SqL.of e2, ?_⟩
            have z := q H2 x2
            have e : isN (.str s) = ((s.cps.toList.take s.cps.size).map low).all id := by
              show isW s = _
              unfold isW
              rw [decide_eq_true (p := 1 ≤ s.length) (by omega), decide_eq_true l2, Bool.true_and, Bool.true_and, List.take_of_length_le (by rw [Array.length_toList]; exact Nat.le_refl _), List.all_map]
              rfl
            rw [e] at z
            exact z
        · rw [decide_eq_false c2]
          refine out _ rfl ?_
          show isW s = false
          unfold isW
          rw [decide_eq_false (p := s.length ≤ 8) (by omega)]
          simp
      · have l1 : ¬ (1 : Int) ≤ s.length := fun z => c1 (decide_eq_true z)
        refine ⟨_, rfl, ?_⟩
        refine out _ rfl ?_
        show isW s = false
        unfold isW
        rw [decide_eq_false (p := 1 ≤ s.length) (by omega)]
        simp
    · rw [n] at q
      exact q H Ex.refl
end
end LJ
set_option Elab.async false
set_option linter.all false
set_option maxRecDepth 100000
set_option maxHeartbeats 4000000
namespace LJ
open PySem PySem.Spec L2
abbrev sShar : Stmt := top 28
abbrev sLim : Stmt := top 29
abbrev sCont : Stmt := top 30
abbrev sNamed : Stmt := top 31
abbrev sBnds : Stmt := top 32
/-- a tuple of this length that begins with a name -/
def isRow (H : Hp) (x : V) (n : Int) : Bool := match tupOf H x with
  | some xs => decide ((xs.length : Int) = n) && match xs with
    | y :: _ => isN y
    | [] => false
  | none => false
/-- a pair of bounds up to m -/
def bndOf (m : Int) : List V → Bool
  | [.int i, .int j] => decide (0 ≤ i) && (decide (i ≤ j) && decide (j ≤ m))
  | _ => false
def isBnd (H : Hp) (x : V) (m : Int) : Bool := match tupOf H x with
  | some xs => bndOf m xs
  | none => false
theorem isI_int : ∀ {y : V}, isI y = true → ∃ i, y = .int i
  | .int i, _ => ⟨i, rfl⟩
theorem bnd_two {m : Int} {xs : List V} (h : xs.length ≠ 2) : bndOf m xs = false := by
  match xs, h with
  | [], _ => rfl
  | [y], _ => cases y <;> rfl
  | [_, _], h => exact absurd rfl h
  | y :: z :: _ :: _, _ => cases y <;> cases z <;> rfl
theorem bnd_fst {m : Int} {y z : V} (h : isI y ≠ true) : bndOf m [y, z] = false := by
  cases y <;> first | exact absurd rfl h | rfl
theorem bnd_snd {m : Int} {i : Int} {z : V} (h : isI z ≠ true) : bndOf m [.int i, z] = false := by
  cases z <;> first | exact absurd rfl h | rfl
def spNamed (K : PySem.W.Frag) : Sp := fun vs H Q _ => ∃ (x : V) (n : Int), vs = [x, .int n] ∧ 1 ≤ n ∧ Deep K H 1 x ∧ Says Q H (isRow H x n)
def spBnd (K : PySem.W.Frag) : Sp := fun vs H Q _ => ∃ (x : V) (m : Int), vs = [x, .int m] ∧ Deep K H 1 x ∧ Says Q H (isBnd H x m)
section
variable {P : Program} {w : World} {K : PySem.W.Frag} {mg : Str → Option Value} {base : Heap}
theorem scNamed : FnScope ["row", "length"] ["row", "length"] (defScope sNamed) := ⟨rfl, rfl, rfl, by decide +kernel, rfl, by decide +kernel, by decide +kernel⟩
theorem ok_named {f fN : Addr} {fd fdN : FuncData} (F : Fun K "_is_named" "_is_named" sNamed f fd) (B : BltI mg)
    (GN : FnOk P w K mg base CX0 1 fN fdN ["value"] (spName K)) (mN : mg "is_name" = some (.ref fN)) (kN : PySem.W.keepIn K (.ref fN) = true) (bN : Binds K fdN ["value"] []) :
    FnOk P w K mg base CX0 2 f fd ["row", "length"] (spNamed K) := by
  refine F.ok scNamed (fun vs H Q E h => ?_) (fun cdv A outer s H vs Q E hr h => ?_)
  · obtain ⟨x, n, rfl, _⟩ := h
    rfl
  · obtain ⟨x, n, rfl, n1, k, q⟩ := h
    refine ⟨_, pss_one (ps_ret (pe_and (pe_callB call_isi (by rfl) B.isinstance (by decide +kernel) (pa_cons (pv 0) (pa_cons (pe_bltn (by rfl) B.tuple (by decide +kernel) (v := .ty "tuple") rfl) pa_nil)))
      (pe_and (pe_cmpR op_eq (pe_callB call_len_seq (by rfl) B.len (by decide +kernel) (pa_cons (pv 0) pa_nil)) (pv 1) (nomark _))
        (pe_one (pe_call GN hr (by rfl) mN kN bN .nil pass0 (pa_cons (pe_ix ix_tup (pv 0) pe_int (fun _ _ => rfl)) pa_nil)))))), ?_⟩
    obtain ⟨t, b, ty, e, hb⟩ := k.1.atTup
    refine ⟨_, rfl, _, _, t, _, b, rfl, .ty "tuple", ty, e, b, rfl, ?_⟩
    rcases hb with ⟨rfl, a, xs, rfl, ha, hx⟩ | ⟨rfl, hx⟩
    · refine ⟨_, rfl, a, xs, rfl, .inr (SqT.of ha), _, rfl, rfl, _, rfl, ?_⟩
      have z := q H Ex.refl
      by_cases c : (xs.length : Int) = n
      · have c1 : (V.int (xs.length : Int) = V.int n) := by rw [c]
        rw [decide_eq_true c1]
        show _
        match xs, hx, ha, c with
        | y :: r, hx, ha, c =>
          refine ⟨_, rfl, a, y :: r, 0, y, rfl, rfl, SqT.of ha, atI_nat (j := 0) rfl, y, rfl, k.2 _ hx y (List.mem_cons_self ..), fun H1 e1 => ?_⟩
          have z1 := q H1 e1
          unfold isRow at z1
          rw [hx] at z1
          simp only [c, decide_true, Bool.true_and] at z1
          exact z1
        | [], hx, ha, c =>
          simp at c
          omega
      · have c1 : ¬ (V.int (xs.length : Int) = V.int n) := fun z => c (V.int.inj z)
        rw [decide_eq_false c1]
        unfold isRow at z
        rw [hx] at z
        simp only [c, decide_false, Bool.false_and] at z
        exact z
    · have z := q H Ex.refl
      unfold isRow at z
      rw [hx] at z
      exact z
theorem scBnds : FnScope ["pair", "most", "low", "high"] ["pair", "most"] (defScope sBnds) := ⟨rfl, rfl, rfl, by decide +kernel, rfl, by decide +kernel, by decide +kernel⟩
theorem ok_bnds {f fI : Addr} {fd fdI : FuncData} (F : Fun K "_are_bounds" "_are_bounds" sBnds f fd) (B : BltI mg)
    (GI : FnOk P w K mg base CX0 1 fI fdI ["value"] (spInt K)) (mI : mg "is_integer" = some (.ref fI)) (kI : PySem.W.keepIn K (.ref fI) = true) (bI : Binds K fdI ["value"] []) :
    FnOk P w K mg base CX0 2 f fd ["pair", "most"] (spBnd K) := by
  refine F.ok scBnds (fun vs H Q E h => ?_) (fun cdv A outer s H vs Q E hr h => ?_)
  · obtain ⟨x, n, rfl, _⟩ := h
    rfl
  · obtain ⟨x, m, rfl, k, q⟩ := h
    refine ⟨_, pss_cons (ps_if (PW.pt (pw_or (pt_not (pt_truth (pe_callB call_isi (by rfl) B.isinstance (by decide +kernel) (pa_cons (pv 0) (pa_cons (pe_bltn (by rfl) B.tuple (by decide +kernel) (v := .ty "tuple") rfl) pa_nil))) (fun _ => rfl)))
        (pw_or1 (pt_cmpR op_ne (pe_callB call_len_seq (by rfl) B.len (by decide +kernel) (pa_cons (pv 0) pa_nil)) pe_int (nomark _))))) (pss_one (ps_ret pe_bl)) pss_nil)
      (pss_cons (ps_asg (pv 0) (pg_tup (by rfl) (pgs_cons (pg_name (i := 2) scBnds.nd rfl (Or.inl rfl)) (pgs_cons (pg_name (i := 3) scBnds.nd rfl (Or.inl rfl)) pgs_nil))))
      (pss_one (ps_ret (pe_and (pe_call GI hr (by rfl) mI kI bI .nil pass0 (pa_cons (pv 2) pa_nil)) (pe_and (pe_call GI hr (by rfl) mI kI bI .nil pass0 (pa_cons (pv 3) pa_nil))
        (pe_one (pe_chain3 op_le op_le op_le pe_int (pv 2) (pv 3) (pv 1)))))))), ?_⟩
    obtain ⟨t, b, ty, e, hb⟩ := k.1.atTup
    have z := q H Ex.refl
    refine ⟨_, rfl, _, _, t, _, b, rfl, .ty "tuple", ty, e, b, rfl, ?_⟩
    rcases hb with ⟨rfl, a, xs, rfl, ha, hx⟩ | ⟨rfl, hx⟩
    · refine ⟨_, rfl, a, xs, rfl, .inr (SqT.of ha), rfl, _, rfl, ?_⟩
      have kk := k.2 xs hx
      unfold isBnd at z
      rw [hx] at z
      by_cases c : xs.length = 2
      · obtain ⟨y1, y2, rfl⟩ : ∃ y1 y2, xs = [y1, y2] := by
          match xs, c with
          | [y1, y2], _ => exact ⟨y1, y2, rfl⟩
        refine ⟨_, rfl, a, _, rfl, SqT.of ha, rfl, ?_⟩
        have k1 : Kn K H y1 := kk y1 (by simp)
        have k2 : Kn K H y2 := kk y2 (by simp)
        refine ⟨_, _, rfl, _, _, rfl, rfl, _, rfl, y1, rfl, k1, _, rfl, ?_⟩
        by_cases e1 : isI y1 = true
        · obtain ⟨i, rfl⟩ := isI_int e1
          refine ⟨_, rfl, y2, rfl, k2, _, rfl, ?_⟩
          by_cases e2 : isI y2 = true
          · obtain ⟨j, rfl⟩ := isI_int e2
            have z : Q (.bl (decide (0 ≤ i) && (decide (i ≤ j) && decide (j ≤ m)))) H := z
            refine ⟨_, rfl, _, _, rfl, rfl, _, rfl, ?_⟩
            refine ite2 (fun c1 => ?_) (fun c1 => ?_)
            · rw [c1] at z
              refine ⟨_, rfl, _, _, rfl, rfl, _, rfl, ?_⟩
              refine ite2 (fun c2 => ?_) (fun c2 => ?_)
              · rw [c2] at z
                exact ⟨_, rfl, _, _, rfl, rfl, z⟩
              · rw [Bool.eq_false_iff.mpr c2] at z
                exact z
            · rw [Bool.eq_false_iff.mpr c1] at z
              exact z
          · rw [if_neg e2]
            have z : Q (.bl (bndOf m [.int i, y2])) H := z
            rw [bnd_snd e2] at z
            exact z
        · rw [if_neg e1]
          have z : Q (.bl (bndOf m [y1, y2])) H := z
          rw [bnd_fst e1] at z
          exact z
      · have c1 : ¬ (V.int (xs.length : Int) = V.int 2) := fun q1 => c (by have := V.int.inj q1; omega)
        rw [decide_eq_false c1]
        have z : Q (.bl (bndOf m xs)) H := z
        rw [bnd_two c] at z
        exact z
    · unfold isBnd at z
      rw [hx] at z
      exact z
end
end LJ
set_option Elab.async false
set_option linter.all false
set_option maxRecDepth 100000
set_option maxHeartbeats 4000000
namespace LJ
open PySem PySem.Spec L2
def top12 : Int := 1000000000000
def sharesOf : List V → Bool
  | [n, a, b] => isN n && bndOf 1000 [a, b]
  | _ => false
def limOf : List V → Bool
  | [n, .int i] => isN n && (decide (0 ≤ i) && decide (i ≤ top12))
  | _ => false
def pairsOf (H : Hp) (m : Int) : Option (List V) → Bool
  | some ps => decide ((ps.length : Int) = m) && ps.all fun y => isBnd H y top12
  | none => false
def contOf (H : Hp) (m : Int) : List V → Bool
  | [n, t] => isN n && pairsOf H m (tupOf H t)
  | _ => false
def onTup (f : List V → Bool) (H : Hp) (x : V) : Bool := match tupOf H x with
  | some xs => f xs
  | none => false
def spTest (K : PySem.W.Frag) (d : Nat) (f : Hp → V → Bool) : Sp := fun vs H Q _ => ∃ x : V, vs = [x] ∧ Deep K H d x ∧ Says Q H (f H x)
def spCont (K : PySem.W.Frag) : Sp := fun vs H Q _ => ∃ (x : V) (m : Int), vs = [x, .int m] ∧ Deep K H 3 x ∧ Says Q H (onTup (contOf H m) H x)
theorem tup_ref {H : Hp} {x : V} {xs : List V} (h : tupOf H x = some xs) : ∃ a, x = .ref a ∧ H a = some (.tup xs) := by
  unfold tupOf at h
  split at h
  · rename_i a
    refine ⟨a, rfl, ?_⟩
    split at h
    · rename_i e
      rw [e]
      cases h
      rfl
    · cases h
  · cases h
theorem tup_at {H : Hp} {a : Addr} {xs : List V} (e : H a = some (.tup xs)) : tupOf H (.ref a) = some xs := by
  show (match H a with
    | some (.tup ys) => some ys
    | _ => none) = some xs
  rw [e]
theorem row_yes {H : Hp} {x : V} {n : Int} (h : isRow H x n = true) : ∃ y ys, tupOf H x = some (y :: ys) ∧ (((y :: ys).length : Nat) : Int) = n ∧ isN y = true := by
  unfold isRow at h
  split at h
  · rename_i xs e
    rw [Bool.and_eq_true] at h
    obtain ⟨h1, h2⟩ := h
    match xs, h1, h2, e with
    | y :: ys, h1, h2, e => exact ⟨y, ys, e, of_decide_eq_true h1, h2⟩
    | [], _, h2, _ => cases h2
  · cases h
theorem row_no {H : Hp} {x : V} {n : Nat} {f : List V → Bool} (h : isRow H x n = false) (hf : ∀ xs, f xs = true → ∃ y ys, xs = y :: ys ∧ xs.length = n ∧ isN y = true) : onTup f H x = false := by
  unfold isRow at h
  unfold onTup
  split at h
  · rename_i xs e
    try rw [e]
    refine Bool.eq_false_iff.mpr fun z => ?_
    obtain ⟨y, ys, rfl, e2, e3⟩ := hf xs z
    simp only [e2, e3, decide_true, Bool.and_self] at h
    cases h
  · rename_i e
    first
      | rw [e]
      | rfl
theorem Deep.down {K : PySem.W.Frag} {H : Hp} : ∀ {n : Nat} {x : V}, Deep K H (n + 1) x → Deep K H n x
  | 0, _, d => d.1
  | n + 1, _, d => ⟨d.1, fun xs h y hy => Deep.down (d.2 xs h y hy)⟩
section
variable {P : Program} {w : World} {K : PySem.W.Frag} {mg : Str → Option Value} {base : Heap}
theorem scShar : FnScope ["row"] ["row"] (defScope sShar) := ⟨rfl, rfl, rfl, by decide +kernel, rfl, by decide +kernel, by decide +kernel⟩
theorem ok_shar {f fN fB : Addr} {fd fdN fdB : FuncData} {u : Value} (F : Fun K "_has_shares" "_has_shares" sShar f fd)
    (GN : FnOk P w K mg base CX0 2 fN fdN ["row", "length"] (spNamed K)) (mN : mg "_is_named" = some (.ref fN)) (kN : PySem.W.keepIn K (.ref fN) = true) (bN : Binds K fdN ["row", "length"] [])
    (GB : FnOk P w K mg base CX0 2 fB fdB ["pair", "most"] (spBnd K)) (mB : mg "_are_bounds" = some (.ref fB)) (kB : PySem.W.keepIn K (.ref fB) = true) (bB : Binds K fdB ["pair", "most"] [])
    (mM : mg "MOST_SHARE" = some u) (rM : RelV (.int 1000) u) :
    FnOk P w K mg base CX0 3 f fd ["row"] (spTest K 1 (onTup sharesOf)) := by
  refine F.ok scShar (fun vs H Q E h => ?_) (fun cdv A outer s H vs Q E hr h => ?_)
  · obtain ⟨x, rfl, _⟩ := h
    rfl
  · obtain ⟨x, rfl, k, q⟩ := h
    refine ⟨_, pss_one (ps_ret (pe_and (pe_call GN hr (by rfl) mN kN bN .nil pass0 (pa_cons (pv 0) (pa_cons pe_int pa_nil)))
      (pe_one (pe_call GB hr (by rfl) mB kB bB .nil pass0 (pa_cons (pe_slice sl_tup (pv 0) (po_some pe_int) po_none) (pa_cons (pe_glob (by rfl) mM rM) pa_nil)))))), ?_⟩
    refine ⟨_, rfl, x, 3, rfl, by decide, k, fun H1 e1 => ⟨_, rfl, ?_⟩⟩
    have z := q H1 e1
    cases hr3 : isRow H x 3 with
    | false =>
      rw [row_no (n := 3) hr3 fun xs hx => ?_] at z
      · exact z
      · match xs, hx with
        | [y, a, b], hx =>
          unfold sharesOf at hx
          exact ⟨y, _, rfl, rfl, (Bool.and_eq_true _ _ ▸ hx).1⟩
    | true =>
      obtain ⟨y, ys, ht, hl, hy⟩ := row_yes hr3
      obtain ⟨a, b, rfl⟩ : ∃ a b, ys = [a, b] := by
        match ys, hl with
        | [a, b], _ => exact ⟨a, b, rfl⟩
        | [], hl => simp at hl
        | [_], hl => simp at hl
        | _ :: _ :: _ :: _, hl => simp at hl; omega
      obtain ⟨p, rfl, hp⟩ := tup_ref ht
      rw [if_pos rfl]
      refine ⟨_, rfl, _, rfl, p, _, rfl, SqT.of (e1 _ _ hp), ?_, fun t nt => ?_⟩
      · rintro ⟨c, _⟩
        exact absurd (show (1 : Nat) = 0 from c) (by decide)
      · have cut : cutV [y, a, b] (some 1) none = [a, b] := rfl
        rw [cut]
        have up : Ex H1 (upd H1 t (.tup [a, b])) := Ex.refl.new nt
        have tt : tupOf (upd H1 t (.tup [a, b])) (.ref t) = some [a, b] := tup_at upd_same
        refine ⟨.ref t, 1000, rfl, ⟨.tup upd_same (by rw [sizeLine_eq]; exact (by decide : 2 ≤ 16777216)), fun xs hx v hv => ?_⟩, fun H2 e2 => ?_⟩
        · rw [tt] at hx
          cases hx
          exact Kn.ex (k.2 _ ht v (List.mem_cons_of_mem _ hv)) (e1.trans up)
        · have z2 := q H2 (e1.trans (up.trans e2))
          have e : isBnd (upd H1 t (.tup [a, b])) (.ref t) 1000 = onTup sharesOf H (.ref p) := by
            unfold isBnd onTup
            rw [tt, ht]
            show bndOf 1000 [a, b] = (isN y && bndOf 1000 [a, b])
            rw [hy, Bool.true_and]
          show Q (.bl (isBnd (upd H1 t (.tup [a, b])) (.ref t) 1000)) H2
          rw [e]
          exact z2
theorem scLim : FnScope ["row"] ["row"] (defScope sLim) := ⟨rfl, rfl, rfl, by decide +kernel, rfl, by decide +kernel, by decide +kernel⟩
theorem ok_lim {f fN fI : Addr} {fd fdN fdI : FuncData} {u : Value} (F : Fun K "_has_limit" "_has_limit" sLim f fd)
    (GN : FnOk P w K mg base CX0 2 fN fdN ["row", "length"] (spNamed K)) (mN : mg "_is_named" = some (.ref fN)) (kN : PySem.W.keepIn K (.ref fN) = true) (bN : Binds K fdN ["row", "length"] [])
    (GI : FnOk P w K mg base CX0 1 fI fdI ["value"] (spInt K)) (mI : mg "is_integer" = some (.ref fI)) (kI : PySem.W.keepIn K (.ref fI) = true) (bI : Binds K fdI ["value"] [])
    (mM : mg "MOST_AMOUNT" = some u) (rM : RelV (.int top12) u) :
    FnOk P w K mg base CX0 3 f fd ["row"] (spTest K 1 (onTup limOf)) := by
  refine F.ok scLim (fun vs H Q E h => ?_) (fun cdv A outer s H vs Q E hr h => ?_)
  · obtain ⟨x, rfl, _⟩ := h
    rfl
  · obtain ⟨x, rfl, k, q⟩ := h
    have hr1 : Room 1 _ := hr.mono (by decide)
    refine ⟨_, pss_one (ps_ret (pe_and (pe_call GN hr (by rfl) mN kN bN .nil pass0 (pa_cons (pv 0) (pa_cons pe_int pa_nil)))
      (pe_and (pe_call GI hr1 (by rfl) mI kI bI .nil pass0 (pa_cons (pe_ix ix_tup (pv 0) pe_int (fun _ _ => rfl)) pa_nil))
        (pe_one (pe_chain op_le op_le pe_int (pe_ix ix_tup (pv 0) pe_int (fun _ _ => rfl)) (pe_glob (by rfl) mM rM)))))), ?_⟩
    refine ⟨_, rfl, x, 2, rfl, by decide, k, fun H1 e1 => ⟨_, rfl, ?_⟩⟩
    have z := q H1 e1
    cases hr3 : isRow H x 2 with
    | false =>
      rw [row_no (n := 2) hr3 fun xs hx => ?_] at z
      · exact z
      · match xs, hx with
        | [y, .int i], hx =>
          unfold limOf at hx
          exact ⟨y, _, rfl, rfl, (Bool.and_eq_true _ _ ▸ hx).1⟩
    | true =>
      obtain ⟨y, ys, ht, hl, hy⟩ := row_yes hr3
      obtain ⟨a, rfl⟩ : ∃ a, ys = [a] := by
        match ys, hl with
        | [a], _ => exact ⟨a, rfl⟩
        | [], hl => simp at hl
        | _ :: _ :: _, hl => simp at hl; omega
      obtain ⟨p, rfl, hp⟩ := tup_ref ht
      rw [if_pos rfl]
      have at1 : atI [y, a] 1 = some a := atI_nat (j := 1) rfl
      refine ⟨_, rfl, p, _, 1, a, rfl, rfl, SqT.of (e1 _ _ hp), at1, a, rfl, Kn.ex (k.2 _ ht a (by simp)) e1, _, rfl, ?_⟩
      have z : Q (.bl (onTup limOf H (.ref p))) H1 := z
      unfold onTup at z
      rw [ht] at z
      have z : Q (.bl (limOf [y, a])) H1 := z
      by_cases ci : isI a = true
      · obtain ⟨i, rfl⟩ := isI_int ci
        rw [if_pos ci]
        refine ⟨_, rfl, p, _, 1, .int i, rfl, rfl, SqT.of (e1 _ _ hp), at1, _, _, rfl, rfl, _, rfl, ?_⟩
        have z : Q (.bl (isN y && (decide (0 ≤ i) && decide (i ≤ top12)))) H1 := z
        rw [hy, Bool.true_and] at z
        refine ite2 (fun c1 => ?_) (fun c1 => ?_)
        · rw [c1, Bool.true_and] at z
          exact ⟨_, _, rfl, rfl, z⟩
        · rw [Bool.eq_false_iff.mpr c1, Bool.false_and] at z
          exact z
      · rw [if_neg ci]
        have e : limOf [y, a] = false := by
          cases a <;> first | exact absurd rfl ci | rfl
        rw [e] at z
        exact z
end
end LJ
set_option Elab.async false
set_option linter.all false
set_option maxRecDepth 100000
set_option maxHeartbeats 4000000
namespace LJ
open PySem PySem.Spec L2
theorem isBnd_ex {K : PySem.W.Frag} {H H1 : Hp} {y : V} {m : Int} (k : Kn K H y) (e : Ex H H1) : isBnd H1 y m = isBnd H y m := by
  unfold isBnd
  rw [k.tups e]
section
variable {P : Program} {w : World} {K : PySem.W.Frag} {mg : Str → Option Value} {base : Heap}
theorem scCont : FnScope ["row", "many", "pair"] ["row", "many"] (defScope sCont) := ⟨rfl, rfl, rfl, by decide +kernel, rfl, by decide +kernel, by decide +kernel⟩
theorem ok_cont {f fN fB : Addr} {fd fdN fdB : FuncData} {u : Value} (F : Fun K "_has_contents" "_has_contents" sCont f fd) (B : BltI mg)
    (GN : FnOk P w K mg base CX0 2 fN fdN ["row", "length"] (spNamed K)) (mN : mg "_is_named" = some (.ref fN)) (kN : PySem.W.keepIn K (.ref fN) = true) (bN : Binds K fdN ["row", "length"] [])
    (GB : FnOk P w K mg base CX0 2 fB fdB ["pair", "most"] (spBnd K)) (mB : mg "_are_bounds" = some (.ref fB)) (kB : PySem.W.keepIn K (.ref fB) = true) (bB : Binds K fdB ["pair", "most"] [])
    (mM : mg "MOST_AMOUNT" = some u) (rM : RelV (.int top12) u) :
    FnOk P w K mg base CX0 3 f fd ["row", "many"] (spCont K) := by
  refine F.ok scCont (fun vs H Q E h => ?_) (fun cdv A outer s H vs Q E hr h => ?_)
  · obtain ⟨x, m, rfl, _⟩ := h
    rfl
  · obtain ⟨x, m, rfl, k, q⟩ := h
    refine ⟨_, pss_cons (ps_if (PW.pt (pw_or (pt_not (pt_truth (pe_call GN hr (by rfl) mN kN bN .nil pass0 (pa_cons (pv 0) (pa_cons pe_int pa_nil))) (fun _ => rfl)))
        (pw_or (pt_not (pt_truth (pe_callB call_isi (by rfl) B.isinstance (by decide +kernel) (pa_cons (pe_ix ix_tup (pv 0) pe_int (fun _ _ => rfl)) (pa_cons (pe_bltn (by rfl) B.tuple (by decide +kernel) (v := .ty "tuple") rfl) pa_nil))) (fun _ => rfl)))
        (pw_or1 (pt_cmpR op_ne (pe_callB call_len_seq (by rfl) B.len (by decide +kernel) (pa_cons (pe_ix ix_tup (pv 0) pe_int (fun _ _ => rfl)) pa_nil)) (pv 1) (nomark _)))))) (pss_one (ps_ret pe_bl)) pss_nil)
      (pss_one (ps_ret (pe_callB (cr_all (by rfl)) (by rfl) B.all (by decide +kernel) (pa_cons (pe_lc (own := [("pair", 2)]) (g := gName 2) (by rfl) scCont.nd (pi_tup (pe_ix ix_tup (pv 0) pe_int (fun _ _ => rfl))) (blkOk_by (own := [("pair", 2)]) (N := ["row", "many", "pair"]) (sc := defScope sCont) (by decide +kernel))
        (fun _ _ _ _ _ => pg_name scCont.nd rfl (Or.inl rfl)) (fun _ _ _ _ _ => pts_nil) (fun _ _ _ _ _ => pe_call GB hr (by rfl) mB kB bB .nil pass0 (pa_cons (pv 2) (pa_cons (pe_glob (by rfl) mM rM) pa_nil)))) pa_nil)))), ?_⟩
    have k1 : Deep K H 1 x := k.down.down
    refine ⟨_, rfl, x, 2, rfl, by decide, k1, fun H1 e1 => ⟨_, rfl, ?_⟩⟩
    have z := q H1 e1
    cases hr3 : isRow H x 2 with
    | false =>
      rw [row_no (n := 2) hr3 fun xs hx => ?_] at z
      · exact z
      · match xs, hx with
        | [y, t], hx =>
          unfold contOf at hx
          exact ⟨y, _, rfl, rfl, (Bool.and_eq_true _ _ ▸ hx).1⟩
    | true =>
      obtain ⟨y, ys, ht, hl, hy⟩ := row_yes hr3
      obtain ⟨t, rfl⟩ : ∃ a, ys = [a] := by
        match ys, hl with
        | [a], _ => exact ⟨a, rfl⟩
        | [], hl => simp at hl
        | _ :: _ :: _, hl => simp at hl; omega
      obtain ⟨p, rfl, hp⟩ := tup_ref ht
      have at1 : atI [y, t] 1 = some t := atI_nat (j := 1) rfl
      have kt : Deep K H 2 t := k.2 _ ht t (by simp)
      have kt1 : Kn K H1 t := kt.1.ex e1
      have ez : onTup (contOf H m) H (.ref p) = pairsOf H m (tupOf H t) := by
        unfold onTup
        rw [ht]
        show (isN y && _) = _
        rw [hy, Bool.true_and]
      rw [ez] at z q
      obtain ⟨ty1, b, ty, e, hb⟩ := kt1.atTup
      refine ⟨_, rfl, p, _, 1, t, rfl, rfl, SqT.of (e1 _ _ hp), at1, t, _, ty1, _, b, rfl, .ty "tuple", ty, e, b, rfl, ?_⟩
      rcases hb with ⟨rfl, a, ps, rfl, ha, hx⟩ | ⟨rfl, hx⟩
      · refine ⟨_, rfl, p, _, 1, .ref a, rfl, rfl, SqT.of (e1 _ _ hp), at1, a, ps, rfl, .inr (SqT.of ha), _, rfl, rfl, _, rfl, ?_⟩
        have h0 : tupOf H (.ref a) = some ps := by
          rw [← kt.1.tups e1]
          exact hx
        rw [h0] at z q
        have z : Q (.bl (decide ((ps.length : Int) = m) && ps.all fun y => isBnd H y top12)) H1 := z
        have sz : ps.length ≤ sizeLine := kt.1.le h0
        by_cases c : (ps.length : Int) = m
        · have c1 : (V.int (ps.length : Int) = V.int m) := by rw [c]
          rw [decide_eq_true c1]
          refine ⟨_, rfl, p, _, 1, .ref a, rfl, rfl, SqT.of (e1 _ _ hp), at1, a, rfl, ⟨ps, SqT.of ha⟩, fun D hD => lc_it walk_tup (fun n H2 => Ex H1 H2 ∧ H2 D = some (.lst ((ps.take n).map fun y => V.bl (isBnd H y top12)))) ⟨Ex.refl.new hD, upd_same⟩ (fun i H2 _ h => SqT.of (h.1 _ _ ha)) ?_ ?_⟩
          · rintro i v _ H2 hi ⟨x2, e2⟩ ⟨rfl, hv⟩
            have kv : Deep K H 1 v := kt.2 _ h0 v (List.mem_of_getElem? hv)
            refine ⟨rfl, ?_⟩
            refine ⟨_, rfl, v, top12, rfl, Deep.ex (e1.trans x2) kv, fun H3 e3 => ?_⟩
            refine ⟨_, e3 _ _ e2, ?_, (x2.trans e3).put hD, ?_⟩
            · rw [List.length_map, List.length_take]
              omega
            · rw [upd_same, List.take_succ, hv, List.map_append, isBnd_ex kv.1 (e1.trans x2)]
              rfl
          · rintro H2 ⟨x2, e2⟩
            have e3 : H2 D = some (.lst ((ps.map fun y => isBnd H y top12).map V.bl)) := by
              rw [e2, List.take_of_length_le (Nat.le_refl _), List.map_map]
              rfl
            refine ⟨D, _, rfl, SqL.of e3, ?_⟩
            have z2 := q H2 (e1.trans x2)
            have z2 : Q (.bl (decide ((ps.length : Int) = m) && ps.all fun y => isBnd H y top12)) H2 := z2
            rw [decide_eq_true c, Bool.true_and] at z2
            rw [List.all_map]
            exact z2
        · have c1 : ¬ (V.int (ps.length : Int) = V.int m) := fun z => c (V.int.inj z)
          rw [decide_eq_false c1]
          rw [decide_eq_false c, Bool.false_and] at z
          exact z
      · rw [← kt.1.tups e1, hx] at z
        exact z
end
end LJ
set_option Elab.async false
set_option linter.all false
set_option maxRecDepth 100000
set_option maxHeartbeats 8000000
namespace LJ
open PySem PySem.Spec L2
abbrev sFirst : Stmt := top 27
abbrev nFirst : List Str := ["rows", "earlier", "fewest", "most", "is_right", "taken", "at", "row"]
abbrev pFirst : List Str := ["rows", "earlier", "fewest", "most", "is_right"]
/-- the place of the first row that is none: too many, not right, or its name is taken -/
def fwAt (R : V → Bool) (nm : V → Str) (most : Int) : List Str → Nat → List V → Option Nat
  | _, _, [] => none
  | tk, i, v :: r => if (i : Int) = most then some i else if R v = false then some i else if nm v ∈ tk then some i else fwAt R nm most (tk ++ [nm v]) (i + 1) r
def fwOut (R : V → Bool) (nm : V → Str) (few most : Int) (tk : List Str) : Option (List V) → List V
  | none => [.non]
  | some xs => if (xs.length : Int) < few then [.non] else match fwAt R nm most tk 0 xs with
    | none => []
    | some i => [.int i]
/-- a row that begins with this name -/
def Named (H : Hp) (v : V) (n : Str) : Prop := ∃ (a : Addr) (r : List V), v = .ref a ∧ H a = some (.tup (.str n :: r))
theorem Named.ex {H H1 : Hp} {v : V} {n : Str} (h : Named H v n) (e : Ex H H1) : Named H1 v n := by
  obtain ⟨a, r, e1, e2⟩ := h
  exact ⟨a, r, e1, e _ _ e2⟩
theorem walk_en {K : PySem.W.Frag} {a : Addr} {xs : List V} : Walk (EnT.Itn K a) xs.length (fun H => SqT K H a xs) (YPair (fun i => some (.int (i : Nat))) (fun i => xs[i]?)) where
  goes i _ hi q := ⟨xs, xs[i], q, by simp [hi]⟩
  stops _ q := ⟨xs, q, rfl⟩
  yields i H v H1 _ q y := by
    obtain ⟨T, x, h1, h2, h3, h4⟩ := y
    exact ⟨T, .int (i : Nat), x, h1, h2, h3, rfl, h4 xs q⟩
theorem strs_in {n : Str} {tk : List Str} : inV (.str n) (tk.map V.str) = decide (n ∈ tk) := by
  unfold inV
  rw [List.any_map]
  have e : (fun y => eqV y (V.str n)) ∘ V.str = fun y => decide (y = n) := by
    funext y
    show eqV (.str y) (.str n) = _
    unfold eqV
    rfl
  rw [e]
  by_cases h : n ∈ tk
  · rw [decide_eq_true h, List.any_eq_true]
    exact ⟨n, h, by simp⟩
  · rw [decide_eq_false h, List.any_eq_false]
    intro y hy z
    exact h (of_decide_eq_true z ▸ hy)
theorem Paired.spot {α β : Type} {F : α → β → Prop} : ∀ {xs : List α} {ys : List β} {i : Nat} {x : α}, Paired F xs ys → xs[i]? = some x → ∃ y, ys[i]? = some y ∧ F x y
  | _, _, 0, _, .cons f _, h => by
    cases h
    exact ⟨_, rfl, f⟩
  | _, _, i + 1, _, .cons _ t, h => Paired.spot (i := i) t h
  | _, _, _, _, .nil, h => by simp at h
theorem Paired.size {α β : Type} {F : α → β → Prop} : ∀ {xs : List α} {ys : List β}, Paired F xs ys → xs.length = ys.length
  | _, _, .nil => rfl
  | _, _, .cons _ t => by rw [List.length_cons, List.length_cons, Paired.size t]
section
variable {P : Program} {w : World} {K : PySem.W.Frag} {mg : Str → Option Value} {base : Heap}
theorem scFirst : FnScope nFirst pFirst (defScope sFirst) := ⟨rfl, rfl, rfl, by decide +kernel, rfl, by decide +kernel, by decide +kernel⟩
theorem walk_fw {f : Addr} {cdv : Value} {A : Around} {outer : List Env} {s : Shared} {H : Hp} {E : XK} {Q : VK} {tc : TE} {R : V → Bool} {nm : V → Str} {x cal : V} {ae : Addr} {ers : List V} {names : List Str} {few most : Int} (B : BltI mg)
    (hcall : ∀ p1 p2 p3, PE (cxOf CX0 P w K mg base nFirst "_first_wrong" (defScope sFirst) f cdv A outer s H E).nox (.Call (.Name "is_right" p1) [.Name "row" p2] [] p3) tc)
    (kx : Kn K H x) (ke : H ae = some (.tup ers)) (ken : Paired (Named H) ers names) (few0 : 0 ≤ few) (most0 : 0 ≤ most) (most1 : most ≤ 100) (el : ers.length ≤ 1000)
    (hR : ∀ xs, tupOf H x = some xs → ∀ v ∈ xs, ∀ (σ : St) (H1 : Hp) (Q1 : VK), Ex H H1 → σ[4]? = some (some cal) → σ[7]? = some (some v) → Says Q1 H1 (R v) → tc σ H1 Q1)
    (hN : ∀ xs, tupOf H x = some xs → ∀ v ∈ xs, R v = true → Named H v (nm v))
    (q : ∀ (p : Addr) (H1 : Hp), Ex H H1 → H p = none → H1 p = some (.tup (fwOut R nm few most names (tupOf H x))) → Q (.ref p) H1) :
    ∃ t, PSs (cxOf CX0 P w K mg base nFirst "_first_wrong" (defScope sFirst) f cdv A outer s H E).nox (defBody sFirst) t ∧ t { nx := fun _ H1 => Q .non H1, rt := Q } (start nFirst [x, .ref ae, .int few, .int most, cal]) H := by
  refine ⟨_, pss_cons (ps_if (PW.pt (pw_or (pt_not (pt_truth (pe_callB call_isi (by rfl) B.isinstance (by decide +kernel) (pa_cons (pv 0) (pa_cons (pe_bltn (by rfl) B.tuple (by decide +kernel) (v := .ty "tuple") rfl) pa_nil))) (fun _ => rfl)))
        (pw_or1 (pt_cmpR op_lt (pe_callB call_len_seq (by rfl) B.len (by decide +kernel) (pa_cons (pv 0) pa_nil)) (pv 2) (nomark _))))) (pss_one (ps_ret (pe_tup (pa_cons pe_non pa_nil)))) pss_nil)
    (pss_cons (ps_setLc (i := 5) (own := [("row", 7)]) (g := gName 7) (by rfl) scFirst.nd rfl rfl (sw_true rfl rfl rfl (by decide +kernel)) (pi_tup (pv 1)) (blkOk_by (own := [("row", 7)]) (N := nFirst) (sc := defScope sFirst) (by decide +kernel))
        (fun _ _ _ _ _ => pg_name scFirst.nd rfl (Or.inl rfl)) (fun _ _ _ _ _ => pts_nil) (fun _ _ _ _ _ => pe_ix (show IxR _ (rIxT K) from ix_tup) (pv 7) pe_int (fun _ _ => rfl)))
    (pss_cons (ps_for PassesOwn.never rfl (EnT.pi_enT (by rfl) B.enumerate (pa_cons (pv 0) pa_nil)) (pg_tup (by rfl) (pgs_cons (pg_name (i := 6) scFirst.nd rfl (Or.inl rfl)) (pgs_cons (pg_name (i := 7) scFirst.nd rfl (Or.inl rfl)) pgs_nil)))
        (pss_cons (ps_if (PW.pt (pw_or (pt_cmpR op_eq (pv 6) (pv 3) (nomark _)) (pw_or (pt_not (pt_truth (hcall _ _ _) (fun _ => rfl))) (pw_or1 (pt_cmpR op_in_seq (pe_ix ix_tup (pv 7) pe_int (fun _ _ => rfl)) (pv 5) (by with_unfolding_all rfl)))))) (pss_one (ps_ret (pe_tup (pa_cons (pv 6) pa_nil)))) pss_nil)
        (pss_one (ps_expr (pe_bm PySem.F.plainAttrs_list PySem.F.slot_list_append PySem.F.type_list_append mt_append (pv 5) (pa_cons (pe_ix ix_tup (pv 7) pe_int (fun _ _ => rfl)) pa_nil))))))
    (pss_one (ps_ret (pe_tup pa_nil))))), ?_⟩
  obtain ⟨t, b, ty, e, hb⟩ := kx.atTup
  have one : 1 ≤ sizeLine := by
    rw [sizeLine_eq]
    decide
  have big : (2000 : Nat) < sizeLine := by
    rw [sizeLine_eq]
    decide
  have nl : ers.length = names.length := Paired.size ken
  refine ⟨_, rfl, _, _, t, _, b, rfl, .ty "tuple", ty, e, b, rfl, ?_⟩
  rcases hb with ⟨rfl, a, xs, rfl, ha, hx⟩ | ⟨rfl, hx⟩
  · rw [hx] at q
    refine ⟨_, rfl, a, xs, rfl, .inr (SqT.of ha), _, rfl, _, _, rfl, rfl, _, rfl, ?_⟩
    refine ite2 (fun c => ?_) (fun c => ?_)
    · refine ⟨one, fun p np => q p _ (Ex.refl.new np) np ?_⟩
      rw [upd_same]
      unfold fwOut
      simp only
      rw [if_pos (of_decide_eq_true c)]
    · have c' : ¬ (xs.length : Int) < few := fun z => c (decide_eq_true z)
      have q : ∀ (p : Addr) (H1 : Hp) (o : Option Nat), Ex H H1 → H p = none → fwAt R nm most names 0 xs = o → H1 p = some (.tup (match o with | none => [] | some i => [.int i])) → Q (.ref p) H1 := fun p H1 o e1 e2 e3 e4 => by
        refine q p H1 e1 e2 ?_
        unfold fwOut
        simp only
        rw [if_neg c', e3, e4]
      clear c
      refine ⟨_, rfl, ae, rfl, ⟨ers, SqT.of ke⟩, fun D hD => lc_it walk_tup (fun n H2 => Ex H H2 ∧ H2 D = some (.lst ((names.take n).map V.str))) ⟨Ex.refl.new hD, upd_same⟩ (fun i H2 _ h => SqT.of (h.1 _ _ ke)) ?_ ?_⟩
      · rintro i v _ H2 hi ⟨x2, e2⟩ ⟨rfl, hv⟩
        obtain ⟨n, hn, b, r, rfl, hb⟩ := Paired.spot ken hv
        refine ⟨rfl, ?_⟩
        refine ⟨_, rfl, b, _, 0, .str n, rfl, rfl, SqT.of (x2 _ _ hb), atI_nat (j := 0) rfl, ?_⟩
        refine ⟨_, e2, ?_, x2.put hD, ?_⟩
        · rw [List.length_map, List.length_take]
          omega
        · rw [upd_same, List.take_succ, hn, List.map_append]
          rfl
      · rintro H2 ⟨x2, e2⟩
        rw [nl, List.take_length] at e2
        refine ⟨_, rfl, a, xs, rfl, SqT.of (x2 _ _ ha), for_it walk_en (fun n σ G => ∃ (tk : List Str) (v6 v7 : Option V), σ = [some (.ref a), some (.ref ae), some (.int few), some (.int most), some cal, some (.ref D), v6, v7] ∧ Ex H G ∧ G D = some (.lst (tk.map V.str)) ∧
            tk.length = names.length + n ∧ (n : Int) ≤ most ∧ fwAt R nm most names 0 xs = fwAt R nm most tk n (xs.drop n))
          ⟨names, _, _, rfl, x2, e2, rfl, by omega, by rw [List.drop_zero]⟩ (fun n σ G _ ⟨_, _, _, _, h, _⟩ => SqT.of (h _ _ ha)) ?_ ?_⟩
        · rintro i v σ G G1 hi ⟨tk, v6, v7, rfl, xG, eD, tl, im, ef⟩ ⟨T, y1, y2, rfl, nT, rfl, h1, h2⟩
          cases h1
          have h2 : xs[i]? = some y2 := h2
          have hi2 : i < xs.length := hi
          have dr : xs.drop i = y2 :: xs.drop (i + 1) := by
            have z := h2
            rw [List.getElem?_eq_getElem hi2] at z
            rw [List.drop_eq_getElem_cons hi2, Option.some.inj z]
          rw [dr] at ef
          have mem : y2 ∈ xs := List.mem_of_getElem? h2
          have xT : Ex H (upd G T (.tup [.int (i : Nat), y2])) := xG.new nT
          have dT : D ≠ T := ne_of_none eD nT
          have eD1 : (upd G T (.tup [.int (i : Nat), y2])) D = some (.lst (tk.map V.str)) := by
            rw [upd_ne dT]
            exact eD
          have eT : (upd G T (.tup [.int (i : Nat), y2])) T = some (.tup [.int (i : Nat), y2]) := upd_same
          generalize upd G T (.tup [.int (i : Nat), y2]) = G1 at xT eD1 eT ⊢
          refine ⟨T, _, rfl, SqT.of eT, rfl, _, _, rfl, _, _, rfl, rfl, ?_⟩
          refine ⟨_, rfl, _, rfl, rfl, _, rfl, ?_⟩
          have stop : fwAt R nm most tk i (y2 :: xs.drop (i + 1)) = some i → ∀ (G2 : Hp), Ex H G2 → ∀ p, G2 p = none → Q (.ref p) (upd G2 p (.tup [.int (i : Nat)])) := fun z G2 x3 p np =>
            q p _ (some i) (x3.new np) (x3.gone np) (ef.trans z) upd_same
          by_cases c1 : (i : Int) = most
          · rw [decide_eq_true (show V.int ((i : Nat) : Int) = V.int most by rw [c1])]
            refine ⟨_, rfl, one, fun p np => stop ?_ G1 xT p np⟩
            unfold fwAt
            rw [if_pos c1]
          · rw [decide_eq_false (fun z : V.int ((i : Nat) : Int) = V.int most => c1 (V.int.inj z))]
            refine hR xs hx y2 mem _ _ _ xT rfl rfl fun G2 x4 => ⟨_, rfl, ?_⟩
            have xT2 := xT.trans x4
            cases hRv : R y2 with
            | false =>
              refine ⟨_, rfl, one, fun p np => stop ?_ G2 xT2 p np⟩
              unfold fwAt
              rw [if_neg c1, if_pos hRv]
            | true =>
              obtain ⟨bb, r, rfl, hbb⟩ := hN xs hx y2 mem hRv
              have eD2 := x4 _ _ eD1
              have fl : (tk.map V.str).all flatV = true := by
                rw [List.all_map]
                exact List.all_eq_true.mpr fun _ _ => rfl
              refine ⟨_, rfl, bb, _, 0, .str (nm (.ref bb)), rfl, rfl, SqT.of (xT2 _ _ hbb), atI_nat (j := 0) rfl, _, rfl, D, _, rfl, .inl (SqL.of eD2), rfl, fl, _, rfl, ?_⟩
              rw [show (if false = true then !inV (V.str (nm (V.ref bb))) (tk.map V.str) else inV (V.str (nm (V.ref bb))) (tk.map V.str)) = decide (nm (V.ref bb) ∈ tk) from strs_in]
              refine ite2 (fun c2 => ?_) (fun c2 => ?_)
              · refine ⟨_, rfl, one, fun p np => stop ?_ G2 xT2 p np⟩
                unfold fwAt
                rw [if_neg c1, if_neg (by rw [hRv]; decide), if_pos (of_decide_eq_true c2)]
              · have c3 : ¬ nm (V.ref bb) ∈ tk := fun z => c2 (decide_eq_true z)
                refine ⟨_, rfl, .inl ⟨rfl, _, SqL.of eD2⟩, _, rfl, bb, _, 0, .str (nm (.ref bb)), rfl, rfl, SqT.of (xT2 _ _ hbb), atI_nat (j := 0) rfl, D, _, _, rfl, rfl, eD2, ?_, tk ++ [nm (.ref bb)], _, _, rfl, xT2.put hD, ?_, ?_, ?_, ?_⟩
                · rw [List.length_map, tl]
                  omega
                · rw [upd_same, List.map_append]
                  rfl
                · rw [List.length_append, tl]
                  rfl
                · omega
                · rw [ef]
                  conv => lhs; unfold fwAt
                  rw [if_neg c1, if_neg (by rw [hRv]; decide), if_neg c3]
        · rintro σ G ⟨tk, v6, v7, rfl, xG, eD, tl, im, ef⟩
          rw [List.drop_length] at ef
          exact ⟨Nat.zero_le _, fun p np => q p _ none (xG.new np) (xG.gone np) ef upd_same⟩
  · rw [hx] at q
    exact ⟨one, fun p np => q p _ (Ex.refl.new np) np upd_same⟩
end
end LJ
set_option Elab.async false
set_option linter.all false
set_option maxRecDepth 100000
set_option maxHeartbeats 8000000
namespace LJ
open PySem PySem.Spec L2
def nameOf (H : Hp) (v : V) : Str := match tupOf H v with
  | some (.str n :: _) => n
  | _ => Str.empty
/-- what a test lets has a name ahead -/
def Heads (g : List V → Bool) : Prop := ∀ xs, g xs = true → ∃ y ys, xs = y :: ys ∧ isN y = true
theorem heads_shares : Heads sharesOf := fun xs h => by
  match xs, h with
  | [y, a, b], h =>
    unfold sharesOf at h
    exact ⟨y, _, rfl, (Bool.and_eq_true _ _ ▸ h).1⟩
theorem heads_lim : Heads limOf := fun xs h => by
  match xs, h with
  | [y, .int i], h =>
    unfold limOf at h
    exact ⟨y, _, rfl, (Bool.and_eq_true _ _ ▸ h).1⟩
theorem heads_cont {H : Hp} {m : Int} : Heads (contOf H m) := fun xs h => by
  match xs, h with
  | [y, t], h =>
    unfold contOf at h
    exact ⟨y, _, rfl, (Bool.and_eq_true _ _ ▸ h).1⟩
theorem named_of {g : List V → Bool} {H : Hp} {v : V} (hg : Heads g) (h : onTup g H v = true) : Named H v (nameOf H v) := by
  unfold onTup at h
  split at h
  · rename_i xs e
    obtain ⟨y, ys, rfl, hy⟩ := hg xs h
    obtain ⟨a, rfl, ha⟩ := tup_ref e
    match y, hy with
    | .str n, _ =>
      refine ⟨a, ys, rfl, ?_⟩
      unfold nameOf
      rw [e]
      exact ha
  · cases h
theorem onTup_ex {K : PySem.W.Frag} {g : List V → Bool} {H H1 : Hp} {v : V} (k : Kn K H v) (e : Ex H H1) : onTup g H1 v = onTup g H v := by
  unfold onTup
  rw [k.tups e]
/-- what the call of _first_wrong asks of its first four arguments -/
structure FwPre (K : PySem.W.Frag) (H : Hp) (x : V) (ae : Addr) (ers : List V) (names : List Str) (few most : Int) : Prop where
  ke : H ae = some (.tup ers)
  ken : Paired (Named H) ers names
  few0 : 0 ≤ few
  most0 : 0 ≤ most
  most1 : most ≤ 100
  el : ers.length ≤ 1000
def spFw (K : PySem.W.Frag) (fS fL : Addr) : Sp := fun vs H Q _ => ∃ (x : V) (ae : Addr) (ers : List V) (names : List Str) (few most : Int) (cf : Addr) (g : List V → Bool), vs = [x, .ref ae, .int few, .int most, .ref cf] ∧ FwPre K H x ae ers names few most ∧ Deep K H 2 x ∧
  ((cf = fS ∧ g = sharesOf) ∨ (cf = fL ∧ g = limOf)) ∧ ∀ (p : Addr) (H1 : Hp), Ex H H1 → H p = none → H1 p = some (.tup (fwOut (onTup g H) (nameOf H) few most names (tupOf H x))) → Q (.ref p) H1
section
variable {P : Program} {w : World} {K : PySem.W.Frag} {mg : Str → Option Value} {base : Heap}
theorem ok_first {f fS fL : Addr} {fd fdS fdL : FuncData} (F : Fun K "_first_wrong" "_first_wrong" sFirst f fd) (B : BltI mg)
    (GS : FnOk P w K mg base CX0 3 fS fdS ["row"] (spTest K 1 (onTup sharesOf))) (kS : PySem.W.keepIn K (.ref fS) = true) (bS : Binds K fdS ["row"] [])
    (GL : FnOk P w K mg base CX0 3 fL fdL ["row"] (spTest K 1 (onTup limOf))) (kL : PySem.W.keepIn K (.ref fL) = true) (bL : Binds K fdL ["row"] []) :
    FnOk P w K mg base CX0 4 f fd pFirst (spFw K fS fL) := by
  refine F.ok scFirst (fun vs H Q E h => ?_) (fun cdv A outer s H vs Q E hr h => ?_)
  · obtain ⟨x, ae, ers, names, few, most, cf, g, rfl, _⟩ := h
    rfl
  · obtain ⟨x, ae, ers, names, few, most, cf, g, rfl, pre, dx, hc, q⟩ := h
    refine walk_fw (cal := .ref cf) (R := onTup g H) (nm := nameOf H) B (fun p1 p2 p3 => C8.pe_cv (i := 4) (k1 := 3) (k2 := 3) ⟨⟨_, _, GS, kS, bS⟩⟩ ⟨⟨_, _, GL, kL, bL⟩⟩ hr (by decide) (by decide) (by rfl) (by exact Or.inl rfl) (pa_cons (pv 7) pa_nil))
      dx.1 pre.ke pre.ken pre.few0 pre.most0 pre.most1 pre.el ?_ ?_ q
    · intro xs hx v hv σ H1 Q1 e1 h4 h7 says
      have dv : Deep K H 1 v := dx.2 xs hx v hv
      rcases hc with ⟨rfl, rfl⟩ | ⟨rfl, rfl⟩
      · exact .inl ⟨h4, v, h7, v, rfl, Deep.ex e1 dv, by rw [onTup_ex dv.1 e1]; exact says⟩
      · exact .inr ⟨h4, v, h7, v, rfl, Deep.ex e1 dv, by rw [onTup_ex dv.1 e1]; exact says⟩
    · intro xs hx v hv hR
      rcases hc with ⟨_, rfl⟩ | ⟨_, rfl⟩
      · exact named_of heads_shares hR
      · exact named_of heads_lim hR
end
end LJ
set_option Elab.async false
set_option linter.all false
set_option maxRecDepth 100000
set_option maxHeartbeats 8000000
namespace LJ
open PySem PySem.Spec L2
open LamX (ExtN)
abbrev sCheck : Stmt := top 26
abbrev nCheck : List Str := ["machines", "cleanings", "stuffs", "products", "wrong", "many"]
abbrev pCheck : List Str := ["machines", "cleanings", "stuffs", "products"]
theorem onTup_exN {K : PySem.W.Frag} {g : List V → Bool} {H H1 : Hp} {v : V} (k : Kn K H v) (e : ExtN H H1) : onTup g H1 v = onTup g H v := by
  unfold onTup
  rw [k.tupsN e]
theorem nameOf_exN {K : PySem.W.Frag} {H H1 : Hp} {v : V} (k : Kn K H v) (e : ExtN H H1) : nameOf H1 v = nameOf H v := by
  unfold nameOf
  rw [k.tupsN e]
theorem isBnd_exN {K : PySem.W.Frag} {H H1 : Hp} {y : V} {m : Int} (k : Kn K H y) (e : ExtN H H1) : isBnd H1 y m = isBnd H y m := by
  unfold isBnd
  rw [k.tupsN e]
theorem all_same {α : Type} {p q : α → Bool} : ∀ {xs : List α}, (∀ x ∈ xs, p x = q x) → xs.all p = xs.all q
  | [], _ => rfl
  | x :: xs, h => by rw [List.all_cons, List.all_cons, h x (List.mem_cons_self ..), all_same fun y hy => h y (List.mem_cons_of_mem _ hy)]
theorem cont_exN {K : PySem.W.Frag} {H H1 : Hp} {m : Int} {v : V} (d : Deep K H 3 v) (e : ExtN H H1) : onTup (contOf H1 m) H1 v = onTup (contOf H m) H v := by
  unfold onTup
  rw [d.1.tupsN e]
  cases hx : tupOf H v with
  | none => rfl
  | some xs =>
    show contOf H1 m xs = contOf H m xs
    match xs, hx with
    | [], _ => rfl
    | [_], _ => rfl
    | _ :: _ :: _ :: _, _ => rfl
    | [n, t], hx =>
      have dt : Deep K H 2 t := d.2 _ hx t (by simp)
      show (isN n && pairsOf H1 m (tupOf H1 t)) = (isN n && pairsOf H m (tupOf H t))
      rw [dt.1.tupsN e]
      cases ht : tupOf H t with
      | none => rfl
      | some ps =>
        show (isN n && (decide ((ps.length : Int) = m) && ps.all fun y => isBnd H1 y top12)) = (isN n && (decide ((ps.length : Int) = m) && ps.all fun y => isBnd H y top12))
        rw [all_same fun y hy => isBnd_exN (m := top12) (dt.2 _ ht y hy).1 e]
theorem fwAt_same {R R1 : V → Bool} {nm nm1 : V → Str} {most : Int} : ∀ {xs : List V} {tk : List Str} {i : Nat}, (∀ v ∈ xs, R v = R1 v ∧ nm v = nm1 v) → fwAt R nm most tk i xs = fwAt R1 nm1 most tk i xs
  | [], _, _, _ => by
    unfold fwAt
    rfl
  | v :: xs, tk, i, h => by
    have h1 := h v (List.mem_cons_self ..)
    have t := fwAt_same (tk := tk ++ [nm1 v]) (i := i + 1) (most := most) fun y hy => h y (List.mem_cons_of_mem _ hy)
    unfold fwAt
    rw [h1.1, h1.2, t]
/-- all rows are right, and there are no more than so many -/
theorem fwAt_all {R : V → Bool} {nm : V → Str} {most : Int} : ∀ {xs : List V} {tk : List Str} {i : Nat}, (i : Int) ≤ most → fwAt R nm most tk i xs = none → (∀ v ∈ xs, R v = true) ∧ (i : Int) + xs.length ≤ most
  | [], _, i, h0, _ => ⟨(fun _ z => nomatch z), by simpa using h0⟩
  | v :: xs, tk, i, h0, h => by
    unfold fwAt at h
    split at h
    · cases h
    · split at h
      · cases h
      · split at h
        · cases h
        · rename_i c1 c2 c3
          obtain ⟨a, b⟩ := fwAt_all (i := i + 1) (by omega) h
          refine ⟨fun y hy => ?_, ?_⟩
          · rcases List.mem_cons.mp hy with rfl | hy
            · exact Bool.of_not_eq_false c2
            · exact a y hy
          · rw [List.length_cons]
            omega
theorem fw_nil {R : V → Bool} {nm : V → Str} {few most : Int} {tk : List Str} {H : Hp} {x : V} {xs : List V} (e : tupOf H x = some xs) (l : few ≤ xs.length) (h : fwAt R nm most tk 0 xs = none) : fwOut R nm few most tk (tupOf H x) = [] := by
  rw [e]
  unfold fwOut
  simp only
  rw [if_neg (by omega), h]
/-- four tuples that the check lets -/
structure Fit (K : PySem.W.Frag) (H : Hp) (am ac as ap : Addr) (xm xc xs xp : List V) : Prop where
  m : H am = some (.tup xm)
  c : H ac = some (.tup xc)
  s : H as = some (.tup xs)
  p : H ap = some (.tup xp)
  dm : Deep K H 2 (.ref am)
  dc : Deep K H 2 (.ref ac)
  ds : Deep K H 2 (.ref as)
  dp : Deep K H 4 (.ref ap)
  lm : 1 ≤ xm.length
  ls : 1 ≤ xs.length
  lp : 1 ≤ xp.length
  fm : fwAt (onTup sharesOf H) (nameOf H) 6 [] 0 xm = none
  fc : fwAt (onTup sharesOf H) (nameOf H) 6 (xm.map (nameOf H)) 0 xc = none
  fs : fwAt (onTup limOf H) (nameOf H) 3 ((xm ++ xc).map (nameOf H)) 0 xs = none
  fp : fwAt (onTup (contOf H xs.length) H) (nameOf H) 8 ((xm ++ xc ++ xs).map (nameOf H)) 0 xp = none
theorem Deep.rows {K : PySem.W.Frag} {H : Hp} {n : Nat} {a : Addr} {xs : List V} (d : Deep K H (n + 1) (.ref a)) (h : H a = some (.tup xs)) : ∀ v ∈ xs, Deep K H n v := d.2 xs (tup_at h)
theorem names_exN {K : PySem.W.Frag} {H H1 : Hp} (e : ExtN H H1) : ∀ {xs : List V}, (∀ v ∈ xs, Kn K H v) → xs.map (nameOf H1) = xs.map (nameOf H)
  | [], _ => rfl
  | x :: xs, h => by rw [List.map_cons, List.map_cons, nameOf_exN (h x (List.mem_cons_self ..)) e, names_exN e fun y hy => h y (List.mem_cons_of_mem _ hy)]
theorem Fit.exN {K : PySem.W.Frag} {H H1 : Hp} {am ac as ap : Addr} {xm xc xs xp : List V} (F : Fit K H am ac as ap xm xc xs xp) (e : ExtN H H1) : Fit K H1 am ac as ap xm xc xs xp := by
  have km : ∀ v ∈ xm, Kn K H v := fun v hv => (F.dm.rows F.m v hv).kn
  have kc : ∀ v ∈ xc, Kn K H v := fun v hv => (F.dc.rows F.c v hv).kn
  have ks : ∀ v ∈ xs, Kn K H v := fun v hv => (F.ds.rows F.s v hv).kn
  have kp : ∀ v ∈ xp, Kn K H v := fun v hv => (F.dp.rows F.p v hv).kn
  have kmc : ∀ v ∈ xm ++ xc, Kn K H v := fun v hv => (List.mem_append.mp hv).elim (km v) (kc v)
  have kmcs : ∀ v ∈ xm ++ xc ++ xs, Kn K H v := fun v hv => (List.mem_append.mp hv).elim (kmc v) (ks v)
  refine ⟨tup_n e F.m, tup_n e F.c, tup_n e F.s, tup_n e F.p, F.dm.exN e, F.dc.exN e, F.ds.exN e, F.dp.exN e, F.lm, F.ls, F.lp, ?_, ?_, ?_, ?_⟩
  · rw [← F.fm]
    exact fwAt_same fun v hv => ⟨onTup_exN (km v hv) e, nameOf_exN (km v hv) e⟩
  · rw [← F.fc, names_exN e km]
    exact fwAt_same fun v hv => ⟨onTup_exN (kc v hv) e, nameOf_exN (kc v hv) e⟩
  · rw [← F.fs, names_exN e kmc]
    exact fwAt_same fun v hv => ⟨onTup_exN (ks v hv) e, nameOf_exN (ks v hv) e⟩
  · rw [← F.fp, names_exN e kmcs]
    exact fwAt_same fun v hv => ⟨cont_exN (F.dp.rows F.p v hv) e, nameOf_exN (kp v hv) e⟩
theorem paired_names {H : Hp} : ∀ {xs : List V}, (∀ v ∈ xs, Named H v (nameOf H v)) → Paired (Named H) xs (xs.map (nameOf H))
  | [], _ => .nil
  | x :: xs, h => .cons (h x (List.mem_cons_self ..)) (paired_names fun y hy => h y (List.mem_cons_of_mem _ hy))
theorem Fit.named {K : PySem.W.Frag} {H : Hp} {am ac as ap : Addr} {xm xc xs xp : List V} (F : Fit K H am ac as ap xm xc xs xp) :
    (∀ v ∈ xm, Named H v (nameOf H v)) ∧ (∀ v ∈ xc, Named H v (nameOf H v)) ∧ (∀ v ∈ xs, Named H v (nameOf H v)) ∧ xm.length ≤ 6 ∧ xc.length ≤ 6 ∧ xs.length ≤ 3 := by
  obtain ⟨a1, b1⟩ := fwAt_all (by decide) F.fm
  obtain ⟨a2, b2⟩ := fwAt_all (by decide) F.fc
  obtain ⟨a3, b3⟩ := fwAt_all (by decide) F.fs
  exact ⟨fun v hv => named_of heads_shares (a1 v hv), fun v hv => named_of heads_shares (a2 v hv), fun v hv => named_of heads_lim (a3 v hv), by omega, by omega, by omega⟩
/-- a + b, two tuples, the first one not empty -/
theorem rd_cat {K : PySem.W.Frag} {H : Hp} {a b : Addr} {xs ys : List V} {Q : VK} (ha : H a = some (.tup xs)) (hb : H b = some (.tup ys)) (ne : xs ≠ []) (l : xs.length + ys.length ≤ 1000)
    (q : ∀ (c : Addr) (H1 : Hp), Ex H H1 → H1 c = some (.tup (xs ++ ys)) → Q (.ref c) H1) : rCatT K (.ref a) (.ref b) H Q := by
  refine ⟨a, b, xs, ys, rfl, rfl, SqT.of ha, SqT.of hb, ne, ?_, fun e => ?_, fun _ p np => ?_⟩
  · rw [sizeLine_eq]
    omega
  · subst e
    exact q a H Ex.refl (by rw [List.append_nil]; exact ha)
  · exact q p _ (Ex.refl.new np) upd_same
end LJ
set_option Elab.async false
set_option linter.all false
set_option maxRecDepth 100000
set_option maxHeartbeats 8000000
namespace LJ
open PySem PySem.Spec L2
open LamX (ExtN TabB)
open NdefX (NTab TabsN)
/-- a def with the code object at c, by its body -/
theorem Fun.okC {K : PySem.W.Frag} {P : Program} {w : World} {mg : Str → Option Value} {base : Heap} {x qual : Str} {st : Stmt} {f c : Addr} {fd : FuncData} {N ps : List Str} {k : Nat} {sp : Sp} (F : Fun K x qual st f fd) (hc : fd.code = .ref c) (S : FnScope N ps (defScope st)) (len : ∀ vs H Q E, sp vs H Q E → vs.length = ps.length)
    (hbody : ∀ (A : Around) (outer : List Env) (s : Shared) (H : Hp) (vs : List V) (Q : VK) (E : XK), Room k (A.deeper (PyProof.Rows.envOfC qual (defScope st) s.heap.objs.size f (.ref c))) → sp vs H Q E →
      ∃ t, PSs (cxOf CX0 P w K mg base N qual (defScope st) f (.ref c) A outer s H E).nox (defBody st) t ∧ t { nx := fun _ H1 => Q .non H1, rt := Q } (start N vs) H) : FnOk P w K mg base CX0 (k + 1) f fd ps sp := by
  obtain ⟨oc, od, kV, doc, pm, an, cdv, ct, osl, rfl, lk, hcd⟩ := F.ex
  obtain rfl : cdv = .ref c := hc
  refine fn_of lk hcd S len fun A outer s H vs Q E hr hsp => ?_
  obtain ⟨t, h, q⟩ := hbody A outer s H vs Q E hr hsp
  exact ⟨t, h.nox, q⟩
/-! ### _first_wrong(.., lambda row: _has_contents(row, many)) -/
def spRow (K : PySem.W.Frag) : List (Option V) → Sp := fun ws vs H Q _ => ∃ (v : V) (m : Int), ws = [some (.int m)] ∧ vs = [v] ∧ Deep K H 3 v ∧ Says Q H (onTup (contOf H m) H v)
/-- what the arguments are: the lambda stands, many is m -/
def AskL (X : Cx) (params : Arguments) (body : Expr) (scope : Scope) : St → List V → Hp → VK → Prop := fun σ vs H Q => ∃ (x : V) (ae : Addr) (ers : List V) (names : List Str) (few most m : Int) (fl c1 : Addr),
  vs = [x, .ref ae, .int few, .int most, .ref fl] ∧ FwPre X.K H x ae ers names few most ∧ Deep X.K H 4 x ∧ σ[5]? = some (some (.int m)) ∧ H fl = some (LamV.LnO fl (LamV.lamF X params scope c1) body) ∧
  H (LamV.lamF X params scope c1).c = some (LamX.CodeO (LamV.lamF X params scope c1).c (LamV.lamF X params scope c1).qual) ∧
  ∀ (p : Addr) (H1 : Hp), Ex H H1 → H p = none → H1 p = some (.tup (fwOut (onTup (contOf H m) H) (nameOf H) few most names (tupOf H x))) → Q (.ref p) H1
theorem pe_fwl {X : Cx} {f fC : Addr} {fd fdC : FuncData} {params : Arguments} {body : Expr} {scope : Scope} {p pos : Pos} {e : Expr} {es : List Expr} {t : TA} {q1 q2 q3 q4 : Pos} (F : Fun X.K "_first_wrong" "_first_wrong" sFirst f fd) (B : BltI X.mg) (room : Room 5 X.A) (gl : Gl X "_first_wrong")
    (is : X.mg "_first_wrong" = some (.ref f)) (kp : PySem.W.keepIn X.K (.ref f) = true) (bd : Binds X.K fd pFirst [])
    (GC : FnOk X.prog X.w X.K X.mg X.base CX0 3 fC fdC ["row", "many"] (spCont X.K)) (mC : X.mg "_has_contents" = some (.ref fC)) (kC : PySem.W.keepIn X.K (.ref fC) = true) (bC : Binds X.K fdC ["row", "many"] [])
    (is5 : X.N[5]? = some ("many" : Str)) (caps : ∀ y ∈ scope.names, y.2 = .free → X.env.scope.names.lookup y.1 = some .cell ∨ X.env.scope.names.lookup y.1 = some .free) (frees : ∀ y ∈ (["many"] : List Str), (y, NameKind.free) ∈ scope.names) (hb : body = .Call (.Name "_has_contents" q1) [.Name "row" q2, .Name "many" q3] [] q4)
    (NS : NdefX.NScope ["row", "many"] ["row"] ["many"] scope) (glC : scope.names.lookup ("_has_contents" : Str) = some .globalImplicit)
    (hbind : ∀ (nm q : Str) (cl : List (Str × Addr)) (m t cv : Value) (us : List Value), us.length = 1 → bindArgs (PySem.W.kla_fn nm q params body scope cl m cv t) ⟨us, []⟩ = pure ((["row"] : List Str).zip us))
    (args : PA X (e :: es) t) (p1 : starEach (e :: es) X.env = (false, eval e X.env) :: starEach es X.env := by rfl) (p2 : (backTo pos (starEach es X.env)).any (·.1) = false := by rfl) :
    PE X (.Call (.Name "_first_wrong" p) (e :: es) [] pos) (fun σ H Q => t σ H fun vs H1 => AskL X params body scope σ vs H1 Q) := by
  refine LamV.pe_in (N := nFirst) (ps := pFirst) (k := 4) F scFirst room gl is kp bd (fun {σ vs H Q} h => ?_) (fun cdv pins σ H s vs Q I deep h => ?_) args (by decide) p1 p2
  · obtain ⟨x, ae, ers, names, few, most, m, fl, c1, rfl, _⟩ := h
    rfl
  · obtain ⟨x, ae, ers, names, few, most, m, fl, c1, rfl, pre, dx, hm, hfl, hc1, q⟩ := h
    have L : LamV.LOk X.prog X.w X.K X.mg X.base CX0 4 fl (LamV.lamF X params scope c1) body 1 ["many"] (spRow X.K) := by
      refine LamV.LOk.by_body (N := ["row", "many"]) (ps := ["row"]) NS (fun m t us hl => hbind _ _ _ _ _ _ us hl) (fun {ws vs H Q E} h => ?_) fun A outer s H vs ws Q E hr rdy h => ?_
      · obtain ⟨v, m, _, rfl, _⟩ := h
        rfl
      · obtain ⟨v, m, rfl, rfl, dv, says⟩ := h
        subst hb
        refine ⟨_, pe_call GC hr (show Gl _ _ from glC) mC kC bC .nil pass0 (pa_cons (pe_var (i := 0) rfl (.inl (NS.par _ (List.mem_cons_self ..)))) (pa_cons (pe_var (i := 1) rfl (.inr (.inr (NS.frk _ (List.mem_cons_self ..))))) pa_nil)), ?_⟩
        exact ⟨v, rfl, .int m, rfl, v, m, rfl, dv, says⟩
    have C : NdefX.CellsAt (LamV.lamF X params scope c1).cl ["many"] ([5].map (NdefX.slotAt σ)) s.heap H := by
      refine NdefX.cells_of I (NdefX.Caps.made (fr := ["many"]) (js := [5]) I.ok caps frees ?_)
      show [X.N[5]?] = [some ("many" : Str)]
      rw [is5]
    have w5 : [5].map (NdefX.slotAt σ) = [some (.int m)] := by
      show [NdefX.slotAt σ 5] = _
      rw [NdefX.slotAt_of hm]
    rw [w5] at C
    have deep' : Room 4 (X.A.deeper (PyProof.Rows.envOfC "_first_wrong" (defScope sFirst) s.heap.objs.size f cdv)) := deep
    refine walk_fw (cal := .ref fl) (R := onTup (contOf H m) H) (nm := nameOf H) B (fun q1 q2 q3 => LamV.pe_lact (i := 4) L C rfl deep' (Nat.le_refl _) pass0 rfl (Or.inl rfl) (pa_cons (pv 7) pa_nil)) dx.1 pre.ke pre.ken pre.few0 pre.most0 pre.most1 pre.el ?_ ?_ q
    · intro xs hx v hv σ1 H1 Q1 e1 h4 h7 says
      have dv : Deep X.K H 3 v := dx.2 xs hx v hv
      refine ⟨⟨h4, e1 _ _ hfl⟩, v, h7, ⟨e1 _ _ hfl, e1 _ _ hc1⟩, v, m, rfl, rfl, Deep.ex e1 dv, ?_⟩
      rw [cont_exN dv e1.n]
      exact says
    · intro xs hx v hv hR
      exact named_of heads_cont hR
end LJ
set_option Elab.async false
set_option linter.all false
set_option maxRecDepth 100000
set_option maxHeartbeats 8000000
namespace LJ
open PySem PySem.Spec L2
open LamX (ExtN TabB)
open NdefX (NTab TabsN)
/-- the lambda that the check hands on -/
def lamE : Expr := match (defBody sCheck).getD 7 (.Pass ⟨0, 0, 0, 0⟩) with
  | .Assign _ (.Call _ args _ _) _ => args.getD 4 (.Constant .none 0 ⟨0, 0, 0, 0⟩)
  | _ => .Constant .none 0 ⟨0, 0, 0, 0⟩
def lamParams : Expr → Arguments
  | .Lambda a _ _ _ => a
  | _ => ⟨[], [], none, [], [], none, []⟩
def lamBody : Expr → Expr
  | .Lambda _ b _ _ => b
  | e => e
def lamScope : Expr → Scope
  | .Lambda _ _ s _ => s
  | _ => defScope sCheck
def lamName : Nat → Nat → Str := fun _ _ => "_check.<locals>.<lambda>"
def spCheck (K : PySem.W.Frag) (T : List NTab) : Sp := fun vs H Q _ => ∃ (am ac as ap : Addr) (xm xc xs xp : List V), vs = [.ref am, .ref ac, .ref as, .ref ap] ∧ Fit K H am ac as ap xm xc xs xp ∧ TabsN T H ∧ ∀ H1, ExtN H H1 → TabsN T H1 → Q .non H1
theorem TabsN.exs {T : List NTab} {H H1 : Hp} (t : TabsN T H) (e : Ex H H1) : TabsN T H1 := t.ext e
section
variable {P : Program} {w : World} {K : PySem.W.Frag} {mg : Str → Option Value} {base : Heap}
theorem scCheck : FnScope nCheck pCheck (defScope sCheck) := ⟨rfl, rfl, rfl, by decide +kernel, rfl, by decide +kernel, by decide +kernel⟩
theorem ok_check {f fF fS fL fC c Pt : Addr} {fd fdF fdC : FuncData} {u1 u2 u3 u4 : Value} {T : List NTab} (F : Fun K "_check" "_check" sCheck f fd) (hcode : fd.code = .ref c) (TB : TabB base mg c Pt) (inT : (Pt, lamName) ∈ T) (only : ∀ r ∈ T, r.1 = Pt → r.2 = lamName) (B : BltI mg)
    (FF : Fun K "_first_wrong" "_first_wrong" sFirst fF fdF) (GF : FnOk P w K mg base CX0 4 fF fdF pFirst (spFw K fS fL)) (mF : mg "_first_wrong" = some (.ref fF)) (kF : PySem.W.keepIn K (.ref fF) = true) (bF : Binds K fdF pFirst [])
    (GC : FnOk P w K mg base CX0 3 fC fdC ["row", "many"] (spCont K)) (mC : mg "_has_contents" = some (.ref fC)) (kC : PySem.W.keepIn K (.ref fC) = true) (bC : Binds K fdC ["row", "many"] [])
    (mS : mg "_has_shares" = some (.ref fS)) (mL : mg "_has_limit" = some (.ref fL))
    (m1 : mg "MOST_MACHINES" = some u1) (r1 : RelV (.int 6) u1) (m2 : mg "MOST_CLEANINGS" = some u2) (r2 : RelV (.int 6) u2) (m3 : mg "MOST_STUFFS" = some u3) (r3 : RelV (.int 3) u3) (m4 : mg "MOST_PRODUCTS" = some u4) (r4 : RelV (.int 8) u4) :
    FnOk P w K mg base CX0 6 f fd pCheck (spCheck K T) := by
  refine Fun.okC F hcode scCheck (fun vs H Q E h => ?_) (fun A outer s H vs Q E hr h => ?_)
  · obtain ⟨am, ac, as, ap, xm, xc, xs, xp, rfl, _⟩ := h
    rfl
  · obtain ⟨am, ac, as, ap, xm, xc, xs, xp, rfl, fit, tabs, q⟩ := h
    have hr4 : Room 4 _ := hr.mono (by decide)
    refine ⟨_, pss_cons (ps_set (i := 4) scCheck.nd rfl (Or.inl rfl) (pe_call GF hr4 (by rfl) mF kF bF .nil pass0 (pa_cons (pv 0) (pa_cons (pe_tup pa_nil) (pa_cons pe_int (pa_cons (pe_glob (by rfl) m1 r1) (pa_cons (pe_glob (v := .ref fS) (by rfl) mS rfl) pa_nil)))))))
      (pss_cons (ps_if (pt_truth (pv 4) (fun _ => rfl)) pss_never pss_nil)
      (pss_cons (ps_set (i := 4) scCheck.nd rfl (Or.inl rfl) (pe_call GF hr4 (by rfl) mF kF bF .nil pass0 (pa_cons (pv 1) (pa_cons (pv 0) (pa_cons pe_int (pa_cons (pe_glob (by rfl) m2 r2) (pa_cons (pe_glob (v := .ref fS) (by rfl) mS rfl) pa_nil)))))))
      (pss_cons (ps_if (pt_truth (pv 4) (fun _ => rfl)) pss_never pss_nil)
      (pss_cons (ps_set (i := 4) scCheck.nd rfl (Or.inl rfl) (pe_call GF hr4 (by rfl) mF kF bF .nil pass0 (pa_cons (pv 2) (pa_cons (pe_op op_catT (pv 0) (pv 1)) (pa_cons pe_int (pa_cons (pe_glob (by rfl) m3 r3) (pa_cons (pe_glob (v := .ref fL) (by rfl) mL rfl) pa_nil)))))))
      (pss_cons (ps_if (pt_truth (pv 4) (fun _ => rfl)) pss_never pss_nil)
      (pss_cons (ps_set (i := 5) scCheck.nd rfl (Or.inr rfl) (pe_callB call_len_seq (by rfl) B.len (by decide +kernel) (pa_cons (pv 2) pa_nil)))
      (pss_cons (ps_set (i := 4) scCheck.nd rfl (Or.inl rfl) (pe_fwl (params := lamParams lamE) (body := lamBody lamE) (scope := lamScope lamE) FF B hr (by rfl) mF kF bF GC mC kC bC rfl (NdefX.ndef_free (sc := defScope sCheck) (fr := ["many"]) (by decide +kernel)) (NdefX.ndef_fr (sc := defScope sCheck) (by decide +kernel)) rfl (NdefX.nscope_by (by decide +kernel)) rfl
          (fun _ _ _ _ _ _ us hl => match us, hl with | [_], _ => rfl)
          (pa_cons (pv 3) (pa_cons (pe_op op_catT (pe_op op_catT (pv 0) (pv 1)) (pv 2)) (pa_cons pe_int (pa_cons (pe_glob (by rfl) m4 r4) (pa_cons (LamV.pe_lam TB rfl inT rfl only rfl (NdefX.ndef_free (sc := defScope sCheck) (fr := ["many"]) (by decide +kernel))) pa_nil)))))))
      (pss_one (ps_if (pt_truth (pv 4) (fun _ => rfl)) pss_never pss_nil))))))))), ?_⟩
    have le0 : ([] : List V).length ≤ sizeLine := Nat.zero_le _
    refine ⟨_, rfl, le0, fun p0 np0 => ?_⟩
    have x0 : Ex H (upd H p0 (.tup [])) := Ex.refl.new np0
    have F0 := fit.exN x0.n
    have T0 := TabsN.exs tabs x0
    have e0 : (upd H p0 (.tup [])) p0 = some (.tup []) := upd_same
    generalize upd H p0 (.tup []) = H0 at x0 F0 T0 e0 ⊢
    refine ⟨.ref am, p0, [], [], 1, 6, fS, sharesOf, rfl, ⟨e0, .nil, by decide, by decide, by decide, by decide⟩, F0.dm, .inl ⟨rfl, rfl⟩, fun p1 H1 x1 np1 e1 => ?_⟩
    rw [fw_nil (tup_at F0.m) (by have := fit.lm; omega) F0.fm] at e1
    refine ⟨_, rfl, false, .inr (.inl ⟨[], SqT.of e1, rfl⟩), ?_⟩
    have F1 := F0.exN x1.n
    have T1 := TabsN.exs T0 x1
    obtain ⟨nm1, nc1, ns1, lm1, lc1, ls1⟩ := F1.named
    refine ⟨_, rfl, _, rfl, .ref ac, am, xm, xm.map (nameOf H1), 0, 6, fS, sharesOf, rfl, ⟨F1.m, paired_names nm1, by decide, by decide, by decide, by omega⟩, F1.dc, .inl ⟨rfl, rfl⟩, fun p2 H2 x2 np2 e2 => ?_⟩
    rw [fw_nil (tup_at F1.c) (by omega) F1.fc] at e2
    refine ⟨_, rfl, false, .inr (.inl ⟨[], SqT.of e2, rfl⟩), ?_⟩
    have F2 := F1.exN x2.n
    have T2 := TabsN.exs T1 x2
    have ne : xm ≠ [] := fun z => by
      have l := fit.lm
      rw [z] at l
      exact absurd l (by decide)
    refine ⟨_, rfl, _, rfl, _, rfl, rd_cat F2.m F2.c ne (by omega) fun pc H3 x3 e3 => ?_⟩
    have F3 := F2.exN x3.n
    have T3 := TabsN.exs T2 x3
    obtain ⟨nm3, nc3, ns3, _⟩ := F3.named
    have nmc3 : ∀ v ∈ xm ++ xc, Named H3 v (nameOf H3 v) := fun v hv => (List.mem_append.mp hv).elim (nm3 v) (nc3 v)
    refine ⟨.ref as, pc, xm ++ xc, (xm ++ xc).map (nameOf H3), 1, 3, fL, limOf, rfl, ⟨e3, paired_names nmc3, by decide, by decide, by decide, by rw [List.length_append]; omega⟩, F3.ds, .inr ⟨rfl, rfl⟩, fun p4 H4 x4 np4 e4 => ?_⟩
    rw [fw_nil (tup_at F3.s) (by have := fit.ls; omega) F3.fs] at e4
    refine ⟨_, rfl, false, .inr (.inl ⟨[], SqT.of e4, rfl⟩), ?_⟩
    have F4 := F3.exN x4.n
    have T4 := TabsN.exs T3 x4
    refine ⟨_, rfl, as, xs, rfl, .inr (SqT.of F4.s), ?_⟩
    refine ⟨_, rfl, _, rfl, _, rfl, rd_cat F4.m F4.c ne (by omega) fun pd H5 x5 e5 => ?_⟩
    have F5 := F4.exN x5.n
    have T5 := TabsN.exs T4 x5
    have ne2 : xm ++ xc ≠ [] := fun z => ne (List.append_eq_nil_iff.mp z).1
    refine ⟨_, rfl, rd_cat e5 F5.s ne2 (by rw [List.length_append]; omega) fun pe H6 x6 e6 => ?_⟩
    have F6 := F5.exN x6.n
    have T6 := TabsN.exs T5 x6
    refine ⟨T6, fun fl c1 H7 x7 _ T7 _ efl ec1 => ?_⟩
    have F7 := F6.exN x7
    obtain ⟨nm7, nc7, ns7, _⟩ := F7.named
    have n7 : ∀ v ∈ xm ++ xc ++ xs, Named H7 v (nameOf H7 v) := fun v hv => (List.mem_append.mp hv).elim (fun hv => (List.mem_append.mp hv).elim (nm7 v) (nc7 v)) (ns7 v)
    refine ⟨.ref ap, pe, xm ++ xc ++ xs, (xm ++ xc ++ xs).map (nameOf H7), 1, 8, xs.length, fl, c1, rfl, ⟨tup_n x7 e6, paired_names n7, by decide, by decide, by decide, by rw [List.length_append, List.length_append]; omega⟩, F7.dp, rfl, efl, ec1, fun p8 H8 x8 np8 e8 => ?_⟩
    rw [fw_nil (tup_at F7.p) (by have := fit.lp; omega) F7.fp] at e8
    refine ⟨_, rfl, false, .inr (.inl ⟨[], SqT.of e8, rfl⟩), ?_⟩
    exact q H8 ((x0.trans (x1.trans (x2.trans (x3.trans (x4.trans (x5.trans x6)))))).n.trans (x7.trans x8.n)) (TabsN.exs T7 x8)
end
end LJ
set_option Elab.async false
set_option linter.all false
set_option maxRecDepth 100000
set_option maxHeartbeats 8000000
namespace LJ
open PySem PySem.Spec L2
open LamX (ExtN TabB)
open NdefX (NTab TabsN)
open RZ (ItzT pi_zipA iZipA)
abbrev sBy : Stmt := top 25
/-- a dict comprehension over any walk -/
theorem dc_it {J : It} {n : Nat} {G : Hp → Prop} {Y : Nat → Hp → V → Hp → Prop} (w : Walk J n G Y) {g : TG} {tt : TT} {tk tv : TE} {vs : List Nat} {σ : St} {H1 : Hp} {D : Addr} {Qd : Hp → Prop} (Pv : Nat → Hp → Prop) (start : Pv 0 (upd H1 D (.dK []))) (hG : ∀ i H, i ≤ n → Pv i H → G H)
    (turn : ∀ i x H H2, i < n → Pv i H → Y i H x H2 → g x (wipe σ vs) H2 fun σ3 H3 => wipe σ3 vs = wipe σ vs ∧ tt σ3 H3 fun b H4 =>
      if b = true then tk σ3 H4 fun y H5 => tv σ3 H5 fun z H6 => ∃ kvs k, y = kV k ∧ H6 D = some (.dK kvs) ∧ kvs.length < sizeLine ∧ Pv (i + 1) (upd H6 D (.dK (putK kvs k z))) else Pv (i + 1) H4) (stop : ∀ H, Pv n H → Qd H) :
    ∃ W : Nat → Nat → Hp → Prop, (∃ m, W 0 m (upd H1 D (.dK []))) ∧ ∀ i m H, W i m H →
      (J.stop i H ∧ Qd H) ∨ (J.go i H ∧ ∃ Nx : Hp → Prop, (∀ H2, Nx H2 → ∃ m2, m2 < m ∧ W (i + 1) m2 H2) ∧ ∀ x H2, J.yld i H x H2 → g x (wipe σ vs) H2 fun σ3 H3 => wipe σ3 vs = wipe σ vs ∧ tt σ3 H3 fun b H4 =>
        if b = true then tk σ3 H4 fun y H5 => tv σ3 H5 fun z H6 => ∃ kvs k, y = kV k ∧ H6 D = some (.dK kvs) ∧ kvs.length < sizeLine ∧ Nx (upd H6 D (.dK (putK kvs k z))) else Nx H4) := by
  refine ⟨fun i m H => i + m = n ∧ Pv i H, ⟨n, Nat.zero_add n, start⟩, ?_⟩
  rintro i m H ⟨im, p⟩
  have gH := hG i H (by omega) p
  cases m with
  | zero =>
    obtain rfl : i = n := by omega
    exact .inl ⟨w.stops H gH, stop H p⟩
  | succ m =>
    have lt : i < n := by omega
    exact .inr ⟨w.goes i H lt gH, Pv (i + 1), fun H2 p2 => ⟨m, Nat.lt_succ_self m, by omega, p2⟩, fun x H2 y => turn i x H H2 lt p (w.yields i H x H2 lt gH y)⟩
theorem walk_zt {K : PySem.W.Frag} {a b : Addr} {xs ys : List V} (l : xs.length = ys.length) : Walk (ItzT K a b) xs.length (fun H => SqT K H a xs ∧ SqT K H b ys) (YPair (fun i => xs[i]?) (fun i => ys[i]?)) where
  goes i _ hi q := ⟨xs, ys, xs[i], ys[i]'(l ▸ hi), q.1, q.2, List.getElem?_eq_getElem hi, List.getElem?_eq_getElem (l ▸ hi)⟩
  stops _ q := ⟨xs, ys, q.1, q.2, .inl (Nat.le_refl _)⟩
  yields i H v H1 _ q y := by
    obtain ⟨T, x, z, h1, h2, h3, h4, h5⟩ := y
    exact ⟨T, x, z, h1, h2, h3, h4 xs q.1, h5 ys q.2⟩
theorem merge_snoc {kvs more : List (Key × V)} {p : Key × V} : mergeK kvs (more ++ [p]) = putK (mergeK kvs more) p.1 p.2 := by
  unfold mergeK
  rw [List.foldl_append]
  rfl
theorem merge_len : ∀ {more kvs : List (Key × V)}, (mergeK kvs more).length ≤ kvs.length + more.length
  | [], kvs => Nat.le_refl _
  | p :: r, kvs => by
    have h := merge_len (more := r) (kvs := putK kvs p.1 p.2)
    have l : (putK kvs p.1 p.2).length ≤ kvs.length + 1 := by
      unfold putK
      split
      · rw [List.length_map]
        omega
      · rw [List.length_append]
        exact Nat.le_refl _
    have e : mergeK kvs (p :: r) = mergeK (putK kvs p.1 p.2) r := rfl
    rw [e, List.length_cons]
    omega
/-- names and what stands under them -/
def under (ns : List Str) (ys : List V) : List (Key × V) := (ns.zip ys).map fun p => (.inr p.1, p.2)
def dictOf (ns : List Str) (ys : List V) : List (Key × V) := mergeK [] (under ns ys)
theorem under_at {ns : List Str} {ys : List V} {i : Nat} {n : Str} {y : V} (h1 : ns[i]? = some n) (h2 : ys[i]? = some y) : (under ns ys)[i]? = some (.inr n, y) := by
  unfold under
  rw [List.getElem?_map, (List.getElem?_zip_eq_some (z := (n, y))).mpr ⟨h1, h2⟩]
  rfl
theorem under_len {ns : List Str} {ys : List V} (h : ns.length = ys.length) : (under ns ys).length = ys.length := by
  unfold under
  rw [List.length_map, List.length_zip, h, Nat.min_self]
def spBy : Sp := fun vs H Q _ => ∃ (a b : Addr) (xs ys : List V) (ns : List Str), vs = [.ref a, .ref b] ∧ H a = some (.tup xs) ∧ H b = some (.tup ys) ∧ Paired (Named H) xs ns ∧ xs.length = ys.length ∧ xs.length ≤ 100 ∧
  ∀ (D : Addr) (H1 : Hp), Ex H H1 → H D = none → H1 D = some (.dK (dictOf ns ys)) → Q (.ref D) H1
structure BltZ (mg : Str → Option Value) : Prop where
  zip : mg "zip" = none
section
variable {P : Program} {w : World} {K : PySem.W.Frag} {mg : Str → Option Value} {base : Heap}
theorem scBy : FnScope ["stuffs", "contents", "stuff", "content"] ["stuffs", "contents"] (defScope sBy) := ⟨rfl, rfl, rfl, by decide +kernel, rfl, by decide +kernel, by decide +kernel⟩
theorem ok_by {f : Addr} {fd : FuncData} (F : Fun K "_by_stuff" "_by_stuff" sBy f fd) (Z : BltZ mg) : FnOk P w K mg base CX0 1 f fd ["stuffs", "contents"] spBy := by
  refine F.ok scBy (fun vs H Q E h => ?_) (fun cdv A outer s H vs Q E hr h => ?_)
  · obtain ⟨a, b, xs, ys, ns, rfl, _⟩ := h
    rfl
  · obtain ⟨a, b, xs, ys, ns, rfl, ha, hb, pn, l, le, q⟩ := h
    refine ⟨_, pss_one (ps_ret (pe_dc (own := [("stuff", 2), ("content", 3)]) (g := gTup K 2 (gCons (gName 2) (gCons (gName 3) gNil))) (by rfl) scBy.nd (pi_zipA (by rfl) Z.zip (pa_cons (pv 0) (pa_cons (pv 1) pa_nil))) (blkOk_by (own := [("stuff", 2), ("content", 3)]) (N := ["stuffs", "contents", "stuff", "content"]) (sc := defScope sBy) (by decide +kernel))
      (fun _ _ _ _ _ => pg_tup (by rfl) (pgs_cons (pg_name (i := 2) scBy.nd rfl (Or.inl rfl)) (pgs_cons (pg_name (i := 3) scBy.nd rfl (Or.inl rfl)) pgs_nil))) (fun _ _ _ _ _ => pts_nil)
      (fun _ _ _ _ _ => pe_ix (show IxR _ (rIxT K) from ix_tup) (pv 2) pe_int (fun _ _ => rfl)) (fun _ _ _ _ _ => pv 3))), ?_⟩
    have nl : ns.length = ys.length := by rw [← Paired.size pn, l]
    refine ⟨_, rfl, _, rfl, a, b, xs, ys, rfl, .inr ⟨SqT.of ha, SqT.of hb, fun D hD => dc_it (walk_zt l) (fun n H2 => Ex H H2 ∧ H2 D = some (.dK (mergeK [] ((under ns ys).take n)))) ⟨Ex.refl.new hD, upd_same⟩ (fun i H2 _ h => ⟨SqT.of (h.1 _ _ ha), SqT.of (h.1 _ _ hb)⟩) ?_ ?_⟩⟩
    · rintro i v H2 H3 hi ⟨x2, e2⟩ ⟨T, v1, v2, rfl, nT, rfl, h1, h2⟩
      have h1 : xs[i]? = some v1 := h1
      have h2 : ys[i]? = some v2 := h2
      obtain ⟨n, hn, bb, r, rfl, hbb⟩ := Paired.spot pn h1
      have eT : (upd H2 T (.tup [.ref bb, v2])) T = some (.tup [.ref bb, v2]) := upd_same
      have x3 : Ex H (upd H2 T (.tup [.ref bb, v2])) := x2.new nT
      have e3 : (upd H2 T (.tup [.ref bb, v2])) D = some (.dK (mergeK [] ((under ns ys).take i))) := by
        rw [upd_ne (ne_of_none e2 nT)]
        exact e2
      refine ⟨T, _, rfl, SqT.of eT, rfl, _, _, rfl, _, _, rfl, rfl, rfl, ?_⟩
      refine ⟨_, rfl, bb, _, 0, .str n, rfl, rfl, SqT.of (x3 _ _ hbb), atI_nat (j := 0) rfl, _, rfl, _, .inr n, rfl, e3, ?_, x3.put hD, ?_⟩
      · have m := merge_len (more := (under ns ys).take i) (kvs := [])
        rw [List.length_take, List.length_nil] at m
        rw [sizeLine_eq]
        omega
      · rw [upd_same, List.take_succ, under_at hn h2]
        show _ = some (HO.dK (mergeK [] ((under ns ys).take i ++ [(.inr n, v2)])))
        rw [merge_snoc]
    · rintro H2 ⟨x2, e2⟩
      rw [List.take_of_length_le (by rw [under_len nl, l]; exact Nat.le_refl _)] at e2
      exact q D H2 x2 hD e2
end
end LJ
set_option Elab.async false
set_option linter.all false
set_option maxRecDepth 100000
set_option maxHeartbeats 8000000
namespace LJ
open PySem PySem.Spec L2
abbrev sLine : Stmt := top 34
/-- a number's digits -/
def num (i : Int) : Str := Str.ofString (toString i)
theorem num_len {i : Int} (h0 : 0 ≤ i) (h1 : i ≤ 1000000000000) : (num i).length ≤ 14 := by
  unfold num
  rw [ofString_length]
  exact int_text_length_le10 (k := 13) (by decide) (by have : (10 : Nat) ^ 13 = 10000000000000 := by decide
                                                       omega)
theorem num_log {i : Int} (h0 : 0 ≤ i) (h1 : i ≤ 1000000000000) : i.natAbs.log2 < 1920 := by
  by_cases z : i.natAbs = 0
  · rw [z]
    decide
  · have l : i.natAbs < 2 ^ 40 := by
      have : (2 : Nat) ^ 40 = 1099511627776 := by decide
      omega
    have := (Nat.log2_lt z).mpr l
    omega
def bline (b : Int × Int) : Str := Str.empty ++ Str.ofString " " ++ num b.1 ++ Str.ofString "-" ++ num b.2
def pline (n : Str) (bs : List (Int × Int)) : Str := (Str.empty ++ Str.ofString "product " ++ n) ++ Txt.join (Str.ofString "") (bs.map bline)
def Small (b : Int × Int) : Prop := 0 ≤ b.1 ∧ b.1 ≤ b.2 ∧ b.2 ≤ 1000000000000
theorem bl_len {b : Int × Int} (h : Small b) : (bline b).length ≤ 30 := by
  obtain ⟨s1, s2, s3⟩ := h
  have l1 := num_len s1 (Int.le_trans s2 s3)
  have l2 := num_len (Int.le_trans s1 s2) s3
  unfold bline
  rw [Str.length_append, Str.length_append, Str.length_append, Str.length_append, show Str.empty.length = 0 from rfl, show (Str.ofString " ").length = 1 by decide +kernel, show (Str.ofString "-").length = 1 by decide +kernel]
  omega
theorem sum_most {α : Type} {f : α → Nat} {B : Nat} : ∀ {xs : List α}, (∀ x ∈ xs, f x ≤ B) → (xs.map f).sum ≤ xs.length * B
  | [], _ => Nat.zero_le _
  | x :: xs, h => by
    have h1 := h x (List.mem_cons_self ..)
    have h2 := sum_most (B := B) fun y hy => h y (List.mem_cons_of_mem _ hy)
    rw [List.map_cons, List.sum_cons, List.length_cons, Nat.add_mul]
    omega
theorem blines_sum {bs : List (Int × Int)} (h : ∀ r ∈ bs, Small r) : ((bs.map bline).map (·.length)).sum ≤ bs.length * 30 := by
  rw [List.map_map]
  exact sum_most fun x hx => bl_len (h x hx)
theorem join_len {sep : Str} {ys : List Str} : (Txt.join sep ys).length = (ys.map (·.length)).sum + (ys.length - 1) * sep.length := size_glued sep ys
theorem pline_len {n : Str} {bs : List (Int × Int)} (hn : n.length ≤ 8) (hb : bs.length ≤ 10) (h : ∀ r ∈ bs, Small r) : (pline n bs).length ≤ 316 := by
  have s1 := blines_sum h
  unfold pline
  rw [Str.length_append, Str.length_append, join_len, show (Str.ofString "").length = 0 from rfl, Nat.mul_zero, Str.length_append, show Str.empty.length = 0 from rfl, show (Str.ofString "product ").length = 8 by decide +kernel]
  omega
def spLine : Sp := fun vs H Q _ => ∃ (n : Str) (b : Addr) (ys : List V) (bs : List (Int × Int)), vs = [.str n, .ref b] ∧ n.length ≤ 8 ∧ H b = some (.tup ys) ∧ Paired (Bnd H) ys bs ∧ (∀ r ∈ bs, Small r) ∧ bs.length ≤ 10 ∧ ∀ H1, Ex H H1 → Q (.str (pline n bs)) H1
section
variable {P : Program} {w : World} {K : PySem.W.Frag} {mg : Str → Option Value} {base : Heap}
theorem scLine : FnScope ["name", "contents", "low", "high"] ["name", "contents"] (defScope sLine) := ⟨rfl, rfl, rfl, by decide +kernel, rfl, by decide +kernel, by decide +kernel⟩
theorem ok_line {f : Addr} {fd : FuncData} (F : Fun K "_product_line" "_product_line" sLine f fd) : FnOk P w K mg base CX0 1 f fd ["name", "contents"] spLine := by
  refine F.ok scLine (fun vs H Q E h => ?_) (fun cdv A outer s H vs Q E hr h => ?_)
  · obtain ⟨n, b, ys, bs, rfl, _⟩ := h
    rfl
  · obtain ⟨n, b, ys, bs, rfl, nl, hb, pb, sm, bl, q⟩ := h
    refine ⟨_, pss_one (ps_ret (pe_op op_add_str (pe_joined (.cons pe_str (.cons (pe_fmt (pv 0)) .nil)))
      (pe_join pe_str (pe_lc (own := [("low", 2), ("high", 3)]) (g := gTup K 2 (gCons (gName 2) (gCons (gName 3) gNil))) (by rfl) scLine.nd (pi_tup (pv 1)) (blkOk_by (own := [("low", 2), ("high", 3)]) (N := ["name", "contents", "low", "high"]) (sc := defScope sLine) (by decide +kernel))
        (fun _ _ _ _ _ => pg_tup (by rfl) (pgs_cons (pg_name (i := 2) scLine.nd rfl (Or.inl rfl)) (pgs_cons (pg_name (i := 3) scLine.nd rfl (Or.inl rfl)) pgs_nil))) (fun _ _ _ _ _ => pts_nil)
        (fun _ _ _ _ _ => pe_joined (.cons pe_str (.cons (pe_fmt (pv 2)) (.cons pe_str (.cons (pe_fmt (pv 3)) .nil)))))))))  , ?_⟩
    have yl : ys.length = bs.length := Paired.size pb
    have sz : sizeLine = 16777216 := sizeLine_eq
    have hl : (Str.empty ++ Str.ofString "product ").length = 8 := by decide +kernel
    have hl2 : (Str.empty ++ Str.ofString "product " ++ n).length ≤ 16 := by
      rw [Str.length_append, hl]
      omega
    refine ⟨_, rfl, by rw [hl, sz]; decide, _, rfl, .inl ⟨n, rfl, by omega, n, rfl, by omega, ?_⟩⟩
    refine ⟨⟨_, rfl⟩, _, rfl, b, rfl, ⟨ys, SqT.of hb⟩, fun D hD => lc_it (te := fun σ H Q => tJs [tC (.str (Str.ofString " ")), tFmt (tVar 2), tC (.str (Str.ofString "-")), tFmt (tVar 3)] Str.empty σ H fun out H1 => Q (.str out) H1) walk_tup (fun i H2 => Ex H H2 ∧ H2 D = some (.lst (((bs.take i).map bline).map V.str))) ⟨Ex.refl.new hD, upd_same⟩ (fun i H2 _ h => SqT.of (h.1 _ _ hb)) ?_ ?_⟩
    · rintro i v _ H2 hi ⟨x2, e2⟩ ⟨rfl, hv⟩
      obtain ⟨⟨lo, hi2⟩, hr, a, rfl, ha⟩ := Paired.spot pb hv
      obtain ⟨s1, s2, s3⟩ := sm _ (List.mem_of_getElem? hr)
      have s1 : 0 ≤ lo := s1
      have s2 : lo ≤ hi2 := s2
      have s3 : hi2 ≤ 1000000000000 := s3
      have l1 := num_len s1 (Int.le_trans s2 s3)
      have l2 := num_len (Int.le_trans s1 s2) s3
      have k1 : (Str.empty ++ Str.ofString " ").length = 1 := by decide +kernel
      have k2 : (Str.empty ++ Str.ofString " " ++ num lo).length ≤ 15 := by
        rw [Str.length_append, k1]
        omega
      have k3 : (Str.empty ++ Str.ofString " " ++ num lo ++ Str.ofString "-").length ≤ 16 := by
        rw [Str.length_append, show (Str.ofString "-").length = 1 by decide +kernel]
        omega
      have k4 : (bline (lo, hi2)).length ≤ 30 := by
        show (Str.empty ++ Str.ofString " " ++ num lo ++ Str.ofString "-" ++ num hi2).length ≤ 30
        rw [Str.length_append]
        omega
      refine ⟨_, _, rfl, SqT.of (x2 _ _ ha), rfl, _, _, rfl, _, _, rfl, rfl, rfl, ?_⟩
      refine ⟨_, rfl, by omega, _, rfl, .inr ⟨lo, rfl, num_log s1 (Int.le_trans s2 s3), num lo, rfl, by omega, _, rfl, by omega, _, rfl, .inr ⟨hi2, rfl, num_log (Int.le_trans s1 s2) s3, num hi2, rfl, ?_, ?_⟩⟩⟩
      · exact Nat.le_trans k4 (by omega)
      · refine ⟨_, e2, ?_, x2.put hD, ?_⟩
        · rw [List.length_map, List.length_map, List.length_take]
          omega
        · rw [upd_same, List.take_succ, hr, List.map_append, List.map_append]
          rfl
    · rintro H2 ⟨x2, e2⟩
      rw [List.take_of_length_le (by omega)] at e2
      refine ⟨_, D, bs.map bline, rfl, rfl, .inl (SqL.of e2), ?_, _, _, rfl, rfl, ?_, q H2 x2⟩
      · have s1 := blines_sum sm
        rw [show (Str.ofString "").length = 0 from rfl, Nat.mul_zero]
        omega
      · have l := pline_len nl bl sm
        unfold pline at l
        rw [Str.length_append] at l
        omega
end
end LJ
set_option Elab.async false
set_option linter.all false
set_option maxRecDepth 100000
set_option maxHeartbeats 8000000
namespace LJ
open PySem PySem.Spec L2
abbrev sText : Stmt := top 33
abbrev nText : List Str := ["machines", "cleanings", "stuffs", "products", "lines", "name", "low", "high", "most", "contents"]
abbrev sp1 : Str := Str.ofString " "
def line3 (pre : Str) (r : Str × Int × Int) : Str := Str.empty ++ pre ++ r.1 ++ sp1 ++ num r.2.1 ++ sp1 ++ num r.2.2
def line2 (pre : Str) (r : Str × Int) : Str := Str.empty ++ pre ++ r.1 ++ sp1 ++ num r.2
def Fit3 (r : Str × Int × Int) : Prop := r.1.length ≤ 8 ∧ 0 ≤ r.2.1 ∧ r.2.1 ≤ r.2.2 ∧ r.2.2 ≤ 1000000000000
def Fit2 (r : Str × Int) : Prop := r.1.length ≤ 8 ∧ 0 ≤ r.2 ∧ r.2 ≤ 1000000000000
theorem sp1_len : sp1.length = 1 := by decide +kernel
theorem empty_len : Str.empty.length = 0 := rfl
theorem rd3 {pre n : Str} {lo hi : Int} {σ : St} {H : Hp} {Q : Str → Hp → Prop} (h5 : σ[5]? = some (some (.str n))) (h6 : σ[6]? = some (some (.int lo))) (h7 : σ[7]? = some (some (.int hi))) (pl : pre.length ≤ 20) (f : Fit3 (n, lo, hi)) (q : (line3 pre (n, lo, hi)).length ≤ 80 → Q (line3 pre (n, lo, hi)) H) :
    tJs [tC (.str pre), tFmt (tVar 5), tC (.str sp1), tFmt (tVar 6), tC (.str sp1), tFmt (tVar 7)] Str.empty σ H Q := by
  obtain ⟨f1, f2, f3, f4⟩ := f
  have f1 : n.length ≤ 8 := f1
  have f2 : 0 ≤ lo := f2
  have f3 : lo ≤ hi := f3
  have f4 : hi ≤ 1000000000000 := f4
  have l1 := num_len f2 (Int.le_trans f3 f4)
  have l2 := num_len (Int.le_trans f2 f3) f4
  have sz := sizeLine_eq
  have k1 : (Str.empty ++ pre).length ≤ 20 := by
    rw [Str.length_append, empty_len]
    omega
  have k2 : (Str.empty ++ pre ++ n).length ≤ 28 := by
    rw [Str.length_append]
    omega
  have k3 : (Str.empty ++ pre ++ n ++ sp1).length ≤ 29 := by
    rw [Str.length_append, sp1_len]
    omega
  have k4 : (Str.empty ++ pre ++ n ++ sp1 ++ num lo).length ≤ 43 := by
    rw [Str.length_append]
    omega
  have k5 : (Str.empty ++ pre ++ n ++ sp1 ++ num lo ++ sp1).length ≤ 44 := by
    rw [Str.length_append, sp1_len]
    omega
  have k6 : (Str.empty ++ pre ++ n ++ sp1 ++ num lo ++ sp1 ++ num hi).length ≤ 58 := by
    rw [Str.length_append]
    omega
  have b : ∀ {m : Nat}, m ≤ 80 → m ≤ sizeLine := fun h => by omega
  exact ⟨_, rfl, b (by omega), _, h5, .inl ⟨n, rfl, b (by omega), n, rfl, b (by omega), _, rfl, b (by omega), _, h6, .inr ⟨lo, rfl, num_log f2 (Int.le_trans f3 f4), num lo, rfl, b (by omega), _, rfl, b (by omega), _, h7, .inr ⟨hi, rfl, num_log (Int.le_trans f2 f3) f4, num hi, rfl, b (Nat.le_trans k6 (by omega)), q (Nat.le_trans k6 (by omega))⟩⟩⟩⟩
theorem rd2 {pre n : Str} {m : Int} {σ : St} {H : Hp} {Q : Str → Hp → Prop} (h5 : σ[5]? = some (some (.str n))) (h8 : σ[8]? = some (some (.int m))) (pl : pre.length ≤ 20) (f : Fit2 (n, m)) (q : Q (line2 pre (n, m)) H) :
    tJs [tC (.str pre), tFmt (tVar 5), tC (.str sp1), tFmt (tVar 8)] Str.empty σ H Q := by
  obtain ⟨f1, f2, f4⟩ := f
  have f1 : n.length ≤ 8 := f1
  have f2 : 0 ≤ m := f2
  have f4 : m ≤ 1000000000000 := f4
  have l1 := num_len f2 f4
  have sz := sizeLine_eq
  have k1 : (Str.empty ++ pre).length ≤ 20 := by
    rw [Str.length_append, empty_len]
    omega
  have k2 : (Str.empty ++ pre ++ n).length ≤ 28 := by
    rw [Str.length_append]
    omega
  have k3 : (Str.empty ++ pre ++ n ++ sp1).length ≤ 29 := by
    rw [Str.length_append, sp1_len]
    omega
  have k4 : (Str.empty ++ pre ++ n ++ sp1 ++ num m).length ≤ 43 := by
    rw [Str.length_append]
    omega
  have b : ∀ {m : Nat}, m ≤ 80 → m ≤ sizeLine := fun h => by omega
  exact ⟨_, rfl, b (by omega), _, h5, .inl ⟨n, rfl, b (by omega), n, rfl, b (by omega), _, rfl, b (by omega), _, h8, .inr ⟨m, rfl, num_log f2 f4, num m, rfl, b (Nat.le_trans k4 (by omega)), q⟩⟩⟩
theorem line3_len {pre : Str} {r : Str × Int × Int} (pl : pre.length ≤ 20) (f : Fit3 r) : (line3 pre r).length ≤ 400 := by
  obtain ⟨f1, f2, f3, f4⟩ := f
  have l1 := num_len f2 (Int.le_trans f3 f4)
  have l2 := num_len (Int.le_trans f2 f3) f4
  unfold line3
  rw [Str.length_append, Str.length_append, Str.length_append, Str.length_append, Str.length_append, Str.length_append, empty_len, sp1_len]
  omega
theorem line2_len {pre : Str} {r : Str × Int} (pl : pre.length ≤ 20) (f : Fit2 r) : (line2 pre r).length ≤ 400 := by
  obtain ⟨f1, f2, f4⟩ := f
  have l1 := num_len f2 f4
  unfold line2
  rw [Str.length_append, Str.length_append, Str.length_append, Str.length_append, empty_len, sp1_len]
  omega
def wlines (W : Wd) : List Str := W.ms.map (line3 (Str.ofString "machine ")) ++ W.cs.map (line3 (Str.ofString "cleaning ")) ++ W.ss.map (line2 (Str.ofString "stuff ")) ++ W.ps.map fun p => pline p.1 p.2
def wtext (W : Wd) : Str := Txt.join (Str.ofString "\n") (wlines W)
/-- works small enough to be told in a text -/
structure Told (W : Wd) : Prop where
  lm : W.ms.length ≤ 10
  lc : W.cs.length ≤ 10
  ls : W.ss.length ≤ 10
  lp : W.ps.length ≤ 10
  fm : ∀ r ∈ W.ms, Fit3 r
  fc : ∀ r ∈ W.cs, Fit3 r
  fs : ∀ r ∈ W.ss, Fit2 r
  fp : ∀ r ∈ W.ps, r.1.length ≤ 8 ∧ r.2.length ≤ 10 ∧ ∀ b ∈ r.2, Small b
def spText : Sp := fun vs H Q _ => ∃ (am ac as ap : Addr) (vm vc vs2 vp : List V) (W : Wd), vs = [.ref am, .ref ac, .ref as, .ref ap] ∧ H am = some (.tup vm) ∧ H ac = some (.tup vc) ∧ H as = some (.tup vs2) ∧ H ap = some (.tup vp) ∧
  Paired (Row3 H) vm W.ms ∧ Paired (Row3 H) vc W.cs ∧ Paired (Row2 H) vs2 W.ss ∧ Paired (RowP H) vp W.ps ∧ Told W ∧ ∀ H1, Ex H H1 → Q (.str (wtext W)) H1
section
variable {P : Program} {w : World} {K : PySem.W.Frag} {mg : Str → Option Value} {base : Heap}
theorem scText : FnScope nText ["machines", "cleanings", "stuffs", "products"] (defScope sText) := ⟨rfl, rfl, rfl, by decide +kernel, rfl, by decide +kernel, by decide +kernel⟩
theorem ok_text {f fP : Addr} {fd fdP : FuncData} (F : Fun K "_text_of" "_text_of" sText f fd) (GP : FnOk P w K mg base CX0 1 fP fdP ["name", "contents"] spLine) (mP : mg "_product_line" = some (.ref fP)) (kP : PySem.W.keepIn K (.ref fP) = true) (bP : Binds K fdP ["name", "contents"] []) :
    FnOk P w K mg base CX0 2 f fd ["machines", "cleanings", "stuffs", "products"] spText := by
  refine F.ok scText (fun vs H Q E h => ?_) (fun cdv A outer s H vs Q E hr h => ?_)
  · obtain ⟨am, ac, as, ap, vm, vc, vs2, vp, W, rfl, _⟩ := h
    rfl
  · obtain ⟨am, ac, as, ap, vm, vc, vs2, vp, W, rfl, hm, hc, hs, hp, pm, pc, ps, pp, T, q⟩ := h
    refine ⟨_, pss_cons (ps_setLc (i := 4) (own := [("name", 5), ("low", 6), ("high", 7)]) (g := gTup K 3 (gCons (gName 5) (gCons (gName 6) (gCons (gName 7) gNil)))) (by rfl) scText.nd rfl rfl (sw_true rfl rfl rfl (by decide +kernel)) (pi_tup (pv 0)) (blkOk_by (own := [("name", 5), ("low", 6), ("high", 7)]) (N := nText) (sc := defScope sText) (by decide +kernel))
        (fun _ _ _ _ _ => pg_tup (by rfl) (pgs_cons (pg_name (i := 5) scText.nd rfl (Or.inl rfl)) (pgs_cons (pg_name (i := 6) scText.nd rfl (Or.inl rfl)) (pgs_cons (pg_name (i := 7) scText.nd rfl (Or.inl rfl)) pgs_nil)))) (fun _ _ _ _ _ => pts_nil)
        (fun _ _ _ _ _ => pe_joined (.cons pe_str (.cons (pe_fmt (pv 5)) (.cons pe_str (.cons (pe_fmt (pv 6)) (.cons pe_str (.cons (pe_fmt (pv 7)) .nil))))))))
      (pss_cons (ps_expr (pe_bm PySem.F.plainAttrs_list PySem.F.slot_list_extend PySem.F.type_list_extend mt_extend (pv 4) (pa_cons (pe_lc (own := [("name", 5), ("low", 6), ("high", 7)]) (g := gTup K 3 (gCons (gName 5) (gCons (gName 6) (gCons (gName 7) gNil)))) (by rfl) scText.nd (pi_tup (pv 1)) (blkOk_by (own := [("name", 5), ("low", 6), ("high", 7)]) (N := nText) (sc := defScope sText) (by decide +kernel))
        (fun _ _ _ _ _ => pg_tup (by rfl) (pgs_cons (pg_name (i := 5) scText.nd rfl (Or.inl rfl)) (pgs_cons (pg_name (i := 6) scText.nd rfl (Or.inl rfl)) (pgs_cons (pg_name (i := 7) scText.nd rfl (Or.inl rfl)) pgs_nil)))) (fun _ _ _ _ _ => pts_nil)
        (fun _ _ _ _ _ => pe_joined (.cons pe_str (.cons (pe_fmt (pv 5)) (.cons pe_str (.cons (pe_fmt (pv 6)) (.cons pe_str (.cons (pe_fmt (pv 7)) .nil)))))))) pa_nil)))
      (pss_cons (ps_expr (pe_bm PySem.F.plainAttrs_list PySem.F.slot_list_extend PySem.F.type_list_extend mt_extend (pv 4) (pa_cons (pe_lc (own := [("name", 5), ("most", 8)]) (g := gTup K 2 (gCons (gName 5) (gCons (gName 8) gNil))) (by rfl) scText.nd (pi_tup (pv 2)) (blkOk_by (own := [("name", 5), ("most", 8)]) (N := nText) (sc := defScope sText) (by decide +kernel))
        (fun _ _ _ _ _ => pg_tup (by rfl) (pgs_cons (pg_name (i := 5) scText.nd rfl (Or.inl rfl)) (pgs_cons (pg_name (i := 8) scText.nd rfl (Or.inl rfl)) pgs_nil))) (fun _ _ _ _ _ => pts_nil)
        (fun _ _ _ _ _ => pe_joined (.cons pe_str (.cons (pe_fmt (pv 5)) (.cons pe_str (.cons (pe_fmt (pv 8)) .nil)))))) pa_nil)))
      (pss_cons (ps_expr (pe_bm PySem.F.plainAttrs_list PySem.F.slot_list_extend PySem.F.type_list_extend mt_extend (pv 4) (pa_cons (pe_lc (own := [("name", 5), ("contents", 9)]) (g := gTup K 2 (gCons (gName 5) (gCons (gName 9) gNil))) (by rfl) scText.nd (pi_tup (pv 3)) (blkOk_by (own := [("name", 5), ("contents", 9)]) (N := nText) (sc := defScope sText) (by decide +kernel))
        (fun _ _ _ _ _ => pg_tup (by rfl) (pgs_cons (pg_name (i := 5) scText.nd rfl (Or.inl rfl)) (pgs_cons (pg_name (i := 9) scText.nd rfl (Or.inl rfl)) pgs_nil))) (fun _ _ _ _ _ => pts_nil)
        (fun _ _ _ _ _ => pe_call GP hr (by rfl) mP kP bP .nil pass0 (pa_cons (pv 5) (pa_cons (pv 9) pa_nil)))) pa_nil)))
      (pss_one (ps_ret (pe_join pe_str (pv 4))))))), ?_⟩
    have sz := sizeLine_eq
    obtain ⟨t1, t2, t3, t4, f1, f2, f3, f4⟩ := T
    have n1 : vm.length = W.ms.length := Paired.size pm
    have n2 : vc.length = W.cs.length := Paired.size pc
    have n3 : vs2.length = W.ss.length := Paired.size ps
    have n4 : vp.length = W.ps.length := Paired.size pp
    refine ⟨_, rfl, am, rfl, ⟨vm, SqT.of hm⟩, fun D hD => lc_it (te := fun σ H Q => tJs [tC (.str (Str.ofString "machine ")), tFmt (tVar 5), tC (.str sp1), tFmt (tVar 6), tC (.str sp1), tFmt (tVar 7)] Str.empty σ H fun out H1 => Q (.str out) H1) walk_tup (fun i G => Ex H G ∧ G D = some (.lst (((W.ms.take i).map (line3 (Str.ofString "machine "))).map V.str))) ⟨Ex.refl.new hD, upd_same⟩ (fun i G _ h => SqT.of (h.1 _ _ hm)) ?_ ?_⟩
    · rintro i v _ G hi ⟨xG, eG⟩ ⟨rfl, hv⟩
      obtain ⟨⟨n, lo, up⟩, hr, a, rfl, ha⟩ := Paired.spot pm hv
      have f := f1 _ (List.mem_of_getElem? hr)
      have e : G a = some (.tup [.str n, .int lo, .int up]) := xG _ _ (Ex.refl _ _ ha)
      refine ⟨a, _, rfl, SqT.of e, rfl, _, _, rfl, _, _, rfl, _, _, rfl, rfl, rfl, ?_⟩
      refine rd3 rfl rfl rfl (by decide +kernel) f fun _ => ⟨_, eG, ?_, xG.put hD, ?_⟩
      · rw [List.length_map, List.length_map, List.length_take]
        omega
      · rw [upd_same, List.take_succ, hr, List.map_append, List.map_append]
        rfl
    rintro H1 ⟨x1, e1⟩
    rw [List.take_of_length_le (by omega)] at e1
    generalize hls1 : W.ms.map (line3 (Str.ofString "machine ")) = ls1 at e1
    have k1 : ls1.length ≤ 10 := by
      rw [← hls1, List.length_map]
      exact t1
    have nD := hD
    clear hD
    refine ⟨_, rfl, .inl ⟨rfl, _, SqL.of e1⟩, _, rfl, ac, rfl, ⟨vc, SqT.of (x1 _ _ hc)⟩, fun D2 hD => lc_it (te := fun σ H Q => tJs [tC (.str (Str.ofString "cleaning ")), tFmt (tVar 5), tC (.str sp1), tFmt (tVar 6), tC (.str sp1), tFmt (tVar 7)] Str.empty σ H fun out H1 => Q (.str out) H1) walk_tup (fun i G => Ex H1 G ∧ G D2 = some (.lst (((W.cs.take i).map (line3 (Str.ofString "cleaning "))).map V.str))) ⟨Ex.refl.new hD, upd_same⟩ (fun i G _ h => SqT.of (h.1 _ _ (x1 _ _ hc))) ?_ ?_⟩
    · rintro i v _ G hi ⟨xG, eG⟩ ⟨rfl, hv⟩
      obtain ⟨⟨n, lo, up⟩, hr, a, rfl, ha⟩ := Paired.spot pc hv
      have f := f2 _ (List.mem_of_getElem? hr)
      have e : G a = some (.tup [.str n, .int lo, .int up]) := xG _ _ (x1 _ _ ha)
      refine ⟨a, _, rfl, SqT.of e, rfl, _, _, rfl, _, _, rfl, _, _, rfl, rfl, rfl, ?_⟩
      refine rd3 rfl rfl rfl (by decide +kernel) f fun _ => ⟨_, eG, ?_, xG.put hD, ?_⟩
      · rw [List.length_map, List.length_map, List.length_take]
        omega
      · rw [upd_same, List.take_succ, hr, List.map_append, List.map_append]
        rfl
    rintro H2 ⟨x2, e2⟩
    rw [List.take_of_length_le (by omega)] at e2
    generalize hls2 : W.cs.map (line3 (Str.ofString "cleaning ")) = ls2 at e2
    have k2 : ls2.length ≤ 10 := by
      rw [← hls2, List.length_map]
      exact t2
    refine ⟨D, D2, _, _, rfl, rfl, x2 _ _ e1, e2, by rw [List.length_map, List.length_map]; omega, ?_⟩
    rw [← List.map_append]
    have x3 : Ex H (upd H2 D (.lst ((ls1 ++ ls2).map V.str))) := (x1.trans x2).put nD
    have e3 : (upd H2 D (.lst ((ls1 ++ ls2).map V.str))) D = some (.lst ((ls1 ++ ls2).map V.str)) := upd_same
    clear hD e2
    generalize upd H2 D (.lst ((ls1 ++ ls2).map V.str)) = H3 at x3 e3 ⊢
    refine ⟨_, rfl, .inl ⟨rfl, _, SqL.of e3⟩, _, rfl, as, rfl, ⟨vs2, SqT.of (x3 _ _ hs)⟩, fun D3 hD => lc_it (te := fun σ H Q => tJs [tC (.str (Str.ofString "stuff ")), tFmt (tVar 5), tC (.str sp1), tFmt (tVar 8)] Str.empty σ H fun out H1 => Q (.str out) H1) walk_tup (fun i G => Ex H3 G ∧ G D3 = some (.lst (((W.ss.take i).map (line2 (Str.ofString "stuff "))).map V.str))) ⟨Ex.refl.new hD, upd_same⟩ (fun i G _ h => SqT.of (h.1 _ _ (x3 _ _ hs))) ?_ ?_⟩
    · rintro i v _ G hi ⟨xG, eG⟩ ⟨rfl, hv⟩
      obtain ⟨⟨n, m⟩, hr, a, rfl, ha⟩ := Paired.spot ps hv
      have f := f3 _ (List.mem_of_getElem? hr)
      have e : G a = some (.tup [.str n, .int m]) := xG _ _ (x3 _ _ ha)
      refine ⟨a, _, rfl, SqT.of e, rfl, _, _, rfl, _, _, rfl, rfl, rfl, ?_⟩
      refine rd2 rfl rfl (by decide +kernel) f ⟨_, eG, ?_, xG.put hD, ?_⟩
      · rw [List.length_map, List.length_map, List.length_take]
        omega
      · rw [upd_same, List.take_succ, hr, List.map_append, List.map_append]
        rfl
    rintro H4 ⟨x4, e4⟩
    rw [List.take_of_length_le (by omega)] at e4
    generalize hls3 : W.ss.map (line2 (Str.ofString "stuff ")) = ls3 at e4
    have k3 : ls3.length ≤ 10 := by
      rw [← hls3, List.length_map]
      exact t3
    refine ⟨D, D3, _, _, rfl, rfl, x4 _ _ e3, e4, by rw [List.length_map, List.length_map, List.length_append]; omega, ?_⟩
    rw [← List.map_append]
    have x5 : Ex H (upd H4 D (.lst ((ls1 ++ ls2 ++ ls3).map V.str))) := (x3.trans x4).put nD
    have e5 : (upd H4 D (.lst ((ls1 ++ ls2 ++ ls3).map V.str))) D = some (.lst ((ls1 ++ ls2 ++ ls3).map V.str)) := upd_same
    clear hD e4
    generalize upd H4 D (.lst ((ls1 ++ ls2 ++ ls3).map V.str)) = H5 at x5 e5 ⊢
    refine ⟨_, rfl, .inl ⟨rfl, _, SqL.of e5⟩, _, rfl, ap, rfl, ⟨vp, SqT.of (x5 _ _ hp)⟩, fun D4 hD => lc_it walk_tup (fun i G => Ex H5 G ∧ G D4 = some (.lst (((W.ps.take i).map fun p => pline p.1 p.2).map V.str))) ⟨Ex.refl.new hD, upd_same⟩ (fun i G _ h => SqT.of (h.1 _ _ (x5 _ _ hp))) ?_ ?_⟩
    · rintro i v _ G hi ⟨xG, eG⟩ ⟨rfl, hv⟩
      obtain ⟨⟨n, bs⟩, hr, a, t, vb, rfl, ha, ht, pb⟩ := Paired.spot pp hv
      obtain ⟨g1, g2, g3⟩ := f4 _ (List.mem_of_getElem? hr)
      have xx := x5.trans xG
      refine ⟨a, _, rfl, SqT.of (xx _ _ ha), rfl, _, _, rfl, _, _, rfl, rfl, rfl, ?_⟩
      refine ⟨_, rfl, _, rfl, n, t, vb, bs, rfl, g1, xx _ _ ht, L2.Paired.mapP pb fun x y z => Bnd.seq (fun b xs e => xx b _ e) z, g3, g2, fun G2 xG2 => ⟨_, xG2 _ _ eG, ?_, (xG.trans xG2).put hD, ?_⟩⟩
      · rw [List.length_map, List.length_map, List.length_take]
        omega
      · rw [upd_same, List.take_succ, hr, List.map_append, List.map_append]
        rfl
    rintro H6 ⟨x6, e6⟩
    rw [List.take_of_length_le (by omega)] at e6
    refine ⟨D, D4, _, _, rfl, rfl, x6 _ _ e5, e6, by rw [List.length_map, List.length_map, List.length_map, List.length_append, List.length_append]; omega, ?_⟩
    rw [← List.map_append]
    have x7 : Ex H (upd H6 D (.lst ((ls1 ++ ls2 ++ ls3 ++ W.ps.map fun p => pline p.1 p.2).map V.str))) := (x5.trans x6).put nD
    refine ⟨⟨_, rfl⟩, _, rfl, _, D, ls1 ++ ls2 ++ ls3 ++ W.ps.map fun p => pline p.1 p.2, rfl, rfl, .inl (SqL.of upd_same), ?_, ?_⟩
    · have most : ∀ x ∈ ls1 ++ ls2 ++ ls3 ++ W.ps.map fun p => pline p.1 p.2, x.length ≤ 400 := fun x hx => by
        rcases List.mem_append.mp hx with h | h
        · rcases List.mem_append.mp h with h | h
          · rcases List.mem_append.mp h with h | h
            · rw [← hls1] at h
              obtain ⟨r, hr, rfl⟩ := List.mem_map.mp h
              exact line3_len (by decide +kernel) (f1 r hr)
            · rw [← hls2] at h
              obtain ⟨r, hr, rfl⟩ := List.mem_map.mp h
              exact line3_len (by decide +kernel) (f2 r hr)
          · rw [← hls3] at h
            obtain ⟨r, hr, rfl⟩ := List.mem_map.mp h
            exact line2_len (by decide +kernel) (f3 r hr)
        · obtain ⟨r, hr, rfl⟩ := List.mem_map.mp h
          obtain ⟨g1, g2, g3⟩ := f4 r hr
          exact Nat.le_trans (pline_len g1 g2 g3) (by decide)
      have sm := sum_most (f := fun x : Str => x.length) most
      have ll : (ls1 ++ ls2 ++ ls3 ++ W.ps.map fun p => pline p.1 p.2).length ≤ 40 := by
        rw [List.length_append, List.length_append, List.length_append, List.length_map]
        omega
      rw [show (Str.ofString "\n").length = 1 by decide +kernel]
      have sm : ((ls1 ++ ls2 ++ ls3 ++ W.ps.map fun p => pline p.1 p.2).map fun x => x.length).sum ≤ (ls1 ++ ls2 ++ ls3 ++ W.ps.map fun p => pline p.1 p.2).length * 400 := sm
      omega
    · have z := q _ x7
      unfold wtext wlines at z
      rw [hls1, hls2, hls3] at z
      exact z
end
end LJ
set_option Elab.async false
set_option linter.all false
set_option maxRecDepth 100000
set_option maxHeartbeats 8000000
namespace LJ
open PySem PySem.Spec L2
open LamX (ExtN TabB)
open NdefX (NTab TabsN)
def clsBody : Stmt → List Stmt
  | .ClassDef (body := b) .. => b
  | _ => []
def meth (i : Nat) : Stmt := (clsBody (top 23)).getD i (.Pass ⟨0, 0, 0, 0⟩)
abbrev sInit : Stmt := meth 0
abbrev nInit : List Str := ["self", "machines", "cleanings", "stuffs", "products", "name", "low", "high", "most", "contents"]
abbrev pInit : List Str := ["self", "machines", "cleanings", "stuffs", "products"]
/-- Works' own class -/
structure WCls (K : PySem.W.Frag) (C : Addr) : Prop where
  cl : Cls K C
  n1 : NoAttr K C "_machines"
  n2 : NoAttr K C "_cleanings"
  n3 : NoAttr K C "_stuffs"
  n4 : NoAttr K C "_products"
  n5 : NoAttr K C "_holds"
  n6 : NoAttr K C "_keeps"
  n7 : NoAttr K C "_limits"
  n8 : NoAttr K C "_contents"
  n9 : NoAttr K C "_text"
section
variable {P : Program} {w : World} {K : PySem.W.Frag} {mg : Str → Option Value} {base : Heap}
theorem scInit : FnScope nInit pInit (defScope sInit) := ⟨rfl, rfl, rfl, by decide +kernel, rfl, by decide +kernel, by decide +kernel⟩
/-- one name more -/
theorem under_snoc {ns : List Str} {vals : List V} {i : Nat} {n : Str} {v : V} (h : ns[i]? = some n) (l : vals.length = i) : under (ns.take (i + 1)) (vals ++ [v]) = under (ns.take i) vals ++ [(.inr n, v)] := by
  have li : i < ns.length := (List.getElem?_eq_some_iff.mp h).1
  unfold under
  rw [List.take_succ, h]
  show ((ns.take i ++ [n]).zip (vals ++ [v])).map _ = _
  rw [List.zip_append (by rw [List.length_take, l]; omega), List.map_append]
  rfl
/-- what a made object of Works holds -/
def WorksAt (C : Addr) (H : Hp) (x am ac as ap : Addr) (W : Wd) : Prop := ∃ (dx D1 D2 D3 D4 : Addr) (b1 b2 v4 : List V),
  H x = some (.ins C dx [("_machines", .ref am), ("_cleanings", .ref ac), ("_stuffs", .ref as), ("_products", .ref ap), ("_holds", .ref D1), ("_keeps", .ref D2), ("_limits", .ref D3), ("_contents", .ref D4), ("_text", .str (wtext W))]) ∧
  (H D1 = some (.dK (dictOf (W.ms.map (·.1)) b1)) ∧ Paired (Bnd H) b1 (W.ms.map (·.2))) ∧ (H D2 = some (.dK (dictOf (W.cs.map (·.1)) b2)) ∧ Paired (Bnd H) b2 (W.cs.map (·.2))) ∧ H D3 = some (.dK (dictOf (W.ss.map (·.1)) (W.ss.map fun r => .int r.2))) ∧
  H D4 = some (.dK (dictOf (W.ps.map (·.1)) v4)) ∧ Paired (fun v p => ∃ (Dp : Addr) (ys : List V), v = .ref Dp ∧ H Dp = some (.dK (dictOf (W.ss.map (·.1)) ys)) ∧ Paired (Bnd H) ys p.2) v4 W.ps
def spInit (K : PySem.W.Frag) (C : Addr) (T : List NTab) : Sp := fun vs H Q _ => ∃ (x dx am ac as ap : Addr) (vm vc vs2 vp : List V) (W : Wd), vs = [.ref x, .ref am, .ref ac, .ref as, .ref ap] ∧ H x = some (.ins C dx []) ∧ Fit K H am ac as ap vm vc vs2 vp ∧
  Paired (Row3 H) vm W.ms ∧ Paired (Row3 H) vc W.cs ∧ Paired (Row2 H) vs2 W.ss ∧ Paired (RowP H) vp W.ps ∧ Told W ∧ (∀ p ∈ W.ps, p.2.length = W.ss.length) ∧ TabsN T H ∧
  ∀ H1, (∀ b o, b ≠ x → H b = some o → (∀ ps, o ≠ .tbl ps) → H1 b = some o) → TabsN T H1 → WorksAt C H1 x am ac as ap W → Q .non H1
/-- all but the instance at x stays: so do tuples and tables -/
theorem But.tup {x C dx : Addr} {fs : List (Str × V)} {H H1 : Hp} (hx : H x = some (.ins C dx fs)) (b : But x H H1) : Tup H H1 := fun a xs e => b a _ (ne_of e hx fun z => nomatch z) e
theorem TabsN.but {T : List NTab} {x C dx : Addr} {fs : List (Str × V)} {H H1 : Hp} (hx : H x = some (.ins C dx fs)) (b : But x H H1) (t : TabsN T H) : TabsN T H1 := fun r hr => by
  obtain ⟨ps, h1, h2, h3⟩ := t r hr
  refine ⟨ps, b _ _ (ne_of h1 hx fun z => nomatch z) h1, h2, fun pos v hv => ?_⟩
  obtain ⟨c, e1, e2⟩ := h3 pos v hv
  exact ⟨c, e1, b _ _ (ne_of e2 hx fun z => nomatch (show HO.ext _ = HO.ins _ _ _ from z)) e2⟩
theorem But.ex {x : Addr} {H H1 : Hp} (e : Ex H H1) : But x H H1 := fun b o _ h => e b o h
theorem But.self {x : Addr} {H : Hp} {o : HO} : But x H (upd H x o) := fun b u n e => by
  rw [upd_ne n]
  exact e
theorem Ex.tup {H H1 : Hp} (e : Ex H H1) : Tup H H1 := fun a xs h => e a _ h
theorem rows3 {H H1 : Hp} (t : Tup H H1) {vs : List V} {rs : List (Str × Int × Int)} (p : Paired (Row3 H) vs rs) : Paired (Row3 H1) vs rs := L2.Paired.mapP p fun _ _ z => Row3.seq t z
theorem rows2 {H H1 : Hp} (t : Tup H H1) {vs : List V} {rs : List (Str × Int)} (p : Paired (Row2 H) vs rs) : Paired (Row2 H1) vs rs := L2.Paired.mapP p fun _ _ z => Row2.seq t z
theorem rowsP {H H1 : Hp} (t : Tup H H1) {vs : List V} {rs : List (Str × List (Int × Int))} (p : Paired (RowP H) vs rs) : Paired (RowP H1) vs rs := L2.Paired.mapP p fun _ _ z => RowP.seq t z
theorem bnds {H H1 : Hp} (t : Tup H H1) {vs : List V} {rs : List (Int × Int)} (p : Paired (Bnd H) vs rs) : Paired (Bnd H1) vs rs := L2.Paired.mapP p fun _ _ z => Bnd.seq t z
theorem paired_map {α β γ : Type} {F : α → γ → Prop} {g : β → γ} : ∀ {xs : List α} {ys : List β}, Paired (fun x y => F x (g y)) xs ys → Paired F xs (ys.map g)
  | _, _, .nil => .nil
  | _, _, .cons h t => .cons h (paired_map t)
/-- the contents of one product, by stuff; not the dict at D4 -/
def CBn (W : Wd) (D4 : Addr) (H : Hp) (v : V) (p : Str × List (Int × Int)) : Prop := ∃ (Dp : Addr) (ys : List V), v = .ref Dp ∧ Dp ≠ D4 ∧ H Dp = some (.dK (dictOf (W.ss.map (·.1)) ys)) ∧ Paired (Bnd H) ys p.2
theorem CBn.but {W : Wd} {D4 x C dx : Addr} {fs : List (Str × V)} {H H1 : Hp} {v : V} {p : Str × List (Int × Int)} (hx : H x = some (.ins C dx fs)) (b : But x H H1) (h : CBn W D4 H v p) : CBn W D4 H1 v p := by
  obtain ⟨D0, ys, e1, e2, e3, e4⟩ := h
  exact ⟨D0, ys, e1, e2, b _ _ (ne_of e3 hx fun z => nomatch z) e3, bnds (But.tup hx b) e4⟩
theorem ok_init {f fC fB fT C : Addr} {fd fdC fdB fdT : FuncData} {T : List NTab} (F : Fun K "__init__" "Works.__init__" sInit f fd) (c : WCls K C)
    (GC : FnOk P w K mg base CX0 6 fC fdC pCheck (spCheck K T)) (mC : mg "_check" = some (.ref fC)) (kC : PySem.W.keepIn K (.ref fC) = true) (bC : Binds K fdC pCheck [])
    (GB : FnOk P w K mg base CX0 1 fB fdB ["stuffs", "contents"] spBy) (mB : mg "_by_stuff" = some (.ref fB)) (kB : PySem.W.keepIn K (.ref fB) = true) (bB : Binds K fdB ["stuffs", "contents"] [])
    (GT : FnOk P w K mg base CX0 2 fT fdT ["machines", "cleanings", "stuffs", "products"] spText) (mT : mg "_text_of" = some (.ref fT)) (kT : PySem.W.keepIn K (.ref fT) = true) (bT : Binds K fdT ["machines", "cleanings", "stuffs", "products"] []) :
    FnOk P w K mg base CX0 7 f fd pInit (spInit K C T) := by
  refine F.ok scInit (fun vs H Q E h => ?_) (fun cdv A outer s H vs Q E hr h => ?_)
  · obtain ⟨x, dx, am, ac, as, ap, vm, vc, vs2, vp, W, rfl, _⟩ := h
    rfl
  · obtain ⟨x, dx, am, ac, as, ap, vm, vc, vs2, vp, W, rfl, hx, fit, pm, pc, ps, pp, T1, same, tabs, q⟩ := h
    have hr1 : Room 1 _ := hr.mono (by decide)
    have hr2 : Room 2 _ := hr.mono (by decide)
    refine ⟨_, pss_cons (ps_expr (pe_call GC hr (by rfl) mC kC bC .nil pass0 (pa_cons (pv 1) (pa_cons (pv 2) (pa_cons (pv 3) (pa_cons (pv 4) pa_nil))))))
      (pss_cons (ps_fld (pv 0) (pv 1) rfl)
      (pss_cons (ps_fld (pv 0) (pv 2) rfl)
      (pss_cons (ps_fld (pv 0) (pv 3) rfl)
      (pss_cons (ps_fld (pv 0) (pv 4) rfl)
      (pss_cons (ps_fld (pv 0) (pe_dc (own := [("name", 5), ("low", 6), ("high", 7)]) (g := gTup K 3 (gCons (gName 5) (gCons (gName 6) (gCons (gName 7) gNil)))) (by rfl) scInit.nd (pi_tup (pv 1)) (blkOk_by (own := [("name", 5), ("low", 6), ("high", 7)]) (N := nInit) (sc := defScope sInit) (by decide +kernel))
          (fun _ _ _ _ _ => pg_tup (by rfl) (pgs_cons (pg_name (i := 5) scInit.nd rfl (Or.inl rfl)) (pgs_cons (pg_name (i := 6) scInit.nd rfl (Or.inl rfl)) (pgs_cons (pg_name (i := 7) scInit.nd rfl (Or.inl rfl)) pgs_nil)))) (fun _ _ _ _ _ => pts_nil)
          (fun _ _ _ _ _ => pv 5) (fun _ _ _ _ _ => pe_tup (pa_cons (pv 6) (pa_cons (pv 7) pa_nil)))) rfl)
      (pss_cons (ps_fld (pv 0) (pe_dc (own := [("name", 5), ("low", 6), ("high", 7)]) (g := gTup K 3 (gCons (gName 5) (gCons (gName 6) (gCons (gName 7) gNil)))) (by rfl) scInit.nd (pi_tup (pv 2)) (blkOk_by (own := [("name", 5), ("low", 6), ("high", 7)]) (N := nInit) (sc := defScope sInit) (by decide +kernel))
          (fun _ _ _ _ _ => pg_tup (by rfl) (pgs_cons (pg_name (i := 5) scInit.nd rfl (Or.inl rfl)) (pgs_cons (pg_name (i := 6) scInit.nd rfl (Or.inl rfl)) (pgs_cons (pg_name (i := 7) scInit.nd rfl (Or.inl rfl)) pgs_nil)))) (fun _ _ _ _ _ => pts_nil)
          (fun _ _ _ _ _ => pv 5) (fun _ _ _ _ _ => pe_tup (pa_cons (pv 6) (pa_cons (pv 7) pa_nil)))) rfl)
      (pss_cons (ps_fld (pv 0) (pe_dc (own := [("name", 5), ("most", 8)]) (g := gTup K 2 (gCons (gName 5) (gCons (gName 8) gNil))) (by rfl) scInit.nd (pi_tup (pv 3)) (blkOk_by (own := [("name", 5), ("most", 8)]) (N := nInit) (sc := defScope sInit) (by decide +kernel))
          (fun _ _ _ _ _ => pg_tup (by rfl) (pgs_cons (pg_name (i := 5) scInit.nd rfl (Or.inl rfl)) (pgs_cons (pg_name (i := 8) scInit.nd rfl (Or.inl rfl)) pgs_nil))) (fun _ _ _ _ _ => pts_nil)
          (fun _ _ _ _ _ => pv 5) (fun _ _ _ _ _ => pv 8)) rfl)
      (pss_cons (ps_fld (pv 0) (pe_dc (own := [("name", 5), ("contents", 9)]) (g := gTup K 2 (gCons (gName 5) (gCons (gName 9) gNil))) (by rfl) scInit.nd (pi_tup (pv 4)) (blkOk_by (own := [("name", 5), ("contents", 9)]) (N := nInit) (sc := defScope sInit) (by decide +kernel))
          (fun _ _ _ _ _ => pg_tup (by rfl) (pgs_cons (pg_name (i := 5) scInit.nd rfl (Or.inl rfl)) (pgs_cons (pg_name (i := 9) scInit.nd rfl (Or.inl rfl)) pgs_nil))) (fun _ _ _ _ _ => pts_nil)
          (fun _ _ _ _ _ => pv 5) (fun _ _ _ _ _ => pe_call GB hr1 (by rfl) mB kB bB .nil pass0 (pa_cons (pv 3) (pa_cons (pv 9) pa_nil)))) rfl)
      (pss_one (ps_fld (pv 0) (pe_call GT hr2 (by rfl) mT kT bT .nil pass0 (pa_cons (pv 1) (pa_cons (pv 2) (pa_cons (pv 3) (pa_cons (pv 4) pa_nil))))) rfl)))))))))), ?_⟩
    have two : 2 ≤ sizeLine := by
      rw [sizeLine_eq]
      decide
    have few : ∀ {n : Nat}, n < 100 → n < 1000 := fun h => by omega
    have l1 : vm.length = W.ms.length := Paired.size pm
    have l2 : vc.length = W.cs.length := Paired.size pc
    have l3 : vs2.length = W.ss.length := Paired.size ps
    have l4 : vp.length = W.ps.length := Paired.size pp
    have w1 := T1.lm
    have w2 := T1.lc
    have w3 := T1.ls
    have w4 := T1.lp
    refine ⟨_, rfl, _, rfl, _, rfl, _, rfl, am, ac, as, ap, vm, vc, vs2, vp, rfl, fit, tabs, fun H1 x1 tabs1 => ?_⟩
    have hx1 : H1 x = some (.ins C dx []) := x1 _ _ hx fun _ z => nomatch z
    have fit1 := fit.exN x1
    have tt1 : Tup H H1 := fun a xs e => tup_n x1 e
    have pm1 := rows3 tt1 pm
    have pc1 := rows3 tt1 pc
    have ps1 := rows2 tt1 ps
    have pp1 := rowsP tt1 pp
    refine ⟨_, rfl, _, rfl, x, C, dx, _, rfl, hx1, c.cl, c.n1, few (by decide), ?_⟩
    refine ⟨_, rfl, _, rfl, x, C, dx, _, rfl, upd_same, c.cl, c.n2, (by decide : (1 : Nat) < 1000), ?_⟩
    refine ⟨_, rfl, _, rfl, x, C, dx, _, rfl, upd_same, c.cl, c.n3, (by decide : (2 : Nat) < 1000), ?_⟩
    refine ⟨_, rfl, _, rfl, x, C, dx, _, rfl, upd_same, c.cl, c.n4, (by decide : (3 : Nat) < 1000), ?_⟩
    rw [upd_upd, upd_upd, upd_upd]
    show tSeq _ _ _ _ (upd H1 x (.ins C dx [("_machines", .ref am), ("_cleanings", .ref ac), ("_stuffs", .ref as), ("_products", .ref ap)]))
    have B4 : But x H1 (upd H1 x (.ins C dx [("_machines", .ref am), ("_cleanings", .ref ac), ("_stuffs", .ref as), ("_products", .ref ap)])) := But.self
    have X4 : (upd H1 x (.ins C dx [("_machines", .ref am), ("_cleanings", .ref ac), ("_stuffs", .ref as), ("_products", .ref ap)])) x = some (.ins C dx [("_machines", .ref am), ("_cleanings", .ref ac), ("_stuffs", .ref as), ("_products", .ref ap)]) := upd_same
    generalize upd H1 x (.ins C dx [("_machines", .ref am), ("_cleanings", .ref ac), ("_stuffs", .ref as), ("_products", .ref ap)]) = H4 at B4 X4 ⊢
    have t4 := But.tup hx1 B4
    have pm4 := rows3 t4 pm1
    have hm4 := t4 _ _ fit1.m
    refine ⟨_, rfl, am, rfl, ⟨vm, SqT.of hm4⟩, fun D1 n1 => dc_it walk_tup (fun i G => Ex H4 G ∧ ∃ vals : List V, vals.length = i ∧ Paired (Bnd G) vals ((W.ms.map (·.2)).take i) ∧ G D1 = some (.dK (mergeK [] (under ((W.ms.map (·.1)).take i) vals)))) ⟨Ex.refl.new n1, [], rfl, .nil, upd_same⟩ (fun i G _ h => SqT.of (h.1 _ _ hm4)) ?_ ?_⟩
    · rintro i v _ G hi ⟨xG, vals, vl, pv, eG⟩ ⟨rfl, hv⟩
      obtain ⟨⟨n, lo, up⟩, hr, a, rfl, ha⟩ := Paired.spot pm4 hv
      have e : G a = some (.tup [.str n, .int lo, .int up]) := xG _ _ ha
      have hn : (W.ms.map (·.1))[i]? = some n := by
        rw [List.getElem?_map, hr]
        rfl
      have hb : (W.ms.map (·.2))[i]? = some (lo, up) := by
        rw [List.getElem?_map, hr]
        rfl
      refine ⟨a, _, rfl, SqT.of e, rfl, _, _, rfl, _, _, rfl, _, _, rfl, rfl, rfl, ?_⟩
      refine ⟨_, rfl, _, rfl, _, rfl, two, fun p np => ?_⟩
      have nDp : D1 ≠ p := ne_of_none eG np
      have eD : (upd G p (.tup [.int lo, .int up])) D1 = some (.dK (mergeK [] (under ((W.ms.map (·.1)).take i) vals))) := by
        rw [upd_ne nDp]
        exact eG
      refine ⟨_, .inr n, rfl, eD, ?_, (xG.new np).put n1, vals ++ [.ref p], by rw [List.length_append, vl]; rfl, ?_, ?_⟩
      · have m := merge_len (more := under ((W.ms.map (·.1)).take i) vals) (kvs := [])
        have m2 : (under ((W.ms.map (·.1)).take i) vals).length ≤ i := by
          unfold under
          rw [List.length_map, List.length_zip, vl]
          exact Nat.min_le_right _ _
        rw [List.length_nil] at m
        rw [sizeLine_eq]
        omega
      · have tt : Tup G (upd (upd G p (.tup [.int lo, .int up])) D1 (.dK (putK (mergeK [] (under ((W.ms.map (·.1)).take i) vals)) (.inr n) (.ref p)))) := fun b xs h => by
          rw [upd_ne (ne_of h eG fun z => nomatch z), upd_ne (ne_of_none h np)]
          exact h
        rw [List.take_succ, hb]
        exact Paired.snoc (bnds tt pv) ⟨p, rfl, by rw [upd_ne nDp.symm]; exact upd_same⟩
      · rw [upd_same, under_snoc hn vl, merge_snoc]
    rintro G1 ⟨xG1, b1, bl1, pb1, eG1⟩
    rw [List.take_of_length_le (by rw [List.length_map]; omega), ] at pb1
    rw [List.take_of_length_le (by rw [List.length_map]; omega)] at eG1
    refine ⟨_, rfl, x, C, dx, _, rfl, xG1 _ _ X4, c.cl, c.n5, (by decide : (4 : Nat) < 1000), ?_⟩
    show tSeq _ _ _ _ (upd G1 x (.ins C dx [("_machines", .ref am), ("_cleanings", .ref ac), ("_stuffs", .ref as), ("_products", .ref ap), ("_holds", .ref D1)]))
    have S5 : But x H4 (upd G1 x (.ins C dx [("_machines", .ref am), ("_cleanings", .ref ac), ("_stuffs", .ref as), ("_products", .ref ap), ("_holds", .ref D1)])) := But.trans (But.ex xG1) But.self
    have V5 : But x G1 (upd G1 x (.ins C dx [("_machines", .ref am), ("_cleanings", .ref ac), ("_stuffs", .ref as), ("_products", .ref ap), ("_holds", .ref D1)])) := But.self
    have X5 : (upd G1 x (.ins C dx [("_machines", .ref am), ("_cleanings", .ref ac), ("_stuffs", .ref as), ("_products", .ref ap), ("_holds", .ref D1)])) x = some (.ins C dx [("_machines", .ref am), ("_cleanings", .ref ac), ("_stuffs", .ref as), ("_products", .ref ap), ("_holds", .ref D1)]) := upd_same
    have XG5 := xG1 _ _ X4
    generalize upd G1 x (.ins C dx [("_machines", .ref am), ("_cleanings", .ref ac), ("_stuffs", .ref as), ("_products", .ref ap), ("_holds", .ref D1)]) = H5 at S5 V5 X5 ⊢
    have B5 : But x H1 H5 := But.trans B4 S5
    have t5 := But.tup hx1 B5
    have d1_5 := V5 _ _ (ne_of eG1 XG5 fun z => nomatch z) eG1
    have p1_5 := bnds (But.tup XG5 V5) pb1
    have pc5 := rows3 t5 pc1
    have hc5 := t5 _ _ fit1.c
    refine ⟨_, rfl, ac, rfl, ⟨vc, SqT.of hc5⟩, fun D2 n2 => dc_it walk_tup (fun i G => Ex H5 G ∧ ∃ vals : List V, vals.length = i ∧ Paired (Bnd G) vals ((W.cs.map (·.2)).take i) ∧ G D2 = some (.dK (mergeK [] (under ((W.cs.map (·.1)).take i) vals)))) ⟨Ex.refl.new n2, [], rfl, .nil, upd_same⟩ (fun i G _ h => SqT.of (h.1 _ _ hc5)) ?_ ?_⟩
    · rintro i v _ G hi ⟨xG, vals, vl, pv, eG⟩ ⟨rfl, hv⟩
      obtain ⟨⟨n, lo, up⟩, hr, a, rfl, ha⟩ := Paired.spot pc5 hv
      have e : G a = some (.tup [.str n, .int lo, .int up]) := xG _ _ ha
      have hn : (W.cs.map (·.1))[i]? = some n := by
        rw [List.getElem?_map, hr]
        rfl
      have hb : (W.cs.map (·.2))[i]? = some (lo, up) := by
        rw [List.getElem?_map, hr]
        rfl
      refine ⟨a, _, rfl, SqT.of e, rfl, _, _, rfl, _, _, rfl, _, _, rfl, rfl, rfl, ?_⟩
      refine ⟨_, rfl, _, rfl, _, rfl, two, fun p np => ?_⟩
      have nDp : D2 ≠ p := ne_of_none eG np
      have eD : (upd G p (.tup [.int lo, .int up])) D2 = some (.dK (mergeK [] (under ((W.cs.map (·.1)).take i) vals))) := by
        rw [upd_ne nDp]
        exact eG
      refine ⟨_, .inr n, rfl, eD, ?_, (xG.new np).put n2, vals ++ [.ref p], by rw [List.length_append, vl]; rfl, ?_, ?_⟩
      · have m := merge_len (more := under ((W.cs.map (·.1)).take i) vals) (kvs := [])
        have m2 : (under ((W.cs.map (·.1)).take i) vals).length ≤ i := by
          unfold under
          rw [List.length_map, List.length_zip, vl]
          exact Nat.min_le_right _ _
        rw [List.length_nil] at m
        rw [sizeLine_eq]
        omega
      · have tt : Tup G (upd (upd G p (.tup [.int lo, .int up])) D2 (.dK (putK (mergeK [] (under ((W.cs.map (·.1)).take i) vals)) (.inr n) (.ref p)))) := fun b xs h => by
          rw [upd_ne (ne_of h eG fun z => nomatch z), upd_ne (ne_of_none h np)]
          exact h
        rw [List.take_succ, hb]
        exact Paired.snoc (bnds tt pv) ⟨p, rfl, by rw [upd_ne nDp.symm]; exact upd_same⟩
      · rw [upd_same, under_snoc hn vl, merge_snoc]
    rintro G2 ⟨xG2, b2, bl2, pb2, eG2⟩
    rw [List.take_of_length_le (by rw [List.length_map]; omega), ] at pb2
    rw [List.take_of_length_le (by rw [List.length_map]; omega)] at eG2
    refine ⟨_, rfl, x, C, dx, _, rfl, xG2 _ _ X5, c.cl, c.n6, (by decide : (5 : Nat) < 1000), ?_⟩
    show tSeq _ _ _ _ (upd G2 x (.ins C dx [("_machines", .ref am), ("_cleanings", .ref ac), ("_stuffs", .ref as), ("_products", .ref ap), ("_holds", .ref D1), ("_keeps", .ref D2)]))
    have S6 : But x H5 (upd G2 x (.ins C dx [("_machines", .ref am), ("_cleanings", .ref ac), ("_stuffs", .ref as), ("_products", .ref ap), ("_holds", .ref D1), ("_keeps", .ref D2)])) := But.trans (But.ex xG2) But.self
    have V6 : But x G2 (upd G2 x (.ins C dx [("_machines", .ref am), ("_cleanings", .ref ac), ("_stuffs", .ref as), ("_products", .ref ap), ("_holds", .ref D1), ("_keeps", .ref D2)])) := But.self
    have X6 : (upd G2 x (.ins C dx [("_machines", .ref am), ("_cleanings", .ref ac), ("_stuffs", .ref as), ("_products", .ref ap), ("_holds", .ref D1), ("_keeps", .ref D2)])) x = some (.ins C dx [("_machines", .ref am), ("_cleanings", .ref ac), ("_stuffs", .ref as), ("_products", .ref ap), ("_holds", .ref D1), ("_keeps", .ref D2)]) := upd_same
    have XG6 := xG2 _ _ X5
    generalize upd G2 x (.ins C dx [("_machines", .ref am), ("_cleanings", .ref ac), ("_stuffs", .ref as), ("_products", .ref ap), ("_holds", .ref D1), ("_keeps", .ref D2)]) = H6 at S6 V6 X6 ⊢
    have B6 : But x H1 H6 := But.trans B5 S6
    have t6 := But.tup hx1 B6
    have d2_6 := V6 _ _ (ne_of eG2 XG6 fun z => nomatch z) eG2
    have p2_6 := bnds (But.tup XG6 V6) pb2
    have d1_6 := S6 _ _ (ne_of d1_5 X5 fun z => nomatch z) d1_5
    have p1_6 := bnds (But.tup X5 S6) p1_5
    have ps6 := rows2 t6 ps1
    have hs6 := t6 _ _ fit1.s
    refine ⟨_, rfl, as, rfl, ⟨vs2, SqT.of hs6⟩, fun D3 n3 => dc_it walk_tup (fun i G => Ex H6 G ∧ G D3 = some (.dK (mergeK [] (under ((W.ss.map (·.1)).take i) ((W.ss.map fun r => V.int r.2).take i))))) ⟨Ex.refl.new n3, upd_same⟩ (fun i G _ h => SqT.of (h.1 _ _ hs6)) ?_ ?_⟩
    · rintro i v _ G hi ⟨xG, eG⟩ ⟨rfl, hv⟩
      obtain ⟨⟨n, m⟩, hr, a, rfl, ha⟩ := Paired.spot ps6 hv
      have e : G a = some (.tup [.str n, .int m]) := xG _ _ ha
      have hn : (W.ss.map (·.1))[i]? = some n := by
        rw [List.getElem?_map, hr]
        rfl
      have hb : (W.ss.map fun r => V.int r.2)[i]? = some (.int m) := by
        rw [List.getElem?_map, hr]
        rfl
      have il : i < W.ss.length := (List.getElem?_eq_some_iff.mp hr).1
      have vl : ((W.ss.map fun r => V.int r.2).take i).length = i := by
        rw [List.length_take, List.length_map]
        omega
      refine ⟨a, _, rfl, SqT.of e, rfl, _, _, rfl, _, _, rfl, rfl, rfl, ?_⟩
      refine ⟨_, rfl, _, rfl, _, .inr n, rfl, eG, ?_, xG.put n3, ?_⟩
      · have m := merge_len (more := under ((W.ss.map (·.1)).take i) ((W.ss.map fun r => V.int r.2).take i)) (kvs := [])
        have m2 : (under ((W.ss.map (·.1)).take i) ((W.ss.map fun r => V.int r.2).take i)).length ≤ i := by
          unfold under
          rw [List.length_map, List.length_zip, vl]
          exact Nat.min_le_right _ _
        rw [List.length_nil] at m
        rw [sizeLine_eq]
        omega
      · rw [upd_same, List.take_succ (l := W.ss.map fun r => V.int r.2), hb]
        show _ = some (HO.dK (mergeK [] (under ((W.ss.map (·.1)).take (i + 1)) ((W.ss.map fun r => V.int r.2).take i ++ [.int m]))))
        rw [under_snoc hn vl, merge_snoc]
    rintro G3 ⟨xG3, eG3⟩
    rw [List.take_of_length_le (by rw [List.length_map]; omega), List.take_of_length_le (by rw [List.length_map]; omega)] at eG3
    refine ⟨_, rfl, x, C, dx, _, rfl, xG3 _ _ X6, c.cl, c.n7, (by decide : (6 : Nat) < 1000), ?_⟩
    show tSeq _ _ _ _ (upd G3 x (.ins C dx [("_machines", .ref am), ("_cleanings", .ref ac), ("_stuffs", .ref as), ("_products", .ref ap), ("_holds", .ref D1), ("_keeps", .ref D2), ("_limits", .ref D3)]))
    have S7 : But x H6 (upd G3 x (.ins C dx [("_machines", .ref am), ("_cleanings", .ref ac), ("_stuffs", .ref as), ("_products", .ref ap), ("_holds", .ref D1), ("_keeps", .ref D2), ("_limits", .ref D3)])) := But.trans (But.ex xG3) But.self
    have V7 : But x G3 (upd G3 x (.ins C dx [("_machines", .ref am), ("_cleanings", .ref ac), ("_stuffs", .ref as), ("_products", .ref ap), ("_holds", .ref D1), ("_keeps", .ref D2), ("_limits", .ref D3)])) := But.self
    have X7 : (upd G3 x (.ins C dx [("_machines", .ref am), ("_cleanings", .ref ac), ("_stuffs", .ref as), ("_products", .ref ap), ("_holds", .ref D1), ("_keeps", .ref D2), ("_limits", .ref D3)])) x = some (.ins C dx [("_machines", .ref am), ("_cleanings", .ref ac), ("_stuffs", .ref as), ("_products", .ref ap), ("_holds", .ref D1), ("_keeps", .ref D2), ("_limits", .ref D3)]) := upd_same
    have XG7 := xG3 _ _ X6
    generalize upd G3 x (.ins C dx [("_machines", .ref am), ("_cleanings", .ref ac), ("_stuffs", .ref as), ("_products", .ref ap), ("_holds", .ref D1), ("_keeps", .ref D2), ("_limits", .ref D3)]) = H7 at S7 V7 X7 ⊢
    have B7 : But x H1 H7 := But.trans B6 S7
    have t7 := But.tup hx1 B7
    have d3_7 := V7 _ _ (ne_of eG3 XG7 fun z => nomatch z) eG3
    have d1_7 := S7 _ _ (ne_of d1_6 X6 fun z => nomatch z) d1_6
    have p1_7 := bnds (But.tup X6 S7) p1_6
    have d2_7 := S7 _ _ (ne_of d2_6 X6 fun z => nomatch z) d2_6
    have p2_7 := bnds (But.tup X6 S7) p2_6
    have pp7 := rowsP t7 pp1
    have ps7 := rows2 t7 ps1
    have hs7 := t7 _ _ fit1.s
    have hp7 := t7 _ _ fit1.p
    have nm7 : ∀ {G : Hp}, Ex H7 G → Paired (Named G) vs2 (W.ss.map (·.1)) := fun {G} e => paired_map (L2.Paired.mapP ps7 fun v r z => by
      obtain ⟨a, e1, e2⟩ := z
      exact ⟨a, _, e1, e _ _ e2⟩)
    refine ⟨_, rfl, ap, rfl, ⟨vp, SqT.of hp7⟩, fun D4 n4 => dc_it walk_tup (fun i G => Ex H7 G ∧ ∃ vals : List V, vals.length = i ∧ Paired (CBn W D4 G) vals (W.ps.take i) ∧ G D4 = some (.dK (mergeK [] (under ((W.ps.map (·.1)).take i) vals)))) ⟨Ex.refl.new n4, [], rfl, .nil, upd_same⟩ (fun i G _ h => SqT.of (h.1 _ _ hp7)) ?_ ?_⟩
    · rintro i v _ G hi ⟨xG, vals, vl, pv, eG⟩ ⟨rfl, hv⟩
      obtain ⟨⟨n, bs⟩, hr, a, t, vb, rfl, ha, ht, pb⟩ := Paired.spot pp7 hv
      have hn : (W.ps.map (·.1))[i]? = some n := by
        rw [List.getElem?_map, hr]
        rfl
      have sm : bs.length = W.ss.length := same _ (List.mem_of_getElem? hr)
      have vbl : vb.length = bs.length := Paired.size pb
      refine ⟨a, _, rfl, SqT.of (xG _ _ ha), rfl, _, _, rfl, _, _, rfl, rfl, rfl, ?_⟩
      refine ⟨_, rfl, _, rfl, _, rfl, as, t, vs2, vb, W.ss.map (·.1), rfl, xG _ _ hs7, xG _ _ ht, nm7 xG, by omega, by omega, fun Dp G2 x2 nDp eDp => ?_⟩
      have eG2 := x2 _ _ eG
      have nD : Dp ≠ D4 := (ne_of_none eG nDp).symm
      refine ⟨_, .inr n, rfl, eG2, ?_, (xG.trans x2).put n4, vals ++ [.ref Dp], by rw [List.length_append, vl]; rfl, ?_, ?_⟩
      · have m := merge_len (more := under ((W.ps.map (·.1)).take i) vals) (kvs := [])
        have m2 : (under ((W.ps.map (·.1)).take i) vals).length ≤ i := by
          unfold under
          rw [List.length_map, List.length_zip, vl]
          exact Nat.min_le_right _ _
        rw [List.length_nil] at m
        rw [sizeLine_eq]
        omega
      · have tt : Tup G2 (upd G2 D4 (.dK (putK (mergeK [] (under ((W.ps.map (·.1)).take i) vals)) (.inr n) (.ref Dp)))) := fun b xs h => by
          rw [upd_ne (ne_of h eG2 fun z => nomatch z)]
          exact h
        rw [List.take_succ, hr]
        refine Paired.snoc (L2.Paired.mapP pv fun v p z => ?_) ⟨Dp, vb, rfl, nD, by rw [upd_ne nD]; exact eDp, bnds tt (bnds (Ex.tup (xG.trans x2)) pb)⟩
        obtain ⟨D0, ys, e1, e2, e3, e4⟩ := z
        exact ⟨D0, ys, e1, e2, by rw [upd_ne e2]; exact x2 _ _ e3, bnds tt (bnds (Ex.tup x2) e4)⟩
      · rw [upd_same, under_snoc hn vl, merge_snoc]
    rintro G4 ⟨xG4, b4, bl4, pb4, eG4⟩
    rw [List.take_of_length_le (by omega)] at pb4
    rw [List.take_of_length_le (by rw [List.length_map]; omega)] at eG4
    refine ⟨_, rfl, x, C, dx, _, rfl, xG4 _ _ X7, c.cl, c.n8, (by decide : (7 : Nat) < 1000), ?_⟩
    show tSeq _ _ _ _ (upd G4 x (.ins C dx [("_machines", .ref am), ("_cleanings", .ref ac), ("_stuffs", .ref as), ("_products", .ref ap), ("_holds", .ref D1), ("_keeps", .ref D2), ("_limits", .ref D3), ("_contents", .ref D4)]))
    have S8 : But x H7 (upd G4 x (.ins C dx [("_machines", .ref am), ("_cleanings", .ref ac), ("_stuffs", .ref as), ("_products", .ref ap), ("_holds", .ref D1), ("_keeps", .ref D2), ("_limits", .ref D3), ("_contents", .ref D4)])) := But.trans (But.ex xG4) But.self
    have V8 : But x G4 (upd G4 x (.ins C dx [("_machines", .ref am), ("_cleanings", .ref ac), ("_stuffs", .ref as), ("_products", .ref ap), ("_holds", .ref D1), ("_keeps", .ref D2), ("_limits", .ref D3), ("_contents", .ref D4)])) := But.self
    have X8 : (upd G4 x (.ins C dx [("_machines", .ref am), ("_cleanings", .ref ac), ("_stuffs", .ref as), ("_products", .ref ap), ("_holds", .ref D1), ("_keeps", .ref D2), ("_limits", .ref D3), ("_contents", .ref D4)])) x = some (.ins C dx [("_machines", .ref am), ("_cleanings", .ref ac), ("_stuffs", .ref as), ("_products", .ref ap), ("_holds", .ref D1), ("_keeps", .ref D2), ("_limits", .ref D3), ("_contents", .ref D4)]) := upd_same
    have XG8 := xG4 _ _ X7
    generalize upd G4 x (.ins C dx [("_machines", .ref am), ("_cleanings", .ref ac), ("_stuffs", .ref as), ("_products", .ref ap), ("_holds", .ref D1), ("_keeps", .ref D2), ("_limits", .ref D3), ("_contents", .ref D4)]) = H8 at S8 V8 X8 ⊢
    have B8 : But x H1 H8 := But.trans B7 S8
    have t8 := But.tup hx1 B8
    have d4_8 := V8 _ _ (ne_of eG4 XG8 fun z => nomatch z) eG4
    have p4_8 : Paired (CBn W D4 H8) b4 W.ps := L2.Paired.mapP pb4 fun v p z => CBn.but XG8 V8 z
    have d3_8 := S8 _ _ (ne_of d3_7 X7 fun z => nomatch z) d3_7
    have d1_8 := S8 _ _ (ne_of d1_7 X7 fun z => nomatch z) d1_7
    have p1_8 := bnds (But.tup X7 S8) p1_7
    have d2_8 := S8 _ _ (ne_of d2_7 X7 fun z => nomatch z) d2_7
    have p2_8 := bnds (But.tup X7 S8) p2_7
    refine ⟨_, rfl, _, rfl, _, rfl, _, rfl, am, ac, as, ap, vm, vc, vs2, vp, W, rfl, t8 _ _ fit1.m, t8 _ _ fit1.c, t8 _ _ fit1.s, t8 _ _ fit1.p, rows3 t8 pm1, rows3 t8 pc1, rows2 t8 ps1, rowsP t8 pp1, T1, fun G5 xG5 => ?_⟩
    refine ⟨_, rfl, x, C, dx, _, rfl, xG5 _ _ X8, c.cl, c.n9, (by decide : (8 : Nat) < 1000), ?_⟩
    show Q .non (upd G5 x (.ins C dx [("_machines", .ref am), ("_cleanings", .ref ac), ("_stuffs", .ref as), ("_products", .ref ap), ("_holds", .ref D1), ("_keeps", .ref D2), ("_limits", .ref D3), ("_contents", .ref D4), ("_text", .str (wtext W))]))
    have S9 : But x H8 (upd G5 x (.ins C dx [("_machines", .ref am), ("_cleanings", .ref ac), ("_stuffs", .ref as), ("_products", .ref ap), ("_holds", .ref D1), ("_keeps", .ref D2), ("_limits", .ref D3), ("_contents", .ref D4), ("_text", .str (wtext W))])) := But.trans (But.ex xG5) But.self
    have V9 : But x G5 (upd G5 x (.ins C dx [("_machines", .ref am), ("_cleanings", .ref ac), ("_stuffs", .ref as), ("_products", .ref ap), ("_holds", .ref D1), ("_keeps", .ref D2), ("_limits", .ref D3), ("_contents", .ref D4), ("_text", .str (wtext W))])) := But.self
    have X9 : (upd G5 x (.ins C dx [("_machines", .ref am), ("_cleanings", .ref ac), ("_stuffs", .ref as), ("_products", .ref ap), ("_holds", .ref D1), ("_keeps", .ref D2), ("_limits", .ref D3), ("_contents", .ref D4), ("_text", .str (wtext W))])) x = some (.ins C dx [("_machines", .ref am), ("_cleanings", .ref ac), ("_stuffs", .ref as), ("_products", .ref ap), ("_holds", .ref D1), ("_keeps", .ref D2), ("_limits", .ref D3), ("_contents", .ref D4), ("_text", .str (wtext W))]) := upd_same
    have XG9 := xG5 _ _ X8
    generalize upd G5 x (.ins C dx [("_machines", .ref am), ("_cleanings", .ref ac), ("_stuffs", .ref as), ("_products", .ref ap), ("_holds", .ref D1), ("_keeps", .ref D2), ("_limits", .ref D3), ("_contents", .ref D4), ("_text", .str (wtext W))]) = H9 at S9 V9 X9 ⊢
    have B9 : But x H1 H9 := But.trans B8 S9
    have t9 := But.tup hx1 B9
    have d4_9 := S9 _ _ (ne_of d4_8 X8 fun z => nomatch z) d4_8
    have p4_9 : Paired (CBn W D4 H9) b4 W.ps := L2.Paired.mapP p4_8 fun v p z => CBn.but X8 S9 z
    have d3_9 := S9 _ _ (ne_of d3_8 X8 fun z => nomatch z) d3_8
    have d1_9 := S9 _ _ (ne_of d1_8 X8 fun z => nomatch z) d1_8
    have p1_9 := bnds (But.tup X8 S9) p1_8
    have d2_9 := S9 _ _ (ne_of d2_8 X8 fun z => nomatch z) d2_8
    have p2_9 := bnds (But.tup X8 S9) p2_8
    exact q H9 (fun b o n e nt => B9 b o n (x1 b o e nt)) (TabsN.but hx1 B9 tabs1) ⟨dx, D1, D2, D3, D4, b1, b2, b4, X9, ⟨d1_9, p1_9⟩, ⟨d2_9, p2_9⟩, d3_9, d4_9, L2.Paired.mapP p4_9 fun v p z => by
      obtain ⟨D0, ys, e1, _, e3, e4⟩ := z
      exact ⟨D0, ys, e1, e3, e4⟩⟩
end
end LJ
set_option Elab.async false
set_option linter.all false
set_option maxRecDepth 100000
set_option maxHeartbeats 8000000
namespace LJ
open PySem PySem.Spec L2
/-! A drawn world fits. -/
theorem menu_w : ∀ x ∈ menu, isW x = true := by decide +kernel
theorem menu_8 : ∀ x ∈ menu, x.length ≤ 8 := by decide +kernel
theorem fwAt_none {R : V → Bool} {nm : V → Str} {most : Int} : ∀ {xs : List V} {tk : List Str} {i : Nat}, (∀ v ∈ xs, R v = true) → (i : Int) + xs.length ≤ most → (tk ++ xs.map nm).Nodup → fwAt R nm most tk i xs = none
  | [], _, _, _, _, _ => by
    unfold fwAt
    rfl
  | v :: xs, tk, i, hR, l, nd => by
    rw [List.length_cons] at l
    have nin : nm v ∉ tk := fun z => by
      rw [List.map_cons] at nd
      exact (List.nodup_append.mp nd).2.2 _ z _ (List.mem_cons_self ..) rfl
    have t := fwAt_none (R := R) (nm := nm) (most := most) (xs := xs) (tk := tk ++ [nm v]) (i := i + 1) (fun y hy => hR y (List.mem_cons_of_mem _ hy)) (by omega) (by rw [List.append_assoc]; exact nd)
    unfold fwAt
    rw [if_neg (by omega), if_neg (by rw [hR v (List.mem_cons_self ..)]; decide), if_neg nin, t]
theorem paired_mem {α β : Type} {F : α → β → Prop} : ∀ {xs : List α} {ys : List β}, Paired F xs ys → ∀ x ∈ xs, ∃ y ∈ ys, F x y
  | _, _, .nil, _, h => nomatch h
  | _, _, .cons f t, x, h => by
    rcases List.mem_cons.mp h with rfl | h
    · exact ⟨_, List.mem_cons_self .., f⟩
    · obtain ⟨y, hy, g⟩ := paired_mem t x h
      exact ⟨y, List.mem_cons_of_mem _ hy, g⟩
theorem paired_nm {α : Type} {F : V → α → Prop} {nm : V → Str} {g : α → Str} (h : ∀ v r, F v r → nm v = g r) : ∀ {xs : List V} {ys : List α}, Paired F xs ys → xs.map nm = ys.map g
  | _, _, .nil => rfl
  | _, _, .cons f t => by rw [List.map_cons, List.map_cons, h _ _ f, paired_nm h t]
section
variable {K : PySem.W.Frag} {H : Hp}
theorem kn_tup {a : Addr} {xs : List V} (h : H a = some (.tup xs)) (l : xs.length ≤ 1000) : Kn K H (.ref a) := .tup h (by rw [sizeLine_eq]; omega)
theorem kn_str {n : Str} (l : n.length ≤ 8) : Kn K H (.str n) := .str n (by rw [sizeLine_eq]; omega)
theorem deep_tup {n : Nat} {a : Addr} {xs : List V} (h : H a = some (.tup xs)) (l : xs.length ≤ 1000) (d : ∀ y ∈ xs, Deep K H n y) : Deep K H (n + 1) (.ref a) := ⟨kn_tup h l, fun ys e y hy => by
  rw [tup_at h] at e
  cases e
  exact d y hy⟩
theorem row3_deep {v : V} {r : Str × Int × Int} (h : Row3 H v r) (l : r.1.length ≤ 8) : Deep K H 1 v := by
  obtain ⟨a, rfl, e⟩ := h
  refine deep_tup e (by decide : 3 ≤ 1000) fun y hy => ?_
  simp only [List.mem_cons, List.not_mem_nil, or_false] at hy
  rcases hy with rfl | rfl | rfl
  · exact kn_str l
  · exact .int _
  · exact .int _
theorem row2_deep {v : V} {r : Str × Int} (h : Row2 H v r) (l : r.1.length ≤ 8) : Deep K H 1 v := by
  obtain ⟨a, rfl, e⟩ := h
  refine deep_tup e (by decide : 2 ≤ 1000) fun y hy => ?_
  simp only [List.mem_cons, List.not_mem_nil, or_false] at hy
  rcases hy with rfl | rfl
  · exact kn_str l
  · exact .int _
theorem int_deep {i : Int} : ∀ {n : Nat}, Deep K H n (.int i)
  | 0 => Kn.int i
  | n + 1 => ⟨.int i, fun _ e => nomatch e⟩
theorem str_deep {s : Str} (l : s.length ≤ 8) : ∀ {n : Nat}, Deep K H n (.str s)
  | 0 => kn_str l
  | n + 1 => ⟨kn_str l, fun _ e => nomatch e⟩
theorem bnd_deep {v : V} {b : Int × Int} (h : Bnd H v b) : Deep K H 1 v := by
  obtain ⟨a, rfl, e⟩ := h
  refine deep_tup e (by decide : 2 ≤ 1000) fun y hy => ?_
  simp only [List.mem_cons, List.not_mem_nil, or_false] at hy
  rcases hy with rfl | rfl <;> exact int_deep
theorem rowP_deep {v : V} {r : Str × List (Int × Int)} (h : RowP H v r) (l : r.1.length ≤ 8) (l2 : r.2.length ≤ 100) : Deep K H 3 v := by
  obtain ⟨a, t, vs, rfl, e, et, p⟩ := h
  have vl : vs.length = r.2.length := Paired.size p
  refine deep_tup e (by decide : 2 ≤ 1000) fun y hy => ?_
  simp only [List.mem_cons, List.not_mem_nil, or_false] at hy
  rcases hy with rfl | rfl
  · exact str_deep l
  · refine deep_tup et (by omega) fun z hz => ?_
    obtain ⟨b, _, hb⟩ := paired_mem p z hz
    exact bnd_deep hb
theorem row3_name {v : V} {r : Str × Int × Int} (h : Row3 H v r) : nameOf H v = r.1 := by
  obtain ⟨a, rfl, e⟩ := h
  unfold nameOf
  rw [tup_at e]
theorem row2_name {v : V} {r : Str × Int} (h : Row2 H v r) : nameOf H v = r.1 := by
  obtain ⟨a, rfl, e⟩ := h
  unfold nameOf
  rw [tup_at e]
theorem rowP_name {v : V} {r : Str × List (Int × Int)} (h : RowP H v r) : nameOf H v = r.1 := by
  obtain ⟨a, t, vs, rfl, e, _⟩ := h
  unfold nameOf
  rw [tup_at e]
theorem row3_right {v : V} {r : Str × Int × Int} (h : Row3 H v r) (w : isW r.1 = true) (b0 : 0 ≤ r.2.1) (b1 : r.2.1 ≤ r.2.2) (b2 : r.2.2 ≤ 1000) : onTup sharesOf H v = true := by
  obtain ⟨a, rfl, e⟩ := h
  unfold onTup
  rw [tup_at e]
  show (isW r.1 && (decide (0 ≤ r.2.1) && (decide (r.2.1 ≤ r.2.2) && decide (r.2.2 ≤ 1000)))) = true
  rw [w, decide_eq_true b0, decide_eq_true b1, decide_eq_true b2]
  rfl
theorem row2_right {v : V} {r : Str × Int} (h : Row2 H v r) (w : isW r.1 = true) (b0 : 0 ≤ r.2) (b1 : r.2 ≤ 1000000000000) : onTup limOf H v = true := by
  obtain ⟨a, rfl, e⟩ := h
  unfold onTup
  rw [tup_at e]
  show (isW r.1 && (decide (0 ≤ r.2) && decide (r.2 ≤ top12))) = true
  rw [w, decide_eq_true b0, decide_eq_true (show r.2 ≤ top12 from b1)]
  rfl
theorem rowP_right {v : V} {r : Str × List (Int × Int)} {m : Int} (h : RowP H v r) (w : isW r.1 = true) (l : (r.2.length : Int) = m) (b : ∀ x ∈ r.2, Small x) : onTup (contOf H m) H v = true := by
  obtain ⟨a, t, vs, rfl, e, et, p⟩ := h
  have vl : vs.length = r.2.length := Paired.size p
  unfold onTup
  rw [tup_at e]
  show (isW r.1 && pairsOf H m (tupOf H (.ref t))) = true
  rw [w, tup_at et]
  show (true && (decide ((vs.length : Int) = m) && vs.all fun y => isBnd H y top12)) = true
  rw [decide_eq_true (by rw [vl]; exact l), Bool.true_and, Bool.true_and, List.all_eq_true]
  intro y hy
  obtain ⟨x, hx, b1, rfl, b2⟩ := paired_mem p y hy
  obtain ⟨s1, s2, s3⟩ := b x hx
  unfold isBnd
  rw [tup_at b2]
  show (decide (0 ≤ x.1) && (decide (x.1 ≤ x.2) && decide (x.2 ≤ top12))) = true
  rw [decide_eq_true s1, decide_eq_true s2, decide_eq_true (show x.2 ≤ top12 from s3)]
  rfl
theorem good_fit {am ac as ap : Addr} {vm vc vs2 vp : List V} {W : Wd} (g : Good W) (hm : H am = some (.tup vm)) (hc : H ac = some (.tup vc)) (hs : H as = some (.tup vs2)) (hp : H ap = some (.tup vp))
    (pm : Paired (Row3 H) vm W.ms) (pc : Paired (Row3 H) vc W.cs) (ps : Paired (Row2 H) vs2 W.ss) (pp : Paired (RowP H) vp W.ps) : Fit K H am ac as ap vm vc vs2 vp := by
  have l1 : vm.length = W.ms.length := Paired.size pm
  have l2 : vc.length = W.cs.length := Paired.size pc
  have l3 : vs2.length = W.ss.length := Paired.size ps
  have l4 : vp.length = W.ps.length := Paired.size pp
  have g1 := g.m1
  have g2 := g.m2
  have g3 := g.c2
  have g4 := g.s1
  have g5 := g.s2
  have g6 := g.p1
  have g7 := g.p2
  have im : ∀ r ∈ W.ms, r.1 ∈ menu := fun r hr => g.nm _ (List.mem_append_left _ (List.mem_map_of_mem hr))
  have ic : ∀ r ∈ W.cs, r.1 ∈ menu := fun r hr => g.nm _ (List.mem_append_right _ (List.mem_append_left _ (List.mem_map_of_mem hr)))
  have is : ∀ r ∈ W.ss, r.1 ∈ menu := fun r hr => g.nm _ (List.mem_append_right _ (List.mem_append_right _ (List.mem_append_left _ (List.mem_map_of_mem hr))))
  have ip : ∀ r ∈ W.ps, r.1 ∈ menu := fun r hr => g.nm _ (List.mem_append_right _ (List.mem_append_right _ (List.mem_append_right _ (List.mem_map_of_mem hr))))
  have em : vm.map (nameOf H) = W.ms.map (·.1) := paired_nm (fun v r h => row3_name h) pm
  have ec : vc.map (nameOf H) = W.cs.map (·.1) := paired_nm (fun v r h => row3_name h) pc
  have es : vs2.map (nameOf H) = W.ss.map (·.1) := paired_nm (fun v r h => row2_name h) ps
  have ep : vp.map (nameOf H) = W.ps.map (·.1) := paired_nm (fun v r h => rowP_name h) pp
  have nd := g.nd
  have nd3 : ((W.ms.map (·.1) ++ W.cs.map (·.1)) ++ W.ss.map (·.1) ++ W.ps.map (·.1)).Nodup := by
    rw [List.append_assoc, List.append_assoc]
    exact nd
  have nd2 : ((W.ms.map (·.1) ++ W.cs.map (·.1)) ++ W.ss.map (·.1)).Nodup := (List.nodup_append.mp nd3).1
  have nd1 : (W.ms.map (·.1) ++ W.cs.map (·.1)).Nodup := (List.nodup_append.mp nd2).1
  have nd0 : (W.ms.map (·.1)).Nodup := (List.nodup_append.mp nd1).1
  refine ⟨hm, hc, hs, hp, deep_tup hm (by omega) fun v hv => ?_, deep_tup hc (by omega) fun v hv => ?_, deep_tup hs (by omega) fun v hv => ?_, deep_tup hp (by omega) fun v hv => ?_, by omega, by omega, by omega, ?_, ?_, ?_, ?_⟩
  · obtain ⟨r, hr, h⟩ := paired_mem pm v hv
    exact row3_deep h (menu_8 _ (im r hr))
  · obtain ⟨r, hr, h⟩ := paired_mem pc v hv
    exact row3_deep h (menu_8 _ (ic r hr))
  · obtain ⟨r, hr, h⟩ := paired_mem ps v hv
    exact row2_deep h (menu_8 _ (is r hr))
  · obtain ⟨r, hr, h⟩ := paired_mem pp v hv
    exact rowP_deep h (menu_8 _ (ip r hr)) (by have := (g.pb r hr).1; omega)
  · refine fwAt_none (fun v hv => ?_) (by omega) (by rw [em]; exact nd0)
    obtain ⟨r, hr, h⟩ := paired_mem pm v hv
    obtain ⟨a, b, c⟩ := g.mb r hr
    exact row3_right h (menu_w _ (im r hr)) a b c
  · refine fwAt_none (fun v hv => ?_) (by omega) (by rw [em, ec]; exact nd1)
    obtain ⟨r, hr, h⟩ := paired_mem pc v hv
    obtain ⟨a, b, c⟩ := g.cb r hr
    exact row3_right h (menu_w _ (ic r hr)) a b c
  · refine fwAt_none (fun v hv => ?_) (by omega) (by rw [List.map_append, em, ec, es]; exact nd2)
    obtain ⟨r, hr, h⟩ := paired_mem ps v hv
    obtain ⟨a, b⟩ := g.sb r hr
    exact row2_right h (menu_w _ (is r hr)) a b
  · refine fwAt_none (fun v hv => ?_) (by omega) (by rw [List.map_append, List.map_append, em, ec, es, ep]; exact nd3)
    obtain ⟨r, hr, h⟩ := paired_mem pp v hv
    obtain ⟨a, b⟩ := g.pb r hr
    exact rowP_right h (menu_w _ (ip r hr)) (by omega) b
theorem good_told {W : Wd} (g : Good W) : Told W := by
  have g2 := g.m2
  have g3 := g.c2
  have g5 := g.s2
  have g7 := g.p2
  refine ⟨by omega, by omega, by omega, by omega, fun r hr => ?_, fun r hr => ?_, fun r hr => ?_, fun r hr => ?_⟩
  · obtain ⟨a, b, c⟩ := g.mb r hr
    exact ⟨menu_8 _ (g.nm _ (List.mem_append_left _ (List.mem_map_of_mem hr))), a, b, by omega⟩
  · obtain ⟨a, b, c⟩ := g.cb r hr
    exact ⟨menu_8 _ (g.nm _ (List.mem_append_right _ (List.mem_append_left _ (List.mem_map_of_mem hr)))), a, b, by omega⟩
  · obtain ⟨a, b⟩ := g.sb r hr
    exact ⟨menu_8 _ (g.nm _ (List.mem_append_right _ (List.mem_append_right _ (List.mem_append_left _ (List.mem_map_of_mem hr))))), a, b⟩
  · obtain ⟨a, b⟩ := g.pb r hr
    exact ⟨menu_8 _ (g.nm _ (List.mem_append_right _ (List.mem_append_right _ (List.mem_append_right _ (List.mem_map_of_mem hr))))), by omega, b⟩
end
end LJ
set_option Elab.async false
set_option linter.all false
set_option maxRecDepth 100000
set_option maxHeartbeats 4000000
/-! Own errors over any base: raised; methods called by keywords; a lambda called in a try. -/
namespace L2
open PySem PySem.Spec PyProof.Rows PySem.ErrV
section
variable {X : Cx} {C fI : Addr} {x f : Str} {B nw ini : String} {bmB : List Value} {a : Expr} {p pos : Pos} {ta : TA}
/-- C(e), to be raised -/
def tMkE (C : Addr) (f : Str) (ta : TA) : St → Hp → XK → Prop := fun σ H Q => ta σ H fun vs H1 => ∃ v, vs = [v] ∧ ∀ d, H1 d = none → Q (.ref C) (some d) (upd H1 d (.xd [(f, v)]))
theorem pmk_err (hf : f = "given" ∨ f = "index") (T : ErrC X.K X.mg x f C fI nw bmB) (Bo : BaseOk B nw ini bmB) (exC : PySem.W.subIn X.K (.ref C) (.type "BaseException") = some true) (tyC : PySem.W.typeIn X.K (.ref C) = some (.type "type"))
    (hr : Room 1 X.A) (ha : PA X [a] ta) (hg : Gl X x) (hdb : (x == ("__debug__" : Str)) = false := by decide)
    (he : starEach (a :: []) X.env = (false, eval a X.env) :: starEach [] X.env := by rfl) (hpl : (backTo pos (starEach [] X.env)).any (·.1) = false := by rfl) :
    PMk X (.Call (.Name x p) [a] [] pos) (tMkE C f ta) := by
  intro pins s σ H Q I h
  refine wpAny_Call_Name_kw (ld_glob I hg T.gC ?_ hdb)
  refine PySem.W.callWith_K (h₀ := X.base) I.ok.mod.kin T.kC (thn (ha.run pos pins s σ H _ I h) fun us s1 hh => ?_) he hpl
  obtain ⟨vs, H1, I1, r1, v, ev, q1⟩ := hh
  subst ev
  refine ⟨I1.kIn, ?_⟩
  cases r1 with
  | cons rv rn =>
    rename_i u us
    cases rn
    show wpAny _ _ (call (.ref C) [u]) _ _ _
    have lim := I1.nolimit
    obtain ⟨hp, g, dr, tk, os⟩ := s1
    refine wpAny_call (err_made hf T Bo (v := u) (.inl ⟨rfl, rfl⟩) I1.kIn lim (by have := hr.dp; omega) fun h1 tk1 e d M => ?_)
    show MkP X pins σ Q (.ref e) ⟨h1, g, dr, tk1, os⟩
    obtain ⟨uo, hoe⟩ := M.obj
    have hns := M.ns
    obtain ⟨G1, g1, g2⟩ := restrict h1 fun b => decide (b ≠ e)
    have gk : ∀ b, b ≠ e → G1.get? b = h1.get? b := fun b hb => g1 b (decide_eq_true hb)
    have ge : G1.get? e = none := g2 e (by simp)
    have old : ∀ b o, hp.get? b = some o → G1.get? b = some o := fun b o q => (gk b (Nat.ne_of_lt (Nat.lt_of_lt_of_le (Heap.lt_size q) M.big))).trans (M.keep b o q)
    have ob : ObjOk X.prog X.w (upd H1 d (.xd [(f, v)])) G1 d (.xd [(f, v)]) :=
      ⟨_, hns.at (fun o q => (gk d M.ne).trans q), relO_put (fs := []) rv fun g => True.intro⟩
    have J : Inv X pins σ (upd H1 d (.xd [(f, v)])) ⟨G1, g, dr, tk1, os⟩ := I1.laid (t' := tk1) old M.dbig ob
    refine ⟨e, _, _, ⟨G1, g, dr, tk1, os⟩, _, .ref C, some d, rfl, J, fun b o q => ?_, ge, hoe, ⟨rfl, rfl⟩, rfl, rfl, ?_, rfl, I1.bare, raises_own exC tyC, q1 d (I1.hok.fresh M.dbig)⟩
    · by_cases hb : b = e
      · have q2 : G1.get? b = some o := q
        rw [hb, ge] at q2
        cases q2
      · exact (gk b hb).symm.trans q
    · rw [upd_ne (Ne.symm M.ne)]
      exact I1.hok.fresh M.big
/-- raise C(e) -/
theorem ps_raiseE {W : WX} {pos2 : Pos} (hc : X.calm = true) (hf : f = "given" ∨ f = "index") (T : ErrC X.K X.mg x f C fI nw bmB) (Bo : BaseOk B nw ini bmB) (exC : PySem.W.subIn X.K (.ref C) (.type "BaseException") = some true) (tyC : PySem.W.typeIn X.K (.ref C) = some (.type "type"))
    (hr : Room 1 X.A) (tk : Takes X W) (ha : PA X [a] ta) (hg : Gl X x) (hdb : (x == ("__debug__" : Str)) = false := by decide)
    (he : starEach (a :: []) X.env = (false, eval a X.env) :: starEach [] X.env := by rfl) (hpl : (backTo pos (starEach [] X.env)).any (·.1) = false := by rfl) :
    PS X (.Raise (some (.Call (.Name x p) [a] [] pos)) none pos2) (fun _ σ H => tMkE C f ta σ H fun cls d H1 => W cls d σ H1) := ps_raise hc tk (pmk_err hf T Bo exC tyC hr ha hg hdb he hpl)
end
/-! ### o.m(k = v, ..) -/
/-- by keywords alone: gV tells how the parameters behind the object are filled from the keywords' values -/
def tMethK (C : Addr) (m : Str) (sp : Sp) (n : Nat) (gV : List V → List V → List V) (E : XK) (ta : TE) (t : TA) : TE := fun σ H Q => ta σ H fun x H1 => ∃ a dx fs, x = .ref a ∧ H1 a = some (.ins C dx fs) ∧ fs.lookup m = none ∧
  t σ H1 fun zs H2 => zs.length = n ∧ sp (gV [x] zs) H2 Q E
section
variable {X : Cx} {CX : CXT} {k : Nat} {f C : Addr} {fd : FuncData} {ps ks : List Str} {sp : Sp} {E : XK} {m : Str} {pos apos : Pos} {o : Expr} {kws : List Keyword} {ta : TE} {tk : TA} {g : List Value → List Value → List Value} {gV : List V → List V → List V}
theorem pe_methK {pl : Sem Bool} (he : PE X o ta) (c : Cls X.K C) (hm : Meth X.K C m f) (F : FnOk X.prog X.w X.K X.mg X.base CX k f fd ps sp) (hr : Room k X.A) (hb : KBn X.K fd ps 1 ks g gV) (hx : Passes CX X E) (hkw : PK X kws tk)
    (hall : (backToKw pos (keywordEach kws X.env)).all (·.1.isSome) = true := by rfl) (hks : (backToKw pos (keywordEach kws X.env)).filterMap (·.1) = ks := by rfl)
    (hpl : ((backTo pos (starEach [] X.env)).any (·.1) || (backToKw pos (keywordEach kws X.env)).any (·.1.isNone)) = false := by rfl)
    (ht : eval (.Call (.Attribute o m apos) [] kws pos) X.env = (do
      let ov ← eval o X.env
      standAt apos.atName
      let (f, first) ← holding [ov] (getMethod ov m pl)
      callWith pos f first (backTo pos (starEach [] X.env)) (backToKw pos (keywordEach kws X.env))) := by rfl) :
    PE X (.Call (.Attribute o m apos) [] kws pos) (tMethK C m sp ks.length gV E ta tk) := by
  refine ⟨fun pins s σ H Q I h => ?_⟩
  refine PySem.W.methodCall_KW (pl := pl) (thn (he.run pins s σ H _ I h) fun u s1 ⟨x, H1, I1, rx, a, dx, fs, ex, ea, l, q⟩ => ?_) ht
  subst ex
  obtain rfl : u = Value.ref a := rx
  refine getmeth_ok I1 ea c hm l ?_
  refine PySem.W.callWith_KW0 (first := [.ref a]) (h₀ := X.base) I.ok.mod.kin hm.kp hall ?_ hpl
  refine thn (hkw.run pos pins s1 σ H1 _ I1 q) fun ws s2 ⟨zs, H2, I2, rz, l2, q2⟩ => ⟨I2.kIn, ?_⟩
  rw [hks]
  show wpAny _ _ (call (.ref f) [.ref a] (ks.zip ws)) _ _ _
  have e2 : ws.length = ks.length := rz.length.symm.trans l2
  have r1 : Vals [V.ref a] [Value.ref a] := .cons rfl .nil
  refine wpAny_call (codeAny_mono (F.run X.A X.stack s2 H2 ⟨[.ref a], ks.zip ws⟩ (g [.ref a] ws) (gV [.ref a] zs) Q E hr I2.env0 (hb.to s2 [.ref a] ws I2.kIn rfl e2) (hb.rel r1 rz) q2) fun r s3 hq => ?_)
  cases r with
  | error e => exact hx pins σ H2 s2 e s3 I2 hq
  | ok fl =>
    cases fl with
    | ret u => exact I2.after hq
    | next => exact False.elim hq
    | brk => exact False.elim hq
    | cont => exact False.elim hq
end
end L2
namespace LamV
open PySem PySem.Spec PyProof.Rows L2
open LamX (CodeO ExtN TabB)
open NdefX (NF NTab TabN TabsN CellsAt NScope startF ncx envF)
section
variable {Y : Cx} {pins : List (Addr × Obj)} {σ : L2.St} {H : Hp} {s : Shared} {f : Addr} {F : NF} {body : Expr} {fr : List Str} {ws : List (Option V)}
variable {CX : CXT} {n i j k : Nat} {x : Str} {sp : List (Option V) → Sp} {E : L2.St → XK} {t : TA} {e : Expr} {es : List Expr} {p pos : Pos}
/-- the reading: slot i holds the lambda without parameters; what it raises is wished for at the slots -/
def tCallL0S (f : Addr) (F : NF) (body : Expr) (i : Nat) (ws : List (Option V)) (sp : List (Option V) → Sp) (E : L2.St → XK) : TE := fun σ H Q =>
  (σ[i]? = some (some (.ref f)) ∧ H f = some (LnO f F body)) ∧ H F.c = some (CodeO F.c F.qual) ∧ sp ws [] H Q (E σ)
theorem pe_lact0S (G : LOk Y.prog Y.w Y.K Y.mg Y.base CX k f F body n fr sp) (C : CellsAt F.cl fr ws Y.s_0.heap Y.H_0) (ex : Y.ex = []) (room : Room j Y.A) (le : k ≤ j) (out : ∀ σ, PassesAt CX Y σ (E σ)) (slot : Y.N[i]? = some x) (vis : Vis Y.env.scope x)
    (d1 : (x == ("__debug__" : Str)) = false := by decide) (d2 : (x == ("__classdict__" : Str)) = false := by decide) :
    PE Y (.Call (.Name x p) [] [] pos) (tCallL0S f F body i ws sp E) := by
  constructor
  rintro pins s σ H Q I ⟨⟨hs, hf⟩, h2, q⟩
  apply wpAny_Call_Name_kw
  refine thn ((pe_var slot vis d1 d2).run pins s σ H (fun v H1 => v = .ref f ∧ H1 = H) I ⟨_, hs, rfl, rfl⟩) ?_
  rintro u s1 ⟨_, _, I1, ru, rfl, rfl⟩
  cases (show u = Value.ref f from ru)
  refine PySem.W.callWith_F0 (first := []) (fnAt I1 hf) ?_
  refine wpAny_call (codeAny_mono (G.call (room.mono le) I1.env0 ⟨hf, h2, cells_stay C ex I1⟩ .nil q) ?_)
  rintro (u | fl) s2 hq
  · exact out σ _ _ _ _ _ I1 hq
  · cases fl with
    | ret u => exact I1.after hq
    | _ => exact (hq : False).elim
end
end LamV
set_option Elab.async false
set_option linter.all false
set_option maxRecDepth 100000
set_option maxHeartbeats 4000000
/-! Data that can be shown. -/
namespace LJ
open PySem L2 PySem.ErrV
open LamX (ExtN)
section
variable {H H1 : Hp}
mutual
theorem rp_seqN (s : ExtN H H1) : ∀ (d : PyData) (x : V), rp H d x → rp H1 d x
  | .none, x, e => by
    unfold rp at e ⊢
    exact e
  | .bool b, x, e => by
    unfold rp at e ⊢
    exact e
  | .int i, x, e => by
    unfold rp at e ⊢
    exact e
  | .str z, x, e => by
    unfold rp at e ⊢
    exact e
  | .list ds, x, e => by
    unfold rp at e ⊢
    obtain ⟨a, xs, h1, h2, h3⟩ := e
    exact ⟨a, xs, h1, s _ _ h2 (fun _ z => nomatch z), rpAll_seqN s ds xs h3⟩
  | .tuple ds, x, e => by
    unfold rp at e ⊢
    obtain ⟨a, xs, h1, h2, h3⟩ := e
    exact ⟨a, xs, h1, s _ _ h2 (fun _ z => nomatch z), rpAll_seqN s ds xs h3⟩
  | .dict ds, x, e => by
    unfold rp at e
    exact e.elim
theorem rpAll_seqN (s : ExtN H H1) : ∀ (ds : List PyData) (xs : List V), rpAll H ds xs → rpAll H1 ds xs
  | [], xs, e => by
    unfold rpAll at e ⊢
    exact e
  | d :: ds, xs, e => by
    unfold rpAll at e ⊢
    obtain ⟨y, ys, h1, h2, h3⟩ := e
    exact ⟨y, ys, h1, rp_seqN s d y h2, rpAll_seqN s ds ys h3⟩
end
theorem rpD_seqN (s : ExtN H H1) {d : PyData} {x : V} (e : rpD H d x) : rpD H1 d x := by
  obtain ⟨a, kvs, ds, h1, h2, h3⟩ := e
  exact ⟨a, kvs, ds, h1, s _ _ h2 (fun _ z => nomatch z), h3⟩
end
/-- x is the datum d, small enough to be shown -/
structure Dat (H : Hp) (d : PyData) (x : V) : Prop where
  at_ : rp H d x ∨ rpD H d x
  sh : d.showable = true
  dp : d.depth ≤ 100
  sz : d.shown.length ≤ sizeLine
  ok : PyData.strOk d.shown = true
theorem Dat.exN {H H1 : Hp} {d : PyData} {x : V} (h : Dat H d x) (s : ExtN H H1) : Dat H1 d x :=
  ⟨h.at_.elim (fun e => .inl (rp_seqN s d x e)) fun e => .inr (rpD_seqN s e), h.sh, h.dp, h.sz, h.ok⟩
end LJ
set_option Elab.async false
set_option linter.all false
set_option maxRecDepth 100000
/-! Several clauses «except x as n», one behind another, all with the same name n. -/
namespace ManyAs
open PySem PySem.Spec PyProof.Rows L2
/-- what the clauses wish: the first that fits is asked, at slot i the exception -/
def wish (K : PySem.W.Frag) (i : Nat) (Wout : WX) (D : Ends) : List (Value × (Addr → Value → Option Addr → TS)) → WX
  | [] => Wout
  | (c, ts) :: r => wAs K c i ts (wish K i Wout D r) D
/-- an exception that was caught: it stands at a, and its flight is over -/
structure Stands (X : Cx) (pins : List (Addr × Obj)) (σ : L2.St) (H : Hp) (cls : Value) (d : Option Addr) (a : Addr) (B : Heap) (sI s : Shared) : Prop where
  inv : Inv X pins σ H sI
  old : ∀ b o, sI.heap.get? b = some o → b ∉ frs X.stack → B.get? b = some o
  near : sI.heap.UpToSlots s.heap
  fly : HandSPX.FlyingZ B X.stack a (Zc cls d) s.heap
  new : H a = none
  os : s.os = sI.os
  bare : AllBare s.gens
section
variable {X : Cx} {pins : List (Addr × Obj)} {σ : L2.St} {H : Hp} {cls : Value} {d : Option Addr} {a : Addr} {B : Heap} {sI s : Shared} {D : Ends} {Wout : WX} {n x : Str} {i : Nat} {c : Value} {np pos pos' : Pos}
variable {ts : Addr → Value → Option Addr → TS} {b₀ : Stmt} {suite body : List Stmt}
theorem Stands.now (S : Stands X pins σ H cls d a B sI s) : Inv X pins σ H s := S.inv.landed S.old S.fly.1 S.near S.os S.bare
theorem Stands.on (S : Stands X pins σ H cls d a B sI s) {h : Heap} (f : HandSPX.FlyingZ B X.stack a (Zc cls d) h) (u : s.heap.UpToSlots h) : Stands X pins σ H cls d a B sI { s with heap := h } :=
  ⟨S.inv, S.old, S.near.trans u, f, S.new, S.os, S.bare⟩
/-- the object of the exception is no frame -/
theorem Stands.obj (S : Stands X pins σ H cls d a B sI s) (hs : X.stack = X.env :: X.outer) (hf : X.env.frame = some X.env.locals) :
    ∃ oe vs, s.heap.get? a = some oe ∧ Zc cls d oe ∧ oe.data = .fields vs ∧ a ≠ X.env.locals ∧ a ∉ X.fs := by
  obtain ⟨oe, vs, e1, e2, e3⟩ := S.fly.there
  have out : a ∉ frs X.stack := fun m => by
    obtain ⟨_, o, e4, e5⟩ := S.fly.2.2.1.mem m
    rw [e1] at e4
    cases e4
    exact e5 _ e3
  rw [hs] at out
  refine ⟨oe, vs, e1, e2, e3, fun z => out ?_, fun m => out ?_⟩
  · rw [z]
    exact List.mem_filterMap.mpr ⟨_, List.mem_cons_self, hf⟩
  · obtain ⟨e, h1, h2⟩ := List.mem_filterMap.mp m
    exact List.mem_filterMap.mpr ⟨e, List.mem_cons_of_mem _ h1, h2⟩
/-- no clause is left: it goes on -/
theorem Stands.leave {R : Flow → Shared → Prop} (S : Stands X pins σ H cls d a B sI s) (hs : X.stack = X.env :: X.outer) (hf : X.env.frame = some X.env.locals) (tk : Takes X Wout) (w : Wout cls d σ H) :
    wpAny (model X.prog X.w) X.A (handleBy (.ref a) X.env []) R X.xe s := by
  have go : wpAny (model X.prog X.w) X.A (setFlight (.ref a) X.env.frame) (fun _ s1 => wpAny (model X.prog X.w) X.A (throw (.ref a) : Sem Flow) R X.xe s1) X.xe s := by
    rw [hf]
    exact HandSPX.setFlight_upZ S.fly fun h held u => wpAny_throw (tk _ _ ⟨a, B, sI, pins, σ, H, cls, d, rfl, S.inv, S.old, S.near.trans u, .inr (.inr held), S.new, S.os, S.bare, w⟩)
  refine wpAny_handleBy_nil ?_
  obtain ⟨_, _, _, oe, vs, T, oT, t1, e1, _, e2, e3, _⟩ := id S.fly
  unfold PySem.passOn
  refine wpAny_bind (wpAny_field e1 e2 e3 ?_)
  rw [if_neg (show ¬ ((Value.ref T == Value.none) = true) by simp)]
  first
    | exact wpAny_bind go
    | exact wpAny_bind (wpAny_pure (wpAny_bind go))
/-- one clause: its suite, or those behind it -/
theorem Stands.clause {r : List ExceptHandler} {Wr : WX} (S : Stands X pins σ H cls d a B sI s) (hs : X.stack = X.env :: X.outer) (hf : X.env.frame = some X.env.locals) (hN : X.N.Nodup) (hi : X.N[i]? = some n) (hl : X.env.kindOf n = some .local) (hc : Names X x c)
    (hsu : ∀ (a : Addr) (oe : Obj) (cls : Value) (d : Option Addr) (pn : List (Addr × Obj)), Zc cls d oe → (∃ vs, oe.data = .fields vs) → PSs (X.suite a ((a, oe) :: pn)) (b₀ :: suite) (ts a cls d))
    (rest : Wr cls d σ H → wpAny (model X.prog X.w) X.A (handleBy (.ref a) X.env r) (SP X pins D) X.xe s) (w : wAs X.K c i ts Wr D cls d σ H) :
    wpAny (model X.prog X.w) X.A (handleBy (.ref a) X.env (.ExceptHandler (some (.Name x np)) (some n) (b₀ :: suite) pos' :: r)) (SP X pins D) X.xe s := by
  obtain ⟨oe, vs, e1, e2, e3, nL, nF⟩ := S.obj hs hf
  have I0 := S.now
  have I1 := I0.suite e1 e3 S.new nL nF
  obtain ⟨b, hb, yes, no⟩ := w
  have look : PySem.W.Looks (model X.prog X.w) s.heap (typeOf (.ref a)) cls := fun A Q E s1 k q => wpAny_typeOf_ref (k _ _ e1) (by rw [e2.1]; exact q)
  have fits := PySem.W.exm_one (M := model X.prog X.w) I0.kIn look hb
  have named : ∀ {Q : Value → Shared → Prop} {E : Value → Shared → Prop}, Q c s → wpAny (model X.prog X.w) (X.A.mark (some (.ref a))) (eval (.Name x np) X.env) Q E s := fun q => by
    rcases hc with ⟨g, nd, m | ⟨m, v, nn⟩⟩
    · exact ld_glob (X := X.suite a ((a, oe) :: (X.pn ++ pins))) I1 g m q nd
    · exact ld_blt (X := X.suite a ((a, oe) :: (X.pn ++ pins))) I1 g m v q nn nd
  refine wpAny_handleBy_cons (codeAny_handlers_test (named (fits.here ?_))) (by intro q; cases q)
  cases b with
  | false => exact rest (no rfl)
  | true =>
    refine codeAny_handlers_suite_as (HandSPX.lands_againZ S.fly fun h f u => ?_)
    have S2 := S.on f u
    obtain ⟨oe2, vs2, f1, f2, f3, _, _⟩ := S2.obj hs hf
    refine store_ok (X := X.suite a ((a, oe2) :: (X.pn ++ pins))) (v := .ref a) (S2.now.suite f1 f3 S.new nL nF) hN hi (.inl hl) rfl (fun s1 I2 => ?_) (.inr hl)
    refine wpAny_mono ((hsu a oe2 cls d (X.pn ++ pins) f2 ⟨_, f3⟩).run [] s1 _ H _ I2 (yes rfl a S.new)) (fun fl s2 out => ?_) fun _ _ z => z.elim
    have name_gone : ∀ {σ2 : L2.St} {H2 : Hp} {Q : Shared → Prop}, Inv (X.suite a ((a, oe2) :: (X.pn ++ pins))) [] σ2 H2 s2 → (∀ s3, Inv X pins (σ2.set i none) H2 s3 → Q s3) →
        wpAny (model X.prog X.w) X.A (do bindName X.env n .none; unbindBehindTheSuite X.env n pos') (fun _ s3 => Q s3) X.xe s2 := fun I3 q => gone_ok (I3.unsuite I0.ok) hN hi hl q
    match fl, out with
    | .ret u, ⟨v2, σ2, H2, I3, r2, q2⟩ => exact name_gone I3 fun s3 I4 => ⟨v2, _, _, I4, r2, q2⟩
    | .next, ⟨σ2, H2, I3, q2⟩ => exact name_gone I3 fun s3 I4 => ⟨_, _, I4, q2⟩
    | .brk, ⟨σ2, H2, I3, q2⟩ => exact name_gone I3 fun s3 I4 => ⟨_, _, I4, q2⟩
    | .cont, ⟨σ2, H2, I3, q2⟩ => exact name_gone I3 fun s3 I4 => ⟨_, _, I4, q2⟩
/-- the clauses and what each of them does -/
inductive Cls (X : Cx) (n : Str) : List ExceptHandler → List (Value × (Addr → Value → Option Addr → TS)) → Prop
  | done : Cls X n [] []
  | more {x : Str} {c : Value} {ts : Addr → Value → Option Addr → TS} {b₀ : Stmt} {suite : List Stmt} {np pos' : Pos} {r : List ExceptHandler} {l : List (Value × (Addr → Value → Option Addr → TS))} (hc : Names X x c)
      (hsu : ∀ (a : Addr) (oe : Obj) (cls : Value) (d : Option Addr) (pn : List (Addr × Obj)), Zc cls d oe → (∃ vs, oe.data = .fields vs) → PSs (X.suite a ((a, oe) :: pn)) (b₀ :: suite) (ts a cls d)) (rest : Cls X n r l) :
      Cls X n (.ExceptHandler (some (.Name x np)) (some n) (b₀ :: suite) pos' :: r) ((c, ts) :: l)
theorem Stands.all {r : List ExceptHandler} {l : List (Value × (Addr → Value → Option Addr → TS))} (S : Stands X pins σ H cls d a B sI s) (hs : X.stack = X.env :: X.outer) (hf : X.env.frame = some X.env.locals) (hN : X.N.Nodup) (hi : X.N[i]? = some n) (hl : X.env.kindOf n = some .local)
    (tk : Takes X Wout) (C : Cls X n r l) : wish X.K i Wout D l cls d σ H → wpAny (model X.prog X.w) X.A (handleBy (.ref a) X.env r) (SP X pins D) X.xe s := by
  induction C with
  | done => exact fun w => S.leave hs hf tk w
  | more hc hsu _ ih => exact fun w => S.clause hs hf hN hi hl hc hsu ih w
theorem ps_try {h₀ : ExceptHandler} {r : List ExceptHandler} {l : List (Value × (Addr → Value → Option Addr → TS))} {tb : WX → TS} (hs : X.stack = X.env :: X.outer) (hf : X.env.frame = some X.env.locals) (hN : X.N.Nodup) (hi : X.N[i]? = some n) (hl : X.env.kindOf n = some .local) (tk : Takes X Wout)
    (hb : ∀ (W : WX) (pn : List (Addr × Obj)) (xe : Value → Shared → Prop), Takes (X.tr pn xe) W → PassesOwn (model X.prog X.w) X.A X.env xe → PSs (X.tr pn xe) body (tb W)) (C : Cls X n (h₀ :: r) l) :
    PS X (.Try body (h₀ :: r) [] [] pos) (fun D σ H => tb (wish X.K i Wout D l) D σ H) := by
  constructor
  intro pins s σ H D I h
  have frames : X.A.frames = some (X.env :: X.outer) := by rw [I.ok.frames, hs]
  let catch_ : Value → Shared → Prop := fun e s1 => wpAny (model X.prog X.w) X.A (noteFrame e X.env) (fun _ s2 => wpAny (model X.prog X.w) X.A (setFlight e none) (fun _ s3 => wpAny (model X.prog X.w) X.A (handleBy e X.env (h₀ :: r)) (SP X pins D) X.xe s3) X.xe s2) X.xe s1
  have caught : Takes (X.tr (X.pn ++ pins) catch_) (wish X.K i Wout D l) := by
    rintro _ s1 ⟨a, B, sI, pins1, σ1, H1, cls, d, rfl, J, old, near, sky, new, os, bare, w⟩
    have sky : Sky B (X.env :: X.outer) a (Zc cls d) X.env.locals s1.heap := by
      rw [← hs]
      exact sky
    refine Sky.land Zc.steady frames hf sky fun h2 fly u => ?_
    have S : Stands X pins σ1 H1 cls d a B sI { s1 with heap := h2 } := ⟨J.ofTry I.ok, old, near.trans u, by rw [hs]; exact fly, new, os, bare⟩
    exact S.all hs hf hN hi hl tk C w
  refine wpAny_Try_except (wpAny_mono ((hb _ _ catch_ caught PassesOwn.looking).run [] s σ H D (I.toTry _) h) (fun f s1 out => ?_) fun _ _ z => z)
  match f, out with
  | .ret u, ⟨v, σ1, H1, J, e, q⟩ => exact ⟨v, _, _, J.ofTry I.ok, e, q⟩
  | .next, ⟨σ1, H1, J, q⟩ => exact wpAny_execs_nil ⟨_, _, J.ofTry I.ok, q⟩
  | .brk, ⟨σ1, H1, J, q⟩ => exact ⟨_, _, J.ofTry I.ok, q⟩
  | .cont, ⟨σ1, H1, J, q⟩ => exact ⟨_, _, J.ofTry I.ok, q⟩
end
end ManyAs
set_option Elab.async false
set_option linter.all false
set_option maxRecDepth 100000
set_option maxHeartbeats 8000000
/-! _check of works over any known values: all its ways. -/
namespace LJ
open PySem PySem.Spec L2 PySem.ErrV
open LamX (ExtN TabB)
open NdefX (NTab TabsN)
/-- an error with an index -/
structure Er1 (K : PySem.W.Frag) (mg : Str → Option Value) (x : Str) (C : Addr) : Prop where
  c : ∃ fI bm, ErrC K mg x "index" C fI "ValueError.__new__" bm ∧ BaseOk "ValueError" "ValueError.__new__" "ValueError.__init__" bm
  exC : PySem.W.subIn K (.ref C) (.type "BaseException") = some true
  tyC : PySem.W.typeIn K (.ref C) = some (.type "type")
  xf : XfC K C
def namesOf (H : Hp) (x : V) : List Str := ((tupOf H x).getD []).map (nameOf H)
def lenOf (H : Hp) (x : V) : Int := (((tupOf H x).getD []).length : Nat)
/-- the first of the four that is wrong, and where -/
def due4 (H : Hp) (x1 x2 x3 x4 : V) : Option (Nat × V) := match fwOut (onTup sharesOf H) (nameOf H) 1 6 [] (tupOf H x1) with
  | v :: _ => some (0, v)
  | [] => match fwOut (onTup sharesOf H) (nameOf H) 0 6 (namesOf H x1) (tupOf H x2) with
    | v :: _ => some (1, v)
    | [] => match fwOut (onTup limOf H) (nameOf H) 1 3 (namesOf H x1 ++ namesOf H x2) (tupOf H x3) with
      | v :: _ => some (2, v)
      | [] => match fwOut (onTup (contOf H (lenOf H x3)) H) (nameOf H) 1 8 (namesOf H x1 ++ namesOf H x2 ++ namesOf H x3) (tupOf H x4) with
        | v :: _ => some (3, v)
        | [] => none
theorem fw_exN {K : PySem.W.Frag} {H H1 : Hp} {x : V} {R R1 : V → Bool} {few most : Int} {nms : List Str} (k : Kn K H x) (e : ExtN H H1) (h : ∀ xs, tupOf H x = some xs → ∀ v ∈ xs, R1 v = R v ∧ nameOf H1 v = nameOf H v) : fwOut R1 (nameOf H1) few most nms (tupOf H1 x) = fwOut R (nameOf H) few most nms (tupOf H x) := by
  rw [k.tupsN e]
  unfold fwOut
  cases e1 : tupOf H x with
  | none => rfl
  | some xs =>
    simp only
    rw [fwAt_same fun v hv => h xs e1 v hv]
/-- what was let: a tuple of right rows -/
theorem fw_let {R : V → Bool} {nm : V → Str} {few most : Int} {tk : List Str} {o : Option (List V)} (h : fwOut R nm few most tk o = []) : ∃ xs, o = some xs ∧ few ≤ xs.length ∧ fwAt R nm most tk 0 xs = none := by
  unfold fwOut at h
  cases o with
  | none => cases h
  | some xs =>
    simp only at h
    split at h
    · cases h
    · rename_i c
      split at h
      · rename_i e
        exact ⟨xs, rfl, by omega, e⟩
      · cases h
theorem names_of {H : Hp} {a : Addr} {xs : List V} (h : H a = some (.tup xs)) : namesOf H (.ref a) = xs.map (nameOf H) ∧ lenOf H (.ref a) = xs.length := by
  unfold namesOf lenOf
  rw [tup_at h]
  exact ⟨rfl, rfl⟩
theorem fw_two {R : V → Bool} {nm : V → Str} {few most : Int} {tk : List Str} {o : Option (List V)} : fwOut R nm few most tk o = [] ∨ ∃ v, fwOut R nm few most tk o = [v] := by
  unfold fwOut
  cases o with
  | none => exact .inr ⟨_, rfl⟩
  | some xs =>
    simp only
    split
    · exact .inr ⟨_, rfl⟩
    · split
      · exact .inl rfl
      · exact .inr ⟨_, rfl⟩
theorem tup_ref4 {H : Hp} {x : V} {xs : List V} (h : tupOf H x = some xs) : ∃ a, x = .ref a ∧ H a = some (.tup xs) := tup_ref h
theorem Named.exN {H H1 : Hp} {v : V} {n : Str} (h : Named H v n) (e : ExtN H H1) : Named H1 v n := by
  obtain ⟨a, r, e1, e2⟩ := h
  exact ⟨a, r, e1, tup_n e e2⟩
theorem paired_at {H H1 : Hp} (e : ExtN H H1) : ∀ {xs : List V}, (∀ v ∈ xs, Named H v (nameOf H v)) → Paired (Named H1) xs (xs.map (nameOf H))
  | [], _ => .nil
  | x :: xs, h => .cons ((h x (List.mem_cons_self ..)).exN e) (paired_at e fun y hy => h y (List.mem_cons_of_mem _ hy))
def spCheck4 (K : PySem.W.Frag) (ce : Nat → Addr) (T : List NTab) : Sp := fun vs H Q E => ∃ (x1 x2 x3 x4 : V), vs = [x1, x2, x3, x4] ∧ Deep K H 2 x1 ∧ Deep K H 2 x2 ∧ Deep K H 2 x3 ∧ Deep K H 4 x4 ∧ TabsN T H ∧
  (due4 H x1 x2 x3 x4 = none → ∀ am ac as ap xm xc xs xp, x1 = .ref am → x2 = .ref ac → x3 = .ref as → x4 = .ref ap → Fit K H am ac as ap xm xc xs xp → ∀ H1, ExtN H H1 → TabsN T H1 → Q .non H1) ∧
  (∀ k v, due4 H x1 x2 x3 x4 = some (k, v) → ∀ H1 d, ExtN H H1 → TabsN T H1 → H1 d = some (.xd [(("index" : Str), v)]) → E (.ref (ce k)) (some d) H1)
section
variable {P : Program} {w : World} {K : PySem.W.Frag} {mg : Str → Option Value} {base : Heap} {ce : Nat → Addr}
theorem Fun.okXC {P : Program} {w : World} {x qual : Str} {st : Stmt} {f c : Addr} {fd : FuncData} {N ps : List Str} {k : Nat} {sp : Sp} (F : Fun K x qual st f fd) (hc : fd.code = .ref c) (S : FnScope N ps (defScope st)) (len : ∀ vs H Q E, sp vs H Q E → vs.length = ps.length)
    (hbody : ∀ (A : Around) (outer : List Env) (s : Shared) (H : Hp) (vs : List V) (Q : VK) (E : XK), Room k (A.deeper (PyProof.Rows.envOfC qual (defScope st) s.heap.objs.size f (.ref c))) → sp vs H Q E →
      ∃ t, PSs (cxOf (L2.CX P w) P w K mg base N qual (defScope st) f (.ref c) A outer s H E) (defBody st) t ∧ t { nx := fun _ H1 => Q .non H1, rt := Q } (start N vs) H) : FnOk P w K mg base (L2.CX P w) (k + 1) f fd ps sp := by
  obtain ⟨oc, od, kV, doc, pm, an, cdv, ct, osl, rfl, lk, hcd⟩ := F.ex
  obtain rfl : cdv = .ref c := hc
  exact fn_of lk hcd S len fun A outer s H vs Q E hr hsp => hbody A outer s H vs Q E hr hsp
theorem ok_check4 {f fF fS fL fC c Pt : Addr} {fd fdF fdC : FuncData} {u1 u2 u3 u4 : Value} {T : List NTab} (F : Fun K "_check" "_check" sCheck f fd) (hcode : fd.code = .ref c) (TB : TabB base mg c Pt) (inT : (Pt, lamName) ∈ T) (only : ∀ r ∈ T, r.1 = Pt → r.2 = lamName) (B : BltI mg)
    (e0 : Er1 K mg "InvalidMachines" (ce 0)) (e1 : Er1 K mg "InvalidCleanings" (ce 1)) (e2 : Er1 K mg "InvalidStuffs" (ce 2)) (e3 : Er1 K mg "InvalidProducts" (ce 3))
    (FF : Fun K "_first_wrong" "_first_wrong" sFirst fF fdF) (GF : FnOk P w K mg base CX0 4 fF fdF pFirst (spFw K fS fL)) (mF : mg "_first_wrong" = some (.ref fF)) (kF : PySem.W.keepIn K (.ref fF) = true) (bF : Binds K fdF pFirst [])
    (GC : FnOk P w K mg base CX0 3 fC fdC ["row", "many"] (spCont K)) (mC : mg "_has_contents" = some (.ref fC)) (kC : PySem.W.keepIn K (.ref fC) = true) (bC : Binds K fdC ["row", "many"] [])
    (mS : mg "_has_shares" = some (.ref fS)) (mL : mg "_has_limit" = some (.ref fL))
    (m1 : mg "MOST_MACHINES" = some u1) (r1 : RelV (.int 6) u1) (m2 : mg "MOST_CLEANINGS" = some u2) (r2 : RelV (.int 6) u2) (m3 : mg "MOST_STUFFS" = some u3) (r3 : RelV (.int 3) u3) (m4 : mg "MOST_PRODUCTS" = some u4) (r4 : RelV (.int 8) u4) :
    FnOk P w K mg base (L2.CX P w) 6 f fd pCheck (spCheck4 K ce T) := by
  refine Fun.okXC F hcode scCheck (fun vs H Q E h => ?_) (fun A outer s H vs Q E hr h => ?_)
  · obtain ⟨x1, x2, x3, x4, rfl, _⟩ := h
    rfl
  · obtain ⟨x1, x2, x3, x4, rfl, d1, d2, d3, d4, tabs, good, bad⟩ := h
    have hr4 : Room 4 _ := hr.mono (by decide)
    have hr1 : Room 1 _ := hr.mono (by decide)
    obtain ⟨f0, b0, T0, B0⟩ := e0.c
    obtain ⟨f1, b1, T1, B1⟩ := e1.c
    obtain ⟨f2, b2, T2, B2⟩ := e2.c
    obtain ⟨f3, b3, T3, B3⟩ := e3.c
    refine ⟨_, pss_cons (ps_set (i := 4) scCheck.nd rfl (Or.inl rfl) (pe_call GF hr4 (by rfl) mF kF bF .nil pass0 (pa_cons (pv 0) (pa_cons (pe_tup pa_nil) (pa_cons pe_int (pa_cons (pe_glob (by rfl) m1 r1) (pa_cons (pe_glob (v := .ref fS) (by rfl) mS rfl) pa_nil)))))))
      (pss_cons (ps_if (pt_truth (pv 4) (fun _ => rfl)) (pss_one (ps_raiseE rfl (.inr rfl) T0 B0 e0.exC e0.tyC hr1 (takes_of rfl rfl rfl rfl) (pa_cons (pe_ix ix_tup (pv 4) pe_int (fun _ _ => rfl)) pa_nil) (by rfl))) pss_nil)
      (pss_cons (ps_set (i := 4) scCheck.nd rfl (Or.inl rfl) (pe_call GF hr4 (by rfl) mF kF bF .nil pass0 (pa_cons (pv 1) (pa_cons (pv 0) (pa_cons pe_int (pa_cons (pe_glob (by rfl) m2 r2) (pa_cons (pe_glob (v := .ref fS) (by rfl) mS rfl) pa_nil)))))))
      (pss_cons (ps_if (pt_truth (pv 4) (fun _ => rfl)) (pss_one (ps_raiseE rfl (.inr rfl) T1 B1 e1.exC e1.tyC hr1 (takes_of rfl rfl rfl rfl) (pa_cons (pe_ix ix_tup (pv 4) pe_int (fun _ _ => rfl)) pa_nil) (by rfl))) pss_nil)
      (pss_cons (ps_set (i := 4) scCheck.nd rfl (Or.inl rfl) (pe_call GF hr4 (by rfl) mF kF bF .nil pass0 (pa_cons (pv 2) (pa_cons (pe_op op_catT (pv 0) (pv 1)) (pa_cons pe_int (pa_cons (pe_glob (by rfl) m3 r3) (pa_cons (pe_glob (v := .ref fL) (by rfl) mL rfl) pa_nil)))))))
      (pss_cons (ps_if (pt_truth (pv 4) (fun _ => rfl)) (pss_one (ps_raiseE rfl (.inr rfl) T2 B2 e2.exC e2.tyC hr1 (takes_of rfl rfl rfl rfl) (pa_cons (pe_ix ix_tup (pv 4) pe_int (fun _ _ => rfl)) pa_nil) (by rfl))) pss_nil)
      (pss_cons (ps_set (i := 5) scCheck.nd rfl (Or.inr rfl) (pe_callB call_len_seq (by rfl) B.len (by decide +kernel) (pa_cons (pv 2) pa_nil)))
      (pss_cons (ps_set (i := 4) scCheck.nd rfl (Or.inl rfl) (pe_fwl (params := lamParams lamE) (body := lamBody lamE) (scope := lamScope lamE) FF B (hr.mono (by decide)) (by rfl) mF kF bF GC mC kC bC rfl (NdefX.ndef_free (sc := defScope sCheck) (fr := ["many"]) (by decide +kernel)) (NdefX.ndef_fr (sc := defScope sCheck) (by decide +kernel)) rfl (NdefX.nscope_by (by decide +kernel)) rfl
          (fun _ _ _ _ _ _ us hl => match us, hl with | [_], _ => rfl)
          (pa_cons (pv 3) (pa_cons (pe_op op_catT (pe_op op_catT (pv 0) (pv 1)) (pv 2)) (pa_cons pe_int (pa_cons (pe_glob (by rfl) m4 r4) (pa_cons (LamV.pe_lam TB rfl inT rfl only rfl (NdefX.ndef_free (sc := defScope sCheck) (fr := ["many"]) (by decide +kernel))) pa_nil)))))))
      (pss_one (ps_if (pt_truth (pv 4) (fun _ => rfl)) (pss_one (ps_raiseE rfl (.inr rfl) T3 B3 e3.exC e3.tyC hr1 (takes_of rfl rfl rfl rfl) (pa_cons (pe_ix ix_tup (pv 4) pe_int (fun _ _ => rfl)) pa_nil) (by rfl))) pss_nil))))))))), ?_⟩
    clear hr4 hr1 hr
    have le0 : ([] : List V).length ≤ sizeLine := Nat.zero_le _
    refine ⟨_, rfl, le0, fun p0 np0 => ?_⟩
    have x0 : Ex H (upd H p0 (.tup [])) := Ex.refl.new np0
    have t0 := TabsN.exs tabs x0
    have h0 : (upd H p0 (.tup [])) p0 = some (.tup []) := upd_same
    generalize upd H p0 (.tup []) = H0 at x0 t0 h0 ⊢
    refine ⟨x1, p0, [], [], 1, 6, fS, sharesOf, rfl, ⟨h0, .nil, by decide, by decide, by decide, by decide⟩, d1.exN x0.n, .inl ⟨rfl, rfl⟩, fun p1 H1 y1 np1 h1 => ?_⟩
    rw [fw_exN d1.kn x0.n (R := onTup sharesOf H) fun xs hx v hv => ⟨onTup_exN (d1.2 xs hx v hv).kn x0.n, nameOf_exN (d1.2 xs hx v hv).kn x0.n⟩] at h1
    have t1 := TabsN.exs t0 y1
    have n1 := x0.trans y1
    rcases fw_two (R := onTup sharesOf H) (nm := nameOf H) (few := 1) (most := 6) (tk := []) (o := tupOf H x1) with z1 | ⟨v, z1⟩
    case inr =>
      rw [z1] at h1
      refine ⟨_, rfl, true, .inr (.inl ⟨_, SqT.of h1, rfl⟩), ?_⟩
      refine ⟨_, rfl, p1, _, 0, v, rfl, rfl, SqT.of h1, atI_nat (j := 0) rfl, ?_⟩
      refine ⟨v, rfl, fun d nd => bad 0 v (by unfold due4; rw [z1]) _ d (n1.new nd).n (t1.ext (Ex.refl.new nd)) upd_same⟩
    rw [z1] at h1
    refine ⟨_, rfl, false, .inr (.inl ⟨[], SqT.of h1, rfl⟩), ?_⟩
    obtain ⟨xm, hx1, lm, w1⟩ := fw_let z1
    obtain ⟨am, rfl, ha⟩ := tup_ref hx1
    obtain ⟨rm, km⟩ := fwAt_all (by decide) w1
    have nm := fun v hv => named_of heads_shares (rm v hv)
    have m1 := (names_of ha).1
    refine ⟨_, rfl, _, rfl, x2, am, xm, xm.map (nameOf H), 0, 6, fS, sharesOf, rfl, ⟨n1 _ _ ha, paired_at n1.n nm, by decide, by decide, by decide, by omega⟩, d2.exN n1.n, .inl ⟨rfl, rfl⟩, fun p2 H2 y2 np2 h2 => ?_⟩
    rw [fw_exN d2.kn n1.n (R := onTup sharesOf H) fun xs hx v hv => ⟨onTup_exN (d2.2 xs hx v hv).kn n1.n, nameOf_exN (d2.2 xs hx v hv).kn n1.n⟩] at h2
    have t2 := TabsN.exs t1 y2
    have n2 := n1.trans y2
    rcases fw_two (R := onTup sharesOf H) (nm := nameOf H) (few := 0) (most := 6) (tk := xm.map (nameOf H)) (o := tupOf H x2) with z2 | ⟨v, z2⟩
    case inr =>
      rw [z2] at h2
      refine ⟨_, rfl, true, .inr (.inl ⟨_, SqT.of h2, rfl⟩), ?_⟩
      refine ⟨_, rfl, p2, _, 0, v, rfl, rfl, SqT.of h2, atI_nat (j := 0) rfl, ?_⟩
      refine ⟨v, rfl, fun d nd => bad 1 v (by unfold due4; rw [z1]; simp only; rw [m1, z2]) _ d (n2.new nd).n (t2.ext (Ex.refl.new nd)) upd_same⟩
    rw [z2] at h2
    refine ⟨_, rfl, false, .inr (.inl ⟨[], SqT.of h2, rfl⟩), ?_⟩
    obtain ⟨xc, hx2, lc, w2⟩ := fw_let z2
    obtain ⟨ac, rfl, hc⟩ := tup_ref hx2
    obtain ⟨rc, kc⟩ := fwAt_all (by decide) w2
    have nc := fun v hv => named_of heads_shares (rc v hv)
    have m2 := (names_of hc).1
    have ne : xm ≠ [] := fun z => by
      rw [z] at lm
      exact absurd lm (by decide)
    have nmc : ∀ v ∈ xm ++ xc, Named H v (nameOf H v) := fun v hv => (List.mem_append.mp hv).elim (nm v) (nc v)
    refine ⟨_, rfl, _, rfl, _, rfl, rd_cat (n2 _ _ ha) (n2 _ _ hc) ne (by omega) fun pc H3 y3 h3 => ?_⟩
    have t3 := TabsN.exs t2 y3
    have n3 := n2.trans y3
    refine ⟨x3, pc, xm ++ xc, (xm ++ xc).map (nameOf H), 1, 3, fL, limOf, rfl, ⟨h3, paired_at n3.n nmc, by decide, by decide, by decide, by rw [List.length_append]; omega⟩, d3.exN n3.n, .inr ⟨rfl, rfl⟩, fun p4 H4 y4 np4 h4 => ?_⟩
    rw [fw_exN d3.kn n3.n (R := onTup limOf H) fun xs hx v hv => ⟨onTup_exN (d3.2 xs hx v hv).kn n3.n, nameOf_exN (d3.2 xs hx v hv).kn n3.n⟩] at h4
    have t4 := TabsN.exs t3 y4
    have n4 := n3.trans y4
    rcases fw_two (R := onTup limOf H) (nm := nameOf H) (few := 1) (most := 3) (tk := (xm ++ xc).map (nameOf H)) (o := tupOf H x3) with z3 | ⟨v, z3⟩
    case inr =>
      rw [z3] at h4
      refine ⟨_, rfl, true, .inr (.inl ⟨_, SqT.of h4, rfl⟩), ?_⟩
      refine ⟨_, rfl, p4, _, 0, v, rfl, rfl, SqT.of h4, atI_nat (j := 0) rfl, ?_⟩
      refine ⟨v, rfl, fun d nd => bad 2 v (by unfold due4; rw [z1]; simp only; rw [m1, z2]; simp only; rw [m2, ← List.map_append, z3]) _ d (n4.new nd).n (t4.ext (Ex.refl.new nd)) upd_same⟩
    rw [z3] at h4
    refine ⟨_, rfl, false, .inr (.inl ⟨[], SqT.of h4, rfl⟩), ?_⟩
    obtain ⟨xs, hx3, ls, w3⟩ := fw_let z3
    obtain ⟨as, rfl, hs⟩ := tup_ref hx3
    obtain ⟨rs, ks⟩ := fwAt_all (by decide) w3
    have ns := fun v hv => named_of heads_lim (rs v hv)
    have m3 := (names_of hs).1
    have l3 := (names_of hs).2
    have n5 : ∀ v ∈ xm ++ xc ++ xs, Named H v (nameOf H v) := fun v hv => (List.mem_append.mp hv).elim (nmc v) (ns v)
    refine ⟨_, rfl, as, xs, rfl, .inr (SqT.of (n4 _ _ hs)), ?_⟩
    refine ⟨_, rfl, _, rfl, _, rfl, rd_cat (n4 _ _ ha) (n4 _ _ hc) ne (by omega) fun pd H5 y5 h5 => ?_⟩
    have t5 := TabsN.exs t4 y5
    have k5 := n4.trans y5
    have ne2 : xm ++ xc ≠ [] := fun z => ne (List.append_eq_nil_iff.mp z).1
    refine ⟨_, rfl, rd_cat h5 (k5 _ _ hs) ne2 (by rw [List.length_append]; omega) fun pe H6 y6 h6 => ?_⟩
    have t6 := TabsN.exs t5 y6
    have k6 := k5.trans y6
    refine ⟨t6, fun fl c1 H7 x7 _ t7 _ efl ec1 => ?_⟩
    have n7 : ExtN H H7 := k6.n.trans x7
    refine ⟨x4, pe, xm ++ xc ++ xs, (xm ++ xc ++ xs).map (nameOf H), 1, 8, xs.length, fl, c1, rfl, ⟨tup_n x7 h6, paired_at n7 n5, by decide, by decide, by decide, by rw [List.length_append, List.length_append]; omega⟩, d4.exN n7, rfl, efl, ec1, fun p8 H8 y8 np8 h8 => ?_⟩
    rw [fw_exN d4.kn n7 (R := onTup (contOf H xs.length) H) fun ys hx v hv => ⟨cont_exN (d4.2 ys hx v hv) n7, nameOf_exN (d4.2 ys hx v hv).kn n7⟩] at h8
    have t8 := TabsN.exs t7 y8
    have n8 : ExtN H H8 := n7.trans y8.n
    have m5 : xm.map (nameOf H) ++ xc.map (nameOf H) ++ xs.map (nameOf H) = (xm ++ xc ++ xs).map (nameOf H) := by
      rw [List.map_append, List.map_append]
    rcases fw_two (R := onTup (contOf H xs.length) H) (nm := nameOf H) (few := 1) (most := 8) (tk := (xm ++ xc ++ xs).map (nameOf H)) (o := tupOf H x4) with z4 | ⟨v, z4⟩
    case inr =>
      rw [z4] at h8
      refine ⟨_, rfl, true, .inr (.inl ⟨_, SqT.of h8, rfl⟩), ?_⟩
      refine ⟨_, rfl, p8, _, 0, v, rfl, rfl, SqT.of h8, atI_nat (j := 0) rfl, ?_⟩
      refine ⟨v, rfl, fun d nd => bad 3 v (by unfold due4; rw [z1]; simp only; rw [m1, z2]; simp only; rw [m2, ← List.map_append, z3]; simp only; rw [List.map_append, m3, l3, m5, z4]) _ d (n8.trans (Ex.refl.new nd).n) (t8.ext (Ex.refl.new nd)) upd_same⟩
    rw [z4] at h8
    refine ⟨_, rfl, false, .inr (.inl ⟨[], SqT.of h8, rfl⟩), ?_⟩
    obtain ⟨xp, hx4, lp, w4⟩ := fw_let z4
    obtain ⟨ap, rfl, hp⟩ := tup_ref hx4
    exact good (by unfold due4; rw [z1]; simp only; rw [m1, z2]; simp only; rw [m2, ← List.map_append, z3]; simp only; rw [List.map_append, m3, l3, m5, z4]) am ac as ap xm xc xs xp rfl rfl rfl rfl
      ⟨ha, hc, hs, hp, d1, d2, d3, d4, by omega, by omega, by omega, w1, w2, w3, w4⟩ H8 n8 t8
end
end LJ
set_option Elab.async false
set_option linter.all false
set_option maxRecDepth 100000
set_option maxHeartbeats 8000000
/-! What the check let is drawn as data. -/
namespace LJ
open PySem PySem.Spec L2
open LamX (ExtN TabB)
open NdefX (NTab TabsN)
theorem paired_of {α : Type} {F : V → α → Prop} : ∀ {xs : List V}, (∀ v ∈ xs, ∃ r, F v r) → ∃ rs, Paired F xs rs
  | [], _ => ⟨[], .nil⟩
  | x :: xs, h => by
    obtain ⟨r, hr⟩ := h x (List.mem_cons_self ..)
    obtain ⟨rs, p⟩ := paired_of fun v hv => h v (List.mem_cons_of_mem _ hv)
    exact ⟨r :: rs, .cons hr p⟩
theorem paired_all {α : Type} {F : V → α → Prop} {G : α → Prop} : ∀ {xs : List V} {rs : List α}, Paired (fun v r => F v r ∧ G r) xs rs → Paired F xs rs ∧ ∀ r ∈ rs, G r
  | _, _, .nil => ⟨.nil, fun _ z => nomatch z⟩
  | _, _, .cons h t => ⟨.cons h.1 (paired_all t).1, fun r hr => (List.mem_cons.mp hr).elim (fun e => e ▸ h.2) ((paired_all t).2 r)⟩
theorem both {a b : Bool} (h : (a && b) = true) : a = true ∧ b = true := by
  cases a <;> cases b <;> first | exact ⟨rfl, rfl⟩ | cases h
theorem w8 {s : Str} (h : isW s = true) : s.length ≤ 8 := by
  unfold isW at h
  exact of_decide_eq_true (both (both h).2).1
theorem bnd_of {m : Int} {xs : List V} (h : bndOf m xs = true) : ∃ i j, xs = [.int i, .int j] ∧ 0 ≤ i ∧ i ≤ j ∧ j ≤ m := by
  match xs, h with
  | [.int i, .int j], h =>
    have h : (decide (0 ≤ i) && (decide (i ≤ j) && decide (j ≤ m))) = true := h
    exact ⟨i, j, rfl, of_decide_eq_true (both h).1, of_decide_eq_true (both (both h).2).1, of_decide_eq_true (both (both h).2).2⟩
theorem str_of : ∀ {y : V}, isN y = true → ∃ s, y = .str s ∧ isW s = true
  | .str s, h => ⟨s, rfl, h⟩
theorem row3_of {H : Hp} {v : V} (h : onTup sharesOf H v = true) : ∃ r, Row3 H v r ∧ Fit3 r := by
  unfold onTup at h
  split at h
  · rename_i xs e
    obtain ⟨a, rfl, ha⟩ := tup_ref e
    match xs, h, ha with
    | [n, x, y], h, ha =>
      have h : (isN n && bndOf 1000 [x, y]) = true := h
      obtain ⟨s, rfl, hs⟩ := str_of (both h).1
      obtain ⟨i, j, e1, i0, ij, j1⟩ := bnd_of (both h).2
      cases e1
      exact ⟨(s, i, j), ⟨a, rfl, ha⟩, w8 hs, i0, ij, by show j ≤ _; omega⟩
  · cases h
theorem row2_of {H : Hp} {v : V} (h : onTup limOf H v = true) : ∃ r, Row2 H v r ∧ Fit2 r := by
  unfold onTup at h
  split at h
  · rename_i xs e
    obtain ⟨a, rfl, ha⟩ := tup_ref e
    match xs, h, ha with
    | [n, .int i], h, ha =>
      have h : (isN n && (decide (0 ≤ i) && decide (i ≤ top12))) = true := h
      obtain ⟨s, rfl, hs⟩ := str_of (both h).1
      exact ⟨(s, i), ⟨a, rfl, ha⟩, w8 hs, of_decide_eq_true (both (both h).2).1, of_decide_eq_true (both (both h).2).2⟩
  · cases h
theorem pair_of {H : Hp} {y : V} (h : isBnd H y top12 = true) : ∃ b, Bnd H y b ∧ Small b := by
  unfold isBnd at h
  split at h
  · rename_i xs e
    obtain ⟨a, rfl, ha⟩ := tup_ref e
    obtain ⟨i, j, rfl, i0, ij, j1⟩ := bnd_of h
    exact ⟨(i, j), ⟨a, rfl, ha⟩, i0, ij, j1⟩
  · cases h
theorem rowP_of {H : Hp} {v : V} {m : Nat} (h : onTup (contOf H m) H v = true) : ∃ r, RowP H v r ∧ r.1.length ≤ 8 ∧ r.2.length = m ∧ ∀ b ∈ r.2, Small b := by
  unfold onTup at h
  split at h
  · rename_i xs e
    obtain ⟨a, rfl, ha⟩ := tup_ref e
    match xs, h, ha with
    | [n, t], h, ha =>
      have h : (isN n && pairsOf H m (tupOf H t)) = true := h
      obtain ⟨s, rfl, hs⟩ := str_of (both h).1
      have h2 := (both h).2
      cases et : tupOf H t with
      | none =>
        rw [et] at h2
        cases h2
      | some ps =>
        rw [et] at h2
        obtain ⟨b, rfl, hb⟩ := tup_ref et
        have h2 : (decide ((ps.length : Int) = m) && ps.all fun y => isBnd H y top12) = true := h2
        have l := of_decide_eq_true (both h2).1
        obtain ⟨rs, p⟩ := paired_of fun y hy => pair_of (List.all_eq_true.mp (both h2).2 y hy)
        obtain ⟨p1, p2⟩ := paired_all p
        have z := Paired.size p1
        exact ⟨(s, rs), ⟨a, b, ps, rfl, ha, hb, p1⟩, w8 hs, by show rs.length = m; omega, p2⟩
  · cases h
/-- works that the check let, as data -/
theorem fit_data {K : PySem.W.Frag} {H : Hp} {am ac as ap : Addr} {xm xc xs xp : List V} (F : Fit K H am ac as ap xm xc xs xp) :
    ∃ W : Wd, Paired (Row3 H) xm W.ms ∧ Paired (Row3 H) xc W.cs ∧ Paired (Row2 H) xs W.ss ∧ Paired (RowP H) xp W.ps ∧ Told W ∧ ∀ p ∈ W.ps, p.2.length = W.ss.length := by
  obtain ⟨a1, b1⟩ := fwAt_all (by decide) F.fm
  obtain ⟨a2, b2⟩ := fwAt_all (by decide) F.fc
  obtain ⟨a3, b3⟩ := fwAt_all (by decide) F.fs
  obtain ⟨a4, b4⟩ := fwAt_all (by decide) F.fp
  obtain ⟨ms, pm⟩ := paired_of fun v hv => row3_of (a1 v hv)
  obtain ⟨cs, pc⟩ := paired_of fun v hv => row3_of (a2 v hv)
  obtain ⟨ss, ps⟩ := paired_of fun v hv => row2_of (a3 v hv)
  obtain ⟨pp, pq⟩ := paired_of fun v hv => rowP_of (a4 v hv)
  obtain ⟨m1, m2⟩ := paired_all pm
  obtain ⟨c1, c2⟩ := paired_all pc
  obtain ⟨s1, s2⟩ := paired_all ps
  obtain ⟨p1, p2⟩ := paired_all pq
  have l1 := Paired.size m1
  have l2 := Paired.size c1
  have l3 := Paired.size s1
  have l4 := Paired.size p1
  refine ⟨⟨ms, cs, ss, pp⟩, m1, c1, s1, p1, ⟨?_, ?_, ?_, ?_, m2, c2, s2, fun r hr => ⟨(p2 r hr).1, ?_, (p2 r hr).2.2⟩⟩, fun r hr => ?_⟩
  · show ms.length ≤ 10
    omega
  · show cs.length ≤ 10
    omega
  · show ss.length ≤ 10
    omega
  · show pp.length ≤ 10
    omega
  · have z := (p2 r hr).2.1
    omega
  · show r.2.length = ss.length
    rw [(p2 r hr).2.1, l3]
end LJ
set_option Elab.async false
set_option linter.all false
set_option maxRecDepth 100000
set_option maxHeartbeats 8000000
/-! Works.__init__ over any known values. -/
namespace LJ
open PySem PySem.Spec L2
open LamX (ExtN TabB)
open NdefX (NTab TabsN)
def spInit4 (K : PySem.W.Frag) (C : Addr) (ce : Nat → Addr) (T : List NTab) : Sp := fun vs H Q E => ∃ (x dx : Addr) (x1 x2 x3 x4 : V), vs = [.ref x, x1, x2, x3, x4] ∧ H x = some (.ins C dx []) ∧ Deep K H 2 x1 ∧ Deep K H 2 x2 ∧ Deep K H 2 x3 ∧ Deep K H 4 x4 ∧ TabsN T H ∧
  (due4 H x1 x2 x3 x4 = none → ∀ H1, (∀ b o, b ≠ x → H b = some o → (∀ ps, o ≠ .tbl ps) → H1 b = some o) → TabsN T H1 → Q .non H1) ∧
  (∀ k v, due4 H x1 x2 x3 x4 = some (k, v) → ∀ H1 d, ExtN H H1 → TabsN T H1 → H1 d = some (.xd [(("index" : Str), v)]) → E (.ref (ce k)) (some d) H1)
section
variable {P : Program} {w : World} {K : PySem.W.Frag} {mg : Str → Option Value} {base : Heap}
theorem ok_init4 {f fC fB fT C : Addr} {ce : Nat → Addr} {fd fdC fdB fdT : FuncData} {T : List NTab} (F : Fun K "__init__" "Works.__init__" sInit f fd) (c : WCls K C)
    (GC : FnOk P w K mg base (L2.CX P w) 6 fC fdC pCheck (spCheck4 K ce T)) (mC : mg "_check" = some (.ref fC)) (kC : PySem.W.keepIn K (.ref fC) = true) (bC : Binds K fdC pCheck [])
    (GB : FnOk P w K mg base CX0 1 fB fdB ["stuffs", "contents"] spBy) (mB : mg "_by_stuff" = some (.ref fB)) (kB : PySem.W.keepIn K (.ref fB) = true) (bB : Binds K fdB ["stuffs", "contents"] [])
    (GT : FnOk P w K mg base CX0 2 fT fdT ["machines", "cleanings", "stuffs", "products"] spText) (mT : mg "_text_of" = some (.ref fT)) (kT : PySem.W.keepIn K (.ref fT) = true) (bT : Binds K fdT ["machines", "cleanings", "stuffs", "products"] []) :
    FnOk P w K mg base (L2.CX P w) 7 f fd pInit (spInit4 K C ce T) := by
  refine F.okX scInit (fun vs H Q E h => ?_) (fun cdv A outer s H vs Q E hr h => ?_)
  · obtain ⟨x, dx, x1, x2, x3, x4, rfl, _⟩ := h
    rfl
  · obtain ⟨x, dx, x1, x2, x3, x4, rfl, hx, d1, d2, d3, d4, tabs, q, bad⟩ := h
    have hr1 : Room 1 _ := hr.mono (by decide)
    have hr2 : Room 2 _ := hr.mono (by decide)
    refine ⟨_, pss_cons (ps_expr (pe_call GC hr (by rfl) mC kC bC .nil (passes_call (W := fun cls d _ H => E cls d H) (takes_of rfl rfl rfl rfl) (fun _ _ _ _ z => z)) (pa_cons (pv 1) (pa_cons (pv 2) (pa_cons (pv 3) (pa_cons (pv 4) pa_nil))))))
      (pss_cons (ps_fld (pv 0) (pv 1) rfl)
      (pss_cons (ps_fld (pv 0) (pv 2) rfl)
      (pss_cons (ps_fld (pv 0) (pv 3) rfl)
      (pss_cons (ps_fld (pv 0) (pv 4) rfl)
      (pss_cons (ps_fld (pv 0) (pe_dc (own := [("name", 5), ("low", 6), ("high", 7)]) (g := gTup K 3 (gCons (gName 5) (gCons (gName 6) (gCons (gName 7) gNil)))) (by rfl) scInit.nd (pi_tup (pv 1)) (blkOk_by (own := [("name", 5), ("low", 6), ("high", 7)]) (N := nInit) (sc := defScope sInit) (by decide +kernel))
          (fun _ _ _ _ _ => pg_tup (by rfl) (pgs_cons (pg_name (i := 5) scInit.nd rfl (Or.inl rfl)) (pgs_cons (pg_name (i := 6) scInit.nd rfl (Or.inl rfl)) (pgs_cons (pg_name (i := 7) scInit.nd rfl (Or.inl rfl)) pgs_nil)))) (fun _ _ _ _ _ => pts_nil)
          (fun _ _ _ _ _ => pv 5) (fun _ _ _ _ _ => pe_tup (pa_cons (pv 6) (pa_cons (pv 7) pa_nil)))) rfl)
      (pss_cons (ps_fld (pv 0) (pe_dc (own := [("name", 5), ("low", 6), ("high", 7)]) (g := gTup K 3 (gCons (gName 5) (gCons (gName 6) (gCons (gName 7) gNil)))) (by rfl) scInit.nd (pi_tup (pv 2)) (blkOk_by (own := [("name", 5), ("low", 6), ("high", 7)]) (N := nInit) (sc := defScope sInit) (by decide +kernel))
          (fun _ _ _ _ _ => pg_tup (by rfl) (pgs_cons (pg_name (i := 5) scInit.nd rfl (Or.inl rfl)) (pgs_cons (pg_name (i := 6) scInit.nd rfl (Or.inl rfl)) (pgs_cons (pg_name (i := 7) scInit.nd rfl (Or.inl rfl)) pgs_nil)))) (fun _ _ _ _ _ => pts_nil)
          (fun _ _ _ _ _ => pv 5) (fun _ _ _ _ _ => pe_tup (pa_cons (pv 6) (pa_cons (pv 7) pa_nil)))) rfl)
      (pss_cons (ps_fld (pv 0) (pe_dc (own := [("name", 5), ("most", 8)]) (g := gTup K 2 (gCons (gName 5) (gCons (gName 8) gNil))) (by rfl) scInit.nd (pi_tup (pv 3)) (blkOk_by (own := [("name", 5), ("most", 8)]) (N := nInit) (sc := defScope sInit) (by decide +kernel))
          (fun _ _ _ _ _ => pg_tup (by rfl) (pgs_cons (pg_name (i := 5) scInit.nd rfl (Or.inl rfl)) (pgs_cons (pg_name (i := 8) scInit.nd rfl (Or.inl rfl)) pgs_nil))) (fun _ _ _ _ _ => pts_nil)
          (fun _ _ _ _ _ => pv 5) (fun _ _ _ _ _ => pv 8)) rfl)
      (pss_cons (ps_fld (pv 0) (pe_dc (own := [("name", 5), ("contents", 9)]) (g := gTup K 2 (gCons (gName 5) (gCons (gName 9) gNil))) (by rfl) scInit.nd (pi_tup (pv 4)) (blkOk_by (own := [("name", 5), ("contents", 9)]) (N := nInit) (sc := defScope sInit) (by decide +kernel))
          (fun _ _ _ _ _ => pg_tup (by rfl) (pgs_cons (pg_name (i := 5) scInit.nd rfl (Or.inl rfl)) (pgs_cons (pg_name (i := 9) scInit.nd rfl (Or.inl rfl)) pgs_nil))) (fun _ _ _ _ _ => pts_nil)
          (fun _ _ _ _ _ => pv 5) (fun _ _ _ _ _ => pe_call GB hr1 (by rfl) mB kB bB .nil pass0 (pa_cons (pv 3) (pa_cons (pv 9) pa_nil)))) rfl)
      (pss_one (ps_fld (pv 0) (pe_call GT hr2 (by rfl) mT kT bT .nil pass0 (pa_cons (pv 1) (pa_cons (pv 2) (pa_cons (pv 3) (pa_cons (pv 4) pa_nil))))) rfl)))))))))), ?_⟩
    have two : 2 ≤ sizeLine := by
      rw [sizeLine_eq]
      decide
    have few : ∀ {n : Nat}, n < 100 → n < 1000 := fun h => by omega
    refine ⟨_, rfl, _, rfl, _, rfl, _, rfl, x1, x2, x3, x4, rfl, d1, d2, d3, d4, tabs, fun hd am ac as ap vm vc vs2 vp ea eb ec ed fit H1 x1 tabs1 => ?_, bad⟩
    subst ea eb ec ed
    obtain ⟨W, pm, pc, ps, pp, T1, same⟩ := fit_data fit
    have l1 : vm.length = W.ms.length := Paired.size pm
    have l2 : vc.length = W.cs.length := Paired.size pc
    have l3 : vs2.length = W.ss.length := Paired.size ps
    have l4 : vp.length = W.ps.length := Paired.size pp
    have w1 := T1.lm
    have w2 := T1.lc
    have w3 := T1.ls
    have w4 := T1.lp
    have hx1 : H1 x = some (.ins C dx []) := x1 _ _ hx fun _ z => nomatch z
    have fit1 := fit.exN x1
    have tt1 : Tup H H1 := fun a xs e => tup_n x1 e
    have pm1 := rows3 tt1 pm
    have pc1 := rows3 tt1 pc
    have ps1 := rows2 tt1 ps
    have pp1 := rowsP tt1 pp
    refine ⟨_, rfl, _, rfl, x, C, dx, _, rfl, hx1, c.cl, c.n1, few (by decide), ?_⟩
    refine ⟨_, rfl, _, rfl, x, C, dx, _, rfl, upd_same, c.cl, c.n2, (by decide : (1 : Nat) < 1000), ?_⟩
    refine ⟨_, rfl, _, rfl, x, C, dx, _, rfl, upd_same, c.cl, c.n3, (by decide : (2 : Nat) < 1000), ?_⟩
    refine ⟨_, rfl, _, rfl, x, C, dx, _, rfl, upd_same, c.cl, c.n4, (by decide : (3 : Nat) < 1000), ?_⟩
    rw [upd_upd, upd_upd, upd_upd]
    show tSeq _ _ _ _ (upd H1 x (.ins C dx [("_machines", .ref am), ("_cleanings", .ref ac), ("_stuffs", .ref as), ("_products", .ref ap)]))
    have B4 : But x H1 (upd H1 x (.ins C dx [("_machines", .ref am), ("_cleanings", .ref ac), ("_stuffs", .ref as), ("_products", .ref ap)])) := But.self
    have X4 : (upd H1 x (.ins C dx [("_machines", .ref am), ("_cleanings", .ref ac), ("_stuffs", .ref as), ("_products", .ref ap)])) x = some (.ins C dx [("_machines", .ref am), ("_cleanings", .ref ac), ("_stuffs", .ref as), ("_products", .ref ap)]) := upd_same
    generalize upd H1 x (.ins C dx [("_machines", .ref am), ("_cleanings", .ref ac), ("_stuffs", .ref as), ("_products", .ref ap)]) = H4 at B4 X4 ⊢
    have t4 := But.tup hx1 B4
    have pm4 := rows3 t4 pm1
    have hm4 := t4 _ _ fit1.m
    refine ⟨_, rfl, am, rfl, ⟨vm, SqT.of hm4⟩, fun D1 n1 => dc_it walk_tup (fun i G => Ex H4 G ∧ ∃ vals : List V, vals.length = i ∧ Paired (Bnd G) vals ((W.ms.map (·.2)).take i) ∧ G D1 = some (.dK (mergeK [] (under ((W.ms.map (·.1)).take i) vals)))) ⟨Ex.refl.new n1, [], rfl, .nil, upd_same⟩ (fun i G _ h => SqT.of (h.1 _ _ hm4)) ?_ ?_⟩
    · rintro i v _ G hi ⟨xG, vals, vl, pv, eG⟩ ⟨rfl, hv⟩
      obtain ⟨⟨n, lo, up⟩, hr, a, rfl, ha⟩ := Paired.spot pm4 hv
      have e : G a = some (.tup [.str n, .int lo, .int up]) := xG _ _ ha
      have hn : (W.ms.map (·.1))[i]? = some n := by
        rw [List.getElem?_map, hr]
        rfl
      have hb : (W.ms.map (·.2))[i]? = some (lo, up) := by
        rw [List.getElem?_map, hr]
        rfl
      refine ⟨a, _, rfl, SqT.of e, rfl, _, _, rfl, _, _, rfl, _, _, rfl, rfl, rfl, ?_⟩
      refine ⟨_, rfl, _, rfl, _, rfl, two, fun p np => ?_⟩
      have nDp : D1 ≠ p := ne_of_none eG np
      have eD : (upd G p (.tup [.int lo, .int up])) D1 = some (.dK (mergeK [] (under ((W.ms.map (·.1)).take i) vals))) := by
        rw [upd_ne nDp]
        exact eG
      refine ⟨_, .inr n, rfl, eD, ?_, (xG.new np).put n1, vals ++ [.ref p], by rw [List.length_append, vl]; rfl, ?_, ?_⟩
      · have m := merge_len (more := under ((W.ms.map (·.1)).take i) vals) (kvs := [])
        have m2 : (under ((W.ms.map (·.1)).take i) vals).length ≤ i := by
          unfold under
          rw [List.length_map, List.length_zip, vl]
          exact Nat.min_le_right _ _
        rw [List.length_nil] at m
        rw [sizeLine_eq]
        omega
      · have tt : Tup G (upd (upd G p (.tup [.int lo, .int up])) D1 (.dK (putK (mergeK [] (under ((W.ms.map (·.1)).take i) vals)) (.inr n) (.ref p)))) := fun b xs h => by
          rw [upd_ne (ne_of h eG fun z => nomatch z), upd_ne (ne_of_none h np)]
          exact h
        rw [List.take_succ, hb]
        exact Paired.snoc (bnds tt pv) ⟨p, rfl, by rw [upd_ne nDp.symm]; exact upd_same⟩
      · rw [upd_same, under_snoc hn vl, merge_snoc]
    rintro G1 ⟨xG1, b1, bl1, pb1, eG1⟩
    rw [List.take_of_length_le (by rw [List.length_map]; omega), ] at pb1
    rw [List.take_of_length_le (by rw [List.length_map]; omega)] at eG1
    refine ⟨_, rfl, x, C, dx, _, rfl, xG1 _ _ X4, c.cl, c.n5, (by decide : (4 : Nat) < 1000), ?_⟩
    show tSeq _ _ _ _ (upd G1 x (.ins C dx [("_machines", .ref am), ("_cleanings", .ref ac), ("_stuffs", .ref as), ("_products", .ref ap), ("_holds", .ref D1)]))
    have S5 : But x H4 (upd G1 x (.ins C dx [("_machines", .ref am), ("_cleanings", .ref ac), ("_stuffs", .ref as), ("_products", .ref ap), ("_holds", .ref D1)])) := But.trans (But.ex xG1) But.self
    have V5 : But x G1 (upd G1 x (.ins C dx [("_machines", .ref am), ("_cleanings", .ref ac), ("_stuffs", .ref as), ("_products", .ref ap), ("_holds", .ref D1)])) := But.self
    have X5 : (upd G1 x (.ins C dx [("_machines", .ref am), ("_cleanings", .ref ac), ("_stuffs", .ref as), ("_products", .ref ap), ("_holds", .ref D1)])) x = some (.ins C dx [("_machines", .ref am), ("_cleanings", .ref ac), ("_stuffs", .ref as), ("_products", .ref ap), ("_holds", .ref D1)]) := upd_same
    have XG5 := xG1 _ _ X4
    generalize upd G1 x (.ins C dx [("_machines", .ref am), ("_cleanings", .ref ac), ("_stuffs", .ref as), ("_products", .ref ap), ("_holds", .ref D1)]) = H5 at S5 V5 X5 ⊢
    have B5 : But x H1 H5 := But.trans B4 S5
    have t5 := But.tup hx1 B5
    have d1_5 := V5 _ _ (ne_of eG1 XG5 fun z => nomatch z) eG1
    have p1_5 := bnds (But.tup XG5 V5) pb1
    have pc5 := rows3 t5 pc1
    have hc5 := t5 _ _ fit1.c
    refine ⟨_, rfl, ac, rfl, ⟨vc, SqT.of hc5⟩, fun D2 n2 => dc_it walk_tup (fun i G => Ex H5 G ∧ ∃ vals : List V, vals.length = i ∧ Paired (Bnd G) vals ((W.cs.map (·.2)).take i) ∧ G D2 = some (.dK (mergeK [] (under ((W.cs.map (·.1)).take i) vals)))) ⟨Ex.refl.new n2, [], rfl, .nil, upd_same⟩ (fun i G _ h => SqT.of (h.1 _ _ hc5)) ?_ ?_⟩
    · rintro i v _ G hi ⟨xG, vals, vl, pv, eG⟩ ⟨rfl, hv⟩
      obtain ⟨⟨n, lo, up⟩, hr, a, rfl, ha⟩ := Paired.spot pc5 hv
      have e : G a = some (.tup [.str n, .int lo, .int up]) := xG _ _ ha
      have hn : (W.cs.map (·.1))[i]? = some n := by
        rw [List.getElem?_map, hr]
        rfl
      have hb : (W.cs.map (·.2))[i]? = some (lo, up) := by
        rw [List.getElem?_map, hr]
        rfl
      refine ⟨a, _, rfl, SqT.of e, rfl, _, _, rfl, _, _, rfl, _, _, rfl, rfl, rfl, ?_⟩
      refine ⟨_, rfl, _, rfl, _, rfl, two, fun p np => ?_⟩
      have nDp : D2 ≠ p := ne_of_none eG np
      have eD : (upd G p (.tup [.int lo, .int up])) D2 = some (.dK (mergeK [] (under ((W.cs.map (·.1)).take i) vals))) := by
        rw [upd_ne nDp]
        exact eG
      refine ⟨_, .inr n, rfl, eD, ?_, (xG.new np).put n2, vals ++ [.ref p], by rw [List.length_append, vl]; rfl, ?_, ?_⟩
      · have m := merge_len (more := under ((W.cs.map (·.1)).take i) vals) (kvs := [])
        have m2 : (under ((W.cs.map (·.1)).take i) vals).length ≤ i := by
          unfold under
          rw [List.length_map, List.length_zip, vl]
          exact Nat.min_le_right _ _
        rw [List.length_nil] at m
        rw [sizeLine_eq]
        omega
      · have tt : Tup G (upd (upd G p (.tup [.int lo, .int up])) D2 (.dK (putK (mergeK [] (under ((W.cs.map (·.1)).take i) vals)) (.inr n) (.ref p)))) := fun b xs h => by
          rw [upd_ne (ne_of h eG fun z => nomatch z), upd_ne (ne_of_none h np)]
          exact h
        rw [List.take_succ, hb]
        exact Paired.snoc (bnds tt pv) ⟨p, rfl, by rw [upd_ne nDp.symm]; exact upd_same⟩
      · rw [upd_same, under_snoc hn vl, merge_snoc]
    rintro G2 ⟨xG2, b2, bl2, pb2, eG2⟩
    rw [List.take_of_length_le (by rw [List.length_map]; omega), ] at pb2
    rw [List.take_of_length_le (by rw [List.length_map]; omega)] at eG2
    refine ⟨_, rfl, x, C, dx, _, rfl, xG2 _ _ X5, c.cl, c.n6, (by decide : (5 : Nat) < 1000), ?_⟩
    show tSeq _ _ _ _ (upd G2 x (.ins C dx [("_machines", .ref am), ("_cleanings", .ref ac), ("_stuffs", .ref as), ("_products", .ref ap), ("_holds", .ref D1), ("_keeps", .ref D2)]))
    have S6 : But x H5 (upd G2 x (.ins C dx [("_machines", .ref am), ("_cleanings", .ref ac), ("_stuffs", .ref as), ("_products", .ref ap), ("_holds", .ref D1), ("_keeps", .ref D2)])) := But.trans (But.ex xG2) But.self
    have V6 : But x G2 (upd G2 x (.ins C dx [("_machines", .ref am), ("_cleanings", .ref ac), ("_stuffs", .ref as), ("_products", .ref ap), ("_holds", .ref D1), ("_keeps", .ref D2)])) := But.self
    have X6 : (upd G2 x (.ins C dx [("_machines", .ref am), ("_cleanings", .ref ac), ("_stuffs", .ref as), ("_products", .ref ap), ("_holds", .ref D1), ("_keeps", .ref D2)])) x = some (.ins C dx [("_machines", .ref am), ("_cleanings", .ref ac), ("_stuffs", .ref as), ("_products", .ref ap), ("_holds", .ref D1), ("_keeps", .ref D2)]) := upd_same
    have XG6 := xG2 _ _ X5
    generalize upd G2 x (.ins C dx [("_machines", .ref am), ("_cleanings", .ref ac), ("_stuffs", .ref as), ("_products", .ref ap), ("_holds", .ref D1), ("_keeps", .ref D2)]) = H6 at S6 V6 X6 ⊢
    have B6 : But x H1 H6 := But.trans B5 S6
    have t6 := But.tup hx1 B6
    have d2_6 := V6 _ _ (ne_of eG2 XG6 fun z => nomatch z) eG2
    have p2_6 := bnds (But.tup XG6 V6) pb2
    have d1_6 := S6 _ _ (ne_of d1_5 X5 fun z => nomatch z) d1_5
    have p1_6 := bnds (But.tup X5 S6) p1_5
    have ps6 := rows2 t6 ps1
    have hs6 := t6 _ _ fit1.s
    refine ⟨_, rfl, as, rfl, ⟨vs2, SqT.of hs6⟩, fun D3 n3 => dc_it walk_tup (fun i G => Ex H6 G ∧ G D3 = some (.dK (mergeK [] (under ((W.ss.map (·.1)).take i) ((W.ss.map fun r => V.int r.2).take i))))) ⟨Ex.refl.new n3, upd_same⟩ (fun i G _ h => SqT.of (h.1 _ _ hs6)) ?_ ?_⟩
    · rintro i v _ G hi ⟨xG, eG⟩ ⟨rfl, hv⟩
      obtain ⟨⟨n, m⟩, hr, a, rfl, ha⟩ := Paired.spot ps6 hv
      have e : G a = some (.tup [.str n, .int m]) := xG _ _ ha
      have hn : (W.ss.map (·.1))[i]? = some n := by
        rw [List.getElem?_map, hr]
        rfl
      have hb : (W.ss.map fun r => V.int r.2)[i]? = some (.int m) := by
        rw [List.getElem?_map, hr]
        rfl
      have il : i < W.ss.length := (List.getElem?_eq_some_iff.mp hr).1
      have vl : ((W.ss.map fun r => V.int r.2).take i).length = i := by
        rw [List.length_take, List.length_map]
        omega
      refine ⟨a, _, rfl, SqT.of e, rfl, _, _, rfl, _, _, rfl, rfl, rfl, ?_⟩
      refine ⟨_, rfl, _, rfl, _, .inr n, rfl, eG, ?_, xG.put n3, ?_⟩
      · have m := merge_len (more := under ((W.ss.map (·.1)).take i) ((W.ss.map fun r => V.int r.2).take i)) (kvs := [])
        have m2 : (under ((W.ss.map (·.1)).take i) ((W.ss.map fun r => V.int r.2).take i)).length ≤ i := by
          unfold under
          rw [List.length_map, List.length_zip, vl]
          exact Nat.min_le_right _ _
        rw [List.length_nil] at m
        rw [sizeLine_eq]
        omega
      · rw [upd_same, List.take_succ (l := W.ss.map fun r => V.int r.2), hb]
        show _ = some (HO.dK (mergeK [] (under ((W.ss.map (·.1)).take (i + 1)) ((W.ss.map fun r => V.int r.2).take i ++ [.int m]))))
        rw [under_snoc hn vl, merge_snoc]
    rintro G3 ⟨xG3, eG3⟩
    rw [List.take_of_length_le (by rw [List.length_map]; omega), List.take_of_length_le (by rw [List.length_map]; omega)] at eG3
    refine ⟨_, rfl, x, C, dx, _, rfl, xG3 _ _ X6, c.cl, c.n7, (by decide : (6 : Nat) < 1000), ?_⟩
    show tSeq _ _ _ _ (upd G3 x (.ins C dx [("_machines", .ref am), ("_cleanings", .ref ac), ("_stuffs", .ref as), ("_products", .ref ap), ("_holds", .ref D1), ("_keeps", .ref D2), ("_limits", .ref D3)]))
    have S7 : But x H6 (upd G3 x (.ins C dx [("_machines", .ref am), ("_cleanings", .ref ac), ("_stuffs", .ref as), ("_products", .ref ap), ("_holds", .ref D1), ("_keeps", .ref D2), ("_limits", .ref D3)])) := But.trans (But.ex xG3) But.self
    have V7 : But x G3 (upd G3 x (.ins C dx [("_machines", .ref am), ("_cleanings", .ref ac), ("_stuffs", .ref as), ("_products", .ref ap), ("_holds", .ref D1), ("_keeps", .ref D2), ("_limits", .ref D3)])) := But.self
    have X7 : (upd G3 x (.ins C dx [("_machines", .ref am), ("_cleanings", .ref ac), ("_stuffs", .ref as), ("_products", .ref ap), ("_holds", .ref D1), ("_keeps", .ref D2), ("_limits", .ref D3)])) x = some (.ins C dx [("_machines", .ref am), ("_cleanings", .ref ac), ("_stuffs", .ref as), ("_products", .ref ap), ("_holds", .ref D1), ("_keeps", .ref D2), ("_limits", .ref D3)]) := upd_same
    have XG7 := xG3 _ _ X6
    generalize upd G3 x (.ins C dx [("_machines", .ref am), ("_cleanings", .ref ac), ("_stuffs", .ref as), ("_products", .ref ap), ("_holds", .ref D1), ("_keeps", .ref D2), ("_limits", .ref D3)]) = H7 at S7 V7 X7 ⊢
    have B7 : But x H1 H7 := But.trans B6 S7
    have t7 := But.tup hx1 B7
    have d3_7 := V7 _ _ (ne_of eG3 XG7 fun z => nomatch z) eG3
    have d1_7 := S7 _ _ (ne_of d1_6 X6 fun z => nomatch z) d1_6
    have p1_7 := bnds (But.tup X6 S7) p1_6
    have d2_7 := S7 _ _ (ne_of d2_6 X6 fun z => nomatch z) d2_6
    have p2_7 := bnds (But.tup X6 S7) p2_6
    have pp7 := rowsP t7 pp1
    have ps7 := rows2 t7 ps1
    have hs7 := t7 _ _ fit1.s
    have hp7 := t7 _ _ fit1.p
    have nm7 : ∀ {G : Hp}, Ex H7 G → Paired (Named G) vs2 (W.ss.map (·.1)) := fun {G} e => paired_map (L2.Paired.mapP ps7 fun v r z => by
      obtain ⟨a, e1, e2⟩ := z
      exact ⟨a, _, e1, e _ _ e2⟩)
    refine ⟨_, rfl, ap, rfl, ⟨vp, SqT.of hp7⟩, fun D4 n4 => dc_it walk_tup (fun i G => Ex H7 G ∧ ∃ vals : List V, vals.length = i ∧ Paired (CBn W D4 G) vals (W.ps.take i) ∧ G D4 = some (.dK (mergeK [] (under ((W.ps.map (·.1)).take i) vals)))) ⟨Ex.refl.new n4, [], rfl, .nil, upd_same⟩ (fun i G _ h => SqT.of (h.1 _ _ hp7)) ?_ ?_⟩
    · rintro i v _ G hi ⟨xG, vals, vl, pv, eG⟩ ⟨rfl, hv⟩
      obtain ⟨⟨n, bs⟩, hr, a, t, vb, rfl, ha, ht, pb⟩ := Paired.spot pp7 hv
      have hn : (W.ps.map (·.1))[i]? = some n := by
        rw [List.getElem?_map, hr]
        rfl
      have sm : bs.length = W.ss.length := same _ (List.mem_of_getElem? hr)
      have vbl : vb.length = bs.length := Paired.size pb
      refine ⟨a, _, rfl, SqT.of (xG _ _ ha), rfl, _, _, rfl, _, _, rfl, rfl, rfl, ?_⟩
      refine ⟨_, rfl, _, rfl, _, rfl, as, t, vs2, vb, W.ss.map (·.1), rfl, xG _ _ hs7, xG _ _ ht, nm7 xG, by omega, by omega, fun Dp G2 x2 nDp eDp => ?_⟩
      have eG2 := x2 _ _ eG
      have nD : Dp ≠ D4 := (ne_of_none eG nDp).symm
      refine ⟨_, .inr n, rfl, eG2, ?_, (xG.trans x2).put n4, vals ++ [.ref Dp], by rw [List.length_append, vl]; rfl, ?_, ?_⟩
      · have m := merge_len (more := under ((W.ps.map (·.1)).take i) vals) (kvs := [])
        have m2 : (under ((W.ps.map (·.1)).take i) vals).length ≤ i := by
          unfold under
          rw [List.length_map, List.length_zip, vl]
          exact Nat.min_le_right _ _
        rw [List.length_nil] at m
        rw [sizeLine_eq]
        omega
      · have tt : Tup G2 (upd G2 D4 (.dK (putK (mergeK [] (under ((W.ps.map (·.1)).take i) vals)) (.inr n) (.ref Dp)))) := fun b xs h => by
          rw [upd_ne (ne_of h eG2 fun z => nomatch z)]
          exact h
        rw [List.take_succ, hr]
        refine Paired.snoc (L2.Paired.mapP pv fun v p z => ?_) ⟨Dp, vb, rfl, nD, by rw [upd_ne nD]; exact eDp, bnds tt (bnds (Ex.tup (xG.trans x2)) pb)⟩
        obtain ⟨D0, ys, e1, e2, e3, e4⟩ := z
        exact ⟨D0, ys, e1, e2, by rw [upd_ne e2]; exact x2 _ _ e3, bnds tt (bnds (Ex.tup x2) e4)⟩
      · rw [upd_same, under_snoc hn vl, merge_snoc]
    rintro G4 ⟨xG4, b4, bl4, pb4, eG4⟩
    rw [List.take_of_length_le (by omega)] at pb4
    rw [List.take_of_length_le (by rw [List.length_map]; omega)] at eG4
    refine ⟨_, rfl, x, C, dx, _, rfl, xG4 _ _ X7, c.cl, c.n8, (by decide : (7 : Nat) < 1000), ?_⟩
    show tSeq _ _ _ _ (upd G4 x (.ins C dx [("_machines", .ref am), ("_cleanings", .ref ac), ("_stuffs", .ref as), ("_products", .ref ap), ("_holds", .ref D1), ("_keeps", .ref D2), ("_limits", .ref D3), ("_contents", .ref D4)]))
    have S8 : But x H7 (upd G4 x (.ins C dx [("_machines", .ref am), ("_cleanings", .ref ac), ("_stuffs", .ref as), ("_products", .ref ap), ("_holds", .ref D1), ("_keeps", .ref D2), ("_limits", .ref D3), ("_contents", .ref D4)])) := But.trans (But.ex xG4) But.self
    have V8 : But x G4 (upd G4 x (.ins C dx [("_machines", .ref am), ("_cleanings", .ref ac), ("_stuffs", .ref as), ("_products", .ref ap), ("_holds", .ref D1), ("_keeps", .ref D2), ("_limits", .ref D3), ("_contents", .ref D4)])) := But.self
    have X8 : (upd G4 x (.ins C dx [("_machines", .ref am), ("_cleanings", .ref ac), ("_stuffs", .ref as), ("_products", .ref ap), ("_holds", .ref D1), ("_keeps", .ref D2), ("_limits", .ref D3), ("_contents", .ref D4)])) x = some (.ins C dx [("_machines", .ref am), ("_cleanings", .ref ac), ("_stuffs", .ref as), ("_products", .ref ap), ("_holds", .ref D1), ("_keeps", .ref D2), ("_limits", .ref D3), ("_contents", .ref D4)]) := upd_same
    have XG8 := xG4 _ _ X7
    generalize upd G4 x (.ins C dx [("_machines", .ref am), ("_cleanings", .ref ac), ("_stuffs", .ref as), ("_products", .ref ap), ("_holds", .ref D1), ("_keeps", .ref D2), ("_limits", .ref D3), ("_contents", .ref D4)]) = H8 at S8 V8 X8 ⊢
    have B8 : But x H1 H8 := But.trans B7 S8
    have t8 := But.tup hx1 B8
    have d4_8 := V8 _ _ (ne_of eG4 XG8 fun z => nomatch z) eG4
    have p4_8 : Paired (CBn W D4 H8) b4 W.ps := L2.Paired.mapP pb4 fun v p z => CBn.but XG8 V8 z
    have d3_8 := S8 _ _ (ne_of d3_7 X7 fun z => nomatch z) d3_7
    have d1_8 := S8 _ _ (ne_of d1_7 X7 fun z => nomatch z) d1_7
    have p1_8 := bnds (But.tup X7 S8) p1_7
    have d2_8 := S8 _ _ (ne_of d2_7 X7 fun z => nomatch z) d2_7
    have p2_8 := bnds (But.tup X7 S8) p2_7
    refine ⟨_, rfl, _, rfl, _, rfl, _, rfl, am, ac, as, ap, vm, vc, vs2, vp, W, rfl, t8 _ _ fit1.m, t8 _ _ fit1.c, t8 _ _ fit1.s, t8 _ _ fit1.p, rows3 t8 pm1, rows3 t8 pc1, rows2 t8 ps1, rowsP t8 pp1, T1, fun G5 xG5 => ?_⟩
    refine ⟨_, rfl, x, C, dx, _, rfl, xG5 _ _ X8, c.cl, c.n9, (by decide : (8 : Nat) < 1000), ?_⟩
    show Q .non (upd G5 x (.ins C dx [("_machines", .ref am), ("_cleanings", .ref ac), ("_stuffs", .ref as), ("_products", .ref ap), ("_holds", .ref D1), ("_keeps", .ref D2), ("_limits", .ref D3), ("_contents", .ref D4), ("_text", .str (wtext W))]))
    have S9 : But x H8 (upd G5 x (.ins C dx [("_machines", .ref am), ("_cleanings", .ref ac), ("_stuffs", .ref as), ("_products", .ref ap), ("_holds", .ref D1), ("_keeps", .ref D2), ("_limits", .ref D3), ("_contents", .ref D4), ("_text", .str (wtext W))])) := But.trans (But.ex xG5) But.self
    have V9 : But x G5 (upd G5 x (.ins C dx [("_machines", .ref am), ("_cleanings", .ref ac), ("_stuffs", .ref as), ("_products", .ref ap), ("_holds", .ref D1), ("_keeps", .ref D2), ("_limits", .ref D3), ("_contents", .ref D4), ("_text", .str (wtext W))])) := But.self
    have X9 : (upd G5 x (.ins C dx [("_machines", .ref am), ("_cleanings", .ref ac), ("_stuffs", .ref as), ("_products", .ref ap), ("_holds", .ref D1), ("_keeps", .ref D2), ("_limits", .ref D3), ("_contents", .ref D4), ("_text", .str (wtext W))])) x = some (.ins C dx [("_machines", .ref am), ("_cleanings", .ref ac), ("_stuffs", .ref as), ("_products", .ref ap), ("_holds", .ref D1), ("_keeps", .ref D2), ("_limits", .ref D3), ("_contents", .ref D4), ("_text", .str (wtext W))]) := upd_same
    have XG9 := xG5 _ _ X8
    generalize upd G5 x (.ins C dx [("_machines", .ref am), ("_cleanings", .ref ac), ("_stuffs", .ref as), ("_products", .ref ap), ("_holds", .ref D1), ("_keeps", .ref D2), ("_limits", .ref D3), ("_contents", .ref D4), ("_text", .str (wtext W))]) = H9 at S9 V9 X9 ⊢
    have B9 : But x H1 H9 := But.trans B8 S9
    have t9 := But.tup hx1 B9
    have d4_9 := S9 _ _ (ne_of d4_8 X8 fun z => nomatch z) d4_8
    have p4_9 : Paired (CBn W D4 H9) b4 W.ps := L2.Paired.mapP p4_8 fun v p z => CBn.but X8 S9 z
    have d3_9 := S9 _ _ (ne_of d3_8 X8 fun z => nomatch z) d3_8
    have d1_9 := S9 _ _ (ne_of d1_8 X8 fun z => nomatch z) d1_8
    have p1_9 := bnds (But.tup X8 S9) p1_8
    have d2_9 := S9 _ _ (ne_of d2_8 X8 fun z => nomatch z) d2_8
    have p2_9 := bnds (But.tup X8 S9) p2_8
    exact q hd H9 (fun b o n e nt => B9 b o n (x1 b o e nt)) (TabsN.but hx1 B9 tabs1)
end
end LJ
set_option Elab.async false
set_option linter.all false
set_option maxRecDepth 100000
set_option maxHeartbeats 8000000
/-! The law's own small tests: counts, names, bounds. -/
namespace LJ
open PySem PySem.Spec L2
abbrev sLcnt : Stmt := top 46
abbrev sLnm : Stmt := top 47
abbrev sLbd : Stmt := top 48
def cntOf (m : Int) : V → Bool
  | .int i => decide (0 ≤ i) && decide (i ≤ m)
  | _ => false
theorem cnt_no {m : Int} {x : V} (h : isI x = false) : cntOf m x = false := by
  cases x <;> first | rfl | cases h
def spLcnt (K : PySem.W.Frag) : Sp := fun vs H Q _ => ∃ (x : V) (m : Int), vs = [x, .int m] ∧ Kn K H x ∧ Q (.bl (cntOf m x)) H
def alphabet : Str := "abcdefghijklmnopqrstuvwxyz"
theorem alpha_low (c : Nat) : decide (c ∈ alphabet.cps.toList) = low c := by
  have e : alphabet.cps.toList = [97, 98, 99, 100, 101, 102, 103, 104, 105, 106, 107, 108, 109, 110, 111, 112, 113, 114, 115, 116, 117, 118, 119, 120, 121, 122] := by decide +kernel
  unfold low
  rw [e, ← Bool.decide_and]
  apply decide_eq_decide.mpr
  simp only [List.mem_cons, List.not_mem_nil, or_false]
  omega
section
variable {P : Program} {w : World} {K : PySem.W.Frag} {mg : Str → Option Value} {base : Heap}
theorem scLcnt : FnScope ["_law_thing", "_law_most"] ["_law_thing", "_law_most"] (defScope sLcnt) := ⟨rfl, rfl, rfl, by decide +kernel, rfl, by decide +kernel, by decide +kernel⟩
theorem ok_lcnt {f : Addr} {fd : FuncData} (F : Fun K "_law_is_count" "_law_is_count" sLcnt f fd) (B : BltI mg) : FnOk P w K mg base CX0 1 f fd ["_law_thing", "_law_most"] (spLcnt K) := by
  refine F.ok scLcnt (fun vs H Q E h => ?_) (fun cdv A outer s H vs Q E hr h => ?_)
  · obtain ⟨x, m, rfl, _⟩ := h
    rfl
  · obtain ⟨x, m, rfl, k, q⟩ := h
    refine ⟨_, pss_one (ps_ret (pe_and (pe_callB call_isi (by rfl) B.isinstance (by decide +kernel) (pa_cons (pv 0) (pa_cons (pe_bltn (by rfl) B.int (by decide +kernel) (v := .ty "int") rfl) pa_nil)))
      (pe_and (pe_not (pe_callB call_isi (by rfl) B.isinstance (by decide +kernel) (pa_cons (pv 0) (pa_cons (pe_bltn (by rfl) B.bool (by decide +kernel) (v := .ty "bool") rfl) pa_nil))))
        (pe_one (pe_chain op_le op_le pe_int (pv 0) (pv 1)))))), ?_⟩
    have z := rd_int k (Q := fun v H1 => v = .bl (isI x) ∧ H1 = H) ⟨rfl, rfl⟩
    obtain ⟨_, c, t, u, b, e1, e2, e3, e4, c1, e5, z⟩ := z
    cases e1
    refine ⟨_, rfl, _, _, t, u, b, rfl, e2, e3, e4, c1, e5, ?_⟩
    cases c1 with
    | false =>
      have z := V.bl.inj z.1
      rw [cnt_no z.symm] at q
      exact q
    | true =>
      obtain ⟨_, c, t, u, b, e1, e2, e3, e4, d, e5, z, _⟩ := z
      cases e1
      refine ⟨_, rfl, _, _, t, u, b, rfl, e2, e3, e4, d, e5, ?_⟩
      have z := V.bl.inj z
      refine ⟨_, rfl, ?_⟩
      rw [z]
      cases hi : isI x with
      | false =>
        rw [cnt_no hi] at q
        exact q
      | true =>
        obtain ⟨i, rfl⟩ := isI_int hi
        have q : Q (.bl (decide (0 ≤ i) && decide (i ≤ m))) H := q
        refine ⟨_, rfl, _, _, rfl, rfl, _, rfl, ?_⟩
        refine ite2 (fun c => ?_) (fun c => ?_)
        · rw [c, Bool.true_and] at q
          exact ⟨_, rfl, _, _, rfl, rfl, q⟩
        · rw [Bool.eq_false_iff.mpr c, Bool.false_and] at q
          exact q
def spLbd (K : PySem.W.Frag) : Sp := fun vs H Q _ => ∃ (x y : V) (m : Int), vs = [x, y, .int m] ∧ Kn K H x ∧ Kn K H y ∧ Q (.bl (bndOf m [x, y])) H
theorem scLbd : FnScope ["_law_low", "_law_high", "_law_most"] ["_law_low", "_law_high", "_law_most"] (defScope sLbd) := ⟨rfl, rfl, rfl, by decide +kernel, rfl, by decide +kernel, by decide +kernel⟩
theorem ok_lbd {f fC : Addr} {fd fdC : FuncData} (F : Fun K "_law_are_bounds" "_law_are_bounds" sLbd f fd)
    (GC : FnOk P w K mg base CX0 1 fC fdC ["_law_thing", "_law_most"] (spLcnt K)) (mC : mg "_law_is_count" = some (.ref fC)) (kC : PySem.W.keepIn K (.ref fC) = true) (bC : Binds K fdC ["_law_thing", "_law_most"] []) : FnOk P w K mg base CX0 2 f fd ["_law_low", "_law_high", "_law_most"] (spLbd K) := by
  refine F.ok scLbd (fun vs H Q E h => ?_) (fun cdv A outer s H vs Q E hr h => ?_)
  · obtain ⟨x, y, m, rfl, _⟩ := h
    rfl
  · obtain ⟨x, y, m, rfl, k1, k2, q⟩ := h
    refine ⟨_, pss_one (ps_ret (pe_and (pe_call GC hr (by rfl) mC kC bC .nil pass0 (pa_cons (pv 0) (pa_cons (pv 2) pa_nil))) (pe_and (pe_call GC hr (by rfl) mC kC bC .nil pass0 (pa_cons (pv 1) (pa_cons (pv 2) pa_nil)))
      (pe_one (pe_cmpR op_le (pv 0) (pv 1) (nomark _)))))), ?_⟩
    refine ⟨_, rfl, _, rfl, x, m, rfl, k1, _, rfl, ?_⟩
    cases h1 : isI x with
    | false =>
      rw [cnt_no h1]
      rw [bnd_fst (by rw [h1]; decide)] at q
      exact q
    | true =>
      obtain ⟨i, rfl⟩ := isI_int h1
      refine ite2 (fun c1 => ?_) (fun c1 => ?_)
      · refine ⟨_, rfl, _, rfl, y, m, rfl, k2, _, rfl, ?_⟩
        have c1 : (decide (0 ≤ i) && decide (i ≤ m)) = true := c1
        have a0 := of_decide_eq_true (both c1).1
        have a1 := of_decide_eq_true (both c1).2
        cases h2 : isI y with
        | false =>
          rw [cnt_no h2]
          rw [bnd_snd (by rw [h2]; decide)] at q
          exact q
        | true =>
          obtain ⟨j, rfl⟩ := isI_int h2
          have q : Q (.bl (decide (0 ≤ i) && (decide (i ≤ j) && decide (j ≤ m)))) H := q
          rw [decide_eq_true a0, Bool.true_and] at q
          refine ite2 (fun c2 => ?_) (fun c2 => ?_)
          · have c2 : (decide (0 ≤ j) && decide (j ≤ m)) = true := c2
            rw [decide_eq_true (of_decide_eq_true (both c2).2 : j ≤ m), Bool.and_true] at q
            exact ⟨_, rfl, _, rfl, _, _, rfl, rfl, q⟩
          · have e : (decide (i ≤ j) && decide (j ≤ m)) = false := by
              have c2 : ¬ (decide (0 ≤ j) && decide (j ≤ m)) = true := c2
              rw [← Bool.decide_and, decide_eq_true_eq] at c2
              rw [← Bool.decide_and, decide_eq_false_iff_not]
              omega
            rw [e] at q
            exact q
      · have e : bndOf m [.int i, y] = false := by
          have c1 : ¬ (decide (0 ≤ i) && decide (i ≤ m)) = true := c1
          rw [← Bool.decide_and, decide_eq_true_eq] at c1
          cases y with
          | int j =>
            show (decide (0 ≤ i) && (decide (i ≤ j) && decide (j ≤ m))) = false
            rw [← Bool.decide_and, ← Bool.decide_and, decide_eq_false_iff_not]
            omega
          | _ => rfl
        rw [e] at q
        exact q
theorem scLnm : FnScope ["_law_thing", "_law_sign"] ["_law_thing"] (defScope sLnm) := ⟨rfl, rfl, rfl, by decide +kernel, rfl, by decide +kernel, by decide +kernel⟩
theorem ok_lnm {f : Addr} {fd : FuncData} (F : Fun K "_law_is_name" "_law_is_name" sLnm f fd) (B : BltI mg) : FnOk P w K mg base CX0 1 f fd ["_law_thing"] (spName K) := by
  refine F.ok scLnm (fun vs H Q E h => ?_) (fun cdv A outer s H vs Q E hr h => ?_)
  · obtain ⟨x, rfl, _⟩ := h
    rfl
  · obtain ⟨x, rfl, k, q⟩ := h
    refine ⟨_, pss_cons (ps_if (PW.pt (pw_or (pt_not (pt_truth (pe_callB call_isi (by rfl) B.isinstance (by decide +kernel) (pa_cons (pv 0) (pa_cons (pe_bltn (by rfl) B.str (by decide +kernel) (v := .ty "str") rfl) pa_nil))) (fun _ => rfl)))
        (pw_or1 (pt_not (pt_chain op_lt op_lt pe_int (pe_callB call_len_str (by rfl) B.len (by decide +kernel) (pa_cons (pv 0) pa_nil)) pe_int))))) (pss_one (ps_ret pe_bl)) pss_nil)
      (pss_one (ps_ret (pe_callB (cr_all (by rfl)) (by rfl) B.all (by decide +kernel) (pa_cons (pe_lc (own := [("_law_sign", 1)]) (g := gName 1) (by rfl) scLnm.nd (pi_str (pv 0)) (blkOk_by (own := [("_law_sign", 1)]) (N := ["_law_thing", "_law_sign"]) (sc := defScope sLnm) (by decide +kernel)) (fun _ _ _ _ _ => pg_name scLnm.nd rfl (Or.inl rfl)) (fun _ _ _ _ _ => pts_nil) (fun _ _ _ _ _ => pe_cmpR op_inS (pv 1) pe_str rfl)) pa_nil)))), ?_⟩
    obtain ⟨t, b, ty, e, hb⟩ := k.atStr
    refine ⟨_, rfl, _, _, t, _, b, rfl, .ty "str", ty, e, b, rfl, ?_⟩
    rcases hb with ⟨rfl, s, rfl, le⟩ | ⟨rfl, n⟩
    · have out : ∀ c : Bool, c = false → isN (.str s) = c → Q (.bl false) H := fun c e1 e2 => by
        have z := q H Ex.refl
        rw [e2, e1] at z
        exact z
      refine ⟨_, rfl, s, rfl, le, 0, s.length, rfl, rfl, _, rfl, ?_⟩
      refine ite2 (fun c1 => ?_) (fun c1 => ?_)
      · refine ⟨_, _, rfl, rfl, _, rfl, ?_⟩
        have l1 : (0 : Int) < s.length := of_decide_eq_true c1
        by_cases c2 : (s.length : Int) < 9
        · rw [decide_eq_true c2]
          have l2 : s.length ≤ 8 := by omega
          have sz : s.cps.toList.length ≤ 8 := l2
          have big : (8 : Nat) < sizeLine := by
            rw [sizeLine_eq]
            decide
          refine ⟨_, rfl, s, rfl, fun D hD => lc_it walk_str (fun n H2 => Ex H H2 ∧ H2 D = some (.lst (((s.cps.toList.take n).map low).map V.bl))) ⟨Ex.refl.new hD, upd_same⟩ (fun _ _ _ _ => True.intro) ?_ ?_⟩
          · rintro i y _ H2 hi ⟨x2, e2⟩ ⟨rfl, c, hc, rfl⟩
            refine ⟨rfl, ?_⟩
            have hc2 : s.cps.toList[i]? = some c := by rw [Array.getElem?_toList]; exact hc
            have done : ∃ acc, H2 D = some (.lst acc) ∧ acc.length < sizeLine ∧ Ex H (upd H2 D (.lst (acc ++ [.bl (low c)]))) ∧ (upd H2 D (.lst (acc ++ [.bl (low c)]))) D = some (.lst (((s.cps.toList.take (i + 1)).map low).map V.bl)) := by
              refine ⟨_, e2, ?_, x2.put hD, ?_⟩
              · rw [List.length_map, List.length_map, List.length_take]
                omega
              · rw [upd_same, List.take_succ, hc2, List.map_append, List.map_append]
                rfl
            refine ⟨_, rfl, c, alphabet, rfl, rfl, ?_⟩
            rw [alpha_low c]
            exact done
          · rintro H2 ⟨x2, e2⟩
            refine ⟨D, _, rfl, SqL.of e2, ?_⟩
            have z := q H2 x2
            have e : isN (.str s) = ((s.cps.toList.take s.cps.size).map low).all id := by
              show isW s = _
              unfold isW
              rw [decide_eq_true (p := 1 ≤ s.length) (by omega), decide_eq_true l2, Bool.true_and, Bool.true_and, List.take_of_length_le (by rw [Array.length_toList]; exact Nat.le_refl _), List.all_map]
              rfl
            rw [e] at z
            exact z
        · rw [decide_eq_false c2]
          refine out _ rfl ?_
          show isW s = false
          unfold isW
          rw [decide_eq_false (p := s.length ≤ 8) (by omega)]
          simp
      · have l1 : ¬ (0 : Int) < s.length := fun z => c1 (decide_eq_true z)
        refine ⟨_, rfl, ?_⟩
        refine out _ rfl ?_
        show isW s = false
        unfold isW
        rw [decide_eq_false (p := 1 ≤ s.length) (by omega)]
        simp
    · rw [n] at q
      exact q H Ex.refl
end
end LJ
set_option Elab.async false
set_option linter.all false
set_option maxRecDepth 100000
set_option maxHeartbeats 8000000
/-! _law_fits. -/
namespace LJ
open PySem PySem.Spec L2
abbrev sFits : Stmt := top 49
abbrev nFits : List Str := ["_law_kind", "_law_thing", "_law_many", "_law_part"]
abbrev pFits : List Str := ["_law_kind", "_law_thing", "_law_many"]
def rightOf (H : Hp) (m : Int) : Nat → List V → Bool
  | 0 => sharesOf
  | 1 => sharesOf
  | 2 => limOf
  | _ => contOf H m
def lenK : Nat → Nat
  | 0 => 3
  | 1 => 3
  | _ => 2
def rLenS (K : PySem.W.Frag) : List V → Hp → VK → Prop := fun xs H Q => ∃ p ys, xs = [V.ref p] ∧ (SqL K H p ys ∨ SqT K H p ys) ∧ Q (V.int ((ys.length : Nat) : Int)) H
def spFits (K : PySem.W.Frag) : Sp := fun vs H Q _ => ∃ (k : Nat) (x : V) (m : Int), vs = [.int k, x, .int m] ∧ k < 4 ∧ Deep K H 3 x ∧ Says Q H (onTup (rightOf H m k) H x)
def isTwo (H : Hp) (y : V) : Bool := match tupOf H y with
  | some zs => decide (zs.length = 2)
  | none => false
theorem two_at {H : Hp} {y : V} (h : isTwo H y = true) : ∃ a z1 z2, y = .ref a ∧ H a = some (.tup [z1, z2]) := by
  unfold isTwo at h
  split at h
  · rename_i zs e
    obtain ⟨a, rfl, ha⟩ := tup_ref e
    have l := of_decide_eq_true h
    match zs, l, ha with
    | [z1, z2], _, ha => exact ⟨a, z1, z2, rfl, ha⟩
  · cases h
theorem two_of {H : Hp} {y : V} {m : Int} (h : isBnd H y m = true) : isTwo H y = true := by
  unfold isBnd at h
  unfold isTwo
  split at h
  · rename_i zs e
    try rw [e]
    obtain ⟨i, j, rfl, _⟩ := bnd_of h
    rfl
  · cases h
section
variable {P : Program} {w : World} {K : PySem.W.Frag} {mg : Str → Option Value} {base : Heap}
theorem scFits : FnScope nFits pFits (defScope sFits) := ⟨rfl, rfl, rfl, by decide +kernel, rfl, by decide +kernel, by decide +kernel⟩
theorem right_len {H : Hp} {m : Int} {k : Nat} {xs : List V} (h : rightOf H m k xs = true) : xs.length = lenK k ∧ ∃ y ys, xs = y :: ys ∧ isN y = true := by
  match k, h with
  | 0, h => exact (match xs, h with | [y, a, b], h => ⟨rfl, y, _, rfl, (both (show (isN y && bndOf 1000 [a, b]) = true from h)).1⟩)
  | 1, h => exact (match xs, h with | [y, a, b], h => ⟨rfl, y, _, rfl, (both (show (isN y && bndOf 1000 [a, b]) = true from h)).1⟩)
  | 2, h => exact (match xs, h with | [y, .int i], h => ⟨rfl, y, _, rfl, (both (show (isN y && (decide (0 ≤ i) && decide (i ≤ top12))) = true from h)).1⟩)
  | _ + 3, h => exact (match xs, h with | [y, t], h => ⟨rfl, y, _, rfl, (both (show (isN y && pairsOf H m (tupOf H t)) = true from h)).1⟩)
theorem ok_fits {f fN fB fC : Addr} {fd fdN fdB fdC : FuncData} (F : Fun K "_law_fits" "_law_fits" sFits f fd) (B : BltI mg)
    (GN : FnOk P w K mg base CX0 1 fN fdN ["_law_thing"] (spName K)) (mN : mg "_law_is_name" = some (.ref fN)) (kN : PySem.W.keepIn K (.ref fN) = true) (bN : Binds K fdN ["_law_thing"] [])
    (GC : FnOk P w K mg base CX0 1 fC fdC ["_law_thing", "_law_most"] (spLcnt K)) (mC : mg "_law_is_count" = some (.ref fC)) (kC : PySem.W.keepIn K (.ref fC) = true) (bC : Binds K fdC ["_law_thing", "_law_most"] [])
    (GB : FnOk P w K mg base CX0 2 fB fdB ["_law_low", "_law_high", "_law_most"] (spLbd K)) (mB : mg "_law_are_bounds" = some (.ref fB)) (kB : PySem.W.keepIn K (.ref fB) = true) (bB : Binds K fdB ["_law_low", "_law_high", "_law_most"] []) :
    FnOk P w K mg base CX0 3 f fd pFits (spFits K) := by
  refine F.ok scFits (fun vs H Q E h => ?_) (fun cdv A outer s H vs Q E hr h => ?_)
  · obtain ⟨k, x, m, rfl, _⟩ := h
    rfl
  · obtain ⟨k, x, m, rfl, k4, dx, q⟩ := h
    have hr1 : Room 1 _ := hr.mono (by decide)
    refine ⟨_, pss_cons (ps_if (PW.pt (pw_or (pt_not (pt_truth (pe_callB call_isi (by rfl) B.isinstance (by decide +kernel) (pa_cons (pv 1) (pa_cons (pe_bltn (by rfl) B.tuple (by decide +kernel) (v := .ty "tuple") rfl) pa_nil))) (fun _ => rfl)))
        (pw_or (pt_cmpR op_ne (pe_callB call_len_seq (by rfl) B.len (by decide +kernel) (pa_cons (pv 1) pa_nil)) (pe_ix ix_list (pe_lst (pa_cons pe_int (pa_cons pe_int (pa_cons pe_int (pa_cons pe_int pa_nil))))) (pv 0) (fun _ _ => rfl)) rfl)
        (pw_or1 (pt_not (pt_truth (pe_call GN hr1 (by rfl) mN kN bN .nil pass0 (pa_cons (pe_ix ix_tup (pv 1) pe_int (fun _ _ => rfl)) pa_nil)) (fun _ => rfl))))))) (pss_one (ps_ret pe_bl)) pss_nil)
      (pss_cons (ps_if (pt_cmpR op_lt (pv 0) pe_int (nomark _)) (pss_one (ps_ret (pe_call GB hr (by rfl) mB kB bB .nil pass0 (pa_cons (pe_ix ix_tup (pv 1) pe_int (fun _ _ => rfl)) (pa_cons (pe_ix ix_tup (pv 1) pe_int (fun _ _ => rfl)) (pa_cons pe_int pa_nil)))))) pss_nil)
      (pss_cons (ps_if (pt_cmpR op_eq (pv 0) pe_int (nomark _)) (pss_one (ps_ret (pe_call GC hr1 (by rfl) mC kC bC .nil pass0 (pa_cons (pe_ix ix_tup (pv 1) pe_int (fun _ _ => rfl)) (pa_cons (pe_op op_pow pe_int pe_int) pa_nil))))) pss_nil)
      (pss_cons (ps_if (PW.pt (pw_or (pt_not (pt_truth (pe_callB call_isi (by rfl) B.isinstance (by decide +kernel) (pa_cons (pe_ix ix_tup (pv 1) pe_int (fun _ _ => rfl)) (pa_cons (pe_bltn (by rfl) B.tuple (by decide +kernel) (v := .ty "tuple") rfl) pa_nil))) (fun _ => rfl)))
        (pw_or1 (pt_cmpR op_ne (pe_callB call_len_seq (by rfl) B.len (by decide +kernel) (pa_cons (pe_ix ix_tup (pv 1) pe_int (fun _ _ => rfl)) pa_nil)) (pv 2) (nomark _))))) (pss_one (ps_ret pe_bl)) pss_nil)
      (pss_cons (ps_if (pt_not (pt_truth (pe_callB (cr_all (by rfl)) (by rfl) B.all (by decide +kernel) (pa_cons (pe_lc (own := [("_law_part", 3)]) (g := gName 3) (by rfl) scFits.nd (pi_tup (pe_ix ix_tup (pv 1) pe_int (fun _ _ => rfl))) (blkOk_by (own := [("_law_part", 3)]) (N := nFits) (sc := defScope sFits) (by decide +kernel))
        (fun _ _ _ _ _ => pg_name scFits.nd rfl (Or.inl rfl)) (fun _ _ _ _ _ => pts_nil) (fun _ _ _ _ _ => pe_and (pe_callB (show CallR _ (.builtin "isinstance") (rIsi K) from call_isi) (by rfl) B.isinstance (by decide +kernel) (pa_cons (pv 3) (pa_cons (pe_bltn (by rfl) B.tuple (by decide +kernel) (v := .ty "tuple") rfl) pa_nil)))
          (pe_one (pe_cmpR op_eq (pe_callB (show CallR _ (.builtin "len") (rLenS K) from call_len_seq) (by rfl) B.len (by decide +kernel) (pa_cons (pv 3) pa_nil)) pe_int (nomark _))))) pa_nil)) (fun _ => rfl))) (pss_one (ps_ret pe_bl)) pss_nil)
      (pss_one (ps_ret (pe_callB (cr_all (by rfl)) (by rfl) B.all (by decide +kernel) (pa_cons (pe_lc (own := [("_law_part", 3)]) (g := gName 3) (by rfl) scFits.nd (pi_tup (pe_ix ix_tup (pv 1) pe_int (fun _ _ => rfl))) (blkOk_by (own := [("_law_part", 3)]) (N := nFits) (sc := defScope sFits) (by decide +kernel))
        (fun _ _ _ _ _ => pg_name scFits.nd rfl (Or.inl rfl)) (fun _ _ _ _ _ => pts_nil) (fun _ _ _ _ _ => pe_call GB hr (by rfl) mB kB bB .nil pass0 (pa_cons (pe_ix (show IxR _ (rIxT K) from ix_tup) (pv 3) pe_int (fun _ _ => rfl)) (pa_cons (pe_ix (show IxR _ (rIxT K) from ix_tup) (pv 3) pe_int (fun _ _ => rfl)) (pa_cons (pe_op op_pow pe_int pe_int) pa_nil))))) pa_nil)))))))), ?_⟩
    have four : 4 ≤ sizeLine := by
      rw [sizeLine_eq]
      decide
    have p12 : ((10 : Int) ^ ((12 : Int).toNat)) = top12 := by decide
    obtain ⟨t, b, ty, e, hb⟩ := dx.1.atTup
    refine ⟨_, rfl, _, _, t, _, b, rfl, .ty "tuple", ty, e, b, rfl, ?_⟩
    rcases hb with ⟨rfl, a, xs, rfl, ha, hx⟩ | ⟨rfl, hx⟩
    · have no : rightOf H m k xs = false → ∀ H1, Ex H H1 → Q (.bl false) H1 := fun z H1 e => by
        have z1 := q H1 e
        unfold onTup at z1
        rw [hx] at z1
        have z1 : Q (.bl (rightOf H m k xs)) H1 := z1
        rw [z] at z1
        exact z1
      have qq : Says Q H (rightOf H m k xs) := fun H1 e => by
        have z1 := q H1 e
        unfold onTup at z1
        rw [hx] at z1
        exact z1
      have kk := dx.2 xs hx
      refine ⟨_, rfl, a, xs, rfl, .inr (SqT.of ha), four, fun p np => ?_⟩
      have e1 : Ex H (upd H p (.lst [.int 3, .int 3, .int 2, .int 2])) := Ex.refl.new np
      have hp : (upd H p (.lst [.int 3, .int 3, .int 2, .int 2])) p = some (.lst [.int 3, .int 3, .int 2, .int 2]) := upd_same
      generalize upd H p (.lst [.int 3, .int 3, .int 2, .int 2]) = H1 at e1 hp ⊢
      have atk : atI [V.int 3, V.int 3, V.int 2, V.int 2] ((k : Nat) : Int) = some (.int ((lenK k : Nat) : Int)) := by
        refine atI_nat ?_
        match k, k4 with
        | 0, _ => rfl
        | 1, _ => rfl
        | 2, _ => rfl
        | 3, _ => rfl
      refine ⟨_, rfl, p, _, (k : Nat), _, rfl, rfl, SqL.of hp, atk, rfl, _, rfl, ?_⟩
      by_cases c : xs.length = lenK k
      case neg =>
        rw [decide_eq_false (fun z => c (by have := V.int.inj z; omega))]
        exact no (Bool.eq_false_iff.mpr fun z => c (right_len z).1) H1 e1
      rw [decide_eq_true (show V.int ((xs.length : Nat) : Int) = V.int ((lenK k : Nat) : Int) by rw [c])]
      obtain ⟨y, ys, rfl⟩ : ∃ y ys, xs = y :: ys := by
        match xs, c with
        | [], c =>
          exfalso
          have z : (0 : Nat) = lenK k := c
          unfold lenK at z
          split at z <;> cases z
        | y :: ys, _ => exact ⟨y, ys, rfl⟩
      refine ⟨_, rfl, a, _, 0, y, rfl, rfl, SqT.of (e1 _ _ ha), atI_nat (j := 0) rfl, y, rfl, (kk y (List.mem_cons_self ..)).kn.ex e1, fun H2 e2 => ⟨_, rfl, ?_⟩⟩
      have x2 := e1.trans e2
      have ha2 := x2 _ _ ha
      cases hy : isN y with
      | false =>
        refine no (Bool.eq_false_iff.mpr fun z => ?_) H2 x2
        obtain ⟨_, y1, ys1, e1, e2⟩ := right_len z
        cases e1
        rw [hy] at e2
        cases e2
      | true =>
        have kk1 : ∀ v ∈ ys, Deep K H 2 v := fun v hv => kk v (List.mem_cons_of_mem _ hv)
        have pairs : ∀ z1 z2, ys = [z1, z2] → k = 0 ∨ k = 1 → Q (.bl (bndOf 1000 [z1, z2])) H2 := fun z1 z2 e hk => by
          subst e
          have z := qq H2 x2
          rcases hk with rfl | rfl
          · have z : Q (.bl (isN y && bndOf 1000 [z1, z2])) H2 := z
            rw [hy, Bool.true_and] at z
            exact z
          · have z : Q (.bl (isN y && bndOf 1000 [z1, z2])) H2 := z
            rw [hy, Bool.true_and] at z
            exact z
        refine ⟨_, rfl, _, _, rfl, rfl, _, rfl, ?_⟩
        refine ite2 (fun c2 => ?_) (fun c2 => ?_)
        · have k2 : k = 0 ∨ k = 1 := by
            have z : ((k : Nat) : Int) < 2 := of_decide_eq_true c2
            omega
          have l3 : lenK k = 3 := by rcases k2 with rfl | rfl <;> rfl
          rw [l3] at c
          obtain ⟨z1, z2, rfl⟩ : ∃ z1 z2, ys = [z1, z2] := by
            match ys, c with
            | [z1, z2], _ => exact ⟨z1, z2, rfl⟩
          refine ⟨_, rfl, a, _, 1, z1, rfl, rfl, SqT.of ha2, atI_nat (j := 1) rfl, _, rfl, a, _, 2, z2, rfl, rfl, SqT.of ha2, atI_nat (j := 2) rfl, z1, z2, 1000, rfl, (kk1 z1 (by simp)).kn.ex x2, (kk1 z2 (by simp)).kn.ex x2, ?_⟩
          exact pairs z1 z2 rfl k2
        · refine ⟨_, rfl, rfl, _, rfl, ?_⟩
          have k2 : k = 2 ∨ k = 3 := by
            have z : ¬ ((k : Nat) : Int) < 2 := fun z => c2 (decide_eq_true z)
            omega
          have l2 : lenK k = 2 := by rcases k2 with rfl | rfl <;> rfl
          rw [l2] at c
          obtain ⟨t1, rfl⟩ : ∃ z1, ys = [z1] := by
            match ys, c with
            | [z1], _ => exact ⟨z1, rfl⟩
          have at1 : atI [y, t1] 1 = some t1 := atI_nat (j := 1) rfl
          have kt : Deep K H 2 t1 := kk1 t1 (by simp)
          rcases k2 with rfl | rfl
          · refine ite2 (fun c3 => ?_) (fun c3 => absurd (by decide) c3)
            refine ⟨_, rfl, a, _, 1, t1, rfl, rfl, SqT.of ha2, at1, _, _, rfl, rfl, ⟨by decide, by decide, by decide⟩, t1, _, rfl, kt.kn.ex x2, ?_⟩
            rw [p12]
            have z := qq H2 x2
            have e : rightOf H m 2 [y, t1] = cntOf top12 t1 := by
              cases t1 with
              | int i =>
                show (isN y && (decide (0 ≤ i) && decide (i ≤ top12))) = (decide (0 ≤ i) && decide (i ≤ top12))
                rw [hy, Bool.true_and]
              | _ => rfl
            rw [e] at z
            exact z
          · refine ite2 (fun c3 => absurd c3 (by decide)) (fun c3 => ?_)
            have q3 : Says Q H (pairsOf H m (tupOf H t1)) := fun G e => by
              have z : Q (.bl (isN y && pairsOf H m (tupOf H t1))) G := qq G e
              rw [hy, Bool.true_and] at z
              exact z
            have kt2 : Kn K H2 t1 := kt.kn.ex x2
            obtain ⟨ty1, b, ty, e, hb⟩ := kt2.atTup
            refine ⟨_, rfl, a, _, 1, t1, rfl, rfl, SqT.of ha2, at1, t1, _, ty1, _, b, rfl, .ty "tuple", ty, e, b, rfl, ?_⟩
            rcases hb with ⟨rfl, pa, ps, rfl, hpa, hpx⟩ | ⟨rfl, hpx⟩
            case inr =>
              have z := q3 H2 x2
              rw [← kt.kn.tups x2, hpx] at z
              exact z
            have h0 : tupOf H (.ref pa) = some ps := by
              rw [← kt.kn.tups x2]
              exact hpx
            rw [h0] at q3
            have sz : ps.length ≤ sizeLine := kt.kn.le h0
            refine ⟨_, rfl, a, _, 1, .ref pa, rfl, rfl, SqT.of ha2, at1, pa, ps, rfl, .inr (SqT.of hpa), _, rfl, rfl, _, rfl, ?_⟩
            by_cases c5 : (ps.length : Int) = m
            case neg =>
              rw [decide_eq_false (fun z : V.int (ps.length : Int) = V.int m => c5 (V.int.inj z))]
              have z : Q (.bl (decide ((ps.length : Int) = m) && ps.all fun y => isBnd H y top12)) H2 := q3 H2 x2
              rw [decide_eq_false c5, Bool.false_and] at z
              exact z
            rw [decide_eq_true (show V.int (ps.length : Int) = V.int m by rw [c5])]
            have q4 : Says Q H (ps.all fun y => isBnd H y top12) := fun G e => by
              have z : Q (.bl (decide ((ps.length : Int) = m) && ps.all fun y => isBnd H y top12)) G := q3 G e
              rw [decide_eq_true c5, Bool.true_and] at z
              exact z
            have kp : ∀ v ∈ ps, Deep K H 1 v := kt.2 _ h0
            refine ⟨_, rfl, a, _, 1, .ref pa, rfl, rfl, SqT.of ha2, at1, pa, rfl, ⟨ps, SqT.of hpa⟩, fun D hD => lc_it walk_tup (fun n G => Ex H2 G ∧ G D = some (.lst ((ps.take n).map fun y => V.bl (isTwo H y)))) ⟨Ex.refl.new hD, upd_same⟩ (fun i G _ h => SqT.of (h.1 _ _ hpa)) ?_ ?_⟩
            · rintro i v _ G hi ⟨xG, eG⟩ ⟨rfl, hv⟩
              have kv : Deep K H 1 v := kp v (List.mem_of_getElem? hv)
              have xHG := x2.trans xG
              refine ⟨rfl, ?_⟩
              have done : ∀ bb : Bool, bb = isTwo H v → ∃ acc, G D = some (.lst acc) ∧ acc.length < sizeLine ∧ Ex H2 (upd G D (.lst (acc ++ [.bl bb]))) ∧ (upd G D (.lst (acc ++ [.bl bb]))) D = some (.lst ((ps.take (i + 1)).map fun y => V.bl (isTwo H y))) := fun bb eb => by
                refine ⟨_, eG, ?_, xG.put hD, ?_⟩
                · rw [List.length_map, List.length_take]
                  omega
                · rw [upd_same, List.take_succ, hv, List.map_append, eb]
                  rfl
              obtain ⟨ty2, b, ty, e, hb⟩ := (kv.kn.ex xHG).atTup
              refine ⟨_, rfl, _, _, ty2, _, b, rfl, .ty "tuple", ty, e, b, rfl, ?_⟩
              rcases hb with ⟨rfl, pv, zs, rfl, hpv, hzx⟩ | ⟨rfl, hzx⟩
              · refine ⟨_, rfl, pv, zs, rfl, .inr (SqT.of hpv), rfl, done _ ?_⟩
                unfold isTwo
                rw [← kv.kn.tups xHG, hzx]
                exact decide_eq_decide.mpr ⟨fun z => by have := V.int.inj z; omega, fun z => by rw [z]; rfl⟩
              · refine done _ ?_
                unfold isTwo
                rw [← kv.kn.tups xHG, hzx]
            · rintro G ⟨xG, eG⟩
              have eG : G D = some (.lst ((ps.map fun y => isTwo H y).map V.bl)) := by
                rw [eG, List.take_of_length_le (Nat.le_refl _), List.map_map]
                rfl
              have xHG := x2.trans xG
              refine ⟨D, _, rfl, SqL.of eG, _, rfl, ?_⟩
              rw [List.all_map]
              cases h2 : ps.all (id ∘ fun y => isTwo H y) with
              | false =>
                have z := q4 G xHG
                have e : (ps.all fun y => isBnd H y top12) = false := by
                  obtain ⟨v, hv, n⟩ := List.all_eq_false.mp h2
                  refine List.all_eq_false.mpr ⟨v, hv, fun z => n ?_⟩
                  exact two_of z
                rw [e] at z
                exact z
              | true =>
                have two := fun v hv => List.all_eq_true.mp h2 v hv
                refine ⟨_, rfl, a, _, 1, .ref pa, rfl, rfl, SqT.of (xG _ _ ha2), at1, pa, rfl, ⟨ps, SqT.of (xG _ _ hpa)⟩, fun D2 hD2 => lc_it walk_tup (fun n G1 => Ex G G1 ∧ G1 D2 = some (.lst ((ps.take n).map fun y => V.bl (isBnd H y top12)))) ⟨Ex.refl.new hD2, upd_same⟩ (fun i G1 _ h => SqT.of (h.1 _ _ (xG _ _ hpa))) ?_ ?_⟩
                · rintro i v _ G1 hi ⟨xG1, eG1⟩ ⟨rfl, hv⟩
                  have hm := List.mem_of_getElem? hv
                  have kv : Deep K H 1 v := kp v hm
                  have x5 := xHG.trans xG1
                  obtain ⟨pv, z1, z2, rfl, hpv⟩ := two_at (two v hm)
                  have hz := tup_at hpv
                  refine ⟨rfl, ?_⟩
                  refine ⟨_, rfl, pv, _, 0, z1, rfl, rfl, SqT.of (x5 _ _ hpv), atI_nat (j := 0) rfl, _, rfl, pv, _, 1, z2, rfl, rfl, SqT.of (x5 _ _ hpv), atI_nat (j := 1) rfl, _, _, rfl, rfl, ⟨by decide, by decide, by decide⟩, z1, z2, _, rfl, (kv.2 _ hz z1 (by simp)).kn.ex x5, (kv.2 _ hz z2 (by simp)).kn.ex x5, ?_⟩
                  rw [p12]
                  refine ⟨_, eG1, ?_, xG1.put hD2, ?_⟩
                  · rw [List.length_map, List.length_take]
                    omega
                  · rw [upd_same, List.take_succ, hv, List.map_append]
                    have e : isBnd H (.ref pv) top12 = bndOf top12 [z1, z2] := by
                      unfold isBnd
                      rw [hz]
                    show some (HO.lst (_ ++ [V.bl (bndOf top12 [z1, z2])])) = some (HO.lst (_ ++ [V.bl (isBnd H (.ref pv) top12)]))
                    rw [e]
                · rintro G1 ⟨xG1, eG1⟩
                  have e3 : G1 D2 = some (.lst ((ps.map fun y => isBnd H y top12).map V.bl)) := by
                    rw [eG1, List.take_of_length_le (Nat.le_refl _), List.map_map]
                    rfl
                  refine ⟨D2, _, rfl, SqL.of e3, ?_⟩
                  have z := q4 G1 (xHG.trans xG1)
                  rw [List.all_map]
                  exact z
    · have z := q H Ex.refl
      unfold onTup at z
      rw [hx] at z
      exact z
end
end LJ
set_option Elab.async false
set_option linter.all false
set_option maxRecDepth 100000
set_option maxHeartbeats 8000000
/-! _law_due. -/
namespace LJ
open PySem PySem.Spec L2
abbrev sDue : Stmt := top 50
abbrev nDue : List Str := ["_law_parts", "_law_known", "_law_kind", "_law_at", "_law_thing", "_law_many"]
abbrev pDue : List Str := ["_law_parts"]
def fewK : Nat → Nat
  | 1 => 0
  | _ => 1
def mostK : Nat → Nat
  | 0 => 6
  | 1 => 6
  | 2 => 3
  | _ => 8
def manyK (H : Hp) (x3 : V) (k : Nat) : Int := if k = 3 then lenOf H x3 else 0
def outK (H : Hp) (x3 : V) (k : Nat) (x : V) (tk : List Str) : List V := fwOut (onTup (rightOf H (manyK H x3 k) k) H) (nameOf H) (fewK k : Nat) (mostK k : Nat) tk (tupOf H x)
def dueF (H : Hp) (x3 : V) : Nat → List Str → List V → Option (Nat × V)
  | _, _, [] => none
  | k, tk, x :: r => match outK H x3 k x tk with
    | v :: _ => some (k, v)
    | [] => dueF H x3 (k + 1) (tk ++ namesOf H x) r
theorem due_F {H : Hp} {x1 x2 x3 x4 : V} : due4 H x1 x2 x3 x4 = dueF H x3 0 [] [x1, x2, x3, x4] := by
  have a1 : outK H x3 0 x1 [] = fwOut (onTup sharesOf H) (nameOf H) 1 6 [] (tupOf H x1) := rfl
  have a2 : outK H x3 1 x2 (namesOf H x1) = fwOut (onTup sharesOf H) (nameOf H) 0 6 (namesOf H x1) (tupOf H x2) := rfl
  have a3 : outK H x3 2 x3 (namesOf H x1 ++ namesOf H x2) = fwOut (onTup limOf H) (nameOf H) 1 3 (namesOf H x1 ++ namesOf H x2) (tupOf H x3) := rfl
  have a4 : outK H x3 3 x4 (namesOf H x1 ++ namesOf H x2 ++ namesOf H x3) = fwOut (onTup (contOf H (lenOf H x3)) H) (nameOf H) 1 8 (namesOf H x1 ++ namesOf H x2 ++ namesOf H x3) (tupOf H x4) := rfl
  unfold due4 dueF
  rw [← a1]
  cases outK H x3 0 x1 [] with
  | cons v r => rfl
  | nil =>
    simp only
    unfold dueF
    rw [← a2, List.nil_append]
    cases outK H x3 1 x2 (namesOf H x1) with
    | cons v r => rfl
    | nil =>
      simp only
      unfold dueF
      rw [← a3]
      cases outK H x3 2 x3 (namesOf H x1 ++ namesOf H x2) with
      | cons v r => rfl
      | nil =>
        simp only
        unfold dueF
        rw [← a4]
        cases outK H x3 3 x4 (namesOf H x1 ++ namesOf H x2 ++ namesOf H x3) with
        | cons v r => rfl
        | nil => rfl
def spDue4 (K : PySem.W.Frag) : Sp := fun vs H Q _ => ∃ (p : Addr) (x1 x2 x3 x4 : V), vs = [.ref p] ∧ H p = some (.lst [x1, x2, x3, x4]) ∧ (∀ v ∈ [x1, x2, x3, x4], Deep K H 4 v) ∧
  (due4 H x1 x2 x3 x4 = none → ∀ H1, Ex H H1 → Q (.str "made") H1) ∧ (∀ k v, due4 H x1 x2 x3 x4 = some (k, v) → ∀ q H1, Ex H H1 → H q = none → H1 q = some (.lst [.int (k : Nat), v]) → Q (.ref q) H1)
structure BltE (mg : Str → Option Value) : Prop where
  range : mg "range" = none
section
variable {P : Program} {w : World} {K : PySem.W.Frag} {mg : Str → Option Value} {base : Heap}
theorem scDue : FnScope nDue pDue (defScope sDue) := ⟨rfl, rfl, rfl, by decide +kernel, rfl, by decide +kernel, by decide +kernel⟩
theorem few_at {k : Nat} (h : k < 4) : atI [V.int 1, V.int 0, V.int 1, V.int 1] ((k : Nat) : Int) = some (.int ((fewK k : Nat) : Int)) := by
  refine atI_nat ?_
  match k, h with
  | 0, _ => rfl
  | 1, _ => rfl
  | 2, _ => rfl
  | 3, _ => rfl
theorem most_at {k : Nat} (h : k < 4) : atI [V.int 6, V.int 6, V.int 3, V.int 8] ((k : Nat) : Int) = some (.int ((mostK k : Nat) : Int)) := by
  refine atI_nat ?_
  match k, h with
  | 0, _ => rfl
  | 1, _ => rfl
  | 2, _ => rfl
  | 3, _ => rfl
theorem right_ex {H H1 : Hp} {m : Int} {k : Nat} {v : V} (k4 : k < 4) (d : Deep K H 3 v) (e : LamX.ExtN H H1) : onTup (rightOf H1 m k) H1 v = onTup (rightOf H m k) H v := by
  match k, k4 with
  | 0, _ => exact onTup_exN d.kn e
  | 1, _ => exact onTup_exN d.kn e
  | 2, _ => exact onTup_exN d.kn e
  | 3, _ => exact cont_exN d e
theorem ok_due4 {f fF : Addr} {fd fdF : FuncData} (F : Fun K "_law_due" "_law_due" sDue f fd) (B : BltI mg) (R : BltE mg)
    (GF : FnOk P w K mg base CX0 3 fF fdF pFits (spFits K)) (mF : mg "_law_fits" = some (.ref fF)) (kF : PySem.W.keepIn K (.ref fF) = true) (bF : Binds K fdF pFits []) :
    FnOk P w K mg base CX0 4 f fd pDue (spDue4 K) := by
  refine F.ok scDue (fun vs H Q E h => ?_) (fun cdv A outer s H vs Q E hr h => ?_)
  · obtain ⟨p, x1, x2, x3, x4, rfl, _⟩ := h
    rfl
  · obtain ⟨p, x1, x2, x3, x4, rfl, hp, deep, good, bad⟩ := h
    refine ⟨_, pss_cons (ps_set (i := 1) scDue.nd rfl (Or.inl rfl) (pe_lst pa_nil))
      (pss_cons (ps_for PassesOwn.never rfl (pi_range1 (by rfl) R.range (pa_cons pe_int pa_nil)) (pg_name (i := 2) scDue.nd rfl (Or.inl rfl))
        (pss_cons (ps_if (PW.pt (pw_or (pt_not (pt_truth (pe_callB call_isi (by rfl) B.isinstance (by decide +kernel) (pa_cons (pe_ix ix_list (pv 0) (pv 2) (fun _ _ => rfl)) (pa_cons (pe_bltn (by rfl) B.tuple (by decide +kernel) (v := .ty "tuple") rfl) pa_nil))) (fun _ => rfl)))
          (pw_or1 (pt_cmpR op_lt (pe_callB call_len_seq (by rfl) B.len (by decide +kernel) (pa_cons (pe_ix ix_list (pv 0) (pv 2) (fun _ _ => rfl)) pa_nil)) (pe_ix ix_list (pe_lst (pa_cons pe_int (pa_cons pe_int (pa_cons pe_int (pa_cons pe_int pa_nil))))) (pv 2) (fun _ _ => rfl)) rfl)))) (pss_one (ps_ret (pe_lst (pa_cons (pv 2) (pa_cons pe_non pa_nil))))) pss_nil)
        (pss_one (ps_for PassesOwn.never rfl (EnT.pi_enT (by rfl) B.enumerate (pa_cons (pe_ix ix_list (pv 0) (pv 2) (fun _ _ => rfl)) pa_nil)) (pg_tup (by rfl) (pgs_cons (pg_name (i := 3) scDue.nd rfl (Or.inl rfl)) (pgs_cons (pg_name (i := 4) scDue.nd rfl (Or.inl rfl)) pgs_nil)))
          (pss_cons (ps_set (i := 5) scDue.nd rfl (Or.inl rfl) (pe_join0 (pe_ifExp (pt_cmpR op_eq (pv 2) pe_int (nomark _)) (pe_callB call_len_seq (by rfl) B.len (by decide +kernel) (pa_cons (pe_ix ix_list (pv 0) pe_int (fun _ _ => rfl)) pa_nil)) pe_int)))
          (pss_cons (ps_if (PW.pt (pw_or (pt_cmpR op_ge (pv 3) (pe_ix ix_list (pe_lst (pa_cons pe_int (pa_cons pe_int (pa_cons pe_int (pa_cons pe_int pa_nil))))) (pv 2) (fun _ _ => rfl)) rfl)
            (pw_or (pt_not (pt_truth (pe_call GF hr (by rfl) mF kF bF .nil pass0 (pa_cons (pv 2) (pa_cons (pv 4) (pa_cons (pv 5) pa_nil)))) (fun _ => rfl)))
            (pw_or1 (pt_cmpR op_in_seq (pe_ix ix_tup (pv 4) pe_int (fun _ _ => rfl)) (pv 1) (by with_unfolding_all rfl)))))) (pss_one (ps_ret (pe_lst (pa_cons (pv 2) (pa_cons (pv 3) pa_nil))))) pss_nil)
          (pss_one (ps_expr (pe_bm PySem.F.plainAttrs_list PySem.F.slot_list_append PySem.F.type_list_append mt_append (pv 1) (pa_cons (pe_ix ix_tup (pv 4) pe_int (fun _ _ => rfl)) pa_nil))))))))))
      (pss_one (ps_ret pe_str))), ?_⟩
    have big : ∀ {n : Nat}, n ≤ 100 → n ≤ sizeLine := fun h => by rw [sizeLine_eq]; omega
    rw [due_F] at good bad
    refine ⟨big (by decide : 0 ≤ 100), fun D hD => ?_⟩
    have x0 : Ex H (upd H D (.lst [])) := Ex.refl.new hD
    refine ⟨4, rfl, by decide, by decide, ?_⟩
    refine for_range (lo := 0) (n := 4) (fun i σ G => ∃ (tk : List Str) (v2 v3 v4 v5 : Option V), σ = [some (.ref p), some (.ref D), v2, v3, v4, v5] ∧ Ex H G ∧ G D = some (.lst (tk.map V.str)) ∧ tk.length ≤ 8 * i ∧ dueF H x3 0 [] [x1, x2, x3, x4] = dueF H x3 i tk ([x1, x2, x3, x4].drop i) ∧ (3 ≤ i → ∃ xs, tupOf H x3 = some xs))
      ⟨[], _, _, _, _, rfl, x0, upd_same, Nat.le_refl _, rfl, fun z => absurd z (by decide)⟩ ?_ ?_
    · rintro i σ G i4 ⟨tk, v2, v3, v4, v5, rfl, xG, eD, tl, ed, t3⟩
      obtain ⟨x, hx⟩ : ∃ x, [x1, x2, x3, x4][i]? = some x := ⟨_, List.getElem?_eq_getElem i4⟩
      have hd := List.drop_eq_getElem_cons (l := [x1, x2, x3, x4]) i4
      have hx2 := hx
      rw [List.getElem?_eq_getElem i4] at hx2
      have hx3 := Option.some.inj hx2
      rw [hd, hx3] at ed
      have mem : x ∈ [x1, x2, x3, x4] := List.mem_of_getElem? hx
      have dx := deep x mem
      have z0 : (0 : Int) + ((i : Nat) : Int) = ((i : Nat) : Int) := by omega
      rw [z0]
      have atp : atI [x1, x2, x3, x4] ((i : Nat) : Int) = some x := atI_nat hx
      have fail : ∀ (v : V) (r : List V), outK H x3 i x tk = v :: r → ∀ G1, Ex H G1 → ∀ q, G1 q = none → Q (.ref q) (upd G1 q (.lst [.int ((i : Nat) : Int), v])) := fun v r z G1 x1 q nq => bad i v (by rw [ed]; unfold dueF; rw [z]) q _ (x1.new nq) (x1.gone nq) upd_same
      have next : outK H x3 i x tk = [] → dueF H x3 0 [] [x1, x2, x3, x4] = dueF H x3 (i + 1) (tk ++ namesOf H x) ([x1, x2, x3, x4].drop (i + 1)) := fun z => by
        rw [ed]
        conv => lhs; unfold dueF
        rw [z]
      clear ed
      obtain ⟨t, b, ty, e, hb⟩ := (dx.kn.ex xG).atTup
      refine ⟨_, rfl, _, rfl, p, _, ((i : Nat) : Int), x, rfl, rfl, SqL.of (xG _ _ hp), atp, _, _, t, _, b, rfl, .ty "tuple", ty, e, b, rfl, ?_⟩
      rcases hb with ⟨rfl, a, xs, rfl, ha, hxx⟩ | ⟨rfl, hxx⟩
      case inr =>
        refine ⟨_, rfl, big (by decide : 2 ≤ 100), fun q nq => fail .non [] ?_ G xG q nq⟩
        unfold outK fwOut
        rw [← dx.kn.tups xG, hxx]
      have h0 : tupOf H (.ref a) = some xs := by
        rw [← dx.kn.tups xG]
        exact hxx
      obtain ⟨_, ea, haH⟩ := tup_ref h0
      cases ea
      refine ⟨_, rfl, _, rfl, p, _, ((i : Nat) : Int), .ref a, rfl, rfl, SqL.of (xG _ _ hp), atp, a, xs, rfl, .inr (SqT.of ha), big (by decide : 4 ≤ 100), fun p1 n1 => ?_⟩
      refine ⟨_, rfl, p1, _, ((i : Nat) : Int), _, rfl, rfl, SqL.of upd_same, few_at i4, _, _, rfl, rfl, _, rfl, ?_⟩
      have y1 : Ex H (upd G p1 (.lst [.int 1, .int 0, .int 1, .int 1])) := xG.new n1
      have eD1 : (upd G p1 (.lst [.int 1, .int 0, .int 1, .int 1])) D = some (.lst (tk.map V.str)) := by
        rw [upd_ne (ne_of_none eD n1)]
        exact eD
      generalize upd G p1 (.lst [.int 1, .int 0, .int 1, .int 1]) = G1 at y1 eD1 ⊢
      refine ite2 (fun c => ?_) (fun c => ?_)
      · refine ⟨_, rfl, big (by decide : 2 ≤ 100), fun q nq => fail .non [] ?_ G1 y1 q nq⟩
        unfold outK fwOut
        rw [h0]
        simp only
        rw [if_pos (of_decide_eq_true c)]
      · have few : ¬ ((xs.length : Nat) : Int) < ((fewK i : Nat) : Int) := fun z => c (decide_eq_true z)
        have fwI : ∀ o, fwAt (onTup (rightOf H (manyK H x3 i) i) H) (nameOf H) (mostK i : Nat) tk 0 xs = o → outK H x3 i (.ref a) tk = (match o with | none => [] | some j => [.int (j : Nat)]) := fun o z => by
          unfold outK fwOut
          rw [h0]
          simp only
          rw [if_neg few, z]
          all_goals (cases o <;> rfl)
        have nmI : namesOf H (.ref a) = xs.map (nameOf H) := (names_of haH).1
        have t3b : 2 ≤ i → ∃ ys, tupOf H x3 = some ys := fun z => by
          by_cases i3 : 3 ≤ i
          · exact t3 i3
          · obtain rfl : i = 2 := by omega
            have e : x3 = .ref a := hx3
            rw [e]
            exact ⟨xs, h0⟩
        have m8 : mostK i ≤ 8 := by
          match i, i4 with
          | 0, _ => decide
          | 1, _ => decide
          | 2, _ => decide
          | 3, _ => decide
        have dr := dx.2 xs h0
        refine ⟨_, rfl, _, rfl, p, _, ((i : Nat) : Int), .ref a, rfl, rfl, SqL.of (y1 _ _ hp), atp, a, xs, rfl, SqT.of (y1 _ _ haH), for_it walk_en (fun n σ G2 => ∃ (v3 v4 v5 : Option V), σ = [some (.ref p), some (.ref D), some (.int ((i : Nat) : Int)), v3, v4, v5] ∧ Ex H G2 ∧ G2 D = some (.lst ((tk ++ (xs.take n).map (nameOf H)).map V.str)) ∧ n ≤ mostK i ∧
            fwAt (onTup (rightOf H (manyK H x3 i) i) H) (nameOf H) (mostK i : Nat) tk 0 xs = fwAt (onTup (rightOf H (manyK H x3 i) i) H) (nameOf H) (mostK i : Nat) (tk ++ (xs.take n).map (nameOf H)) n (xs.drop n))
          ⟨_, _, _, rfl, y1, by rw [List.take_zero, List.map_nil, List.append_nil]; exact eD1, Nat.zero_le _, by rw [List.take_zero, List.map_nil, List.append_nil, List.drop_zero]⟩ (fun n σ G2 _ ⟨_, _, _, _, h, _⟩ => SqT.of (h _ _ haH)) ?_ ?_⟩
        · rintro n v σ G2 G3 hn ⟨v3, v4, v5, rfl, xG2, eD2, nm, ef⟩ ⟨T, w1, w2, rfl, nT, rfl, h1, h2⟩
          cases h1
          have h2 : xs[n]? = some w2 := h2
          have hn2 : n < xs.length := hn
          have dr2 : xs.drop n = w2 :: xs.drop (n + 1) := by
            have z := h2
            rw [List.getElem?_eq_getElem hn2] at z
            rw [List.drop_eq_getElem_cons hn2, Option.some.inj z]
          rw [dr2] at ef
          have mem2 : w2 ∈ xs := List.mem_of_getElem? h2
          have xT : Ex H (upd G2 T (.tup [.int (n : Nat), w2])) := xG2.new nT
          have dT : D ≠ T := ne_of_none eD2 nT
          have eD3 : (upd G2 T (.tup [.int (n : Nat), w2])) D = some (.lst ((tk ++ (xs.take n).map (nameOf H)).map V.str)) := by
            rw [upd_ne dT]
            exact eD2
          have eT : (upd G2 T (.tup [.int (n : Nat), w2])) T = some (.tup [.int (n : Nat), w2]) := upd_same
          generalize upd G2 T (.tup [.int (n : Nat), w2]) = G3 at xT eD3 eT ⊢
          refine ⟨T, _, rfl, SqT.of eT, rfl, _, _, rfl, _, _, rfl, rfl, ?_⟩
          refine ⟨fun v H1 => v = .int (manyK H x3 i) ∧ H1 = G3, ?_, ?_⟩
          · refine ⟨_, rfl, rfl, _, rfl, ?_⟩
            refine ite2 (fun c3 => ?_) (fun c3 => ?_)
            · have i3 : i = 3 := by
                have z := V.int.inj (of_decide_eq_true c3)
                omega
              obtain ⟨ys, ty3⟩ := t3b (by omega)
              obtain ⟨a3, e3, ha3⟩ := tup_ref ty3
              refine ⟨_, rfl, p, _, 2, x3, rfl, rfl, SqL.of (xT _ _ hp), atI_nat (j := 2) rfl, a3, ys, by rw [e3], .inr (SqT.of (xT _ _ ha3)), ?_, rfl⟩
              unfold manyK lenOf
              rw [if_pos i3, ty3]
              rfl
            · have i3 : i ≠ 3 := fun z => c3 (by rw [z]; decide)
              refine ⟨?_, rfl⟩
              unfold manyK
              rw [if_neg i3]
          rintro _ H1 ⟨rfl, e3⟩
          subst e3
          have stop : fwAt (onTup (rightOf H (manyK H x3 i) i) H) (nameOf H) (mostK i : Nat) (tk ++ (xs.take n).map (nameOf H)) n (w2 :: xs.drop (n + 1)) = some n → ∀ G4, Ex H G4 → ∀ q, G4 q = none → Q (.ref q) (upd G4 q (.lst [.int ((i : Nat) : Int), .int ((n : Nat) : Int)])) := fun z G4 x4 q nq => fail _ [] (fwI _ (ef.trans z)) G4 x4 q nq
          refine ⟨_, rfl, big (by decide : 4 ≤ 100), fun p2 n2 => ?_⟩
          have xP : Ex H (upd H1 p2 (.lst [.int 6, .int 6, .int 3, .int 8])) := xT.new n2
          have eD4 : (upd H1 p2 (.lst [.int 6, .int 6, .int 3, .int 8])) D = some (.lst ((tk ++ (xs.take n).map (nameOf H)).map V.str)) := by
            rw [upd_ne (ne_of_none eD3 n2)]
            exact eD3
          have hp2 : (upd H1 p2 (.lst [.int 6, .int 6, .int 3, .int 8])) p2 = some (.lst [.int 6, .int 6, .int 3, .int 8]) := upd_same
          generalize upd H1 p2 (.lst [.int 6, .int 6, .int 3, .int 8]) = G4 at xP eD4 hp2 ⊢
          refine ⟨_, rfl, p2, _, ((i : Nat) : Int), _, rfl, rfl, SqL.of hp2, most_at i4, _, _, rfl, rfl, _, rfl, ?_⟩
          have one2 : 2 ≤ sizeLine := big (by decide)
          refine ite2 (fun c1 => ?_) (fun c1 => ?_)
          · have n6 : ((mostK i : Nat) : Int) ≤ ((n : Nat) : Int) := of_decide_eq_true c1
            refine ⟨_, rfl, _, rfl, one2, fun q nq => stop ?_ G4 xP q nq⟩
            unfold fwAt
            rw [if_pos (by omega)]
          have n6 : ¬ ((mostK i : Nat) : Int) ≤ ((n : Nat) : Int) := fun z => c1 (decide_eq_true z)
          have c2 : ¬ ((n : Nat) : Int) = ((mostK i : Nat) : Int) := by omega
          refine ⟨_, rfl, _, rfl, _, rfl, i, w2, manyK H x3 i, rfl, i4, Deep.ex xP (dr w2 mem2), fun G5 x5 => ⟨_, rfl, ?_⟩⟩
          have xQ := xP.trans x5
          have eqr : onTup (rightOf G4 (manyK H x3 i) i) G4 w2 = onTup (rightOf H (manyK H x3 i) i) H w2 := right_ex i4 (dr w2 mem2) xP.n
          rw [eqr]
          have eD5 := x5 _ _ eD4
          cases hR : onTup (rightOf H (manyK H x3 i) i) H w2 with
          | false =>
            refine ⟨_, rfl, _, rfl, one2, fun q nq => stop ?_ G5 xQ q nq⟩
            unfold fwAt
            rw [if_neg c2, if_pos hR]
          | true =>
            obtain ⟨bb, r, rfl, hbb⟩ := named_of (g := rightOf H (manyK H x3 i) i) (fun ys hy => (right_len hy).2) hR
            have fl : ((tk ++ (xs.take n).map (nameOf H)).map V.str).all flatV = true := by
              rw [List.all_map]
              exact List.all_eq_true.mpr fun _ _ => rfl
            refine ⟨_, rfl, bb, _, 0, .str (nameOf H (.ref bb)), rfl, rfl, SqT.of (xQ _ _ hbb), atI_nat (j := 0) rfl, _, rfl, D, _, rfl, .inl (SqL.of eD5), rfl, fl, _, rfl, ?_⟩
            rw [show (if false = true then !inV (V.str (nameOf H (V.ref bb))) ((tk ++ (xs.take n).map (nameOf H)).map V.str) else inV (V.str (nameOf H (V.ref bb))) ((tk ++ (xs.take n).map (nameOf H)).map V.str)) = decide (nameOf H (V.ref bb) ∈ tk ++ (xs.take n).map (nameOf H)) from strs_in]
            refine ite2 (fun c3 => ?_) (fun c3 => ?_)
            · refine ⟨_, rfl, _, rfl, one2, fun q nq => stop ?_ G5 xQ q nq⟩
              unfold fwAt
              rw [if_neg c2, if_neg (by rw [hR]; decide), if_pos (of_decide_eq_true c3)]
            · have c4 : ¬ nameOf H (V.ref bb) ∈ tk ++ (xs.take n).map (nameOf H) := fun z => c3 (decide_eq_true z)
              have tk' : (xs.take (n + 1)).map (nameOf H) = (xs.take n).map (nameOf H) ++ [nameOf H (.ref bb)] := by
                rw [List.take_succ, h2, List.map_append]
                rfl
              refine ⟨_, rfl, .inl ⟨rfl, _, SqL.of eD5⟩, _, rfl, bb, _, 0, .str (nameOf H (.ref bb)), rfl, rfl, SqT.of (xQ _ _ hbb), atI_nat (j := 0) rfl, D, _, _, rfl, rfl, eD5, ?_, _, _, _, rfl, xQ.put hD, ?_, ?_, ?_⟩
              · rw [List.length_map, List.length_append, List.length_map, List.length_take, sizeLine_eq]
                omega
              · rw [upd_same, tk', ← List.append_assoc, List.map_append (l₁ := tk ++ (xs.take n).map (nameOf H))]
                rfl
              · omega
              · rw [ef, tk', ← List.append_assoc]
                conv => lhs; unfold fwAt
                rw [if_neg c2, if_neg (by rw [hR]; decide), if_neg c4]
        · rintro σ G2 ⟨v3, v4, v5, rfl, xG2, eD2, nm, ef⟩
          rw [List.drop_length] at ef
          have z := next (fwI none ef)
          rw [List.take_length, ← nmI] at eD2
          refine ⟨tk ++ namesOf H (.ref a), _, _, _, _, rfl, xG2, eD2, ?_, z, fun w => t3b (by omega)⟩
          rw [List.length_append, nmI, List.length_map]
          omega
    · rintro σ G ⟨tk, v2, v3, v4, v5, rfl, xG, eD, tl, ed, t3⟩
      exact good ed G xG
end
end LJ
set_option Elab.async false
set_option linter.all false
set_option maxRecDepth 100000
set_option maxHeartbeats 8000000
/-! _law_made. -/
namespace LJ
open PySem PySem.Spec L2 PySem.ErrV
open LamX (ExtN TabB)
open NdefX (NTab TabsN)
theorem out_ex {K : PySem.W.Frag} {H H1 : Hp} {x3 x : V} {k : Nat} {tk : List Str} (k4 : k < 4) (d3 : Kn K H x3) (d : Deep K H 4 x) (e : ExtN H H1) : outK H1 x3 k x tk = outK H x3 k x tk := by
  have m : manyK H1 x3 k = manyK H x3 k := by
    unfold manyK lenOf
    rw [d3.tupsN e]
  unfold outK
  rw [m]
  exact fw_exN d.kn e fun xs hx v hv => ⟨right_ex k4 (d.2 xs hx v hv) e, nameOf_exN (d.2 xs hx v hv).kn e⟩
theorem namesOf_ex {K : PySem.W.Frag} {H H1 : Hp} {x : V} (d : Deep K H 4 x) (e : ExtN H H1) : namesOf H1 x = namesOf H x := by
  unfold namesOf
  rw [d.kn.tupsN e]
  cases hx : tupOf H x with
  | none => rfl
  | some xs => exact names_exN e fun v hv => (d.2 xs hx v hv).kn
theorem dueF_ex {K : PySem.W.Frag} {H H1 : Hp} {x3 : V} (d3 : Kn K H x3) (e : ExtN H H1) : ∀ (xs : List V) (k : Nat) (tk : List Str), k + xs.length ≤ 4 → (∀ v ∈ xs, Deep K H 4 v) → dueF H1 x3 k tk xs = dueF H x3 k tk xs
  | [], _, _, _, _ => rfl
  | x :: r, k, tk, l, d => by
    rw [List.length_cons] at l
    have t := dueF_ex d3 e r (k + 1) (tk ++ namesOf H x) (by omega) fun v hv => d v (List.mem_cons_of_mem _ hv)
    unfold dueF
    rw [out_ex (by omega) d3 (d x (List.mem_cons_self ..)) e, namesOf_ex (d x (List.mem_cons_self ..)) e, t]
theorem due4_ex {K : PySem.W.Frag} {H H1 : Hp} {x1 x2 x3 x4 : V} (d : ∀ v ∈ [x1, x2, x3, x4], Deep K H 4 v) (e : ExtN H H1) : due4 H1 x1 x2 x3 x4 = due4 H x1 x2 x3 x4 := by
  rw [due_F, due_F]
  exact dueF_ex (d x3 (by simp)).kn e _ 0 [] (Nat.le_refl _) d
theorem due4_lt {H : Hp} {x1 x2 x3 x4 : V} {k : Nat} {v : V} (h : due4 H x1 x2 x3 x4 = some (k, v)) : k < 4 := by
  unfold due4 at h
  split at h
  · cases h
    decide
  · split at h
    · cases h
      decide
    · split at h
      · cases h
        decide
      · split at h
        · cases h
          decide
        · cases h
abbrev sMade : Stmt := top 51
abbrev nMade : List Str := ["_law_parts", "_law_named", "e"]
abbrev pMade : List Str := ["_law_parts", "_law_named"]
def spMade (K : PySem.W.Frag) (T : List NTab) : Sp := fun vs H Q _ => ∃ (p : Addr) (b : Bool) (x1 x2 x3 x4 : V), vs = [.ref p, .bl b] ∧ H p = some (.lst [x1, x2, x3, x4]) ∧ (∀ v ∈ [x1, x2, x3, x4], Deep K H 4 v) ∧ TabsN T H ∧
  (due4 H x1 x2 x3 x4 = none → ∀ H1, ExtN H H1 → TabsN T H1 → Q (.str "made") H1) ∧ (∀ k v, due4 H x1 x2 x3 x4 = some (k, v) → ∀ q H1, ExtN H H1 → TabsN T H1 → H1 q = some (.lst [.int (k : Nat), v]) → Q (.ref q) H1)
def tTru (K : PySem.W.Frag) (i : Nat) : TT := fun σ H Q => tVar i σ H fun x H' => ∃ k, TruV K x H' k ∧ Q k H'
/-- an exception's class fits just its own clause -/
structure Four (K : PySem.W.Frag) (ce : Nat → Addr) : Prop where
  fits : ∀ k j, k < 4 → j < 4 → PySem.W.exmOne K (.ref (ce k)) (.ref (ce j)) = some (decide (k = j))
section
variable {P : Program} {w : World} {K : PySem.W.Frag} {mg : Str → Option Value} {base : Heap} {ce : Nat → Addr}
theorem scMade : FnScope nMade pMade (defScope sMade) := ⟨rfl, rfl, rfl, by decide +kernel, rfl, by decide +kernel, by decide +kernel⟩
theorem takes_len {X : Cx} {W : WX} (tk : Takes X W) : Takes X (fun cls d _ H => ∀ σ, σ.length = X.N.length → W cls d σ H) := fun u s' ⟨a, B, sI, pins, σ, H, cls, d, e, I, nb, up, sky, na, os, ag, w⟩ =>
  tk u s' ⟨a, B, sI, pins, σ, H, cls, d, e, I, nb, up, sky, na, os, ag, w σ I.len⟩
theorem ok_made {f fI C : Addr} {fd fdI : FuncData} {T : List NTab} {g : List Value → List Value → List Value} (F : Fun K "_law_made" "_law_made" sMade f fd) (M : Mk K C fI) (mW : mg "Works" = some (.ref C))
    (GI : FnOk P w K mg base (L2.CX P w) 7 fI fdI pInit (spInit4 K C ce T)) (bI : Binds K fdI pInit []) (bK : KBn K fdI pInit 1 ["products", "stuffs", "cleanings", "machines"] g (fun vs zs => vs ++ zs.reverse))
    (e0 : Er1 K mg "InvalidMachines" (ce 0)) (e1 : Er1 K mg "InvalidCleanings" (ce 1)) (e2 : Er1 K mg "InvalidStuffs" (ce 2)) (e3 : Er1 K mg "InvalidProducts" (ce 3)) (X4 : Four K ce) :
    FnOk P w K mg base CX0 9 f fd pMade (spMade K T) := by
  refine F.ok scMade (fun vs H Q E h => ?_) (fun cdv A outer s H vs Q E hr h => ?_)
  · obtain ⟨p, b, x1, x2, x3, x4, rfl, _⟩ := h
    rfl
  · obtain ⟨p, b, x1, x2, x3, x4, rfl, hp, deep, tabs, good, bad⟩ := h
    obtain ⟨f0, b0, T0, B0⟩ := e0.c
    obtain ⟨f1, b1, T1, B1⟩ := e1.c
    obtain ⟨f2, b2, T2, B2⟩ := e2.c
    obtain ⟨f3, b3, T3, B3⟩ := e3.c
    refine ⟨_, pss_cons (ManyAs.ps_try (i := 2) (n := "e") (Wout := fun _ _ _ _ => False) rfl rfl scMade.nd rfl rfl takes0
        (fun W pn xe tk _ => pss_one (ps_if (show PT _ _ (tTru K 1) from pt_truth (pv 1) (fun _ => rfl))
          (pss_one (ps_expr (pe_makeK0 M GI hr (by rfl) mW bK (passes_call (E := fun cls d H => ∀ σ : L2.St, σ.length = 3 → W cls d σ H) (takes_len tk) (fun _ _ _ _ z => z)) (pk_cons (pe_ix (show IxR _ (rIxL K) from ix_list) (pv 0) pe_int (fun _ _ => rfl)) (pk_cons (pe_ix (show IxR _ (rIxL K) from ix_list) (pv 0) pe_int (fun _ _ => rfl)) (pk_cons (pe_ix (show IxR _ (rIxL K) from ix_list) (pv 0) pe_int (fun _ _ => rfl)) (pk_cons (pe_ix (show IxR _ (rIxL K) from ix_list) (pv 0) pe_int (fun _ _ => rfl)) pk_nil)))))))
          (pss_one (ps_expr (pe_make M GI hr (by rfl) mW bI .nil (passes_call (E := fun cls d H => ∀ σ : L2.St, σ.length = 3 → W cls d σ H) (takes_len tk) (fun _ _ _ _ z => z)) (pa_cons (pe_ix (show IxR _ (rIxL K) from ix_list) (pv 0) pe_int (fun _ _ => rfl)) (pa_cons (pe_ix (show IxR _ (rIxL K) from ix_list) (pv 0) pe_int (fun _ _ => rfl)) (pa_cons (pe_ix (show IxR _ (rIxL K) from ix_list) (pv 0) pe_int (fun _ _ => rfl)) (pa_cons (pe_ix (show IxR _ (rIxL K) from ix_list) (pv 0) pe_int (fun _ _ => rfl)) pa_nil)))))))))
        (.more ⟨rfl, by decide, .inl T0.gC⟩ (fun a oe cls d pn hz hf => pss_one (ps_ret (pe_lst (pa_cons pe_int (pa_cons (pe_xf e0.xf T0.noN hz hf (pv 2)) pa_nil)))))
        (.more ⟨rfl, by decide, .inl T1.gC⟩ (fun a oe cls d pn hz hf => pss_one (ps_ret (pe_lst (pa_cons pe_int (pa_cons (pe_xf e1.xf T1.noN hz hf (pv 2)) pa_nil)))))
        (.more ⟨rfl, by decide, .inl T2.gC⟩ (fun a oe cls d pn hz hf => pss_one (ps_ret (pe_lst (pa_cons pe_int (pa_cons (pe_xf e2.xf T2.noN hz hf (pv 2)) pa_nil)))))
        (.more ⟨rfl, by decide, .inl T3.gC⟩ (fun a oe cls d pn hz hf => pss_one (ps_ret (pe_lst (pa_cons pe_int (pa_cons (pe_xf e3.xf T3.noN hz hf (pv 2)) pa_nil))))) .done)))))
      (pss_one (ps_ret pe_str)), ?_⟩
    have two : 2 ≤ sizeLine := by
      rw [sizeLine_eq]
      decide
    have core : ∀ (x dx : Addr), H x = none → H dx = none → dx ≠ x → ∀ (Q' : VK) (E' : XK), (due4 H x1 x2 x3 x4 = none → ∀ H1, ExtN H H1 → TabsN T H1 → Q' .non H1) →
        (∀ k v, due4 H x1 x2 x3 x4 = some (k, v) → ∀ H1 d, ExtN H H1 → TabsN T H1 → H1 d = some (.xd [(("index" : Str), v)]) → E' (.ref (ce k)) (some d) H1) →
        spInit4 K C ce T [.ref x, x1, x2, x3, x4] (upd (upd H dx (.own x)) x (.ins C dx [])) Q' E' := fun x dx nx nd ne Q' E' g1 g2 => by
      have x5 : Ex H (upd (upd H dx (.own x)) x (.ins C dx [])) := (Ex.refl.new nd).new (by rw [upd_ne ne.symm]; exact nx)
      have h5 : (upd (upd H dx (.own x)) x (.ins C dx [])) x = some (.ins C dx []) := upd_same
      generalize upd (upd H dx (.own x)) x (.ins C dx []) = H5 at x5 h5 ⊢
      have dd : ∀ v ∈ [x1, x2, x3, x4], Deep K H5 4 v := fun v hv => Deep.ex x5 (deep v hv)
      have de := due4_ex deep x5.n
      refine ⟨x, dx, x1, x2, x3, x4, rfl, h5, (dd x1 (by simp)).down.down, (dd x2 (by simp)).down.down, (dd x3 (by simp)).down.down, dd x4 (by simp), TabsN.exs tabs x5, fun hd H1 keep t1 => g1 (de ▸ hd) H1 (fun b o e nt => keep b o (fun z => ?_) (x5 _ _ e) nt) t1, fun k v hk H1 d e t1 hd => g2 k v (de ▸ hk) H1 d (x5.n.trans e) t1 hd⟩
      rw [z, nx] at e
      cases e
    have at0 : atI [x1, x2, x3, x4] 0 = some x1 := atI_nat (j := 0) rfl
    have at1 : atI [x1, x2, x3, x4] 1 = some x2 := atI_nat (j := 1) rfl
    have at2 : atI [x1, x2, x3, x4] 2 = some x3 := atI_nat (j := 2) rfl
    have at3 : atI [x1, x2, x3, x4] 3 = some x4 := atI_nat (j := 3) rfl
    have set2 : ∀ {σ : L2.St} {a : Addr}, σ.length = 3 → (σ.set 2 (some (V.ref a)))[2]? = some (some (.ref a)) := fun {σ a} l => List.getElem?_set_self (by omega)
    refine ⟨_, rfl, b, rfl, ?_⟩
    cases b with
    | true =>
      refine ⟨_, rfl, p, _, 3, x4, rfl, rfl, SqL.of hp, at3, _, rfl, p, _, 2, x3, rfl, rfl, SqL.of hp, at2, _, rfl, p, _, 1, x2, rfl, rfl, SqL.of hp, at1, _, rfl, p, _, 0, x1, rfl, rfl, SqL.of hp, at0, rfl, rfl, fun x dx nx nd ne => core x dx nx nd ne _ _ (fun hd H1 e t => ⟨rfl, good hd H1 e t⟩) (fun k v hk H1 d e t hd => ?_)⟩
      have k4 := due4_lt hk
      intro σ ls
      have out : ∀ q, H1 q = none → Q (.ref q) (upd H1 q (.lst [.int ((k : Nat) : Int), v])) := fun q nq => by
        exact bad k v hk q _ (e.trans (Ex.refl.new nq).n) (TabsN.exs t (Ex.refl.new nq)) upd_same
      obtain rfl | rfl | rfl | rfl : k = 0 ∨ k = 1 ∨ k = 2 ∨ k = 3 := by omega
      · exact ⟨true, X4.fits 0 0 (by decide) (by decide), fun _ a ha => ⟨_, set2 ls, rfl, rfl, d, _, v, rfl, hd, rfl, two, out⟩, (nomatch ·)⟩
      · exact ⟨false, X4.fits 1 0 (by decide) (by decide), (nomatch ·), fun _ => ⟨true, X4.fits 1 1 (by decide) (by decide), fun _ a ha => ⟨_, set2 ls, rfl, rfl, d, _, v, rfl, hd, rfl, two, out⟩, (nomatch ·)⟩⟩
      · exact ⟨false, X4.fits 2 0 (by decide) (by decide), (nomatch ·), fun _ => ⟨false, X4.fits 2 1 (by decide) (by decide), (nomatch ·), fun _ => ⟨true, X4.fits 2 2 (by decide) (by decide), fun _ a ha => ⟨_, set2 ls, rfl, rfl, d, _, v, rfl, hd, rfl, two, out⟩, (nomatch ·)⟩⟩⟩
      · exact ⟨false, X4.fits 3 0 (by decide) (by decide), (nomatch ·), fun _ => ⟨false, X4.fits 3 1 (by decide) (by decide), (nomatch ·), fun _ => ⟨false, X4.fits 3 2 (by decide) (by decide), (nomatch ·), fun _ => ⟨true, X4.fits 3 3 (by decide) (by decide), fun _ a ha => ⟨_, set2 ls, rfl, rfl, d, _, v, rfl, hd, rfl, two, out⟩, (nomatch ·)⟩⟩⟩⟩
    | false =>
      refine ⟨_, rfl, p, _, 0, x1, rfl, rfl, SqL.of hp, at0, _, rfl, p, _, 1, x2, rfl, rfl, SqL.of hp, at1, _, rfl, p, _, 2, x3, rfl, rfl, SqL.of hp, at2, _, rfl, p, _, 3, x4, rfl, rfl, SqL.of hp, at3, fun x dx nx nd ne => core x dx nx nd ne _ _ (fun hd H1 e t => ⟨rfl, good hd H1 e t⟩) (fun k v hk H1 d e t hd => ?_)⟩
      have k4 := due4_lt hk
      intro σ ls
      have out : ∀ q, H1 q = none → Q (.ref q) (upd H1 q (.lst [.int ((k : Nat) : Int), v])) := fun q nq => by
        exact bad k v hk q _ (e.trans (Ex.refl.new nq).n) (TabsN.exs t (Ex.refl.new nq)) upd_same
      obtain rfl | rfl | rfl | rfl : k = 0 ∨ k = 1 ∨ k = 2 ∨ k = 3 := by omega
      · exact ⟨true, X4.fits 0 0 (by decide) (by decide), fun _ a ha => ⟨_, set2 ls, rfl, rfl, d, _, v, rfl, hd, rfl, two, out⟩, (nomatch ·)⟩
      · exact ⟨false, X4.fits 1 0 (by decide) (by decide), (nomatch ·), fun _ => ⟨true, X4.fits 1 1 (by decide) (by decide), fun _ a ha => ⟨_, set2 ls, rfl, rfl, d, _, v, rfl, hd, rfl, two, out⟩, (nomatch ·)⟩⟩
      · exact ⟨false, X4.fits 2 0 (by decide) (by decide), (nomatch ·), fun _ => ⟨false, X4.fits 2 1 (by decide) (by decide), (nomatch ·), fun _ => ⟨true, X4.fits 2 2 (by decide) (by decide), fun _ a ha => ⟨_, set2 ls, rfl, rfl, d, _, v, rfl, hd, rfl, two, out⟩, (nomatch ·)⟩⟩⟩
      · exact ⟨false, X4.fits 3 0 (by decide) (by decide), (nomatch ·), fun _ => ⟨false, X4.fits 3 1 (by decide) (by decide), (nomatch ·), fun _ => ⟨false, X4.fits 3 2 (by decide) (by decide), (nomatch ·), fun _ => ⟨true, X4.fits 3 3 (by decide) (by decide), fun _ a ha => ⟨_, set2 ls, rfl, rfl, d, _, v, rfl, hd, rfl, two, out⟩, (nomatch ·)⟩⟩⟩⟩
end
end LJ
set_option Elab.async false
set_option linter.all false
set_option maxRecDepth 100000
set_option maxHeartbeats 4000000
/-! Values of a bounded size and depth; what stands beside the jar; a tuple beside the empty one. -/
namespace LJ
open PySem PySem.Spec L2
open LamX (ExtN TabB)
open NdefX (NTab TabsN)
/-- known, to this depth, and no tuple longer than B -/
def Bd (K : PySem.W.Frag) (H : Hp) (B : Nat) : Nat → V → Prop
  | 0, x => Kn K H x ∧ ∀ xs, tupOf H x = some xs → xs.length ≤ B
  | n + 1, x => Kn K H x ∧ ∀ xs, tupOf H x = some xs → xs.length ≤ B ∧ ∀ y ∈ xs, Bd K H B n y
section
variable {K : PySem.W.Frag} {H H1 : Hp} {B B1 : Nat}
theorem Bd.kn : ∀ {n : Nat} {x : V}, Bd K H B n x → Kn K H x
  | 0, _, d => d.1
  | _ + 1, _, d => d.1
theorem Bd.len : ∀ {n : Nat} {x : V} {xs : List V}, Bd K H B n x → tupOf H x = some xs → xs.length ≤ B
  | 0, _, _, d, e => d.2 _ e
  | _ + 1, _, _, d, e => (d.2 _ e).1
theorem Bd.deep : ∀ {n : Nat} {x : V}, Bd K H B n x → Deep K H n x
  | 0, _, d => d.1
  | _ + 1, _, d => ⟨d.1, fun xs e y hy => Bd.deep ((d.2 xs e).2 y hy)⟩
theorem Bd.exN (e : ExtN H H1) : ∀ {n : Nat} {x : V}, Bd K H B n x → Bd K H1 B n x
  | 0, x, d => ⟨d.1.exN e, fun xs h => d.2 xs (by rw [← d.1.tupsN e]; exact h)⟩
  | n + 1, x, d => ⟨d.1.exN e, fun xs h => ⟨(d.2 xs (by rw [← d.1.tupsN e]; exact h)).1, fun y hy => Bd.exN e ((d.2 xs (by rw [← d.1.tupsN e]; exact h)).2 y hy)⟩⟩
theorem Bd.more (l : B ≤ B1) : ∀ {n : Nat} {x : V}, Bd K H B n x → Bd K H B1 n x
  | 0, x, d => ⟨d.1, fun xs h => Nat.le_trans (d.2 xs h) l⟩
  | n + 1, x, d => ⟨d.1, fun xs h => ⟨Nat.le_trans (d.2 xs h).1 l, fun y hy => Bd.more l ((d.2 xs h).2 y hy)⟩⟩
theorem Bd.down : ∀ {n : Nat} {x : V}, Bd K H B (n + 1) x → Bd K H B n x
  | 0, _, d => ⟨d.1, fun xs h => (d.2 xs h).1⟩
  | n + 1, _, d => ⟨d.1, fun xs h => ⟨(d.2 xs h).1, fun y hy => Bd.down ((d.2 xs h).2 y hy)⟩⟩
theorem Bd.flat {x : V} (k : Kn K H x) (n : tupOf H x = none) : ∀ {m : Nat}, Bd K H B m x
  | 0 => ⟨k, fun xs e => by rw [n] at e; cases e⟩
  | _ + 1 => ⟨k, fun xs e => by rw [n] at e; cases e⟩
theorem Bd.int {i : Int} {m : Nat} : Bd K H B m (.int i) := .flat (.int i) rfl
theorem Bd.str {s : Str} {m : Nat} (l : s.length ≤ 1000) : Bd K H B m (.str s) := .flat (.str s (by rw [sizeLine_eq]; omega)) rfl
theorem Bd.non {m : Nat} : Bd K H B m .non := .flat (.oth (t := .type "NoneType") (b := false) (fun _ _ => .base .non) (kit_ty (by decide +kernel)) (kit_ty (by decide +kernel)) (kit_ty (by decide +kernel)) (kit_ty (by decide +kernel)) rfl rfl fun _ _ => rfl) rfl
theorem Bd.bl {b : Bool} {m : Nat} : Bd K H B m (.bl b) := .flat (.oth (t := .type "bool") (b := true) (fun _ _ => .base (.bl b)) (kit_ty (by decide +kernel)) (kit_ty (by decide +kernel)) (kit_ty (by decide +kernel)) (kit_ty (by decide +kernel)) rfl rfl fun _ _ => rfl) rfl
theorem no_tup {a : Addr} {o : HO} (h : H a = some o) (n : ∀ xs, o ≠ .tup xs) : tupOf H (.ref a) = none := by
  show (match H a with
    | some (.tup ys) => some ys
    | _ => none) = none
  rw [h]
  cases o <;> first | rfl | exact absurd rfl (n _)
theorem Bd.lst {a : Addr} {xs : List V} {m : Nat} (h : H a = some (.lst xs)) : Bd K H B m (.ref a) :=
  .flat (.oth (t := .type "list") (b := false) (fun H1 e => .base (.lst (e _ _ h fun _ z => nomatch z))) (kit_ty (by decide +kernel)) (kit_ty (by decide +kernel)) (kit_ty (by decide +kernel)) (kit_ty (by decide +kernel)) rfl rfl
    fun H1 e => no_tup (e _ _ h fun _ z => nomatch z) fun _ z => nomatch z) (no_tup h fun _ z => nomatch z)
theorem Bd.dct {a : Addr} {kvs : List (Key × V)} {m : Nat} (h : H a = some (.dK kvs)) : Bd K H B m (.ref a) :=
  .flat (.oth (t := .type "dict") (b := false) (fun H1 e => .base (.dK (e _ _ h fun _ z => nomatch z))) (kit_ty (by decide +kernel)) (kit_ty (by decide +kernel)) (kit_ty (by decide +kernel)) (kit_ty (by decide +kernel)) rfl rfl
    fun H1 e => no_tup (e _ _ h fun _ z => nomatch z) fun _ z => nomatch z) (no_tup h fun _ z => nomatch z)
theorem Bd.tup {a : Addr} {xs : List V} {n : Nat} (h : H a = some (.tup xs)) (l : xs.length ≤ B) (b : B ≤ 100000) (d : ∀ y ∈ xs, Bd K H B n y) : Bd K H B (n + 1) (.ref a) :=
  ⟨.tup h (by rw [sizeLine_eq]; omega), fun ys e => by
    rw [tup_at h] at e
    cases e
    exact ⟨l, d⟩⟩
theorem Bd.at {a : Addr} {xs : List V} {n : Nat} (d : Bd K H B (n + 1) (.ref a)) (h : H a = some (.tup xs)) : xs.length ≤ B ∧ ∀ y ∈ xs, Bd K H B n y := d.2 xs (tup_at h)
theorem Bd.tup0 {a : Addr} {n : Nat} (h : H a = some (.tup [])) : Bd K H B n (.ref a) := by
  cases n with
  | zero => exact ⟨.tup h (Nat.zero_le _), fun ys e => by
      rw [tup_at h] at e
      cases e
      exact Nat.zero_le _⟩
  | succ n => exact ⟨.tup h (Nat.zero_le _), fun ys e => by
      rw [tup_at h] at e
      cases e
      exact ⟨Nat.zero_le _, fun _ z => nomatch z⟩⟩
end
/-! beside the jar, and what else is still changed -/
def cut (js : List Addr) (H : Hp) : Hp := fun b => if b ∈ js then none else H b
theorem cut_ne {js : List Addr} {b : Addr} {H : Hp} (h : b ∉ js) : cut js H b = H b := if_neg h
theorem cut_same {js : List Addr} {b : Addr} {H : Hp} (h : b ∈ js) : cut js H b = none := if_pos h
/-- all these stand -/
def Held (js : List Addr) (H : Hp) : Prop := ∀ a ∈ js, H a ≠ none
theorem Held.ne {js : List Addr} {H : Hp} {p : Addr} (h : Held js H) (n : H p = none) : p ∉ js := fun m => h p m n
/-- all but j and the tables stays -/
def Kp (j : Addr) (H H1 : Hp) : Prop := ∀ b o, b ≠ j → H b = some o → (∀ ps, o ≠ .tbl ps) → H1 b = some o
theorem Kp.of_but {j : Addr} {H H1 : Hp} (b : But j H H1) : Kp j H H1 := fun a o n e _ => b a o n e
theorem Kp.of_ext {j : Addr} {H H1 : Hp} (e : ExtN H H1) : Kp j H H1 := fun a o _ h n => e a o h n
theorem Kp.of_ex {j : Addr} {H H1 : Hp} (e : Ex H H1) : Kp j H H1 := fun a o _ h _ => e a o h
theorem Kp.trans {j : Addr} {H H1 H2 : Hp} (a : Kp j H H1) (b : Kp j H1 H2) : Kp j H H2 := fun c o n e t => b c o n (a c o n e t) t
theorem Kp.refl {j : Addr} {H : Hp} : Kp j H H := fun _ _ _ e _ => e
theorem tabs_but {j : Addr} {T : List NTab} {H H1 : Hp} (J : JarAt H j) (b : But j H H1) (t : TabsN T H) : TabsN T H1 := fun r hr => by
  obtain ⟨d, m, c, e, _⟩ := J
  obtain ⟨ps, h1, h2, h3⟩ := t r hr
  refine ⟨ps, b _ _ (ne_of h1 e fun z => nomatch z) h1, h2, fun pos v hv => ?_⟩
  obtain ⟨c, e1, e2⟩ := h3 pos v hv
  exact ⟨c, e1, b _ _ (ne_of e2 e fun z => nomatch (show HO.ext _ = HO.lst _ from z)) e2⟩
theorem Ex.jar {j : Addr} {H H1 : Hp} (e : Ex H H1) (h : JarAt H j) : JarAt H1 j := by
  obtain ⟨d, m, c, z, r⟩ := h
  exact ⟨d, m, c, e _ _ z, r⟩
theorem ExtN.jar {j : Addr} {H H1 : Hp} (e : ExtN H H1) (h : JarAt H j) : JarAt H1 j := by
  obtain ⟨d, m, c, z, r⟩ := h
  exact ⟨d, m, c, e _ _ z (fun _ q => nomatch q), r⟩
theorem But.cut {j : Addr} {js : List Addr} {H H1 : Hp} (b : But j H H1) (m : j ∈ js) : ExtN (cut js H) (cut js H1) := fun a o e _ => by
  by_cases z : a ∈ js
  · rw [cut_same z] at e
    cases e
  · rw [cut_ne z] at e ⊢
    exact b a o (fun y => z (y ▸ m)) e
theorem Ex.cut {js : List Addr} {H H1 : Hp} (b : Ex H H1) : ExtN (cut js H) (cut js H1) := fun a o e _ => by
  by_cases z : a ∈ js
  · rw [cut_same z] at e
    cases e
  · rw [cut_ne z] at e ⊢
    exact b a o e
theorem cut_up {js : List Addr} {H : Hp} : ExtN (cut js H) H := fun a o e _ => by
  by_cases z : a ∈ js
  · rw [cut_same z] at e
    cases e
  · rw [cut_ne z] at e
    exact e
theorem cut_at {js : List Addr} {a : Addr} {H : Hp} {o : HO} (e : cut js H a = some o) : H a = some o ∧ a ∉ js := by
  by_cases z : a ∈ js
  · rw [cut_same z] at e
    cases e
  · exact ⟨by rw [cut_ne z] at e; exact e, z⟩
theorem cut_of {js : List Addr} {a : Addr} {H : Hp} {o : HO} (e : H a = some o) (n : a ∉ js) : cut js H a = some o := by
  rw [cut_ne n]
  exact e
theorem Held.ex {js : List Addr} {H H1 : Hp} (e : Ex H H1) (h : Held js H) : Held js H1 := fun a m z => by
  cases q : H a with
  | none => exact h a m q
  | some o =>
    rw [e a o q] at z
    cases z
theorem Held.but {j : Addr} {js : List Addr} {H H1 : Hp} (b : But j H H1) (J : JarAt H1 j) (h : Held js H) : Held js H1 := fun a m z => by
  by_cases y : a = j
  · obtain ⟨d, m, c, e, _⟩ := J
    rw [y, e] at z
    cases z
  · cases q : H a with
    | none => exact h a m q
    | some o =>
      rw [b a o y q] at z
      cases z
/-! t != () -/
def rNeE (K : PySem.W.Frag) : R2 := fun x y H Q => ∃ a b xs, x = .ref a ∧ y = .ref b ∧ SqT K H a xs ∧ SqT K H b [] ∧ Q (.bl (decide (xs ≠ []))) H
theorem op_neE {X : Cx} (hu : X.A.units < cLine) : OpR X (compareOp .NotEq) (rNeE X.K) := by
  intro pins s σ H x y v u Q I rx ry h
  obtain ⟨a, b, xs, rfl, rfl, ha, hb, q⟩ := h
  cases rx
  cases ry
  obtain ⟨its, r1, p1, _⟩ := I.tuple ha
  obtain ⟨its2, r2, p2, _⟩ := I.tuple hb
  cases r2
  refine PySem.SeqAt.RcNeAt.tuples (e := fun _ => true) p1 p2 hu (fun j _ h2 => absurd h2 (Nat.not_lt_zero j)) _ _ _ _ ?_
  have e : (!((List.range (min its.toArray.size (([] : List Value).toArray).size)).all (fun _ => true) && its.toArray.size == (([] : List Value).toArray).size)) = decide (xs ≠ []) := by
    cases r1 with
    | nil => rfl
    | cons _ _ => simp
  exact ⟨.bl (decide (xs ≠ [])), H, I, congrArg Value.bool e, q⟩
end LJ
set_option Elab.async false
set_option linter.all false
set_option maxRecDepth 100000
set_option maxHeartbeats 4000000
/-! _law_odd. -/
namespace L2
open PySem PySem.Spec PyProof.Rows
def tHo (Pre Post : St → Hp → Prop) : TS := fun D σ H => Pre σ H ∧ ∀ σ1 H1, Post σ1 H1 → D.nx σ1 H1
theorem PS.weak {X : Cx} {st : Stmt} {t u : TS} (h : PS X st t) (i : ∀ D σ H, u D σ H → t D σ H) : PS X st u := ⟨fun pins s σ H D I q => h.run pins s σ H D I (i _ _ _ q)⟩
theorem PSs.weak {X : Cx} {st : List Stmt} {t u : TS} (h : PSs X st t) (i : ∀ D σ H, u D σ H → t D σ H) : PSs X st u := ⟨fun pins s σ H D I q => h.run pins s σ H D I (i _ _ _ q)⟩
abbrev Does (X : Cx) (st : Stmt) (Pre Post : St → Hp → Prop) : Prop := PS X st (tHo Pre Post)
theorem does {X : Cx} {st : Stmt} {Pre Post : St → Hp → Prop} {t : TS} (h : PS X st t) (i : ∀ D σ H, Pre σ H → (∀ σ1 H1, Post σ1 H1 → D.nx σ1 H1) → t D σ H) : Does X st Pre Post := h.weak fun D σ H q => i D σ H q.1 q.2
end L2
namespace LJ
open PySem PySem.Spec L2
open LamX (ExtN TabB)
open NdefX (NTab TabsN)
abbrev sOdd : Stmt := top 52
abbrev nOdd : List Str := ["_law_jar_here", "_law_thing", "_law_labels_here", "_law_odd_here", "_law_kind", "_law_at", "_law_fresh", "_law_some"]
abbrev pOdd : List Str := ["_law_jar_here", "_law_thing", "_law_labels_here"]
/-- a list of good values, beside the jar -/
def Goods (K : PySem.W.Frag) (js : List Addr) (B d n : Nat) (H0 : Hp) (v : V) (H : Hp) : Prop := ∃ (p : Addr) (xs : List V), v = .ref p ∧ H p = some (.lst xs) ∧ p ∉ js ∧ xs.length = n ∧ (∀ y ∈ xs, Bd K (cut js H) B d y) ∧ Ex H0 H
def spOdd (K : PySem.W.Frag) : Sp := fun vs H Q _ => ∃ (B : Nat) (_ : 8 ≤ B) (_ : B ≤ 900) (js : List Addr) (j t l : Addr) (xs : List V) (s : Str) (ls : List V), vs = [.ref j, .ref t, .ref l] ∧ JarAt H j ∧ j ∈ js ∧ Held js H ∧ t ∉ js ∧ H l = some (.lst (.str s :: ls)) ∧ l ≠ j ∧ s.length ≤ 1000 ∧ H t = some (.tup xs) ∧ 2 ≤ xs.length ∧ Bd K (cut js H) B 3 (.ref t) ∧
  ∀ v H1, JarAt H1 j → But j H H1 → Bd K (cut js H1) (B + 2) 3 v → Q v H1
def OO (K : PySem.W.Frag) (js : List Addr) (j t l : Addr) (B : Nat) (H0 : Hp) (xs : List V) : L2.St → Hp → Prop := fun σ H => ∃ (o : Addr) (k at_ : Int) (fr : V) (v7 : Option V), σ = [some (.ref j), some (.ref t), some (.ref l), some (.ref o), some (.int k), some (.int at_), some fr, v7] ∧ 0 ≤ at_ ∧ at_ < (xs.length : Nat) ∧ Bd K (cut js H) (B + 2) 2 fr ∧ JarAt H j ∧ But j H0 H
theorem cut_mem {xs : List V} {lo hi : Option Int} : ∀ y ∈ cutV xs lo hi, y ∈ xs := fun y hy => by
  unfold cutV at hy
  exact List.mem_of_mem_drop (List.mem_of_mem_take hy)
theorem cut_all {xs : List V} {lo hi : Option Int} (h : HT.sIx xs.length 0 lo = 0 ∧ HT.sIx xs.length xs.length hi = xs.length) : cutV xs lo hi = xs := by
  unfold cutV
  rw [h.1, h.2, List.drop_zero, Nat.sub_zero, List.take_length]
/-- a slice: a tuple of some of the values -/
theorem rd_sl {K : PySem.W.Frag} {H : Hp} {a : Addr} {xs : List V} {lo hi : Option Int} {Q : VK} (h : H a = some (.tup xs)) (q : ∀ (p : Addr) (G : Hp), Ex H G → (p = a ∨ H p = none) → G p = some (.tup (cutV xs lo hi)) → Q (.ref p) G) : rSlA K (.ref a) lo hi H Q :=
  ⟨a, xs, rfl, SqT.of h, fun z => q a H Ex.refl (.inl rfl) (by rw [cut_all z]; exact h), fun _ p np => q p _ (Ex.refl.new np) (.inr np) upd_same⟩
theorem rd_catA {K : PySem.W.Frag} {H : Hp} {a b : Addr} {xs ys : List V} {Q : VK} (ha : H a = some (.tup xs)) (hb : H b = some (.tup ys)) (l : xs.length + ys.length ≤ 100000) (q : ∀ (p : Addr) (G : Hp), Ex H G → (p = a ∨ p = b ∨ H p = none) → G p = some (.tup (xs ++ ys)) → Q (.ref p) G) : rCatA K (.ref a) (.ref b) H Q :=
  ⟨a, b, xs, ys, rfl, rfl, SqT.of ha, SqT.of hb, by rw [sizeLine_eq]; omega, fun z => q b H Ex.refl (.inr (.inl rfl)) (by rw [z]; exact hb), fun _ z => q a H Ex.refl (.inl rfl) (by rw [z, List.append_nil]; exact ha), fun _ _ p np => q p _ (Ex.refl.new np) (.inr (.inr np)) upd_same⟩
theorem odd_len {xs : List V} {fr : V} {i : Int} (h0 : 0 ≤ i) (h1 : i < (xs.length : Nat)) : (cutV xs none (some i) ++ [fr] ++ cutV xs (some (i + 1)) none).length = xs.length := by
  obtain ⟨n, rfl⟩ := Int.eq_ofNat_of_zero_le h0
  have h2 : n < xs.length := by omega
  have e1 : HT.sIx xs.length xs.length (some ((n : Nat) : Int)) = min n xs.length := HT.sIx_nat ..
  have e2 : HT.sIx xs.length 0 (some (((n + 1 : Nat) : Nat) : Int)) = min (n + 1) xs.length := HT.sIx_nat ..
  rw [show ((n : Nat) : Int) + 1 = ((n + 1 : Nat) : Int) from rfl]
  unfold cutV
  rw [e1, e2]
  show (((xs.drop 0).take (min n xs.length - 0)) ++ [fr] ++ ((xs.drop (min (n + 1) xs.length)).take (xs.length - min (n + 1) xs.length))).length = xs.length
  simp only [List.length_append, List.length_take, List.length_drop, List.length_cons, List.length_nil]
  omega
theorem last_at {xs : List V} (ne : xs ≠ []) : ∃ z, atI xs (-1) = some z ∧ z ∈ xs := by
  obtain ⟨ys, z, rfl⟩ : ∃ ys z, xs = ys ++ [z] := ⟨xs.dropLast, xs.getLast ne, (List.dropLast_concat_getLast ne).symm⟩
  exact ⟨z, atI_last ys z, by simp⟩
structure BltO (mg : Str → Option Value) : Prop where
  list : mg "list" = none
  len : mg "len" = none
  isinstance : mg "isinstance" = none
  tuple : mg "tuple" = none
section
variable {P : Program} {w : World} {K : PySem.W.Frag} {mg : Str → Option Value} {base : Heap}
theorem scOdd : FnScope nOdd pOdd (defScope sOdd) := ⟨rfl, rfl, rfl, by decide +kernel, rfl, by decide +kernel, by decide +kernel⟩
theorem ok_odd {f fD fO : Addr} {fd fdD fdO : FuncData} (F : Fun K "_law_odd" "_law_odd" sOdd f fd) (T : BltO mg)
    (GD : FnOk P w K mg base CX0 1 fD fdD ["_law_jar_here", "_law_top"] spDip) (mD : mg "_law_dip" = some (.ref fD)) (kD : PySem.W.keepIn K (.ref fD) = true) (bD : Binds K fdD ["_law_jar_here", "_law_top"] [])
    (GO : FnOk P w K mg base CX0 2 fO fdO ["_law_jar_here", "_law_some"] spOne) (mO : mg "_law_one_of" = some (.ref fO)) (kO : PySem.W.keepIn K (.ref fO) = true) (bO : Binds K fdO ["_law_jar_here", "_law_some"] []) :
    FnOk P w K mg base CX0 3 f fd pOdd (spOdd K) := by
  refine F.ok scOdd (fun vs H Q E h => ?_) (fun cdv A outer s H vs Q E hr h => ?_)
  · obtain ⟨B, _, _, js, j, t, l, xs, s, ls, rfl, _⟩ := h
    rfl
  · obtain ⟨B, B8, B1, js, j, t, l, xs, s0, ls, rfl, J, jin, HJ, nt, hl, nl, s8, ht, two, bt, q⟩ := h
    have nej : ∀ {a : Addr}, a ∉ js → a ≠ j := fun n z => n (z ▸ jin)
    have hr1 : Room 1 _ := hr.mono (by decide)
    have big : ∀ {n : Nat}, n ≤ 1000 → n ≤ sizeLine := fun h => by rw [sizeLine_eq]; omega
    refine ⟨_, pss_cons (ps_set (i := 3) scOdd.nd rfl (Or.inl rfl) (pe_join0 (pe_lst (pa_cons pe_non (pa_cons pe_bl (pa_cons (pe_un un_neg pe_int) (pa_cons pe_int (pa_cons (pe_op op_add (pe_op op_pow pe_int pe_int) pe_int) (pa_cons pe_str (pa_cons pe_str (pa_cons pe_str (pa_cons pe_str (pa_cons (pe_lst (pa_cons pe_int pa_nil)) (pa_cons (pe_tup pa_nil) (pa_cons (pe_tup (pa_cons pe_int (pa_cons pe_int pa_nil))) pa_nil)))))))))))))))
      (pss_cons (ps_set (i := 3) scOdd.nd rfl (Or.inl rfl) (pe_join0 (pe_op op_cat (pv 3) (pe_lst (pa_cons (pe_tup (pa_cons pe_int (pa_cons pe_int (pa_cons pe_int pa_nil)))) (pa_cons pe_int (pa_cons pe_int (pa_cons (pe_ix ix_list (pv 2) pe_int (fun _ _ => rfl)) pa_nil))))))))
      (pss_cons (ps_par (i := 4) (j := 5) (by rfl) scOdd.nd rfl rfl (by decide) rfl rfl (pa_cons (pe_call GD hr1 (by rfl) mD kD bD .nil pass0 (pa_cons (pv 0) (pa_cons pe_int pa_nil))) (pa_cons (pe_call GD hr1 (by rfl) mD kD bD .nil pass0 (pa_cons (pv 0) (pa_cons (pe_callB call_len_seq (by rfl) T.len (by decide +kernel) (pa_cons (pv 1) pa_nil)) pa_nil))) pa_nil)) (by rfl))
      (pss_cons (ps_if (pt_cmpR op_eq (pv 4) pe_int (nomark _)) (pss_one (ps_ret (pe_call GO hr (by rfl) mO kO bO .nil pass0 (pa_cons (pv 0) (pa_cons (pe_join0 (pe_lst (pa_cons pe_non (pa_cons pe_str (pa_cons (pe_callTy call_list_of (by rfl) T.list (by decide +kernel) (pa_cons (pv 1) pa_nil)) (pa_cons (pe_slice sl_tupA (pv 1) po_none (po_some (pe_un un_neg pe_int))) (pa_cons (pe_op op_catA (pv 1) (pe_tup (pa_cons pe_int pa_nil))) (pa_cons (pe_tup pa_nil) (pa_cons pe_dnewK (pa_cons pe_int pa_nil)))))))))) pa_nil))))) pss_nil)
      (pss_cons (ps_set (i := 6) scOdd.nd rfl (Or.inl rfl) (pe_call GO hr (by rfl) mO kO bO .nil pass0 (pa_cons (pv 0) (pa_cons (pv 3) pa_nil))))
      (pss_cons (does (Pre := OO K js j t l B H xs) (Post := OO K js j t l B H xs) (ps_if (PW.pt (pw_and (pt_cmpR op_eq (pv 4) pe_int (nomark _)) (pw_and1 (pt_truth (pe_callB call_isi (by rfl) T.isinstance (by decide +kernel) (pa_cons (pe_ix ix_tup (pv 1) (pe_un un_neg pe_int) (fun _ _ => rfl)) (pa_cons (pe_bltn (by rfl) T.tuple (by decide +kernel) (v := .ty "tuple") rfl) pa_nil))) (fun _ => rfl)))))
          (pss_cons (ps_set (i := 7) scOdd.nd rfl (Or.inl rfl) (pe_join0 (pe_lst (pa_cons (pe_slice sl_tupA (pe_ix ix_tup (pv 1) (pe_un un_neg pe_int) (fun _ _ => rfl)) po_none (po_some (pe_un un_neg pe_int))) (pa_cons (pe_op op_catA (pe_ix ix_tup (pv 1) (pe_un un_neg pe_int) (fun _ _ => rfl)) (pe_tup (pa_cons (pe_tup (pa_cons pe_int (pa_cons pe_int pa_nil))) pa_nil))) (pa_cons (pe_tup (pa_cons (pe_tup (pa_cons pe_int (pa_cons pe_int pa_nil))) (pa_cons (pe_tup (pa_cons pe_int (pa_cons pe_int pa_nil))) pa_nil))) pa_nil))))))
          (pss_cons (ps_set (i := 6) scOdd.nd rfl (Or.inl rfl) (pe_call GO hr (by rfl) mO kO bO .nil pass0 (pa_cons (pv 0) (pa_cons (pe_join0 (pe_op op_cat (pv 7) (pe_lst (pa_cons (pe_tup (pa_cons (pe_lst (pa_cons pe_int (pa_cons pe_int pa_nil))) pa_nil)) (pa_cons (pe_tup (pa_cons (pe_tup (pa_cons pe_int (pa_cons pe_bl pa_nil))) pa_nil)) (pa_cons (pe_tup (pa_cons (pe_tup (pa_cons pe_int pa_nil)) pa_nil)) pa_nil)))))) pa_nil))))
          (pss_one (ps_set (i := 5) scOdd.nd rfl (Or.inl rfl) (pe_op op_sub (pe_callB call_len_seq (by rfl) T.len (by decide +kernel) (pa_cons (pv 1) pa_nil)) pe_int))))) pss_nil) ?_)
      (pss_one (ps_ret (pe_op op_catA (pe_op op_catA (pe_slice sl_tupA (pv 1) po_none (po_some (pv 5))) (pe_tup (pa_cons (pv 6) pa_nil))) (pe_slice sl_tupA (pv 1) (po_some (pe_op op_add (pv 5) pe_int)) po_none))))))))), ?_⟩
    · rintro D σ G ⟨o, k, at_, fr, v7, rfl, c0, c1, bf, JG, bG⟩ next
      have HJG := HJ.but bG JG
      have cb : ∀ {G : Hp} {a : Addr} {o : HO}, G a = some o → a ∉ js → cut js G a = some o := fun {G a o} e n => by
        rw [cut_ne n]
        exact e
      have htG := bG _ _ (nej nt) ht
      have btG := Bd.exN (But.cut bG jin) bt
      have bxG := (btG.at (cb htG nt)).2
      have lxs := (btG.at (cb htG nt)).1
      have none_ : D.nx [some (.ref j), some (.ref t), some (.ref l), some (.ref o), some (.int k), some (.int at_), some fr, v7] G := next _ _ ⟨o, k, at_, fr, v7, rfl, c0, c1, bf, JG, bG⟩
      refine ⟨_, rfl, rfl, _, rfl, ?_⟩
      refine ite2 (fun ck => ?_) (fun ck => ?_)
      · have ne : xs ≠ [] := fun z => by
          rw [z] at two
          exact absurd two (by decide)
        obtain ⟨z, hz, mz⟩ : ∃ z, atI xs (-1) = some z ∧ z ∈ xs := last_at ne
        have bz := bxG z mz
        obtain ⟨ty1, b, ty, e, hb⟩ := (bz.kn.exN cut_up : Kn K G z).atTup
        refine ⟨_, rfl, _, rfl, t, xs, _, z, rfl, rfl, SqT.of htG, hz, _, _, ty1, _, b, rfl, .ty "tuple", ty, e, b, rfl, ?_⟩
        rcases hb with ⟨rfl, a, zs, rfl, ha, hzx⟩ | ⟨rfl, hzx⟩
        case inr => exact none_
        obtain ⟨_, ea, hac⟩ := tup_ref (show tupOf (cut js G) (.ref a) = some zs by rw [← bz.kn.tupsN cut_up]; exact hzx)
        cases ea
        have na := (cut_at hac).2
        have bzs := (bz.at (cb ha na)).2
        have lzs := (bz.at (cb ha na)).1
        refine ⟨fun v G1 => Goods K js (B + 2) 2 3 G v G1, ?_, ?_⟩
        · refine ⟨_, rfl, _, rfl, t, xs, _, .ref a, rfl, rfl, SqT.of htG, hz, ?_⟩
          refine ⟨_, rfl, _, rfl, rd_sl ha fun p1 G1 y1 f1 h1 => ?_⟩
          have m1 : p1 ∉ js := f1.elim (fun z => z ▸ na) fun n => HJG.ne n
          refine ⟨_, rfl, _, rfl, t, xs, _, .ref a, rfl, rfl, SqT.of (y1 _ _ htG), hz, big (by show 2 ≤ _; decide), fun p2 n2 => ?_⟩
          have y2 : Ex G1 (upd G1 p2 (.tup [.int 0, .int 0])) := Ex.refl.new n2
          have h2 : (upd G1 p2 (.tup [.int 0, .int 0])) p2 = some (.tup [.int 0, .int 0]) := upd_same
          have m2 := (HJG.ex y1).ne n2
          generalize upd G1 p2 (.tup [.int 0, .int 0]) = G2 at y2 h2 ⊢
          have y12 := y1.trans y2
          refine ⟨big (by show 1 ≤ _; decide), fun p3 n3 => ?_⟩
          have y3 : Ex G2 (upd G2 p3 (.tup [.ref p2])) := Ex.refl.new n3
          have h3 : (upd G2 p3 (.tup [.ref p2])) p3 = some (.tup [.ref p2]) := upd_same
          have m3 := (HJG.ex y12).ne n3
          generalize upd G2 p3 (.tup [.ref p2]) = G3 at y3 h3 ⊢
          have y13 := y12.trans y3
          refine rd_catA (y13 _ _ ha) h3 (by rw [List.length_cons, List.length_nil]; omega) fun p4 G4 y4 f4 h4 => ?_
          have m4 : p4 ∉ js := f4.elim (fun z => z ▸ na) fun z => z.elim (fun z => z ▸ m3) fun n => (HJG.ex y13).ne n
          have y14 := y13.trans y4
          refine ⟨big (by show 2 ≤ _; decide), fun p5 n5 => ?_⟩
          have y5 : Ex G4 (upd G4 p5 (.tup [.int 0, .int 0])) := Ex.refl.new n5
          have h5 : (upd G4 p5 (.tup [.int 0, .int 0])) p5 = some (.tup [.int 0, .int 0]) := upd_same
          have m5 := (HJG.ex y14).ne n5
          generalize upd G4 p5 (.tup [.int 0, .int 0]) = G5 at y5 h5 ⊢
          have y15 := y14.trans y5
          refine ⟨big (by show 2 ≤ _; decide), fun p6 n6 => ?_⟩
          have y6 : Ex G5 (upd G5 p6 (.tup [.int 5, .int 4])) := Ex.refl.new n6
          have h6 : (upd G5 p6 (.tup [.int 5, .int 4])) p6 = some (.tup [.int 5, .int 4]) := upd_same
          have m6 := (HJG.ex y15).ne n6
          generalize upd G5 p6 (.tup [.int 5, .int 4]) = G6 at y6 h6 ⊢
          have y16 := y15.trans y6
          refine ⟨big (by show 2 ≤ _; decide), fun p7 n7 => ?_⟩
          have y7 : Ex G6 (upd G6 p7 (.tup [.ref p5, .ref p6])) := Ex.refl.new n7
          have h7 : (upd G6 p7 (.tup [.ref p5, .ref p6])) p7 = some (.tup [.ref p5, .ref p6]) := upd_same
          have m7 := (HJG.ex y16).ne n7
          generalize upd G6 p7 (.tup [.ref p5, .ref p6]) = G7 at y7 h7 ⊢
          have y17 := y16.trans y7
          refine ⟨big (by show 3 ≤ _; decide), fun p8 n8 => ?_⟩
          refine ⟨p8, _, rfl, upd_same, (HJG.ex y17).ne n8, rfl, ?_, y17.new n8⟩
          have y8 : ∀ o, Ex G7 (upd G7 p8 o) := fun o => Ex.refl.new n8
          have y8 := y8 (.lst [.ref p1, .ref p4, .ref p7])
          intro y hy
          generalize upd G7 p8 (.lst [.ref p1, .ref p4, .ref p7]) = G8 at y8 hy ⊢
          have bx : ∀ v ∈ zs, Bd K (cut js G8) (B + 2) 1 v := fun v hv => (Bd.exN (Ex.cut (y17.trans y8)) (bzs v hv)).more (by omega)
          have c1 := cb (((y2.trans y3).trans (y4.trans (y5.trans (y6.trans (y7.trans y8))))) _ _ h1) m1
          have c2 := cb ((y3.trans (y4.trans (y5.trans (y6.trans (y7.trans y8))))) _ _ h2) m2
          have c4 := cb ((y5.trans (y6.trans (y7.trans y8))) _ _ h4) m4
          have c5 := cb ((y6.trans (y7.trans y8)) _ _ h5) m5
          have c6 := cb ((y7.trans y8) _ _ h6) m6
          have c7 := cb (y8 _ _ h7) m7
          have two_int : ∀ {p : Addr} {a b : Int}, cut js G8 p = some (.tup [.int a, .int b]) → Bd K (cut js G8) (B + 2) 1 (.ref p) := fun {p a b} c => .tup c (by show 2 ≤ _; omega) (by omega) fun y hy => by
            simp only [List.mem_cons, List.not_mem_nil, or_false] at hy
            rcases hy with rfl | rfl <;> exact .int
          simp only [List.mem_cons, List.not_mem_nil, or_false] at hy
          rcases hy with rfl | rfl | rfl
          · exact .tup c1 (by have := cutV_length zs none (some (-1)); omega) (by omega) fun y hy => bx y (cut_mem y hy)
          · exact .tup c4 (by rw [List.length_append, List.length_cons, List.length_nil]; omega) (by omega) fun y hy => by
              rcases List.mem_append.mp hy with hy | hy
              · exact bx y hy
              · cases List.mem_singleton.mp hy
                exact two_int c2
          · exact .tup c7 (by show 2 ≤ _; omega) (by omega) fun y hy => by
              simp only [List.mem_cons, List.not_mem_nil, or_false] at hy
              rcases hy with rfl | rfl
              · exact two_int c5
              · exact two_int c6
        · rintro _ G1 ⟨q1, us, rfl, hq1, mq1, ul, gu, x1⟩
          refine ⟨_, rfl, fun v G2 => Goods K js (B + 2) 2 6 G v G2, ?_, ?_⟩
          · refine ⟨_, rfl, big (by show 2 ≤ _; decide), fun p1 n1 => ?_⟩
            have y1 : Ex G1 (upd G1 p1 (.lst [.int 0, .int 1])) := Ex.refl.new n1
            have h1 : (upd G1 p1 (.lst [.int 0, .int 1])) p1 = some (.lst [.int 0, .int 1]) := upd_same
            have m1 := (HJG.ex x1).ne n1
            generalize upd G1 p1 (.lst [.int 0, .int 1]) = G2 at y1 h1 ⊢
            refine ⟨big (by show 1 ≤ _; decide), fun p2 n2 => ?_⟩
            have x2 := x1.trans y1
            have y2 : Ex G2 (upd G2 p2 (.tup [.ref p1])) := Ex.refl.new n2
            have h2 : (upd G2 p2 (.tup [.ref p1])) p2 = some (.tup [.ref p1]) := upd_same
            have m2 := (HJG.ex x2).ne n2
            generalize upd G2 p2 (.tup [.ref p1]) = G3 at y2 h2 ⊢
            refine ⟨big (by show 2 ≤ _; decide), fun p3 n3 => ?_⟩
            have x3 := x2.trans y2
            have y3 : Ex G3 (upd G3 p3 (.tup [.int 0, .bl true])) := Ex.refl.new n3
            have h3 : (upd G3 p3 (.tup [.int 0, .bl true])) p3 = some (.tup [.int 0, .bl true]) := upd_same
            have m3 := (HJG.ex x3).ne n3
            generalize upd G3 p3 (.tup [.int 0, .bl true]) = G4 at y3 h3 ⊢
            refine ⟨big (by show 1 ≤ _; decide), fun p4 n4 => ?_⟩
            have x4 := x3.trans y3
            have y4 : Ex G4 (upd G4 p4 (.tup [.ref p3])) := Ex.refl.new n4
            have h4 : (upd G4 p4 (.tup [.ref p3])) p4 = some (.tup [.ref p3]) := upd_same
            have m4 := (HJG.ex x4).ne n4
            generalize upd G4 p4 (.tup [.ref p3]) = G5 at y4 h4 ⊢
            refine ⟨big (by show 1 ≤ _; decide), fun p5 n5 => ?_⟩
            have x5 := x4.trans y4
            have y5 : Ex G5 (upd G5 p5 (.tup [.int 0])) := Ex.refl.new n5
            have h5 : (upd G5 p5 (.tup [.int 0])) p5 = some (.tup [.int 0]) := upd_same
            have m5 := (HJG.ex x5).ne n5
            generalize upd G5 p5 (.tup [.int 0]) = G6 at y5 h5 ⊢
            refine ⟨big (by show 1 ≤ _; decide), fun p6 n6 => ?_⟩
            have x6 := x5.trans y5
            have y6 : Ex G6 (upd G6 p6 (.tup [.ref p5])) := Ex.refl.new n6
            have h6 : (upd G6 p6 (.tup [.ref p5])) p6 = some (.tup [.ref p5]) := upd_same
            have m6 := (HJG.ex x6).ne n6
            generalize upd G6 p6 (.tup [.ref p5]) = G7 at y6 h6 ⊢
            refine ⟨big (by show 3 ≤ _; decide), fun p7 n7 => ?_⟩
            have x7 := x6.trans y6
            have y7 : Ex G7 (upd G7 p7 (.lst [.ref p2, .ref p4, .ref p6])) := Ex.refl.new n7
            have h7 : (upd G7 p7 (.lst [.ref p2, .ref p4, .ref p6])) p7 = some (.lst [.ref p2, .ref p4, .ref p6]) := upd_same
            generalize upd G7 p7 (.lst [.ref p2, .ref p4, .ref p6]) = G8 at y7 h7 ⊢
            have y27 := (y1.trans (y2.trans (y3.trans (y4.trans (y5.trans (y6.trans y7))))))
            refine ⟨q1, p7, _, _, rfl, rfl, y27 _ _ hq1, h7, big (by rw [ul]; show 6 ≤ _; decide), fun p8 n8 => ?_⟩
            have x8 := x7.trans y7
            have y8 : Ex G8 (upd G8 p8 (.lst (us ++ [.ref p2, .ref p4, .ref p6]))) := Ex.refl.new n8
            refine ⟨p8, _, rfl, upd_same, (HJG.ex x8).ne n8, by rw [List.length_append, ul]; rfl, fun y hy => ?_, x8.trans y8⟩
            generalize upd G8 p8 (.lst (us ++ [.ref p2, .ref p4, .ref p6])) = G9 at y8 ⊢
            have c1 := cb (((y2.trans y3).trans (y4.trans (y5.trans (y6.trans (y7.trans y8))))) _ _ h1) m1
            have c2 := cb ((y3.trans (y4.trans (y5.trans (y6.trans (y7.trans y8))))) _ _ h2) m2
            have c3 := cb ((y4.trans (y5.trans (y6.trans (y7.trans y8)))) _ _ h3) m3
            have c4 := cb ((y5.trans (y6.trans (y7.trans y8))) _ _ h4) m4
            have c5 := cb ((y6.trans (y7.trans y8)) _ _ h5) m5
            have c6 := cb ((y7.trans y8) _ _ h6) m6
            rcases List.mem_append.mp hy with hy | hy
            · exact Bd.exN (Ex.cut (y27.trans y8)) (gu y hy)
            · simp only [List.mem_cons, List.not_mem_nil, or_false] at hy
              rcases hy with rfl | rfl | rfl
              · exact .tup c2 (by show 1 ≤ _; omega) (by omega) fun y hy => by
                  cases List.mem_singleton.mp hy
                  exact .lst c1
              · exact .tup c4 (by show 1 ≤ _; omega) (by omega) fun y hy => by
                  cases List.mem_singleton.mp hy
                  exact .tup c3 (by show 2 ≤ _; omega) (by omega) fun y hy => by
                    simp only [List.mem_cons, List.not_mem_nil, or_false] at hy
                    rcases hy with rfl | rfl
                    · exact .int
                    · exact .bl
              · exact .tup c6 (by show 1 ≤ _; omega) (by omega) fun y hy => by
                  cases List.mem_singleton.mp hy
                  exact .tup c5 (by show 1 ≤ _; omega) (by omega) fun y hy => by
                    cases List.mem_singleton.mp hy
                    exact .int
          · rintro _ G2 ⟨q2, ws, rfl, hq2, mq2, wl, gw, x2⟩
            refine ⟨j, q2, ws, rfl, x2.jar JG, hq2, nej mq2, by omega, by omega, fun m fr2 G3 hv J3 b3 => ?_⟩
            have bG3 : But j H G3 := bG.trans (But.trans (fun b u _ e => x2 b u e) b3)
            refine ⟨_, rfl, t, xs, rfl, .inr (SqT.of (bG3 _ _ (nej nt) ht)), _, _, rfl, rfl, ?_⟩
            exact next _ _ ⟨o, k, _, fr2, _, rfl, by omega, by omega, Bd.exN (But.cut b3 jin) (gw fr2 (List.mem_of_getElem? hv)), J3, bG3⟩
      · exact none_
    · have cb : ∀ {G : Hp} {a : Addr} {o : HO}, G a = some o → a ∉ js → cut js G a = some o := fun {G a o} e n => by
        rw [cut_ne n]
        exact e
      refine ⟨fun v G => Goods K js (B + 2) 2 12 H v G, ?_, ?_⟩
      · refine ⟨_, rfl, _, _, rfl, rfl, ⟨by decide, by decide, by decide⟩, _, _, rfl, rfl, big (by show 1 ≤ _; decide), fun p1 n1 => ?_⟩
        have x1 : Ex H (upd H p1 (.lst [.int 1])) := Ex.refl.new n1
        have h1 : (upd H p1 (.lst [.int 1])) p1 = some (.lst [.int 1]) := upd_same
        have m1 := HJ.ne n1
        generalize upd H p1 (.lst [.int 1]) = H1 at x1 h1 ⊢
        refine ⟨big (by show 0 ≤ _; decide), fun p2 n2 => ?_⟩
        have x2 : Ex H1 (upd H1 p2 (.tup [])) := Ex.refl.new n2
        have h2 : (upd H1 p2 (.tup [])) p2 = some (.tup []) := upd_same
        have m2 := (HJ.ex x1).ne n2
        generalize upd H1 p2 (.tup []) = H2 at x2 h2 ⊢
        refine ⟨big (by show 2 ≤ _; decide), fun p3 n3 => ?_⟩
        have x3 : Ex H2 (upd H2 p3 (.tup [.int 2, .int 1])) := Ex.refl.new n3
        have h3 : (upd H2 p3 (.tup [.int 2, .int 1])) p3 = some (.tup [.int 2, .int 1]) := upd_same
        have m3 := (HJ.ex (x1.trans x2)).ne n3
        generalize upd H2 p3 (.tup [.int 2, .int 1]) = H3 at x3 h3 ⊢
        refine ⟨big (by show 12 ≤ _; decide), fun p4 n4 => ?_⟩
        have m4 := (HJ.ex (x1.trans (x2.trans x3))).ne n4
        refine ⟨p4, _, rfl, upd_same, m4, rfl, fun y hy => ?_, (x1.trans (x2.trans x3)).new n4⟩
        have x4 : ∀ o, Ex H3 (upd H3 p4 o) := fun o => Ex.refl.new n4
        have c3 := cb (x4 (.lst [.non, .bl true, .int (-1), .int 1001, .int ((10 : Int) ^ (12 : Int).toNat + 1), .str "1", .str "", .str "A", .str "abcdefghi", .ref p1, .ref p2, .ref p3]) _ _ h3) m3
        have c2 := cb (x4 (.lst [.non, .bl true, .int (-1), .int 1001, .int ((10 : Int) ^ (12 : Int).toNat + 1), .str "1", .str "", .str "A", .str "abcdefghi", .ref p1, .ref p2, .ref p3]) _ _ (x3 _ _ h2)) m2
        have c1 := cb (x4 (.lst [.non, .bl true, .int (-1), .int 1001, .int ((10 : Int) ^ (12 : Int).toNat + 1), .str "1", .str "", .str "A", .str "abcdefghi", .ref p1, .ref p2, .ref p3]) _ _ ((x2.trans x3) _ _ h1)) m1
        simp only [List.mem_cons, List.not_mem_nil, or_false] at hy
        rcases hy with rfl | rfl | rfl | rfl | rfl | rfl | rfl | rfl | rfl | rfl | rfl | rfl
        · exact .non
        · exact .bl
        · exact .int
        · exact .int
        · exact .int
        · exact .str (by decide)
        · exact .str (by decide)
        · exact .str (by decide)
        · exact .str (by decide)
        · exact .lst c1
        · exact .tup0 c2
        · exact .tup c3 (by show 2 ≤ _; omega) (by omega) fun y hy => by
            simp only [List.mem_cons, List.not_mem_nil, or_false] at hy
            rcases hy with rfl | rfl <;> exact .int
      rintro _ H1 ⟨o1, ys, rfl, ho, mo, yl, gy, x1⟩
      refine ⟨fun v G => Goods K js (B + 2) 2 16 H v G, ?_, ?_⟩
      · refine ⟨_, rfl, big (by show 3 ≤ _; decide), fun p1 n1 => ?_⟩
        have x2 : Ex H1 (upd H1 p1 (.tup [.int 0, .int 1, .int 2])) := Ex.refl.new n1
        have h1 : (upd H1 p1 (.tup [.int 0, .int 1, .int 2])) p1 = some (.tup [.int 0, .int 1, .int 2]) := upd_same
        have m1 := (HJ.ex x1).ne n1
        generalize upd H1 p1 (.tup [.int 0, .int 1, .int 2]) = H2 at x2 h1 ⊢
        have x12 := x1.trans x2
        refine ⟨_, rfl, l, _, 0, .str s0, rfl, rfl, SqL.of (x12 _ _ hl), atI_nat (j := 0) rfl, big (by show 4 ≤ _; decide), fun p2 n2 => ?_⟩
        have x3 : Ex H2 (upd H2 p2 (.lst [.ref p1, .int 0, .int 1000, .str s0])) := Ex.refl.new n2
        have h2 : (upd H2 p2 (.lst [.ref p1, .int 0, .int 1000, .str s0])) p2 = some (.lst [.ref p1, .int 0, .int 1000, .str s0]) := upd_same
        have m2 := (HJ.ex x12).ne n2
        generalize upd H2 p2 (.lst [.ref p1, .int 0, .int 1000, .str s0]) = H3 at x3 h2 ⊢
        have x13 := x12.trans x3
        refine ⟨o1, p2, _, _, rfl, rfl, (x2.trans x3) _ _ ho, h2, big (by rw [yl]; show 16 ≤ _; decide), fun p3 n3 => ?_⟩
        have x4 : Ex H3 (upd H3 p3 (.lst (ys ++ [.ref p1, .int 0, .int 1000, .str s0]))) := Ex.refl.new n3
        refine ⟨p3, _, rfl, upd_same, (HJ.ex x13).ne n3, by rw [List.length_append, yl]; rfl, fun y hy => ?_, x13.trans x4⟩
        generalize upd H3 p3 (.lst (ys ++ [.ref p1, .int 0, .int 1000, .str s0])) = H4 at x4 ⊢
        rcases List.mem_append.mp hy with hy | hy
        · exact Bd.exN (Ex.cut (x2.trans (x3.trans x4))) (gy y hy)
        · simp only [List.mem_cons, List.not_mem_nil, or_false] at hy
          rcases hy with rfl | rfl | rfl | rfl
          · exact .tup (cb ((x3.trans x4) _ _ h1) m1) (by show 3 ≤ _; omega) (by omega) fun y hy => by
              simp only [List.mem_cons, List.not_mem_nil, or_false] at hy
              rcases hy with rfl | rfl | rfl <;> exact .int
          · exact .int
          · exact .int
          · exact .str s8
      clear ho gy x1
      rintro _ H2 ⟨o2, zs, rfl, ho, mo, zl, gz, x1⟩
      refine ⟨_, rfl, j, 4, rfl, x1.jar J, by decide, by decide, fun k H3 k0 k1 J3 b3 => ?_⟩
      have ht3 := b3 _ _ (nej nt) (x1 _ _ ht)
      refine ⟨_, rfl, _, rfl, t, xs, rfl, .inr (SqT.of ht3), j, (xs.length : Nat), rfl, J3, by omega, by have := (bt.at (cb ht nt)).1; omega, fun at_ H4 a0 a1 J4 b4 => ?_⟩
      have x4 : But j H H4 := (But.trans (fun b u _ e => x1 b u e) b3).trans b4
      have ho4 := (b3.trans b4) _ _ (nej mo) ho
      have ht4 := x4 _ _ (nej nt) ht
      have gz4 : ∀ y ∈ zs, Bd K (cut js H4) (B + 2) 2 y := fun y hy => Bd.exN (But.cut (b3.trans b4) jin) (gz y hy)
      have HJ4 := HJ.but x4 J4
      have bt4 := Bd.exN (But.cut x4 jin) bt
      clear ho gz x1 b3 b4 ht3 J3
      refine ⟨_, _, rfl, _, rfl, rfl, _, rfl, ?_⟩
      have bxs := (bt4.at (cb ht4 nt)).2
      have lxs := (bt4.at (cb ht4 nt)).1
      refine ite2 (fun _ => ?_) (fun _ => ?_)
      · refine ⟨_, rfl, fun v G => Goods K js (B + 2) 3 8 H4 v G, ?_, ?_⟩
        · refine ⟨_, rfl, t, xs, rfl, .inr (SqT.of ht4), fun p1 n1 => ?_⟩
          have y1 : Ex H4 (upd H4 p1 (.lst xs)) := Ex.refl.new n1
          have h1 : (upd H4 p1 (.lst xs)) p1 = some (.lst xs) := upd_same
          have m1 := HJ4.ne n1
          generalize upd H4 p1 (.lst xs) = G1 at y1 h1 ⊢
          refine ⟨_, rfl, _, rfl, _, rfl, rd_sl (y1 _ _ ht4) fun p2 G2 y2 f2 h2 => ?_⟩
          have m2 : p2 ∉ js := f2.elim (fun z => z ▸ nt) fun n => (HJ4.ex y1).ne n
          have y12 := y1.trans y2
          refine ⟨_, rfl, big (by show 1 ≤ _; decide), fun p3 n3 => ?_⟩
          have y3 : Ex G2 (upd G2 p3 (.tup [.int 0])) := Ex.refl.new n3
          have h3 : (upd G2 p3 (.tup [.int 0])) p3 = some (.tup [.int 0]) := upd_same
          have m3 := (HJ4.ex y12).ne n3
          generalize upd G2 p3 (.tup [.int 0]) = G3 at y3 h3 ⊢
          have y13 := y12.trans y3
          refine rd_catA (y13 _ _ ht4) h3 (by rw [List.length_cons, List.length_nil]; omega) fun p4 G4 y4 f4 h4 => ?_
          have m4 : p4 ∉ js := f4.elim (fun z => z ▸ nt) fun z => z.elim (fun z => z ▸ m3) fun n => (HJ4.ex y13).ne n
          have y14 := y13.trans y4
          refine ⟨big (by show 0 ≤ _; decide), fun p5 n5 => ?_⟩
          have y5 : Ex G4 (upd G4 p5 (.tup [])) := Ex.refl.new n5
          have h5 : (upd G4 p5 (.tup [])) p5 = some (.tup []) := upd_same
          have m5 := (HJ4.ex y14).ne n5
          generalize upd G4 p5 (.tup []) = G5 at y5 h5 ⊢
          have y15 := y14.trans y5
          intro p6 n6
          have y6 : Ex G5 (upd G5 p6 (.dK [])) := Ex.refl.new n6
          have h6 : (upd G5 p6 (.dK [])) p6 = some (.dK []) := upd_same
          have m6 := (HJ4.ex y15).ne n6
          generalize upd G5 p6 (.dK []) = G6 at y6 h6 ⊢
          have y16 := y15.trans y6
          refine ⟨big (by show 8 ≤ _; decide), fun p7 n7 => ?_⟩
          refine ⟨p7, _, rfl, upd_same, (HJ4.ex y16).ne n7, rfl, ?_, y16.new n7⟩
          have y7 : ∀ o, Ex G6 (upd G6 p7 o) := fun o => Ex.refl.new n7
          have y7 := y7 (.lst [.non, .str "mixer", .ref p1, .ref p2, .ref p4, .ref p5, .ref p6, .int 5])
          intro y hy
          have bx : ∀ v ∈ xs, Bd K (cut js (upd G6 p7 (.lst [.non, .str "mixer", .ref p1, .ref p2, .ref p4, .ref p5, .ref p6, .int 5]))) (B + 2) 2 v := fun v hv => (Bd.exN (Ex.cut (y16.trans y7)) (bxs v hv)).more (by omega)
          have c1 := cb (((y2.trans y3).trans (y4.trans (y5.trans (y6.trans y7)))) _ _ h1) m1
          have c2 := cb ((y3.trans (y4.trans (y5.trans (y6.trans y7)))) _ _ h2) m2
          have c4 := cb ((y5.trans (y6.trans y7)) _ _ h4) m4
          have c5 := cb ((y6.trans y7) _ _ h5) m5
          have c6 := cb (y7 _ _ h6) m6
          simp only [List.mem_cons, List.not_mem_nil, or_false] at hy
          rcases hy with rfl | rfl | rfl | rfl | rfl | rfl | rfl | rfl
          · exact .non
          · exact .str (by decide)
          · exact .lst c1
          · exact .tup c2 (by have := cutV_length xs none (some (-1)); omega) (by omega) fun y hy => bx y (cut_mem y hy)
          · exact .tup c4 (by rw [List.length_append, List.length_cons, List.length_nil]; omega) (by omega) fun y hy => by
              rcases List.mem_append.mp hy with hy | hy
              · exact bx y hy
              · cases List.mem_singleton.mp hy
                exact .int
          · exact .tup0 c5
          · exact .dct c6
          · exact .int
        · rintro _ G ⟨pp, us, rfl, hp, mp, ul, gu, xG⟩
          refine ⟨j, pp, us, rfl, xG.jar J4, hp, nej mp, by omega, by omega, fun m v H5 hv J5 b5 => ?_⟩
          refine q v H5 J5 (x4.trans (But.trans (fun b u _ e => xG b u e) b5)) (Bd.exN (But.cut b5 jin) (gu v (List.mem_of_getElem? hv)))
      · refine ⟨_, rfl, _, rfl, j, o2, zs, rfl, J4, ho4, nej mo, by omega, by omega, fun m fr H5 hv J5 b5 => ?_⟩
        have x5 := x4.trans b5
        refine ⟨⟨o2, k, at_, fr, none, rfl, a0, a1, Bd.exN (But.cut b5 jin) (gz4 fr (List.mem_of_getElem? hv)), J5, x5⟩, ?_⟩
        rintro σ G ⟨o, k, at2, fr2, v7, rfl, c0, c1, bf, JG, bG⟩
        have HJG := HJ.but bG JG
        have htG := bG _ _ (nej nt) ht
        have btG := Bd.exN (But.cut bG jin) bt
        have bxG := (btG.at (cb htG nt)).2
        refine ⟨_, rfl, _, rfl, _, rfl, rd_sl htG fun p1 G1 y1 f1 h1 => ?_⟩
        have m1 : p1 ∉ js := f1.elim (fun z => z ▸ nt) fun n => HJG.ne n
        refine ⟨_, rfl, big (by show 1 ≤ _; decide), fun p2 n2 => ?_⟩
        have y2 : Ex G1 (upd G1 p2 (.tup [fr2])) := Ex.refl.new n2
        have h2 : (upd G1 p2 (.tup [fr2])) p2 = some (.tup [fr2]) := upd_same
        have m2 := (HJG.ex y1).ne n2
        generalize upd G1 p2 (.tup [fr2]) = G2 at y2 h2 ⊢
        have l1 := cutV_length xs none (some at2)
        refine rd_catA (y2 _ _ h1) h2 (by rw [List.length_cons, List.length_nil]; omega) fun p3 G3 y3 f3 h3 => ?_
        have y12 := y1.trans y2
        have m3 : p3 ∉ js := f3.elim (fun z => z ▸ m1) fun z => z.elim (fun z => z ▸ m2) fun n => (HJG.ex y12).ne n
        have y13 := y12.trans y3
        refine ⟨_, rfl, _, rfl, _, _, rfl, rfl, _, rfl, ?_⟩
        show rSlA K (.ref t) (some (at2 + 1)) none G3 (fun y H2 => rCatA K (.ref p3) y H2 Q)
        refine rd_sl (y13 _ _ htG) fun p4 G4 y4 f4 h4 => ?_
        have m4 : p4 ∉ js := f4.elim (fun z => z ▸ nt) fun n => (HJG.ex y13).ne n
        have l2 := cutV_length xs (some (at2 + 1)) none
        refine rd_catA (y4 _ _ h3) h4 (by rw [List.length_append, List.length_cons, List.length_nil]; omega) fun p5 G5 y5 f5 h5 => ?_
        have y14 := y13.trans y4
        have m5 : p5 ∉ js := f5.elim (fun z => z ▸ m3) fun z => z.elim (fun z => z ▸ m4) fun n => (HJG.ex y14).ne n
        have y15 := y14.trans y5
        have bx : ∀ v ∈ xs, Bd K (cut js G5) (B + 2) 2 v := fun v hv => (Bd.exN (Ex.cut y15) (bxG v hv)).more (by omega)
        refine q _ G5 (y15.jar JG) (bG.trans fun b u _ e => y15 b u e) (.tup (cb h5 m5) ?_ (by omega) fun y hy => ?_)
        · have e := odd_len (xs := xs) (fr := fr2) c0 c1
          omega
        · rcases List.mem_append.mp hy with hy | hy
          · rcases List.mem_append.mp hy with hy | hy
            · exact bx y (cut_mem y hy)
            · cases List.mem_singleton.mp hy
              exact Bd.exN (Ex.cut y15) bf
          · exact bx y (cut_mem y hy)
end
end LJ
set_option Elab.async false
set_option linter.all false
set_option maxRecDepth 100000
set_option maxHeartbeats 4000000
/-! _law_right: one turn of changes. -/
namespace LJ
open PySem PySem.Spec L2 PySem.ErrV
open LamX (ExtN TabB)
open NdefX (NTab TabsN)
abbrev sRight : Stmt := top 53
abbrev nRight : List Str := ["_law_jar_here", "_law_world_here", "_law_parts", "_law_labels_here", "_law_turn", "_law_kind", "_law_some", "_law_at", "_law_rest", "_law_due_here", "_law_part", "_law_row", "_law_k"]
theorem scRight : FnScope nRight ["_law_jar_here"] (defScope sRight) := ⟨rfl, rfl, rfl, by decide +kernel, rfl, by decide +kernel, by decide +kernel⟩
def forBody : Stmt → List Stmt
  | .For (body := b) .. => b
  | _ => []
def rs (i : Nat) : Stmt := (defBody sRight).getD i (.Pass ⟨0, 0, 0, 0⟩)
def rb (i : Nat) : Stmt := (forBody (rs 2)).getD i (.Pass ⟨0, 0, 0, 0⟩)
/-- a def that is called by its name -/
def Callee (K : PySem.W.Frag) (mg : Str → Option Value) (name : Str) (ps : List Str) (G : Addr → FuncData → Prop) : Prop := ∃ f fd, G f fd ∧ mg name = some (.ref f) ∧ PySem.W.keepIn K (.ref f) = true ∧ Binds K fd ps []
structure BltR (mg : Str → Option Value) : Prop where
  isinstance : mg "isinstance" = none
  tuple : mg "tuple" = none
  list : mg "list" = none
  len : mg "len" = none
  range : mg "range" = none
  repr : mg "repr" = none
/-- all that _law_right needs of the rest -/
structure Rt (P : Program) (w : World) (K : PySem.W.Frag) (mg : Str → Option Value) (base : Heap) (T : List NTab) : Prop where
  blt : BltR mg
  dip : Callee K mg "_law_dip" ["_law_jar_here", "_law_top"] fun f fd => FnOk P w K mg base CX0 1 f fd ["_law_jar_here", "_law_top"] spDip
  one : Callee K mg "_law_one_of" ["_law_jar_here", "_law_some"] fun f fd => FnOk P w K mg base CX0 2 f fd ["_law_jar_here", "_law_some"] spOne
  world : Callee K mg "_law_world" ["_law_jar_here", "_law_most"] fun f fd => FnOk P w K mg base CX0 4 f fd ["_law_jar_here", "_law_most"] spWorld
  odd : Callee K mg "_law_odd" pOdd fun f fd => FnOk P w K mg base CX0 3 f fd pOdd (spOdd K)
  due : Callee K mg "_law_due" pDue fun f fd => FnOk P w K mg base CX0 4 f fd pDue (spDue4 K)
  made : Callee K mg "_law_made" pMade fun f fd => FnOk P w K mg base CX0 9 f fd pMade (spMade K T)
abbrev XR (P : Program) (w : World) (K : PySem.W.Frag) (mg : Str → Option Value) (base : Heap) (f : Addr) (cdv : Value) (A : Around) (outer : List Env) (s : Shared) (H0 : Hp) : Cx := (cxOf CX0 P w K mg base nRight "_law_right" (defScope sRight) f cdv A outer s H0 E0).nox
def Bt : Nat → Nat
  | 0 => 8
  | i + 1 => 2 * Bt i + 8
theorem bt8 : ∀ i, 8 ≤ Bt i
  | 0 => Nat.le_refl _
  | i + 1 => by
    show 8 ≤ 2 * Bt i + 8
    omega
theorem bt3 {i : Nat} (h : i ≤ 3) : Bt i ≤ 120 := by
  match i, h with
  | 0, _ => decide
  | 1, _ => decide
  | 2, _ => decide
  | 3, _ => decide
/-- what stands between the changes -/
structure Sc (K : PySem.W.Frag) (H0 : Hp) (i : Nat) (j p l : Addr) (xs : List V) (H : Hp) : Prop where
  jar : JarAt H j
  but : But j H0 H
  parts : H p = some (.lst xs)
  newp : H0 p = none
  four : xs.length = 4
  pj : p ≠ j
  good : ∀ v ∈ xs, Bd K (cut [j, p] H) (Bt i) 4 v
  labels : ∃ s ls, H l = some (.lst (.str s :: ls)) ∧ s.length ≤ 1000
  lj : l ≠ j
  lp : l ≠ p
theorem Sc.held {K : PySem.W.Frag} {H0 : Hp} {i : Nat} {j p l : Addr} {xs : List V} {H : Hp} (S : Sc K H0 i j p l xs H) : Held [j, p] H := fun a m z => by
  simp only [List.mem_cons, List.not_mem_nil, or_false] at m
  rcases m with rfl | rfl
  · obtain ⟨d, m, c, e, _⟩ := S.jar
    rw [e] at z
    cases z
  · rw [S.parts] at z
    cases z
theorem Sc.move {K : PySem.W.Frag} {H0 : Hp} {i : Nat} {j p l : Addr} {xs : List V} {H H1 : Hp} (S : Sc K H0 i j p l xs H) (b : But j H H1) (J : JarAt H1 j) : Sc K H0 i j p l xs H1 where
  jar := J
  but := S.but.trans b
  parts := b _ _ S.pj S.parts
  newp := S.newp
  four := S.four
  pj := S.pj
  good := fun v hv => Bd.exN (b.cut (by simp)) (S.good v hv)
  labels := by
    obtain ⟨s, ls, h1, h2⟩ := S.labels
    exact ⟨s, ls, b _ _ S.lj h1, h2⟩
  lj := S.lj
  lp := S.lp
theorem Sc.step {K : PySem.W.Frag} {H0 : Hp} {i : Nat} {j p l : Addr} {xs : List V} {H H1 : Hp} (S : Sc K H0 i j p l xs H) (e : Ex H H1) : Sc K H0 i j p l xs H1 := S.move (fun b u _ h => e b u h) (e.jar S.jar)
def R0 (K : PySem.W.Frag) (H0 : Hp) (i : Nat) (j p l : Addr) : L2.St → Hp → Prop := fun σ H => ∃ xs v1 v4 v5 v6 v7 v8 v9, σ = [some (.ref j), v1, some (.ref p), some (.ref l), v4, v5, v6, v7, v8, v9, none, none, none] ∧ Sc K H0 i j p l xs H
def R1 (K : PySem.W.Frag) (H0 : Hp) (i : Nat) (j p l : Addr) : L2.St → Hp → Prop := fun σ H => ∃ (xs : List V) (k : Nat) (so : Addr) (zs : List V) (v1 v4 v7 v8 v9 : Option V), σ = [some (.ref j), v1, some (.ref p), some (.ref l), v4, some (.int (k : Nat)), some (.ref so), v7, v8, v9, none, none, none] ∧ k < 4 ∧ Sc K H0 i j p l xs H ∧
  cut [j, p] H so = some (.tup zs) ∧ Bd K (cut [j, p] H) (Bt i) 4 (.ref so)
section
variable {P : Program} {w : World} {K : PySem.W.Frag} {mg : Str → Option Value} {base : Heap} {T : List NTab} {f j p l : Addr} {cdv : Value} {A : Around} {outer : List Env} {s : Shared} {H0 H00 : Hp} {i : Nat}
theorem do0 (R : Rt P w K mg base T) (hr : Room 9 (XR P w K mg base f cdv A outer s H00).A) (i3 : i < 3) : PSs (XR P w K mg base f cdv A outer s H00) [rb 0, rb 1] (tHo (R0 K H0 i j p l) (R1 K H0 i j p l)) := by
  obtain ⟨fD, fdD, GD, mD, kD, bD⟩ := R.dip
  have hr1 : Room 1 (XR P w K mg base f cdv A outer s H00).A := hr.mono (by decide)
  refine PSs.weak (pss_cons (ps_set (i := 5) scRight.nd rfl (Or.inl rfl) (pe_call GD hr1 (by rfl) mD kD bD .nil pass0 (pa_cons (pv 0) (pa_cons pe_int pa_nil))))
    (pss_one (ps_set (i := 6) scRight.nd rfl (Or.inl rfl) (pe_ifExp (pt_truth (pe_callB call_isi (by rfl) R.blt.isinstance (by decide +kernel) (pa_cons (pe_ix ix_list (pv 2) (pv 5) (fun _ _ => rfl)) (pa_cons (pe_bltn (by rfl) R.blt.tuple (by decide +kernel) (v := .ty "tuple") rfl) pa_nil))) (fun _ => rfl)) (pe_ix ix_list (pv 2) (pv 5) (fun _ _ => rfl)) (pe_tup pa_nil))))) ?_
  rintro D σ H ⟨⟨xs, v1, v4, v5, v6, v7, v8, v9, rfl, S⟩, next⟩
  refine ⟨_, rfl, j, 4, rfl, S.jar, by decide, by decide, fun k H1 k0 k1 J1 b1 => ?_⟩
  obtain ⟨n, rfl⟩ := Int.eq_ofNat_of_zero_le k0
  have n4 : n < 4 := by omega
  have S1 : Sc K H0 i j p l xs H1 := S.move b1 J1
  obtain ⟨x, hx⟩ : ∃ x, xs[n]? = some x := ⟨_, List.getElem?_eq_getElem (by rw [S.four]; exact n4)⟩
  have bx := S1.good x (List.mem_of_getElem? hx)
  obtain ⟨ty1, b, ty, e, hb⟩ := (bx.kn.exN cut_up : Kn K H1 x).atTup
  refine ⟨_, rfl, _, rfl, p, xs, _, x, rfl, rfl, SqL.of S1.parts, atI_nat hx, _, _, ty1, _, b, rfl, .ty "tuple", ty, e, b, rfl, ?_⟩
  rcases hb with ⟨rfl, a, zs, rfl, ha, hzx⟩ | ⟨rfl, hzx⟩
  · obtain ⟨_, ea, hac⟩ := tup_ref (show tupOf (cut [j, p] H1) (.ref a) = some zs by rw [← bx.kn.tupsN cut_up]; exact hzx)
    cases ea
    refine ⟨_, rfl, _, rfl, p, xs, _, .ref a, rfl, rfl, SqL.of S1.parts, atI_nat hx, ?_⟩
    exact next _ _ ⟨xs, n, a, zs, v1, v4, v7, v8, v9, rfl, n4, S1, hac, bx⟩
  · refine ⟨by rw [sizeLine_eq]; exact Nat.zero_le _, fun q nq => ?_⟩
    have S2 := S1.step (Ex.refl.new nq : Ex H1 (upd H1 q (.tup [])))
    have hq : cut [j, p] (upd H1 q (.tup [])) q = some (.tup []) := cut_of upd_same (S1.held.ne nq)
    exact next _ _ ⟨xs, n, q, [], v1, v4, v7, v8, v9, rfl, n4, S2, hq, .tup0 hq⟩
end
end LJ
set_option Elab.async false
set_option linter.all false
set_option maxRecDepth 100000
set_option maxHeartbeats 4000000
/-! _law_right: a part is changed. -/
namespace LJ
open PySem PySem.Spec L2 PySem.ErrV
open LamX (ExtN TabB)
open NdefX (NTab TabsN)
section
variable {K : PySem.W.Frag} {H0 H H1 : Hp} {i : Nat} {j p l : Addr} {xs : List V}
theorem bt_more {i : Nat} : Bt i + 2 ≤ Bt (i + 1) := by
  show Bt i + 2 ≤ 2 * Bt i + 8
  omega
theorem Sc.more (S : Sc K H0 i j p l xs H) : Sc K H0 (i + 1) j p l xs H := { S with good := fun v hv => (S.good v hv).more (by have := @bt_more i; omega) }
theorem Sc.put (S : Sc K H0 i j p l xs H) {k : Nat} (k4 : k < 4) {v : V} (bv : Bd K (cut [j, p] H) (Bt (i + 1)) 4 v) : Sc K H0 (i + 1) j p l (xs.set k v) (upd H p (.lst (xs.set k v))) := by
  have e : ExtN (cut [j, p] H) (cut [j, p] (upd H p (.lst (xs.set k v)))) := fun a o h _ => by
    obtain ⟨h1, h2⟩ := cut_at h
    refine cut_of ?_ h2
    rw [upd_ne fun z => h2 (by rw [z]; simp)]
    exact h1
  refine ⟨S.jar.put S.pj, S.but.put S.newp, upd_same, S.newp, by rw [List.length_set]; exact S.four, S.pj, fun y hy => Bd.exN e ?_, ?_, S.lj, S.lp⟩
  · rcases List.mem_or_eq_of_mem_set hy with h | h
    · exact (S.good y h).more (by have := @bt_more i; omega)
    · rw [h]
      exact bv
  · obtain ⟨s, ls, h1, h2⟩ := S.labels
    exact ⟨s, ls, by rw [upd_ne S.lp]; exact h1, h2⟩
theorem rd_slN {σ : L2.St} {a : Addr} {zs : List V} {lo : Int} {Q : VK} (h : H a = some (.tup zs)) (q : ∀ (p : Addr) (G : Hp), Ex H G → (p = a ∨ H p = none) → G p = some (.tup (cutV zs (some lo) none)) → Q (.ref p) G) :
    (fun l H2 => tNoPart σ H2 fun u H3 => rSlA K (.ref a) l u H3 Q) (some lo) H := rd_sl (lo := some lo) (hi := none) h q
theorem letters_at {n : Nat} (h : n < 8) : ∃ c, atI (Str.ofString "abcdefgh").cps.toList ((0 : Int) + ((n : Nat) : Int)) = some c := by
  match n, h with
  | 0, _ => exact ⟨_, rfl⟩
  | 1, _ => exact ⟨_, rfl⟩
  | 2, _ => exact ⟨_, rfl⟩
  | 3, _ => exact ⟨_, rfl⟩
  | 4, _ => exact ⟨_, rfl⟩
  | 5, _ => exact ⟨_, rfl⟩
  | 6, _ => exact ⟨_, rfl⟩
  | 7, _ => exact ⟨_, rfl⟩
theorem four_ix {k : Nat} (h : k < 4) : ixN 4 ((k : Nat) : Int) = some k := by
  match k, h with
  | 0, _ => rfl
  | 1, _ => rfl
  | 2, _ => rfl
  | 3, _ => rfl
end
section
variable {P : Program} {w : World} {K : PySem.W.Frag} {mg : Str → Option Value} {base : Heap} {T : List NTab} {f j p l : Addr} {cdv : Value} {A : Around} {outer : List Env} {s : Shared} {H0 H00 : Hp} {i : Nat}
def orElse : Stmt → Stmt
  | .If (orelse := [b]) .. => b
  | _ => .Pass ⟨0, 0, 0, 0⟩
theorem do2 (R : Rt P w K mg base T) (hr : Room 9 (XR P w K mg base f cdv A outer s H00).A) (i3 : i < 3) : Does (XR P w K mg base f cdv A outer s H00) (orElse (rb 2)) (R1 K H0 i j p l) (R0 K H0 (i + 1) j p l) := by
  obtain ⟨fD, fdD, GD, mD, kD, bD⟩ := R.dip
  obtain ⟨fO, fdO, GO, mO, kO, bO⟩ := R.one
  have hr1 : Room 1 (XR P w K mg base f cdv A outer s H00).A := hr.mono (by decide)
  have hr2 : Room 2 (XR P w K mg base f cdv A outer s H00).A := hr.mono (by decide)
  have hu : (XR P w K mg base f cdv A outer s H00).A.units < cLine := by
    have := hr.un
    omega
  refine does (ps_if (pt_cmpR op_eq (pe_call GD hr1 (by rfl) mD kD bD .nil pass0 (pa_cons (pv 0) (pa_cons pe_int pa_nil))) pe_int (nomark _))
    (pss_one (ps_asg (pe_call GO hr2 (by rfl) mO kO bO .nil pass0 (pa_cons (pv 0) (pa_cons (pe_join0 (pe_lst (pa_cons pe_non (pa_cons (pe_tup pa_nil) (pa_cons (pe_callTy call_list_of (by rfl) R.blt.list (by decide +kernel) (pa_cons (pv 6) pa_nil)) (pa_cons pe_str (pa_cons pe_dnewK (pa_cons (pe_op op_catA (pv 6) (pv 6)) (pa_cons pe_int pa_nil))))))))) pa_nil))) (pg_sub (pv 2) (pv 5) set_list)))
    (pss_one (ps_if (pt_cmpR (op_neE hu) (pv 6) (pe_tup pa_nil) rfl)
      (pss_cons (ps_set (i := 8) scRight.nd rfl (Or.inr rfl) (pe_join0 (pe_ifExp (pt_truth (pe_callB call_isi (by rfl) R.blt.isinstance (by decide +kernel) (pa_cons (pe_ix ix_tup (pv 6) pe_int (fun _ _ => rfl)) (pa_cons (pe_bltn (by rfl) R.blt.tuple (by decide +kernel) (v := .ty "tuple") rfl) pa_nil))) (fun _ => rfl)) (pe_slice sl_tupA (pe_ix ix_tup (pv 6) pe_int (fun _ _ => rfl)) (po_some pe_int) po_none) (pe_tup pa_nil))))
      (pss_one (ps_asg (pe_op op_catA (pv 6) (pe_tupleOf (by rfl) R.blt.tuple (pe_lc (own := [("_law_k", 12)]) (g := gName 12) (by rfl) scRight.nd (pi_range1 (by rfl) R.blt.range (pa_cons pe_int pa_nil)) (blkOk_by (own := [("_law_k", 12)]) (N := nRight) (sc := defScope sRight) (by decide +kernel))
        (fun _ _ _ _ _ => pg_name scRight.nd rfl (Or.inl rfl)) (fun _ _ _ _ _ => pts_nil) (fun _ _ _ _ _ => pe_op (show OpR _ _ (rCatA K) from op_catA) (pe_tup (pa_cons (pe_op op_add_str pe_str (pe_ix ix_str pe_str (pv 12) (fun _ _ => rfl))) pa_nil)) (pv 8))))) (pg_sub (pv 2) (pv 5) set_list)))) pss_nil))) ?_
  rintro D σ H ⟨xs, k, so, zs, v1, v4, v7, v8, v9, rfl, k4, S0, hso0, bso0⟩ next
  have big : ∀ {n : Nat}, n ≤ 1000 → n ≤ sizeLine := fun h => by rw [sizeLine_eq]; omega
  have B8 := bt8 i
  have B120 := bt3 (i := i) (by omega)
  have BB : Bt (i + 1) = 2 * Bt i + 8 := rfl
  refine ⟨_, rfl, j, 2, rfl, S0.jar, by decide, by decide, fun r H1 r0 r1 J1 b1 => ⟨rfl, _, rfl, ?_⟩⟩
  have S := S0.move b1 J1
  have hso := (b1.cut (js := [j, p]) (by simp)) _ _ hso0 fun _ z => nomatch z
  have bso := Bd.exN (b1.cut (js := [j, p]) (by simp)) bso0
  clear hso0 bso0 S0
  obtain ⟨hs1, hs2⟩ := cut_at hso
  have zB := (bso.at hso).1
  have bzs := (bso.at hso).2
  refine ite2 (fun c => ?_) (fun c => ?_)
  · refine ⟨_, rfl, fun v G => Goods K [j, p] (Bt (i + 1)) 4 7 H1 v G, ?_, ?_⟩
    · refine ⟨big (by show 0 ≤ _; decide), fun p1 n1 => ?_⟩
      have y1 : Ex H1 (upd H1 p1 (.tup [])) := Ex.refl.new n1
      have h1 : (upd H1 p1 (.tup [])) p1 = some (.tup []) := upd_same
      have m1 := S.held.ne n1
      generalize upd H1 p1 (.tup []) = G1 at y1 h1 ⊢
      refine ⟨_, rfl, so, zs, rfl, .inr (SqT.of (y1 _ _ hs1)), fun p2 n2 => ?_⟩
      have y2 : Ex G1 (upd G1 p2 (.lst zs)) := Ex.refl.new n2
      have h2 : (upd G1 p2 (.lst zs)) p2 = some (.lst zs) := upd_same
      have m2 := (S.held.ex y1).ne n2
      generalize upd G1 p2 (.lst zs) = G2 at y2 h2 ⊢
      have y12 := y1.trans y2
      intro p3 n3
      have y3 : Ex G2 (upd G2 p3 (.dK [])) := Ex.refl.new n3
      have h3 : (upd G2 p3 (.dK [])) p3 = some (.dK []) := upd_same
      have m3 := (S.held.ex y12).ne n3
      generalize upd G2 p3 (.dK []) = G3 at y3 h3 ⊢
      have y13 := y12.trans y3
      refine ⟨_, rfl, _, rfl, rd_catA (y13 _ _ hs1) (y13 _ _ hs1) (by omega) fun p4 G4 y4 f4 h4 => ?_⟩
      have m4 : p4 ∉ [j, p] := f4.elim (fun z => z ▸ hs2) fun z => z.elim (fun z => z ▸ hs2) fun n => (S.held.ex y13).ne n
      have y14 := y13.trans y4
      refine ⟨big (by show 7 ≤ _; decide), fun p5 n5 => ?_⟩
      refine ⟨p5, _, rfl, upd_same, (S.held.ex y14).ne n5, rfl, ?_, y14.new n5⟩
      have y5 : ∀ o, Ex G4 (upd G4 p5 o) := fun o => Ex.refl.new n5
      have y5 := y5 (.lst [.non, .ref p1, .ref p2, .str "mixer", .ref p3, .ref p4, .int 5])
      intro y hy
      generalize upd G4 p5 (.lst [.non, .ref p1, .ref p2, .str "mixer", .ref p3, .ref p4, .int 5]) = G5 at y5 hy ⊢
      have c1 := cut_of ((y2.trans (y3.trans (y4.trans y5))) _ _ h1) m1
      have c2 := cut_of ((y3.trans (y4.trans y5)) _ _ h2) m2
      have c3 := cut_of ((y4.trans y5) _ _ h3) m3
      have c4 := cut_of (y5 _ _ h4) m4
      simp only [List.mem_cons, List.not_mem_nil, or_false] at hy
      rcases hy with rfl | rfl | rfl | rfl | rfl | rfl | rfl
      · exact .non
      · exact .tup0 c1
      · exact .lst c2
      · exact .str (by decide)
      · exact .dct c3
      · exact .tup c4 (by rw [List.length_append]; omega) (by omega) fun y hy => by
          have hy : y ∈ zs := (List.mem_append.mp hy).elim id id
          exact (Bd.exN ((y14.trans y5).cut (js := [j, p])) (bzs y hy)).more (by omega)
      · exact .int
    · rintro _ G ⟨pp, us, rfl, hp, mp, ul, gu, xG⟩
      have SG := S.step xG
      refine ⟨j, pp, us, rfl, SG.jar, hp, fun z => mp (by rw [z]; simp), by omega, by omega, fun m v H5 hv J5 b5 => ?_⟩
      have S5 := SG.move b5 J5
      refine ⟨_, rfl, _, rfl, p, xs, _, k, rfl, rfl, S5.parts, by rw [S5.four]; exact four_ix k4, ?_⟩
      exact next _ _ ⟨_, v1, v4, _, _, _, v8, v9, rfl, S5.put k4 (Bd.exN (b5.cut (js := [j, p]) (by simp)) (gu v (List.mem_of_getElem? hv)))⟩
  · refine ⟨_, rfl, big (by show 0 ≤ _; decide), fun q nq => ⟨so, q, zs, rfl, rfl, SqT.of ((Ex.refl.new nq : Ex H1 (upd H1 q (.tup []))) _ _ hs1), SqT.of upd_same, _, rfl, ?_⟩⟩
    have x1 : Ex H1 (upd H1 q (.tup [])) := Ex.refl.new nq
    generalize upd H1 q (.tup []) = H2 at x1 ⊢
    have S2 := S.step x1
    have hso2 := (x1.cut (js := [j, p])) _ _ hso fun _ z => nomatch z
    have bso2 := Bd.exN (x1.cut (js := [j, p])) bso
    have hs22 := (cut_at hso2).1
    refine ite2 (fun c => ?_) (fun _ => next _ _ ⟨xs, v1, v4, _, _, v7, v8, v9, rfl, S2.more⟩)
    have zne : zs ≠ [] := of_decide_eq_true c
    obtain ⟨z, zr, rfl⟩ : ∃ z zr, zs = z :: zr := by
      match zs, zne with
      | z :: zr, _ => exact ⟨z, zr, rfl⟩
    have bz := (bso2.at hso2).2 z (List.mem_cons_self ..)
    refine ⟨fun v G => ∃ (rt : Addr) (us : List V), v = .ref rt ∧ cut [j, p] G rt = some (.tup us) ∧ us.length ≤ Bt i ∧ (∀ y ∈ us, Bd K (cut [j, p] G) (Bt i) 2 y) ∧ Ex H2 G, ?_, ?_⟩
    · obtain ⟨ty1, b, ty, e, hb⟩ := (bz.kn.exN cut_up : Kn K H2 z).atTup
      refine ⟨_, rfl, so, _, 0, z, rfl, rfl, SqT.of hs22, atI_nat (j := 0) rfl, _, _, ty1, _, b, rfl, .ty "tuple", ty, e, b, rfl, ?_⟩
      rcases hb with ⟨rfl, t, ts, rfl, ht, htx⟩ | ⟨rfl, htx⟩
      · obtain ⟨_, ea, htc⟩ := tup_ref (show tupOf (cut [j, p] H2) (.ref t) = some ts by rw [← bz.kn.tupsN cut_up]; exact htx)
        cases ea
        refine ⟨_, rfl, so, _, 0, .ref t, rfl, rfl, SqT.of hs22, atI_nat (j := 0) rfl, _, rfl, ?_⟩
        refine rd_slN ht fun p1 G1 y1 f1 h1 => ?_
        have m1 : p1 ∉ [j, p] := f1.elim (fun z => z ▸ (cut_at htc).2) fun n => S2.held.ne n
        have lt := (bz.at htc).1
        refine ⟨p1, _, rfl, cut_of h1 m1, by have := cutV_length ts (some 1) none; omega, fun y hy => Bd.exN (y1.cut (js := [j, p])) ((bz.at htc).2 y (cut_mem y hy)), y1⟩
      · refine ⟨big (by show 0 ≤ _; decide), fun p1 n1 => ⟨p1, [], rfl, cut_of upd_same (S2.held.ne n1), by show 0 ≤ _; omega, (fun _ z => nomatch z), Ex.refl.new n1⟩⟩
    · rintro _ G ⟨rt, us, rfl, hrt, lus, bus, xG⟩
      have SG := S2.step xG
      have hsG := xG _ _ hs22
      have hsoG := (xG.cut (js := [j, p])) _ _ hso2 fun _ z => nomatch z
      have bsoG := Bd.exN (xG.cut (js := [j, p])) bso2
      obtain ⟨hr1, hr2⟩ := cut_at hrt
      refine ⟨_, rfl, 8, rfl, by decide, by decide, fun D1 nD => lc_range (lo := 0) (n := 8) (fun n G1 => Ex G G1 ∧ ∃ ys : List V, ys.length = n ∧ G1 D1 = some (.lst ys) ∧ ∀ y ∈ ys, Bd K (cut [j, p, D1] G1) (Bt (i + 1)) 3 y) ⟨Ex.refl.new nD, [], rfl, upd_same, fun _ z => nomatch z⟩ ?_ ?_⟩
      · rintro n G1 hn ⟨y1, ys, yl, hD, by_⟩
        refine ⟨rfl, ?_⟩
        obtain ⟨ch, hch⟩ := letters_at hn
        have SG1 := SG.step y1
        have mD : D1 ∉ [j, p] := SG.held.ne nD
        refine ⟨_, rfl, _, _, ch, rfl, rfl, big (by decide), hch, _, _, rfl, rfl, big (by show 2 ≤ _; decide), big (by show 1 ≤ _; decide), fun p1 n1 => ?_⟩
        have y2 : Ex G1 (upd G1 p1 (.tup [.str (Str.ofString "q" ++ ⟨#[ch]⟩)])) := Ex.refl.new n1
        have h1 : (upd G1 p1 (.tup [.str (Str.ofString "q" ++ ⟨#[ch]⟩)])) p1 = some (.tup [.str (Str.ofString "q" ++ ⟨#[ch]⟩)]) := upd_same
        have m1 := SG1.held.ne n1
        have m1D : p1 ≠ D1 := fun z => by
          rw [z, hD] at n1
          cases n1
        generalize upd G1 p1 (.tup [.str (Str.ofString "q" ++ ⟨#[ch]⟩)]) = G2 at y2 h1 ⊢
        have SG2 := SG1.step y2
        refine ⟨_, rfl, rd_catA h1 (y2 _ _ (y1 _ _ hr1)) (by rw [List.length_cons, List.length_nil]; omega) fun p2 G3 y3 f3 h2 => ?_⟩
        have m2 : p2 ∉ [j, p] := f3.elim (fun z => z ▸ m1) fun z => z.elim (fun z => z ▸ hr2) fun n => SG2.held.ne n
        have rD : rt ≠ D1 := fun z => by
          rw [← z, hr1] at nD
          cases nD
        have hD2 := y2 _ _ hD
        have m2D : p2 ≠ D1 := f3.elim (fun z => z ▸ m1D) fun z => z.elim (fun z => z ▸ rD) fun n z => by
          rw [z, hD2] at n
          cases n
        have hD3 := y3 _ _ hD2
        have y23 := y2.trans y3
        refine ⟨ys, hD3, big (by omega), (y1.trans y23).put nD, ys ++ [.ref p2], by rw [List.length_append, yl]; rfl, upd_same, ?_⟩
        have inD : ∀ {a : Addr}, a ∉ [j, p] → a ≠ D1 → a ∉ [j, p, D1] := fun h1 h2 m => by
          simp only [List.mem_cons, List.not_mem_nil, or_false, not_or] at h1 m
          rcases m with m | m | m
          · exact h1.1 m
          · exact h1.2 m
          · exact h2 m
        have up : ExtN (cut [j, p, D1] G3) (cut [j, p, D1] (upd G3 D1 (.lst (ys ++ [.ref p2])))) := fun a o h _ => by
          obtain ⟨e1, e2⟩ := cut_at h
          refine cut_of ?_ e2
          rw [upd_ne fun z => e2 (by rw [z]; simp)]
          exact e1
        have c2 := cut_of h2 (inD m2 m2D)
        intro y hy
        refine Bd.exN up ?_
        rcases List.mem_append.mp hy with hy | hy
        · exact Bd.exN (y23.cut (js := [j, p, D1])) (by_ y hy)
        · cases List.mem_singleton.mp hy
          refine .tup c2 (by rw [List.length_append, List.length_cons, List.length_nil]; omega) (by omega) fun y hy => ?_
          rcases List.mem_append.mp hy with hy | hy
          · cases List.mem_singleton.mp hy
            exact .str (by show 2 ≤ _; decide)
          · exact (Bd.exN ((fun a o h _ => by
              obtain ⟨e1, e2⟩ := cut_at h
              refine cut_of ((y1.trans y23) _ _ e1) (inD e2 fun z => ?_)
              rw [z, nD] at e1
              cases e1) : ExtN (cut [j, p] G) (cut [j, p, D1] G3)) (bus y hy)).more (by omega)
      · rintro G1 ⟨y1, ys, yl, hD, by_⟩
        have SG1 := SG.step y1
        refine .inl ⟨D1, ys, rfl, SqL.of hD, fun p1 n1 => ?_⟩
        have y2 : Ex G1 (upd G1 p1 (.tup ys)) := Ex.refl.new n1
        have h1 : (upd G1 p1 (.tup ys)) p1 = some (.tup ys) := upd_same
        have m1 := SG1.held.ne n1
        generalize upd G1 p1 (.tup ys) = G2 at y2 h1 ⊢
        have SG2 := SG1.step y2
        have y12 := y1.trans y2
        refine rd_catA (y12 _ _ hsG) h1 (by have := zB; omega) fun p2 G3 y3 f3 h2 => ?_
        have m2 : p2 ∉ [j, p] := f3.elim (fun z => z ▸ hs2) fun z => z.elim (fun z => z ▸ m1) fun n => SG2.held.ne n
        have SG3 := SG2.step y3
        have small : ExtN (cut [j, p, D1] G1) (cut [j, p] G3) := fun a o h _ => by
          obtain ⟨e1, e2⟩ := cut_at h
          exact cut_of ((y2.trans y3) _ _ e1) fun m => e2 (by simp only [List.mem_cons, List.not_mem_nil, or_false] at m ⊢; rcases m with m | m <;> simp [m])
        have bp : Bd K (cut [j, p] G3) (Bt (i + 1)) 4 (.ref p2) := .tup (cut_of h2 m2) (by rw [List.length_append, yl]; omega) (by omega) fun y hy => by
          rcases List.mem_append.mp hy with hy | hy
          · exact (Bd.exN ((y12.trans y3).cut (js := [j, p])) ((bsoG.at hsoG).2 y hy)).more (by omega)
          · exact Bd.exN small (by_ y hy)
        refine ⟨_, rfl, _, rfl, p, xs, _, k, rfl, rfl, SG3.parts, by rw [SG3.four]; exact four_ix k4, ?_⟩
        exact next _ _ ⟨_, v1, v4, _, _, v7, _, v9, rfl, SG3.put k4 bp⟩
theorem do1 (R : Rt P w K mg base T) (hr : Room 9 (XR P w K mg base f cdv A outer s H00).A) (i3 : i < 3) : Does (XR P w K mg base f cdv A outer s H00) (rb 2) (R1 K H0 i j p l) (R0 K H0 (i + 1) j p l) := by
  obtain ⟨fD, fdD, GD, mD, kD, bD⟩ := R.dip
  obtain ⟨fO, fdO, GO, mO, kO, bO⟩ := R.odd
  have hr1 : Room 1 (XR P w K mg base f cdv A outer s H00).A := hr.mono (by decide)
  have hr3 : Room 3 (XR P w K mg base f cdv A outer s H00).A := hr.mono (by decide)
  have hu : (XR P w K mg base f cdv A outer s H00).A.units < cLine := by
    have := hr.un
    omega
  refine does (ps_if (PW.pt (pw_and (pt_cmpR (op_neE hu) (pv 6) (pe_tup pa_nil) rfl) (pw_and1 (pt_cmpR op_gt (pe_call GD hr1 (by rfl) mD kD bD .nil pass0 (pa_cons (pv 0) (pa_cons pe_int pa_nil))) pe_int (nomark _)))))
    (pss_cons (ps_set (i := 7) scRight.nd rfl (Or.inl rfl) (pe_call GD hr1 (by rfl) mD kD bD .nil pass0 (pa_cons (pv 0) (pa_cons (pe_callB call_len_seq (by rfl) R.blt.len (by decide +kernel) (pa_cons (pv 6) pa_nil)) pa_nil))))
    (pss_one (ps_if (PW.pt (pw_and (pt_truth (pe_callB call_isi (by rfl) R.blt.isinstance (by decide +kernel) (pa_cons (pe_ix ix_tup (pv 6) (pv 7) (fun _ _ => rfl)) (pa_cons (pe_bltn (by rfl) R.blt.tuple (by decide +kernel) (v := .ty "tuple") rfl) pa_nil))) (fun _ => rfl))
        (pw_and1 (pt_cmpR op_gt (pe_callB call_len_seq (by rfl) R.blt.len (by decide +kernel) (pa_cons (pe_ix ix_tup (pv 6) (pv 7) (fun _ _ => rfl)) pa_nil)) pe_int (nomark _)))))
      (pss_one (ps_asg (pe_op op_catA (pe_op op_catA (pe_slice sl_tupA (pv 6) po_none (po_some (pv 7))) (pe_tup (pa_cons (pe_call GO hr3 (by rfl) mO kO bO .nil pass0 (pa_cons (pv 0) (pa_cons (pe_ix ix_tup (pv 6) (pv 7) (fun _ _ => rfl)) (pa_cons (pv 3) pa_nil)))) pa_nil))) (pe_slice sl_tupA (pv 6) (po_some (pe_op op_add (pv 7) pe_int)) po_none)) (pg_sub (pv 2) (pv 5) set_list)))
      pss_nil)))
    (pss_one (do2 (i := i) (j := j) (p := p) (l := l) (H0 := H0) R hr i3))) ?_
  rintro D σ H ⟨xs, k, so, zs, v1, v4, v7, v8, v9, rfl, k4, S, hso, bso⟩ next
  obtain ⟨hs1, hs2⟩ := cut_at hso
  have nso : so ≠ j := fun z => hs2 (by rw [z]; simp)
  have big : ∀ {n : Nat}, n ≤ 1000 → n ≤ sizeLine := fun h => by rw [sizeLine_eq]; omega
  have B8 := bt8 i
  have B120 := bt3 (i := i) (by omega)
  have BM := @bt_more i
  refine ⟨_, rfl, big (by show 0 ≤ _; decide), fun q nq => ⟨so, q, zs, rfl, rfl, SqT.of ((Ex.refl.new nq : Ex H (upd H q (.tup []))) _ _ hs1), SqT.of upd_same, _, rfl, ?_⟩⟩
  have x1 : Ex H (upd H q (.tup [])) := Ex.refl.new nq
  generalize upd H q (.tup []) = H1 at x1 ⊢
  have S1 := S.step x1
  have hso1 := (x1.cut (js := [j, p])) _ _ hso fun _ z => nomatch z
  have bso1 := Bd.exN (x1.cut (js := [j, p])) bso
  refine ite2 (fun c => ?_) (fun _ => ⟨⟨xs, k, so, zs, v1, v4, v7, v8, v9, rfl, k4, S1, hso1, bso1⟩, next⟩)
  have zne : zs ≠ [] := of_decide_eq_true c
  refine ⟨_, rfl, j, 5, rfl, S1.jar, by decide, by decide, fun r H2 r0 r1 J2 b2 => ⟨_, _, rfl, rfl, _, rfl, ?_⟩⟩
  have S2 := S1.move b2 J2
  have hso2 := (b2.cut (js := [j, p]) (by simp)) _ _ hso1 fun _ z => nomatch z
  have bso2 := Bd.exN (b2.cut (js := [j, p]) (by simp)) bso1
  refine ite2 (fun c2 => ?_) (fun _ => ⟨⟨xs, k, so, zs, v1, v4, v7, v8, v9, rfl, k4, S2, hso2, bso2⟩, next⟩)
  have zl : 0 < zs.length := List.length_pos_iff.mpr zne
  have zB := (bso2.at hso2).1
  refine ⟨_, rfl, _, rfl, so, zs, rfl, .inr (SqT.of (cut_at hso2).1), j, (zs.length : Nat), rfl, J2, by omega, by omega, fun at_ H3 a0 a1 J3 b3 => ?_⟩
  have S3 := S2.move b3 J3
  have hso3 := (b3.cut (js := [j, p]) (by simp)) _ _ hso2 fun _ z => nomatch z
  have bso3 := Bd.exN (b3.cut (js := [j, p]) (by simp)) bso2
  clear S1 S2 hso1 hso2 bso1 bso2
  have hs3 := (cut_at hso3).1
  obtain ⟨an, rfl⟩ := Int.eq_ofNat_of_zero_le a0
  obtain ⟨z, hz⟩ : ∃ z, zs[an]? = some z := ⟨_, List.getElem?_eq_getElem (by omega)⟩
  have bz := (bso3.at hso3).2 z (List.mem_of_getElem? hz)
  have atz : atI zs ((an : Nat) : Int) = some z := atI_nat hz
  have stay : D.nx [some (.ref j), v1, some (.ref p), some (.ref l), v4, some (.int (k : Nat)), some (.ref so), some (.int ((an : Nat) : Int)), v8, v9, none, none, none] H3 := next _ _ ⟨xs, v1, v4, _, _, _, v8, v9, rfl, S3.more⟩
  obtain ⟨ty1, b, ty, e, hb⟩ := (bz.kn.exN cut_up : Kn K H3 z).atTup
  refine ⟨_, rfl, _, rfl, so, zs, _, z, rfl, rfl, SqT.of hs3, atz, _, _, ty1, _, b, rfl, .ty "tuple", ty, e, b, rfl, ?_⟩
  rcases hb with ⟨rfl, t, ts, rfl, ht, htx⟩ | ⟨rfl, htx⟩
  case inr => exact stay
  obtain ⟨_, ea, htc⟩ := tup_ref (show tupOf (cut [j, p] H3) (.ref t) = some ts by rw [← bz.kn.tupsN cut_up]; exact htx)
  cases ea
  refine ⟨_, rfl, _, rfl, so, zs, _, .ref t, rfl, rfl, SqT.of hs3, atz, t, ts, rfl, .inr (SqT.of ht), _, _, rfl, rfl, _, rfl, ?_⟩
  refine ite2 (fun c3 => ?_) (fun _ => stay)
  have t2 : 2 ≤ ts.length := by
    have z : (1 : Int) < ((ts.length : Nat) : Int) := of_decide_eq_true c3
    omega
  obtain ⟨s0, ls, hl, sl⟩ := S3.labels
  refine ⟨_, rfl, _, rfl, _, rfl, rd_sl hs3 fun p1 H4 y1 f1 h1 => ?_⟩
  have S4 := S3.step y1
  have bso4 := Bd.exN (y1.cut (js := [j, p])) bso3
  have hs4 := y1 _ _ hs3
  have bz4 := Bd.exN (y1.cut (js := [j, p])) bz
  refine ⟨_, rfl, _, rfl, _, rfl, so, zs, _, .ref t, rfl, rfl, SqT.of hs4, atz, _, rfl, Bt i, B8, by omega, [j, p], j, t, l, ts, s0, ls, rfl, S4.jar, by simp, S4.held, (cut_at htc).2, y1 _ _ hl, S4.lj, sl, y1 _ _ ht, t2, bz4, fun v H5 J5 b5 bv => ?_⟩
  have S5 := S4.move b5 J5
  have bso5 := Bd.exN (b5.cut (js := [j, p]) (by simp)) bso4
  have hso5 : cut [j, p] H5 so = some (.tup zs) := cut_of (b5 _ _ nso hs4) hs2
  have hs5 := (cut_at hso5).1
  have m1 : p1 ∉ [j, p] := f1.elim (fun z => z ▸ hs2) fun n => S3.held.ne n
  have h15 := b5 _ _ (fun z => m1 (by rw [z]; simp)) h1
  refine ⟨big (by show 1 ≤ _; decide), fun p2 n2 => ?_⟩
  have y6 : Ex H5 (upd H5 p2 (.tup [v])) := Ex.refl.new n2
  have h2 : (upd H5 p2 (.tup [v])) p2 = some (.tup [v]) := upd_same
  have m2 := S5.held.ne n2
  generalize upd H5 p2 (.tup [v]) = H6 at y6 h2 ⊢
  have S6 := S5.step y6
  have l1 := cutV_length zs none (some ((an : Nat) : Int))
  refine rd_catA (y6 _ _ h15) h2 (by rw [List.length_cons, List.length_nil]; omega) fun p3 H7 y7 f3 h3 => ?_
  have m3 : p3 ∉ [j, p] := f3.elim (fun z => z ▸ m1) fun z => z.elim (fun z => z ▸ m2) fun n => S6.held.ne n
  have S7 := S6.step y7
  refine ⟨_, rfl, _, rfl, _, _, rfl, rfl, _, rfl, ?_⟩
  refine rd_slN (y7 _ _ (y6 _ _ hs5)) fun p4 H8 y8 f4 h4 => ?_
  have m4 : p4 ∉ [j, p] := f4.elim (fun z => z ▸ hs2) fun n => S7.held.ne n
  have S8 := S7.step y8
  have l2 := cutV_length zs (some (((an : Nat) : Int) + 1)) none
  refine rd_catA (y8 _ _ h3) h4 (by rw [List.length_append, List.length_cons, List.length_nil]; omega) fun p5 H9 y9 f5 h5 => ?_
  have m5 : p5 ∉ [j, p] := f5.elim (fun z => z ▸ m3) fun z => z.elim (fun z => z ▸ m4) fun n => S8.held.ne n
  have S9 := S8.step y9
  have y69 := y6.trans (y7.trans (y8.trans y9))
  have bzs : ∀ y ∈ zs, Bd K (cut [j, p] H9) (Bt (i + 1)) 3 y := fun y hy => (Bd.exN (y69.cut (js := [j, p])) ((bso5.at hso5).2 y hy)).more (by omega)
  have b5c : Bd K (cut [j, p] H9) (Bt (i + 1)) 4 (.ref p5) := by
    refine .tup (cut_of h5 m5) ?_ (by have := @bt_more i; show 2 * Bt i + 8 ≤ _; omega) fun y hy => ?_
    · have e := odd_len (xs := zs) (fr := v) (i := ((an : Nat) : Int)) (by omega) a1
      omega
    · rcases List.mem_append.mp hy with hy | hy
      · rcases List.mem_append.mp hy with hy | hy
        · exact bzs y (cut_mem y hy)
        · cases List.mem_singleton.mp hy
          exact (Bd.exN (y69.cut (js := [j, p])) bv).more BM
      · exact bzs y (cut_mem y hy)
  refine ⟨_, rfl, _, rfl, p, xs, _, k, rfl, rfl, S9.parts, by rw [S9.four]; exact four_ix k4, ?_⟩
  exact next _ _ ⟨_, v1, v4, _, _, _, v8, v9, rfl, S9.put k4 b5c⟩
end
end LJ
set_option Elab.async false
set_option linter.all false
set_option maxRecDepth 100000
set_option maxHeartbeats 4000000
/-! _law_right. -/
namespace LJ
open PySem PySem.Spec L2 PySem.ErrV
open LamX (ExtN TabB)
open NdefX (NTab TabsN)
section
variable {P : Program} {w : World} {K : PySem.W.Frag} {mg : Str → Option Value} {base : Heap} {T : List NTab} {f j p l : Addr} {cdv : Value} {A : Around} {outer : List Env} {s : Shared} {H0 H00 : Hp} {i : Nat}
theorem turn (R : Rt P w K mg base T) (hr : Room 9 (XR P w K mg base f cdv A outer s H00).A) (i3 : i < 3) : PSs (XR P w K mg base f cdv A outer s H00) [rb 0, rb 1, rb 2] (tHo (R0 K H0 i j p l) (R0 K H0 (i + 1) j p l)) := by
  obtain ⟨fD, fdD, GD, mD, kD, bD⟩ := R.dip
  have hr1 : Room 1 (XR P w K mg base f cdv A outer s H00).A := hr.mono (by decide)
  refine PSs.weak (pss_cons (ps_set (i := 5) scRight.nd rfl (Or.inl rfl) (pe_call GD hr1 (by rfl) mD kD bD .nil pass0 (pa_cons (pv 0) (pa_cons pe_int pa_nil))))
    (pss_cons (ps_set (i := 6) scRight.nd rfl (Or.inl rfl) (pe_ifExp (pt_truth (pe_callB call_isi (by rfl) R.blt.isinstance (by decide +kernel) (pa_cons (pe_ix ix_list (pv 2) (pv 5) (fun _ _ => rfl)) (pa_cons (pe_bltn (by rfl) R.blt.tuple (by decide +kernel) (v := .ty "tuple") rfl) pa_nil))) (fun _ => rfl)) (pe_ix ix_list (pv 2) (pv 5) (fun _ _ => rfl)) (pe_tup pa_nil))) (pss_one (do1 (i := i) (j := j) (p := p) (l := l) (H0 := H0) R hr i3)))) ?_
  rintro D σ H ⟨⟨xs, v1, v4, v5, v6, v7, v8, v9, rfl, S⟩, next⟩
  refine ⟨_, rfl, j, 4, rfl, S.jar, by decide, by decide, fun k H1 k0 k1 J1 b1 => ?_⟩
  obtain ⟨n, rfl⟩ := Int.eq_ofNat_of_zero_le k0
  have n4 : n < 4 := by omega
  have S1 : Sc K H0 i j p l xs H1 := S.move b1 J1
  obtain ⟨x, hx⟩ : ∃ x, xs[n]? = some x := ⟨_, List.getElem?_eq_getElem (by rw [S.four]; exact n4)⟩
  have bx := S1.good x (List.mem_of_getElem? hx)
  obtain ⟨ty1, b, ty, e, hb⟩ := (bx.kn.exN cut_up : Kn K H1 x).atTup
  refine ⟨_, rfl, _, rfl, p, xs, _, x, rfl, rfl, SqL.of S1.parts, atI_nat hx, _, _, ty1, _, b, rfl, .ty "tuple", ty, e, b, rfl, ?_⟩
  rcases hb with ⟨rfl, a, zs, rfl, ha, hzx⟩ | ⟨rfl, hzx⟩
  · obtain ⟨_, ea, hac⟩ := tup_ref (show tupOf (cut [j, p] H1) (.ref a) = some zs by rw [← bx.kn.tupsN cut_up]; exact hzx)
    cases ea
    refine ⟨_, rfl, _, rfl, p, xs, _, .ref a, rfl, rfl, SqL.of S1.parts, atI_nat hx, ?_⟩
    exact ⟨⟨xs, n, a, zs, v1, v4, v7, v8, v9, rfl, n4, S1, hac, bx⟩, next⟩
  · refine ⟨by rw [sizeLine_eq]; exact Nat.zero_le _, fun q nq => ?_⟩
    have S2 := S1.step (Ex.refl.new nq : Ex H1 (upd H1 q (.tup [])))
    have hq : cut [j, p] (upd H1 q (.tup [])) q = some (.tup []) := cut_of upd_same (S1.held.ne nq)
    exact ⟨⟨xs, n, q, [], v1, v4, v7, v8, v9, rfl, n4, S2, hq, .tup0 hq⟩, next⟩
/-- a tuple is none of these lists -/
theorem tup_cut {H : Hp} {j D a : Addr} {us vs xs : List V} (hj : H j = some (.lst us)) (hD : H D = some (.lst vs)) (h : H a = some (.tup xs)) : cut [j, D] H a = some (.tup xs) := by
  refine cut_of h fun m => ?_
  simp only [List.mem_cons, List.not_mem_nil, or_false] at m
  rcases m with rfl | rfl
  · rw [hj] at h
    cases h
  · rw [hD] at h
    cases h
section
variable {H : Hp} {j D : Addr} {us vs : List V}
theorem row3_bd (hj : H j = some (.lst us)) (hD : H D = some (.lst vs)) {v : V} {r : Str × Int × Int} (h : Row3 H v r) (l : r.1.length ≤ 8) : Bd K (cut [j, D] H) 8 3 v := by
  obtain ⟨a, rfl, e⟩ := h
  refine .tup (tup_cut hj hD e) (by show 3 ≤ 8; decide) (by decide) fun y hy => ?_
  simp only [List.mem_cons, List.not_mem_nil, or_false] at hy
  rcases hy with rfl | rfl | rfl
  · exact .str (by omega)
  · exact .int
  · exact .int
theorem row2_bd (hj : H j = some (.lst us)) (hD : H D = some (.lst vs)) {v : V} {r : Str × Int} (h : Row2 H v r) (l : r.1.length ≤ 8) : Bd K (cut [j, D] H) 8 3 v := by
  obtain ⟨a, rfl, e⟩ := h
  refine .tup (tup_cut hj hD e) (by show 2 ≤ 8; decide) (by decide) fun y hy => ?_
  simp only [List.mem_cons, List.not_mem_nil, or_false] at hy
  rcases hy with rfl | rfl
  · exact .str (by omega)
  · exact .int
theorem rowP_bd (hj : H j = some (.lst us)) (hD : H D = some (.lst vs)) {v : V} {r : Str × List (Int × Int)} (h : RowP H v r) (l : r.1.length ≤ 8) (l2 : r.2.length ≤ 8) : Bd K (cut [j, D] H) 8 3 v := by
  obtain ⟨a, t, ys, rfl, e, et, pb⟩ := h
  refine .tup (tup_cut hj hD e) (by show 2 ≤ 8; decide) (by decide) fun y hy => ?_
  simp only [List.mem_cons, List.not_mem_nil, or_false] at hy
  rcases hy with rfl | rfl
  · exact .str (by omega)
  · refine .tup (tup_cut hj hD et) (by rw [Paired.size pb]; exact l2) (by decide) fun y hy => ?_
    obtain ⟨x, _, b1, rfl, b2⟩ := paired_mem pb y hy
    refine .tup (tup_cut hj hD b2) (by show 2 ≤ 8; decide) (by decide) fun y hy => ?_
    simp only [List.mem_cons, List.not_mem_nil, or_false] at hy
    rcases hy with rfl | rfl <;> exact .int
end
theorem four_of {G : Hp} {qs : List Addr} {va vb vc vd : List V} (p : Paired (fun q vs => G q = some (HO.tup vs)) qs [va, vb, vc, vd]) : ∃ q1 q2 q3 q4, qs = [q1, q2, q3, q4] ∧ G q1 = some (.tup va) ∧ G q2 = some (.tup vb) ∧ G q3 = some (.tup vc) ∧ G q4 = some (.tup vd) := by
  cases p with
  | cons h1 p =>
    cases p with
    | cons h2 p =>
      cases p with
      | cons h3 p =>
        cases p with
        | cons h4 p =>
          cases p
          exact ⟨_, _, _, _, rfl, h1, h2, h3, h4⟩
/-- the lists of a drawn world, and their tuples -/
def Fours (K : PySem.W.Frag) (H : Hp) (j D : Addr) (xs : List V) : Prop := H D = some (.lst xs) ∧ xs.length = 4 ∧ ∀ v ∈ xs, Bd K (cut [j, D] H) 8 4 v
def A1 (K : PySem.W.Frag) (H0 : Hp) (j wd : Addr) (W : Wd) : L2.St → Hp → Prop := fun σ H => σ = [some (.ref j), some (.ref wd), none, none, none, none, none, none, none, none, none, none, none] ∧ WorldAt H wd W ∧ Good W ∧ JarAt H j ∧ But j H0 H ∧ H0 wd = none ∧ wd ≠ j
theorem draw (R : Rt P w K mg base T) (hr : Room 9 (XR P w K mg base f cdv A outer s H00).A) : Does (XR P w K mg base f cdv A outer s H00) (rs 0) (fun σ H => σ = start nRight [V.ref j] ∧ JarAt H j ∧ H = H0) (fun σ H => ∃ wd W, A1 K H0 j wd W σ H) := by
  obtain ⟨fW, fdW, GW, mW, kW, bW⟩ := R.world
  have hr4 : Room 4 (XR P w K mg base f cdv A outer s H00).A := hr.mono (by decide)
  refine does (ps_set (i := 1) scRight.nd rfl (Or.inl rfl) (pe_call GW hr4 (by rfl) mW kW bW .nil pass0 (pa_cons (pv 0) (pa_cons pe_int pa_nil)))) ?_
  rintro D σ H ⟨rfl, J, rfl⟩ next
  exact ⟨_, rfl, j, 3, rfl, J, by decide, by decide, fun p W H1 wa g J1 b1 np nj => next _ _ ⟨p, W, rfl, wa, g, J1, b1, np, nj⟩⟩
theorem parts (R : Rt P w K mg base T) (hr : Room 9 (XR P w K mg base f cdv A outer s H00).A) {wd : Addr} {W : Wd} : Does (XR P w K mg base f cdv A outer s H00) (rs 1) (A1 K H0 j wd W) (fun σ H => ∃ p l, R0 K H0 0 j p l σ H) := by
  refine does (ps_par (i := 2) (j := 3) (by rfl) scRight.nd rfl rfl (by decide) rfl rfl (pa_cons (pe_join0 (pe_lc (own := [("_law_part", 10)]) (g := gName 10) (by rfl) scRight.nd (pi_list (pv 1)) (blkOk_by (own := [("_law_part", 10)]) (N := nRight) (sc := defScope sRight) (by decide +kernel))
      (fun _ _ _ _ _ => pg_name scRight.nd rfl (Or.inl rfl)) (fun _ _ _ _ _ => pts_nil) (fun _ _ _ _ _ => (show PE _ _ (tThen (tVar 10) (kTup K)) from pe_tupleOf (by rfl) R.blt.tuple (pv 10)))))
    (pa_cons (pe_join0 (pe_lc (own := [("_law_row", 11)]) (g := gName 11) (by rfl) scRight.nd (pi_list (pe_op op_cat (pe_ix ix_list (pv 1) pe_int (fun _ _ => rfl)) (pe_ix ix_list (pv 1) pe_int (fun _ _ => rfl)))) (blkOk_by (own := [("_law_row", 11)]) (N := nRight) (sc := defScope sRight) (by decide +kernel))
      (fun _ _ _ _ _ => pg_name scRight.nd rfl (Or.inl rfl)) (fun _ _ _ _ _ => pts_nil) (fun _ _ _ _ _ => pe_ix (show IxR _ (rIxT K) from ix_tup) (pv 11) pe_int (fun _ _ => rfl)))) pa_nil)) (by rfl)) ?_
  rintro D σ H ⟨rfl, ⟨a, b, c, d, va, vb, vc, vd, hp, ha, pa, hb, pb, hc, pc, hd, pd⟩, g, J, bt, nw, wj⟩ next
  have big : ∀ {n : Nat}, n < 1000 → n < sizeLine := fun h => by rw [sizeLine_eq]; omega
  obtain ⟨dj, mj, cj, hj, rj⟩ := id J
  have n8 : ∀ x ∈ W.ms.map (·.1) ++ (W.cs.map (·.1) ++ (W.ss.map (·.1) ++ W.ps.map (·.1))), x.length ≤ 8 := fun x hx => menu_8 x (g.nm x hx)
  have m8 : ∀ r ∈ W.ms, r.1.length ≤ 8 := fun r hr => n8 _ (List.mem_append_left _ (List.mem_map_of_mem hr))
  have c8 : ∀ r ∈ W.cs, r.1.length ≤ 8 := fun r hr => n8 _ (List.mem_append_right _ (List.mem_append_left _ (List.mem_map_of_mem hr)))
  have s8 : ∀ r ∈ W.ss, r.1.length ≤ 8 := fun r hr => n8 _ (List.mem_append_right _ (List.mem_append_right _ (List.mem_append_left _ (List.mem_map_of_mem hr))))
  have p8 : ∀ r ∈ W.ps, r.1.length ≤ 8 := fun r hr => n8 _ (List.mem_append_right _ (List.mem_append_right _ (List.mem_append_right _ (List.mem_map_of_mem hr))))
  have la := Paired.size pa
  have lb := Paired.size pb
  have lc := Paired.size pc
  have ld := Paired.size pd
  have g1 := g.m1
  have g2 := g.m2
  have g3 := g.c2
  have g4 := g.s2
  have g5 := g.p2
  have pl : Paired (fun v vs => ∃ q, v = V.ref q ∧ H q = some (.lst vs)) [V.ref a, .ref b, .ref c, .ref d] [va, vb, vc, vd] := .cons ⟨a, rfl, ha⟩ (.cons ⟨b, rfl, hb⟩ (.cons ⟨c, rfl, hc⟩ (.cons ⟨d, rfl, hd⟩ .nil)))
  refine ⟨fun v G => ∃ (D1 : Addr) (qs : List Addr), v = .ref D1 ∧ H D1 = none ∧ Ex H G ∧ G D1 = some (.lst (qs.map V.ref)) ∧ Paired (fun q vs => G q = some (.tup vs)) qs [va, vb, vc, vd], ?_, ?_⟩
  · refine ⟨_, rfl, wd, rfl, ⟨_, SqL.of hp⟩, fun D1 nD => lc_list (K := K) (a := wd) (xs := [V.ref a, .ref b, .ref c, .ref d]) (fun n G => Ex H G ∧ ∃ qs : List Addr, qs.length = n ∧ G D1 = some (.lst (qs.map V.ref)) ∧ Paired (fun q vs => G q = some (.tup vs)) qs ([va, vb, vc, vd].take n))
      ⟨Ex.refl.new nD, [], rfl, upd_same, .nil⟩ (fun n G _ h => SqL.of (h.1 _ _ hp)) ?_ ?_⟩
    · rintro n y G hy ⟨xG, qs, ql, hD, pq⟩
      obtain ⟨vs, hvs, q0, rfl, hq0⟩ := Paired.spot pl hy
      refine ⟨rfl, ?_⟩
      refine ⟨_, rfl, .inl ⟨q0, vs, rfl, SqL.of (xG _ _ hq0), fun q nq => ?_⟩⟩
      have x1 : Ex G (upd G q (.tup vs)) := Ex.refl.new nq
      have h1 : (upd G q (.tup vs)) q = some (.tup vs) := upd_same
      generalize upd G q (.tup vs) = G1 at x1 h1 ⊢
      have hD1 := x1 _ _ hD
      have n4 : n < 4 := (List.getElem?_eq_some_iff.mp hy).1
      have tt : ∀ {o : Addr} {zs us : List V}, G1 o = some (.tup zs) → (upd G1 D1 (.lst us)) o = some (.tup zs) := fun {o zs us} e => by
        rw [upd_ne (ne_of e hD1 fun z => nomatch z)]
        exact e
      refine ⟨qs.map V.ref, hD1, big (by rw [List.length_map]; omega), (xG.trans x1).put nD, qs ++ [q], by rw [List.length_append, ql]; rfl, by rw [List.map_append]; exact upd_same, ?_⟩
      rw [List.take_succ, hvs]
      exact Paired.snoc (L2.Paired.mapP pq fun o zs e => tt (x1 _ _ e)) (tt h1)
    · rintro G ⟨xG, qs, ql, hD, pq⟩
      exact ⟨D1, qs, rfl, nD, xG, hD, pq⟩
  rintro _ G ⟨D1, qs, rfl, nD, xG, hD, pq⟩
  have at0 : atI [V.ref a, .ref b, .ref c, .ref d] 0 = some (.ref a) := atI_nat (j := 0) rfl
  have at3 : atI [V.ref a, .ref b, .ref c, .ref d] 3 = some (.ref d) := atI_nat (j := 3) rfl
  refine ⟨fun v G1 => ∃ (L : Addr) (s : Str) (ls : List V), v = .ref L ∧ G L = none ∧ Ex G G1 ∧ G1 L = some (.lst (.str s :: ls)) ∧ s.length ≤ 8, ?_, ?_⟩
  · refine ⟨_, rfl, wd, _, 0, _, rfl, rfl, SqL.of (xG _ _ hp), at0, _, rfl, wd, _, 3, _, rfl, rfl, SqL.of (xG _ _ hp), at3, a, d, va, vd, rfl, rfl, xG _ _ ha, xG _ _ hd, Nat.le_of_lt (big (by omega)), fun L0 n0 => ?_⟩
    have x1 : Ex G (upd G L0 (.lst (va ++ vd))) := Ex.refl.new n0
    have h1 : (upd G L0 (.lst (va ++ vd))) L0 = some (.lst (va ++ vd)) := upd_same
    generalize upd G L0 (.lst (va ++ vd)) = G1 at x1 h1 ⊢
    have x01 := xG.trans x1
    have heads : ∀ v ∈ va ++ vd, ∃ (q : Addr) (s : Str) (r : List V), v = .ref q ∧ H q = some (.tup (.str s :: r)) ∧ s.length ≤ 8 := fun v hv => by
      rcases List.mem_append.mp hv with hv | hv
      · obtain ⟨r, hr, q, e1, e2⟩ := paired_mem pa v hv
        exact ⟨q, r.1, _, e1, e2, m8 r hr⟩
      · obtain ⟨r, hr, q, t, ys, e1, e2, _⟩ := paired_mem pd v hv
        exact ⟨q, r.1, _, e1, e2, p8 r hr⟩
    refine ⟨L0, rfl, ⟨_, SqL.of h1⟩, fun D2 nD2 => lc_list (K := K) (a := L0) (xs := va ++ vd) (fun n G2 => Ex G1 G2 ∧ ∃ ys : List V, ys.length = n ∧ G2 D2 = some (.lst ys) ∧ ∀ y ∈ ys, ∃ s : Str, y = .str s ∧ s.length ≤ 8)
      ⟨Ex.refl.new nD2, [], rfl, upd_same, fun _ z => nomatch z⟩ (fun n G2 _ h => SqL.of (h.1 _ _ h1)) ?_ ?_⟩
    · rintro n y G2 hy ⟨x2, ys, yl, hD2, gy⟩
      obtain ⟨q, s, r, rfl, hq, sl⟩ := heads y (List.mem_of_getElem? hy)
      refine ⟨rfl, ?_⟩
      have nl : n < (va ++ vd).length := (List.getElem?_eq_some_iff.mp hy).1
      rw [List.length_append] at nl
      refine ⟨_, rfl, q, _, 0, .str s, rfl, rfl, SqT.of (x2 _ _ (x01 _ _ hq)), atI_nat (j := 0) rfl, ys, hD2, big (by omega), x2.put nD2, ys ++ [.str s], by rw [List.length_append, yl]; rfl, upd_same, fun y hy => ?_⟩
      rcases List.mem_append.mp hy with hy | hy
      · exact gy y hy
      · cases List.mem_singleton.mp hy
        exact ⟨s, rfl, sl⟩
    · rintro G2 ⟨x2, ys, yl, hD2, gy⟩
      rw [List.length_append] at yl
      match ys, yl, hD2, gy with
      | [], yl, _, _ =>
        exfalso
        have yl : (0 : Nat) = va.length + vd.length := yl
        omega
      | y :: ls, _, hD2, gy =>
        obtain ⟨s, rfl, sl⟩ := gy y (List.mem_cons_self ..)
        have gone : G D2 = none := Ex.gone x1 nD2
        exact ⟨D2, s, ls, rfl, gone, x1.trans x2, hD2, sl⟩
  rintro _ G1 ⟨L, s, ls, rfl, nL, x1, hL, sl⟩
  refine ⟨_, _, rfl, ?_⟩
  have x01 := xG.trans x1
  have hD1 := x1 _ _ hD
  have hj1 := x01 _ _ hj
  have Dj : D1 ≠ j := J.ne nD
  refine next _ _ ⟨D1, L, qs.map V.ref, _, _, _, _, _, _, _, rfl, x01.jar J, bt.trans (fun b u _ e => x01 b u e), hD1, bt.gone Dj nD, by rw [List.length_map, Paired.size pq]; rfl, Dj, ?_, ⟨s, ls, hL, by omega⟩, fun z => ?_, fun z => ?_⟩
  · have tt := Ex.tup x01
    obtain ⟨q1, q2, q3, q4, rfl, e1, e2, e3, e4⟩ := four_of pq
    intro v hv
    simp only [List.map_cons, List.map_nil, List.mem_cons, List.not_mem_nil, or_false] at hv
    rcases hv with rfl | rfl | rfl | rfl
    · refine .tup (tup_cut hj1 hD1 (x1 _ _ e1)) (by show _ ≤ 8; omega) (by show 8 ≤ _; decide) fun y hy => ?_
      obtain ⟨r, hr, h⟩ := paired_mem (rows3 tt pa) y hy
      exact row3_bd hj1 hD1 h (m8 r hr)
    · refine .tup (tup_cut hj1 hD1 (x1 _ _ e2)) (by show _ ≤ 8; omega) (by show 8 ≤ _; decide) fun y hy => ?_
      obtain ⟨r, hr, h⟩ := paired_mem (rows3 tt pb) y hy
      exact row3_bd hj1 hD1 h (c8 r hr)
    · refine .tup (tup_cut hj1 hD1 (x1 _ _ e3)) (by show _ ≤ 8; omega) (by show 8 ≤ _; decide) fun y hy => ?_
      obtain ⟨r, hr, h⟩ := paired_mem (rows2 tt pc) y hy
      exact row2_bd hj1 hD1 h (s8 r hr)
    · refine .tup (tup_cut hj1 hD1 (x1 _ _ e4)) (by show _ ≤ 8; omega) (by show 8 ≤ _; decide) fun y hy => ?_
      obtain ⟨r, hr, h⟩ := paired_mem (rowsP tt pd) y hy
      exact rowP_bd hj1 hD1 h (p8 r hr) (by rw [(g.pb r hr).1]; omega)
  · rw [z, xG _ _ hj] at nL
    cases nL
  · rw [z, hD] at nL
    cases nL
end
end LJ
set_option Elab.async false
set_option linter.all false
set_option maxRecDepth 100000
set_option maxHeartbeats 4000000
/-! _law_right as a def. -/
namespace LJ
open PySem PySem.Spec L2 PySem.ErrV
open LamX (ExtN TabB)
open NdefX (NTab TabsN)
theorem fwAt_le {R : V → Bool} {nm : V → Str} {most : Int} : ∀ {xs : List V} {tk : List Str} {i n : Nat}, (i : Int) ≤ most → fwAt R nm most tk i xs = some n → (n : Int) ≤ most
  | [], _, _, _, _, h => by
    unfold fwAt at h
    cases h
  | v :: xs, tk, i, n, h0, h => by
    unfold fwAt at h
    split at h
    · cases h
      exact h0
    · split at h
      · cases h
        exact h0
      · split at h
        · cases h
          exact h0
        · exact fwAt_le (i := i + 1) (by omega) h
/-- what is told as an index -/
def Told1 (v : V) : Prop := v = .non ∨ ∃ n : Fin 9, v = .int ((n.val : Nat) : Int)
theorem fw_told {R : V → Bool} {nm : V → Str} {few most : Int} {tk : List Str} {o : Option (List V)} {v : V} {r : List V} (m0 : 0 ≤ most) (m8 : most ≤ 8) (h : fwOut R nm few most tk o = v :: r) : Told1 v := by
  unfold fwOut at h
  cases o with
  | none =>
    cases h
    exact .inl rfl
  | some xs =>
    simp only at h
    split at h
    · cases h
      exact .inl rfl
    · split at h
      · cases h
      · rename_i n e
        cases h
        have l := fwAt_le (by omega) e
        exact .inr ⟨⟨n, by omega⟩, rfl⟩
theorem due_told {H : Hp} {x1 x2 x3 x4 : V} {k : Nat} {v : V} (h : due4 H x1 x2 x3 x4 = some (k, v)) : Told1 v := by
  unfold due4 at h
  split at h
  · rename_i e
    cases h
    exact fw_told (by decide) (by decide) e
  · split at h
    · rename_i e
      cases h
      exact fw_told (by decide) (by decide) e
    · split at h
      · rename_i e
        cases h
        exact fw_told (by decide) (by decide) e
      · split at h
        · rename_i e
          cases h
          exact fw_told (by decide) (by decide) e
        · cases h
def dOf (k : Nat) : V → PyData
  | .int i => .list [.int (k : Nat), .int i]
  | _ => .list [.int (k : Nat), .none]
/-- a datum that can be shown twice -/
structure Two (d : PyData) : Prop where
  sh : (PyData.list [d, d]).showable = true
  dp : (PyData.list [d, d]).depth ≤ 100
  sz : (PyData.list [d, d]).shown.length ≤ 1000
theorem two_made : Two (.str "made") := ⟨by decide +kernel, by decide +kernel, by decide +kernel⟩
theorem two_non : ∀ k : Fin 4, (PyData.list [.list [.int (k.val : Nat), .none], .list [.int (k.val : Nat), .none]]).showable = true ∧ (PyData.list [.list [.int (k.val : Nat), .none], .list [.int (k.val : Nat), .none]]).depth ≤ 100 ∧ (PyData.list [.list [.int (k.val : Nat), .none], .list [.int (k.val : Nat), .none]]).shown.length ≤ 1000 := by decide +kernel
theorem two_int : ∀ k : Fin 4, ∀ n : Fin 9, (PyData.list [.list [.int (k.val : Nat), .int (n.val : Nat)], .list [.int (k.val : Nat), .int (n.val : Nat)]]).showable = true ∧ (PyData.list [.list [.int (k.val : Nat), .int (n.val : Nat)], .list [.int (k.val : Nat), .int (n.val : Nat)]]).depth ≤ 100 ∧ (PyData.list [.list [.int (k.val : Nat), .int (n.val : Nat)], .list [.int (k.val : Nat), .int (n.val : Nat)]]).shown.length ≤ 1000 := by decide +kernel
theorem two_of_due {k : Nat} {v : V} (k4 : k < 4) (t : Told1 v) : Two (dOf k v) := by
  rcases t with rfl | ⟨n, rfl⟩
  · obtain ⟨a, b, c⟩ := two_non ⟨k, k4⟩
    exact ⟨a, b, c⟩
  · obtain ⟨a, b, c⟩ := two_int ⟨k, k4⟩ n
    exact ⟨a, b, c⟩
theorem rp_due {H : Hp} {q : Addr} {k : Nat} {v : V} (t : Told1 v) (h : H q = some (.lst [.int (k : Nat), v])) : rp H (dOf k v) (.ref q) := by
  rcases t with rfl | ⟨n, rfl⟩
  · show rp H (.list [.int (k : Nat), .none]) (.ref q)
    unfold rp
    refine ⟨q, _, rfl, h, ?_⟩
    unfold rpAll
    refine ⟨_, _, rfl, by unfold rp; rfl, ?_⟩
    unfold rpAll
    refine ⟨_, _, rfl, by unfold rp; rfl, ?_⟩
    unfold rpAll
    rfl
  · show rp H (.list [.int (k : Nat), .int ((n.val : Nat) : Int)]) (.ref q)
    unfold rp
    refine ⟨q, _, rfl, h, ?_⟩
    unfold rpAll
    refine ⟨_, _, rfl, by unfold rp; rfl, ?_⟩
    unfold rpAll
    refine ⟨_, _, rfl, by unfold rp; rfl, ?_⟩
    unfold rpAll
    rfl
theorem rp_two {H : Hp} {q : Addr} {d : PyData} {m1 m2 : V} (h : H q = some (.lst [m1, m2])) (h1 : rp H d m1) (h2 : rp H d m2) : rp H (.list [d, d]) (.ref q) := by
  unfold rp
  refine ⟨q, _, rfl, h, ?_⟩
  unfold rpAll
  refine ⟨_, _, rfl, h1, ?_⟩
  unfold rpAll
  refine ⟨_, _, rfl, h2, ?_⟩
  unfold rpAll
  rfl
theorem Does.ex {X : Cx} {st : Stmt} {Post : L2.St → Hp → Prop} {α : Type} {P : α → L2.St → Hp → Prop} (h : ∀ a, Does X st (P a) Post) : Does X st (fun σ H => ∃ a, P a σ H) Post := ⟨fun pins s σ H D I q => by
  obtain ⟨⟨a, p⟩, k⟩ := q
  exact (h a).run pins s σ H D I ⟨p, k⟩⟩
def spRight (T : List NTab) : Sp := fun vs H Q _ => ∃ j : Addr, vs = [.ref j] ∧ JarAt H j ∧ TabsN T H ∧ ∀ H1, Kp j H H1 → TabsN T H1 → Q (.bl true) H1
section
variable {P : Program} {w : World} {K : PySem.W.Frag} {mg : Str → Option Value} {base : Heap} {T : List NTab} {f j p l : Addr} {cdv : Value} {A : Around} {outer : List Env} {s : Shared} {H0 H00 : Hp} {i : Nat}
def RL (K : PySem.W.Frag) (H0 : Hp) (j p l : Addr) : L2.St → Hp → Prop := fun σ H => ∃ i, i ≤ 3 ∧ R0 K H0 i j p l σ H
def tTurns (K : PySem.W.Frag) (H0 : Hp) (j p l : Addr) : TS := fun D σ H => ∃ i, i < 3 ∧ R0 K H0 i j p l σ H ∧ ∀ σ1 H1, R0 K H0 (i + 1) j p l σ1 H1 → D.nx σ1 H1
theorem turns (R : Rt P w K mg base T) (hr : Room 9 (XR P w K mg base f cdv A outer s H00).A) :
    PSs (XR P w K mg base f cdv A outer s H00) (forBody (rs 2)) (tTurns K H0 j p l) :=
  ⟨fun pins s σ H D I ⟨i, i3, r, k⟩ => (turn (i := i) (j := j) (p := p) (l := l) (H0 := H0) R hr i3).run pins s σ H D I ⟨r, k⟩⟩
theorem loop (R : Rt P w K mg base T) (hr : Room 9 (XR P w K mg base f cdv A outer s H00).A) : Does (XR P w K mg base f cdv A outer s H00) (rs 2) (R0 K H0 0 j p l) (RL K H0 j p l) := by
  obtain ⟨fD, fdD, GD, mD, kD, bD⟩ := R.dip
  have hr1 : Room 1 (XR P w K mg base f cdv A outer s H00).A := hr.mono (by decide)
  refine does (ps_for PassesOwn.never rfl (pi_range1 (by rfl) R.blt.range (pa_cons (pe_call GD hr1 (by rfl) mD kD bD .nil pass0 (pa_cons (pv 0) (pa_cons pe_int pa_nil))) pa_nil)) (pg_name (i := 4) scRight.nd rfl (Or.inl rfl)) (turns (H0 := H0) (j := j) (p := p) (l := l) R hr)) ?_
  rintro D σ H ⟨xs, v1, v4, v5, v6, v7, v8, v9, rfl, S⟩ next
  refine ⟨_, rfl, j, 4, rfl, S.jar, by decide, by decide, fun r H1 r0 r1 J1 b1 => ?_⟩
  have S1 := S.move b1 J1
  refine ⟨r, rfl, by omega, by omega, for_range (lo := 0) (n := r.toNat) (fun i σ H => R0 K H0 i j p l σ H) ⟨xs, v1, v4, v5, v6, v7, v8, v9, rfl, S1⟩ ?_ ?_⟩
  · rintro i σ G hi ⟨xs, v1, v4, v5, v6, v7, v8, v9, rfl, S⟩
    exact ⟨i, by omega, ⟨xs, v1, _, v5, v6, v7, v8, v9, rfl, S⟩, fun σ1 H1 h => h⟩
  · intro σ G h
    exact next _ _ ⟨r.toNat, by omega, h⟩
theorem rd_made {b : Bool} {σ : L2.St} {G : Hp} {Q : VK} (hs : σ[2]? = some (some (.ref p))) (h : spMade K T [.ref p, .bl b] G Q E0) : tCall (spMade K T) [] E0 (tCons (tVar 2) (tCons (tC (.bl b)) tNil)) σ G Q := ⟨_, hs, h⟩
theorem fin_ (R : Rt P w K mg base T) (hr : Room 9 (XR P w K mg base f cdv A outer s H00).A) (hgd : (XR P w K mg base f cdv A outer s H00).A.guards = some []) (J0 : JarAt H0 j) (t0 : TabsN T H0) :
    PSs (XR P w K mg base f cdv A outer s H00) [rs 3, rs 4] (fun D σ H => RL K H0 j p l σ H ∧ ∀ H1, Kp j H0 H1 → TabsN T H1 → D.rt (.bl true) H1) := by
  obtain ⟨fU, fdU, GU, mU, kU, bU⟩ := R.due
  obtain ⟨fM, fdM, GM, mM, kM, bM⟩ := R.made
  have hr4 : Room 4 (XR P w K mg base f cdv A outer s H00).A := hr.mono (by decide)
  have hu : (XR P w K mg base f cdv A outer s H00).A.units + 150 < cLine := by
    have := hr.un
    omega
  refine PSs.weak (pss_cons (ps_set (i := 9) scRight.nd rfl (Or.inl rfl) (pe_call GU hr4 (by rfl) mU kU bU .nil pass0 (pa_cons (pv 2) pa_nil)))
    (pss_one (ps_ret (pe_cmpR op_eq (pe_callB (call_repr_data hgd hu) (by rfl) R.blt.repr (by decide +kernel) (pa_cons (pe_lst (pa_cons (pe_call GM hr (by rfl) mM kM bM .nil pass0 (pa_cons (pv 2) (pa_cons pe_bl pa_nil))) (pa_cons (pe_call GM hr (by rfl) mM kM bM .nil pass0 (pa_cons (pv 2) (pa_cons pe_bl pa_nil))) pa_nil))) pa_nil))
      (pe_callB (call_repr_data hgd hu) (by rfl) R.blt.repr (by decide +kernel) (pa_cons (pe_lst (pa_cons (pv 9) (pa_cons (pv 9) pa_nil))) pa_nil)) rfl)))) ?_
  rintro D σ H ⟨⟨i, i3, xs, v1, v4, v5, v6, v7, v8, v9, rfl, S⟩, fin⟩
  obtain ⟨x1, x2, x3, x4, rfl⟩ : ∃ x1 x2 x3 x4, xs = [x1, x2, x3, x4] := by
    have h := S.four
    match xs, h with
    | [x1, x2, x3, x4], _ => exact ⟨x1, x2, x3, x4, rfl⟩
  have two : 2 ≤ sizeLine := by
    rw [sizeLine_eq]
    decide
  have deep : ∀ v ∈ [x1, x2, x3, x4], Deep K H 4 v := fun v hv => (Bd.exN cut_up (S.good v hv)).deep
  have t1 : TabsN T H := tabs_but J0 S.but t0
  have kp0 : Kp j H0 H := Kp.of_but S.but
  have hp := S.parts
  clear S J0 t0
  -- what is behind: the same datum thrice
  have last : ∀ (d : PyData) (u : V) (G : Hp), Two d → rp G d u → ExtN H G → TabsN T G → (∀ G1 (Q : VK), ExtN H G1 → TabsN T G1 → (∀ m G2, rp G2 d m → ExtN G1 G2 → TabsN T G2 → Q m G2) → ∀ b, spMade K T [.ref p, .bl b] G1 Q E0) →
      tRet (tOp rEq (tCB rRepr (tCons (tLst (tCons (tCall (spMade K T) [] E0 (tCons (tVar 2) (tCons (tC (.bl false)) tNil))) (tCons (tCall (spMade K T) [] E0 (tCons (tVar 2) (tCons (tC (.bl true)) tNil))) tNil))) tNil)) (tCB rRepr (tCons (tLst (tCons (tVar 9) (tCons (tVar 9) tNil))) tNil)))
        D [some (.ref j), v1, some (.ref p), some (.ref l), v4, v5, v6, v7, v8, some u, none, none, none] G := by
    intro d u G dt ru eG tG ask
    refine rd_made rfl (ask G _ eG tG (fun m1 G1 r1 e1 t1 => ?_) false)
    refine rd_made rfl (ask G1 _ (eG.trans e1) t1 (fun m2 G2 r2 e2 t2 => ?_) true)
    refine ⟨two, fun q1 nq1 => ?_⟩
    have y1 : ExtN G2 (upd G2 q1 (.lst [m1, m2])) := (Ex.refl.new nq1 : Ex G2 _).n
    have h1 : (upd G2 q1 (.lst [m1, m2])) q1 = some (.lst [m1, m2]) := upd_same
    have t3 : TabsN T (upd G2 q1 (.lst [m1, m2])) := TabsN.exs t2 (Ex.refl.new nq1)
    generalize upd G2 q1 (.lst [m1, m2]) = G3 at y1 h1 t3 ⊢
    have d1 := rp_two h1 (rp_seqN (e2.trans y1) d m1 r1) (rp_seqN y1 d m2 r2)
    have small : (PyData.list [d, d]).shown.length ≤ sizeLine := by
      have := dt.sz
      rw [sizeLine_eq]
      omega
    refine ⟨_, _, rfl, .inl d1, dt.sh, dt.dp, small, ?_⟩
    refine ⟨_, rfl, _, rfl, two, fun q2 nq2 => ?_⟩
    have y2 : ExtN G3 (upd G3 q2 (.lst [u, u])) := (Ex.refl.new nq2 : Ex G3 _).n
    have h2 : (upd G3 q2 (.lst [u, u])) q2 = some (.lst [u, u]) := upd_same
    have t4 : TabsN T (upd G3 q2 (.lst [u, u])) := TabsN.exs t3 (Ex.refl.new nq2)
    generalize upd G3 q2 (.lst [u, u]) = G4 at y2 h2 t4 ⊢
    have up := (e1.trans e2).trans (y1.trans y2)
    have ru2 := rp_seqN up d u ru
    refine ⟨_, _, rfl, .inl (rp_two h2 ru2 ru2), dt.sh, dt.dp, small, rfl, ?_⟩
    have z := fin G4 (kp0.trans (Kp.of_ext (eG.trans up))) t4
    rw [decide_eq_true (show V.str (PyData.list [d, d]).shown = V.str (PyData.list [d, d]).shown from rfl)]
    exact z
  refine ⟨_, rfl, p, x1, x2, x3, x4, rfl, hp, deep, fun hd G eG => ?_, fun k v hk q G eG nq hq => ?_⟩
  · refine last (.str "made") _ G two_made (by unfold rp; rfl) eG.n (TabsN.exs t1 eG) fun G1 Q e1 tG1 ask b => ?_
    have dd : ∀ v ∈ [x1, x2, x3, x4], Deep K G1 4 v := fun v hv => Deep.exN e1 (deep v hv)
    refine ⟨p, b, x1, x2, x3, x4, rfl, e1 _ _ hp (fun _ z => nomatch z), dd, tG1, fun _ G2 e2 t2 => ask _ G2 (by unfold rp; rfl) e2 t2, fun k v hk => ?_⟩
    rw [due4_ex deep e1, hd] at hk
    cases hk
  · have k4 := due4_lt hk
    have tv := due_told hk
    refine last (dOf k v) _ G (two_of_due k4 tv) (rp_due tv hq) eG.n (TabsN.exs t1 eG) fun G1 Q e1 tG1 ask b => ?_
    have dd : ∀ v ∈ [x1, x2, x3, x4], Deep K G1 4 v := fun v hv => Deep.exN e1 (deep v hv)
    refine ⟨p, b, x1, x2, x3, x4, rfl, e1 _ _ hp (fun _ z => nomatch z), dd, tG1, fun hn => ?_, fun k2 v2 hk2 q2 G2 e2 t2 hq2 => ?_⟩
    · rw [due4_ex deep e1, hk] at hn
      cases hn
    · rw [due4_ex deep e1, hk] at hk2
      cases hk2
      exact ask _ G2 (rp_due tv hq2) e2 t2
theorem ok_right {fd : FuncData} (F : Fun K "_law_right" "_law_right" sRight f fd) (R : Rt P w K mg base T) : FnG P w K mg base 10 f fd ["_law_jar_here"] (spRight T) := by
  refine F.okG scRight (fun vs H Q E h => ?_) (fun cdv A outer s H vs Q hgA hr h => ?_)
  · obtain ⟨j, rfl, _⟩ := h
    rfl
  · obtain ⟨j, rfl, J, t, q⟩ := h
    have hgd : (XR P w K mg base f cdv A outer s H).A.guards = some [] := hgA
    have loop2 : Does (XR P w K mg base f cdv A outer s H) (rs 2) (fun σ G => ∃ p l, R0 K H 0 j p l σ G) (fun σ G => ∃ p l, RL K H j p l σ G) :=
      Does.ex fun p => Does.ex fun l => (loop (H0 := H) (j := j) (p := p) (l := l) R hr).weak fun D σ G q => ⟨q.1, fun σ1 G1 z => q.2 σ1 G1 ⟨p, l, z⟩⟩
    have fin2 : PSs (XR P w K mg base f cdv A outer s H) [rs 3, rs 4] (fun D σ G => (∃ p l, RL K H j p l σ G) ∧ ∀ H1, Kp j H H1 → TabsN T H1 → D.rt (.bl true) H1) :=
      ⟨fun pins s1 σ G D I ⟨⟨p, l, r⟩, k⟩ => (fin_ (H0 := H) (j := j) (p := p) (l := l) R hr hgd J t).run pins s1 σ G D I ⟨r, k⟩⟩
    have body : PSs (XR P w K mg base f cdv A outer s H) (defBody sRight) _ := pss_cons (st := rs 0) (draw (H0 := H) (j := j) R hr) (pss_cons (st := rs 1) (Does.ex fun wd => Does.ex fun W => parts (wd := wd) (W := W) (H0 := H) (j := j) R hr) (pss_cons (st := rs 2) loop2 fin2))
    exact ⟨_, body, ⟨rfl, J, rfl⟩, fun σ1 H1 a1 => ⟨a1, fun σ2 H2 a2 => ⟨a2, fun σ3 H3 a3 => ⟨a3, q⟩⟩⟩⟩
end
end LJ
set_option Elab.async false
set_option linter.all false
set_option maxRecDepth 100000
set_option maxHeartbeats 8000000
namespace LJ
open PySem PySem.Spec L2 PySem.ErrV PyProof.Rows
open LamX (ExtN TabB)
open NdefX (NTab TabsN)
abbrev sLaw : Stmt := top 54
abbrev nLaw : List Str := ["_law_cells", "_law_turn"]
theorem scLaw : FnScope nLaw ["_law_cells"] (defScope sLaw) := ⟨rfl, rfl, rfl, by decide +kernel, rfl, by decide +kernel, by decide +kernel⟩
structure BltM (mg : Str → Option Value) : Prop where
  all : mg "all" = none
  range : mg "range" = none
  max : mg "max" = none
  min : mg "min" = none
  len : mg "len" = none
def spLaw (T : List NTab) (K : PySem.W.Frag) : Sp := fun vs H Q _ => ∃ (a : Addr) (ns : List Int), vs = [.ref a] ∧ SqL K H a (ns.map V.int) ∧ ns.length ≤ 63 ∧ TabsN T H ∧ ∀ H1, Q (.bl true) H1
theorem small_line {n : Nat} (h : n ≤ 10000) : n ≤ sizeLine := by
  rw [sizeLine_eq]
  omega
theorem lstN {G G1 : Hp} (e : ExtN G G1) {a : Addr} {xs : List V} (h : G a = some (.lst xs)) : G1 a = some (.lst xs) := e _ _ h fun _ z => nomatch z
theorem sqN {K : PySem.W.Frag} {H H1 : Hp} {a : Addr} {xs : List V} (e : ExtN H H1) (h : SqL K H a xs) : SqL K H1 a xs := by
  rcases h with (h | ⟨o, h⟩) | h
  · exact .inl (.inl (e _ _ h fun _ z => nomatch z))
  · exact .inl (.inr ⟨o, e _ _ h fun _ z => nomatch z⟩)
  · exact .inr h
/-- the reading of _law_right(_law_jar(_law_cells, _law_turn)) -/
def tR (K : PySem.W.Frag) (T : List NTab) : TE := fun σ H Q => tCons (tCall (spJar K) [] E0 (tCons (tVar 0) (tCons (tVar 1) tNil))) tNil σ H fun vs H1 => spRight T vs H1 Q E0
section
variable {P : Program} {w : World} {K : PySem.W.Frag} {mg : Str → Option Value} {base : Heap} {T : List NTab}
theorem ok_law {f fR fJ : Addr} {fd fdR fdJ : FuncData} (F : Fun K "law" "law" sLaw f fd) (B : BltM mg)
    (GR : FnG P w K mg base 10 fR fdR ["_law_jar_here"] (spRight T)) (mR : mg "_law_right" = some (.ref fR)) (kR : PySem.W.keepIn K (.ref fR) = true) (bR : Binds K fdR ["_law_jar_here"] [])
    (GJ : FnOk P w K mg base CX0 1 fJ fdJ ["_law_cells", "_law_turn"] (spJar K)) (mJ : mg "_law_jar" = some (.ref fJ)) (kJ : PySem.W.keepIn K (.ref fJ) = true) (bJ : Binds K fdJ ["_law_cells", "_law_turn"] []) :
    FnG P w K mg base 11 f fd ["_law_cells"] (spLaw T K) := by
  refine F.okG scLaw (fun vs H Q E h => ?_) (fun cdv A outer s H vs Q hgA hr h => ?_)
  · obtain ⟨a, ns, rfl, _⟩ := h
    rfl
  · obtain ⟨a, ns, rfl, hS, hn, tabs, k⟩ := h
    have hgd : (A.deeper (PyProof.Rows.envOfC "law" (defScope sLaw) s.heap.objs.size f cdv)).guards = some [] := hgA
    have hr1 : Room 1 _ := hr.mono (by decide)
    refine ⟨_, pss_one (ps_ret (pe_callB (cr_all rfl) (by rfl) B.all (by decide +kernel) (pa_cons (pe_lc (own := [("_law_turn", 1)]) (g := gName 1) (te := tR K T) (by rfl) scLaw.nd (pi_range1 (by rfl) B.range (pa_cons (pe_callB (call_max2 rfl) (by rfl) B.max (by decide +kernel) (pa_cons pe_int (pa_cons (pe_callB (call_min2 rfl) (by rfl) B.min (by decide +kernel) (pa_cons (pe_callB call_len_seq (by rfl) B.len PySem.boot_len (pa_cons (pv 0) pa_nil)) (pa_cons pe_int pa_nil))) pa_nil))) pa_nil)) (blkOk_by (own := [("_law_turn", 1)]) (N := nLaw) (sc := defScope sLaw) (by decide +kernel)) (fun _ _ _ _ _ => pg_name (i := 1) scLaw.nd rfl (Or.inl rfl)) (fun _ _ _ _ _ => pts_nil) (fun _ _ _ _ _ => pe_callNG GR hgd hr (by rfl) mR kR bR (pa_cons (pe_call GJ hr1 (by rfl) mJ kJ bJ .nil pass0 (pa_cons (pv 0) (pa_cons (pv 1) pa_nil))) pa_nil))) pa_nil))), ?_⟩
    have six : (if (if (8 : Int) < ((ns.map V.int).length : Int) then (8 : Int) else ((ns.map V.int).length : Int)) > 2 then (if (8 : Int) < ((ns.map V.int).length : Int) then (8 : Int) else ((ns.map V.int).length : Int)) else 2) ≤ 8 := by
      split <;> split <;> omega
    have two : (2 : Int) ≤ (if (if (8 : Int) < ((ns.map V.int).length : Int) then (8 : Int) else ((ns.map V.int).length : Int)) > 2 then (if (8 : Int) < ((ns.map V.int).length : Int) then (8 : Int) else ((ns.map V.int).length : Int)) else 2) := by
      split <;> omega
    refine ⟨_, rfl, a, _, rfl, .inl hS, _, _, rfl, _, _, rfl, _, rfl, ?_⟩
    generalize (if (if (8 : Int) < ((ns.map V.int).length : Int) then (8 : Int) else ((ns.map V.int).length : Int)) > 2 then (if (8 : Int) < ((ns.map V.int).length : Int) then (8 : Int) else ((ns.map V.int).length : Int)) else 2) = n6 at six two ⊢
    refine ⟨by omega, by omega, fun D hD => lc_range (lo := 0) (n := n6.toNat) (fun n H2 => ExtN H H2 ∧ TabsN T H2 ∧ H2 D = some (.lst ((List.replicate n true).map V.bl))) ⟨(Ex.refl.new hD).n, TabsN.exs tabs (Ex.refl.new hD), upd_same⟩ ?_ ?_⟩
    · rintro n H2 hi ⟨h2, t2, hD2⟩
      refine ⟨rfl, ?_⟩
      refine ⟨_, rfl, _, rfl, a, ns, 0 + (n : Int), rfl, sqN h2 hS, hn, by omega, by omega, fun j H8 nj s8 J8 => ?_⟩
      have t8 : TabsN T H8 := TabsN.exs t2 s8
      refine ⟨j, rfl, J8, t8, fun H9 b9 t9 => ?_⟩
      have far : ∀ {b : Addr} {o : HO}, H2 b = some o → b ≠ j := fun {b o} e z => by
        rw [z, nj] at e
        cases e
      have s9 : ExtN H2 H9 := fun b o e nt => b9 b o (far e) (s8 b o e) nt
      have hD9 := lstN s9 hD2
      refine ⟨_, hD9, small_line (by rw [List.length_map, List.length_replicate]; omega), fun b o e nt => ?_, fun r hr => ?_, ?_⟩
      · have nb : b ≠ D := fun z => by
          rw [z, hD] at e
          cases e
        rw [upd_ne nb]
        exact s9 b o (h2 b o e nt) nt
      · obtain ⟨ps, h1, h2, h3⟩ := t9 r hr
        refine ⟨ps, by rw [upd_ne (ne_of h1 hD9 fun z => nomatch z)]; exact h1, h2, fun pos v hv => ?_⟩
        obtain ⟨c, e1, e2⟩ := h3 pos v hv
        exact ⟨c, e1, by rw [upd_ne (ne_of e2 hD9 fun z => nomatch (show HO.ext _ = HO.lst _ from z))]; exact e2⟩
      · rw [List.replicate_succ', List.map_append]
        exact upd_same
    · rintro H2 ⟨h2, t2, hD2⟩
      refine ⟨D, _, rfl, SqL.of hD2, ?_⟩
      have e : (List.replicate n6.toNat true).all id = true := by simp
      rw [e]
      exact k H2
end
end LJ
set_option Elab.async false
set_option linter.all false
set_option maxRecDepth 100000
set_option maxHeartbeats 4000000
/-! The end of a row whose law asks for repr and makes lambdas: no guard stands, tables of code are empty at first. -/
namespace L2
open PySem PySem.Spec PyProof.Rows
/-- what is tracked when the law is called: the tables, and the script where it is not written -/
def Begun (cs : List (Addr × Addr)) (a : Addr) (H : Hp) : Prop := ∀ b, H b = none ∨ b ∈ cs.map (·.2) ∧ H b = some (.tbl #[]) ∨ b = a ∧ ∃ o xs, H b = some (.frz o (.lst xs))
section
variable {P : Program} {w : World} {K : PySem.W.Frag} {mg mb : Str → Option Value} {k : Nat} {fa a : Addr} {fd : FuncData} {x : Str} {sp : Sp} {s1 : Shared} {vs : List Value} {ns : List Int} {cs : List (Addr × Addr)}
/-- the tables of some code objects, all empty -/
structure Empty (K : PySem.W.Frag) (h : Heap) (cs : List (Addr × Addr)) : Prop where
  at_ : ∀ q ∈ cs, h.get? q.2 = some (PySem.W.tabObj #[])
  out : ∀ q ∈ cs, K.lookup q.2 = none
  head : ∀ q ∈ cs, PySem.W.CodeHd h q.1 q.2
theorem Empty.of {h : Heap} (E : Empty K h cs) {b : Addr} (m : b ∈ cs.map (·.2)) : h.get? b = some (PySem.W.tabObj #[]) := by
  obtain ⟨q, hq, rfl⟩ := List.mem_map.mp m
  exact E.at_ q hq
theorem Empty.no {h : Heap} (E : Empty K h cs) {b : Addr} (m : b ∈ cs.map (·.2)) : K.lookup b = none := by
  obtain ⟨q, hq, rfl⟩ := List.mem_map.mp m
  exact E.out q hq
theorem law_gt_at (KX : K.In s1.heap) (hns : s1.heap.Ns mainGlobals mg) (hb : s1.heap.Ns builtinsNs mb) (hbb : ∀ y : Str, y ≠ "__name__" → mb y = bootBuiltins y) (hlim : s1.heap.NoLimit) (hgn : s1.gens = #[]) (E : Empty K s1.heap cs)
    (bi : ∃ (m : Addr) (o : Obj), mg "__builtins__" = some (.ref m) ∧ m ≠ builtinsNs ∧ s1.heap.get? m = some o ∧ o.cls = .type "module" ∧ o.dict = some builtinsNs ∧ o.data = .plain)
    (ha : s1.heap.get? a = some { cls := .type "list", data := .seq vs.toArray }) (hr : Room k callerA)
    (F : ∀ base : Heap, K.In base → base.Ns mainGlobals mg → (∀ q ∈ cs, LamX.TabB base mg q.1 q.2) → FnG P w K mg base k fa fd [x] sp) (hbind : ∀ (s : Shared) (u : Value), BindsTo s fd ⟨[u], []⟩ [(x, u)])
    (H : Hp) (tb : ∀ q ∈ cs, H q.2 = some (.tbl #[])) (only : Begun cs a H) (hsp : sp [.ref a] H (fun v _ => v = .bl true) E0) (hok : HOk P w H s1.heap) (hK : H a ≠ none → K.lookup a = none) :
    codeAny (model P w) callerA (.call (.ref fa) ⟨[.ref a], []⟩) (fun r s2 => r = .ok (.ret (.bool true)) ∧ OldK s1.heap s2.heap ∧ s2.os = s1.os ∧ AllBare s2.gens) s1 := by
  have untracked : ∀ {b : Addr} {o : Obj}, s1.heap.get? b = some o → (∀ us n, o.data ≠ .seq us n) → (∀ us, o.data = .fields us → us ≠ #[]) → H b = none := fun {b o} e n1 n2 => by
    rcases only b with z | ⟨m, _⟩ | ⟨rfl, _⟩
    · exact z
    · rw [E.of m] at e
      cases e
      exact absurd rfl (n2 _ rfl)
    · rw [ha] at e
      cases e
      exact absurd rfl (n1 _ _)
  have ground : ∀ {b : Addr} {o : Obj}, s1.heap.get? b = some o → H b = none → (hidT s1.heap H).get? b = some o := fun e n => hidT_get e n
  have names : ∀ {b : Addr} {m : Str → Option Value}, s1.heap.Ns b m → (hidT s1.heap H).Ns b m := fun {b m} ⟨o, es, ep, e, d, r⟩ =>
    ⟨o, es, ep, ground e (untracked e (fun us n z => nomatch d.symm.trans z) fun us z => nomatch d.symm.trans z), d, r⟩
  have KB : K.In (hidT s1.heap H) := fun b o e => ground (KX b o e) (by
    rcases only b with z | ⟨m, _⟩ | ⟨rfl, o2, xs, z⟩
    · exact z
    · rw [E.no m] at e
      cases e
    · rw [hK (by rw [z]; exact Option.some_ne_none _)] at e
      cases e)
  have md : Mod K mg (hidT s1.heap H) := ⟨KB, names hns, ⟨mb, names hb, hbb⟩, let ⟨mc, h1, h2⟩ := hlim; ⟨mc, names h1, h2⟩⟩
  have TB : ∀ q ∈ cs, LamX.TabB (hidT s1.heap H) mg q.1 q.2 := fun q hq => by
    constructor
    · obtain ⟨o, us, file, tf, flags, tg, inF, text, tt, e1, r1, r2, r3, rest⟩ := E.head q hq
      refine ⟨o, us, file, tf, flags, tg, inF, text, tt, ground e1 (untracked e1 (fun vs n z => nomatch r2.symm.trans z) fun vs z e => ?_), r1, r2, r3, rest⟩
      have es : us = vs := Data.fields.inj (r2.symm.trans z)
      rw [es, e] at r3
      cases r3
    · obtain ⟨m, o, b1, b2, b3, b4, b5, b6⟩ := bi
      refine ⟨m, o, b1, b2, fun z => ?_, fun z => ?_, ground b3 (untracked b3 (fun vs n z => nomatch b6.symm.trans z) fun vs z => nomatch b6.symm.trans z), b4, b5, b6⟩
      · obtain ⟨og, es, ep, e, d, _⟩ := hns
        rw [z, e] at b3
        cases b3
        exact nomatch d.symm.trans b6
      · rw [z, E.at_ q hq] at b3
        cases b3
        cases b6
    · intro z
      obtain ⟨og, es, ep, e, d, _⟩ := hns
      rw [z, E.at_ q hq] at e
      cases e
      cases d
  have start0 : Env0 P w K mg (hidT s1.heap H) callerA [] s1 H :=
    ⟨rfl, md, fun b o e => of_hidT e, Nat.le_of_eq (hidT_size _ _), trivial, fun b hb => absurd (show b ∈ ([] : List Addr) from hb) (by simp), hok, .of_eq hgn⟩
  refine codeAny_mono ((F _ KB (names hns) TB).run callerA [] s1 H ⟨[.ref a], []⟩ [.ref a] [.ref a] _ rfl hr start0 (hbind s1 (.ref a)) (.cons rfl .nil) hsp) fun r s2 h => ?_
  cases r with
  | error e => exact False.elim h
  | ok fl =>
    cases fl with
    | next => exact False.elim h
    | brk => exact False.elim h
    | cont => exact False.elim h
    | ret u =>
      obtain ⟨v, H2, os, bare, un, ok2, rv, q⟩ := h
      obtain rfl : v = .bl true := q
      obtain rfl : u = Value.bool true := rv
      have nox : ∀ b : Addr, b ∉ ([] : List Addr) := fun b => by simp
      have same : ∀ b o, b ∉ cs.map (·.2) → s1.heap.get? b = some o → s2.heap.get? b = some o := fun b o m e => by
        rcases only b with z | ⟨m2, _⟩ | ⟨_, ob, xs, z⟩
        · exact un.keep b o e z (nox b) (nox b)
        · exact absurd m2 m
        · obtain ⟨e1, _⟩ := hok b _ z
          obtain ⟨e2, _⟩ := ok2 b _ (un.frzs b ob _ z)
          rw [e] at e1
          cases e1
          exact e2
      have more : ∀ q ∈ cs, ∃ us : Array Value, s2.heap.get? q.2 = some { cls := .none, data := .fields us } := fun q hq => by
        obtain ⟨us, z⟩ := un.tbls q.2 #[] (tb q hq)
        exact ⟨_, ok2 q.2 _ z⟩
      refine ⟨rfl, { old := fun b o e => ?_, there := fun b o e => ?_ }, os, bare⟩
      · by_cases m : b ∈ cs.map (·.2)
        · obtain ⟨q, hq, rfl⟩ := List.mem_map.mp m
          obtain ⟨us, hu⟩ := more q hq
          rw [E.at_ q hq] at e
          cases e
          exact .inr (.inl ⟨((E.head q hq).tab (E.at_ q hq)).isCodeTable, rfl, #[], us, rfl, by rw [Array.empty_append]; exact hu⟩)
        · exact .inl (same b o m e)
      · by_cases m : b ∈ cs.map (·.2)
        · obtain ⟨q, hq, rfl⟩ := List.mem_map.mp m
          obtain ⟨us, hu⟩ := more q hq
          exact ⟨_, hu⟩
        · exact ⟨o, same b o m e⟩
theorem law_gt (KX : K.In s1.heap) (hns : s1.heap.Ns mainGlobals mg) (hb : s1.heap.Ns builtinsNs mb) (hbb : ∀ y : Str, y ≠ "__name__" → mb y = bootBuiltins y) (hlim : s1.heap.NoLimit) (hgn : s1.gens = #[]) (E : Empty K s1.heap cs)
    (bi : ∃ (m : Addr) (o : Obj), mg "__builtins__" = some (.ref m) ∧ m ≠ builtinsNs ∧ s1.heap.get? m = some o ∧ o.cls = .type "module" ∧ o.dict = some builtinsNs ∧ o.data = .plain)
    (ha : s1.heap.get? a = some { cls := .type "list", data := .seq vs.toArray }) (hi : IntsAre vs ns) (hl : ns.length ≤ sizeLine) (hr : Room k callerA)
    (F : ∀ base : Heap, K.In base → base.Ns mainGlobals mg → (∀ q ∈ cs, LamX.TabB base mg q.1 q.2) → FnG P w K mg base k fa fd [x] sp) (hbind : ∀ (s : Shared) (u : Value), BindsTo s fd ⟨[u], []⟩ [(x, u)])
    (hsp : ∀ H : Hp, (∀ q ∈ cs, H q.2 = some (.tbl #[])) → SqL K H a (ns.map V.int) → sp [.ref a] H (fun v _ => v = .bl true) E0) :
    codeAny (model P w) callerA (.call (.ref fa) ⟨[.ref a], []⟩) (fun r s2 => r = .ok (.ret (.bool true)) ∧ OldK s1.heap s2.heap ∧ s2.os = s1.os ∧ AllBare s2.gens) s1 := by
  have rv := vals_ints hi
  have lenV := hi.length
  have far : a ∉ cs.map (·.2) := fun m => by
    have z := E.of m
    rw [ha] at z
    cases z
  cases hk : K.lookup a with
  | some o =>
    have e := KX a o hk
    rw [ha] at e
    cases e
    let H : Hp := fun b => if b ∈ cs.map (·.2) then some (.tbl #[]) else none
    have yes : ∀ {b : Addr}, b ∈ cs.map (·.2) → H b = some (.tbl #[]) := fun m => if_pos m
    have no : ∀ {b : Addr}, b ∉ cs.map (·.2) → H b = none := fun m => if_neg m
    have tb : ∀ q ∈ cs, H q.2 = some (.tbl #[]) := fun q hq => yes (List.mem_map.mpr ⟨q, hq, rfl⟩)
    refine law_gt_at KX hns hb hbb hlim hgn E bi ha hr F hbind H tb (fun b => ?_) (hsp H tb (.inr ⟨_, vs.toArray, _, hk, rfl, rfl, rfl, by rw [List.size_toArray, lenV]; exact hl, by simpa using rv⟩)) (fun b u z => ?_) fun z => absurd (no far) z
    · by_cases m : b ∈ cs.map (·.2)
      · exact .inr (.inl ⟨m, yes m⟩)
      · exact .inl (no m)
    · by_cases m : b ∈ cs.map (·.2)
      · rw [yes m] at z
        cases z
        exact E.of m
      · rw [no m] at z
        cases z
  | none =>
    let o1 : Obj := { cls := .type "list", data := .seq vs.toArray }
    let H : Hp := fun b => if b = a then some (.frz o1 (.lst (ns.map V.int))) else if b ∈ cs.map (·.2) then some (.tbl #[]) else none
    have hA : H a = some (.frz o1 (.lst (ns.map V.int))) := if_pos rfl
    have yes : ∀ {b : Addr}, b ∈ cs.map (·.2) → H b = some (.tbl #[]) := fun {b} m => (if_neg (show ¬ b = a from fun z => far (by rw [← z]; exact m))).trans (if_pos m)
    have no : ∀ {b : Addr}, b ≠ a → b ∉ cs.map (·.2) → H b = none := fun n m => (if_neg n).trans (if_neg m)
    have tb : ∀ q ∈ cs, H q.2 = some (.tbl #[]) := fun q hq => yes (List.mem_map.mpr ⟨q, hq, rfl⟩)
    refine law_gt_at KX hns hb hbb hlim hgn E bi ha hr F hbind H tb (fun b => ?_) (hsp H tb (.inl (.inr ⟨_, hA⟩))) (fun b u z => ?_) fun _ => hk
    · by_cases n : b = a
      · exact .inr (.inr ⟨n, o1, _, n ▸ hA⟩)
      · by_cases m : b ∈ cs.map (·.2)
        · exact .inr (.inl ⟨m, yes m⟩)
        · exact .inl (no n m)
    · by_cases n : b = a
      · subst n
        rw [hA] at z
        cases z
        exact ⟨ha, by rw [List.length_map]; exact hl, vs, _, rv, ha⟩
      · by_cases m : b ∈ cs.map (·.2)
        · rw [yes m] at z
          cases z
          exact E.of m
        · rw [no n m] at z
          cases z
end
/-- what the end has to show of the law at the head's heap -/
def EndsAt (l : PySem.W.OpenLaw) (w : World) (K : PySem.W.Frag) (k n : Nat) (x : Str) (mg : Str → Option Value) (fa : Addr) (h : Heap) : Prop := ∃ (fd : FuncData) (cs : List (Addr × Addr)) (sp : Sp), Empty K h cs ∧ (∀ (s : Shared) (u : Value), BindsTo s fd ⟨[u], []⟩ [(x, u)]) ∧
  (∀ (H : Hp) (a : Addr) (ns : List Int), ns.length ≤ n → (∀ q ∈ cs, H q.2 = some (.tbl #[])) → SqL K H a (ns.map V.int) → sp [.ref a] H (fun v _ => v = .bl true) E0) ∧
  ∀ base : Heap, K.In base → base.Ns mainGlobals mg → (∀ q ∈ cs, LamX.TabB base mg q.1 q.2) → FnG l.prog w K mg base k fa fd [x] sp
theorem walk_gt {l : PySem.W.OpenLaw} {n k : Nat} {q : Program} {loose : List Str} {XP : (Str → Option Value) → Heap → Prop} {YP : World → Heap → Prop} {d : DefRec} {x : Str} (hn : l.most = some n) (hn2 : n ≤ sizeLine) (hdf : d.params.defaults = []) (hr : Room k callerA)
    (F : ∀ (w : World) (mg : Str → Option Value) (fa : Addr) (h : Heap), YP w h → h.Ns mainGlobals mg → mg d.name = some (.ref fa) → ∃ K : PySem.W.Frag, K.In h ∧ EndsAt l w K k n x mg fa h) :
    PySem.W.WalkO q loose XP YP l.row.toRowW d [] (fun f vs => PySem.call f vs) := by
  refine Att.attach_callB hn hdf fun w s0 s1 mg mb fa o pm cd doc a vs ns G Y ho hd hcd hmg hobj hints hlen hbits hgn => ?_
  obtain ⟨K, KX, fd, cs, sp, E, hb, hsp, hF⟩ := F w mg fa _ Y G.T.g hmg
  exact law_gt KX G.T.g G.T.b G.T.builtins G.T.nolimit hgn E G.T.bmain hobj hints (Nat.le_trans hlen hn2) hr hF hb fun H hH hS => hsp H a ns hlen hH hS
end L2
set_option Elab.async false
set_option linter.all false
set_option maxRecDepth 100000
set_option maxHeartbeats 4000000
namespace LJ
open PySem PySem.Spec L2 PySem.ErrV
open LamX (ExtN TabB)
open NdefX (NTab TabsN)
abbrev veT : List Value := [.type "ValueError", .type "Exception", .type "BaseException", .type "object"]
theorem bo_ve : BaseOk "ValueError" "ValueError.__new__" "ValueError.__init__" veT := ⟨PySem.F.excBase_ValueError, PySem.F.store_ValueError⟩
/-! ### what is asked of the written part, by one look -/
def clsLook (K : PySem.W.Frag) (C : Addr) (B : List Value) (nw : String) : Bool := match K.lookup C with
  | some ⟨.type "type", _, .cls cd, sl⟩ => (match cd.mro, sl.toList with
    | .ref D :: bm, [_, _, _, _, some (.builtin n), _] => D == C && n == nw && !cd.hasDel && cd.hasDict && rowOver B bm
    | _, _ => false)
  | _ => false
theorem clsLook_of {K : PySem.W.Frag} {C : Addr} {B : List Value} {nw : String} (h : clsLook K C B nw = true) : ∃ nm q N bs bm sn sub ab col dd k0 k1 k2 k3 k5,
    K.lookup C = some (excClassObj nm q C N bs bm true sn sub ab col dd k0 k1 k2 k3 k5 nw) ∧ rowOver B bm = true := by
  unfold clsLook at h
  split at h
  · rename_i dd cd sl ho
    split at h
    · rename_i D bm k0 k1 k2 k3 n k5 hm hs
      simp only [Bool.and_eq_true, beq_iff_eq, Bool.not_eq_true'] at h
      obtain ⟨⟨⟨⟨e1, e2⟩, e3⟩, e4⟩, e5⟩ := h
      obtain ⟨nm, bs, mro, ns, qn, hd, sn, sub, ab, col, del⟩ := cd
      dsimp only at hm e3 e4
      subst hm e1 e2 e3 e4
      have hl : sl = #[k0, k1, k2, k3, some (.builtin n), k5] := by
        obtain ⟨l⟩ := sl
        simp only at hs
        rw [hs]
      subst hl
      exact ⟨nm, qn, ns, bs, bm, sn, sub, ab, col, dd, k0, k1, k2, k3, k5, ho, e5⟩
    · cases h
  · cases h
def errLook (K : PySem.W.Frag) (C fI : Addr) (f : Str) (B : List Value) (nw : String) : Bool :=
  clsLook K C B nw && decide (PySem.W.findIn K (.ref C) "__setattr__" = some (some (.builtin "object.__setattr__"))) && decide (PySem.W.findIn K (.ref C) f = some none) &&
  decide (PySem.W.findIn K (.ref C) "__init__" = some (some (.ref fI))) && decide (PySem.W.typeIn K (.ref fI) = some (.type "function")) && PySem.W.keepIn K (.ref C)
theorem errLook_of {K : PySem.W.Frag} {mg : Str → Option Value} {x f : Str} {C fI : Addr} {B : List Value} {nw : String} (h : errLook K C fI f B nw = true) (g : mg x = some (.ref C))
    (fn : ∃ (qual : Str) (oc : Value) (od : Option Addr) (doc pm : Value) (an : Option Addr) (cdv ct : Value) (osl : Array (Option Value)) (p1 p2 q1 q2 q3 q4 : Pos),
      K.lookup fI = some ⟨oc, od, .func (PySem.W.fnOf "__init__" qual (eA f p1 p2) (eB f q1 q2 q3 q4) (eS f) .none .none doc pm an cdv ct), osl⟩ ∧ PySem.W.codeIn K cdv qual = true) : ErrC K mg x f C fI nw B := by
  unfold errLook at h
  simp only [Bool.and_eq_true, decide_eq_true_eq] at h
  obtain ⟨⟨⟨⟨⟨h1, h2⟩, h3⟩, h4⟩, h5⟩, h6⟩ := h
  exact ⟨g, clsLook_of h1, h2, h3, h4, h5, h6, fn⟩
def intLook (K : PySem.W.Frag) (x : Str) (n : Int) : Bool := match PySem.W.nsIn K mainGlobals x with
  | some (some (.int m _)) => m == n
  | _ => false
theorem intLook_of {K : PySem.W.Frag} {x : Str} {n : Int} {h0 : Heap} {mg : Str → Option Value} (X : K.In h0) (G : h0.Ns mainGlobals mg) (h : intLook K x n = true) : ∃ u, mg x = some u ∧ RelV (.int n) u := by
  unfold intLook at h
  split at h
  · rename_i m t e
    obtain rfl := beq_iff_eq.mp h
    exact ⟨_, PySem.W.mg_of X G e, ⟨t, rfl⟩⟩
  · cases h
def outer : List Str := ["divmod", "int", "len", "abs", "isinstance", "bool", "str", "tuple", "all", "enumerate", "range", "sorted", "zip", "list", "repr", "max", "min"]
def outLook (K : PySem.W.Frag) : Bool := outer.all fun x => decide (PySem.W.nsIn K mainGlobals x = some none)
theorem outLook_of {K : PySem.W.Frag} {h0 : Heap} {mg : Str → Option Value} (X : K.In h0) (G : h0.Ns mainGlobals mg) (h : outLook K = true) (x : Str) (hx : x ∈ outer) : mg x = none :=
  PySem.W.mg_none_of X G (of_decide_eq_true (List.all_eq_true.mp h x hx))
def cLook (K : PySem.W.Frag) : Bool := intLook K "_MOST_LETTERS" 8 && intLook K "MOST_MACHINES" 6 && intLook K "MOST_CLEANINGS" 6 && intLook K "MOST_STUFFS" 3 && intLook K "MOST_PRODUCTS" 8 && intLook K "MOST_SHARE" 1000 && intLook K "MOST_AMOUNT" 1000000000000
def fields : List Str := ["_machines", "_cleanings", "_stuffs", "_products", "_holds", "_keeps", "_limits", "_contents", "_text"]
/-- the class Works -/
def wLook (K : PySem.W.Frag) (C fI : Addr) (ms : List (Str × Addr)) : Bool := PySem.W.plainGet K C Str.empty && PySem.W.hasDictIn K C && PySem.W.plainOver K C && decide (PySem.W.findIn K (.ref C) "__setattr__" = some (some (.builtin "object.__setattr__"))) &&
  (fields.all fun f => decide (PySem.W.findIn K (.ref C) f = some none)) && PySem.W.makesIn K C && PySem.W.isFn K (.ref fI) && PySem.W.keepIn K (.ref C) &&
  (ms.all fun q => decide (PySem.W.findIn K (.ref C) q.1 = some (some (.ref q.2))) && PySem.W.isFn K (.ref q.2) && PySem.W.keepIn K (.ref q.2))
/-- an error with an index -/
def eLook (K : PySem.W.Frag) (C fI : Addr) : Bool := errLook K C fI "index" veT "ValueError.__new__" && decide (PySem.W.findIn K (.ref C) "__getattribute__" = some (some (.builtin "BaseException.__getattribute__"))) && decide (PySem.W.findIn K (.ref C) "__getattr__" = some none) &&
  decide (PySem.W.subIn K (.ref C) (.type "BaseException") = some true) && PySem.W.hasDictIn K C && decide (PySem.W.typeIn K (.ref C) = some (.type "type"))
def ceOf (C0 C1 C2 C3 : Addr) : Nat → Addr
  | 0 => C0
  | 1 => C1
  | 2 => C2
  | _ => C3
/-- each fits its own clause alone -/
def fLook (K : PySem.W.Frag) (C0 C1 C2 C3 : Addr) : Bool := (List.range 4).all fun k => (List.range 4).all fun j => decide (PySem.W.exmOne K (.ref (ceOf C0 C1 C2 C3 k)) (.ref (ceOf C0 C1 C2 C3 j)) = some (decide (k = j)))
theorem eLook_of {K : PySem.W.Frag} {mg : Str → Option Value} {x : Str} {C fI : Addr} (h : eLook K C fI = true) (g : mg x = some (.ref C))
    (fn : ∃ (qual : Str) (oc : Value) (od : Option Addr) (doc pm : Value) (an : Option Addr) (cdv ct : Value) (osl : Array (Option Value)) (p1 p2 q1 q2 q3 q4 : Pos),
      K.lookup fI = some ⟨oc, od, .func (PySem.W.fnOf "__init__" qual (eA "index" p1 p2) (eB "index" q1 q2 q3 q4) (eS "index") .none .none doc pm an cdv ct), osl⟩ ∧ PySem.W.codeIn K cdv qual = true) : Er1 K mg x C := by
  unfold eLook at h
  simp only [Bool.and_eq_true, decide_eq_true_eq] at h
  obtain ⟨⟨⟨⟨⟨u1, u2⟩, u3⟩, u4⟩, u5⟩, u6⟩ := h
  exact ⟨⟨fI, veT, errLook_of u1 g fn, bo_ve⟩, u4, u6, ⟨u2, u3, u4, u5⟩⟩
/-- tables of code -/
def tLook (K : PySem.W.Frag) (cs : List (Addr × Addr)) : Bool := cs.all fun q => PySem.W.codeHdIn K q.1 q.2 && (K.lookup q.2).isNone
/-- a def's code -/
def codLook (K : PySem.W.Frag) (f c : Addr) : Bool := match K.lookup f with
  | some ⟨_, _, .func fd, _⟩ => (match fd.code with
    | .ref d => d == c
    | _ => false)
  | _ => false
theorem codLook_of {K : PySem.W.Frag} {f c : Addr} {oc : Value} {od : Option Addr} {fd : FuncData} {sl : Array (Option Value)} (h : codLook K f c = true) (l : K.lookup f = some ⟨oc, od, .func fd, sl⟩) : fd.code = .ref c := by
  unfold codLook at h
  rw [l] at h
  have h2 : (match fd.code with
    | .ref d => d == c
    | _ => false) = true := h
  split at h2
  · rename_i d e
    rw [e, beq_iff_eq.mp h2]
  · cases h2

def inClass : Stmt → Nat → Stmt
  | st, i => (clsBody st).getD i (.Pass ⟨0, 0, 0, 0⟩)
theorem all_mk {l : PySem.W.OpenLaw} {w : World} {K : PySem.W.Frag} {h : Heap} {mg : Str → Option Value} {fa C C0 C1 C2 C3 c1 P1 : Addr} (X : K.In h) (G : h.Ns mainGlobals mg) (hfa : mg "law" = some (.ref fa)) {ts : List Addr} (TS : ∀ p ∈ ts, h.get? p = some (PySem.W.tabObj #[]))
    {ocint kVint dcint pmint cdint ctint : Value} {odint anint : Option Addr} {slint : Array (Option Value)} {gint : Addr}
    {ocnam kVnam dcnam pmnam cdnam ctnam : Value} {odnam annam : Option Addr} {slnam : Array (Option Value)} {gnam : Addr}
    {ocby kVby dcby pmby cdby ctby : Value} {odby anby : Option Addr} {slby : Array (Option Value)} {gby : Addr}
    {occhk kVchk dcchk pmchk ctchk : Value} {odchk anchk : Option Addr} {slchk : Array (Option Value)} {gchk : Addr}
    {ocfst kVfst dcfst pmfst cdfst ctfst : Value} {odfst anfst : Option Addr} {slfst : Array (Option Value)} {gfst : Addr}
    {ocshr kVshr dcshr pmshr cdshr ctshr : Value} {odshr anshr : Option Addr} {slshr : Array (Option Value)} {gshr : Addr}
    {oclim kVlim dclim pmlim cdlim ctlim : Value} {odlim anlim : Option Addr} {sllim : Array (Option Value)} {glim : Addr}
    {occon kVcon dccon pmcon cdcon ctcon : Value} {odcon ancon : Option Addr} {slcon : Array (Option Value)} {gcon : Addr}
    {ocnmd kVnmd dcnmd pmnmd cdnmd ctnmd : Value} {odnmd annmd : Option Addr} {slnmd : Array (Option Value)} {gnmd : Addr}
    {ocbnd kVbnd dcbnd pmbnd cdbnd ctbnd : Value} {odbnd anbnd : Option Addr} {slbnd : Array (Option Value)} {gbnd : Addr}
    {octxt kVtxt dctxt pmtxt cdtxt cttxt : Value} {odtxt antxt : Option Addr} {sltxt : Array (Option Value)} {gtxt : Addr}
    {oclin kVlin dclin pmlin cdlin ctlin : Value} {odlin anlin : Option Addr} {sllin : Array (Option Value)} {glin : Addr}
    {ocdip kVdip dcdip pmdip cddip ctdip : Value} {oddip andip : Option Addr} {sldip : Array (Option Value)} {gdip : Addr}
    {ocone kVone dcone pmone cdone ctone : Value} {odone anone : Option Addr} {slone : Array (Option Value)} {gone : Addr}
    {oclab kVlab dclab pmlab cdlab ctlab : Value} {odlab anlab : Option Addr} {sllab : Array (Option Value)} {glab : Addr}
    {oclsh kVlsh dclsh pmlsh cdlsh ctlsh : Value} {odlsh anlsh : Option Addr} {sllsh : Array (Option Value)} {glsh : Addr}
    {ocins kVins dcins pmins cdins ctins : Value} {odins anins : Option Addr} {slins : Array (Option Value)} {gins : Addr}
    {ocwor kVwor dcwor pmwor cdwor ctwor : Value} {odwor anwor : Option Addr} {slwor : Array (Option Value)} {gwor : Addr}
    {ocjar kVjar dcjar pmjar cdjar ctjar : Value} {odjar anjar : Option Addr} {sljar : Array (Option Value)} {gjar : Addr}
    {oclct kVlct dclct pmlct cdlct ctlct : Value} {odlct anlct : Option Addr} {sllct : Array (Option Value)} {glct : Addr}
    {oclnm kVlnm dclnm pmlnm cdlnm ctlnm : Value} {odlnm anlnm : Option Addr} {sllnm : Array (Option Value)} {glnm : Addr}
    {oclbd kVlbd dclbd pmlbd cdlbd ctlbd : Value} {odlbd anlbd : Option Addr} {sllbd : Array (Option Value)} {glbd : Addr}
    {ocfit kVfit dcfit pmfit cdfit ctfit : Value} {odfit anfit : Option Addr} {slfit : Array (Option Value)} {gfit : Addr}
    {ocdue kVdue dcdue pmdue cddue ctdue : Value} {oddue andue : Option Addr} {sldue : Array (Option Value)} {gdue : Addr}
    {ocmad kVmad dcmad pmmad cdmad ctmad : Value} {odmad anmad : Option Addr} {slmad : Array (Option Value)} {gmad : Addr}
    {ocodd kVodd dcodd pmodd cdodd ctodd : Value} {ododd anodd : Option Addr} {slodd : Array (Option Value)} {godd : Addr}
    {ocrig kVrig dcrig pmrig cdrig ctrig : Value} {odrig anrig : Option Addr} {slrig : Array (Option Value)} {grig : Addr}
    {oclaw kVlaw dclaw pmlaw cdlaw ctlaw : Value} {odlaw anlaw : Option Addr} {sllaw : Array (Option Value)} {glaw : Addr}
    {ocini kVini dcini pmini cdini ctini : Value} {odini anini : Option Addr} {slini : Array (Option Value)} {gini : Addr}
    {ocu0 dcu0 pmu0 cdu0 ctu0 : Value} {odu0 anu0 : Option Addr} {slu0 : Array (Option Value)} {fE0 : Addr}
    {ocu1 dcu1 pmu1 cdu1 ctu1 : Value} {odu1 anu1 : Option Addr} {slu1 : Array (Option Value)} {fE1 : Addr}
    {ocu2 dcu2 pmu2 cdu2 ctu2 : Value} {odu2 anu2 : Option Addr} {slu2 : Array (Option Value)} {fE2 : Addr}
    {ocu3 dcu3 pmu3 cdu3 ctu3 : Value} {odu3 anu3 : Option Addr} {slu3 : Array (Option Value)} {fE3 : Addr}
    (aint : PySem.W.nsIn K mainGlobals "is_integer" = some (some (.ref gint)))
    (lint : K.lookup gint = some ⟨ocint, odint, .func (PySem.W.fnOf "is_integer" "is_integer" (defArgs (top 4)) (defBody (top 4)) (defScope (top 4)) .none kVint dcint pmint anint cdint ctint), slint⟩)
    (dint : PySem.W.codeIn K cdint "is_integer" = true)
    (kint : PySem.W.keepIn K (.ref gint) = true)
    (anam : PySem.W.nsIn K mainGlobals "is_name" = some (some (.ref gnam)))
    (lnam : K.lookup gnam = some ⟨ocnam, odnam, .func (PySem.W.fnOf "is_name" "is_name" (defArgs (top 5)) (defBody (top 5)) (defScope (top 5)) .none kVnam dcnam pmnam annam cdnam ctnam), slnam⟩)
    (dnam : PySem.W.codeIn K cdnam "is_name" = true)
    (knam : PySem.W.keepIn K (.ref gnam) = true)
    (aby : PySem.W.nsIn K mainGlobals "_by_stuff" = some (some (.ref gby)))
    (lby : K.lookup gby = some ⟨ocby, odby, .func (PySem.W.fnOf "_by_stuff" "_by_stuff" (defArgs (top 25)) (defBody (top 25)) (defScope (top 25)) .none kVby dcby pmby anby cdby ctby), slby⟩)
    (dby : PySem.W.codeIn K cdby "_by_stuff" = true)
    (kby : PySem.W.keepIn K (.ref gby) = true)
    (achk : PySem.W.nsIn K mainGlobals "_check" = some (some (.ref gchk)))
    (lchk : K.lookup gchk = some ⟨occhk, odchk, .func (PySem.W.fnOf "_check" "_check" (defArgs (top 26)) (defBody (top 26)) (defScope (top 26)) .none kVchk dcchk pmchk anchk (.ref c1) ctchk), slchk⟩)
    (dchk : PySem.W.codeIn K (.ref c1) "_check" = true)
    (kchk : PySem.W.keepIn K (.ref gchk) = true)
    (afst : PySem.W.nsIn K mainGlobals "_first_wrong" = some (some (.ref gfst)))
    (lfst : K.lookup gfst = some ⟨ocfst, odfst, .func (PySem.W.fnOf "_first_wrong" "_first_wrong" (defArgs (top 27)) (defBody (top 27)) (defScope (top 27)) .none kVfst dcfst pmfst anfst cdfst ctfst), slfst⟩)
    (dfst : PySem.W.codeIn K cdfst "_first_wrong" = true)
    (kfst : PySem.W.keepIn K (.ref gfst) = true)
    (ashr : PySem.W.nsIn K mainGlobals "_has_shares" = some (some (.ref gshr)))
    (lshr : K.lookup gshr = some ⟨ocshr, odshr, .func (PySem.W.fnOf "_has_shares" "_has_shares" (defArgs (top 28)) (defBody (top 28)) (defScope (top 28)) .none kVshr dcshr pmshr anshr cdshr ctshr), slshr⟩)
    (dshr : PySem.W.codeIn K cdshr "_has_shares" = true)
    (kshr : PySem.W.keepIn K (.ref gshr) = true)
    (alim : PySem.W.nsIn K mainGlobals "_has_limit" = some (some (.ref glim)))
    (llim : K.lookup glim = some ⟨oclim, odlim, .func (PySem.W.fnOf "_has_limit" "_has_limit" (defArgs (top 29)) (defBody (top 29)) (defScope (top 29)) .none kVlim dclim pmlim anlim cdlim ctlim), sllim⟩)
    (dlim : PySem.W.codeIn K cdlim "_has_limit" = true)
    (klim : PySem.W.keepIn K (.ref glim) = true)
    (acon : PySem.W.nsIn K mainGlobals "_has_contents" = some (some (.ref gcon)))
    (lcon : K.lookup gcon = some ⟨occon, odcon, .func (PySem.W.fnOf "_has_contents" "_has_contents" (defArgs (top 30)) (defBody (top 30)) (defScope (top 30)) .none kVcon dccon pmcon ancon cdcon ctcon), slcon⟩)
    (dcon : PySem.W.codeIn K cdcon "_has_contents" = true)
    (kcon : PySem.W.keepIn K (.ref gcon) = true)
    (anmd : PySem.W.nsIn K mainGlobals "_is_named" = some (some (.ref gnmd)))
    (lnmd : K.lookup gnmd = some ⟨ocnmd, odnmd, .func (PySem.W.fnOf "_is_named" "_is_named" (defArgs (top 31)) (defBody (top 31)) (defScope (top 31)) .none kVnmd dcnmd pmnmd annmd cdnmd ctnmd), slnmd⟩)
    (dnmd : PySem.W.codeIn K cdnmd "_is_named" = true)
    (knmd : PySem.W.keepIn K (.ref gnmd) = true)
    (abnd : PySem.W.nsIn K mainGlobals "_are_bounds" = some (some (.ref gbnd)))
    (lbnd : K.lookup gbnd = some ⟨ocbnd, odbnd, .func (PySem.W.fnOf "_are_bounds" "_are_bounds" (defArgs (top 32)) (defBody (top 32)) (defScope (top 32)) .none kVbnd dcbnd pmbnd anbnd cdbnd ctbnd), slbnd⟩)
    (dbnd : PySem.W.codeIn K cdbnd "_are_bounds" = true)
    (kbnd : PySem.W.keepIn K (.ref gbnd) = true)
    (atxt : PySem.W.nsIn K mainGlobals "_text_of" = some (some (.ref gtxt)))
    (ltxt : K.lookup gtxt = some ⟨octxt, odtxt, .func (PySem.W.fnOf "_text_of" "_text_of" (defArgs (top 33)) (defBody (top 33)) (defScope (top 33)) .none kVtxt dctxt pmtxt antxt cdtxt cttxt), sltxt⟩)
    (dtxt : PySem.W.codeIn K cdtxt "_text_of" = true)
    (ktxt : PySem.W.keepIn K (.ref gtxt) = true)
    (alin : PySem.W.nsIn K mainGlobals "_product_line" = some (some (.ref glin)))
    (llin : K.lookup glin = some ⟨oclin, odlin, .func (PySem.W.fnOf "_product_line" "_product_line" (defArgs (top 34)) (defBody (top 34)) (defScope (top 34)) .none kVlin dclin pmlin anlin cdlin ctlin), sllin⟩)
    (dlin : PySem.W.codeIn K cdlin "_product_line" = true)
    (klin : PySem.W.keepIn K (.ref glin) = true)
    (adip : PySem.W.nsIn K mainGlobals "_law_dip" = some (some (.ref gdip)))
    (ldip : K.lookup gdip = some ⟨ocdip, oddip, .func (PySem.W.fnOf "_law_dip" "_law_dip" (defArgs (top 39)) (defBody (top 39)) (defScope (top 39)) .none kVdip dcdip pmdip andip cddip ctdip), sldip⟩)
    (ddip : PySem.W.codeIn K cddip "_law_dip" = true)
    (kdip : PySem.W.keepIn K (.ref gdip) = true)
    (aone : PySem.W.nsIn K mainGlobals "_law_one_of" = some (some (.ref gone)))
    (lone : K.lookup gone = some ⟨ocone, odone, .func (PySem.W.fnOf "_law_one_of" "_law_one_of" (defArgs (top 40)) (defBody (top 40)) (defScope (top 40)) .none kVone dcone pmone anone cdone ctone), slone⟩)
    (done : PySem.W.codeIn K cdone "_law_one_of" = true)
    (kone : PySem.W.keepIn K (.ref gone) = true)
    (alab : PySem.W.nsIn K mainGlobals "_law_labels" = some (some (.ref glab)))
    (llab : K.lookup glab = some ⟨oclab, odlab, .func (PySem.W.fnOf "_law_labels" "_law_labels" (defArgs (top 41)) (defBody (top 41)) (defScope (top 41)) .none kVlab dclab pmlab anlab cdlab ctlab), sllab⟩)
    (dlab : PySem.W.codeIn K cdlab "_law_labels" = true)
    (klab : PySem.W.keepIn K (.ref glab) = true)
    (alsh : PySem.W.nsIn K mainGlobals "_law_shares" = some (some (.ref glsh)))
    (llsh : K.lookup glsh = some ⟨oclsh, odlsh, .func (PySem.W.fnOf "_law_shares" "_law_shares" (defArgs (top 42)) (defBody (top 42)) (defScope (top 42)) .none kVlsh dclsh pmlsh anlsh cdlsh ctlsh), sllsh⟩)
    (dlsh : PySem.W.codeIn K cdlsh "_law_shares" = true)
    (klsh : PySem.W.keepIn K (.ref glsh) = true)
    (ains : PySem.W.nsIn K mainGlobals "_law_inside" = some (some (.ref gins)))
    (lins : K.lookup gins = some ⟨ocins, odins, .func (PySem.W.fnOf "_law_inside" "_law_inside" (defArgs (top 43)) (defBody (top 43)) (defScope (top 43)) .none kVins dcins pmins anins cdins ctins), slins⟩)
    (dins : PySem.W.codeIn K cdins "_law_inside" = true)
    (kins : PySem.W.keepIn K (.ref gins) = true)
    (awor : PySem.W.nsIn K mainGlobals "_law_world" = some (some (.ref gwor)))
    (lwor : K.lookup gwor = some ⟨ocwor, odwor, .func (PySem.W.fnOf "_law_world" "_law_world" (defArgs (top 44)) (defBody (top 44)) (defScope (top 44)) .none kVwor dcwor pmwor anwor cdwor ctwor), slwor⟩)
    (dwor : PySem.W.codeIn K cdwor "_law_world" = true)
    (kwor : PySem.W.keepIn K (.ref gwor) = true)
    (ajar : PySem.W.nsIn K mainGlobals "_law_jar" = some (some (.ref gjar)))
    (ljar : K.lookup gjar = some ⟨ocjar, odjar, .func (PySem.W.fnOf "_law_jar" "_law_jar" (defArgs (top 45)) (defBody (top 45)) (defScope (top 45)) .none kVjar dcjar pmjar anjar cdjar ctjar), sljar⟩)
    (djar : PySem.W.codeIn K cdjar "_law_jar" = true)
    (kjar : PySem.W.keepIn K (.ref gjar) = true)
    (alct : PySem.W.nsIn K mainGlobals "_law_is_count" = some (some (.ref glct)))
    (llct : K.lookup glct = some ⟨oclct, odlct, .func (PySem.W.fnOf "_law_is_count" "_law_is_count" (defArgs (top 46)) (defBody (top 46)) (defScope (top 46)) .none kVlct dclct pmlct anlct cdlct ctlct), sllct⟩)
    (dlct : PySem.W.codeIn K cdlct "_law_is_count" = true)
    (klct : PySem.W.keepIn K (.ref glct) = true)
    (alnm : PySem.W.nsIn K mainGlobals "_law_is_name" = some (some (.ref glnm)))
    (llnm : K.lookup glnm = some ⟨oclnm, odlnm, .func (PySem.W.fnOf "_law_is_name" "_law_is_name" (defArgs (top 47)) (defBody (top 47)) (defScope (top 47)) .none kVlnm dclnm pmlnm anlnm cdlnm ctlnm), sllnm⟩)
    (dlnm : PySem.W.codeIn K cdlnm "_law_is_name" = true)
    (klnm : PySem.W.keepIn K (.ref glnm) = true)
    (albd : PySem.W.nsIn K mainGlobals "_law_are_bounds" = some (some (.ref glbd)))
    (llbd : K.lookup glbd = some ⟨oclbd, odlbd, .func (PySem.W.fnOf "_law_are_bounds" "_law_are_bounds" (defArgs (top 48)) (defBody (top 48)) (defScope (top 48)) .none kVlbd dclbd pmlbd anlbd cdlbd ctlbd), sllbd⟩)
    (dlbd : PySem.W.codeIn K cdlbd "_law_are_bounds" = true)
    (klbd : PySem.W.keepIn K (.ref glbd) = true)
    (afit : PySem.W.nsIn K mainGlobals "_law_fits" = some (some (.ref gfit)))
    (lfit : K.lookup gfit = some ⟨ocfit, odfit, .func (PySem.W.fnOf "_law_fits" "_law_fits" (defArgs (top 49)) (defBody (top 49)) (defScope (top 49)) .none kVfit dcfit pmfit anfit cdfit ctfit), slfit⟩)
    (dfit : PySem.W.codeIn K cdfit "_law_fits" = true)
    (kfit : PySem.W.keepIn K (.ref gfit) = true)
    (adue : PySem.W.nsIn K mainGlobals "_law_due" = some (some (.ref gdue)))
    (ldue : K.lookup gdue = some ⟨ocdue, oddue, .func (PySem.W.fnOf "_law_due" "_law_due" (defArgs (top 50)) (defBody (top 50)) (defScope (top 50)) .none kVdue dcdue pmdue andue cddue ctdue), sldue⟩)
    (ddue : PySem.W.codeIn K cddue "_law_due" = true)
    (kdue : PySem.W.keepIn K (.ref gdue) = true)
    (amad : PySem.W.nsIn K mainGlobals "_law_made" = some (some (.ref gmad)))
    (lmad : K.lookup gmad = some ⟨ocmad, odmad, .func (PySem.W.fnOf "_law_made" "_law_made" (defArgs (top 51)) (defBody (top 51)) (defScope (top 51)) .none kVmad dcmad pmmad anmad cdmad ctmad), slmad⟩)
    (dmad : PySem.W.codeIn K cdmad "_law_made" = true)
    (kmad : PySem.W.keepIn K (.ref gmad) = true)
    (aodd : PySem.W.nsIn K mainGlobals "_law_odd" = some (some (.ref godd)))
    (lodd : K.lookup godd = some ⟨ocodd, ododd, .func (PySem.W.fnOf "_law_odd" "_law_odd" (defArgs (top 52)) (defBody (top 52)) (defScope (top 52)) .none kVodd dcodd pmodd anodd cdodd ctodd), slodd⟩)
    (dodd : PySem.W.codeIn K cdodd "_law_odd" = true)
    (kodd : PySem.W.keepIn K (.ref godd) = true)
    (arig : PySem.W.nsIn K mainGlobals "_law_right" = some (some (.ref grig)))
    (lrig : K.lookup grig = some ⟨ocrig, odrig, .func (PySem.W.fnOf "_law_right" "_law_right" (defArgs (top 53)) (defBody (top 53)) (defScope (top 53)) .none kVrig dcrig pmrig anrig cdrig ctrig), slrig⟩)
    (drig : PySem.W.codeIn K cdrig "_law_right" = true)
    (krig : PySem.W.keepIn K (.ref grig) = true)
    (alaw : PySem.W.nsIn K mainGlobals "law" = some (some (.ref glaw)))
    (llaw : K.lookup glaw = some ⟨oclaw, odlaw, .func (PySem.W.fnOf "law" "law" (defArgs (top 54)) (defBody (top 54)) (defScope (top 54)) .none kVlaw dclaw pmlaw anlaw cdlaw ctlaw), sllaw⟩)
    (dlaw : PySem.W.codeIn K cdlaw "law" = true)
    (klaw : PySem.W.keepIn K (.ref glaw) = true)
    (aW : PySem.W.nsIn K mainGlobals "Works" = some (some (.ref C)))
    (aini : PySem.W.findIn K (.ref C) "__init__" = some (some (.ref gini)))
    (lini : K.lookup gini = some ⟨ocini, odini, .func (PySem.W.fnOf "__init__" "Works.__init__" (defArgs (meth 0)) (defBody (meth 0)) (defScope (meth 0)) .none kVini dcini pmini anini cdini ctini), slini⟩)
    (dini : PySem.W.codeIn K cdini "Works.__init__" = true)
    (kini : PySem.W.keepIn K (.ref gini) = true)
    (aE0 : PySem.W.nsIn K mainGlobals "InvalidMachines" = some (some (.ref C0)))
    (iE0 : PySem.W.findIn K (.ref C0) "__init__" = some (some (.ref fE0)))
    (lE0 : K.lookup fE0 = some ⟨ocu0, odu0, .func (PySem.W.fnOf "__init__" "InvalidMachines.__init__" (defArgs (inClass (top 10) 0)) (defBody (inClass (top 10) 0)) (defScope (inClass (top 10) 0)) .none .none dcu0 pmu0 anu0 cdu0 ctu0), slu0⟩)
    (dE0 : PySem.W.codeIn K cdu0 "InvalidMachines.__init__" = true)
    (aE1 : PySem.W.nsIn K mainGlobals "InvalidCleanings" = some (some (.ref C1)))
    (iE1 : PySem.W.findIn K (.ref C1) "__init__" = some (some (.ref fE1)))
    (lE1 : K.lookup fE1 = some ⟨ocu1, odu1, .func (PySem.W.fnOf "__init__" "InvalidCleanings.__init__" (defArgs (inClass (top 11) 0)) (defBody (inClass (top 11) 0)) (defScope (inClass (top 11) 0)) .none .none dcu1 pmu1 anu1 cdu1 ctu1), slu1⟩)
    (dE1 : PySem.W.codeIn K cdu1 "InvalidCleanings.__init__" = true)
    (aE2 : PySem.W.nsIn K mainGlobals "InvalidStuffs" = some (some (.ref C2)))
    (iE2 : PySem.W.findIn K (.ref C2) "__init__" = some (some (.ref fE2)))
    (lE2 : K.lookup fE2 = some ⟨ocu2, odu2, .func (PySem.W.fnOf "__init__" "InvalidStuffs.__init__" (defArgs (inClass (top 12) 0)) (defBody (inClass (top 12) 0)) (defScope (inClass (top 12) 0)) .none .none dcu2 pmu2 anu2 cdu2 ctu2), slu2⟩)
    (dE2 : PySem.W.codeIn K cdu2 "InvalidStuffs.__init__" = true)
    (aE3 : PySem.W.nsIn K mainGlobals "InvalidProducts" = some (some (.ref C3)))
    (iE3 : PySem.W.findIn K (.ref C3) "__init__" = some (some (.ref fE3)))
    (lE3 : K.lookup fE3 = some ⟨ocu3, odu3, .func (PySem.W.fnOf "__init__" "InvalidProducts.__init__" (defArgs (inClass (top 13) 0)) (defBody (inClass (top 13) 0)) (defScope (inClass (top 13) 0)) .none .none dcu3 pmu3 anu3 cdu3 ctu3), slu3⟩)
    (dE3 : PySem.W.codeIn K cdu3 "InvalidProducts.__init__" = true)
    (outL : outLook K = true)
    (cL : cLook K = true)
    (wL : wLook K C gini [] = true)
    (tL : tLook K [(c1, P1)] = true)
    (fL : fLook K C0 C1 C2 C3 = true)
    (eL0 : eLook K C0 fE0 = true)
    (eL1 : eLook K C1 fE1 = true)
    (eL2 : eLook K C2 fE2 = true)
    (eL3 : eLook K C3 fE3 = true)
    (inT : P1 ∈ ts) : EndsAt l w K 11 63 "_law_cells" mg fa h := by
  have e := hfa.symm.trans (PySem.W.mg_of X G alaw)
  cases e

  have out := outLook_of X G outL
  unfold cLook at cL
  unfold wLook at wL
  unfold tLook at tL
  simp only [Bool.and_eq_true, decide_eq_true_eq, List.all_cons, List.all_nil, Bool.and_true, Option.isNone_iff_eq_none] at cL wL tL
  obtain ⟨⟨⟨⟨⟨⟨z0, z1⟩, z2⟩, z3⟩, z4⟩, z5⟩, z6⟩ := cL
  obtain ⟨v0, m0, r0⟩ := intLook_of X G z0
  obtain ⟨v1, m1, r1⟩ := intLook_of X G z1
  obtain ⟨v2, m2, r2⟩ := intLook_of X G z2
  obtain ⟨v3, m3, r3⟩ := intLook_of X G z3
  obtain ⟨v4, m4, r4⟩ := intLook_of X G z4
  obtain ⟨v5, m5, r5⟩ := intLook_of X G z5
  obtain ⟨v6, m6, r6⟩ := intLook_of X G z6
  obtain ⟨⟨⟨⟨⟨⟨⟨w1, w2⟩, w3⟩, w4⟩, w5⟩, w6⟩, w7⟩, w8⟩ := wL
  have nf : ∀ f ∈ fields, PySem.W.findIn K (.ref C) f = some none := fun f hf => of_decide_eq_true (List.all_eq_true.mp w5 f hf)
  have WC : WCls K C := ⟨⟨w1, w2, w3, w4⟩, nf _ (by decide), nf _ (by decide), nf _ (by decide), nf _ (by decide), nf _ (by decide), nf _ (by decide), nf _ (by decide), nf _ (by decide), nf _ (by decide)⟩
  have MK : Mk K C gini := ⟨w6, aini, w7, w8⟩
  obtain ⟨t1, t2⟩ := tL
  have E0 : Er1 K mg "InvalidMachines" C0 := eLook_of eL0 (PySem.W.mg_of X G aE0) ⟨_, _, _, _, _, _, _, _, _, _, _, _, _, _, _, lE0, dE0⟩
  have E1 : Er1 K mg "InvalidCleanings" C1 := eLook_of eL1 (PySem.W.mg_of X G aE1) ⟨_, _, _, _, _, _, _, _, _, _, _, _, _, _, _, lE1, dE1⟩
  have E2 : Er1 K mg "InvalidStuffs" C2 := eLook_of eL2 (PySem.W.mg_of X G aE2) ⟨_, _, _, _, _, _, _, _, _, _, _, _, _, _, _, lE2, dE2⟩
  have E3 : Er1 K mg "InvalidProducts" C3 := eLook_of eL3 (PySem.W.mg_of X G aE3) ⟨_, _, _, _, _, _, _, _, _, _, _, _, _, _, _, lE3, dE3⟩
  have X4 : Four K (ceOf C0 C1 C2 C3) := ⟨fun k j hk hj => of_decide_eq_true (List.all_eq_true.mp (List.all_eq_true.mp fL k (List.mem_range.mpr hk)) j (List.mem_range.mpr hj))⟩
  have BI : BltI mg := ⟨out _ (by decide), out _ (by decide), out _ (by decide), out _ (by decide), out _ (by decide), out _ (by decide), out _ (by decide), out _ (by decide)⟩
  have Bl : Blt mg := ⟨out _ (by decide), out _ (by decide), out _ (by decide), out _ (by decide)⟩
  have BD : BltD mg := ⟨out _ (by decide), out _ (by decide)⟩
  have BL : BltL mg := ⟨out _ (by decide), out _ (by decide)⟩
  have BW : BltW mg := ⟨out _ (by decide), out _ (by decide)⟩
  have BZ : BltZ mg := ⟨out _ (by decide)⟩
  have BE : BltE mg := ⟨out _ (by decide)⟩
  have BO : BltO mg := ⟨out _ (by decide), out _ (by decide), out _ (by decide), out _ (by decide)⟩
  have BR : BltR mg := ⟨out _ (by decide), out _ (by decide), out _ (by decide), out _ (by decide), out _ (by decide), out _ (by decide)⟩
  have BM : BltM mg := ⟨out _ (by decide), out _ (by decide), out _ (by decide), out _ (by decide), out _ (by decide)⟩
  have hT : mg "tuple" = none := out _ (by decide)

  have Fint := fun_mk (st := top 4) lint dint kint
  have bInt := Fint.binds (ps := ["value"]) fun _ _ _ _ _ _ us hl => match us, hl with | [_], _ => rfl
  have nint := PySem.W.mg_of X G aint
  have Fnam := fun_mk (st := top 5) lnam dnam knam
  have bnam := Fnam.binds (ps := ["value"]) fun _ _ _ _ _ _ us hl => match us, hl with | [_], _ => rfl
  have nnam := PySem.W.mg_of X G anam
  have Fby := fun_mk (st := top 25) lby dby kby
  have bby := Fby.binds (ps := ["stuffs", "contents"]) fun _ _ _ _ _ _ us hl => match us, hl with | [_, _], _ => rfl
  have nby := PySem.W.mg_of X G aby
  have Fchk := fun_mk (st := top 26) lchk dchk kchk
  have bchk := Fchk.binds (ps := ["machines", "cleanings", "stuffs", "products"]) fun _ _ _ _ _ _ us hl => match us, hl with | [_, _, _, _], _ => rfl
  have nchk := PySem.W.mg_of X G achk
  have Ffst := fun_mk (st := top 27) lfst dfst kfst
  have bfst := Ffst.binds (ps := ["rows", "earlier", "fewest", "most", "is_right"]) fun _ _ _ _ _ _ us hl => match us, hl with | [_, _, _, _, _], _ => rfl
  have nfst := PySem.W.mg_of X G afst
  have Fshr := fun_mk (st := top 28) lshr dshr kshr
  have bshr := Fshr.binds (ps := ["row"]) fun _ _ _ _ _ _ us hl => match us, hl with | [_], _ => rfl
  have nshr := PySem.W.mg_of X G ashr
  have Flim := fun_mk (st := top 29) llim dlim klim
  have blim := Flim.binds (ps := ["row"]) fun _ _ _ _ _ _ us hl => match us, hl with | [_], _ => rfl
  have nlim := PySem.W.mg_of X G alim
  have Fcon := fun_mk (st := top 30) lcon dcon kcon
  have bcon := Fcon.binds (ps := ["row", "many"]) fun _ _ _ _ _ _ us hl => match us, hl with | [_, _], _ => rfl
  have ncon := PySem.W.mg_of X G acon
  have Fnmd := fun_mk (st := top 31) lnmd dnmd knmd
  have bnmd := Fnmd.binds (ps := ["row", "length"]) fun _ _ _ _ _ _ us hl => match us, hl with | [_, _], _ => rfl
  have nnmd := PySem.W.mg_of X G anmd
  have Fbnd := fun_mk (st := top 32) lbnd dbnd kbnd
  have bbnd := Fbnd.binds (ps := ["pair", "most"]) fun _ _ _ _ _ _ us hl => match us, hl with | [_, _], _ => rfl
  have nbnd := PySem.W.mg_of X G abnd
  have Ftxt := fun_mk (st := top 33) ltxt dtxt ktxt
  have btxt := Ftxt.binds (ps := ["machines", "cleanings", "stuffs", "products"]) fun _ _ _ _ _ _ us hl => match us, hl with | [_, _, _, _], _ => rfl
  have ntxt := PySem.W.mg_of X G atxt
  have Flin := fun_mk (st := top 34) llin dlin klin
  have blin := Flin.binds (ps := ["name", "contents"]) fun _ _ _ _ _ _ us hl => match us, hl with | [_, _], _ => rfl
  have nlin := PySem.W.mg_of X G alin
  have Fdip := fun_mk (st := top 39) ldip ddip kdip
  have bdip := Fdip.binds (ps := ["_law_jar_here", "_law_top"]) fun _ _ _ _ _ _ us hl => match us, hl with | [_, _], _ => rfl
  have ndip := PySem.W.mg_of X G adip
  have Fone := fun_mk (st := top 40) lone done kone
  have bone := Fone.binds (ps := ["_law_jar_here", "_law_some"]) fun _ _ _ _ _ _ us hl => match us, hl with | [_, _], _ => rfl
  have nOne := PySem.W.mg_of X G aone
  have Flab := fun_mk (st := top 41) llab dlab klab
  have blab := Flab.binds (ps := ["_law_jar_here"]) fun _ _ _ _ _ _ us hl => match us, hl with | [_], _ => rfl
  have nlab := PySem.W.mg_of X G alab
  have Flsh := fun_mk (st := top 42) llsh dlsh klsh
  have blsh := Flsh.binds (ps := ["_law_jar_here"]) fun _ _ _ _ _ _ us hl => match us, hl with | [_], _ => rfl
  have nlsh := PySem.W.mg_of X G alsh
  have Fins := fun_mk (st := top 43) lins dins kins
  have bins := Fins.binds (ps := ["_law_jar_here"]) fun _ _ _ _ _ _ us hl => match us, hl with | [_], _ => rfl
  have nins := PySem.W.mg_of X G ains
  have Fwor := fun_mk (st := top 44) lwor dwor kwor
  have bwor := Fwor.binds (ps := ["_law_jar_here", "_law_most"]) fun _ _ _ _ _ _ us hl => match us, hl with | [_, _], _ => rfl
  have nwor := PySem.W.mg_of X G awor
  have Fjar := fun_mk (st := top 45) ljar djar kjar
  have bjar := Fjar.binds (ps := ["_law_cells", "_law_turn"]) fun _ _ _ _ _ _ us hl => match us, hl with | [_, _], _ => rfl
  have njar := PySem.W.mg_of X G ajar
  have Flct := fun_mk (st := top 46) llct dlct klct
  have blct := Flct.binds (ps := ["_law_thing", "_law_most"]) fun _ _ _ _ _ _ us hl => match us, hl with | [_, _], _ => rfl
  have nlct := PySem.W.mg_of X G alct
  have Flnm := fun_mk (st := top 47) llnm dlnm klnm
  have blnm := Flnm.binds (ps := ["_law_thing"]) fun _ _ _ _ _ _ us hl => match us, hl with | [_], _ => rfl
  have nlnm := PySem.W.mg_of X G alnm
  have Flbd := fun_mk (st := top 48) llbd dlbd klbd
  have blbd := Flbd.binds (ps := ["_law_low", "_law_high", "_law_most"]) fun _ _ _ _ _ _ us hl => match us, hl with | [_, _, _], _ => rfl
  have nlbd := PySem.W.mg_of X G albd
  have Ffit := fun_mk (st := top 49) lfit dfit kfit
  have bfit := Ffit.binds (ps := ["_law_kind", "_law_thing", "_law_many"]) fun _ _ _ _ _ _ us hl => match us, hl with | [_, _, _], _ => rfl
  have nfit := PySem.W.mg_of X G afit
  have Fdue := fun_mk (st := top 50) ldue ddue kdue
  have bdue := Fdue.binds (ps := ["_law_parts"]) fun _ _ _ _ _ _ us hl => match us, hl with | [_], _ => rfl
  have ndue := PySem.W.mg_of X G adue
  have Fmad := fun_mk (st := top 51) lmad dmad kmad
  have bmad := Fmad.binds (ps := ["_law_parts", "_law_named"]) fun _ _ _ _ _ _ us hl => match us, hl with | [_, _], _ => rfl
  have nmad := PySem.W.mg_of X G amad
  have Fodd := fun_mk (st := top 52) lodd dodd kodd
  have bodd := Fodd.binds (ps := ["_law_jar_here", "_law_thing", "_law_labels_here"]) fun _ _ _ _ _ _ us hl => match us, hl with | [_, _, _], _ => rfl
  have nodd := PySem.W.mg_of X G aodd
  have Frig := fun_mk (st := top 53) lrig drig krig
  have brig := Frig.binds (ps := ["_law_jar_here"]) fun _ _ _ _ _ _ us hl => match us, hl with | [_], _ => rfl
  have nrig := PySem.W.mg_of X G arig
  have Flaw := fun_mk (st := top 54) llaw dlaw klaw
  have Fini := fun_mk (st := meth 0) lini dini kini
  have bini := Fini.binds (ps := ["self", "machines", "cleanings", "stuffs", "products"]) fun _ _ _ _ _ _ us hl => match us, hl with | [_, _, _, _, _], _ => rfl
  have nW := PySem.W.mg_of X G aW
  have kbC : KBn K (PySem.W.fnOf "__init__" "Works.__init__" (defArgs (meth 0)) (defBody (meth 0)) (defScope (meth 0)) .none kVini dcini pmini anini cdini ctini) ["self", "machines", "cleanings", "stuffs", "products"] 1 ["products", "stuffs", "cleanings", "machines"] (fun us ws => us ++ ws.reverse) (fun vs zs => vs ++ zs.reverse) :=
    ⟨fun s us ws X l1 l2 => match us, l1, ws, l2 with | [_], _, [_, _, _, _], _ => .of_eq rfl, fun r1 r2 => r1.append (by
      have rev : ∀ {vs : List V} {us : List Value}, Vals vs us → Vals vs.reverse us.reverse := by
        intro vs us r
        induction r with
        | nil => exact .nil
        | cons h t ih =>
          rw [List.reverse_cons, List.reverse_cons]
          exact ih.append (.cons h .nil)
      exact rev r2)⟩
  let T : List NTab := [(P1, lamName)]
  have only1 : ∀ r ∈ T, r.1 = P1 → r.2 = lamName := fun r hr e => by
    obtain rfl := List.mem_singleton.mp hr
    rfl
  have E : Empty K h [(c1, P1)] := by
    constructor
    · intro q hq
      obtain rfl := List.mem_singleton.mp hq
      exact TS _ inT
    · intro q hq
      obtain rfl := List.mem_singleton.mp hq
      exact t2
    · intro q hq
      obtain rfl := List.mem_singleton.mp hq
      exact PySem.W.codeHd_of_K X t1
  refine ⟨PySem.W.fnOf "law" "law" (defArgs (top 54)) (defBody (top 54)) (defScope (top 54)) .none kVlaw dclaw pmlaw anlaw cdlaw ctlaw, [(c1, P1)], spLaw T K, E, fun s v => .of_eq rfl, fun H a ns hl ht hS => ⟨a, ns, rfl, hS, hl, fun r hr => ?_, fun _ => rfl⟩, fun base XB GB TB => ?_⟩
  · obtain rfl := List.mem_singleton.mp hr
    exact ⟨#[], ht (c1, P1) (List.mem_cons_self ..), trivial, fun pos v hv => nomatch hv⟩
  · have TB1 := TB (c1, P1) (List.mem_cons_self ..)
    have GI := ok_int (P := l.prog) (w := w) (base := base) (mg := mg) Fint BI
    have GN := ok_name (P := l.prog) (w := w) (base := base) (mg := mg) Fnam BI m0 r0
    have GNd := ok_named (P := l.prog) (w := w) (base := base) (mg := mg) Fnmd BI GN nnam knam bnam
    have GB := ok_bnds (P := l.prog) (w := w) (base := base) (mg := mg) Fbnd BI GI nint kint bInt
    have GS := ok_shar (P := l.prog) (w := w) (base := base) (mg := mg) Fshr GNd nnmd knmd bnmd GB nbnd kbnd bbnd m5 r5
    have GL := ok_lim (P := l.prog) (w := w) (base := base) (mg := mg) Flim GNd nnmd knmd bnmd GI nint kint bInt m6 r6
    have GC := ok_cont (P := l.prog) (w := w) (base := base) (mg := mg) Fcon BI GNd nnmd knmd bnmd GB nbnd kbnd bbnd m6 r6
    have GF := ok_first (P := l.prog) (w := w) (base := base) (mg := mg) Ffst BI GS kshr bshr GL klim blim
    have GK := ok_check4 (P := l.prog) (w := w) (base := base) (mg := mg) (ce := ceOf C0 C1 C2 C3) (T := T) Fchk rfl TB1 (List.mem_cons_self ..) only1 BI E0 E1 E2 E3 Ffst GF nfst kfst bfst GC ncon kcon bcon nshr nlim m1 r1 m2 r2 m3 r3 m4 r4
    have GBy := ok_by (P := l.prog) (w := w) (base := base) (mg := mg) Fby BZ
    have GLi := ok_line (P := l.prog) (w := w) (base := base) (mg := mg) Flin
    have GT := ok_text (P := l.prog) (w := w) (base := base) (mg := mg) Ftxt GLi nlin klin blin
    have GIn := ok_init4 (ce := ceOf C0 C1 C2 C3) (P := l.prog) (w := w) (base := base) (mg := mg) Fini WC GK nchk kchk bchk GBy nby kby bby GT ntxt ktxt btxt
    have GD := ok_dip (P := l.prog) (w := w) (base := base) (mg := mg) Fdip Bl
    have GO := ok_one (P := l.prog) (w := w) (base := base) (mg := mg) Fone Bl Fdip bdip ndip
    have GLb := ok_labels (P := l.prog) (w := w) (base := base) (mg := mg) Flab BL GD ndip kdip bdip GO nOne kone bone
    have GSh := ok_shares (P := l.prog) (w := w) (base := base) (mg := mg) Flsh BD GD ndip kdip bdip GO nOne kone bone
    have GNs := ok_inside (P := l.prog) (w := w) (base := base) (mg := mg) Fins BD GD ndip kdip bdip GO nOne kone bone
    have GW := ok_world (P := l.prog) (w := w) (base := base) (mg := mg) Fwor BW GD ndip kdip bdip GO nOne kone bone GLb nlab klab blab GSh nlsh klsh blsh GNs nins kins bins
    have GJ := ok_jar (P := l.prog) (w := w) (base := base) (mg := mg) Fjar Bl
    have GLc := ok_lcnt (P := l.prog) (w := w) (base := base) (mg := mg) Flct BI
    have GLn := ok_lnm (P := l.prog) (w := w) (base := base) (mg := mg) Flnm BI
    have GLd := ok_lbd (P := l.prog) (w := w) (base := base) (mg := mg) Flbd GLc nlct klct blct
    have GFi := ok_fits (P := l.prog) (w := w) (base := base) (mg := mg) Ffit BI GLn nlnm klnm blnm GLc nlct klct blct GLd nlbd klbd blbd
    have GDu := ok_due4 (P := l.prog) (w := w) (base := base) (mg := mg) Fdue BI BE GFi nfit kfit bfit
    have GMa := ok_made (P := l.prog) (w := w) (base := base) (mg := mg) (ce := ceOf C0 C1 C2 C3) (T := T) Fmad MK nW GIn bini kbC E0 E1 E2 E3 X4
    have GOd := ok_odd (P := l.prog) (w := w) (base := base) (mg := mg) Fodd BO GD ndip kdip bdip GO nOne kone bone
    have R : Rt l.prog w K mg base T := ⟨BR, ⟨_, _, GD, ndip, kdip, bdip⟩, ⟨_, _, GO, nOne, kone, bone⟩, ⟨_, _, GW, nwor, kwor, bwor⟩, ⟨_, _, GOd, nodd, kodd, bodd⟩, ⟨_, _, GDu, ndue, kdue, bdue⟩, ⟨_, _, GMa, nmad, kmad, bmad⟩⟩
    have GR := ok_right Frig R
    exact ok_law Flaw BM GR nrig krig brig GJ njar kjar bjar
end LJ
set_option Elab.async false
open PySem PySem.W PyProof.Rows
set_option maxRecDepth 100000 in
set_option maxHeartbeats 0 in
theorem PySem.Challenge.cw_tracebounds_k04_works_refused_holds : PySem.Challenge.rw_tracebounds_k04_works_refused.Holds := by
  w_on; o_law; k_head; (case hw => w_witness2)
  k_fill
  refine L2.walk_gt (l := PySem.Challenge.rw_tracebounds_k04_works_refused) (n := 63) (k := 11) (x := "_law_cells") rfl (by decide) rfl ⟨rfl, by decide, by decide⟩ ?F
  intro w mg fa h Y G hmg
  refine ⟨_, PySem.W.km_in_of Y, ?_⟩
  have TS := PySem.W.km_tabs_of Y
  refine' LJ.all_mk (P1 := 309) (PySem.W.km_in_of Y) G hmg TS ?aint ?lint ?dint ?kint ?anam ?lnam ?dnam ?knam ?aby ?lby ?dby ?kby ?achk ?lchk ?dchk ?kchk ?afst ?lfst ?dfst ?kfst ?ashr ?lshr ?dshr ?kshr ?alim ?llim ?dlim ?klim ?acon ?lcon ?dcon ?kcon ?anmd ?lnmd ?dnmd ?knmd ?abnd ?lbnd ?dbnd ?kbnd ?atxt ?ltxt ?dtxt ?ktxt ?alin ?llin ?dlin ?klin ?adip ?ldip ?ddip ?kdip ?aone ?lone ?done ?kone ?alab ?llab ?dlab ?klab ?alsh ?llsh ?dlsh ?klsh ?ains ?lins ?dins ?kins ?awor ?lwor ?dwor ?kwor ?ajar ?ljar ?djar ?kjar ?alct ?llct ?dlct ?klct ?alnm ?llnm ?dlnm ?klnm ?albd ?llbd ?dlbd ?klbd ?afit ?lfit ?dfit ?kfit ?adue ?ldue ?ddue ?kdue ?amad ?lmad ?dmad ?kmad ?aodd ?lodd ?dodd ?kodd ?arig ?lrig ?drig ?krig ?alaw ?llaw ?dlaw ?klaw ?aW ?aini ?lini ?dini ?kini ?aE0 ?iE0 ?lE0 ?dE0 ?aE1 ?iE1 ?lE1 ?dE1 ?aE2 ?iE2 ?lE2 ?dE2 ?aE3 ?iE3 ?lE3 ?dE3 ?outL ?cL ?wL ?tL ?fL ?eL0 ?eL1 ?eL2 ?eL3 ?inT
  (case aint => k_is)
  (case lint => k_is)
  (case dint => k_is)
  (case kint => k_is)
  (case anam => k_is)
  (case lnam => k_is)
  (case dnam => k_is)
  (case knam => k_is)
  (case aby => k_is)
  (case lby => k_is)
  (case dby => k_is)
  (case kby => k_is)
  (case achk => k_is)
  (case lchk => k_is)
  (case dchk => k_is)
  (case kchk => k_is)
  (case afst => k_is)
  (case lfst => k_is)
  (case dfst => k_is)
  (case kfst => k_is)
  (case ashr => k_is)
  (case lshr => k_is)
  (case dshr => k_is)
  (case kshr => k_is)
  (case alim => k_is)
  (case llim => k_is)
  (case dlim => k_is)
  (case klim => k_is)
  (case acon => k_is)
  (case lcon => k_is)
  (case dcon => k_is)
  (case kcon => k_is)
  (case anmd => k_is)
  (case lnmd => k_is)
  (case dnmd => k_is)
  (case knmd => k_is)
  (case abnd => k_is)
  (case lbnd => k_is)
  (case dbnd => k_is)
  (case kbnd => k_is)
  (case atxt => k_is)
  (case ltxt => k_is)
  (case dtxt => k_is)
  (case ktxt => k_is)
  (case alin => k_is)
  (case llin => k_is)
  (case dlin => k_is)
  (case klin => k_is)
  (case adip => k_is)
  (case ldip => k_is)
  (case ddip => k_is)
  (case kdip => k_is)
  (case aone => k_is)
  (case lone => k_is)
  (case done => k_is)
  (case kone => k_is)
  (case alab => k_is)
  (case llab => k_is)
  (case dlab => k_is)
  (case klab => k_is)
  (case alsh => k_is)
  (case llsh => k_is)
  (case dlsh => k_is)
  (case klsh => k_is)
  (case ains => k_is)
  (case lins => k_is)
  (case dins => k_is)
  (case kins => k_is)
  (case awor => k_is)
  (case lwor => k_is)
  (case dwor => k_is)
  (case kwor => k_is)
  (case ajar => k_is)
  (case ljar => k_is)
  (case djar => k_is)
  (case kjar => k_is)
  (case alct => k_is)
  (case llct => k_is)
  (case dlct => k_is)
  (case klct => k_is)
  (case alnm => k_is)
  (case llnm => k_is)
  (case dlnm => k_is)
  (case klnm => k_is)
  (case albd => k_is)
  (case llbd => k_is)
  (case dlbd => k_is)
  (case klbd => k_is)
  (case afit => k_is)
  (case lfit => k_is)
  (case dfit => k_is)
  (case kfit => k_is)
  (case adue => k_is)
  (case ldue => k_is)
  (case ddue => k_is)
  (case kdue => k_is)
  (case amad => k_is)
  (case lmad => k_is)
  (case dmad => k_is)
  (case kmad => k_is)
  (case aodd => k_is)
  (case lodd => k_is)
  (case dodd => k_is)
  (case kodd => k_is)
  (case arig => k_is)
  (case lrig => k_is)
  (case drig => k_is)
  (case krig => k_is)
  (case alaw => k_is)
  (case llaw => k_is)
  (case dlaw => k_is)
  (case klaw => k_is)
  (case aW => k_is)
  (case aini => k_is)
  (case lini => k_is)
  (case dini => k_is)
  (case kini => k_is)
  (case aE0 => k_is)
  (case iE0 => k_is)
  (case lE0 => k_is)
  (case dE0 => k_is)
  (case aE1 => k_is)
  (case iE1 => k_is)
  (case lE1 => k_is)
  (case dE1 => k_is)
  (case aE2 => k_is)
  (case iE2 => k_is)
  (case lE2 => k_is)
  (case dE2 => k_is)
  (case aE3 => k_is)
  (case iE3 => k_is)
  (case lE3 => k_is)
  (case dE3 => k_is)
  (case outL => kernel_rfl)
  (case cL => kernel_rfl)
  (case wL => kernel_rfl)
  (case tL => kernel_rfl)
  (case fL => kernel_rfl)
  (case eL0 => kernel_rfl)
  (case eL1 => kernel_rfl)
  (case eL2 => kernel_rfl)
  (case eL3 => kernel_rfl)
  (case inT => decide)
