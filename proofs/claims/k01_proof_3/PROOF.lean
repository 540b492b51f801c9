import PyProof.Rows.All
import Wide.All
import OpenK.AllK
import Wide.FinOn
import HandS.ForSpec
import HandS.ForMost
import HandS.ExcInit
import HandS.ExcValue
import HandS.ExcIs
import HandS.ExcField
import HandS.MakeKwOnly
import KE.KExcInit
import HandS.IsInst
import PyProof.ReprRoads
import HandS.Flow
import HandS.Walk
import PySem.Challenge.RW_tracebounds_k01_limits_and_errors
set_option Elab.async false
set_option linter.all false
set_option maxRecDepth 100000
set_option maxHeartbeats 4000000
/-! Errors of one's own, over any base, made by position or by name. -/
namespace PySem
namespace ErrV
open PySem.W PySem.Calls PyProof.Rows
open Builtin Builtin.ObjectAttr
/-- own classes in front, then the base's own row -/
def rowOver (B : List Value) : List Value → Bool
  | .ref _ :: r => rowOver B r
  | l => l == B
theorem rowOver_two (B l : List Value) (e : rowOver B l = true) :
    (∃ c r, l = .ref c :: r ∧ rowOver B r = true) ∨ l = B := by
  unfold rowOver at e
  split at e
  · exact .inl ⟨_, _, rfl, e⟩
  · exact .inr (beq_iff_eq.mp e)
/-- what is asked of the built-in base -/
structure BaseOk (B nw ini : String) (bm : List Value) : Prop where
  F : ExcBaseFacts B nw ini bm
  S : StoreFacts B bm "object.__setattr__" "object"
section
variable {B nw ini : String} {bm : List Value}
theorem rowOver_has (T : BaseOk B nw ini bm) (Y : String) :
    ∀ l : List Value, rowOver bm l = true → l.contains (.type Y) = bm.contains (.type Y) := by
  intro l
  induction l with
  | nil =>
    intro e
    rcases rowOver_two _ _ e with ⟨_, _, z, _⟩ | z
    · cases z
    · rw [z]
  | cons a r ih =>
    intro e
    rcases rowOver_two _ _ e with ⟨c, r1, z, h⟩ | z
    · obtain ⟨z1, z2⟩ := List.cons.inj z
      subst z1
      subst z2
      rw [List.contains_cons, ih h]
      rfl
    · rw [z]
theorem rowOver_lets (T : BaseOk B nw ini bm) (self : Value) :
    ∀ l : List Value, rowOver bm l = true → refuseLoop self "__setattr__" l = pure () := by
  intro l
  induction l with
  | nil =>
    intro e
    rcases rowOver_two _ _ e with ⟨_, _, z, _⟩ | z
    · cases z
    · rw [z]
      exact T.S.passes self
  | cons a r ih =>
    intro e
    rcases rowOver_two _ _ e with ⟨c, r1, z, h⟩ | z
    · obtain ⟨z1, z2⟩ := List.cons.inj z
      subst z1
      subst z2
      rw [refuseLoop_ref]
      exact ih h
    · rw [z]
      exact T.S.passes self
theorem rowOver_some (T : BaseOk B nw ini bm) {l : List Value} (e : rowOver bm l = true) : l.isEmpty = false := by
  cases l with
  | cons _ _ => rfl
  | nil =>
    have z := rowOver_has T B [] e
    rw [T.F.hasB] at z
    cases z
end
section
variable {prog : Program} {w : World} {A : Around} {E : Value → Shared → Prop} {R : Result → Shared → Prop}
variable {hp : Heap} {g : Array GenState} {d : Drawn} {t : Nat} {os : OsState} {B nw ini : String} {bmB : List Value}
/-- the object as BaseException.__new__ lays it -/
abbrev fresh (C u : Addr) (dd : Option Addr) : Obj :=
  { cls := .ref C, dict := dd, data := .fields #[.ref u, .none, .none, .none, .bool false, .none] }
/-- self.name = v where the error has no dict so far -/
theorem put_first {K : W.Frag} {name : Str} {tk : Tok} {v : Value} {x C u : Addr} {cd : ClassData} (T : BaseOk B nw ini bmB)
    (X : K.In hp) (hx : hp.get? x = some (fresh C u none)) (hcd : W.clsIn K C = some cd) (hm : rowOver bmB cd.mro = true)
    (hh : cd.hasDict = true) (ha : W.findIn K (.ref C) name = some none)
    (hq : ∀ h1 t1 dx, (∀ b o, b ≠ x → hp.get? b = some o → h1.get? b = some o) → hp.objs.size ≤ dx → dx ≠ x →
      h1.get? x = some (fresh C u (some dx)) → h1.Ns1 dx (fun y => if y = name then some v else none) →
      R (.ok (.ret .none)) ⟨h1, g, d, t1, os⟩) :
    codeAny (model prog w) A (.call (.builtin "object.__setattr__") ⟨[.ref x, .str name tk, v], []⟩) R ⟨hp, g, d, t, os⟩ := by
  have J : W.InstAt hp x (fresh C u none) C none := ⟨hx, rfl, rfl, trivial⟩
  have G := F.store_object
  have obj : cd.mro.contains (.type "object") = true := (rowOver_has T "object" _ hm).trans T.S.hasOwner
  have far : x ≠ hp.objs.size := Nat.ne_of_lt (Heap.lt_size hx)
  have of_obj : W.Looks (model prog w) hp (isInstance (.ref x) (.type "object")) true :=
    J.type.andThen (W.looks_mroIn X (by
      unfold W.mroIn
      rw [hcd, Option.bind_some, if_neg (by rw [rowOver_some T hm]; decide), obj]))
  refine codeAny_call_builtin G.slot.plain G.entry ?_
  refine @W.check_slot (model prog w) _ _ ⟨hp, g, d, t, os⟩ "object.__setattr__" "object" "__setattr__" (.ref x)
    [.str name tk, v] [] _ G.kind G.split of_obj (G.args (.ref x) (.str name tk) v) ?_
  have Lm : W.Looks (model prog w) hp (mroOf (.ref C)) cd.mro := (W.looks_clsIn X hcd).andThen .now
  have Lt : W.Looks (model prog w) hp (storeTaker? none) none := .now
  have Lc : W.Looks (model prog w) hp (classData C) cd := W.looks_clsIn X hcd
  rw [W.osa_eq, refuse_eq]
  refine wpAny_bind (wpAny_bind (J.type.at (wpAny_bind (Lm.at ?_))))
  rw [rowOver_lets T _ _ hm]
  refine wpAny_pure (wpAny_bind (J.type.at (wpAny_bind ((W.looks_findIn X ha).at (wpAny_bind (Lt.at ?_))))))
  show wpAny _ _ (storeInOwnDict (.ref x) (.ref C) (.str name tk) name v false) _ _ _
  obtain ⟨nm, bs, mro, ns, qn, hd, sn, sb, ab, col, del⟩ := cd
  dsimp only at hh
  subst hh
  unfold storeInOwnDict ownDictForStores
  repeat (first
    | with_reducible refine HandSPX.store_in_new ?_ ?_
    | with_reducible refine wpAny_loadPart_at hx ?_
    | with_reducible refine Lc.at ?_
    | wp_step)
  · refine ⟨_, #[], _, (Heap.get?_update_ne _ _ _ _ far.symm).trans (Heap.get?_push_at rfl rfl), rfl, ?_, fun _ => rfl⟩
    intro e he
    exact absurd he (by simp)
  · intro h1 t1 hn same
    have hx1 : (hp.push { cls := .type "dict", data := .dict #[] }).get? x = some (fresh C u none) := Heap.get?_push_of_some _ hx
    refine hq h1 t1 hp.objs.size (fun b o hb ho => ?_) (Nat.le_refl _) far.symm ?_ hn
    · refine (same.2 b (Nat.ne_of_lt (Heap.lt_size ho))).trans ?_
      exact (Heap.get?_update_ne _ _ _ _ hb).trans (Heap.get?_push_of_some _ ho)
    · exact (same.2 x far).trans (Heap.get?_update_self _ hx1 rfl)
end
/-! ### the class is called -/
section
variable {prog : Program} {w : World} {A : Around} {E : Value → Shared → Prop} {R : Result → Shared → Prop} {h : Heap}
variable {g : Array GenState} {d : Drawn} {t : Nat} {os : OsState} {M : Model}
variable {nm q : Str} {C N : Addr} {bs bm bmB : List Value} {hdct : Bool} {sn : List Str} {sub : List Value} {ab : Bool}
variable {col : Option Bool} {dd : Option Addr} {k0 k1 k2 k3 k5 : Option Value} {B nw ini : String}
variable {rest : List Value} {kw : List (Str × Value)}
theorem new_checked (F : ExcBaseFacts B nw ini bmB) (hT : ∀ Y : String, bm.contains (.type Y) = bmB.contains (.type Y)) {Q : Unit → Shared → Prop}
    (hC : h.get? C = some (excClassObj nm q C N bs bm hdct sn sub ab col dd k0 k1 k2 k3 k5 nw)) (hq : Q () ⟨h, g, d, t, os⟩) :
    wpAny M A (checkBuiltinCall nw ⟨.ref C :: rest, kw⟩) Q E ⟨h, g, d, t, os⟩ := by
  have inB : (Value.ref C :: bm).contains (.type B) = true := by
    rw [List.contains_cons, hT, F.hasB, Bool.or_true]
  have ns := F.noStar
  simp only [checkBuiltinCall, F.newKind, F.newSplit, F.newRow]
  repeat (first
    | refine wpAny_loadPart_at hC ?_
    | (refine wpAny_isSubtype_exc hC ?_; rw [inB])
    | refine wpAny_staticBase_exc hC ?_
    | refine wpAny_madeBy_exc hC ?_
    | simp only [bne_self_eq_false, Bool.false_eq_true, if_false]
    | wp_step)
  exact hq
theorem new_laid (F : ExcBaseFacts B nw ini bmB) (hT : ∀ Y : String, bm.contains (.type Y) = bmB.contains (.type Y))
    (hC : h.get? C = some (excClassObj nm q C N bs bm hdct sn sub ab col dd k0 k1 k2 k3 k5 nw)) (hrest : rest.length ≤ sizeLine)
    (hq : R (.ok (.ret (.ref (h.objs.size + 1)))) ⟨(h.push (W.kdv_tup rest)).push (fresh C h.objs.size none), g, d, t, os⟩) :
    codeAny (model prog w) A (.builtin nw ⟨.ref C :: rest, kw⟩) R ⟨h, g, d, t, os⟩ := by
  have ends := F.ends
  have inB : (Value.ref C :: bm).contains (.type B) = true := by
    rw [List.contains_cons, hT, F.hasB, Bool.or_true]
  have noA : (Value.ref C :: bm).contains (.type "AttributeError") = false := by
    rw [List.contains_cons, hT, F.noAttr]
    rfl
  have noN : (Value.ref C :: bm).contains (.type "NameError") = false := by
    rw [List.contains_cons, hT, F.noName]
    rfl
  refine codeAny_builtinAt F.entry ?_
  unfold Builtin.«BaseException.__new__»
  refine wpAt_bind ?_
  show wpAt _ _ _ (stack >>= _) _ _ _
  refine wpAt_bind (wpAt_stack fun p below => wpAt_of_wpAny ?_)
  wp_walk
  refine wpAt_of_wpAny ?_
  rw [F.owner]
  repeat (first
    | with_reducible refine wpAny_madeHere_exc F.canon hC ?_
    | with_reducible refine wpAny_loadPart_at hC ?_
    | (with_reducible refine wpAny_isSubtype_exc hC ?_; first | rw [inB] | rw [noA] | rw [noN])
    | wp_step)
  show R _ _
  rw [Heap.size_push]
  exact hq
theorem type_called (F : ExcBaseFacts B nw ini bmB) (hT : ∀ Y : String, bm.contains (.type Y) = bmB.contains (.type Y)) {fI : Addr} {Q : Fin → Shared → Prop}
    (hC : h.get? C = some (excClassObj nm q C N bs bm hdct sn sub ab col dd k0 k1 k2 k3 k5 nw)) (hrest : rest.length ≤ sizeLine)
    (hi : W.Looks (model prog w) h (typeLookup (.ref C) "__init__") (some (.ref fI)))
    (hb : ∀ self, W.Looks (model prog w) h (bindSpecial (.ref fI) self) (.ref fI, [self]))
    (hq : codeAny (model prog w) A (.call (.ref fI) ⟨.ref (h.objs.size + 1) :: rest, kw⟩)
      (fun r s1 => match r with
        | .ok (.ret v) => v = .none ∧ Q (.done (.ret (.ref (h.objs.size + 1)))) s1
        | .ok _ => False
        | .error e => E e s1)
      ⟨(h.push (W.kdv_tup rest)).push (fresh C h.objs.size none), g, d, t, os⟩) :
    wpAny (model prog w) A (Builtin.«type.__call__» ⟨.ref C :: rest, kw⟩) Q E ⟨h, g, d, t, os⟩ := by
  repeat (first
    | with_reducible refine wpAny_loadPart_at hC ?_
    | with_reducible refine wpAny_madeBy_exc hC ?_
    | wp_step)
  refine codeAny_call_builtin_code (Code.quiet_builtin _ F.quiet) (new_checked F hT hC ?_)
  refine new_laid F hT hC hrest ?_
  show wpAny _ _ _ _ _ _
  have k : ∀ b o, h.get? b = some o → ((h.push (W.kdv_tup rest)).push (fresh C h.objs.size none)).get? b = some o :=
    fun b o e => Heap.get?_push_of_some _ (Heap.get?_push_of_some _ e)
  have hC1 := k _ _ hC
  have at1 : ((h.push (W.kdv_tup rest)).push (fresh C h.objs.size none)).get? (h.objs.size + 1) = some (fresh C h.objs.size none) := by
    heap_get
  have inC : (Value.ref C :: bm).contains (.ref C) = true := by simp
  have i1 := hi.keeps k
  have b1 := (hb (.ref (h.objs.size + 1))).keeps k
  unfold isInstance
  repeat (first
    | with_reducible refine wpAny_loadPart_at at1 ?_
    | (with_reducible refine wpAny_isSubtype_exc hC1 ?_; rw [inC])
    | wp_step)
  show wpAny _ _ (typeLookup (.ref C) _) _ _ _
  refine i1.at ?_
  refine wpAny_holding (wpAny_bind (b1.at ?_))
  refine wpAny_bind (wpAny_call (codeAny_mono hq fun r s1 z => ?_))
  rcases r with e | (v | _ | _ | _) <;> first | exact z | exact z.elim | skip
  obtain ⟨rfl, z⟩ := z
  first
    | exact wpAny_pure (wpAny_pure z)
    | (wp_walk; exact z)
theorem call_checked {Q : Unit → Shared → Prop}
    (hC : h.get? C = some (excClassObj nm q C N bs bm hdct sn sub ab col dd k0 k1 k2 k3 k5 nw)) (hq : Q () ⟨h, g, d, t, os⟩) :
    wpAny M A (checkBuiltinCall "type.__call__" ⟨.ref C :: rest, kw⟩) Q E ⟨h, g, d, t, os⟩ := by
  have f3 := tc_sub
  have isT : (⟨h, g, d, t, os⟩ : Shared).TypeIs (.ref C) "type" := ⟨_, hC, rfl⟩
  simp only [checkBuiltinCall, tc_kind, tc_split]
  repeat (any_goals (first
    | assumption
    | with_reducible refine wpAny_loadPart_at hC ?_
    | with_reducible refine wpAny_onRaise ?_
    | with_reducible refine wpAny_map ?_
    | wp_step))
theorem class_called (F : ExcBaseFacts B nw ini bmB) (hT : ∀ Y : String, bm.contains (.type Y) = bmB.contains (.type Y)) {fI : Addr}
    (hC : h.get? C = some (excClassObj nm q C N bs bm hdct sn sub ab col dd k0 k1 k2 k3 k5 nw)) (hrest : rest.length ≤ sizeLine)
    (hi : W.Looks (model prog w) h (typeLookup (.ref C) "__init__") (some (.ref fI)))
    (hb : ∀ self, W.Looks (model prog w) h (bindSpecial (.ref fI) self) (.ref fI, [self]))
    (hq : codeAny (model prog w) (A.under (.builtin "type.__call__" ⟨.ref C :: rest, kw⟩)) (.call (.ref fI) ⟨.ref (h.objs.size + 1) :: rest, kw⟩)
      (W.InitBack (h.objs.size + 1) R) ⟨(h.push (W.kdv_tup rest)).push (fresh C h.objs.size none), g, d, t, os⟩) :
    codeAny (model prog w) A (.call (.ref C) ⟨rest, kw⟩) R ⟨h, g, d, t, os⟩ := by
  have f1 := tc_lookup
  have f2 := tc_bind (.ref C)
  have isT : (⟨h, g, d, t, os⟩ : Shared).TypeIs (.ref C) "type" := ⟨_, hC, rfl⟩
  refine codeAny_of_tree ?_
  show wpAny _ _ (callAny (.ref C) _) _ _ _
  repeat (any_goals (first
    | assumption
    | with_reducible refine wpAny_loadPart_at hC ?_
    | wp_step))
  refine ⟨rfl, ?_⟩
  refine codeAny_call_builtin_at (Code.quiet_builtin _ (by decide +kernel)) entry_typeCall ?_
  refine call_checked hC (type_called F hT hC hrest hi hb ?_)
  refine codeAny_mono hq fun r s1 z => ?_
  rcases r with e | (v | _ | _ | _) <;> exact z
end
end ErrV
end PySem
set_option Elab.async false
set_option linter.all false
set_option maxRecDepth 100000
set_option maxHeartbeats 4000000
namespace PySem
namespace ErrV
open PySem.W PySem.Calls PyProof.Rows
/-! ### the text of an error's __init__ -/
def eA (f : Str) (p1 p2 : Pos) : Arguments :=
  { posonlyargs := [], args := [{ arg := "self", annotation := none, pos := p1 }, { arg := f, annotation := none, pos := p2 }], vararg := none, kwonlyargs := [], kw_defaults := [], kwarg := none, defaults := [] }
def eB (f : Str) (q1 q2 q3 q4 : Pos) : List Stmt := [.Assign [.Attribute (.Name "self" q1) f q2] (.Name f q3) q4]
def eS (f : Str) : Scope :=
  { kind := .function, names := [(PySem.Str.ofString "self", .local), (f, .local)], isGenerator := false, isCoroutine := false, more := [] }
/-- what the written part says of an error's class, at C, and of its __init__, at fI -/
structure ErrC (K : Frag) (mg : Str → Option Value) (x f : Str) (C fI : Addr) (nw : String) (bmB : List Value) : Prop where
  gC : mg x = some (.ref C)
  cls : ∃ nm q N bs bm sn sub ab col dd k0 k1 k2 k3 k5,
    K.lookup C = some (excClassObj nm q C N bs bm true sn sub ab col dd k0 k1 k2 k3 k5 nw) ∧ rowOver bmB bm = true
  sa : findIn K (.ref C) "__setattr__" = some (some (.builtin "object.__setattr__"))
  noN : findIn K (.ref C) f = some none
  iC : findIn K (.ref C) "__init__" = some (some (.ref fI))
  tC : typeIn K (.ref fI) = some (.type "function")
  kC : keepIn K (.ref C) = true
  fn : ∃ (qual : Str) (oc : Value) (od : Option Addr) (doc pm : Value) (an : Option Addr) (cdv ct : Value) (osl : Array (Option Value)) (p1 p2 q1 q2 q3 q4 : Pos),
    K.lookup fI = some ⟨oc, od, .func (fnOf "__init__" qual (eA f p1 p2) (eB f q1 q2 q3 q4) (eS f) .none .none doc pm an cdv ct), osl⟩ ∧ codeIn K cdv qual = true
theorem ldL {M : Model} {s : Shared} {name : Str} {scope : Scope} {L a : Addr} {cd : Value} {m : Str → Option Value} {x : Str} {pos : Pos} {v : Value}
    {Q : Value → Shared → Prop} {A : Around} {E : Value → Shared → Prop} (hn : s.heap.Ns L m) (hv : m x = some v) (h : Q v s)
    (hk : scope.kind = .function := by rfl) (hl : (envOfC name scope L a cd).kindOf x = some .local := by rfl) (hd : (x == ("__debug__" : Str)) = false := by decide) :
    wpAny M A (eval (.Name x pos) (envOfC name scope L a cd)) Q E s :=
  wpAny_Name (wpAny_loadName_local hk hl hn hv h) hd
section
variable {prog : Program} {w : World} {A : Around} {E : Value → Shared → Prop} {R : Result → Shared → Prop} {s : Shared}
variable {K : Frag} {mg : Str → Option Value} {n f : Str} {C fI : Addr} {B nw ini : String} {bmB : List Value}
/-- __init__(self, f): self.f = f -/
theorem init_run (hf : f = "given" ∨ f = "index") (T : ErrC K mg n f C fI nw bmB) (Bo : BaseOk B nw ini bmB) {x t0 : Addr} {v : Value} {args : Args}
    (hargs : args = ⟨[.ref x, v], []⟩ ∨ args = ⟨[.ref x], [(f, v)]⟩)
    (X : K.In s.heap) (hlim : s.heap.NoLimit) (hx : s.heap.get? x = some (fresh C t0 none)) (hroom : A.depth < recursionLimit)
    (hq : ∀ h1 tk dx, (∀ b o, b ≠ x → s.heap.get? b = some o → h1.get? b = some o) → h1.get? x = some (fresh C t0 (some dx)) → s.heap.objs.size ≤ dx → dx ≠ x →
      h1.Ns1 dx (fun y => if y = f then some v else none) → R (.ok (.ret .none)) { s with heap := h1, toks := tk }) :
    codeAny (model prog w) A (.call (.ref fI) args) R s := by
  obtain ⟨qual, oc, od, doc, pm, an, cdv, ct, osl, p1, p2, q1, q2, q3, q4, ho, hcd⟩ := T.fn
  obtain ⟨nm, q, N, bs, bm, sn, sub, ab, col, dd, k0, k1, k2, k3, k5, hC, hbm⟩ := T.cls
  have hcl : clsIn K C = some { name := nm, bases := bs, mro := .ref C :: bm, ns := N, qualname := q, hasDict := true, slotNames := sn, subclasses := sub, abstract := ab, collection := col, hasDel := false } := by
    unfold clsIn
    rw [hC] <;> rfl
  have noN := T.noN
  have sa := T.sa
  clear T hC
  rcases hf with rfl | rfl
  · refine Att.call_fn (binds := [("self", .ref x), ("given", v)]) X hlim ho hcd hroom ?_ (by first | rfl | decide | with_unfolding_all rfl) (fun s1 IC => ?_) rfl rfl rfl
    · rcases hargs with rfl | rfl
      · exact BindsTo.of_eq (by first | rfl | with_unfolding_all rfl)
      · exact BindsTo.of_eq (by first | rfl | with_unfolding_all rfl)
    · obtain ⟨h1, tk1, rfl⟩ := IC.toInCall.same
      have k : ∀ b o, s.heap.get? b = some o → h1.get? b = some o := IC.toInCall.keep
      have hn := IC.toInCall.ns
      have far : s.heap.objs.size ≠ x := Nat.ne_of_gt (Heap.lt_size hx)
      have X1 : K.In h1 := X.keeps k
      have hx1 := k _ _ hx
      show wpAny _ _ (execs _ _) _ _ _
      refine wpAny_execs_cons (plainObj_wpAny_Assign_Attribute ?_)
      refine ldL (v := v) hn (by first | rfl | with_unfolding_all rfl | kernel_rfl) ?_
      refine ldL (v := .ref x) hn (by first | rfl | with_unfolding_all rfl | kernel_rfl) ?_
      refine set_plain X1 (ox := fresh C t0 none) (od := none) ⟨hx1, rfl, rfl, trivial⟩ sa ?_
      refine put_first Bo X1 hx1 hcl (show rowOver bmB (.ref C :: bm) = true from hbm) rfl noN (fun h3 tk3 dx k3 big ne hx3 hn3 => ?_)
      show wpAny _ _ (execs _ _) _ _ _
      have z : s.heap.objs.size < h1.objs.size := hn.lt
      exact wpAny_execs_nil (hq h3 tk3 dx (fun b o hb e => k3 b o hb (k b o e)) hx3 (Nat.le_of_lt (Nat.lt_of_lt_of_le z big)) ne hn3)
  · refine Att.call_fn (binds := [("self", .ref x), ("index", v)]) X hlim ho hcd hroom ?_ (by first | rfl | decide | with_unfolding_all rfl) (fun s1 IC => ?_) rfl rfl rfl
    · rcases hargs with rfl | rfl
      · exact BindsTo.of_eq (by first | rfl | with_unfolding_all rfl)
      · exact BindsTo.of_eq (by first | rfl | with_unfolding_all rfl)
    · obtain ⟨h1, tk1, rfl⟩ := IC.toInCall.same
      have k : ∀ b o, s.heap.get? b = some o → h1.get? b = some o := IC.toInCall.keep
      have hn := IC.toInCall.ns
      have far : s.heap.objs.size ≠ x := Nat.ne_of_gt (Heap.lt_size hx)
      have X1 : K.In h1 := X.keeps k
      have hx1 := k _ _ hx
      show wpAny _ _ (execs _ _) _ _ _
      refine wpAny_execs_cons (plainObj_wpAny_Assign_Attribute ?_)
      refine ldL (v := v) hn (by first | rfl | with_unfolding_all rfl | kernel_rfl) ?_
      refine ldL (v := .ref x) hn (by first | rfl | with_unfolding_all rfl | kernel_rfl) ?_
      refine set_plain X1 (ox := fresh C t0 none) (od := none) ⟨hx1, rfl, rfl, trivial⟩ sa ?_
      refine put_first Bo X1 hx1 hcl (show rowOver bmB (.ref C :: bm) = true from hbm) rfl noN (fun h3 tk3 dx k3 big ne hx3 hn3 => ?_)
      show wpAny _ _ (execs _ _) _ _ _
      have z : s.heap.objs.size < h1.objs.size := hn.lt
      exact wpAny_execs_nil (hq h3 tk3 dx (fun b o hb e => k3 b o hb (k b o e)) hx3 (Nat.le_of_lt (Nat.lt_of_lt_of_le z big)) ne hn3)
/-- a made error: at e, its dict at d -/
structure Made (h h1 : Heap) (e C d : Addr) (f : Str) (v : Value) : Prop where
  keep : ∀ b o, h.get? b = some o → h1.get? b = some o
  big : h.objs.size ≤ e
  obj : ∃ u, h1.get? e = some (fresh C u (some d))
  dbig : h.objs.size ≤ d
  ne : d ≠ e
  ns : h1.Ns1 d (fun y => if y = f then some v else none)
theorem err_made (hf : f = "given" ∨ f = "index") (T : ErrC K mg n f C fI nw bmB) (Bo : BaseOk B nw ini bmB) {v : Value} {rest : List Value} {kw : List (Str × Value)}
    (hargs : (rest = [v] ∧ kw = []) ∨ (rest = [] ∧ kw = [(f, v)])) (X : K.In s.heap) (hlim : s.heap.NoLimit) (hroom : A.depth + 1 < recursionLimit)
    (hq : ∀ h1 tk e d, Made s.heap h1 e C d f v → R (.ok (.ret (.ref e))) { s with heap := h1, toks := tk }) :
    codeAny (model prog w) A (.call (.ref C) ⟨rest, kw⟩) R s := by
  obtain ⟨nm, q, N, bs, bm, sn, sub, ab, col, dd, k0, k1, k2, k3, k5, hC, hbm⟩ := T.cls
  obtain ⟨hp, g, dr, tk, os⟩ := s
  have sz : rest.length ≤ sizeLine := by
    rw [sizeLine_eq]
    rcases hargs with ⟨rfl, _⟩ | ⟨rfl, _⟩
    · exact (by decide : 1 ≤ 16777216)
    · exact (by decide : 0 ≤ 16777216)
  have k : ∀ b o, hp.get? b = some o → ((hp.push (kdv_tup rest)).push (fresh C hp.objs.size none)).get? b = some o :=
    fun b o e => Heap.get?_push_of_some _ (Heap.get?_push_of_some _ e)
  have at1 : ((hp.push (kdv_tup rest)).push (fresh C hp.objs.size none)).get? (hp.objs.size + 1) = some (fresh C hp.objs.size none) := by heap_get
  refine class_called Bo.F (fun Y => rowOver_has Bo Y bm hbm) (X _ _ hC) sz (looks_findIn X T.iC) (fun self => bind_fn X self T.tC) ?_
  refine init_run (s := ⟨(hp.push (kdv_tup rest)).push (fresh C hp.objs.size none), g, dr, tk, os⟩) (x := hp.objs.size + 1) hf T Bo (v := v) ?_ (X.keeps k) (hlim.keeps k) at1 ?_ ?_
  · rcases hargs with ⟨rfl, rfl⟩ | ⟨rfl, rfl⟩
    · exact .inl rfl
    · exact .inr rfl
  · rw [L2.make_depth]
    exact hroom
  · intro h1 tk1 dx k1 hx big ne hns
    have old : ∀ b o, hp.get? b = some o → h1.get? b = some o :=
      fun b o e => k1 b o (Nat.ne_of_lt (Nat.lt_succ_of_lt (Heap.lt_size e))) (k b o e)
    have z : hp.objs.size + 1 + 1 ≤ dx := by
      have q := big
      simp only [Heap.size_push] at q
      exact q
    exact ⟨rfl, hq h1 tk1 (hp.objs.size + 1) dx ⟨old, Nat.le_succ _, ⟨_, hx⟩, Nat.le_trans (Nat.le_trans (Nat.le_succ _) (Nat.le_succ _)) z, ne, hns⟩⟩
end
/-! ### an error whose __init__ does nothing -/
def eA0 (p1 : Pos) : Arguments :=
  { posonlyargs := [], args := [{ arg := "self", annotation := none, pos := p1 }], vararg := none, kwonlyargs := [], kw_defaults := [], kwarg := none, defaults := [] }
def eS0 : Scope := { kind := .function, names := [(PySem.Str.ofString "self", .local)], isGenerator := false, isCoroutine := false, more := [] }
structure PassC (K : Frag) (mg : Str → Option Value) (x : Str) (C fI : Addr) (nw : String) (bmB : List Value) : Prop where
  gC : mg x = some (.ref C)
  cls : ∃ nm q N bs bm sn sub ab col dd k0 k1 k2 k3 k5,
    K.lookup C = some (excClassObj nm q C N bs bm true sn sub ab col dd k0 k1 k2 k3 k5 nw) ∧ rowOver bmB bm = true
  iC : findIn K (.ref C) "__init__" = some (some (.ref fI))
  tC : typeIn K (.ref fI) = some (.type "function")
  kC : keepIn K (.ref C) = true
  fn : ∃ (qual : Str) (oc : Value) (od : Option Addr) (doc pm : Value) (an : Option Addr) (cdv ct : Value) (osl : Array (Option Value)) (p1 q1 : Pos),
    K.lookup fI = some ⟨oc, od, .func (fnOf "__init__" qual (eA0 p1) [.Pass q1] eS0 .none .none doc pm an cdv ct), osl⟩ ∧ codeIn K cdv qual = true
section
variable {prog : Program} {w : World} {A : Around} {E : Value → Shared → Prop} {R : Result → Shared → Prop} {s : Shared}
variable {K : Frag} {mg : Str → Option Value} {n : Str} {C fI : Addr} {B nw ini : String} {bmB : List Value}
theorem pass_made (T : PassC K mg n C fI nw bmB) (Bo : BaseOk B nw ini bmB) (X : K.In s.heap) (hlim : s.heap.NoLimit) (hroom : A.depth + 1 < recursionLimit)
    (hq : ∀ h1 tk e u, (∀ b o, s.heap.get? b = some o → h1.get? b = some o) → s.heap.objs.size ≤ e → h1.get? e = some (fresh C u none) → R (.ok (.ret (.ref e))) { s with heap := h1, toks := tk }) :
    codeAny (model prog w) A (.call (.ref C) ⟨[], []⟩) R s := by
  obtain ⟨nm, q, N, bs, bm, sn, sub, ab, col, dd, k0, k1, k2, k3, k5, hC, hbm⟩ := T.cls
  obtain ⟨qual, oc, od, doc, pm, an, cdv, ct, osl, p1, q1, ho, hcd⟩ := T.fn
  obtain ⟨hp, g, dr, tk, os⟩ := s
  have k : ∀ b o, hp.get? b = some o → ((hp.push (kdv_tup [])).push (fresh C hp.objs.size none)).get? b = some o :=
    fun b o e => Heap.get?_push_of_some _ (Heap.get?_push_of_some _ e)
  have at1 : ((hp.push (kdv_tup [])).push (fresh C hp.objs.size none)).get? (hp.objs.size + 1) = some (fresh C hp.objs.size none) := by heap_get
  refine class_called Bo.F (fun Y => rowOver_has Bo Y bm hbm) (X _ _ hC) (by rw [sizeLine_eq]; exact (by decide : 0 ≤ 16777216)) (looks_findIn X T.iC) (fun self => bind_fn X self T.tC) ?_
  have room1 : (A.under (.builtin "type.__call__" ⟨.ref C :: [], []⟩)).depth < recursionLimit := by
    rw [L2.make_depth]
    exact hroom
  refine Att.call_fn (s := ⟨(hp.push (kdv_tup [])).push (fresh C hp.objs.size none), g, dr, tk, os⟩) (binds := [("self", .ref (hp.objs.size + 1))]) (X.keeps k) (hlim.keeps k) ho hcd room1 (BindsTo.of_eq (by first | rfl | with_unfolding_all rfl))
    (by first | rfl | decide | with_unfolding_all rfl) (fun s1 IC => ?_) rfl rfl rfl
  obtain ⟨h1, tk1, rfl⟩ := IC.toInCall.same
  have kk : ∀ b o, ((hp.push (kdv_tup [])).push (fresh C hp.objs.size none)).get? b = some o → h1.get? b = some o := IC.toInCall.keep
  show wpAny _ _ (execs [.Pass q1] _) _ _ _
  refine wpAny_execs_cons ?_
  have fin : InitBack (hp.objs.size + 1) R (.ok (.ret .none)) ⟨h1, g, dr, tk1, os⟩ :=
    ⟨rfl, hq h1 tk1 (hp.objs.size + 1) hp.objs.size (fun b o e => kk b o (k b o e)) (Nat.le_succ _) (kk _ _ at1)⟩
  first
    | exact wpAny_Pass (wpAny_execs_nil fin)
    | (wp_walk; exact fin)
end
end ErrV
end PySem
set_option Elab.async false
set_option linter.all false
set_option maxRecDepth 100000
set_option maxHeartbeats 4000000
/-! The hand layer's rules for errors held as values. -/
namespace L2
open PySem PySem.Spec PyProof.Rows PySem.ErrV
section
variable {fs ex : List Addr} {H : Hp} {h h1 : Heap} {a b : Addr} {o u : HO}
/-- two new objects at once -/
theorem Un.two (k : ∀ c z, h.get? c = some z → h1.get? c = some z) (ha : h.objs.size ≤ a) (hb : h.objs.size ≤ b) (na : H a = none) (nb : H b = none) :
    Un fs ex H (upd (upd H a o) b u) h h1 := by
  have oa : ∀ {c : Addr} {z : Obj}, h.get? c = some z → c ≠ a := fun {c z} q => Nat.ne_of_lt (Nat.lt_of_lt_of_le (Heap.lt_size q) ha)
  have ob : ∀ {c : Addr} {z : Obj}, h.get? c = some z → c ≠ b := fun {c z} q => Nat.ne_of_lt (Nat.lt_of_lt_of_le (Heap.lt_size q) hb)
  exact {
    keep := fun c z q _ _ _ => k c z q
    slot := fun c z q _ _ _ => ⟨z.slots, k c z q⟩
    free := fun c z q n _ => by
      rw [upd_ne (ob q), upd_ne (oa q)]
      exact n
    there := fun c z q _ => ⟨z, k c z q⟩
    tups := fun c xs q => by
      rw [upd_ne (ne_of_none q nb), upd_ne (ne_of_none q na)]
      exact q
    frzs := fun c z xs q => by
      rw [upd_ne (ne_of_none q nb), upd_ne (ne_of_none q na)]
      exact q
    tbls := fun c ps q => ⟨#[], by
      rw [upd_ne (ne_of_none q nb), upd_ne (ne_of_none q na), q]
      simp⟩ }
theorem HOk.two {P : Program} {w : World} (x : HOk P w H h) (k : ∀ c z, h.get? c = some z → h1.get? c = some z) (na : H a = none) (nb : H b = none) (ne : a ≠ b)
    (oka : ObjOk P w (upd (upd H a o) b u) h1 a o) (okb : ObjOk P w (upd (upd H a o) b u) h1 b u) : HOk P w (upd (upd H a o) b u) h1 := fun c z e => by
  by_cases cb : c = b
  · subst cb
    rw [upd_same] at e
    cases e
    exact okb
  · rw [upd_ne cb] at e
    by_cases ca : c = a
    · subst ca
      rw [upd_same] at e
      cases e
      exact oka
    · rw [upd_ne ca] at e
      have up : ∀ {y : Addr} {v : HO}, H y = some v → upd (upd H a o) b u y = some v := fun {y v} q => by
        rw [upd_ne (ne_of_none q nb), upd_ne (ne_of_none q na)]
        exact q
      exact (x c z e).stay (fun y v _ q => k y v q) (fun y q => up q) fun y xs q => up q
end
section
variable {X : Cx} {C fI : Addr} {x f : Str} {B nw ini : String} {bmB : List Value} {e : Expr} {p pos : Pos} {te : TE}
/-- C(e): a new error whose dict has the one field -/
def tErr (C : Addr) (f : Str) (te : TE) : TE := fun σ H Q => te σ H fun v H1 => ∀ a d, H1 a = none → H1 d = none → d ≠ a → Q (.ref a) (upd (upd H1 d (exd d [(f, v)])) a (exo a C (some d)))
theorem err_end {pins : List (Addr × Obj)} {σ : St} {H1 : Hp} {s1 : Shared} {h1 : Heap} {tk : Nat} {a d : Addr} {y : V} {u : Value} {Q : VK} (I : Inv X pins σ H1 s1) (ry : RelV y u) (m : Made s1.heap h1 a C d f u)
    (q : ∀ a d, H1 a = none → H1 d = none → d ≠ a → Q (.ref a) (upd (upd H1 d (exd d [(f, y)])) a (exo a C (some d)))) : EP X pins σ Q (.ref a) { s1 with heap := h1, toks := tk } := by
  have na : H1 a = none := I.hok.fresh m.big
  have nd : H1 d = none := I.hok.fresh m.dbig
  obtain ⟨t, ob⟩ := m.obj
  refine ⟨.ref a, _, I.un (t' := tk) (Un.two m.keep m.dbig m.big nd na) (I.hok.two m.keep nd na m.ne ?_ (exo_ok ob)), rfl, q a d na nd m.ne⟩
  exact exd_ok m.ns (relO_put (fs := []) ry fun g => True.intro)
theorem pe_err (hf : f = "given" ∨ f = "index") (T : ErrC X.K X.mg x f C fI nw bmB) (Bo : BaseOk B nw ini bmB) (hr : Room 1 X.A) (hg : Gl X x) (he : PE X e te)
    (hs : starEach [e] X.env = (false, eval e X.env) :: starEach [] X.env := by rfl) (hdb : (x == ("__debug__" : Str)) = false := by decide) :
    PE X (.Call (.Name x p) [e] [] pos) (tErr C f te) := by
  refine ⟨fun pins s σ H Q I h => ?_⟩
  refine wpAny_Call_Name_kw (ld_glob I hg T.gC ?_ hdb)
  refine PySem.W.callWith_K (h₀ := X.base) I.ok.mod.kin T.kC ?_ hs (by rfl)
  rw [hs]
  show wpAny _ _ (spliced ((false, eval e X.env) :: backTo pos (starEach [] X.env))) _ _ s
  refine Calls.spliced_cons (thn (he.run pins s σ H _ I h) fun u s1 ⟨v, H1, I1, r1, q1⟩ => ?_)
  refine Calls.spliced_nil ⟨I1.kIn, ?_⟩
  show wpAny _ _ (call (.ref C) [u]) _ _ _
  refine wpAny_call (err_made hf T Bo (v := u) (.inl ⟨rfl, rfl⟩) I1.kIn I1.nolimit (by have := hr.dp; omega) fun h1 tk a d m => ?_)
  exact err_end I1 r1 m q1
theorem pe_errK {kpos : Pos} (hf : f = "given" ∨ f = "index") (T : ErrC X.K X.mg x f C fI nw bmB) (Bo : BaseOk B nw ini bmB) (hr : Room 1 X.A) (hg : Gl X x) (he : PE X e te)
    (hall : (backToKw pos (keywordEach [⟨some f, e, kpos⟩] X.env)).all (·.1.isSome) = true := by rfl) (hks : (backToKw pos (keywordEach [⟨some f, e, kpos⟩] X.env)).filterMap (·.1) = [f] := by rfl)
    (hpl : ((backTo pos (starEach [] X.env)).any (·.1) || (backToKw pos (keywordEach [⟨some f, e, kpos⟩] X.env)).any (·.1.isNone)) = false := by rfl) (hdb : (x == ("__debug__" : Str)) = false := by decide) :
    PE X (.Call (.Name x p) [] [⟨some f, e, kpos⟩] pos) (tErr C f te) := by
  refine ⟨fun pins s σ H Q I h => ?_⟩
  refine wpAny_Call_Name_kw (ld_glob I hg T.gC ?_ hdb)
  refine PySem.W.callWith_KW0 (h₀ := X.base) I.ok.mod.kin T.kC hall ?_ hpl
  have hk : PK X [⟨some f, e, kpos⟩] (tCons te tNil) := pk_cons he pk_nil
  refine thn (hk.run pos pins s σ H (fun zs H2 => match zs with
    | [v] => ∀ a d, H2 a = none → H2 d = none → d ≠ a → Q (.ref a) (upd (upd H2 d (exd d [(f, v)])) a (exo a C (some d)))
    | _ => False) I h) fun ws s2 ⟨zs, H2, I2, rz, q2⟩ => ⟨I2.kIn, ?_⟩
  rw [hks]
  cases rz with
  | nil => exact q2.elim
  | @cons v u vs us rv rr =>
    cases rr with
    | cons _ _ => exact q2.elim
    | nil =>
      show wpAny _ _ (call (.ref C) [] [(f, u)]) _ _ _
      refine wpAny_call (err_made hf T Bo (v := u) (.inr ⟨rfl, rfl⟩) I2.kIn I2.nolimit (by have := hr.dp; omega) fun h1 tk a d m => ?_)
      exact err_end I2 rv m q2
end
section
variable {X : Cx} {e : Expr} {f : Str} {pos : Pos} {te : TE}
/-- e.f, e an error -/
def tEf (K : PySem.W.Frag) (f : Str) (te : TE) : TE := fun σ H Q => te σ H fun x H1 => ∃ (a C d : Addr) (fs : List (Str × V)) (v : V), x = .ref a ∧ XfC K C ∧ PySem.W.findIn K (.ref C) f = some none ∧
  H1 a = some (exo a C (some d)) ∧ H1 d = some (exd d fs) ∧ fs.lookup f = some v ∧ Q v H1
theorem pe_ef (he : PE X e te) (hb : attributeBase e f X.env (eval e X.env) = eval e X.env := by rfl) : PE X (.Attribute e f pos) (tEf X.K f te) := by
  refine ⟨fun pins s σ H Q I h => ?_⟩
  refine attr_of hb (thn (he.run pins s σ H _ I h) fun u s1 hh => ?_)
  obtain ⟨x, H1, I1, rx, a, C, d, fs, v, ex, T, hno, ea, ed, l, q⟩ := hh
  subst ex
  obtain rfl : u = Value.ref a := rx
  obtain ⟨t1, ho⟩ := exo_at I1.hok ea
  obtain ⟨mA, hns, hr⟩ := exd_at I1.hok ed
  obtain ⟨od, hd, hl⟩ := lookIn_ns hns
  obtain ⟨u, hu, ru⟩ := RelO.some_of (v := v) (o := mA f) (by rw [← l]; exact hr f)
  have J : PySem.W.InstAt s1.heap a _ C (some od) := ⟨ho, rfl, rfl, hd⟩
  exact HandSPX.exc_get I1.kIn J T.ga T.gg T.exC (PySem.W.findObj_own T.hdC hno rfl (by rw [hl, hu])) (handed_of ru) ⟨v, H1, I1.tok _, ru, q⟩
end
/-! ### isinstance of such a value -/
end L2
namespace PySem.W
open PySem PySem.Spec PySem.Calls PyProof.Rows
section
variable {prog : Program} {w : World} {A : Around} {E : Value → Shared → Prop} {s : Shared} {K : Frag} {x D : Addr} {ox : Obj} {od : Option Obj}
theorem data_found {C : Addr} {name : Str} {a g : Value} (hc : (clsIn K C).isSome = true) (ha : findIn K (.ref C) name = some (some a)) (hg : specialIn K a "__get__" = some (some g))
    (ht : takesIn K a = some true) : findObj K C od name = some (.bind g a) := by
  obtain ⟨cd, e⟩ := Option.isSome_iff_exists.mp hc
  unfold findObj
  rw [e, Option.bind_some, ha, Option.bind_some]
  simp only [hg, ht, Option.bind_some]
theorem errv_class {Q : Option Value → Shared → Prop} (c : L2.ExcC K D) (X : K.In s.heap) (I : InstAt s.heap x ox D od) (h : Q (some (.ref D)) { s with toks := s.toks + 1 }) :
    wpAny (model prog w) A (getAttr? (.ref x) "__class__") Q E s := by
  have hf : findObj K D od "__class__" = some (.bind (.builtin "getset_descriptor.__get__") (.builtin "object.__class__")) :=
    data_found (by obtain ⟨cd, hc, _⟩ := any_some c.hd; rw [hc]; rfl) c.ha c.hn c.ht
  obtain ⟨hp, g, d, t, os⟩ := s
  have ty := I.type (M := model prog w)
  have ga := looks_findIn (M := model prog w) X c.hg
  have gt := looks_findIn (M := model prog w) X c.hk
  have fd := looks_find (M := model prog w) X I hf
  have isB : Looks (model prog w) hp (isInstance (.ref x) (.type "BaseException")) true := ty.andThen (looks_subIn X c.hs)
  have n0 : (false && onTheHeap (Value.builtin "BaseException.__getattribute__")) = false := rfl
  have n2 : (Value.builtin "BaseException.__getattribute__" == Value.builtin "object.__getattribute__") = false := by decide +kernel
  have n1 : (onTheHeap (Value.ref D) && Value.builtin "BaseException.__getattribute__" == Value.builtin "object.__getattribute__") = false := by
    rw [n2]
    rfl
  unfold getAttr? getAttrBy? getAttrBy
  refine wpAny_bind (wpAny_mkText (wpAny_bind (wpAny_attempt (wpAny_holding (wpAny_bind (ty.at (wpAny_bind (ga.at ?_))))))))
  show wpAny _ _ (if (onTheHeap (Value.ref D) && Value.builtin "BaseException.__getattribute__" == Value.builtin "object.__getattribute__") = true then _ else _) _ _ _
  rw [n1, if_neg Bool.false_ne_true]
  unfold getAttrByItsOwn hookBefore
  refine wpAny_bind ?_
  rw [if_pos (show onTheHeap (Value.ref D) = true from rfl)]
  refine gt.at ?_
  refine wpAny_bind (wpAny_attempt (wpAny_holding ?_))
  unfold callGetattribute
  rw [n0, if_neg Bool.false_ne_true]
  unfold boundAndCalled
  rw [PySem.F.excAttr_ValueError.ga.bind (.ref x)]
  refine wpAny_bind (wpAny_pure ?_)
  show wpAny _ _ (call (.builtin "BaseException.__getattribute__") [.ref x, .str "__class__" t]) _ _ _
  refine wpAny_call (codeAny_call_builtin PySem.F.excAttr_ValueError.ga.plain PySem.F.entry_bexc_ga ?_)
  refine @check_slot (model prog w) _ _ ⟨hp, g, d, t + 1, os⟩ "BaseException.__getattribute__" "BaseException" "__getattribute__" (.ref x)
    [.str "__class__" t] [] _ (by decide +kernel) (by decide +kernel) isB (PySem.F.args_bexc_ga (.ref x) (.str "__class__" t)) ?_
  unfold Builtin.«object.__getattribute__»
  refine wpAny_bind (wpAny_of_eq (a := ((Value.ref x : Value), [Value.str "__class__" t])) (by first | rfl | (simp only [slotArgs]; rfl)) ?_)
  refine wpAny_bind (wpAny_pure (wpAny_bind (ty.at (wpAny_bind (fd.at ?_)))))
  show wpAny _ _ (holding [Value.builtin "object.__class__"] (call (.builtin "getset_descriptor.__get__") [.builtin "object.__class__", .ref x, .ref D]) >>= ret) _ _ _
  refine wpAny_bind (wpAny_holding (wpAny_call (class_get (s := ⟨hp, g, d, t + 1, os⟩) (ox := ox) (od := od) X I c.hm ?_)))
  refine wpAny_pure ?_
  show wpAny _ _ (handedOut (.ref D)) _ _ _
  rw [handedOut_of (v := .ref D) rfl]
  first
    | exact wpAny_pure (wpAny_pure h)
    | exact wpAny_pure h
    | exact wpAny_pure (wpAny_bind (wpAny_pure (wpAny_pure h)))
theorem errv_kit (c : L2.ExcC K D) : KitX K (.ref x) (.ref D) (fun h => ∃ ox od, InstAt h x ox D od) where
  ty := fun _ _ _ ⟨_, _, I⟩ => I.type
  it := fun _ _ X _ => by
    obtain ⟨cd, hc, _⟩ := any_some c.hd
    unfold clsIn at hc
    split at hc
    · rename_i ho
      intro A1 Q1 E1 s1 k q
      unfold isType loadHead
      exact wpAny_bind (wpAny_loadPart (k _ _ (X _ _ ho)) (wpAny_pure q))
    · cases hc
  ne := fun h tp dd its n sl X htp => by
    obtain ⟨cd, hc, _⟩ := any_some c.hd
    refine Bool.eq_false_iff.mpr fun q => ?_
    have e : D = tp := Value.ref.inj (beq_iff_eq.mp q)
    subst e
    unfold clsIn at hc
    split at hc
    · rename_i ho
      have z := (X _ _ ho).symm.trans htp
      cases z
    · cases hc
  ca := fun X ⟨_, _, I⟩ k => errv_class c X I k
end
end PySem.W
namespace L2
open PySem PySem.Spec PyProof.Rows PySem.ErrV
/-- isinstance(e, c), e an error that is held as a value -/
def rIsErr (K : PySem.W.Frag) : List V → Hp → VK → Prop := fun xs H Q => ∃ (a C : Addr) (d : Option Addr) (c : V) (cv : Value) (b : Bool), xs = [.ref a, c] ∧ H a = some (exo a C d) ∧ (∀ z, d = some z → ∃ fs, H z = some (exd z fs)) ∧ ExcC K C ∧
  ClsV c cv ∧ PySem.W.kitOne K (.ref C) cv = some b ∧ Q (.bl b) H
theorem call_isErr {X : Cx} : CallR X (.builtin "isinstance") (rIsErr X.K) := by
  intro pins s σ H xs us Q I r h
  obtain ⟨a, C, d, c, cv, b, rfl, ea, hd, c0, hcv, e, q⟩ := h
  cases r with
  | cons rx rr =>
    cases rr with
    | cons rt rr =>
      cases rr
      cases rx
      obtain ⟨t1, ho⟩ := exo_at I.hok ea
      have J : ∃ ox od, PySem.W.InstAt s.heap a ox C od := by
        cases d with
        | none => exact ⟨_, none, ho, rfl, rfl, trivial⟩
        | some z =>
          obtain ⟨o, eo⟩ := hd z rfl
          obtain ⟨_, ⟨oz, _, _, gz, _⟩, _⟩ := exd_at I.hok eo
          exact ⟨_, some oz, ho, rfl, rfl, gz⟩
      have ec := hcv.eq rt
      subst ec
      exact PySem.W.kia_one (PySem.W.errv_kit c0) I.kIn J e (fun z => nomatch z) fun tk => ⟨.bl b, H, I.kept (t' := tk) fun _ _ z => z, rfl, q⟩
end L2
set_option Elab.async false
set_option linter.all false
set_option maxRecDepth 100000
set_option maxHeartbeats 4000000
/-! repr of data that the hand layer tracks. -/
namespace L2
open PySem PySem.Spec PyProof.Rows
mutual
/-- x is the datum d, its lists and tuples standing in H -/
def rp (H : Hp) : PyData → V → Prop
  | .none, x => x = .non
  | .bool b, x => x = .bl b
  | .int i, x => x = .int i
  | .str z, x => x = .str z
  | .list ds, x => ∃ (a : Addr) (xs : List V), x = .ref a ∧ H a = some (.lst xs) ∧ rpAll H ds xs
  | .tuple ds, x => ∃ (a : Addr) (xs : List V), x = .ref a ∧ H a = some (.tup xs) ∧ rpAll H ds xs
  | .dict _, _ => False
def rpAll (H : Hp) : List PyData → List V → Prop
  | [], xs => xs = []
  | d :: ds, xs => ∃ (y : V) (ys : List V), xs = y :: ys ∧ rp H d y ∧ rpAll H ds ys
end
section
variable {P : Program} {w : World} {H : Hp} {h : Heap}
mutual
theorem rp_reads (ok : HOk P w H h) : ∀ (d : PyData) (x : V) (u : Value), rp H d x → RelV x u → d.hasDict = false ∧ ∃ as, Reads h u d as
  | .none, x, u, e, r => by
    unfold rp at e
    subst e
    obtain rfl : u = Value.none := r
    exact ⟨rfl, _, .none⟩
  | .bool b, x, u, e, r => by
    unfold rp at e
    subst e
    obtain rfl : u = Value.bool b := r
    exact ⟨rfl, _, .bool b⟩
  | .int i, x, u, e, r => by
    unfold rp at e
    subst e
    obtain ⟨t, rfl⟩ : ∃ t, u = Value.int i t := r
    exact ⟨rfl, _, .int i t⟩
  | .str z, x, u, e, r => by
    unfold rp at e
    subst e
    obtain ⟨t, rfl⟩ : ∃ t, u = Value.str z t := r
    exact ⟨rfl, _, .str z t⟩
  | .list ds, x, u, e, r => by
    unfold rp at e
    obtain ⟨a, xs, rfl, ea, q⟩ := e
    obtain rfl : u = Value.ref a := r
    obtain ⟨_, its, n, rv, g⟩ := (show ObjOk P w H h a (.lst xs) from ok a _ ea)
    obtain ⟨nd, as, R⟩ := rpAll_reads ok ds xs its q rv
    exact ⟨by simpa only [PyData.hasDict] using nd, _, .list g rfl rfl (by simpa using R)⟩
  | .tuple ds, x, u, e, r => by
    unfold rp at e
    obtain ⟨a, xs, rfl, ea, q⟩ := e
    obtain rfl : u = Value.ref a := r
    obtain ⟨_, its, rv, o, g, c, n, dd⟩ := (show ObjOk P w H h a (.tup xs) from ok a _ ea)
    obtain ⟨nd, as, R⟩ := rpAll_reads ok ds xs its q rv
    exact ⟨by simpa only [PyData.hasDict] using nd, _, .tuple g c dd (by simpa using R)⟩
  | .dict _, x, u, e, r => by
    unfold rp at e
    exact e.elim
theorem rpAll_reads (ok : HOk P w H h) : ∀ (ds : List PyData) (xs : List V) (us : List Value), rpAll H ds xs → Vals xs us → PyData.hasDictAll ds = false ∧ ∃ as, ReadsAll h us ds as
  | [], xs, us, e, r => by
    unfold rpAll at e
    subst e
    cases r
    exact ⟨rfl, _, .nil⟩
  | d :: ds, xs, us, e, r => by
    unfold rpAll at e
    obtain ⟨y, ys, rfl, e1, e2⟩ := e
    cases r with
    | cons r1 r2 =>
      obtain ⟨n1, as, R1⟩ := rp_reads ok d y _ e1 r1
      obtain ⟨n2, bs, R2⟩ := rpAll_reads ok ds ys _ e2 r2
      exact ⟨by simp only [PyData.hasDictAll, n1, n2, Bool.or_self], _, .cons R1 R2⟩
end
/-- a key of a dict as a datum -/
def kdat0 : Key → PyData
  | .inl i => .int i
  | .inr z => .str z
/-- a dict whose values are flat -/
def rpD (H : Hp) (d : PyData) (x : V) : Prop := ∃ (a : Addr) (kvs : List (Key × V)) (ds : List (PyData × PyData)), x = .ref a ∧ H a = some (.dK kvs) ∧ d = .dict ds ∧
  Paired (fun (p : Key × V) (q : PyData × PyData) => q.1 = kdat0 p.1 ∧ rp (fun _ => none) q.2 p.2) kvs ds
theorem key_reads {k : Key} {v : Value} (e : keyIs k v = true) : Reads h v (kdat0 k) [] := by
  rcases keyIs_shape e with ⟨i, t, rfl, rfl⟩ | ⟨z, t, rfl, rfl⟩
  · exact .int i t
  · exact .str z t
theorem nothing_ok : HOk P w (fun _ => none) h := fun a o e => by cases e
/-- flat data stand nowhere -/
theorem flat_reads {d : PyData} {x : V} {u : Value} (e : rp (fun _ => none) d x) (r : RelV x u) : Reads h u d [] := by
  cases d with
  | none =>
    unfold rp at e
    subst e
    obtain rfl : u = Value.none := r
    exact .none
  | bool b =>
    unfold rp at e
    subst e
    obtain rfl : u = Value.bool b := r
    exact .bool b
  | int i =>
    unfold rp at e
    subst e
    obtain ⟨t, rfl⟩ : ∃ t, u = Value.int i t := r
    exact .int i t
  | str z =>
    unfold rp at e
    subst e
    obtain ⟨t, rfl⟩ : ∃ t, u = Value.str z t := r
    exact .str z t
  | list ds =>
    unfold rp at e
    obtain ⟨a, xs, _, q, _⟩ := e
    cases q
  | tuple ds =>
    unfold rp at e
    obtain ⟨a, xs, _, q, _⟩ := e
    cases q
  | dict ds =>
    unfold rp at e
    exact e.elim
theorem rpD_reads (ok : HOk P w H h) {d : PyData} {x : V} {u : Value} (e : rpD H d x) (r : RelV x u) : ∃ as, sysModules ∉ as ∧ Reads h u d as := by
  obtain ⟨a, kvs, ds, rfl, ea, rfl, q⟩ := e
  obtain rfl : u = Value.ref a := r
  obtain ⟨_, sys, vs, kv, o, es, ep, g, ex, dd, _, prs, _⟩ := (show ObjOk P w H h a (.dK kvs) from ok a _ ea)
  have hc : o.cls = .type "dict" := ex.1
  have both : ∀ {l : List (Key × V)} {m : List (Key × Value)} {c : List (PyData × PyData)} {el : List DictEntry}, KV l m → Pairs (mixKind P w) el m →
      Paired (fun (p : Key × V) (q : PyData × PyData) => q.1 = kdat0 p.1 ∧ rp (fun _ => none) q.2 p.2) l c →
      ReadsAll h (el.map (·.key)) (c.map (·.1)) [] ∧ ReadsAll h (el.map (·.val)) (c.map (·.2)) [] := by
    intro l
    induction l with
    | nil =>
      intro m c el k1 k2 k3
      cases k1
      cases k2
      cases k3
      exact ⟨.nil, .nil⟩
    | cons p l ih =>
      intro m c el k1 k2 k3
      cases k1 with
      | cons ka kb =>
        cases k2 with
        | cons ia ib ic =>
          cases k3 with
          | cons ja jb =>
            obtain ⟨i1, i2⟩ := ih kb ic jb
            obtain ⟨k0, kr⟩ := ka
            obtain ⟨j0, jr⟩ := ja
            rw [← k0] at ia
            refine ⟨?_, ?_⟩
            · have z := ReadsAll.cons (j0 ▸ key_reads ia) i1
              simpa using z
            · have z := ReadsAll.cons (flat_reads jr (ib ▸ kr)) i2
              simpa using z
  obtain ⟨r1, r2⟩ := both kv prs q
  refine ⟨_, ?_, .dict g hc dd r1 r2⟩
  simp only [List.append_nil, List.mem_singleton]
  intro z
  rw [z, beq_self_eq_true] at sys
  cases sys
end
section
variable {X : Cx}
/-- repr(x), x data -/
def rRepr : List V → Hp → VK → Prop := fun xs H Q => ∃ (x : V) (d : PyData), xs = [x] ∧ (rp H d x ∨ rpD H d x) ∧ d.showable = true ∧ d.depth ≤ 100 ∧ d.shown.length ≤ sizeLine ∧ Q (.str d.shown) H
theorem call_repr_data (hg : X.A.guards = some []) (hu : X.A.units + 150 < cLine) : CallR X (.builtin "repr") rRepr := by
  intro pins s σ H xs us Q I r h
  obtain ⟨x, d, rfl, hd, sh, dp, sz, q⟩ := h
  obtain ⟨u, rfl, ru⟩ : ∃ u, us = [u] ∧ RelV x u := by
    cases r with
    | cons r1 r2 =>
      cases r2
      exact ⟨_, rfl, r1⟩
  obtain ⟨as, hs, R⟩ : ∃ as, (d.hasDict = true → sysModules ∉ as) ∧ Reads s.heap u d as := by
    rcases hd with hd | hd
    · obtain ⟨nd, as, R⟩ := rp_reads I.hok d x u hd ru
      exact ⟨as, PyData.noDict_hsm nd, R⟩
    · obtain ⟨as, nm, R⟩ := rpD_reads I.hok hd ru
      exact ⟨as, fun _ => nm, R⟩
  have byRef : ∀ {a : Addr}, u = .ref a → wpAny (model X.prog X.w) X.A (call (.builtin "repr") [u]) (EP X pins σ Q) X.xe s := fun {a} e => by
    subst e
    exact repr_of_reads' R sh hs hg (by omega) (fun _ _ z => z) (fun h1 v tk k => ⟨.str d.shown, H, I.kept (t' := tk) k, ⟨_, rfl⟩, q⟩) sz
  cases R with
  | none => exact PySem.P.repr_of_none ⟨.str _, H, I.tok _, ⟨_, rfl⟩, q⟩
  | bool b => exact PySem.P.repr_of_bool ⟨.str _, H, I.tok _, ⟨_, rfl⟩, q⟩
  | int i t => exact PySem.P.repr_of_int (by simpa only [PyData.showable, decide_eq_true_eq] using sh) ⟨.str _, H, I.tok _, ⟨_, rfl⟩, q⟩
  | str z t => exact PySem.P.repr_of_str ⟨.str _, H, I.tok _, ⟨_, rfl⟩, q⟩ sz
  | list => exact byRef rfl
  | tuple => exact byRef rfl
  | dict => exact byRef rfl
end
end L2
set_option Elab.async false
set_option linter.all false
set_option maxRecDepth 100000
set_option maxHeartbeats 4000000
/-! Defs that are called where no repr is under way (so that repr of lists and dicts may be asked in them). -/
namespace L2
open PySem PySem.Spec PyProof.Rows
/-- the def at f keeps the promise sp wherever it is called with no guard standing; nothing is raised out of it -/
structure FnG (P : Program) (w : World) (K : PySem.W.Frag) (mg : Str → Option Value) (base : Heap) (k : Nat) (f : Addr) (fd : FuncData) (ps : List Str) (sp : Sp) : Prop where
  len : ∀ vs H Q E, sp vs H Q E → vs.length = ps.length
  run : ∀ (A : Around) (outer : List Env) (s : Shared) (H : Hp) (args : Args) (us : List Value) (vs : List V) (Q : VK), A.guards = some [] → Room k A →
    Env0 P w K mg base A outer s H → BindsTo s fd args (ps.zip us) → Vals vs us → sp vs H Q E0 → codeAny (model P w) A (.call (.ref f) args) (CR CX0 outer P w H s Q E0) s
section
variable {P : Program} {w : World} {K : PySem.W.Frag} {mg : Str → Option Value} {base : Heap} {k : Nat} {f : Addr} {fd : FuncData} {N ps : List Str} {sp : Sp}
theorem FnOk.toG (F : FnOk P w K mg base CX0 k f fd ps sp) : FnG P w K mg base k f fd ps sp :=
  ⟨F.len, fun A outer s H args us vs Q _ hr e0 hb r h => F.run A outer s H args us vs Q E0 hr e0 hb r h⟩
theorem Fun.okG {x qual : Str} {st : Stmt} (F : Fun K x qual st f fd) (S : FnScope N ps (defScope st)) (len : ∀ vs H Q E, sp vs H Q E → vs.length = ps.length)
    (hbody : ∀ (cdv : Value) (A : Around) (outer : List Env) (s : Shared) (H : Hp) (vs : List V) (Q : VK), A.guards = some [] → Room k (A.deeper (envOfC qual (defScope st) s.heap.objs.size f cdv)) → sp vs H Q E0 →
      ∃ t, PSs (cxOf CX0 P w K mg base N qual (defScope st) f cdv A outer s H E0).nox (defBody st) t ∧ t { nx := fun _ H1 => Q .non H1, rt := Q } (start N vs) H) :
    FnG P w K mg base (k + 1) f fd ps sp := by
  obtain ⟨oc, od, kV, doc, pm, an, cdv, ct, osl, rfl, lk, hcd⟩ := F.ex
  refine ⟨len, fun A outer s H args us vs Q hg hr e0 hb r hsp => ?_⟩
  have hl := len _ _ _ _ hsp
  have up : ∀ b o, base.get? b = some o → s.heap.get? b = some o := fun b o e => (e0.bs b o e).1
  have X1 : K.In s.heap := e0.mod.kin.keeps up
  have nl : s.heap.NoLimit := e0.mod.nolimit.keeps up
  have slots : ∀ y ∈ ps.zip us, (defScope st).names.lookup y.1 = some .local ∨
      ((defScope st).names.lookup y.1 = some .cell ∧ ((cellsFrom (s.heap.objs.size + 1) (defScope st).names []).lookup y.1).isSome = true) := fun ⟨n, v⟩ hy =>
    (S.par n (List.of_mem_zip hy).1).elim (fun q => .inl q) fun q => .inr ⟨q, PySem.W.cellsFrom_some _ _ _ (.inl q)⟩
  refine codeAny_call_function hr.depth (X1 _ _ lk) rfl S.co S.gen rfl (PySem.W.codeRec_of X1 hcd) (hb _ _ _ _ ?_)
  refine wpAny_newFunctionEnv_cells S.kind slots fun env he s1 x1 => ?_
  subst he
  refine ⟨nl.keeps x1.toInCall.keep, codeAny_func ?_⟩
  obtain ⟨t, ht, hq⟩ := hbody cdv A outer s H vs Q hg (hr.deeper _) hsp
  have J : Inv (cxOf CX0 P w K mg base N qual (defScope st) f cdv A outer s H E0) [] (start N vs) H s1 := inv_start S hr.hd e0 hl r x1
  refine wpAny_mono (ht.nox.run [] s1 (start N vs) H _ J hq) (fun fl s2 hs => ?_) fun e s2 hs => hs
  cases fl with
  | ret u =>
    obtain ⟨v, σ1, H1, I1, rv, q⟩ := hs
    exact ⟨v, H1, I1.os, I1.bare, I1.base, I1.hok, rv, q⟩
  | next =>
    obtain ⟨σ1, H1, I1, q⟩ := hs
    exact ⟨.non, H1, I1.os, I1.bare, I1.base, I1.hok, rfl, q⟩
  | brk =>
    obtain ⟨_, _, _, q⟩ := hs
    exact q.elim
  | cont =>
    obtain ⟨_, _, _, q⟩ := hs
    exact q.elim
end
section
variable {X : Cx} {k : Nat} {f : Addr} {fd : FuncData} {ps : List Str} {sp : Sp} {x : Str} {p pos : Pos} {e : Expr} {es : List Expr} {t : TA}
theorem run_g {pins : List (Addr × Obj)} {σ : St} {H : Hp} {s : Shared} {Q : VK} {us : List Value} {vs : List V} (F : FnG X.prog X.w X.K X.mg X.base k f fd ps sp) (hg : X.A.guards = some []) (hr : Room k X.A) (hb : Binds X.K fd ps [])
    (I : Inv X pins σ H s) (r : Vals vs us) (h : sp vs H Q E0) : wpAny (model X.prog X.w) X.A (call (.ref f) us) (EP X pins σ Q) X.xe s := by
  have hl : us.length = ps.length := by
    rw [← r.length]
    exact F.len _ _ _ _ h
  have b := hb s us I.kIn (by rw [List.append_nil]; exact hl)
  rw [List.append_nil] at b
  refine wpAny_call (codeAny_mono (F.run X.A X.stack s H ⟨us, []⟩ us vs Q hg hr I.env0 b r h) fun r1 s1 hq => ?_)
  cases r1 with
  | error er => exact hq.elim
  | ok fl =>
    cases fl with
    | ret u => exact I.after hq
    | next => exact False.elim hq
    | brk => exact False.elim hq
    | cont => exact False.elim hq
/-- f(e, ..) of such a def -/
theorem pe_callNG (F : FnG X.prog X.w X.K X.mg X.base k f fd ps sp) (hgd : X.A.guards = some []) (hr : Room k X.A) (hg : Gl X x) (hm : X.mg x = some (.ref f)) (hk : PySem.W.keepIn X.K (.ref f) = true) (hb : Binds X.K fd ps [])
    (ha : PA X (e :: es) t) (hdb : (x == ("__debug__" : Str)) = false := by decide) (he : starEach (e :: es) X.env = (false, eval e X.env) :: starEach es X.env := by rfl)
    (hpl : (backTo pos (starEach es X.env)).any (·.1) = false := by rfl) : PE X (.Call (.Name x p) (e :: es) [] pos) (fun σ H Q => t σ H fun vs H1 => sp vs H1 Q E0) := by
  refine ⟨fun pins s σ H Q I h => ?_⟩
  refine wpAny_Call_Name_kw (ld_glob I hg hm ?_ hdb)
  exact PySem.W.callWith_K (h₀ := X.base) I.ok.mod.kin hk (thn (ha.run pos pins s σ H _ I h) fun us s1 ⟨vs, H1, I1, r, q⟩ => ⟨I1.kIn, run_g F hgd hr hb I1 r q⟩) he hpl
end
/-! ### the law's own call -/
section
variable {P : Program} {w : World} {K : PySem.W.Frag} {mg mb : Str → Option Value} {k : Nat} {fa a : Addr} {fd : FuncData} {x : Str} {sp : Sp} {s1 : Shared} {vs : List Value} {ns : List Int}
theorem law_callG_at (KX : K.In s1.heap) (hns : s1.heap.Ns mainGlobals mg) (hb : s1.heap.Ns builtinsNs mb) (hbb : ∀ y : Str, y ≠ "__name__" → mb y = bootBuiltins y) (hlim : s1.heap.NoLimit) (hgn : s1.gens = #[])
    (ha : s1.heap.get? a = some { cls := .type "list", data := .seq vs.toArray }) (hr : Room k callerA)
    (F : ∀ base : Heap, K.In base → base.Ns mainGlobals mg → FnG P w K mg base k fa fd [x] sp) (hbind : ∀ (s : Shared) (u : Value), BindsTo s fd ⟨[u], []⟩ [(x, u)])
    (H : Hp) (hO : Only H) (hsp : sp [.ref a] H (fun v _ => v = .bl true) E0) (hok : HOk P w H s1.heap) (hA : ∀ b, H b ≠ none → b = a) (hK : H a ≠ none → K.lookup a = none) :
    codeAny (model P w) callerA (.call (.ref fa) ⟨[.ref a], []⟩) (fun r s2 => r = .ok (.ret (.bool true)) ∧ OldK s1.heap s2.heap ∧ s2.os = s1.os ∧ AllBare s2.gens) s1 := by
  have stay : ∀ {b : Addr} {o : Obj}, s1.heap.get? b = some o → H b = none → (hidT s1.heap H).get? b = some o := fun e n => hidT_get e n
  have dictFree : ∀ {b : Addr} {o : Obj} {es : Array DictEntry} {ep : Nat}, s1.heap.get? b = some o → o.data = .dict es ep → H b = none := fun {b o es ep} e d => by
    cases q : H b with
    | none => rfl
    | some u =>
      obtain rfl : b = a := hA b (by rw [q]; simp)
      rw [ha] at e
      cases e
      exact absurd (show Data.seq vs.toArray _ = Data.dict es ep from d) (fun z => by cases z)
  have names : ∀ {b : Addr} {m : Str → Option Value}, s1.heap.Ns b m → (hidT s1.heap H).Ns b m := fun {b m} ⟨o, es, ep, e, d, r⟩ => ⟨o, es, ep, stay e (dictFree e d), d, r⟩
  have KB : K.In (hidT s1.heap H) := fun b o e => stay (KX b o e) (by
    cases q : H b with
    | none => rfl
    | some u =>
      obtain rfl : b = a := hA b (by rw [q]; simp)
      rw [hK (by rw [q]; simp)] at e
      cases e)
  have md : Mod K mg (hidT s1.heap H) := ⟨KB, names hns, ⟨mb, names hb, hbb⟩, let ⟨mc, h1, h2⟩ := hlim; ⟨mc, names h1, h2⟩⟩
  have start0 : Env0 P w K mg (hidT s1.heap H) callerA [] s1 H :=
    ⟨rfl, md, fun b o e => of_hidT e, Nat.le_of_eq (hidT_size _ _), trivial, fun b hb => absurd (show b ∈ ([] : List Addr) from hb) (by simp), hok, .of_eq hgn⟩
  refine codeAny_mono ((F _ KB (names hns)).run callerA [] s1 H ⟨[.ref a], []⟩ [.ref a] [.ref a] _ rfl hr start0 (hbind s1 (.ref a)) (.cons rfl .nil) hsp) fun r s2 h => ?_
  cases r with
  | error e => exact False.elim h
  | ok fl =>
    cases fl with
    | next => exact False.elim h
    | brk => exact False.elim h
    | cont => exact False.elim h
    | ret u =>
      obtain ⟨v, H2, os, bare, un, ok2, rv, q⟩ := h
      obtain rfl : v = .bl true := q
      obtain rfl : u = Value.bool true := rv
      refine ⟨rfl, OldK.of_keep fun b o e => ?_, os, bare⟩
      have nox : b ∉ ([] : List Addr) := by simp
      cases q : H b with
      | none => exact un.keep b o e q (fun z => absurd (show b ∈ ([] : List Addr) from z) nox) nox
      | some u =>
        rcases hO b with z | ⟨ob, xs, z⟩
        · rw [q] at z
          cases z
        · obtain ⟨e1, _⟩ := hok b _ z
          obtain ⟨e2, _⟩ := ok2 b _ (un.frzs b ob _ z)
          rw [e] at e1
          cases e1
          exact e2
theorem law_callG (KX : K.In s1.heap) (hns : s1.heap.Ns mainGlobals mg) (hb : s1.heap.Ns builtinsNs mb) (hbb : ∀ y : Str, y ≠ "__name__" → mb y = bootBuiltins y) (hlim : s1.heap.NoLimit) (hgn : s1.gens = #[])
    (ha : s1.heap.get? a = some { cls := .type "list", data := .seq vs.toArray }) (hi : IntsAre vs ns) (hl : ns.length ≤ sizeLine) (hr : Room k callerA)
    (F : ∀ base : Heap, K.In base → base.Ns mainGlobals mg → FnG P w K mg base k fa fd [x] sp) (hbind : ∀ (s : Shared) (u : Value), BindsTo s fd ⟨[u], []⟩ [(x, u)])
    (hsp : ∀ H : Hp, Only H → SqL K H a (ns.map V.int) → sp [.ref a] H (fun v _ => v = .bl true) E0) :
    codeAny (model P w) callerA (.call (.ref fa) ⟨[.ref a], []⟩) (fun r s2 => r = .ok (.ret (.bool true)) ∧ OldK s1.heap s2.heap ∧ s2.os = s1.os ∧ AllBare s2.gens) s1 := by
  have rv := vals_ints hi
  have lenV := hi.length
  cases hk : K.lookup a with
  | some o =>
    have e := KX a o hk
    rw [ha] at e
    cases e
    have only : Only (fun _ => none) := fun _ => .inl rfl
    have told : SqL K (fun _ => none) a (ns.map V.int) :=
      .inr ⟨_, vs.toArray, _, hk, rfl, rfl, rfl, by rw [List.size_toArray, lenV]; exact hl, by simpa using rv⟩
    exact law_callG_at KX hns hb hbb hlim hgn ha hr F hbind (fun _ => none) only (hsp _ only told) (fun b u z => by cases z) (fun b z => absurd rfl z) fun z => absurd rfl z
  | none =>
    let H : Hp := fun b => if b = a then some (.frz { cls := .type "list", data := .seq vs.toArray } (.lst (ns.map V.int))) else none
    have at_a : H a = some (.frz { cls := .type "list", data := .seq vs.toArray } (.lst (ns.map V.int))) := if_pos rfl
    have off : ∀ {b : Addr}, b ≠ a → H b = none := fun hb => if_neg hb
    have only : Only H := fun b => by
      by_cases hb : b = a
      · exact .inr ⟨_, _, if_pos hb⟩
      · exact .inl (off hb)
    refine law_callG_at KX hns hb hbb hlim hgn ha hr F hbind H only (hsp H only (.inl (.inr ⟨_, at_a⟩))) (fun b u z => ?_) (fun b z => ?_) fun _ => hk
    · by_cases hb : b = a
      · subst hb
        rw [at_a] at z
        cases z
        exact ⟨ha, by rw [List.length_map]; exact hl, vs, _, rv, ha⟩
      · rw [off hb] at z
        cases z
    · by_cases hb : b = a
      · exact hb
      · exact absurd (off hb) z
end
theorem walk_ofG {l : PySem.W.OpenLaw} {n k : Nat} {q : Program} {loose : List Str} {XP : (Str → Option Value) → Heap → Prop} {YP : World → Heap → Prop} {d : DefRec} {K : Params → PySem.W.Frag} {sp : PySem.W.Frag → Sp} {x : Str}
    (hn : l.most = some n) (hn2 : n ≤ sizeLine) (hdf : d.params.defaults = []) (hr : Room k callerA) (hY : ∀ (w : World) (h : Heap), YP w h → (K w.params).In h)
    (F : ∀ (w : World) (mg : Str → Option Value) (fa : Addr) (h : Heap), (K w.params).In h → h.Ns mainGlobals mg → mg d.name = some (.ref fa) →
      ∃ fd : FuncData, (∀ (s : Shared) (u : Value), BindsTo s fd ⟨[u], []⟩ [(x, u)]) ∧
        ∀ base : Heap, (K w.params).In base → base.Ns mainGlobals mg → FnG l.prog w (K w.params) mg base k fa fd [x] (sp (K w.params)))
    (hsp : ∀ (K : PySem.W.Frag) (H : Hp) (a : Addr) (ns : List Int), ns.length ≤ n → Only H → SqL K H a (ns.map V.int) → sp K [.ref a] H (fun v _ => v = .bl true) E0) :
    PySem.W.WalkO q loose XP YP l.row.toRowW d [] (fun f vs => PySem.call f vs) := by
  refine Att.attach_call hn hdf fun w s₀ s₁ mg mb fa o pm cd doc a vs ns G Y ho hd hcd hmg hobj hints hlen hgn => ?_
  have KX := hY w _ Y
  obtain ⟨fd, hb, hF⟩ := F w mg fa _ KX G.T.g hmg
  exact law_callG KX G.T.g G.T.b G.T.builtins G.T.nolimit hgn hobj hints (Nat.le_trans hlen hn2) hr hF hb fun H hO hS => hsp (K w.params) H a ns hlen hO hS
end L2
set_option Elab.async false
set_option linter.all false
set_option maxRecDepth 100000
set_option maxHeartbeats 4000000
namespace L2
open PySem PySem.Spec PyProof.Rows PySem.ErrV
section
variable {X : Cx} {C fI : Addr} {x : Str} {B nw ini : String} {bmB : List Value} {p pos : Pos}
/-- C(), no __init__ of its own -/
theorem pe_bare (F : ExcBaseFacts B nw ini bmB) (q : PySem.W.excIn X.K C bmB nw = true) (gC : X.mg x = some (.ref C)) (kC : PySem.W.keepIn X.K (.ref C) = true) (hg : Gl X x) (hdb : (x == ("__debug__" : Str)) = false := by decide) :
    PE X (.Call (.Name x p) [] [] pos) (fun σ H Q => ∀ a, H a = none → Q (.ref a) (upd H a (exo a C none))) := by
  refine ⟨fun pins s σ H Q I h => ?_⟩
  refine wpAny_Call_Name_kw (ld_glob I hg gC ?_ hdb)
  refine PySem.W.callWith_K0 I.kIn kC ?_
  show wpAny _ _ (call (.ref C) []) _ _ _
  obtain ⟨bm, N, nm, qn, bs, hdct, sn, sub, ab, col, dd, k0, k1, k2, k3, k5, mN, hC, hN, hni, T⟩ := exc_obj I.kIn q
  refine wpAny_call_exc_subT F T hC hN hni (fun h1 a hm => ?_) (by show 0 ≤ sizeLine; exact Nat.zero_le _)
  have hn : H a = none := I.hok.gone hm.new
  obtain ⟨t, ht, _, _⟩ := hm.there
  exact ⟨.ref a, upd H a (exo a C none), I.laidN hm.keeps hm.new hn (exo_ok ht), rfl, h a hn⟩
/-- C(), __init__ does nothing -/
theorem pe_pass0 (T : PassC X.K X.mg x C fI nw bmB) (Bo : BaseOk B nw ini bmB) (hr : Room 1 X.A) (hg : Gl X x) (hdb : (x == ("__debug__" : Str)) = false := by decide) :
    PE X (.Call (.Name x p) [] [] pos) (fun σ H Q => ∀ a, H a = none → Q (.ref a) (upd H a (exo a C none))) := by
  refine ⟨fun pins s σ H Q I h => ?_⟩
  refine wpAny_Call_Name_kw (ld_glob I hg T.gC ?_ hdb)
  refine PySem.W.callWith_K0 I.kIn T.kC ?_
  show wpAny _ _ (call (.ref C) []) _ _ _
  refine wpAny_call (pass_made T Bo I.kIn I.nolimit (by have := hr.dp; omega) fun h1 tk a u k big ho => ?_)
  exact ⟨.ref a, upd H a (exo a C none), I.laid (t' := tk) k big (exo_ok ho), rfl, h a (I.hok.fresh big)⟩
end
/-- ways joined: what is wanted of an expression, said in between -/
def tJoin0 (te : TE) : TE := fun σ H Q => ∃ R : VK, te σ H R ∧ ∀ v H1, R v H1 → Q v H1
theorem pe_join0 {X : Cx} {e : Expr} {te : TE} (he : PE X e te) : PE X e (tJoin0 te) := ⟨fun pins s σ H Q I h => by
  obtain ⟨R, h1, h2⟩ := h
  exact thn (he.run pins s σ H R I h1) fun u s1 ⟨v, H1, I1, r, q⟩ => ⟨v, H1, I1, r, h2 v H1 q⟩⟩
end L2
set_option Elab.async false
set_option linter.all false
set_option maxRecDepth 100000
set_option maxHeartbeats 4000000
namespace LJ
open PySem L2
def top (i : Nat) : Stmt := PySem.Challenge.pw_tracebounds_k01_limits_and_errors.main.body.getD i (.Pass ⟨0, 0, 0, 0⟩)
abbrev sDip : Stmt := top 43
abbrev sOne : Stmt := top 44
abbrev sJar : Stmt := top 45
/-- where draws come from: a list of three numbers, the middle one small -/
def JarAt (H : Hp) (j : Addr) : Prop := ∃ (d m c : Int), H j = some (.lst [.int d, .int m, .int c]) ∧ 0 ≤ m ∧ m < 2147483249
/-- all but j stays -/
def But (j : Addr) (H H1 : Hp) : Prop := ∀ b o, b ≠ j → H b = some o → H1 b = some o
def spDip : Sp := fun vs H Q _ => ∃ (j : Addr) (t : Int), vs = [.ref j, .int t] ∧ JarAt H j ∧ 0 < t ∧ t < 1073741824 ∧
  ∀ (r : Int) (H1 : Hp), 0 ≤ r → r < t → JarAt H1 j → But j H H1 → Q (.int r) H1
/-- built-ins that are still what they were -/
structure Blt (mg : Str → Option Value) : Prop where
  divmod : mg "divmod" = none
  int : mg "int" = none
  len : mg "len" = none
  abs : mg "abs" = none
section
variable {P : Program} {w : World} {K : PySem.W.Frag} {mg : Str → Option Value} {base : Heap}
theorem scDip : FnScope ["_law_jar_here", "_law_top", "_law_digit"] ["_law_jar_here", "_law_top"] (defScope sDip) := ⟨rfl, rfl, rfl, by decide +kernel, rfl, by decide +kernel, by decide +kernel⟩
theorem ok_dip {f : Addr} {fd : FuncData} (F : Fun K "_law_dip" "_law_dip" sDip f fd) (T : Blt mg) : FnOk P w K mg base CX0 1 f fd ["_law_jar_here", "_law_top"] spDip := by
  refine F.ok scDip (fun vs H Q E h => ?_) (fun cdv A outer s H vs Q E hr h => ?_)
  · obtain ⟨j, t, rfl, _⟩ := h
    rfl
  · obtain ⟨j, t, rfl, ⟨d, m, c, hj, m0, m1⟩, t0, t1, k⟩ := h
    refine ⟨_, pss_cons (ps_asg (pe_op op_add (pe_ix ix_list (pv 0) pe_int (fun _ _ => rfl)) pe_int) (pg_sub (pv 0) pe_int set_list))
      (pss_cons (ps_if (pt_cmpR op_gt (pe_ix ix_list (pv 0) pe_int (fun _ _ => rfl)) pe_int (nomark _))
        (pss_cons (ps_asg (pe_callB call_divmod (by rfl) T.divmod (by decide +kernel) (pa_cons (pe_ix ix_list (pv 0) pe_int (fun _ _ => rfl)) (pa_cons (pv 1) pa_nil)))
          (pg_tup (by rfl) (pgs_cons (pg_sub (pv 0) pe_int set_list) (pgs_cons (pg_name (i := 2) scDip.nd rfl (Or.inl rfl)) pgs_nil))))
        (pss_one (ps_ret (pv 2)))) pss_nil)
      (pss_cons (ps_asg (pe_op op_mod (pe_callTy call_int1 (by rfl) T.int (by decide +kernel) (pa_cons (pe_op op_add (pe_op op_mul (pe_ix ix_list (pv 0) pe_int (fun _ _ => rfl)) pe_int) (pe_op op_mul pe_int (pe_ix ix_list (pv 0) pe_int (fun _ _ => rfl)))) pa_nil)) pe_int)
          (pg_sub (pv 0) pe_int set_list))
      (pss_one (ps_ret (pe_op op_mod (pe_callTy call_int1 (by rfl) T.int (by decide +kernel) (pa_cons (pe_op op_fdiv (pe_ix ix_list (pv 0) pe_int (fun _ _ => rfl)) pe_int) pa_nil)) (pv 1)))))), ?_⟩
    refine ⟨_, rfl, j, _, 2, .int c, rfl, rfl, SqL.of hj, rfl, _, _, rfl, rfl, _, rfl, j, _, 2, 2, rfl, rfl, hj, rfl, ?_⟩
    have h1 : ∀ v, (upd H j (.lst [.int d, .int m, v])) j = some (.lst [.int d, .int m, v]) := fun v => upd_same
    have b1 : ∀ o, But j H (upd H j o) := fun o b z hb hz => by
      rw [upd_ne hb]
      exact hz
    refine ⟨_, rfl, j, _, 0, .int d, rfl, rfl, SqL.of (h1 _), rfl, _, _, rfl, rfl, _, rfl, ?_⟩
    refine ite2 (fun c0 => ?_) (fun c0 => ?_)
    · refine ⟨_, rfl, j, _, 0, .int d, rfl, rfl, SqL.of (h1 _), rfl, _, rfl, _, _, rfl, ⟨t0, t1⟩, fun p hp => ?_⟩
      have jp : j ≠ p := ne_of_none (h1 _) hp
      refine ⟨p, _, rfl, SqT.of upd_same, rfl, ?_⟩
      refine ⟨_, _, rfl, _, rfl, j, _, 0, 0, rfl, rfl, (by rw [upd_ne jp]; exact h1 _), rfl, ?_⟩
      refine ⟨_, _, rfl, rfl, ?_⟩
      refine ⟨_, rfl, ?_⟩
      refine k (d % t) _ (Int.emod_nonneg _ (by omega)) (Int.emod_lt_of_pos _ t0) ⟨d / t, m, c + 1, upd_same, m0, m1⟩ fun b o hb hz => ?_
      rw [upd_ne hb, upd_ne (ne_of_none (b1 _ b o hb hz) hp), upd_ne hb]
      exact hz
    · refine ⟨_, rfl, j, _, 1, .int m, rfl, rfl, SqL.of (h1 _), rfl, _, _, rfl, rfl, .inl ⟨by omega, by omega⟩, _, rfl, j, _, 2, .int (c + 1), rfl, rfl, SqL.of (h1 _), rfl, _, _, rfl, rfl, .inl ⟨by omega, by omega⟩, _, _, rfl, rfl, .inl ⟨_, rfl, ?_⟩⟩
      refine ⟨_, _, rfl, rfl, (by show (0 : Int) < 2147483249; decide), _, rfl, j, _, 1, 1, rfl, rfl, h1 _, rfl, ?_⟩
      refine ⟨_, rfl, j, _, 1, _, rfl, rfl, SqL.of upd_same, rfl, _, _, rfl, rfl, ⟨by decide, by decide⟩, .inl ⟨_, rfl, ?_⟩⟩
      refine ⟨_, rfl, _, _, rfl, rfl, t0, ?_⟩
      refine k _ _ (Int.emod_nonneg _ (by omega)) (Int.emod_lt_of_pos _ t0) ⟨d, _, c + 1, upd_same, Int.emod_nonneg _ (by decide), Int.emod_lt_of_pos _ (by decide)⟩ fun b o hb hz => ?_
      rw [upd_ne hb, upd_ne hb]
      exact hz
theorem But.seq {j l : Addr} {H H1 : Hp} {o : HO} (b : But j H H1) (h : H l = some o) (n : l ≠ j) : H1 l = some o := b l o n h
def spOne : Sp := fun vs H Q _ => ∃ (j l : Addr) (xs : List V), vs = [.ref j, .ref l] ∧ JarAt H j ∧ H l = some (.lst xs) ∧ l ≠ j ∧ 0 < xs.length ∧ xs.length < 100000 ∧
  ∀ (n : Nat) (v : V) (H1 : Hp), xs[n]? = some v → JarAt H1 j → But j H H1 → Q v H1
theorem scOne : FnScope ["_law_jar_here", "_law_some"] ["_law_jar_here", "_law_some"] (defScope sOne) := ⟨rfl, rfl, rfl, by decide +kernel, rfl, by decide +kernel, by decide +kernel⟩
theorem ok_one {f fD : Addr} {fd fdD : FuncData} (F : Fun K "_law_one_of" "_law_one_of" sOne f fd) (T : Blt mg) (FD : Fun K "_law_dip" "_law_dip" sDip fD fdD) (bD : Binds K fdD ["_law_jar_here", "_law_top"] []) (mD : mg "_law_dip" = some (.ref fD)) :
    FnOk P w K mg base CX0 2 f fd ["_law_jar_here", "_law_some"] spOne := by
  have GD : FnOk P w K mg base CX0 1 fD fdD ["_law_jar_here", "_law_top"] spDip := ok_dip FD T
  refine F.ok scOne (fun vs H Q E h => ?_) (fun cdv A outer s H vs Q E hr h => ?_)
  · obtain ⟨j, l, xs, rfl, _⟩ := h
    rfl
  · obtain ⟨j, l, xs, rfl, J, hl, nl, p0, p1, k⟩ := h
    refine ⟨_, pss_one (ps_ret (pe_ix ix_list (pv 1) (pe_call GD hr (by rfl) mD FD.kp bD .nil pass0 (pa_cons (pv 0) (pa_cons (pe_callB call_len_seq (by rfl) T.len PySem.boot_len (pa_cons (pv 1) pa_nil)) pa_nil))) (fun _ _ => rfl))), ?_⟩
    refine ⟨_, rfl, _, rfl, _, rfl, l, _, rfl, .inl (SqL.of hl), j, (xs.length : Int), rfl, J, by omega, by omega, fun r H1 r0 r1 J1 bt => ?_⟩
    obtain ⟨v, hv⟩ : ∃ v, xs[r.toNat]? = some v := ⟨xs[r.toNat]'(by omega), List.getElem?_eq_getElem (by omega)⟩
    refine ⟨l, xs, r, v, rfl, rfl, SqL.of (bt.seq hl nl), ?_, k r.toNat v H1 hv J1 bt⟩
    unfold atI ixN
    rw [if_pos r0, if_pos r1]
    exact hv
theorem same_new {H H1 : Hp} {p : Addr} {o : HO} (s : Same H H1) (n : H1 p = none) : Same H (upd H1 p o) := fun b z e => by
  rw [upd_ne (ne_of_none (s b z e) n)]
  exact s b z e
def spJar (K : PySem.W.Frag) : Sp := fun vs H Q _ => ∃ (a : Addr) (ns : List Int) (t : Int), vs = [.ref a, .int t] ∧ SqL K H a (ns.map V.int) ∧ ns.length ≤ 63 ∧ 0 ≤ t ∧ t ≤ 100 ∧
  ∀ (j : Addr) (H1 : Hp), H j = none → Same H H1 → JarAt H1 j → Q (.ref j) H1
theorem scJar : FnScope ["_law_cells", "_law_turn", "_law_cell", "_law_mixed", "_law_each"] ["_law_cells", "_law_turn"] (defScope sJar) := ⟨rfl, rfl, rfl, by decide +kernel, rfl, by decide +kernel, by decide +kernel⟩
theorem ok_jar {f : Addr} {fd : FuncData} (F : Fun K "_law_jar" "_law_jar" sJar f fd) (T : Blt mg) : FnOk P w K mg base CX0 1 f fd ["_law_cells", "_law_turn"] (spJar K) := by
  refine F.ok scJar (fun vs H Q E h => ?_) (fun cdv A outer s H vs Q E hr h => ?_)
  · obtain ⟨j, l, xs, rfl, _⟩ := h
    rfl
  · obtain ⟨a, ns, t, rfl, hS, hn, t0, t1, k⟩ := h
    refine ⟨_, pss_cons (ps_set (i := 2) scJar.nd rfl (Or.inl rfl) (pe_join0 (pe_ifExp (pt_cmpR op_lt (pv 1) (pe_callB call_len_seq (by rfl) T.len PySem.boot_len (pa_cons (pv 0) pa_nil)) (nomark _))
        (pe_ix ix_list (pv 0) (pv 1) (fun _ _ => rfl)) (pe_op op_add (pe_op op_mul pe_int (pv 1)) pe_int))))
      (pss_cons (ps_set (i := 3) scJar.nd rfl (Or.inl rfl) (pe_op op_add pe_int (pe_op op_mul pe_int (pv 1))))
      (pss_cons (ps_for PassesOwn.never rfl (pi_list (pe_op op_cat (pe_slice sl_list (pv 0) po_none (po_some pe_int)) (pe_lst (pa_cons (pv 2) pa_nil)))) (pg_name (i := 4) scJar.nd rfl (Or.inl rfl))
        (pss_one (ps_set (i := 3) scJar.nd rfl (Or.inl rfl) (pe_op op_mod (pe_callTy call_int1 (by rfl) T.int (by decide +kernel) (pa_cons (pe_op op_add (pe_op op_mul (pv 3) pe_int) (pv 4)) pa_nil)) pe_int))))
      (pss_one (ps_ret (pe_lst (pa_cons (pe_join0 (pe_ifExp (PW.pt (pw_or (pt_cmpR op_lt (pv 2) pe_int (nomark _)) (pw_or1 (pt_cmpR op_ge (pv 2) (pe_op op_pow pe_int pe_int) (nomark _)))))
        (pe_callB call_abs (by rfl) T.abs (by decide +kernel) (pa_cons (pv 2) pa_nil)) pe_int)) (pa_cons (pv 3) (pa_cons pe_int pa_nil)))))))), ?_⟩
    refine ⟨fun v H1 => (∃ z : Int, v = .int z) ∧ H1 = H, ?_, ?_⟩
    · refine ⟨_, rfl, _, rfl, a, _, rfl, .inl hS, _, _, rfl, rfl, _, rfl, ?_⟩
      refine ite2 (fun c => ?_) (fun c => ?_)
      · have c1 : t < (ns.length : Int) := by
          have z := of_decide_eq_true c
          rw [List.length_map] at z
          exact z
        obtain ⟨z, hz⟩ : ∃ z, ns[t.toNat]? = some z := ⟨ns[t.toNat]'(by omega), List.getElem?_eq_getElem (by omega)⟩
        refine ⟨_, rfl, _, rfl, a, _, t, .int z, rfl, rfl, hS, ?_, ⟨z, rfl⟩, rfl⟩
        unfold atI ixN
        rw [if_pos t0, if_pos (by rw [List.length_map]; exact c1), Option.bind_some, List.getElem?_map, hz]
        rfl
      · exact ⟨_, rfl, _, _, rfl, rfl, .inl ⟨by omega, by omega⟩, _, _, rfl, rfl, ⟨_, rfl⟩, rfl⟩
    · rintro v H1 ⟨⟨z, rfl⟩, rfl⟩
      refine ⟨_, rfl, _, _, rfl, rfl, .inl ⟨by omega, by omega⟩, _, _, rfl, rfl, ?_⟩
      refine ⟨_, rfl, 5, rfl, a, _, rfl, hS, fun p hp => ?_⟩
      refine ⟨_, rfl, (by show 1 ≤ sizeLine; rw [sizeLine_eq]; decide), fun l hl => ?_⟩
      have pl : p ≠ l := ne_of_none upd_same hl
      have cl : (cutV (ns.map V.int) none (some 5)).length ≤ 63 := by
        have z1 := cutV_length (ns.map V.int) none (some 5)
        rw [List.length_map] at z1
        omega
      refine ⟨p, l, _, _, rfl, rfl, (by rw [upd_ne pl]; exact upd_same), upd_same, (by rw [sizeLine_eq]; show (cutV (ns.map V.int) none (some 5)).length + 1 ≤ 16777216; omega), fun q hq => ?_⟩
      have allI : ∀ (i : Nat) (y : V), (cutV (ns.map V.int) none (some 5) ++ [V.int z])[i]? = some y → ∃ e : Int, y = .int e := by
        intro i y hy
        have hm := List.mem_of_getElem? hy
        rcases List.mem_append.mp hm with hm | hm
        · have h2 := List.mem_of_mem_drop (List.mem_of_mem_take hm)
          obtain ⟨e, _, he⟩ := List.mem_map.mp h2
          exact ⟨e, he.symm⟩
        · exact ⟨z, List.mem_singleton.mp hm⟩
      have s1 : ∀ o, Same H1 (upd _ q o) := fun o => same_new (same_new (same_new (fun _ _ z => z) hp) hl) hq
      refine ⟨q, rfl, ⟨_, SqL.of upd_same⟩, for_list (K := K) (a := q) (xs := cutV (ns.map V.int) none (some 5) ++ [V.int z]) (fun i σ H2 => ∃ (m : Int) (v : Option V),
        σ = [some (.ref a), some (.int t), some (.int z), some (.int m), v] ∧ 0 ≤ m ∧ m < 2147483249 ∧ Same H1 H2 ∧ H2 q = some (.lst (cutV (ns.map V.int) none (some 5) ++ [V.int z])))
        ⟨_, none, rfl, by omega, by omega, s1 _, upd_same⟩ (fun i σ H2 _ ⟨_, _, _, _, _, _, h⟩ => SqL.of h) ?_ ?_⟩
      · rintro i y σ H2 hi ⟨m, v, rfl, m0, m1, s2, hq2⟩
        obtain ⟨e, rfl⟩ := allI i y hi
        refine ⟨_, rfl, _, _, rfl, rfl, .inl ⟨by omega, by omega⟩, _, rfl, _, _, rfl, rfl, .inl ⟨_, rfl, ?_⟩⟩
        refine ⟨_, _, rfl, rfl, (by show (0 : Int) < 2147483249; decide), ?_⟩
        exact ⟨_, _, rfl, Int.emod_nonneg _ (by decide), Int.emod_lt_of_pos _ (by decide), s2, hq2⟩
      · rintro σ H2 ⟨m, v, rfl, m0, m1, s2, hq2⟩
        refine ⟨fun v H3 => (∃ d : Int, v = .int d) ∧ H3 = H2, ?_, ?_⟩
        · refine ⟨_, rfl, _, _, rfl, rfl, _, rfl, ?_⟩
          refine ite2 (fun c => ⟨_, rfl, _, rfl, ⟨_, rfl⟩, rfl⟩) (fun c => ?_)
          refine ⟨_, rfl, _, _, rfl, rfl, ⟨by decide, by decide, by decide⟩, _, _, rfl, rfl, _, rfl, ?_⟩
          exact ite2 (fun c => ⟨_, rfl, _, rfl, ⟨_, rfl⟩, rfl⟩) (fun c => ⟨⟨_, rfl⟩, rfl⟩)
        · rintro v H3 ⟨⟨d, rfl⟩, rfl⟩
          refine ⟨_, rfl, (by show 3 ≤ sizeLine; rw [sizeLine_eq]; decide), fun j hj => ?_⟩
          have nj : H1 j = none := by
            cases e : H1 j with
            | none => rfl
            | some o =>
              rw [s2 j o e] at hj
              cases hj
          exact k j _ nj (same_new s2 hj) ⟨d, m, 0, upd_same, m0, m1⟩
end
end LJ
set_option Elab.async false
set_option linter.all false
set_option maxRecDepth 100000
set_option maxHeartbeats 4000000
namespace LJ
open PySem L2 PySem.ErrV
abbrev sSorts : Stmt := top 46
/-- the names of the own classes, in the law's order -/
def nm : List Str := ["InvalidText", "InvalidLot", "InvalidBound", "InvalidName", "InvalidClaim", "InvalidIndex", "InvalidOther", "InvalidLine", "NotWorks", "NotAPlan", "NotARule", "NotAPart", "InvalidMachines", "InvalidCleanings", "InvalidStuffs", "InvalidProducts", "InvalidDeeds", "InvalidTable", "InvalidRow", "InvalidChanges", "InvalidOrdered", "UnknownName", "Broken", "InUse", "NothingToUndo", "WrongValue", "WrongName", "NoAnswer"]
/-- which of the three bases -/
def under (i : Nat) : Nat := if i < 21 then 0 else if i = 21 then 1 else if i < 25 then 2 else i - 25
/-- whether an error of class i is one of class j (from 28 on: Python's own three) -/
def tbl (i j : Nat) : Bool := decide (i = j) || decide (j = 25 + under i) || decide (j = 28 + under i)
def tgt (c : Nat → Addr) (j : Nat) : Value := if j < 28 then .ref (c j) else .type (["ValueError", "LookupError", "ArithmeticError"].getD (j - 28) "")
structure Cl (K : PySem.W.Frag) (mg : Str → Option Value) (c : Nat → Addr) : Prop where
  g : ∀ i, i < 28 → mg (nm.getD i Str.empty) = some (.ref (c i))
  kit : ∀ i j, i < 28 → j < 31 → PySem.W.kitOne K (.ref (c i)) (tgt c j) = some (tbl i j)
  exc : ∀ i, i < 28 → ExcC K (c i)
  isi : mg "isinstance" = none
  range : mg "range" = none
  ve : mg "ValueError" = none
  le : mg "LookupError" = none
  ae : mg "ArithmeticError" = none
/-- what stands at a: an error of class i, with or without a dict -/
def ErrAt (c : Nat → Addr) (i : Nat) (H : Hp) (a : Addr) : Prop := ∃ d : Option Addr, H a = some (exo a (c i) d) ∧ ∀ z, d = some z → ∃ fs, H z = some (exd z fs)
theorem ErrAt.seq {c : Nat → Addr} {i : Nat} {H H1 : Hp} {a : Addr} (h : ErrAt c i H a) (s : Same H H1) : ErrAt c i H1 a := by
  obtain ⟨d, h1, h2⟩ := h
  exact ⟨d, s _ _ h1, fun z e => (h2 z e).elim fun fs q => ⟨fs, s _ _ q⟩⟩
theorem same_put {H H1 : Hp} {p : Addr} {o : HO} (s : Same H H1) (n : H p = none) : Same H (upd H1 p o) := fun b z e => by
  rw [upd_ne (ne_of_none e n)]
  exact s b z e
theorem none_back {H H1 : Hp} {p : Addr} (s : Same H H1) (n : H1 p = none) : H p = none := by
  cases e : H p with
  | none => rfl
  | some o =>
    rw [s p o e] at n
    cases n
/-- the places from 0 on at which it is true, moved -/
def pick (b : Nat → Bool) (off : Int) (n : Nat) : List Int := ((List.range n).filter b).map fun (k : Nat) => off + (k : Int)
theorem pick_yes {b : Nat → Bool} {off : Int} {n : Nat} (h : b n = true) : pick b off (n + 1) = pick b off n ++ [off + (n : Int)] := by
  unfold pick
  rw [List.range_succ, List.filter_append, List.map_append]
  simp [h]
theorem pick_no {b : Nat → Bool} {off : Int} {n : Nat} (h : b n = false) : pick b off (n + 1) = pick b off n := by
  unfold pick
  rw [List.range_succ, List.filter_append, List.map_append]
  simp [h]
theorem pick_len (b : Nat → Bool) (off : Int) (n : Nat) : (pick b off n).length ≤ n := by
  unfold pick
  rw [List.length_map]
  exact Nat.le_trans (List.length_filter_le _ _) (by rw [List.length_range]; exact Nat.le_refl n)
def sortsOf (i : Nat) : List Int := pick (tbl i) 0 25 ++ pick (fun j => tbl i (25 + j)) 50 6
def spSorts (c : Nat → Addr) : Sp := fun vs H Q _ => ∃ (a : Addr) (i : Nat), vs = [.ref a] ∧ i < 28 ∧ ErrAt c i H a ∧ ∀ (p : Addr) (H1 : Hp), H p = none → Same H H1 → H1 p = some (.lst ((sortsOf i).map V.int)) → Q (.ref p) H1
section
variable {P : Program} {w : World} {K : PySem.W.Frag} {mg : Str → Option Value} {base : Heap} {c : Nat → Addr}
theorem scSorts : FnScope ["_law_e", "_law_found", "_law_above", "_law_k"] ["_law_e"] (defScope sSorts) := ⟨rfl, rfl, rfl, by decide +kernel, rfl, by decide +kernel, by decide +kernel⟩
theorem boot_isi : bootBuiltins "isinstance" = some (.builtin "isinstance") := by decide +kernel
theorem bl_at {f : Nat → Bool} {n k : Nat} (h : k < n) : atI ((List.range n).map fun j => V.bl (f j)) ((0 : Int) + (k : Int)) = some (.bl (f k)) := by
  have e : ((0 : Int) + (k : Int)) = ((k : Nat) : Int) := by omega
  rw [e]
  refine atI_nat ?_
  rw [List.getElem?_map, List.getElem?_range h]
  rfl

theorem ok_sorts {f : Addr} {fd : FuncData} (F : Fun K "_law_sorts" "_law_sorts" sSorts f fd) (G : Cl K mg c) : FnOk P w K mg base CX0 1 f fd ["_law_e"] (spSorts c) := by
  refine F.ok scSorts (fun vs H Q E h => ?_) (fun cdv A outer s H vs Q E hr h => ?_)
  · obtain ⟨a, i, rfl, _⟩ := h
    rfl
  · obtain ⟨a, i, rfl, hi, ⟨d, ha, hd⟩, k⟩ := h
    have hdk : ∀ {H1 : Hp}, Same H H1 → ∀ z, d = some z → ∃ fs, H1 z = some (exd z fs) := fun s z e => (hd z e).elim fun fs q => ⟨fs, s _ _ q⟩
    have s0 : Same H H := fun _ _ z => z
    have sz : ∀ {n : Nat}, n ≤ 100 → n ≤ sizeLine := fun h => by rw [sizeLine_eq]; omega
    refine ⟨_, pss_cons (ps_set (i := 1) scSorts.nd rfl (Or.inr rfl) (pe_lst (pa_cons (pe_callB call_isErr (by rfl) G.isi boot_isi (pa_cons (pv 0) (pa_cons (pe_glob (v := .ref (c 0)) rfl (G.g 0 (by decide)) rfl) pa_nil))) (pa_cons (pe_callB call_isErr (by rfl) G.isi boot_isi (pa_cons (pv 0) (pa_cons (pe_glob (v := .ref (c 1)) rfl (G.g 1 (by decide)) rfl) pa_nil))) (pa_cons (pe_callB call_isErr (by rfl) G.isi boot_isi (pa_cons (pv 0) (pa_cons (pe_glob (v := .ref (c 2)) rfl (G.g 2 (by decide)) rfl) pa_nil))) pa_nil)))))
      (pss_cons (ps_set (i := 1) scSorts.nd rfl (Or.inr rfl) (pe_op op_cat (pv 1) (pe_lst (pa_cons (pe_callB call_isErr (by rfl) G.isi boot_isi (pa_cons (pv 0) (pa_cons (pe_glob (v := .ref (c 3)) rfl (G.g 3 (by decide)) rfl) pa_nil))) (pa_cons (pe_callB call_isErr (by rfl) G.isi boot_isi (pa_cons (pv 0) (pa_cons (pe_glob (v := .ref (c 4)) rfl (G.g 4 (by decide)) rfl) pa_nil))) (pa_cons (pe_callB call_isErr (by rfl) G.isi boot_isi (pa_cons (pv 0) (pa_cons (pe_glob (v := .ref (c 5)) rfl (G.g 5 (by decide)) rfl) pa_nil))) pa_nil))))))
      (pss_cons (ps_set (i := 1) scSorts.nd rfl (Or.inr rfl) (pe_op op_cat (pv 1) (pe_lst (pa_cons (pe_callB call_isErr (by rfl) G.isi boot_isi (pa_cons (pv 0) (pa_cons (pe_glob (v := .ref (c 6)) rfl (G.g 6 (by decide)) rfl) pa_nil))) (pa_cons (pe_callB call_isErr (by rfl) G.isi boot_isi (pa_cons (pv 0) (pa_cons (pe_glob (v := .ref (c 7)) rfl (G.g 7 (by decide)) rfl) pa_nil))) (pa_cons (pe_callB call_isErr (by rfl) G.isi boot_isi (pa_cons (pv 0) (pa_cons (pe_glob (v := .ref (c 8)) rfl (G.g 8 (by decide)) rfl) pa_nil))) pa_nil))))))
      (pss_cons (ps_set (i := 1) scSorts.nd rfl (Or.inr rfl) (pe_op op_cat (pv 1) (pe_lst (pa_cons (pe_callB call_isErr (by rfl) G.isi boot_isi (pa_cons (pv 0) (pa_cons (pe_glob (v := .ref (c 9)) rfl (G.g 9 (by decide)) rfl) pa_nil))) (pa_cons (pe_callB call_isErr (by rfl) G.isi boot_isi (pa_cons (pv 0) (pa_cons (pe_glob (v := .ref (c 10)) rfl (G.g 10 (by decide)) rfl) pa_nil))) (pa_cons (pe_callB call_isErr (by rfl) G.isi boot_isi (pa_cons (pv 0) (pa_cons (pe_glob (v := .ref (c 11)) rfl (G.g 11 (by decide)) rfl) pa_nil))) pa_nil))))))
      (pss_cons (ps_set (i := 1) scSorts.nd rfl (Or.inr rfl) (pe_op op_cat (pv 1) (pe_lst (pa_cons (pe_callB call_isErr (by rfl) G.isi boot_isi (pa_cons (pv 0) (pa_cons (pe_glob (v := .ref (c 12)) rfl (G.g 12 (by decide)) rfl) pa_nil))) (pa_cons (pe_callB call_isErr (by rfl) G.isi boot_isi (pa_cons (pv 0) (pa_cons (pe_glob (v := .ref (c 13)) rfl (G.g 13 (by decide)) rfl) pa_nil))) (pa_cons (pe_callB call_isErr (by rfl) G.isi boot_isi (pa_cons (pv 0) (pa_cons (pe_glob (v := .ref (c 14)) rfl (G.g 14 (by decide)) rfl) pa_nil))) pa_nil))))))
      (pss_cons (ps_set (i := 1) scSorts.nd rfl (Or.inr rfl) (pe_op op_cat (pv 1) (pe_lst (pa_cons (pe_callB call_isErr (by rfl) G.isi boot_isi (pa_cons (pv 0) (pa_cons (pe_glob (v := .ref (c 15)) rfl (G.g 15 (by decide)) rfl) pa_nil))) (pa_cons (pe_callB call_isErr (by rfl) G.isi boot_isi (pa_cons (pv 0) (pa_cons (pe_glob (v := .ref (c 16)) rfl (G.g 16 (by decide)) rfl) pa_nil))) (pa_cons (pe_callB call_isErr (by rfl) G.isi boot_isi (pa_cons (pv 0) (pa_cons (pe_glob (v := .ref (c 17)) rfl (G.g 17 (by decide)) rfl) pa_nil))) pa_nil))))))
      (pss_cons (ps_set (i := 1) scSorts.nd rfl (Or.inr rfl) (pe_op op_cat (pv 1) (pe_lst (pa_cons (pe_callB call_isErr (by rfl) G.isi boot_isi (pa_cons (pv 0) (pa_cons (pe_glob (v := .ref (c 18)) rfl (G.g 18 (by decide)) rfl) pa_nil))) (pa_cons (pe_callB call_isErr (by rfl) G.isi boot_isi (pa_cons (pv 0) (pa_cons (pe_glob (v := .ref (c 19)) rfl (G.g 19 (by decide)) rfl) pa_nil))) (pa_cons (pe_callB call_isErr (by rfl) G.isi boot_isi (pa_cons (pv 0) (pa_cons (pe_glob (v := .ref (c 20)) rfl (G.g 20 (by decide)) rfl) pa_nil))) pa_nil))))))
      (pss_cons (ps_set (i := 1) scSorts.nd rfl (Or.inr rfl) (pe_op op_cat (pv 1) (pe_lst (pa_cons (pe_callB call_isErr (by rfl) G.isi boot_isi (pa_cons (pv 0) (pa_cons (pe_glob (v := .ref (c 21)) rfl (G.g 21 (by decide)) rfl) pa_nil))) (pa_cons (pe_callB call_isErr (by rfl) G.isi boot_isi (pa_cons (pv 0) (pa_cons (pe_glob (v := .ref (c 22)) rfl (G.g 22 (by decide)) rfl) pa_nil))) (pa_cons (pe_callB call_isErr (by rfl) G.isi boot_isi (pa_cons (pv 0) (pa_cons (pe_glob (v := .ref (c 23)) rfl (G.g 23 (by decide)) rfl) pa_nil))) pa_nil))))))
      (pss_cons (ps_expr (pe_bm PySem.F.plainAttrs_list PySem.F.slot_list_append PySem.F.type_list_append mt_append (pv 1) (pa_cons (pe_callB call_isErr (by rfl) G.isi boot_isi (pa_cons (pv 0) (pa_cons (pe_glob (v := .ref (c 24)) rfl (G.g 24 (by decide)) rfl) pa_nil))) pa_nil)))
      (pss_cons (ps_set (i := 2) scSorts.nd rfl (Or.inr rfl) (pe_lst (pa_cons (pe_callB call_isErr (by rfl) G.isi boot_isi (pa_cons (pv 0) (pa_cons (pe_glob (v := .ref (c 25)) rfl (G.g 25 (by decide)) rfl) pa_nil))) (pa_cons (pe_callB call_isErr (by rfl) G.isi boot_isi (pa_cons (pv 0) (pa_cons (pe_glob (v := .ref (c 26)) rfl (G.g 26 (by decide)) rfl) pa_nil))) (pa_cons (pe_callB call_isErr (by rfl) G.isi boot_isi (pa_cons (pv 0) (pa_cons (pe_glob (v := .ref (c 27)) rfl (G.g 27 (by decide)) rfl) pa_nil))) pa_nil)))))
      (pss_cons (ps_set (i := 2) scSorts.nd rfl (Or.inr rfl) (pe_op op_cat (pv 2) (pe_lst (pa_cons (pe_callB call_isErr (by rfl) G.isi boot_isi (pa_cons (pv 0) (pa_cons (pe_bltn (v := .ty "ValueError") (by rfl) G.ve (by decide +kernel) rfl) pa_nil))) (pa_cons (pe_callB call_isErr (by rfl) G.isi boot_isi (pa_cons (pv 0) (pa_cons (pe_bltn (v := .ty "LookupError") (by rfl) G.le (by decide +kernel) rfl) pa_nil))) (pa_cons (pe_callB call_isErr (by rfl) G.isi boot_isi (pa_cons (pv 0) (pa_cons (pe_bltn (v := .ty "ArithmeticError") (by rfl) G.ae (by decide +kernel) rfl) pa_nil))) pa_nil))))))
      (pss_one (ps_ret (pe_op op_cat (pe_lc (own := [("_law_k", 3)]) (g := gName 3) (by rfl) scSorts.nd (pi_range1 rfl G.range (pa_cons pe_int pa_nil)) (blkOk_by (own := [("_law_k", 3)]) (N := ["_law_e", "_law_found", "_law_above", "_law_k"]) (sc := defScope sSorts) (by decide +kernel)) (fun _ _ _ _ _ => pg_name (i := 3) scSorts.nd rfl (Or.inl rfl)) (fun _ _ _ _ _ => pts_one (pt_val (pe_ix (show IxR _ (rIxL K) from ix_list) (pv 1) (pv 3) (fun _ _ => rfl)))) (fun _ _ _ _ _ => pv 3)) (pe_lc (own := [("_law_k", 3)]) (g := gName 3) (by rfl) scSorts.nd (pi_range1 rfl G.range (pa_cons pe_int pa_nil)) (blkOk_by (own := [("_law_k", 3)]) (N := ["_law_e", "_law_found", "_law_above", "_law_k"]) (sc := defScope sSorts) (by decide +kernel)) (fun _ _ _ _ _ => pg_name (i := 3) scSorts.nd rfl (Or.inl rfl)) (fun _ _ _ _ _ => pts_one (pt_val (pe_ix (show IxR _ (rIxL K) from ix_list) (pv 2) (pv 3) (fun _ _ => rfl)))) (fun _ _ _ _ _ => pe_op op_add pe_int (pv 3)))))))))))))))), ?_⟩
    refine ⟨_, rfl, a, c i, d, _, _, _, rfl, s0 _ _ ha, hdk s0, G.exc i hi, .own _, G.kit i 0 hi (by decide), _, rfl, a, c i, d, _, _, _, rfl, s0 _ _ ha, hdk s0, G.exc i hi, .own _, G.kit i 1 hi (by decide), _, rfl, a, c i, d, _, _, _, rfl, s0 _ _ ha, hdk s0, G.exc i hi, .own _, G.kit i 2 hi (by decide), sz (Nat.le_of_ble_eq_true rfl), fun p hp => ?_⟩
    have np : H p = none := none_back s0 hp
    have s1 : Same H (upd H p (.lst [.bl (tbl i 0), .bl (tbl i 1), .bl (tbl i 2)])) := same_new s0 hp
    have l1 : (upd H p (.lst [.bl (tbl i 0), .bl (tbl i 1), .bl (tbl i 2)])) p = some (.lst [.bl (tbl i 0), .bl (tbl i 1), .bl (tbl i 2)]) := upd_same
    show (tSeq _ _) _ _ (upd H p (.lst [.bl (tbl i 0), .bl (tbl i 1), .bl (tbl i 2)]))
    generalize upd H p (.lst [.bl (tbl i 0), .bl (tbl i 1), .bl (tbl i 2)]) = H1 at s1 l1 ⊢

    refine ⟨_, rfl, _, rfl, a, c i, d, _, _, _, rfl, s1 _ _ ha, hdk s1, G.exc i hi, .own _, G.kit i 3 hi (by decide), _, rfl, a, c i, d, _, _, _, rfl, s1 _ _ ha, hdk s1, G.exc i hi, .own _, G.kit i 4 hi (by decide), _, rfl, a, c i, d, _, _, _, rfl, s1 _ _ ha, hdk s1, G.exc i hi, .own _, G.kit i 5 hi (by decide), sz (Nat.le_of_ble_eq_true rfl), fun q hq => ?_⟩
    refine ⟨p, q, _, _, rfl, rfl, (by rw [upd_ne (ne_of_none l1 hq)]; exact l1), upd_same, sz (Nat.le_of_ble_eq_true rfl), fun p1 hp1 => ?_⟩
    have t1 := same_new s1 hq (o := .lst [.bl (tbl i 3), .bl (tbl i 4), .bl (tbl i 5)])
    have np1 : H p1 = none := none_back t1 hp1
    have s2 : Same H (upd (upd H1 q (.lst [.bl (tbl i 3), .bl (tbl i 4), .bl (tbl i 5)])) p1 (.lst [.bl (tbl i 0), .bl (tbl i 1), .bl (tbl i 2), .bl (tbl i 3), .bl (tbl i 4), .bl (tbl i 5)])) := same_new t1 hp1
    have l2 : (upd (upd H1 q (.lst [.bl (tbl i 3), .bl (tbl i 4), .bl (tbl i 5)])) p1 (.lst [.bl (tbl i 0), .bl (tbl i 1), .bl (tbl i 2), .bl (tbl i 3), .bl (tbl i 4), .bl (tbl i 5)])) p1 = some (.lst [.bl (tbl i 0), .bl (tbl i 1), .bl (tbl i 2), .bl (tbl i 3), .bl (tbl i 4), .bl (tbl i 5)]) := upd_same
    show (tSeq _ _) _ _ (upd (upd H1 q (.lst [.bl (tbl i 3), .bl (tbl i 4), .bl (tbl i 5)])) p1 (.lst [.bl (tbl i 0), .bl (tbl i 1), .bl (tbl i 2), .bl (tbl i 3), .bl (tbl i 4), .bl (tbl i 5)]))
    generalize upd (upd H1 q (.lst [.bl (tbl i 3), .bl (tbl i 4), .bl (tbl i 5)])) p1 (.lst [.bl (tbl i 0), .bl (tbl i 1), .bl (tbl i 2), .bl (tbl i 3), .bl (tbl i 4), .bl (tbl i 5)]) = H2 at s2 l2 ⊢
    clear t1 hq hp1
    refine ⟨_, rfl, _, rfl, a, c i, d, _, _, _, rfl, s2 _ _ ha, hdk s2, G.exc i hi, .own _, G.kit i 6 hi (by decide), _, rfl, a, c i, d, _, _, _, rfl, s2 _ _ ha, hdk s2, G.exc i hi, .own _, G.kit i 7 hi (by decide), _, rfl, a, c i, d, _, _, _, rfl, s2 _ _ ha, hdk s2, G.exc i hi, .own _, G.kit i 8 hi (by decide), sz (Nat.le_of_ble_eq_true rfl), fun q hq => ?_⟩
    refine ⟨p1, q, _, _, rfl, rfl, (by rw [upd_ne (ne_of_none l2 hq)]; exact l2), upd_same, sz (Nat.le_of_ble_eq_true rfl), fun p2 hp2 => ?_⟩
    have t2 := same_new s2 hq (o := .lst [.bl (tbl i 6), .bl (tbl i 7), .bl (tbl i 8)])
    have np2 : H p2 = none := none_back t2 hp2
    have s3 : Same H (upd (upd H2 q (.lst [.bl (tbl i 6), .bl (tbl i 7), .bl (tbl i 8)])) p2 (.lst [.bl (tbl i 0), .bl (tbl i 1), .bl (tbl i 2), .bl (tbl i 3), .bl (tbl i 4), .bl (tbl i 5), .bl (tbl i 6), .bl (tbl i 7), .bl (tbl i 8)])) := same_new t2 hp2
    have l3 : (upd (upd H2 q (.lst [.bl (tbl i 6), .bl (tbl i 7), .bl (tbl i 8)])) p2 (.lst [.bl (tbl i 0), .bl (tbl i 1), .bl (tbl i 2), .bl (tbl i 3), .bl (tbl i 4), .bl (tbl i 5), .bl (tbl i 6), .bl (tbl i 7), .bl (tbl i 8)])) p2 = some (.lst [.bl (tbl i 0), .bl (tbl i 1), .bl (tbl i 2), .bl (tbl i 3), .bl (tbl i 4), .bl (tbl i 5), .bl (tbl i 6), .bl (tbl i 7), .bl (tbl i 8)]) := upd_same
    show (tSeq _ _) _ _ (upd (upd H2 q (.lst [.bl (tbl i 6), .bl (tbl i 7), .bl (tbl i 8)])) p2 (.lst [.bl (tbl i 0), .bl (tbl i 1), .bl (tbl i 2), .bl (tbl i 3), .bl (tbl i 4), .bl (tbl i 5), .bl (tbl i 6), .bl (tbl i 7), .bl (tbl i 8)]))
    generalize upd (upd H2 q (.lst [.bl (tbl i 6), .bl (tbl i 7), .bl (tbl i 8)])) p2 (.lst [.bl (tbl i 0), .bl (tbl i 1), .bl (tbl i 2), .bl (tbl i 3), .bl (tbl i 4), .bl (tbl i 5), .bl (tbl i 6), .bl (tbl i 7), .bl (tbl i 8)]) = H3 at s3 l3 ⊢
    clear t2 hq hp2
    refine ⟨_, rfl, _, rfl, a, c i, d, _, _, _, rfl, s3 _ _ ha, hdk s3, G.exc i hi, .own _, G.kit i 9 hi (by decide), _, rfl, a, c i, d, _, _, _, rfl, s3 _ _ ha, hdk s3, G.exc i hi, .own _, G.kit i 10 hi (by decide), _, rfl, a, c i, d, _, _, _, rfl, s3 _ _ ha, hdk s3, G.exc i hi, .own _, G.kit i 11 hi (by decide), sz (Nat.le_of_ble_eq_true rfl), fun q hq => ?_⟩
    refine ⟨p2, q, _, _, rfl, rfl, (by rw [upd_ne (ne_of_none l3 hq)]; exact l3), upd_same, sz (Nat.le_of_ble_eq_true rfl), fun p3 hp3 => ?_⟩
    have t3 := same_new s3 hq (o := .lst [.bl (tbl i 9), .bl (tbl i 10), .bl (tbl i 11)])
    have np3 : H p3 = none := none_back t3 hp3
    have s4 : Same H (upd (upd H3 q (.lst [.bl (tbl i 9), .bl (tbl i 10), .bl (tbl i 11)])) p3 (.lst [.bl (tbl i 0), .bl (tbl i 1), .bl (tbl i 2), .bl (tbl i 3), .bl (tbl i 4), .bl (tbl i 5), .bl (tbl i 6), .bl (tbl i 7), .bl (tbl i 8), .bl (tbl i 9), .bl (tbl i 10), .bl (tbl i 11)])) := same_new t3 hp3
    have l4 : (upd (upd H3 q (.lst [.bl (tbl i 9), .bl (tbl i 10), .bl (tbl i 11)])) p3 (.lst [.bl (tbl i 0), .bl (tbl i 1), .bl (tbl i 2), .bl (tbl i 3), .bl (tbl i 4), .bl (tbl i 5), .bl (tbl i 6), .bl (tbl i 7), .bl (tbl i 8), .bl (tbl i 9), .bl (tbl i 10), .bl (tbl i 11)])) p3 = some (.lst [.bl (tbl i 0), .bl (tbl i 1), .bl (tbl i 2), .bl (tbl i 3), .bl (tbl i 4), .bl (tbl i 5), .bl (tbl i 6), .bl (tbl i 7), .bl (tbl i 8), .bl (tbl i 9), .bl (tbl i 10), .bl (tbl i 11)]) := upd_same
    show (tSeq _ _) _ _ (upd (upd H3 q (.lst [.bl (tbl i 9), .bl (tbl i 10), .bl (tbl i 11)])) p3 (.lst [.bl (tbl i 0), .bl (tbl i 1), .bl (tbl i 2), .bl (tbl i 3), .bl (tbl i 4), .bl (tbl i 5), .bl (tbl i 6), .bl (tbl i 7), .bl (tbl i 8), .bl (tbl i 9), .bl (tbl i 10), .bl (tbl i 11)]))
    generalize upd (upd H3 q (.lst [.bl (tbl i 9), .bl (tbl i 10), .bl (tbl i 11)])) p3 (.lst [.bl (tbl i 0), .bl (tbl i 1), .bl (tbl i 2), .bl (tbl i 3), .bl (tbl i 4), .bl (tbl i 5), .bl (tbl i 6), .bl (tbl i 7), .bl (tbl i 8), .bl (tbl i 9), .bl (tbl i 10), .bl (tbl i 11)]) = H4 at s4 l4 ⊢
    clear t3 hq hp3
    refine ⟨_, rfl, _, rfl, a, c i, d, _, _, _, rfl, s4 _ _ ha, hdk s4, G.exc i hi, .own _, G.kit i 12 hi (by decide), _, rfl, a, c i, d, _, _, _, rfl, s4 _ _ ha, hdk s4, G.exc i hi, .own _, G.kit i 13 hi (by decide), _, rfl, a, c i, d, _, _, _, rfl, s4 _ _ ha, hdk s4, G.exc i hi, .own _, G.kit i 14 hi (by decide), sz (Nat.le_of_ble_eq_true rfl), fun q hq => ?_⟩
    refine ⟨p3, q, _, _, rfl, rfl, (by rw [upd_ne (ne_of_none l4 hq)]; exact l4), upd_same, sz (Nat.le_of_ble_eq_true rfl), fun p4 hp4 => ?_⟩
    have t4 := same_new s4 hq (o := .lst [.bl (tbl i 12), .bl (tbl i 13), .bl (tbl i 14)])
    have np4 : H p4 = none := none_back t4 hp4
    have s5 : Same H (upd (upd H4 q (.lst [.bl (tbl i 12), .bl (tbl i 13), .bl (tbl i 14)])) p4 (.lst [.bl (tbl i 0), .bl (tbl i 1), .bl (tbl i 2), .bl (tbl i 3), .bl (tbl i 4), .bl (tbl i 5), .bl (tbl i 6), .bl (tbl i 7), .bl (tbl i 8), .bl (tbl i 9), .bl (tbl i 10), .bl (tbl i 11), .bl (tbl i 12), .bl (tbl i 13), .bl (tbl i 14)])) := same_new t4 hp4
    have l5 : (upd (upd H4 q (.lst [.bl (tbl i 12), .bl (tbl i 13), .bl (tbl i 14)])) p4 (.lst [.bl (tbl i 0), .bl (tbl i 1), .bl (tbl i 2), .bl (tbl i 3), .bl (tbl i 4), .bl (tbl i 5), .bl (tbl i 6), .bl (tbl i 7), .bl (tbl i 8), .bl (tbl i 9), .bl (tbl i 10), .bl (tbl i 11), .bl (tbl i 12), .bl (tbl i 13), .bl (tbl i 14)])) p4 = some (.lst [.bl (tbl i 0), .bl (tbl i 1), .bl (tbl i 2), .bl (tbl i 3), .bl (tbl i 4), .bl (tbl i 5), .bl (tbl i 6), .bl (tbl i 7), .bl (tbl i 8), .bl (tbl i 9), .bl (tbl i 10), .bl (tbl i 11), .bl (tbl i 12), .bl (tbl i 13), .bl (tbl i 14)]) := upd_same
    show (tSeq _ _) _ _ (upd (upd H4 q (.lst [.bl (tbl i 12), .bl (tbl i 13), .bl (tbl i 14)])) p4 (.lst [.bl (tbl i 0), .bl (tbl i 1), .bl (tbl i 2), .bl (tbl i 3), .bl (tbl i 4), .bl (tbl i 5), .bl (tbl i 6), .bl (tbl i 7), .bl (tbl i 8), .bl (tbl i 9), .bl (tbl i 10), .bl (tbl i 11), .bl (tbl i 12), .bl (tbl i 13), .bl (tbl i 14)]))
    generalize upd (upd H4 q (.lst [.bl (tbl i 12), .bl (tbl i 13), .bl (tbl i 14)])) p4 (.lst [.bl (tbl i 0), .bl (tbl i 1), .bl (tbl i 2), .bl (tbl i 3), .bl (tbl i 4), .bl (tbl i 5), .bl (tbl i 6), .bl (tbl i 7), .bl (tbl i 8), .bl (tbl i 9), .bl (tbl i 10), .bl (tbl i 11), .bl (tbl i 12), .bl (tbl i 13), .bl (tbl i 14)]) = H5 at s5 l5 ⊢
    clear t4 hq hp4
    refine ⟨_, rfl, _, rfl, a, c i, d, _, _, _, rfl, s5 _ _ ha, hdk s5, G.exc i hi, .own _, G.kit i 15 hi (by decide), _, rfl, a, c i, d, _, _, _, rfl, s5 _ _ ha, hdk s5, G.exc i hi, .own _, G.kit i 16 hi (by decide), _, rfl, a, c i, d, _, _, _, rfl, s5 _ _ ha, hdk s5, G.exc i hi, .own _, G.kit i 17 hi (by decide), sz (Nat.le_of_ble_eq_true rfl), fun q hq => ?_⟩
    refine ⟨p4, q, _, _, rfl, rfl, (by rw [upd_ne (ne_of_none l5 hq)]; exact l5), upd_same, sz (Nat.le_of_ble_eq_true rfl), fun p5 hp5 => ?_⟩
    have t5 := same_new s5 hq (o := .lst [.bl (tbl i 15), .bl (tbl i 16), .bl (tbl i 17)])
    have np5 : H p5 = none := none_back t5 hp5
    have s6 : Same H (upd (upd H5 q (.lst [.bl (tbl i 15), .bl (tbl i 16), .bl (tbl i 17)])) p5 (.lst [.bl (tbl i 0), .bl (tbl i 1), .bl (tbl i 2), .bl (tbl i 3), .bl (tbl i 4), .bl (tbl i 5), .bl (tbl i 6), .bl (tbl i 7), .bl (tbl i 8), .bl (tbl i 9), .bl (tbl i 10), .bl (tbl i 11), .bl (tbl i 12), .bl (tbl i 13), .bl (tbl i 14), .bl (tbl i 15), .bl (tbl i 16), .bl (tbl i 17)])) := same_new t5 hp5
    have l6 : (upd (upd H5 q (.lst [.bl (tbl i 15), .bl (tbl i 16), .bl (tbl i 17)])) p5 (.lst [.bl (tbl i 0), .bl (tbl i 1), .bl (tbl i 2), .bl (tbl i 3), .bl (tbl i 4), .bl (tbl i 5), .bl (tbl i 6), .bl (tbl i 7), .bl (tbl i 8), .bl (tbl i 9), .bl (tbl i 10), .bl (tbl i 11), .bl (tbl i 12), .bl (tbl i 13), .bl (tbl i 14), .bl (tbl i 15), .bl (tbl i 16), .bl (tbl i 17)])) p5 = some (.lst [.bl (tbl i 0), .bl (tbl i 1), .bl (tbl i 2), .bl (tbl i 3), .bl (tbl i 4), .bl (tbl i 5), .bl (tbl i 6), .bl (tbl i 7), .bl (tbl i 8), .bl (tbl i 9), .bl (tbl i 10), .bl (tbl i 11), .bl (tbl i 12), .bl (tbl i 13), .bl (tbl i 14), .bl (tbl i 15), .bl (tbl i 16), .bl (tbl i 17)]) := upd_same
    show (tSeq _ _) _ _ (upd (upd H5 q (.lst [.bl (tbl i 15), .bl (tbl i 16), .bl (tbl i 17)])) p5 (.lst [.bl (tbl i 0), .bl (tbl i 1), .bl (tbl i 2), .bl (tbl i 3), .bl (tbl i 4), .bl (tbl i 5), .bl (tbl i 6), .bl (tbl i 7), .bl (tbl i 8), .bl (tbl i 9), .bl (tbl i 10), .bl (tbl i 11), .bl (tbl i 12), .bl (tbl i 13), .bl (tbl i 14), .bl (tbl i 15), .bl (tbl i 16), .bl (tbl i 17)]))
    generalize upd (upd H5 q (.lst [.bl (tbl i 15), .bl (tbl i 16), .bl (tbl i 17)])) p5 (.lst [.bl (tbl i 0), .bl (tbl i 1), .bl (tbl i 2), .bl (tbl i 3), .bl (tbl i 4), .bl (tbl i 5), .bl (tbl i 6), .bl (tbl i 7), .bl (tbl i 8), .bl (tbl i 9), .bl (tbl i 10), .bl (tbl i 11), .bl (tbl i 12), .bl (tbl i 13), .bl (tbl i 14), .bl (tbl i 15), .bl (tbl i 16), .bl (tbl i 17)]) = H6 at s6 l6 ⊢
    clear t5 hq hp5
    refine ⟨_, rfl, _, rfl, a, c i, d, _, _, _, rfl, s6 _ _ ha, hdk s6, G.exc i hi, .own _, G.kit i 18 hi (by decide), _, rfl, a, c i, d, _, _, _, rfl, s6 _ _ ha, hdk s6, G.exc i hi, .own _, G.kit i 19 hi (by decide), _, rfl, a, c i, d, _, _, _, rfl, s6 _ _ ha, hdk s6, G.exc i hi, .own _, G.kit i 20 hi (by decide), sz (Nat.le_of_ble_eq_true rfl), fun q hq => ?_⟩
    refine ⟨p5, q, _, _, rfl, rfl, (by rw [upd_ne (ne_of_none l6 hq)]; exact l6), upd_same, sz (Nat.le_of_ble_eq_true rfl), fun p6 hp6 => ?_⟩
    have t6 := same_new s6 hq (o := .lst [.bl (tbl i 18), .bl (tbl i 19), .bl (tbl i 20)])
    have np6 : H p6 = none := none_back t6 hp6
    have s7 : Same H (upd (upd H6 q (.lst [.bl (tbl i 18), .bl (tbl i 19), .bl (tbl i 20)])) p6 (.lst [.bl (tbl i 0), .bl (tbl i 1), .bl (tbl i 2), .bl (tbl i 3), .bl (tbl i 4), .bl (tbl i 5), .bl (tbl i 6), .bl (tbl i 7), .bl (tbl i 8), .bl (tbl i 9), .bl (tbl i 10), .bl (tbl i 11), .bl (tbl i 12), .bl (tbl i 13), .bl (tbl i 14), .bl (tbl i 15), .bl (tbl i 16), .bl (tbl i 17), .bl (tbl i 18), .bl (tbl i 19), .bl (tbl i 20)])) := same_new t6 hp6
    have l7 : (upd (upd H6 q (.lst [.bl (tbl i 18), .bl (tbl i 19), .bl (tbl i 20)])) p6 (.lst [.bl (tbl i 0), .bl (tbl i 1), .bl (tbl i 2), .bl (tbl i 3), .bl (tbl i 4), .bl (tbl i 5), .bl (tbl i 6), .bl (tbl i 7), .bl (tbl i 8), .bl (tbl i 9), .bl (tbl i 10), .bl (tbl i 11), .bl (tbl i 12), .bl (tbl i 13), .bl (tbl i 14), .bl (tbl i 15), .bl (tbl i 16), .bl (tbl i 17), .bl (tbl i 18), .bl (tbl i 19), .bl (tbl i 20)])) p6 = some (.lst [.bl (tbl i 0), .bl (tbl i 1), .bl (tbl i 2), .bl (tbl i 3), .bl (tbl i 4), .bl (tbl i 5), .bl (tbl i 6), .bl (tbl i 7), .bl (tbl i 8), .bl (tbl i 9), .bl (tbl i 10), .bl (tbl i 11), .bl (tbl i 12), .bl (tbl i 13), .bl (tbl i 14), .bl (tbl i 15), .bl (tbl i 16), .bl (tbl i 17), .bl (tbl i 18), .bl (tbl i 19), .bl (tbl i 20)]) := upd_same
    show (tSeq _ _) _ _ (upd (upd H6 q (.lst [.bl (tbl i 18), .bl (tbl i 19), .bl (tbl i 20)])) p6 (.lst [.bl (tbl i 0), .bl (tbl i 1), .bl (tbl i 2), .bl (tbl i 3), .bl (tbl i 4), .bl (tbl i 5), .bl (tbl i 6), .bl (tbl i 7), .bl (tbl i 8), .bl (tbl i 9), .bl (tbl i 10), .bl (tbl i 11), .bl (tbl i 12), .bl (tbl i 13), .bl (tbl i 14), .bl (tbl i 15), .bl (tbl i 16), .bl (tbl i 17), .bl (tbl i 18), .bl (tbl i 19), .bl (tbl i 20)]))
    generalize upd (upd H6 q (.lst [.bl (tbl i 18), .bl (tbl i 19), .bl (tbl i 20)])) p6 (.lst [.bl (tbl i 0), .bl (tbl i 1), .bl (tbl i 2), .bl (tbl i 3), .bl (tbl i 4), .bl (tbl i 5), .bl (tbl i 6), .bl (tbl i 7), .bl (tbl i 8), .bl (tbl i 9), .bl (tbl i 10), .bl (tbl i 11), .bl (tbl i 12), .bl (tbl i 13), .bl (tbl i 14), .bl (tbl i 15), .bl (tbl i 16), .bl (tbl i 17), .bl (tbl i 18), .bl (tbl i 19), .bl (tbl i 20)]) = H7 at s7 l7 ⊢
    clear t6 hq hp6
    refine ⟨_, rfl, _, rfl, a, c i, d, _, _, _, rfl, s7 _ _ ha, hdk s7, G.exc i hi, .own _, G.kit i 21 hi (by decide), _, rfl, a, c i, d, _, _, _, rfl, s7 _ _ ha, hdk s7, G.exc i hi, .own _, G.kit i 22 hi (by decide), _, rfl, a, c i, d, _, _, _, rfl, s7 _ _ ha, hdk s7, G.exc i hi, .own _, G.kit i 23 hi (by decide), sz (Nat.le_of_ble_eq_true rfl), fun q hq => ?_⟩
    refine ⟨p6, q, _, _, rfl, rfl, (by rw [upd_ne (ne_of_none l7 hq)]; exact l7), upd_same, sz (Nat.le_of_ble_eq_true rfl), fun p7 hp7 => ?_⟩
    have t7 := same_new s7 hq (o := .lst [.bl (tbl i 21), .bl (tbl i 22), .bl (tbl i 23)])
    have np7 : H p7 = none := none_back t7 hp7
    have s8 : Same H (upd (upd H7 q (.lst [.bl (tbl i 21), .bl (tbl i 22), .bl (tbl i 23)])) p7 (.lst [.bl (tbl i 0), .bl (tbl i 1), .bl (tbl i 2), .bl (tbl i 3), .bl (tbl i 4), .bl (tbl i 5), .bl (tbl i 6), .bl (tbl i 7), .bl (tbl i 8), .bl (tbl i 9), .bl (tbl i 10), .bl (tbl i 11), .bl (tbl i 12), .bl (tbl i 13), .bl (tbl i 14), .bl (tbl i 15), .bl (tbl i 16), .bl (tbl i 17), .bl (tbl i 18), .bl (tbl i 19), .bl (tbl i 20), .bl (tbl i 21), .bl (tbl i 22), .bl (tbl i 23)])) := same_new t7 hp7
    have l8 : (upd (upd H7 q (.lst [.bl (tbl i 21), .bl (tbl i 22), .bl (tbl i 23)])) p7 (.lst [.bl (tbl i 0), .bl (tbl i 1), .bl (tbl i 2), .bl (tbl i 3), .bl (tbl i 4), .bl (tbl i 5), .bl (tbl i 6), .bl (tbl i 7), .bl (tbl i 8), .bl (tbl i 9), .bl (tbl i 10), .bl (tbl i 11), .bl (tbl i 12), .bl (tbl i 13), .bl (tbl i 14), .bl (tbl i 15), .bl (tbl i 16), .bl (tbl i 17), .bl (tbl i 18), .bl (tbl i 19), .bl (tbl i 20), .bl (tbl i 21), .bl (tbl i 22), .bl (tbl i 23)])) p7 = some (.lst [.bl (tbl i 0), .bl (tbl i 1), .bl (tbl i 2), .bl (tbl i 3), .bl (tbl i 4), .bl (tbl i 5), .bl (tbl i 6), .bl (tbl i 7), .bl (tbl i 8), .bl (tbl i 9), .bl (tbl i 10), .bl (tbl i 11), .bl (tbl i 12), .bl (tbl i 13), .bl (tbl i 14), .bl (tbl i 15), .bl (tbl i 16), .bl (tbl i 17), .bl (tbl i 18), .bl (tbl i 19), .bl (tbl i 20), .bl (tbl i 21), .bl (tbl i 22), .bl (tbl i 23)]) := upd_same
    show (tSeq _ _) _ _ (upd (upd H7 q (.lst [.bl (tbl i 21), .bl (tbl i 22), .bl (tbl i 23)])) p7 (.lst [.bl (tbl i 0), .bl (tbl i 1), .bl (tbl i 2), .bl (tbl i 3), .bl (tbl i 4), .bl (tbl i 5), .bl (tbl i 6), .bl (tbl i 7), .bl (tbl i 8), .bl (tbl i 9), .bl (tbl i 10), .bl (tbl i 11), .bl (tbl i 12), .bl (tbl i 13), .bl (tbl i 14), .bl (tbl i 15), .bl (tbl i 16), .bl (tbl i 17), .bl (tbl i 18), .bl (tbl i 19), .bl (tbl i 20), .bl (tbl i 21), .bl (tbl i 22), .bl (tbl i 23)]))
    generalize upd (upd H7 q (.lst [.bl (tbl i 21), .bl (tbl i 22), .bl (tbl i 23)])) p7 (.lst [.bl (tbl i 0), .bl (tbl i 1), .bl (tbl i 2), .bl (tbl i 3), .bl (tbl i 4), .bl (tbl i 5), .bl (tbl i 6), .bl (tbl i 7), .bl (tbl i 8), .bl (tbl i 9), .bl (tbl i 10), .bl (tbl i 11), .bl (tbl i 12), .bl (tbl i 13), .bl (tbl i 14), .bl (tbl i 15), .bl (tbl i 16), .bl (tbl i 17), .bl (tbl i 18), .bl (tbl i 19), .bl (tbl i 20), .bl (tbl i 21), .bl (tbl i 22), .bl (tbl i 23)]) = H8 at s8 l8 ⊢
    clear t7 hq hp7
    refine ⟨_, rfl, .inl ⟨rfl, _, SqL.of l8⟩, _, rfl, a, c i, d, _, _, _, rfl, s8 _ _ ha, hdk s8, G.exc i hi, .own _, G.kit i 24 hi (by decide), p7, _, _, rfl, rfl, l8, (by rw [sizeLine_eq]; exact Nat.le_of_ble_eq_true rfl), ?_⟩
    have s9 : Same H (upd H8 p7 (.lst ((List.range 25).map fun j => V.bl (tbl i j)))) := same_put s8 np7
    have l9 : (upd H8 p7 (.lst ((List.range 25).map fun j => V.bl (tbl i j)))) p7 = some (.lst ((List.range 25).map fun j => V.bl (tbl i j))) := upd_same
    show (tSeq _ _) _ _ (upd H8 p7 (.lst ((List.range 25).map fun j => V.bl (tbl i j))))
    generalize upd H8 p7 (.lst ((List.range 25).map fun j => V.bl (tbl i j))) = H9 at s9 l9 ⊢
    refine ⟨_, rfl, a, c i, d, _, _, _, rfl, s9 _ _ ha, hdk s9, G.exc i hi, .own _, G.kit i 25 hi (by decide), _, rfl, a, c i, d, _, _, _, rfl, s9 _ _ ha, hdk s9, G.exc i hi, .own _, G.kit i 26 hi (by decide), _, rfl, a, c i, d, _, _, _, rfl, s9 _ _ ha, hdk s9, G.exc i hi, .own _, G.kit i 27 hi (by decide), sz (Nat.le_of_ble_eq_true rfl), fun q hq => ?_⟩
    have s10 : Same H (upd H9 q (.lst [.bl (tbl i 25), .bl (tbl i 26), .bl (tbl i 27)])) := same_new s9 hq
    have l10 : (upd H9 q (.lst [.bl (tbl i 25), .bl (tbl i 26), .bl (tbl i 27)])) q = some (.lst [.bl (tbl i 25), .bl (tbl i 26), .bl (tbl i 27)]) := upd_same
    have m10 : (upd H9 q (.lst [.bl (tbl i 25), .bl (tbl i 26), .bl (tbl i 27)])) p7 = some (.lst ((List.range 25).map fun j => V.bl (tbl i j))) := by rw [upd_ne (ne_of_none l9 hq)]; exact l9
    show (tSeq _ _) _ _ (upd H9 q (.lst [.bl (tbl i 25), .bl (tbl i 26), .bl (tbl i 27)]))
    generalize upd H9 q (.lst [.bl (tbl i 25), .bl (tbl i 26), .bl (tbl i 27)]) = H10 at s10 l10 m10 ⊢
    refine ⟨_, rfl, _, rfl, a, c i, d, _, _, _, rfl, s10 _ _ ha, hdk s10, G.exc i hi, .ty _, G.kit i 28 hi (by decide), _, rfl, a, c i, d, _, _, _, rfl, s10 _ _ ha, hdk s10, G.exc i hi, .ty _, G.kit i 29 hi (by decide), _, rfl, a, c i, d, _, _, _, rfl, s10 _ _ ha, hdk s10, G.exc i hi, .ty _, G.kit i 30 hi (by decide), sz (Nat.le_of_ble_eq_true rfl), fun q1 hq1 => ?_⟩
    refine ⟨q, q1, _, _, rfl, rfl, (by rw [upd_ne (ne_of_none l10 hq1)]; exact l10), upd_same, sz (Nat.le_of_ble_eq_true rfl), fun r hr => ?_⟩
    have t10 := same_new s10 hq1 (o := .lst [.bl (tbl i 28), .bl (tbl i 29), .bl (tbl i 30)])
    have s11 : Same H (upd (upd H10 q1 (.lst [.bl (tbl i 28), .bl (tbl i 29), .bl (tbl i 30)])) r (.lst ([.bl (tbl i 25), .bl (tbl i 26), .bl (tbl i 27)] ++ [.bl (tbl i 28), .bl (tbl i 29), .bl (tbl i 30)]))) := same_new t10 hr
    have l11 : (upd (upd H10 q1 (.lst [.bl (tbl i 28), .bl (tbl i 29), .bl (tbl i 30)])) r (.lst ([.bl (tbl i 25), .bl (tbl i 26), .bl (tbl i 27)] ++ [.bl (tbl i 28), .bl (tbl i 29), .bl (tbl i 30)]))) r = some (.lst ((List.range 6).map fun j => V.bl (tbl i (25 + j)))) := upd_same
    have m11 : (upd (upd H10 q1 (.lst [.bl (tbl i 28), .bl (tbl i 29), .bl (tbl i 30)])) r (.lst ([.bl (tbl i 25), .bl (tbl i 26), .bl (tbl i 27)] ++ [.bl (tbl i 28), .bl (tbl i 29), .bl (tbl i 30)]))) p7 = some (.lst ((List.range 25).map fun j => V.bl (tbl i j))) := by
      have z : (upd H10 q1 (.lst [.bl (tbl i 28), .bl (tbl i 29), .bl (tbl i 30)])) p7 = some (.lst ((List.range 25).map fun j => V.bl (tbl i j))) := by rw [upd_ne (ne_of_none m10 hq1)]; exact m10
      rw [upd_ne (ne_of_none z hr)]
      exact z
    generalize upd (upd H10 q1 (.lst [.bl (tbl i 28), .bl (tbl i 29), .bl (tbl i 30)])) r (.lst ([.bl (tbl i 25), .bl (tbl i 26), .bl (tbl i 27)] ++ [.bl (tbl i 28), .bl (tbl i 29), .bl (tbl i 30)])) = H11 at s11 l11 m11 ⊢
    refine ⟨25, rfl, by decide, by decide, fun D hD => lc_range (lo := 0) (n := 25) (fun n H2 => Same H11 H2 ∧ H2 D = some (.lst ((pick (tbl i) 0 n).map V.int))) ⟨same_new (fun _ _ z => z) hD, upd_same⟩ ?_ ?_⟩
    · rintro n H2 hn ⟨s2, l2⟩
      refine ⟨rfl, _, rfl, _, rfl, p7, _, _, _, rfl, rfl, SqL.of (s2 _ _ m11), bl_at hn, _, rfl, ?_⟩
      refine ite2 (fun hb => ?_) (fun hb => ?_)
      · refine ⟨_, rfl, _, l2, ?_, same_put s2 hD, ?_⟩
        · rw [sizeLine_eq, List.length_map]
          have := pick_len (tbl i) 0 n
          omega
        · rw [pick_yes hb, List.map_append]
          exact upd_same
      · exact ⟨s2, by rw [pick_no (by simpa using hb)]; exact l2⟩
    · rintro H2 ⟨s2, l2⟩
      refine ⟨6, rfl, by decide, by decide, fun D1 hD1 => lc_range (lo := 0) (n := 6) (fun n H3 => Same H2 H3 ∧ H3 D1 = some (.lst ((pick (fun j => tbl i (25 + j)) 50 n).map V.int))) ⟨same_new (fun _ _ z => z) hD1, upd_same⟩ ?_ ?_⟩
      · rintro n H3 hn ⟨s3, l3⟩
        refine ⟨rfl, _, rfl, _, rfl, r, _, _, _, rfl, rfl, SqL.of (s3 _ _ (s2 _ _ l11)), bl_at (f := fun j => tbl i (25 + j)) hn, _, rfl, ?_⟩
        refine ite2 (fun hb => ?_) (fun hb => ?_)
        · refine ⟨_, rfl, _, _, rfl, rfl, _, l3, ?_, same_put s3 hD1, ?_⟩
          · rw [sizeLine_eq, List.length_map]
            have := pick_len (fun j => tbl i (25 + j)) 50 n
            omega
          · rw [pick_yes (b := fun j => tbl i (25 + j)) hb, List.map_append]
            have e : (50 : Int) + (0 + (n : Int)) = 50 + (n : Int) := by omega
            show upd H3 D1 (.lst (_ ++ [V.int ((50 : Int) + (0 + (n : Int)))])) D1 = _
            rw [e]
            exact upd_same
        · exact ⟨s3, by rw [pick_no (b := fun j => tbl i (25 + j)) (by simpa using hb)]; exact l3⟩
      · rintro H3 ⟨s3, l3⟩
        refine ⟨D, D1, _, _, rfl, rfl, s3 _ _ l2, l3, ?_, fun z hz => ?_⟩
        · rw [sizeLine_eq, List.length_map, List.length_map]
          have h1 := pick_len (tbl i) 0 25
          have h2 := pick_len (fun j => tbl i (25 + j)) 50 6
          omega
        · have s4 : Same H H3 := fun b o e => s3 b o (s2 b o (s11 b o e))
          refine k z _ (none_back s4 hz) (same_new s4 hz) ?_
          unfold sortsOf
          rw [List.map_append]
          exact upd_same
end
end LJ
set_option Elab.async false
set_option linter.all false
set_option maxRecDepth 100000
set_option maxHeartbeats 4000000
namespace LJ
open PySem L2 PySem.ErrV
abbrev sGiven : Stmt := top 47
abbrev sIndex : Stmt := top 48
abbrev veT : List Value := [.type "ValueError", .type "Exception", .type "BaseException", .type "object"]
abbrev leT : List Value := [.type "LookupError", .type "Exception", .type "BaseException", .type "object"]
abbrev aeT : List Value := [.type "ArithmeticError", .type "Exception", .type "BaseException", .type "object"]
theorem bo_ve : BaseOk "ValueError" "ValueError.__new__" "ValueError.__init__" veT := ⟨PySem.F.excBase_ValueError, PySem.F.store_ValueError⟩
theorem bo_le : BaseOk "LookupError" "LookupError.__new__" "LookupError.__init__" leT := ⟨PySem.F.excBase_LookupError, PySem.F.store_LookupError⟩
theorem bo_ae : BaseOk "ArithmeticError" "ArithmeticError.__new__" "ArithmeticError.__init__" aeT := ⟨PySem.F.excBase_ArithmeticError, PySem.F.store_ArithmeticError⟩
structure Mks (K : PySem.W.Frag) (mg : Str → Option Value) (c fi : Nat → Addr) : Prop where
  gv : ∀ i, i < 12 → ErrC K mg (nm.getD i Str.empty) "given" (c i) (fi i) "ValueError.__new__" veT
  ix : ∀ i, i < 9 → ErrC K mg (nm.getD (12 + i) Str.empty) "index" (c (12 + i)) (fi (12 + i)) "ValueError.__new__" veT
  un : ErrC K mg "UnknownName" "given" (c 21) (fi 21) "LookupError.__new__" leT
  br : ErrC K mg "Broken" "index" (c 22) (fi 22) "ArithmeticError.__new__" aeT
  us : ErrC K mg "InUse" "index" (c 23) (fi 23) "ArithmeticError.__new__" aeT
/-- a list of two errors of class i at l, each with the field -/
def PairIn (c : Nat → Addr) (i : Nat) (f : Str) (x : V) (H : Hp) (l : Addr) : Prop := ∃ a b d e : Addr, H l = some (.lst [.ref a, .ref b]) ∧
  H a = some (exo a (c i) (some d)) ∧ H d = some (exd d [(f, x)]) ∧ H b = some (exo b (c i) (some e)) ∧ H e = some (exd e [(f, x)])
/-- the same, nothing of it at p -/
def PairAt (c : Nat → Addr) (i : Nat) (f : Str) (x : V) (p : Addr) (H : Hp) (l : Addr) : Prop := ∃ a b d e : Addr, (l ≠ p ∧ a ≠ p ∧ b ≠ p ∧ d ≠ p ∧ e ≠ p) ∧ H l = some (.lst [.ref a, .ref b]) ∧
  H a = some (exo a (c i) (some d)) ∧ H d = some (exd d [(f, x)]) ∧ H b = some (exo b (c i) (some e)) ∧ H e = some (exd e [(f, x)])
section
variable {c : Nat → Addr} {i : Nat} {f : Str} {x : V} {p l : Addr} {H H1 : Hp}
theorem PairAt.pair (h : PairAt c i f x p H l) : PairIn c i f x H l := by
  obtain ⟨a, b, d, e, _, h1, h2, h3, h4, h5⟩ := h
  exact ⟨a, b, d, e, h1, h2, h3, h4, h5⟩
theorem PairAt.but (h : PairAt c i f x p H l) (s : But p H H1) : PairAt c i f x p H1 l := by
  obtain ⟨a, b, d, e, ⟨n1, n2, n3, n4, n5⟩, h1, h2, h3, h4, h5⟩ := h
  exact ⟨a, b, d, e, ⟨n1, n2, n3, n4, n5⟩, s _ _ n1 h1, s _ _ n2 h2, s _ _ n4 h3, s _ _ n3 h4, s _ _ n5 h5⟩
theorem PairIn.seq (h : PairIn c i f x H l) (s : Same H H1) : PairIn c i f x H1 l := by
  obtain ⟨a, b, d, e, h1, h2, h3, h4, h5⟩ := h
  exact ⟨a, b, d, e, s _ _ h1, s _ _ h2, s _ _ h3, s _ _ h4, s _ _ h5⟩
theorem PairIn.off (h : PairIn c i f x H l) (n : H p = none) : PairAt c i f x p H l := by
  obtain ⟨a, b, d, e, h1, h2, h3, h4, h5⟩ := h
  exact ⟨a, b, d, e, ⟨ne_of_none h1 n, ne_of_none h2 n, ne_of_none h4 n, ne_of_none h3 n, ne_of_none h5 n⟩, h1, h2, h3, h4, h5⟩
theorem But.of (s : Same H H1) : But p H H1 := fun b o _ e => s b o e
/-- the display [C(x), C(f=x)] -/
theorem rd_pair {σ : St} {Q : VK} {j : Nat} (hx : σ[j]? = some (some x)) (k : ∀ (l : Addr) (H1 : Hp), Same H H1 → H l = none → PairIn c i f x H1 l → (∀ p o, H p = some o → PairAt c i f x p H1 l) → Q (.ref l) H1) :
    tLst (tCons (tErr (c i) f (tVar j)) (tCons (tErr (c i) f (tVar j)) tNil)) σ H Q := by
  refine ⟨x, hx, fun a d na nd ne => ⟨x, hx, fun b e nb nx nbe => ⟨(by show 2 ≤ sizeLine; rw [sizeLine_eq]; decide), fun l hl => ?_⟩⟩⟩
  have s1 : Same H (upd (upd H d (exd d [(f, x)])) a (exo a (c i) (some d))) := same_new (same_new (fun _ _ z => z) nd) (by rw [upd_ne ne.symm]; exact na)
  have a1 : (upd (upd H d (exd d [(f, x)])) a (exo a (c i) (some d))) a = some (exo a (c i) (some d)) := upd_same
  have d1 : (upd (upd H d (exd d [(f, x)])) a (exo a (c i) (some d))) d = some (exd d [(f, x)]) := by
    rw [upd_ne ne]
    exact upd_same
  generalize upd (upd H d (exd d [(f, x)])) a (exo a (c i) (some d)) = G at s1 a1 d1 nb nx hl ⊢
  have s2 : Same G (upd (upd G e (exd e [(f, x)])) b (exo b (c i) (some e))) := same_new (same_new (fun _ _ z => z) nx) (by rw [upd_ne nbe.symm]; exact nb)
  have b1 : (upd (upd G e (exd e [(f, x)])) b (exo b (c i) (some e))) b = some (exo b (c i) (some e)) := upd_same
  have e1 : (upd (upd G e (exd e [(f, x)])) b (exo b (c i) (some e))) e = some (exd e [(f, x)]) := by
    rw [upd_ne nbe]
    exact upd_same
  generalize upd (upd G e (exd e [(f, x)])) b (exo b (c i) (some e)) = G2 at s2 b1 e1 hl ⊢
  have s3 : Same G2 (upd G2 l (.lst [.ref a, .ref b])) := same_new (fun _ _ z => z) hl
  have sG : Same H G2 := fun q o z => s2 q o (s1 q o z)
  have nb0 : H b = none := none_back s1 nb
  have ne0 : H e = none := none_back s1 nx
  have nl0 : H l = none := none_back sG hl
  have f2 := s3 _ _ (s2 _ _ a1)
  have f3 := s3 _ _ (s2 _ _ d1)
  refine k l _ (fun q o z => s3 q o (sG q o z)) nl0 ⟨a, b, d, e, upd_same, f2, f3, s3 _ _ b1, s3 _ _ e1⟩ fun q o z => ?_
  have far : ∀ {y : Addr}, H y = none → y ≠ q := fun {y} n w => by
    rw [w, z] at n
    cases n
  exact ⟨a, b, d, e, ⟨far nl0, far na, far nb0, far nd, far ne0⟩, upd_same, f2, f3, s3 _ _ b1, s3 _ _ e1⟩
end
/-- so many pairs, one class behind another -/
def Rows (c : Nat → Addr) (off : Nat) (f : Str) (x : V) (p : Addr) (H : Hp) (ls : List Addr) : Prop := ∀ k l, ls[k]? = some l → PairAt c (off + k) f x p H l
theorem Rows.snoc {c : Nat → Addr} {off n : Nat} {f : Str} {x : V} {p l : Addr} {H : Hp} {ls : List Addr} (h : Rows c off f x p H ls) (e : ls.length = n) (q : PairAt c (off + n) f x p H l) : Rows c off f x p H (ls ++ [l]) := fun k m hm => by
  by_cases hk : k < ls.length
  · rw [List.getElem?_append_left hk] at hm
    exact h k m hm
  · rw [List.getElem?_append_right (by omega)] at hm
    obtain ⟨h0, hv⟩ := List.getElem?_eq_some_iff.mp hm
    have z : k - ls.length = 0 := by
      simp only [List.length_singleton] at h0
      omega
    have hk2 : k = n := by omega
    subst hk2
    simp only [z, List.getElem_cons_zero] at hv
    subst hv
    exact q
theorem Rows.but {c : Nat → Addr} {off : Nat} {f : Str} {x : V} {p : Addr} {H H1 : Hp} {ls : List Addr} (h : Rows c off f x p H ls) (s : But p H H1) : Rows c off f x p H1 ls := fun k m hm => (h k m hm).but s
def spPairs (c : Nat → Addr) (off n : Nat) (f : Str) : Sp := fun vs H Q _ => ∃ x : V, vs = [x] ∧ ∀ (r : Addr) (H1 : Hp) (ls : List Addr), H r = none → Same H H1 → ls.length = n → H1 r = some (.lst (ls.map V.ref)) →
  (∀ k l, ls[k]? = some l → PairIn c (off + k) f x H1 l) → Q (.ref r) H1
section
variable {P : Program} {w : World} {K : PySem.W.Frag} {mg : Str → Option Value} {base : Heap} {c fi : Nat → Addr}
theorem scGiven : FnScope ["_law_thing", "_law_found"] ["_law_thing"] (defScope sGiven) := ⟨rfl, rfl, rfl, by decide +kernel, rfl, by decide +kernel, by decide +kernel⟩
theorem scIndex : FnScope ["_law_thing", "_law_found"] ["_law_thing"] (defScope sIndex) := ⟨rfl, rfl, rfl, by decide +kernel, rfl, by decide +kernel, by decide +kernel⟩
theorem in_g : ("given" : Str) = "given" ∨ ("given" : Str) = "index" := .inl rfl
theorem in_i : ("index" : Str) = "given" ∨ ("index" : Str) = "index" := .inr rfl

theorem ok_given {f : Addr} {fd : FuncData} (F : Fun K "_law_given_errors" "_law_given_errors" sGiven f fd) (G : Mks K mg c fi) : FnOk P w K mg base CX0 2 f fd ["_law_thing"] (spPairs c 0 12 "given") := by
  refine F.ok scGiven (fun vs H Q E h => ?_) (fun cdv A outer s H vs Q E hr1 h => ?_)
  · obtain ⟨x, rfl, _⟩ := h
    rfl
  · obtain ⟨x, rfl, k⟩ := h
    have sz : ∀ {n : Nat}, n ≤ 100 → n ≤ sizeLine := fun h => by rw [sizeLine_eq]; omega
    refine ⟨_, pss_cons (ps_set (i := 1) scGiven.nd rfl (Or.inl rfl) (pe_lst (pa_cons (pe_join0 (pe_lst (pa_cons (pe_err in_g (G.gv 0 (by decide)) bo_ve hr1 (by rfl) (pv 0)) (pa_cons (pe_errK in_g (G.gv 0 (by decide)) bo_ve hr1 (by rfl) (pv 0)) pa_nil)))) (pa_cons (pe_join0 (pe_lst (pa_cons (pe_err in_g (G.gv 1 (by decide)) bo_ve hr1 (by rfl) (pv 0)) (pa_cons (pe_errK in_g (G.gv 1 (by decide)) bo_ve hr1 (by rfl) (pv 0)) pa_nil)))) pa_nil))))
      (pss_cons (ps_expr (pe_bm PySem.F.plainAttrs_list PySem.F.slot_list_append PySem.F.type_list_append mt_append (pv 1) (pa_cons (pe_join0 (pe_lst (pa_cons (pe_err in_g (G.gv 2 (by decide)) bo_ve hr1 (by rfl) (pv 0)) (pa_cons (pe_errK in_g (G.gv 2 (by decide)) bo_ve hr1 (by rfl) (pv 0)) pa_nil)))) pa_nil)))
      (pss_cons (ps_expr (pe_bm PySem.F.plainAttrs_list PySem.F.slot_list_append PySem.F.type_list_append mt_append (pv 1) (pa_cons (pe_join0 (pe_lst (pa_cons (pe_err in_g (G.gv 3 (by decide)) bo_ve hr1 (by rfl) (pv 0)) (pa_cons (pe_errK in_g (G.gv 3 (by decide)) bo_ve hr1 (by rfl) (pv 0)) pa_nil)))) pa_nil)))
      (pss_cons (ps_expr (pe_bm PySem.F.plainAttrs_list PySem.F.slot_list_append PySem.F.type_list_append mt_append (pv 1) (pa_cons (pe_join0 (pe_lst (pa_cons (pe_err in_g (G.gv 4 (by decide)) bo_ve hr1 (by rfl) (pv 0)) (pa_cons (pe_errK in_g (G.gv 4 (by decide)) bo_ve hr1 (by rfl) (pv 0)) pa_nil)))) pa_nil)))
      (pss_cons (ps_expr (pe_bm PySem.F.plainAttrs_list PySem.F.slot_list_append PySem.F.type_list_append mt_append (pv 1) (pa_cons (pe_join0 (pe_lst (pa_cons (pe_err in_g (G.gv 5 (by decide)) bo_ve hr1 (by rfl) (pv 0)) (pa_cons (pe_errK in_g (G.gv 5 (by decide)) bo_ve hr1 (by rfl) (pv 0)) pa_nil)))) pa_nil)))
      (pss_cons (ps_expr (pe_bm PySem.F.plainAttrs_list PySem.F.slot_list_append PySem.F.type_list_append mt_append (pv 1) (pa_cons (pe_join0 (pe_lst (pa_cons (pe_err in_g (G.gv 6 (by decide)) bo_ve hr1 (by rfl) (pv 0)) (pa_cons (pe_errK in_g (G.gv 6 (by decide)) bo_ve hr1 (by rfl) (pv 0)) pa_nil)))) pa_nil)))
      (pss_cons (ps_expr (pe_bm PySem.F.plainAttrs_list PySem.F.slot_list_append PySem.F.type_list_append mt_append (pv 1) (pa_cons (pe_join0 (pe_lst (pa_cons (pe_err in_g (G.gv 7 (by decide)) bo_ve hr1 (by rfl) (pv 0)) (pa_cons (pe_errK in_g (G.gv 7 (by decide)) bo_ve hr1 (by rfl) (pv 0)) pa_nil)))) pa_nil)))
      (pss_cons (ps_set (i := 1) scGiven.nd rfl (Or.inl rfl) (pe_op op_cat (pv 1) (pe_lst (pa_cons (pe_join0 (pe_lst (pa_cons (pe_err in_g (G.gv 8 (by decide)) bo_ve hr1 (by rfl) (pv 0)) (pa_cons (pe_errK in_g (G.gv 8 (by decide)) bo_ve hr1 (by rfl) (pv 0)) pa_nil)))) (pa_cons (pe_join0 (pe_lst (pa_cons (pe_err in_g (G.gv 9 (by decide)) bo_ve hr1 (by rfl) (pv 0)) (pa_cons (pe_errK in_g (G.gv 9 (by decide)) bo_ve hr1 (by rfl) (pv 0)) pa_nil)))) pa_nil)))))
      (pss_one (ps_ret (pe_op op_cat (pv 1) (pe_lst (pa_cons (pe_join0 (pe_lst (pa_cons (pe_err in_g (G.gv 10 (by decide)) bo_ve hr1 (by rfl) (pv 0)) (pa_cons (pe_errK in_g (G.gv 10 (by decide)) bo_ve hr1 (by rfl) (pv 0)) pa_nil)))) (pa_cons (pe_join0 (pe_lst (pa_cons (pe_err in_g (G.gv 11 (by decide)) bo_ve hr1 (by rfl) (pv 0)) (pa_cons (pe_errK in_g (G.gv 11 (by decide)) bo_ve hr1 (by rfl) (pv 0)) pa_nil)))) pa_nil))))))))))))), ?_⟩
    have S0 : Same H H := fun _ _ z => z
    refine ⟨fun v Hz => ∃ l : Addr, v = V.ref l ∧ Same H Hz ∧ H l = none ∧ PairIn c 0 "given" x Hz l ∧ ∀ p o, H p = some o → PairAt c 0 "given" x p Hz l, rd_pair rfl (fun l Hz h1 h2 h3 h4 => ⟨l, rfl, h1, h2, h3, h4⟩), ?_⟩
    rintro _ G0 ⟨l0, rfl, t0, nl0, q0, z0⟩
    have SG0 : Same H G0 := fun b o e => t0 b o (S0 b o e)
    refine ⟨fun v Hz => ∃ l : Addr, v = V.ref l ∧ Same G0 Hz ∧ G0 l = none ∧ PairIn c 1 "given" x Hz l ∧ ∀ p o, G0 p = some o → PairAt c 1 "given" x p Hz l, rd_pair rfl (fun l Hz h1 h2 h3 h4 => ⟨l, rfl, h1, h2, h3, h4⟩), ?_⟩
    rintro _ G1 ⟨l1, rfl, t1, nl1, q1, z1⟩
    have SG1 : Same H G1 := fun b o e => t1 b o (SG0 b o e)
    refine ⟨sz (Nat.le_of_ble_eq_true rfl), fun p0 np0 => ?_⟩
    have N0 : H p0 = none := none_back SG1 np0
    have S1 : Same H (upd G1 p0 (.lst ([l0, l1].map V.ref))) := same_new SG1 np0
    have L1 : (upd G1 p0 (.lst ([l0, l1].map V.ref))) p0 = some (.lst ([l0, l1].map V.ref)) := upd_same
    have R1 : Rows c 0 "given" x p0 (upd G1 p0 (.lst ([l0, l1].map V.ref))) [l0, l1] := by
      have bt : But p0 G1 (upd G1 p0 (.lst ([l0, l1].map V.ref))) := But.of (same_new (fun _ _ z => z) np0)
      have r0 : Rows c 0 "given" x p0 (upd G1 p0 (.lst ([l0, l1].map V.ref))) [] := fun k l z => by cases z
      have r1 := Rows.snoc r0 (n := 0) rfl ((PairIn.off (q0.seq t1) np0).but bt)
      have r2 := Rows.snoc r1 (n := 1) rfl ((PairIn.off q1 np0).but bt)
      exact r2
    show (tSeq _ _) _ _ (upd G1 p0 (.lst ([l0, l1].map V.ref)))
    generalize (upd G1 p0 (.lst ([l0, l1].map V.ref))) = H1 at S1 L1 R1 ⊢
    generalize els : [l0, l1] = ls at L1 R1
    have E1 : ls.length = 2 := by rw [← els]; rfl
    clear els
    refine ⟨_, rfl, .inl ⟨rfl, _, SqL.of L1⟩, fun v Hz => ∃ l : Addr, v = V.ref l ∧ Same H1 Hz ∧ H1 l = none ∧ PairIn c 2 "given" x Hz l ∧ ∀ p o, H1 p = some o → PairAt c 2 "given" x p Hz l, rd_pair rfl (fun l Hz h1 h2 h3 h4 => ⟨l, rfl, h1, h2, h3, h4⟩), ?_⟩
    rintro _ G2 ⟨l2, rfl, t2, nl2, q2, z2⟩
    have SG2 : Same H G2 := fun b o e => t2 b o (S1 b o e)
    refine ⟨p0, _, _, rfl, rfl, t2 _ _ L1, (by rw [sizeLine_eq, List.length_map, E1]; decide), ?_⟩
    have S2 : Same H (upd G2 p0 (.lst (ls.map V.ref ++ [V.ref l2]))) := same_put SG2 N0
    have L2 : (upd G2 p0 (.lst (ls.map V.ref ++ [V.ref l2]))) p0 = some (.lst ((ls ++ [l2]).map V.ref)) := by rw [List.map_append]; exact upd_same
    have R2 : Rows c 0 "given" x p0 (upd G2 p0 (.lst (ls.map V.ref ++ [V.ref l2]))) (ls ++ [l2]) := by
      have bt : But p0 G2 (upd G2 p0 (.lst (ls.map V.ref ++ [V.ref l2]))) := fun b o n e => by rw [upd_ne n]; exact e
      exact Rows.snoc ((R1.but (But.of t2)).but bt) E1 ((z2 _ _ L1).but bt)
    have E2 : (ls ++ [l2]).length = 3 := by rw [List.length_append, E1]; rfl
    show (tSeq _ _) _ _ (upd G2 p0 (.lst (ls.map V.ref ++ [V.ref l2])))
    generalize (upd G2 p0 (.lst (ls.map V.ref ++ [V.ref l2]))) = H2 at S2 L2 R2 ⊢
    clear R1 L1
    generalize ls ++ [l2] = ls at L2 R2 E2
    refine ⟨_, rfl, .inl ⟨rfl, _, SqL.of L2⟩, fun v Hz => ∃ l : Addr, v = V.ref l ∧ Same H2 Hz ∧ H2 l = none ∧ PairIn c 3 "given" x Hz l ∧ ∀ p o, H2 p = some o → PairAt c 3 "given" x p Hz l, rd_pair rfl (fun l Hz h1 h2 h3 h4 => ⟨l, rfl, h1, h2, h3, h4⟩), ?_⟩
    rintro _ G3 ⟨l3, rfl, t3, nl3, q3, z3⟩
    have SG3 : Same H G3 := fun b o e => t3 b o (S2 b o e)
    refine ⟨p0, _, _, rfl, rfl, t3 _ _ L2, (by rw [sizeLine_eq, List.length_map, E2]; decide), ?_⟩
    have S3 : Same H (upd G3 p0 (.lst (ls.map V.ref ++ [V.ref l3]))) := same_put SG3 N0
    have L3 : (upd G3 p0 (.lst (ls.map V.ref ++ [V.ref l3]))) p0 = some (.lst ((ls ++ [l3]).map V.ref)) := by rw [List.map_append]; exact upd_same
    have R3 : Rows c 0 "given" x p0 (upd G3 p0 (.lst (ls.map V.ref ++ [V.ref l3]))) (ls ++ [l3]) := by
      have bt : But p0 G3 (upd G3 p0 (.lst (ls.map V.ref ++ [V.ref l3]))) := fun b o n e => by rw [upd_ne n]; exact e
      exact Rows.snoc ((R2.but (But.of t3)).but bt) E2 ((z3 _ _ L2).but bt)
    have E3 : (ls ++ [l3]).length = 4 := by rw [List.length_append, E2]; rfl
    show (tSeq _ _) _ _ (upd G3 p0 (.lst (ls.map V.ref ++ [V.ref l3])))
    generalize (upd G3 p0 (.lst (ls.map V.ref ++ [V.ref l3]))) = H3 at S3 L3 R3 ⊢
    clear R2 L2
    generalize ls ++ [l3] = ls at L3 R3 E3
    refine ⟨_, rfl, .inl ⟨rfl, _, SqL.of L3⟩, fun v Hz => ∃ l : Addr, v = V.ref l ∧ Same H3 Hz ∧ H3 l = none ∧ PairIn c 4 "given" x Hz l ∧ ∀ p o, H3 p = some o → PairAt c 4 "given" x p Hz l, rd_pair rfl (fun l Hz h1 h2 h3 h4 => ⟨l, rfl, h1, h2, h3, h4⟩), ?_⟩
    rintro _ G4 ⟨l4, rfl, t4, nl4, q4, z4⟩
    have SG4 : Same H G4 := fun b o e => t4 b o (S3 b o e)
    refine ⟨p0, _, _, rfl, rfl, t4 _ _ L3, (by rw [sizeLine_eq, List.length_map, E3]; decide), ?_⟩
    have S4 : Same H (upd G4 p0 (.lst (ls.map V.ref ++ [V.ref l4]))) := same_put SG4 N0
    have L4 : (upd G4 p0 (.lst (ls.map V.ref ++ [V.ref l4]))) p0 = some (.lst ((ls ++ [l4]).map V.ref)) := by rw [List.map_append]; exact upd_same
    have R4 : Rows c 0 "given" x p0 (upd G4 p0 (.lst (ls.map V.ref ++ [V.ref l4]))) (ls ++ [l4]) := by
      have bt : But p0 G4 (upd G4 p0 (.lst (ls.map V.ref ++ [V.ref l4]))) := fun b o n e => by rw [upd_ne n]; exact e
      exact Rows.snoc ((R3.but (But.of t4)).but bt) E3 ((z4 _ _ L3).but bt)
    have E4 : (ls ++ [l4]).length = 5 := by rw [List.length_append, E3]; rfl
    show (tSeq _ _) _ _ (upd G4 p0 (.lst (ls.map V.ref ++ [V.ref l4])))
    generalize (upd G4 p0 (.lst (ls.map V.ref ++ [V.ref l4]))) = H4 at S4 L4 R4 ⊢
    clear R3 L3
    generalize ls ++ [l4] = ls at L4 R4 E4
    refine ⟨_, rfl, .inl ⟨rfl, _, SqL.of L4⟩, fun v Hz => ∃ l : Addr, v = V.ref l ∧ Same H4 Hz ∧ H4 l = none ∧ PairIn c 5 "given" x Hz l ∧ ∀ p o, H4 p = some o → PairAt c 5 "given" x p Hz l, rd_pair rfl (fun l Hz h1 h2 h3 h4 => ⟨l, rfl, h1, h2, h3, h4⟩), ?_⟩
    rintro _ G5 ⟨l5, rfl, t5, nl5, q5, z5⟩
    have SG5 : Same H G5 := fun b o e => t5 b o (S4 b o e)
    refine ⟨p0, _, _, rfl, rfl, t5 _ _ L4, (by rw [sizeLine_eq, List.length_map, E4]; decide), ?_⟩
    have S5 : Same H (upd G5 p0 (.lst (ls.map V.ref ++ [V.ref l5]))) := same_put SG5 N0
    have L5 : (upd G5 p0 (.lst (ls.map V.ref ++ [V.ref l5]))) p0 = some (.lst ((ls ++ [l5]).map V.ref)) := by rw [List.map_append]; exact upd_same
    have R5 : Rows c 0 "given" x p0 (upd G5 p0 (.lst (ls.map V.ref ++ [V.ref l5]))) (ls ++ [l5]) := by
      have bt : But p0 G5 (upd G5 p0 (.lst (ls.map V.ref ++ [V.ref l5]))) := fun b o n e => by rw [upd_ne n]; exact e
      exact Rows.snoc ((R4.but (But.of t5)).but bt) E4 ((z5 _ _ L4).but bt)
    have E5 : (ls ++ [l5]).length = 6 := by rw [List.length_append, E4]; rfl
    show (tSeq _ _) _ _ (upd G5 p0 (.lst (ls.map V.ref ++ [V.ref l5])))
    generalize (upd G5 p0 (.lst (ls.map V.ref ++ [V.ref l5]))) = H5 at S5 L5 R5 ⊢
    clear R4 L4
    generalize ls ++ [l5] = ls at L5 R5 E5
    refine ⟨_, rfl, .inl ⟨rfl, _, SqL.of L5⟩, fun v Hz => ∃ l : Addr, v = V.ref l ∧ Same H5 Hz ∧ H5 l = none ∧ PairIn c 6 "given" x Hz l ∧ ∀ p o, H5 p = some o → PairAt c 6 "given" x p Hz l, rd_pair rfl (fun l Hz h1 h2 h3 h4 => ⟨l, rfl, h1, h2, h3, h4⟩), ?_⟩
    rintro _ G6 ⟨l6, rfl, t6, nl6, q6, z6⟩
    have SG6 : Same H G6 := fun b o e => t6 b o (S5 b o e)
    refine ⟨p0, _, _, rfl, rfl, t6 _ _ L5, (by rw [sizeLine_eq, List.length_map, E5]; decide), ?_⟩
    have S6 : Same H (upd G6 p0 (.lst (ls.map V.ref ++ [V.ref l6]))) := same_put SG6 N0
    have L6 : (upd G6 p0 (.lst (ls.map V.ref ++ [V.ref l6]))) p0 = some (.lst ((ls ++ [l6]).map V.ref)) := by rw [List.map_append]; exact upd_same
    have R6 : Rows c 0 "given" x p0 (upd G6 p0 (.lst (ls.map V.ref ++ [V.ref l6]))) (ls ++ [l6]) := by
      have bt : But p0 G6 (upd G6 p0 (.lst (ls.map V.ref ++ [V.ref l6]))) := fun b o n e => by rw [upd_ne n]; exact e
      exact Rows.snoc ((R5.but (But.of t6)).but bt) E5 ((z6 _ _ L5).but bt)
    have E6 : (ls ++ [l6]).length = 7 := by rw [List.length_append, E5]; rfl
    show (tSeq _ _) _ _ (upd G6 p0 (.lst (ls.map V.ref ++ [V.ref l6])))
    generalize (upd G6 p0 (.lst (ls.map V.ref ++ [V.ref l6]))) = H6 at S6 L6 R6 ⊢
    clear R5 L5
    generalize ls ++ [l6] = ls at L6 R6 E6
    refine ⟨_, rfl, .inl ⟨rfl, _, SqL.of L6⟩, fun v Hz => ∃ l : Addr, v = V.ref l ∧ Same H6 Hz ∧ H6 l = none ∧ PairIn c 7 "given" x Hz l ∧ ∀ p o, H6 p = some o → PairAt c 7 "given" x p Hz l, rd_pair rfl (fun l Hz h1 h2 h3 h4 => ⟨l, rfl, h1, h2, h3, h4⟩), ?_⟩
    rintro _ G7 ⟨l7, rfl, t7, nl7, q7, z7⟩
    have SG7 : Same H G7 := fun b o e => t7 b o (S6 b o e)
    refine ⟨p0, _, _, rfl, rfl, t7 _ _ L6, (by rw [sizeLine_eq, List.length_map, E6]; decide), ?_⟩
    have S7 : Same H (upd G7 p0 (.lst (ls.map V.ref ++ [V.ref l7]))) := same_put SG7 N0
    have L7 : (upd G7 p0 (.lst (ls.map V.ref ++ [V.ref l7]))) p0 = some (.lst ((ls ++ [l7]).map V.ref)) := by rw [List.map_append]; exact upd_same
    have R7 : Rows c 0 "given" x p0 (upd G7 p0 (.lst (ls.map V.ref ++ [V.ref l7]))) (ls ++ [l7]) := by
      have bt : But p0 G7 (upd G7 p0 (.lst (ls.map V.ref ++ [V.ref l7]))) := fun b o n e => by rw [upd_ne n]; exact e
      exact Rows.snoc ((R6.but (But.of t7)).but bt) E6 ((z7 _ _ L6).but bt)
    have E7 : (ls ++ [l7]).length = 8 := by rw [List.length_append, E6]; rfl
    show (tSeq _ _) _ _ (upd G7 p0 (.lst (ls.map V.ref ++ [V.ref l7])))
    generalize (upd G7 p0 (.lst (ls.map V.ref ++ [V.ref l7]))) = H7 at S7 L7 R7 ⊢
    clear R6 L6
    generalize ls ++ [l7] = ls at L7 R7 E7
    refine ⟨_, rfl, fun v Hz => ∃ l : Addr, v = V.ref l ∧ Same H7 Hz ∧ H7 l = none ∧ PairIn c 8 "given" x Hz l ∧ ∀ p o, H7 p = some o → PairAt c 8 "given" x p Hz l, rd_pair rfl (fun l Hz h1 h2 h3 h4 => ⟨l, rfl, h1, h2, h3, h4⟩), ?_⟩
    rintro _ G8 ⟨l8, rfl, t8, nl8, q8, z8⟩
    have SG8 : Same H G8 := fun b o e => t8 b o (S7 b o e)
    refine ⟨fun v Hz => ∃ l : Addr, v = V.ref l ∧ Same G8 Hz ∧ G8 l = none ∧ PairIn c 9 "given" x Hz l ∧ ∀ p o, G8 p = some o → PairAt c 9 "given" x p Hz l, rd_pair rfl (fun l Hz h1 h2 h3 h4 => ⟨l, rfl, h1, h2, h3, h4⟩), ?_⟩
    rintro _ G9 ⟨l9, rfl, t9, nl9, q9, z9⟩
    have SG9 : Same H G9 := fun b o e => t9 b o (SG8 b o e)
    refine ⟨sz (Nat.le_of_ble_eq_true rfl), fun y ny => ?_⟩
    have KY : (upd G9 y (.lst [V.ref l8, V.ref l9])) p0 = some (.lst (ls.map V.ref)) := by rw [upd_ne (ne_of_none (t9 _ _ (t8 _ _ L7)) ny)]; exact (t9 _ _ (t8 _ _ L7))
    refine ⟨p0, y, _, _, rfl, rfl, KY, upd_same, sz (by rw [List.length_map, E7]; exact Nat.le_of_ble_eq_true rfl), fun r nr => ?_⟩
    have SY : Same G9 (upd (upd G9 y (.lst [V.ref l8, V.ref l9])) r (.lst (ls.map V.ref ++ [V.ref l8, V.ref l9]))) := same_new (same_new (fun _ _ z => z) ny) nr
    have SZ : Same H (upd (upd G9 y (.lst [V.ref l8, V.ref l9])) r (.lst (ls.map V.ref ++ [V.ref l8, V.ref l9]))) := fun b o e => SY b o (SG9 b o e)
    have NR : H r = none := none_back (same_new SG9 ny) nr
    have LR : (upd (upd G9 y (.lst [V.ref l8, V.ref l9])) r (.lst (ls.map V.ref ++ [V.ref l8, V.ref l9]))) r = some (.lst ((ls ++ [l8, l9]).map V.ref)) := by rw [List.map_append]; exact upd_same
    have RR : Rows c 0 "given" x r (upd (upd G9 y (.lst [V.ref l8, V.ref l9])) r (.lst (ls.map V.ref ++ [V.ref l8, V.ref l9]))) (ls ++ [l8, l9]) := by
      have bt : But r (upd G9 y (.lst [V.ref l8, V.ref l9])) (upd (upd G9 y (.lst [V.ref l8, V.ref l9])) r (.lst (ls.map V.ref ++ [V.ref l8, V.ref l9]))) := fun b o n e => by rw [upd_ne n]; exact e
      have SQ : Same G9 (upd G9 y (.lst [V.ref l8, V.ref l9])) := same_new (fun _ _ z => z) ny
      have TO : Same H7 (upd G9 y (.lst [V.ref l8, V.ref l9])) := fun b o e => SQ b o (t9 b o (t8 b o e))
      have r0 : Rows c 0 "given" x r (upd (upd G9 y (.lst [V.ref l8, V.ref l9])) r (.lst (ls.map V.ref ++ [V.ref l8, V.ref l9]))) ls := fun k l z => (((R7 k l z).pair.seq TO).off nr).but bt
      have r1 := Rows.snoc r0 (n := 8) E7 ((((q8.seq t9).seq SQ).off nr).but bt)
      have r2 := Rows.snoc r1 (n := 9) (by rw [List.length_append, E7]; rfl) (((q9.seq SQ).off nr).but bt)
      rw [List.append_assoc] at r2
      exact r2
    have ER : (ls ++ [l8, l9]).length = 10 := by rw [List.length_append, E7]; rfl
    show (tSeq _ _) _ _ (upd (upd G9 y (.lst [V.ref l8, V.ref l9])) r (.lst (ls.map V.ref ++ [V.ref l8, V.ref l9])))
    clear SY KY
    generalize (upd (upd G9 y (.lst [V.ref l8, V.ref l9])) r (.lst (ls.map V.ref ++ [V.ref l8, V.ref l9]))) = H8 at SZ LR RR ⊢
    generalize (ls ++ [l8, l9]) = ls at LR RR ER
    have S8 := SZ
    have L8 := LR
    have R8 := RR
    have E8 := ER
    have N0 := NR
    clear SZ LR RR ER NR
    refine ⟨_, rfl, fun v Hz => ∃ l : Addr, v = V.ref l ∧ Same H8 Hz ∧ H8 l = none ∧ PairIn c 10 "given" x Hz l ∧ ∀ p o, H8 p = some o → PairAt c 10 "given" x p Hz l, rd_pair rfl (fun l Hz h1 h2 h3 h4 => ⟨l, rfl, h1, h2, h3, h4⟩), ?_⟩
    rintro _ G10 ⟨l10, rfl, t10, nl10, q10, z10⟩
    have SG10 : Same H G10 := fun b o e => t10 b o (S8 b o e)
    refine ⟨fun v Hz => ∃ l : Addr, v = V.ref l ∧ Same G10 Hz ∧ G10 l = none ∧ PairIn c 11 "given" x Hz l ∧ ∀ p o, G10 p = some o → PairAt c 11 "given" x p Hz l, rd_pair rfl (fun l Hz h1 h2 h3 h4 => ⟨l, rfl, h1, h2, h3, h4⟩), ?_⟩
    rintro _ G11 ⟨l11, rfl, t11, nl11, q11, z11⟩
    have SG11 : Same H G11 := fun b o e => t11 b o (SG10 b o e)
    refine ⟨sz (Nat.le_of_ble_eq_true rfl), fun y ny => ?_⟩
    have KY : (upd G11 y (.lst [V.ref l10, V.ref l11])) r = some (.lst (ls.map V.ref)) := by rw [upd_ne (ne_of_none (t11 _ _ (t10 _ _ L8)) ny)]; exact (t11 _ _ (t10 _ _ L8))
    refine ⟨r, y, _, _, rfl, rfl, KY, upd_same, sz (by rw [List.length_map, E8]; exact Nat.le_of_ble_eq_true rfl), fun r nr => ?_⟩
    have SY : Same G11 (upd (upd G11 y (.lst [V.ref l10, V.ref l11])) r (.lst (ls.map V.ref ++ [V.ref l10, V.ref l11]))) := same_new (same_new (fun _ _ z => z) ny) nr
    have SZ : Same H (upd (upd G11 y (.lst [V.ref l10, V.ref l11])) r (.lst (ls.map V.ref ++ [V.ref l10, V.ref l11]))) := fun b o e => SY b o (SG11 b o e)
    have NR : H r = none := none_back (same_new SG11 ny) nr
    have LR : (upd (upd G11 y (.lst [V.ref l10, V.ref l11])) r (.lst (ls.map V.ref ++ [V.ref l10, V.ref l11]))) r = some (.lst ((ls ++ [l10, l11]).map V.ref)) := by rw [List.map_append]; exact upd_same
    have RR : Rows c 0 "given" x r (upd (upd G11 y (.lst [V.ref l10, V.ref l11])) r (.lst (ls.map V.ref ++ [V.ref l10, V.ref l11]))) (ls ++ [l10, l11]) := by
      have bt : But r (upd G11 y (.lst [V.ref l10, V.ref l11])) (upd (upd G11 y (.lst [V.ref l10, V.ref l11])) r (.lst (ls.map V.ref ++ [V.ref l10, V.ref l11]))) := fun b o n e => by rw [upd_ne n]; exact e
      have SQ : Same G11 (upd G11 y (.lst [V.ref l10, V.ref l11])) := same_new (fun _ _ z => z) ny
      have TO : Same H8 (upd G11 y (.lst [V.ref l10, V.ref l11])) := fun b o e => SQ b o (t11 b o (t10 b o e))
      have r0 : Rows c 0 "given" x r (upd (upd G11 y (.lst [V.ref l10, V.ref l11])) r (.lst (ls.map V.ref ++ [V.ref l10, V.ref l11]))) ls := fun k l z => (((R8 k l z).pair.seq TO).off nr).but bt
      have r1 := Rows.snoc r0 (n := 10) E8 ((((q10.seq t11).seq SQ).off nr).but bt)
      have r2 := Rows.snoc r1 (n := 11) (by rw [List.length_append, E8]; rfl) (((q11.seq SQ).off nr).but bt)
      rw [List.append_assoc] at r2
      exact r2
    have ER : (ls ++ [l10, l11]).length = 12 := by rw [List.length_append, E8]; rfl
    exact k r _ (ls ++ [l10, l11]) NR SZ ER LR fun n l z => (RR n l z).pair
theorem ok_index {f : Addr} {fd : FuncData} (F : Fun K "_law_index_errors" "_law_index_errors" sIndex f fd) (G : Mks K mg c fi) : FnOk P w K mg base CX0 2 f fd ["_law_thing"] (spPairs c 12 9 "index") := by
  refine F.ok scIndex (fun vs H Q E h => ?_) (fun cdv A outer s H vs Q E hr1 h => ?_)
  · obtain ⟨x, rfl, _⟩ := h
    rfl
  · obtain ⟨x, rfl, k⟩ := h
    have sz : ∀ {n : Nat}, n ≤ 100 → n ≤ sizeLine := fun h => by rw [sizeLine_eq]; omega
    refine ⟨_, pss_cons (ps_set (i := 1) scIndex.nd rfl (Or.inl rfl) (pe_lst (pa_cons (pe_join0 (pe_lst (pa_cons (pe_err in_i (G.ix 0 (by decide)) bo_ve hr1 (by rfl) (pv 0)) (pa_cons (pe_errK in_i (G.ix 0 (by decide)) bo_ve hr1 (by rfl) (pv 0)) pa_nil)))) pa_nil)))
      (pss_cons (ps_expr (pe_bm PySem.F.plainAttrs_list PySem.F.slot_list_append PySem.F.type_list_append mt_append (pv 1) (pa_cons (pe_join0 (pe_lst (pa_cons (pe_err in_i (G.ix 1 (by decide)) bo_ve hr1 (by rfl) (pv 0)) (pa_cons (pe_errK in_i (G.ix 1 (by decide)) bo_ve hr1 (by rfl) (pv 0)) pa_nil)))) pa_nil)))
      (pss_cons (ps_set (i := 1) scIndex.nd rfl (Or.inl rfl) (pe_op op_cat (pv 1) (pe_lst (pa_cons (pe_join0 (pe_lst (pa_cons (pe_err in_i (G.ix 2 (by decide)) bo_ve hr1 (by rfl) (pv 0)) (pa_cons (pe_errK in_i (G.ix 2 (by decide)) bo_ve hr1 (by rfl) (pv 0)) pa_nil)))) pa_nil))))
      (pss_cons (ps_expr (pe_bm PySem.F.plainAttrs_list PySem.F.slot_list_append PySem.F.type_list_append mt_append (pv 1) (pa_cons (pe_join0 (pe_lst (pa_cons (pe_err in_i (G.ix 3 (by decide)) bo_ve hr1 (by rfl) (pv 0)) (pa_cons (pe_errK in_i (G.ix 3 (by decide)) bo_ve hr1 (by rfl) (pv 0)) pa_nil)))) pa_nil)))
      (pss_cons (ps_expr (pe_bm PySem.F.plainAttrs_list PySem.F.slot_list_append PySem.F.type_list_append mt_append (pv 1) (pa_cons (pe_join0 (pe_lst (pa_cons (pe_err in_i (G.ix 4 (by decide)) bo_ve hr1 (by rfl) (pv 0)) (pa_cons (pe_errK in_i (G.ix 4 (by decide)) bo_ve hr1 (by rfl) (pv 0)) pa_nil)))) pa_nil)))
      (pss_cons (ps_expr (pe_bm PySem.F.plainAttrs_list PySem.F.slot_list_append PySem.F.type_list_append mt_append (pv 1) (pa_cons (pe_join0 (pe_lst (pa_cons (pe_err in_i (G.ix 5 (by decide)) bo_ve hr1 (by rfl) (pv 0)) (pa_cons (pe_errK in_i (G.ix 5 (by decide)) bo_ve hr1 (by rfl) (pv 0)) pa_nil)))) pa_nil)))
      (pss_cons (ps_expr (pe_bm PySem.F.plainAttrs_list PySem.F.slot_list_append PySem.F.type_list_append mt_append (pv 1) (pa_cons (pe_join0 (pe_lst (pa_cons (pe_err in_i (G.ix 6 (by decide)) bo_ve hr1 (by rfl) (pv 0)) (pa_cons (pe_errK in_i (G.ix 6 (by decide)) bo_ve hr1 (by rfl) (pv 0)) pa_nil)))) pa_nil)))
      (pss_cons (ps_expr (pe_bm PySem.F.plainAttrs_list PySem.F.slot_list_append PySem.F.type_list_append mt_append (pv 1) (pa_cons (pe_join0 (pe_lst (pa_cons (pe_err in_i (G.ix 7 (by decide)) bo_ve hr1 (by rfl) (pv 0)) (pa_cons (pe_errK in_i (G.ix 7 (by decide)) bo_ve hr1 (by rfl) (pv 0)) pa_nil)))) pa_nil)))
      (pss_one (ps_ret (pe_op op_cat (pv 1) (pe_lst (pa_cons (pe_join0 (pe_lst (pa_cons (pe_err in_i (G.ix 8 (by decide)) bo_ve hr1 (by rfl) (pv 0)) (pa_cons (pe_errK in_i (G.ix 8 (by decide)) bo_ve hr1 (by rfl) (pv 0)) pa_nil)))) pa_nil)))))))))))), ?_⟩
    have S0 : Same H H := fun _ _ z => z
    refine ⟨fun v Hz => ∃ l : Addr, v = V.ref l ∧ Same H Hz ∧ H l = none ∧ PairIn c 12 "index" x Hz l ∧ ∀ p o, H p = some o → PairAt c 12 "index" x p Hz l, rd_pair rfl (fun l Hz h1 h2 h3 h4 => ⟨l, rfl, h1, h2, h3, h4⟩), ?_⟩
    rintro _ G12 ⟨l12, rfl, t12, nl12, q12, z12⟩
    have SG12 : Same H G12 := fun b o e => t12 b o (S0 b o e)
    refine ⟨sz (Nat.le_of_ble_eq_true rfl), fun p0 np0 => ?_⟩
    have N0 : H p0 = none := none_back SG12 np0
    have S1 : Same H (upd G12 p0 (.lst ([l12].map V.ref))) := same_new SG12 np0
    have L1 : (upd G12 p0 (.lst ([l12].map V.ref))) p0 = some (.lst ([l12].map V.ref)) := upd_same
    have R1 : Rows c 12 "index" x p0 (upd G12 p0 (.lst ([l12].map V.ref))) [l12] := by
      have bt : But p0 G12 (upd G12 p0 (.lst ([l12].map V.ref))) := But.of (same_new (fun _ _ z => z) np0)
      have r0 : Rows c 12 "index" x p0 (upd G12 p0 (.lst ([l12].map V.ref))) [] := fun k l z => by cases z
      have r1 := Rows.snoc r0 (n := 0) rfl ((PairIn.off q12 np0).but bt)
      exact r1
    show (tSeq _ _) _ _ (upd G12 p0 (.lst ([l12].map V.ref)))
    generalize (upd G12 p0 (.lst ([l12].map V.ref))) = H1 at S1 L1 R1 ⊢
    generalize els : [l12] = ls at L1 R1
    have E1 : ls.length = 1 := by rw [← els]; rfl
    clear els
    refine ⟨_, rfl, .inl ⟨rfl, _, SqL.of L1⟩, fun v Hz => ∃ l : Addr, v = V.ref l ∧ Same H1 Hz ∧ H1 l = none ∧ PairIn c 13 "index" x Hz l ∧ ∀ p o, H1 p = some o → PairAt c 13 "index" x p Hz l, rd_pair rfl (fun l Hz h1 h2 h3 h4 => ⟨l, rfl, h1, h2, h3, h4⟩), ?_⟩
    rintro _ G13 ⟨l13, rfl, t13, nl13, q13, z13⟩
    have SG13 : Same H G13 := fun b o e => t13 b o (S1 b o e)
    refine ⟨p0, _, _, rfl, rfl, t13 _ _ L1, (by rw [sizeLine_eq, List.length_map, E1]; decide), ?_⟩
    have S2 : Same H (upd G13 p0 (.lst (ls.map V.ref ++ [V.ref l13]))) := same_put SG13 N0
    have L2 : (upd G13 p0 (.lst (ls.map V.ref ++ [V.ref l13]))) p0 = some (.lst ((ls ++ [l13]).map V.ref)) := by rw [List.map_append]; exact upd_same
    have R2 : Rows c 12 "index" x p0 (upd G13 p0 (.lst (ls.map V.ref ++ [V.ref l13]))) (ls ++ [l13]) := by
      have bt : But p0 G13 (upd G13 p0 (.lst (ls.map V.ref ++ [V.ref l13]))) := fun b o n e => by rw [upd_ne n]; exact e
      exact Rows.snoc ((R1.but (But.of t13)).but bt) E1 ((z13 _ _ L1).but bt)
    have E2 : (ls ++ [l13]).length = 2 := by rw [List.length_append, E1]; rfl
    show (tSeq _ _) _ _ (upd G13 p0 (.lst (ls.map V.ref ++ [V.ref l13])))
    generalize (upd G13 p0 (.lst (ls.map V.ref ++ [V.ref l13]))) = H2 at S2 L2 R2 ⊢
    clear R1 L1
    generalize ls ++ [l13] = ls at L2 R2 E2
    refine ⟨_, rfl, fun v Hz => ∃ l : Addr, v = V.ref l ∧ Same H2 Hz ∧ H2 l = none ∧ PairIn c 14 "index" x Hz l ∧ ∀ p o, H2 p = some o → PairAt c 14 "index" x p Hz l, rd_pair rfl (fun l Hz h1 h2 h3 h4 => ⟨l, rfl, h1, h2, h3, h4⟩), ?_⟩
    rintro _ G14 ⟨l14, rfl, t14, nl14, q14, z14⟩
    have SG14 : Same H G14 := fun b o e => t14 b o (S2 b o e)
    refine ⟨sz (Nat.le_of_ble_eq_true rfl), fun y ny => ?_⟩
    have KY : (upd G14 y (.lst [V.ref l14])) p0 = some (.lst (ls.map V.ref)) := by rw [upd_ne (ne_of_none (t14 _ _ L2) ny)]; exact (t14 _ _ L2)
    refine ⟨p0, y, _, _, rfl, rfl, KY, upd_same, sz (by rw [List.length_map, E2]; exact Nat.le_of_ble_eq_true rfl), fun r nr => ?_⟩
    have SY : Same G14 (upd (upd G14 y (.lst [V.ref l14])) r (.lst (ls.map V.ref ++ [V.ref l14]))) := same_new (same_new (fun _ _ z => z) ny) nr
    have SZ : Same H (upd (upd G14 y (.lst [V.ref l14])) r (.lst (ls.map V.ref ++ [V.ref l14]))) := fun b o e => SY b o (SG14 b o e)
    have NR : H r = none := none_back (same_new SG14 ny) nr
    have LR : (upd (upd G14 y (.lst [V.ref l14])) r (.lst (ls.map V.ref ++ [V.ref l14]))) r = some (.lst ((ls ++ [l14]).map V.ref)) := by rw [List.map_append]; exact upd_same
    have RR : Rows c 12 "index" x r (upd (upd G14 y (.lst [V.ref l14])) r (.lst (ls.map V.ref ++ [V.ref l14]))) (ls ++ [l14]) := by
      have bt : But r (upd G14 y (.lst [V.ref l14])) (upd (upd G14 y (.lst [V.ref l14])) r (.lst (ls.map V.ref ++ [V.ref l14]))) := fun b o n e => by rw [upd_ne n]; exact e
      have SQ : Same G14 (upd G14 y (.lst [V.ref l14])) := same_new (fun _ _ z => z) ny
      have TO : Same H2 (upd G14 y (.lst [V.ref l14])) := fun b o e => SQ b o (t14 b o e)
      have r0 : Rows c 12 "index" x r (upd (upd G14 y (.lst [V.ref l14])) r (.lst (ls.map V.ref ++ [V.ref l14]))) ls := fun k l z => (((R2 k l z).pair.seq TO).off nr).but bt
      have r1 := Rows.snoc r0 (n := 2) E2 (((q14.seq SQ).off nr).but bt)
      exact r1
    have ER : (ls ++ [l14]).length = 3 := by rw [List.length_append, E2]; rfl
    show (tSeq _ _) _ _ (upd (upd G14 y (.lst [V.ref l14])) r (.lst (ls.map V.ref ++ [V.ref l14])))
    clear SY KY
    generalize (upd (upd G14 y (.lst [V.ref l14])) r (.lst (ls.map V.ref ++ [V.ref l14]))) = H3 at SZ LR RR ⊢
    generalize (ls ++ [l14]) = ls at LR RR ER
    have S3 := SZ
    have L3 := LR
    have R3 := RR
    have E3 := ER
    have N0 := NR
    clear SZ LR RR ER NR
    refine ⟨_, rfl, .inl ⟨rfl, _, SqL.of L3⟩, fun v Hz => ∃ l : Addr, v = V.ref l ∧ Same H3 Hz ∧ H3 l = none ∧ PairIn c 15 "index" x Hz l ∧ ∀ p o, H3 p = some o → PairAt c 15 "index" x p Hz l, rd_pair rfl (fun l Hz h1 h2 h3 h4 => ⟨l, rfl, h1, h2, h3, h4⟩), ?_⟩
    rintro _ G15 ⟨l15, rfl, t15, nl15, q15, z15⟩
    have SG15 : Same H G15 := fun b o e => t15 b o (S3 b o e)
    refine ⟨r, _, _, rfl, rfl, t15 _ _ L3, (by rw [sizeLine_eq, List.length_map, E3]; decide), ?_⟩
    have S4 : Same H (upd G15 r (.lst (ls.map V.ref ++ [V.ref l15]))) := same_put SG15 N0
    have L4 : (upd G15 r (.lst (ls.map V.ref ++ [V.ref l15]))) r = some (.lst ((ls ++ [l15]).map V.ref)) := by rw [List.map_append]; exact upd_same
    have R4 : Rows c 12 "index" x r (upd G15 r (.lst (ls.map V.ref ++ [V.ref l15]))) (ls ++ [l15]) := by
      have bt : But r G15 (upd G15 r (.lst (ls.map V.ref ++ [V.ref l15]))) := fun b o n e => by rw [upd_ne n]; exact e
      exact Rows.snoc ((R3.but (But.of t15)).but bt) E3 ((z15 _ _ L3).but bt)
    have E4 : (ls ++ [l15]).length = 4 := by rw [List.length_append, E3]; rfl
    show (tSeq _ _) _ _ (upd G15 r (.lst (ls.map V.ref ++ [V.ref l15])))
    generalize (upd G15 r (.lst (ls.map V.ref ++ [V.ref l15]))) = H4 at S4 L4 R4 ⊢
    clear R3 L3
    generalize ls ++ [l15] = ls at L4 R4 E4
    refine ⟨_, rfl, .inl ⟨rfl, _, SqL.of L4⟩, fun v Hz => ∃ l : Addr, v = V.ref l ∧ Same H4 Hz ∧ H4 l = none ∧ PairIn c 16 "index" x Hz l ∧ ∀ p o, H4 p = some o → PairAt c 16 "index" x p Hz l, rd_pair rfl (fun l Hz h1 h2 h3 h4 => ⟨l, rfl, h1, h2, h3, h4⟩), ?_⟩
    rintro _ G16 ⟨l16, rfl, t16, nl16, q16, z16⟩
    have SG16 : Same H G16 := fun b o e => t16 b o (S4 b o e)
    refine ⟨r, _, _, rfl, rfl, t16 _ _ L4, (by rw [sizeLine_eq, List.length_map, E4]; decide), ?_⟩
    have S5 : Same H (upd G16 r (.lst (ls.map V.ref ++ [V.ref l16]))) := same_put SG16 N0
    have L5 : (upd G16 r (.lst (ls.map V.ref ++ [V.ref l16]))) r = some (.lst ((ls ++ [l16]).map V.ref)) := by rw [List.map_append]; exact upd_same
    have R5 : Rows c 12 "index" x r (upd G16 r (.lst (ls.map V.ref ++ [V.ref l16]))) (ls ++ [l16]) := by
      have bt : But r G16 (upd G16 r (.lst (ls.map V.ref ++ [V.ref l16]))) := fun b o n e => by rw [upd_ne n]; exact e
      exact Rows.snoc ((R4.but (But.of t16)).but bt) E4 ((z16 _ _ L4).but bt)
    have E5 : (ls ++ [l16]).length = 5 := by rw [List.length_append, E4]; rfl
    show (tSeq _ _) _ _ (upd G16 r (.lst (ls.map V.ref ++ [V.ref l16])))
    generalize (upd G16 r (.lst (ls.map V.ref ++ [V.ref l16]))) = H5 at S5 L5 R5 ⊢
    clear R4 L4
    generalize ls ++ [l16] = ls at L5 R5 E5
    refine ⟨_, rfl, .inl ⟨rfl, _, SqL.of L5⟩, fun v Hz => ∃ l : Addr, v = V.ref l ∧ Same H5 Hz ∧ H5 l = none ∧ PairIn c 17 "index" x Hz l ∧ ∀ p o, H5 p = some o → PairAt c 17 "index" x p Hz l, rd_pair rfl (fun l Hz h1 h2 h3 h4 => ⟨l, rfl, h1, h2, h3, h4⟩), ?_⟩
    rintro _ G17 ⟨l17, rfl, t17, nl17, q17, z17⟩
    have SG17 : Same H G17 := fun b o e => t17 b o (S5 b o e)
    refine ⟨r, _, _, rfl, rfl, t17 _ _ L5, (by rw [sizeLine_eq, List.length_map, E5]; decide), ?_⟩
    have S6 : Same H (upd G17 r (.lst (ls.map V.ref ++ [V.ref l17]))) := same_put SG17 N0
    have L6 : (upd G17 r (.lst (ls.map V.ref ++ [V.ref l17]))) r = some (.lst ((ls ++ [l17]).map V.ref)) := by rw [List.map_append]; exact upd_same
    have R6 : Rows c 12 "index" x r (upd G17 r (.lst (ls.map V.ref ++ [V.ref l17]))) (ls ++ [l17]) := by
      have bt : But r G17 (upd G17 r (.lst (ls.map V.ref ++ [V.ref l17]))) := fun b o n e => by rw [upd_ne n]; exact e
      exact Rows.snoc ((R5.but (But.of t17)).but bt) E5 ((z17 _ _ L5).but bt)
    have E6 : (ls ++ [l17]).length = 6 := by rw [List.length_append, E5]; rfl
    show (tSeq _ _) _ _ (upd G17 r (.lst (ls.map V.ref ++ [V.ref l17])))
    generalize (upd G17 r (.lst (ls.map V.ref ++ [V.ref l17]))) = H6 at S6 L6 R6 ⊢
    clear R5 L5
    generalize ls ++ [l17] = ls at L6 R6 E6
    refine ⟨_, rfl, .inl ⟨rfl, _, SqL.of L6⟩, fun v Hz => ∃ l : Addr, v = V.ref l ∧ Same H6 Hz ∧ H6 l = none ∧ PairIn c 18 "index" x Hz l ∧ ∀ p o, H6 p = some o → PairAt c 18 "index" x p Hz l, rd_pair rfl (fun l Hz h1 h2 h3 h4 => ⟨l, rfl, h1, h2, h3, h4⟩), ?_⟩
    rintro _ G18 ⟨l18, rfl, t18, nl18, q18, z18⟩
    have SG18 : Same H G18 := fun b o e => t18 b o (S6 b o e)
    refine ⟨r, _, _, rfl, rfl, t18 _ _ L6, (by rw [sizeLine_eq, List.length_map, E6]; decide), ?_⟩
    have S7 : Same H (upd G18 r (.lst (ls.map V.ref ++ [V.ref l18]))) := same_put SG18 N0
    have L7 : (upd G18 r (.lst (ls.map V.ref ++ [V.ref l18]))) r = some (.lst ((ls ++ [l18]).map V.ref)) := by rw [List.map_append]; exact upd_same
    have R7 : Rows c 12 "index" x r (upd G18 r (.lst (ls.map V.ref ++ [V.ref l18]))) (ls ++ [l18]) := by
      have bt : But r G18 (upd G18 r (.lst (ls.map V.ref ++ [V.ref l18]))) := fun b o n e => by rw [upd_ne n]; exact e
      exact Rows.snoc ((R6.but (But.of t18)).but bt) E6 ((z18 _ _ L6).but bt)
    have E7 : (ls ++ [l18]).length = 7 := by rw [List.length_append, E6]; rfl
    show (tSeq _ _) _ _ (upd G18 r (.lst (ls.map V.ref ++ [V.ref l18])))
    generalize (upd G18 r (.lst (ls.map V.ref ++ [V.ref l18]))) = H7 at S7 L7 R7 ⊢
    clear R6 L6
    generalize ls ++ [l18] = ls at L7 R7 E7
    refine ⟨_, rfl, .inl ⟨rfl, _, SqL.of L7⟩, fun v Hz => ∃ l : Addr, v = V.ref l ∧ Same H7 Hz ∧ H7 l = none ∧ PairIn c 19 "index" x Hz l ∧ ∀ p o, H7 p = some o → PairAt c 19 "index" x p Hz l, rd_pair rfl (fun l Hz h1 h2 h3 h4 => ⟨l, rfl, h1, h2, h3, h4⟩), ?_⟩
    rintro _ G19 ⟨l19, rfl, t19, nl19, q19, z19⟩
    have SG19 : Same H G19 := fun b o e => t19 b o (S7 b o e)
    refine ⟨r, _, _, rfl, rfl, t19 _ _ L7, (by rw [sizeLine_eq, List.length_map, E7]; decide), ?_⟩
    have S8 : Same H (upd G19 r (.lst (ls.map V.ref ++ [V.ref l19]))) := same_put SG19 N0
    have L8 : (upd G19 r (.lst (ls.map V.ref ++ [V.ref l19]))) r = some (.lst ((ls ++ [l19]).map V.ref)) := by rw [List.map_append]; exact upd_same
    have R8 : Rows c 12 "index" x r (upd G19 r (.lst (ls.map V.ref ++ [V.ref l19]))) (ls ++ [l19]) := by
      have bt : But r G19 (upd G19 r (.lst (ls.map V.ref ++ [V.ref l19]))) := fun b o n e => by rw [upd_ne n]; exact e
      exact Rows.snoc ((R7.but (But.of t19)).but bt) E7 ((z19 _ _ L7).but bt)
    have E8 : (ls ++ [l19]).length = 8 := by rw [List.length_append, E7]; rfl
    show (tSeq _ _) _ _ (upd G19 r (.lst (ls.map V.ref ++ [V.ref l19])))
    generalize (upd G19 r (.lst (ls.map V.ref ++ [V.ref l19]))) = H8 at S8 L8 R8 ⊢
    clear R7 L7
    generalize ls ++ [l19] = ls at L8 R8 E8
    refine ⟨_, rfl, fun v Hz => ∃ l : Addr, v = V.ref l ∧ Same H8 Hz ∧ H8 l = none ∧ PairIn c 20 "index" x Hz l ∧ ∀ p o, H8 p = some o → PairAt c 20 "index" x p Hz l, rd_pair rfl (fun l Hz h1 h2 h3 h4 => ⟨l, rfl, h1, h2, h3, h4⟩), ?_⟩
    rintro _ G20 ⟨l20, rfl, t20, nl20, q20, z20⟩
    have SG20 : Same H G20 := fun b o e => t20 b o (S8 b o e)
    refine ⟨sz (Nat.le_of_ble_eq_true rfl), fun y ny => ?_⟩
    have KY : (upd G20 y (.lst [V.ref l20])) r = some (.lst (ls.map V.ref)) := by rw [upd_ne (ne_of_none (t20 _ _ L8) ny)]; exact (t20 _ _ L8)
    refine ⟨r, y, _, _, rfl, rfl, KY, upd_same, sz (by rw [List.length_map, E8]; exact Nat.le_of_ble_eq_true rfl), fun r nr => ?_⟩
    have SY : Same G20 (upd (upd G20 y (.lst [V.ref l20])) r (.lst (ls.map V.ref ++ [V.ref l20]))) := same_new (same_new (fun _ _ z => z) ny) nr
    have SZ : Same H (upd (upd G20 y (.lst [V.ref l20])) r (.lst (ls.map V.ref ++ [V.ref l20]))) := fun b o e => SY b o (SG20 b o e)
    have NR : H r = none := none_back (same_new SG20 ny) nr
    have LR : (upd (upd G20 y (.lst [V.ref l20])) r (.lst (ls.map V.ref ++ [V.ref l20]))) r = some (.lst ((ls ++ [l20]).map V.ref)) := by rw [List.map_append]; exact upd_same
    have RR : Rows c 12 "index" x r (upd (upd G20 y (.lst [V.ref l20])) r (.lst (ls.map V.ref ++ [V.ref l20]))) (ls ++ [l20]) := by
      have bt : But r (upd G20 y (.lst [V.ref l20])) (upd (upd G20 y (.lst [V.ref l20])) r (.lst (ls.map V.ref ++ [V.ref l20]))) := fun b o n e => by rw [upd_ne n]; exact e
      have SQ : Same G20 (upd G20 y (.lst [V.ref l20])) := same_new (fun _ _ z => z) ny
      have TO : Same H8 (upd G20 y (.lst [V.ref l20])) := fun b o e => SQ b o (t20 b o e)
      have r0 : Rows c 12 "index" x r (upd (upd G20 y (.lst [V.ref l20])) r (.lst (ls.map V.ref ++ [V.ref l20]))) ls := fun k l z => (((R8 k l z).pair.seq TO).off nr).but bt
      have r1 := Rows.snoc r0 (n := 8) E8 (((q20.seq SQ).off nr).but bt)
      exact r1
    have ER : (ls ++ [l20]).length = 9 := by rw [List.length_append, E8]; rfl
    exact k r _ (ls ++ [l20]) NR SZ ER LR fun n l z => (RR n l z).pair
end
end LJ
set_option Elab.async false
set_option linter.all false
set_option maxRecDepth 100000
set_option maxHeartbeats 4000000
namespace LJ
open PySem L2 PySem.ErrV
section
variable {H H1 : Hp}
mutual
theorem rp_seq (s : Same H H1) : ∀ (d : PyData) (x : V), rp H d x → rp H1 d x
  | .none, x, e => by
    unfold rp at e ⊢
    exact e
  | .bool b, x, e => by
    unfold rp at e ⊢
    exact e
  | .int i, x, e => by
    unfold rp at e ⊢
    exact e
  | .str z, x, e => by
    unfold rp at e ⊢
    exact e
  | .list ds, x, e => by
    unfold rp at e ⊢
    obtain ⟨a, xs, h1, h2, h3⟩ := e
    exact ⟨a, xs, h1, s _ _ h2, rpAll_seq s ds xs h3⟩
  | .tuple ds, x, e => by
    unfold rp at e ⊢
    obtain ⟨a, xs, h1, h2, h3⟩ := e
    exact ⟨a, xs, h1, s _ _ h2, rpAll_seq s ds xs h3⟩
  | .dict ds, x, e => by
    unfold rp at e
    exact e.elim
theorem rpAll_seq (s : Same H H1) : ∀ (ds : List PyData) (xs : List V), rpAll H ds xs → rpAll H1 ds xs
  | [], xs, e => by
    unfold rpAll at e ⊢
    exact e
  | d :: ds, xs, e => by
    unfold rpAll at e ⊢
    obtain ⟨y, ys, h1, h2, h3⟩ := e
    exact ⟨y, ys, h1, rp_seq s d y h2, rpAll_seq s ds ys h3⟩
end
theorem rpD_seq (s : Same H H1) {d : PyData} {x : V} (e : rpD H d x) : rpD H1 d x := by
  obtain ⟨a, kvs, ds, h1, h2, h3⟩ := e
  exact ⟨a, kvs, ds, h1, s _ _ h2, h3⟩
end
/-- x is the datum d, small enough to be shown -/
structure Dat (H : Hp) (d : PyData) (x : V) : Prop where
  at_ : rp H d x ∨ rpD H d x
  sh : d.showable = true
  dp : d.depth ≤ 100
  sz : d.shown.length ≤ sizeLine
  ok : PyData.strOk d.shown = true
theorem Dat.seq {H H1 : Hp} {d : PyData} {x : V} (h : Dat H d x) (s : Same H H1) : Dat H1 d x :=
  ⟨h.at_.elim (fun e => .inl (rp_seq s d x e)) fun e => .inr (rpD_seq s e), h.sh, h.dp, h.sz, h.ok⟩
theorem Same.trans {H H1 H2 : Hp} (s : Same H H1) (t : Same H1 H2) : Same H H2 := fun b o e => t b o (s b o e)
theorem same_refl {H : Hp} : Same H H := fun _ _ z => z
abbrev tRow (K : PySem.W.Frag) (c : Nat → Addr) (f : Str) : TE :=
  tOp rCat (tCall (spSorts c) [] E0 (tCons (tVar 4) tNil)) (tLst (tCons (tCB rRepr (tCons (tEf K f (tVar 4)) tNil)) tNil))
theorem shaped_rows (N A B : Int) {z : Str} (h : PyData.strOk z = true) : SeqAt.shaped (.list [.list [.int N, .int A, .int B, .str z], .list [.int N, .int A, .int B, .str z]]) = true := by
  simp [SeqAt.shaped, PyData.canLay0, PyData.canLayAll0, PyData.depth, PyData.depthAll, h]
section
variable {K : PySem.W.Frag} {c : Nat → Addr} {i : Nat} {f : Str} {x : V} {d : PyData} {l : Addr} {v0 v2 : Option V} {H : Hp}
/-- what the comprehension over two errors gives: two rows, alike -/
theorem rd_comp {Q : VK} (hi : i < 28) (hno : PySem.W.findIn K (.ref (c i)) f = some none) (xf : XfC K (c i)) (pr : PairIn c i f x H l) (dx : Dat H d x) (small : (sortsOf i).length ≤ 50)
    (k : ∀ (D r1 r2 : Addr) (H1 : Hp), Same H H1 → H1 D = some (.lst [.ref r1, .ref r2]) → H1 r1 = some (.lst ((sortsOf i).map V.int ++ [.str d.shown])) → H1 r2 = some (.lst ((sortsOf i).map V.int ++ [.str d.shown])) → Q (.ref D) H1) :
    tLc (iList K (tVar 3)) (gName 4) tYes (tRow K c f) (List.map (fun x => x.snd) [(("_law_e" : Str), 4)]) [v0, some x, v2, some (.ref l), none] H Q := by
  obtain ⟨a, b, da, db, hl, ha, hda, hb, hdb⟩ := pr
  have err : ∀ (n : Nat) (y : V), ([.ref a, .ref b] : List V)[n]? = some y → ∃ q dq : Addr, y = .ref q ∧ H q = some (exo q (c i) (some dq)) ∧ H dq = some (exd dq [(f, x)]) := fun n y hy => by
    rcases List.mem_cons.mp (List.mem_of_getElem? hy) with rfl | hm
    · exact ⟨a, da, rfl, ha, hda⟩
    · obtain rfl := List.mem_singleton.mp hm
      exact ⟨b, db, rfl, hb, hdb⟩
  have big : ∀ {n : Nat}, n ≤ 100 → n ≤ sizeLine := fun h => by
    rw [sizeLine_eq]
    omega
  refine ⟨_, rfl, l, rfl, ⟨_, SqL.of hl⟩, fun D hD => lc_list (K := K) (a := l) (xs := [.ref a, .ref b])
    (fun n H2 => Same H H2 ∧ ∃ rs : List Addr, rs.length = n ∧ n ≤ 2 ∧ H2 D = some (.lst (rs.map V.ref)) ∧ ∀ r ∈ rs, H2 r = some (.lst ((sortsOf i).map V.int ++ [.str d.shown])) ∧ r ≠ D)
    ⟨same_new same_refl hD, [], rfl, by decide, upd_same, fun r hr => nomatch hr⟩ (fun n H2 _ ⟨s, _⟩ => SqL.of (s _ _ hl)) ?_ ?_⟩
  · rintro n y H2 hy ⟨s2, rs, hn, hn2, hDl, rows⟩
    have nlt : n < 2 := (List.getElem?_eq_some_iff.mp hy).1
    obtain ⟨q, dq, rfl, hq, hdq⟩ := err n y hy
    refine ⟨rfl, ?_⟩
    refine ⟨_, rfl, q, i, rfl, hi, ⟨some dq, s2 _ _ hq, fun z e => by cases e; exact ⟨_, s2 _ _ hdq⟩⟩, fun p H3 np s3 lp => ?_⟩
    have s13 : Same H H3 := Same.trans s2 s3
    refine ⟨_, rfl, q, c i, dq, [(f, x)], x, rfl, xf, hno, s13 _ _ hq, s13 _ _ hdq, (by simp [List.lookup]), x, d, rfl, (dx.seq s13).at_, dx.sh, dx.dp, dx.sz, ?_⟩
    refine ⟨big (Nat.le_of_ble_eq_true rfl), fun q1 nq1 => ?_⟩
    have lp1 : (upd H3 q1 (.lst [.str d.shown])) p = some (.lst ((sortsOf i).map V.int)) := by
      rw [upd_ne (ne_of_none lp nq1)]
      exact lp
    refine ⟨p, q1, _, _, rfl, rfl, lp1, upd_same, big (by rw [List.length_map, List.length_singleton]; omega), fun r nr => ?_⟩
    have sA : Same H3 (upd (upd H3 q1 (.lst [.str d.shown])) r (.lst ((sortsOf i).map V.int ++ [.str d.shown]))) := same_new (same_new same_refl nq1) nr
    have lr : (upd (upd H3 q1 (.lst [.str d.shown])) r (.lst ((sortsOf i).map V.int ++ [.str d.shown]))) r = some (.lst ((sortsOf i).map V.int ++ [.str d.shown])) := upd_same
    have nrD : r ≠ D := by
      intro z
      have w : (upd H3 q1 (.lst [.str d.shown])) D = some (.lst (rs.map V.ref)) := same_new same_refl nq1 _ _ (s3 _ _ hDl)
      rw [z, w] at nr
      cases nr
    generalize upd (upd H3 q1 (.lst [.str d.shown])) r (.lst ((sortsOf i).map V.int ++ [.str d.shown])) = H4 at sA lr ⊢
    have s4 : Same H2 H4 := Same.trans s3 sA
    refine ⟨_, s4 _ _ hDl, ?_, same_put (Same.trans s2 s4) hD, rs ++ [r], ?_, by omega, ?_, ?_⟩
    · rw [sizeLine_eq, List.length_map]
      omega
    · rw [List.length_append, hn]
      rfl
    · rw [List.map_append]
      exact upd_same
    · intro r1 hr1
      rcases List.mem_append.mp hr1 with hm | hm
      · obtain ⟨h1, h2⟩ := rows r1 hm
        exact ⟨by rw [upd_ne h2]; exact s4 _ _ h1, h2⟩
      · obtain rfl := List.mem_singleton.mp hm
        exact ⟨by rw [upd_ne nrD]; exact lr, nrD⟩
  · rintro H2 ⟨s2, rs, hn, _, hDl, rows⟩
    match rs, hn with
    | [r1, r2], _ => exact k D r1 r2 H2 s2 hDl (rows r1 (by simp)).1 (rows r2 (by simp)).1
/-- the whole test: false -/
theorem rd_test {tN : TE} {N A B : Int} {Qb : Bool → Hp → Prop} (hi : i < 28) (hno : PySem.W.findIn K (.ref (c i)) f = some none) (xf : XfC K (c i)) (pr : PairIn c i f x H l) (dx : Dat H d x)
    (so : sortsOf i = [N, A, B]) (hN : ∀ (H1 : Hp) (Q : VK), Q (.int N) H1 → tN [v0, some x, v2, some (.ref l), none] H1 Q) (k : ∀ H1 : Hp, Same H H1 → Qb false H1) :
    tTest (tOp (rNeD K) (tLc (iList K (tVar 3)) (gName 4) tYes (tRow K c f) (List.map (fun x => x.snd) [(("_law_e" : Str), 4)]))
      (tOp rRep (tLst (tCons (tLst (tCons tN (tCons (tC (.int A)) (tCons (tC (.int B)) (tCons (tCB rRepr (tCons (tVar 1) tNil)) tNil))))) tNil)) (tC (.int 2)))) [v0, some x, v2, some (.ref l), none] H Qb := by
  refine rd_comp (Q := fun y H2 => (tOp rRep (tLst (tCons (tLst (tCons tN (tCons (tC (.int A)) (tCons (tC (.int B)) (tCons (tCB rRepr (tCons (tVar 1) tNil)) tNil))))) tNil)) (tC (.int 2))) [v0, some x, v2, some (.ref l), none] H2
    fun z H3 => rNeD K y z H3 fun v H4 => ∃ k, v = .bl k ∧ Qb k H4) hi hno xf pr dx (by rw [so]; exact Nat.le_of_ble_eq_true rfl) fun D r1 r2 H1 s1 hD h1 h2 => ?_
  have big : ∀ {n : Nat}, n ≤ 100 → n ≤ sizeLine := fun h => by
    rw [sizeLine_eq]
    omega
  refine hN _ _ ⟨_, rfl, x, d, rfl, (dx.seq s1).at_, dx.sh, dx.dp, dx.sz, big (Nat.le_of_ble_eq_true rfl), fun q1 n1 => ⟨big (Nat.le_of_ble_eq_true rfl), fun q2 n2 => ?_⟩⟩
  refine ⟨q2, 2, _, rfl, rfl, upd_same, by decide, by decide, big (Nat.le_of_ble_eq_true rfl), fun q3 n3 => ?_⟩
  have t1 : Same H1 (upd H1 q1 (.lst [.int N, .int A, .int B, .str d.shown])) := same_new same_refl n1
  have e1 : (upd H1 q1 (.lst [.int N, .int A, .int B, .str d.shown])) q1 = some (.lst [.int N, .int A, .int B, .str d.shown]) := upd_same
  have t2 : Same (upd H1 q1 (.lst [.int N, .int A, .int B, .str d.shown])) _ := same_new (o := .lst [.ref q1]) same_refl n2
  have t3 : Same _ (upd (upd (upd H1 q1 (.lst [.int N, .int A, .int B, .str d.shown])) q2 (.lst [.ref q1])) q3 (.lst [.ref q1, .ref q1])) := same_new t2 n3
  have e3 : (upd (upd (upd H1 q1 (.lst [.int N, .int A, .int B, .str d.shown])) q2 (.lst [.ref q1])) q3 (.lst [.ref q1, .ref q1])) q3 = some (.lst [.ref q1, .ref q1]) := upd_same
  have g1 := t3 _ _ e1
  have s3 : Same H1 (upd (upd (upd H1 q1 (.lst [.int N, .int A, .int B, .str d.shown])) q2 (.lst [.ref q1])) q3 (.lst [.ref q1, .ref q1])) := Same.trans t1 t3
  have dpr : ∀ {G : Hp} {r : Addr}, G r = some (.lst [.int N, .int A, .int B, .str d.shown]) → Dp K G (.ref r) (.list [.int N, .int A, .int B, .str d.shown]) := fun h =>
    .lst (SqL.of h) (.cons (.int _) (.cons (.int _) (.cons (.int _) (.cons (.str _) .nil))))
  rw [so] at h1 h2
  have rowE : ([N, A, B].map V.int ++ [V.str d.shown]) = [V.int N, V.int A, V.int B, V.str d.shown] := rfl
  rw [rowE] at h1 h2
  refine ⟨.list [.list [.int N, .int A, .int B, .str d.shown], .list [.int N, .int A, .int B, .str d.shown]], .list [.list [.int N, .int A, .int B, .str d.shown], .list [.int N, .int A, .int B, .str d.shown]],
    .lst (SqL.of (s3 _ _ hD)) (.cons (dpr (s3 _ _ h1)) (.cons (dpr (s3 _ _ h2)) .nil)), .lst (SqL.of e3) (.cons (dpr g1) (.cons (dpr g1) .nil)), shaped_rows _ _ _ dx.ok, shaped_rows _ _ _ dx.ok, _, rfl, ?_⟩
  rw [SeqAt.eqv_refl _ (SeqAt.canLay_of_shaped (shaped_rows _ _ _ dx.ok))]
  exact k _ (Same.trans s1 s3)
end
end LJ
set_option Elab.async false
set_option linter.all false
set_option maxRecDepth 100000
set_option maxHeartbeats 4000000
namespace LJ
open PySem L2 PySem.ErrV
abbrev sRight : Stmt := top 49
/-- the fourteen things, as data -/
def things : List PyData := [.none, .int 0, .int (-3), .bool true, .str "a", .str "", .tuple [], .tuple [.int 1, .int 2], .list [], .list [.int 7], .dict [], .dict [(.str "a", .int 1)], .int (10 ^ 30), .tuple [.str "run", .int 3]]
def fine (d : PyData) : Bool := d.showable && decide (d.depth ≤ 100) && decide (d.shown.length ≤ 16777216) && PyData.strOk d.shown
theorem things_fine : things.all fine = true := by decide +kernel
theorem dat_of {H : Hp} {d : PyData} {x : V} (h : fine d = true) (e : rp H d x ∨ rpD H d x) : Dat H d x := by
  unfold fine at h
  simp only [Bool.and_eq_true, decide_eq_true_eq] at h
  obtain ⟨⟨⟨h1, h2⟩, h3⟩, h4⟩ := h
  exact ⟨e, h1, h2, by rw [sizeLine_eq]; exact h3, h4⟩
theorem so_ve : ∀ k, k < 21 → sortsOf k = [(k : Int), 50, 53] := by decide +kernel
theorem so_ix : ∀ n, n < 9 → sortsOf (12 + n) = [12 + (n : Int), 50, 53] := by decide +kernel
theorem so_un : sortsOf 21 = [21, 51, 54] := by decide +kernel
theorem so_br : sortsOf 22 = [22, 52, 55] := by decide +kernel
theorem so_us : sortsOf 23 = [23, 52, 55] := by decide +kernel
def spRight : Sp := fun vs H Q _ => ∃ j : Addr, vs = [.ref j] ∧ JarAt H j ∧ ∀ H1 : Hp, But j H H1 → Q (.bl true) H1
theorem But.then {j : Addr} {H H1 H2 : Hp} (b : But j H H1) (s : Same H1 H2) : But j H H2 := fun a o n e => s a o (b a o n e)
section
variable {K : PySem.W.Frag} {c : Nat → Addr} {i : Nat} {f : Str} {x : V} {d : PyData} {l : Addr} {v0 v2 : Option V} {H : Hp}
theorem rd_if {tN : TE} {N A B : Int} {t u : TS} {D : Ends} (hi : i < 28) (hno : PySem.W.findIn K (.ref (c i)) f = some none) (xf : XfC K (c i)) (pr : PairIn c i f x H l) (dx : Dat H d x)
    (so : sortsOf i = [N, A, B]) (hN : ∀ (H1 : Hp) (Q : VK), Q (.int N) H1 → tN [v0, some x, v2, some (.ref l), none] H1 Q) (k : ∀ H1 : Hp, Same H H1 → u D [v0, some x, v2, some (.ref l), none] H1) :
    tIfS (tTest (tOp (rNeD K) (tLc (iList K (tVar 3)) (gName 4) tYes (tRow K c f) (List.map (fun x => x.snd) [(("_law_e" : Str), 4)]))
      (tOp rRep (tLst (tCons (tLst (tCons tN (tCons (tC (.int A)) (tCons (tC (.int B)) (tCons (tCB rRepr (tCons (tVar 1) tNil)) tNil))))) tNil)) (tC (.int 2))))) t u D [v0, some x, v2, some (.ref l), none] H :=
  rd_test (Qb := fun b H1 => if b = true then t D [v0, some x, v2, some (.ref l), none] H1 else u D [v0, some x, v2, some (.ref l), none] H1) hi hno xf pr dx so hN fun H1 s => iteF (k H1 s)
end
theorem rd_seq {A B : TS} {D : Ends} {σ : St} {H : Hp} (h : A { D with nx := fun σ2 H2 => B D σ2 H2 } σ H) : tSeq A B D σ H := h
section
variable {P : Program} {w : World} {K : PySem.W.Frag} {mg : Str → Option Value} {base : Heap} {c fi : Nat → Addr}
theorem scRight : FnScope ["_law_jar_here", "_law_thing", "_law_at", "_law_both", "_law_e"] ["_law_jar_here"] (defScope sRight) := ⟨rfl, rfl, rfl, by decide +kernel, rfl, by decide +kernel, by decide +kernel⟩

structure BltR (mg : Str → Option Value) : Prop where
  repr : mg "repr" = none
  enum : mg "enumerate" = none
theorem ok_right {f fO fG fI fS : Addr} {fd fdO fdG fdI fdS : FuncData} (F : Fun K "_law_right" "_law_right" sRight f fd) (B : BltR mg) (C : Cl K mg c) (M : Mks K mg c fi) (xf : ∀ i, i < 28 → XfC K (c i))
    (GO : FnOk P w K mg base CX0 2 fO fdO ["_law_jar_here", "_law_some"] spOne) (mO : mg "_law_one_of" = some (.ref fO)) (kO : PySem.W.keepIn K (.ref fO) = true) (bO : Binds K fdO ["_law_jar_here", "_law_some"] [])
    (GG : FnOk P w K mg base CX0 2 fG fdG ["_law_thing"] (spPairs c 0 12 "given")) (mG : mg "_law_given_errors" = some (.ref fG)) (kG : PySem.W.keepIn K (.ref fG) = true) (bG : Binds K fdG ["_law_thing"] [])
    (GI : FnOk P w K mg base CX0 2 fI fdI ["_law_thing"] (spPairs c 12 9 "index")) (mI : mg "_law_index_errors" = some (.ref fI)) (kI : PySem.W.keepIn K (.ref fI) = true) (bI : Binds K fdI ["_law_thing"] [])
    (GS : FnOk P w K mg base CX0 1 fS fdS ["_law_e"] (spSorts c)) (mS : mg "_law_sorts" = some (.ref fS)) (kS : PySem.W.keepIn K (.ref fS) = true) (bS : Binds K fdS ["_law_e"] []) :
    FnG P w K mg base 3 f fd ["_law_jar_here"] spRight := by
  refine F.okG scRight (fun vs H Q E h => ?_) (fun cdv A outer s H vs Q hgA hr h => ?_)
  · obtain ⟨j, rfl, _⟩ := h
    rfl
  · obtain ⟨j, rfl, hj, k⟩ := h
    have hr1 : Room 1 _ := hr.mono (by decide)
    have hgd : (A.deeper (PyProof.Rows.envOfC "_law_right" (defScope sRight) s.heap.objs.size f cdv)).guards = some [] := hgA
    have hu : (A.deeper (PyProof.Rows.envOfC "_law_right" (defScope sRight) s.heap.objs.size f cdv)).units + 150 < cLine := by
      have := hr.un
      omega
    have hu64 : (A.deeper (PyProof.Rows.envOfC "_law_right" (defScope sRight) s.heap.objs.size f cdv)).units + 64 < cLine := by omega
    have sz : ∀ {n : Nat}, n ≤ 100 → n ≤ sizeLine := fun h => by rw [sizeLine_eq]; omega
    refine ⟨_, pss_cons (ps_set (i := 1) scRight.nd rfl (Or.inl rfl) (pe_join0 (pe_call GO hr (by rfl) mO kO bO .nil pass0 (pa_cons (pv 0) (pa_cons (pe_lst (pa_cons pe_non (pa_cons pe_int (pa_cons (pe_un un_neg pe_int) (pa_cons pe_bl (pa_cons pe_str (pa_cons pe_str (pa_cons (pe_tup pa_nil) (pa_cons (pe_tup (pa_cons pe_int (pa_cons pe_int pa_nil))) (pa_cons (pe_lst pa_nil) (pa_cons (pe_lst (pa_cons pe_int pa_nil)) (pa_cons pe_dnewK (pa_cons (pe_disp (pps_cons pe_str pe_int pps_nil) (by rfl) (by rfl) (fun z => by cases z) (by decide)) (pa_cons (pe_op op_pow pe_int pe_int) (pa_cons (pe_tup (pa_cons pe_str (pa_cons pe_int pa_nil))) pa_nil))))))))))))))) pa_nil)))))
      (pss_cons (ps_for PassesOwn.never rfl (pi_enum (by rfl) B.enum (pa_cons (pe_call GG hr (by rfl) mG kG bG .nil pass0 (pa_cons (pv 1) pa_nil)) pa_nil)) (pg_tup (by rfl) (pgs_cons (pg_name (i := 2) scRight.nd rfl (Or.inl rfl)) (pgs_cons (pg_name (i := 3) scRight.nd rfl (Or.inl rfl)) pgs_nil))) (pss_one (ps_if (pt_cmpR (op_neD hu64) (pe_lc (own := [("_law_e", 4)]) (g := gName 4) (te := tRow K c "given") (by rfl) scRight.nd (pi_list (pv 3)) (blkOk_by (own := [("_law_e", 4)]) (N := ["_law_jar_here", "_law_thing", "_law_at", "_law_both", "_law_e"]) (sc := defScope sRight) (by decide +kernel)) (fun _ _ _ _ _ => pg_name (i := 4) scRight.nd rfl (Or.inl rfl)) (fun _ _ _ _ _ => pts_nil) (fun _ _ _ _ _ => pe_op op_cat (pe_call GS hr1 (by rfl) mS kS bS .nil pass0 (pa_cons (pv 4) pa_nil)) (pe_lst (pa_cons (pe_callB (call_repr_data hgd hu) (by rfl) B.repr (by decide +kernel) (pa_cons (show PE _ _ (tEf K "given" (tVar 4)) from pe_ef (pv 4)) pa_nil)) pa_nil)))) (pe_op op_rep (pe_lst (pa_cons (pe_lst (pa_cons (pv 2) (pa_cons pe_int (pa_cons pe_int (pa_cons (pe_callB (call_repr_data hgd hu) (by rfl) B.repr (by decide +kernel) (pa_cons (pv 1) pa_nil)) pa_nil))))) pa_nil)) pe_int) (nomark _)) (pss_one (ps_ret pe_bl)) pss_nil)))
      (pss_cons (ps_for PassesOwn.never rfl (pi_enum (by rfl) B.enum (pa_cons (pe_call GI hr (by rfl) mI kI bI .nil pass0 (pa_cons (pv 1) pa_nil)) pa_nil)) (pg_tup (by rfl) (pgs_cons (pg_name (i := 2) scRight.nd rfl (Or.inl rfl)) (pgs_cons (pg_name (i := 3) scRight.nd rfl (Or.inl rfl)) pgs_nil))) (pss_one (ps_if (pt_cmpR (op_neD hu64) (pe_lc (own := [("_law_e", 4)]) (g := gName 4) (te := tRow K c "index") (by rfl) scRight.nd (pi_list (pv 3)) (blkOk_by (own := [("_law_e", 4)]) (N := ["_law_jar_here", "_law_thing", "_law_at", "_law_both", "_law_e"]) (sc := defScope sRight) (by decide +kernel)) (fun _ _ _ _ _ => pg_name (i := 4) scRight.nd rfl (Or.inl rfl)) (fun _ _ _ _ _ => pts_nil) (fun _ _ _ _ _ => pe_op op_cat (pe_call GS hr1 (by rfl) mS kS bS .nil pass0 (pa_cons (pv 4) pa_nil)) (pe_lst (pa_cons (pe_callB (call_repr_data hgd hu) (by rfl) B.repr (by decide +kernel) (pa_cons (show PE _ _ (tEf K "index" (tVar 4)) from pe_ef (pv 4)) pa_nil)) pa_nil)))) (pe_op op_rep (pe_lst (pa_cons (pe_lst (pa_cons (pe_op op_add pe_int (pv 2)) (pa_cons pe_int (pa_cons pe_int (pa_cons (pe_callB (call_repr_data hgd hu) (by rfl) B.repr (by decide +kernel) (pa_cons (pv 1) pa_nil)) pa_nil))))) pa_nil)) pe_int) (nomark _)) (pss_one (ps_ret pe_bl)) pss_nil)))
      (pss_cons (ps_set (i := 3) scRight.nd rfl (Or.inl rfl) (pe_join0 (pe_lst (pa_cons (pe_err in_g M.un bo_le hr1 (by rfl) (pv 1)) (pa_cons (pe_errK in_g M.un bo_le hr1 (by rfl) (pv 1)) pa_nil)))))
      (pss_cons (ps_if (pt_cmpR (op_neD hu64) (pe_lc (own := [("_law_e", 4)]) (g := gName 4) (te := tRow K c "given") (by rfl) scRight.nd (pi_list (pv 3)) (blkOk_by (own := [("_law_e", 4)]) (N := ["_law_jar_here", "_law_thing", "_law_at", "_law_both", "_law_e"]) (sc := defScope sRight) (by decide +kernel)) (fun _ _ _ _ _ => pg_name (i := 4) scRight.nd rfl (Or.inl rfl)) (fun _ _ _ _ _ => pts_nil) (fun _ _ _ _ _ => pe_op op_cat (pe_call GS hr1 (by rfl) mS kS bS .nil pass0 (pa_cons (pv 4) pa_nil)) (pe_lst (pa_cons (pe_callB (call_repr_data hgd hu) (by rfl) B.repr (by decide +kernel) (pa_cons (show PE _ _ (tEf K "given" (tVar 4)) from pe_ef (pv 4)) pa_nil)) pa_nil)))) (pe_op op_rep (pe_lst (pa_cons (pe_lst (pa_cons pe_int (pa_cons pe_int (pa_cons pe_int (pa_cons (pe_callB (call_repr_data hgd hu) (by rfl) B.repr (by decide +kernel) (pa_cons (pv 1) pa_nil)) pa_nil))))) pa_nil)) pe_int) (nomark _)) (pss_one (ps_ret pe_bl)) pss_nil)
      (pss_cons (ps_for PassesOwn.never rfl (pi_list (pe_lst (pa_cons (pe_tup (pa_cons pe_int (pa_cons (pe_join0 (pe_lst (pa_cons (pe_err in_i M.br bo_ae hr1 (by rfl) (pv 1)) (pa_cons (pe_errK in_i M.br bo_ae hr1 (by rfl) (pv 1)) pa_nil)))) pa_nil))) (pa_cons (pe_tup (pa_cons pe_int (pa_cons (pe_join0 (pe_lst (pa_cons (pe_err in_i M.us bo_ae hr1 (by rfl) (pv 1)) (pa_cons (pe_errK in_i M.us bo_ae hr1 (by rfl) (pv 1)) pa_nil)))) pa_nil))) pa_nil)))) (pg_tup (by rfl) (pgs_cons (pg_name (i := 2) scRight.nd rfl (Or.inl rfl)) (pgs_cons (pg_name (i := 3) scRight.nd rfl (Or.inl rfl)) pgs_nil))) (pss_one (ps_if (pt_cmpR (op_neD hu64) (pe_lc (own := [("_law_e", 4)]) (g := gName 4) (te := tRow K c "index") (by rfl) scRight.nd (pi_list (pv 3)) (blkOk_by (own := [("_law_e", 4)]) (N := ["_law_jar_here", "_law_thing", "_law_at", "_law_both", "_law_e"]) (sc := defScope sRight) (by decide +kernel)) (fun _ _ _ _ _ => pg_name (i := 4) scRight.nd rfl (Or.inl rfl)) (fun _ _ _ _ _ => pts_nil) (fun _ _ _ _ _ => pe_op op_cat (pe_call GS hr1 (by rfl) mS kS bS .nil pass0 (pa_cons (pv 4) pa_nil)) (pe_lst (pa_cons (pe_callB (call_repr_data hgd hu) (by rfl) B.repr (by decide +kernel) (pa_cons (show PE _ _ (tEf K "index" (tVar 4)) from pe_ef (pv 4)) pa_nil)) pa_nil)))) (pe_op op_rep (pe_lst (pa_cons (pe_lst (pa_cons (pv 2) (pa_cons pe_int (pa_cons pe_int (pa_cons (pe_callB (call_repr_data hgd hu) (by rfl) B.repr (by decide +kernel) (pa_cons (pv 1) pa_nil)) pa_nil))))) pa_nil)) pe_int) (nomark _)) (pss_one (ps_ret pe_bl)) pss_nil)))
      (pss_one (ps_ret pe_bl))))))), ?_⟩
    have jn : ∀ {H1 : Hp} {p : Addr}, H1 p = none → Same H H1 → p ≠ j := fun {H1 p} n s e => by
      obtain ⟨d0, m0, c0, hj0, _⟩ := hj
      rw [e, s _ _ hj0] at n
      cases n
    refine ⟨fun v H1 => (∃ d, Dat H1 d v) ∧ But j H H1, ?_, ?_⟩
    · refine ⟨_, rfl, _, rfl, sz (Nat.le_of_ble_eq_true rfl), fun p1 n1 => ?_⟩
      have s1 : Same H (upd H p1 (.tup [])) := same_new same_refl n1
      have e1 : (upd H p1 (.tup [])) p1 = some (.tup []) := upd_same
      have j1 := jn n1 same_refl
      generalize upd H p1 (.tup []) = H1 at s1 e1 ⊢
      refine ⟨sz (Nat.le_of_ble_eq_true rfl), fun p2 n2 => ?_⟩
      have t2 : Same H1 (upd H1 p2 (.tup [.int 1, .int 2])) := same_new same_refl n2
      have e2 : (upd H1 p2 (.tup [.int 1, .int 2])) p2 = some (.tup [.int 1, .int 2]) := upd_same
      have j2 := jn n2 s1
      generalize upd H1 p2 (.tup [.int 1, .int 2]) = H2 at t2 e2 ⊢
      have s2 := Same.trans s1 t2
      refine ⟨sz (Nat.le_of_ble_eq_true rfl), fun p3 n3 => ?_⟩
      have t3 : Same H2 (upd H2 p3 (.lst [])) := same_new same_refl n3
      have e3 : (upd H2 p3 (.lst [])) p3 = some (.lst []) := upd_same
      have j3 := jn n3 s2
      generalize upd H2 p3 (.lst []) = H3 at t3 e3 ⊢
      have s3 := Same.trans s2 t3
      refine ⟨sz (Nat.le_of_ble_eq_true rfl), fun p4 n4 => ?_⟩
      have t4 : Same H3 (upd H3 p4 (.lst [.int 7])) := same_new same_refl n4
      have e4 : (upd H3 p4 (.lst [.int 7])) p4 = some (.lst [.int 7]) := upd_same
      have j4 := jn n4 s3
      generalize upd H3 p4 (.lst [.int 7]) = H4 at t4 e4 ⊢
      have s4 := Same.trans s3 t4
      intro p5 n5
      have t5 : Same H4 (upd H4 p5 (.dK [])) := same_new same_refl n5
      have e5 : (upd H4 p5 (.dK [])) p5 = some (.dK []) := upd_same
      have j5 := jn n5 s4
      generalize upd H4 p5 (.dK []) = H5 at t5 e5 ⊢
      have s5 := Same.trans s4 t5
      intro p6 n6
      refine ⟨upd_same, [(Sum.inr "a", .int 1)], rfl, by decide, ?_⟩
      have t6 : Same H5 (upd (upd H5 p6 (.dK [])) p6 (.dK (mergeK [] [(Sum.inr "a", .int 1)]))) := fun b o e => by
        rw [upd_ne (ne_of_none e n6), upd_ne (ne_of_none e n6)]
        exact e
      have e6 : (upd (upd H5 p6 (.dK [])) p6 (.dK (mergeK [] [(Sum.inr "a", .int 1)]))) p6 = some (.dK [(Sum.inr "a", .int 1)]) := upd_same
      have j6 := jn n6 s5
      generalize upd (upd H5 p6 (.dK [])) p6 (.dK (mergeK [] [(Sum.inr "a", .int 1)])) = H6 at t6 e6 ⊢
      have s6 := Same.trans s5 t6
      refine ⟨_, _, rfl, rfl, ⟨by decide, by decide, by decide⟩, sz (Nat.le_of_ble_eq_true rfl), fun p7 n7 => ?_⟩
      have t7 : Same H6 (upd H6 p7 (.tup [.str "run", .int 3])) := same_new same_refl n7
      have e7 : (upd H6 p7 (.tup [.str "run", .int 3])) p7 = some (.tup [.str "run", .int 3]) := upd_same
      have j7 := jn n7 s6
      generalize upd H6 p7 (.tup [.str "run", .int 3]) = H7 at t7 e7 ⊢
      have s7 := Same.trans s6 t7
      refine ⟨sz (Nat.le_of_ble_eq_true rfl), fun l nl => ?_⟩
      have jl := jn nl s7
      obtain ⟨d0, m0, c0, hj0, hm0, hm1⟩ := hj
      have tl : ∀ o, Same H7 (upd H7 l o) := fun o => same_new same_refl nl
      refine ⟨j, l, _, rfl, ⟨d0, m0, c0, tl _ _ _ (s7 _ _ hj0), hm0, hm1⟩, upd_same, jl, (by exact (by decide : 0 < 14)), (by exact (by decide : 14 < 100000)), fun n v H8 hv J8 b8 => ?_⟩
      have up : ∀ {p : Addr} {o : HO}, p ≠ j → H7 p = some o → H8 p = some o := fun n e => b8 _ _ n (tl _ _ _ e)
      refine ⟨?_, fun b o n e => b8 b o n (tl _ _ _ (s7 b o e))⟩
      have f1 := up j1 (Same.trans t2 (Same.trans t3 (Same.trans t4 (Same.trans t5 (Same.trans t6 t7)))) _ _ e1)
      have f2 := up j2 (Same.trans t3 (Same.trans t4 (Same.trans t5 (Same.trans t6 t7))) _ _ e2)
      have f3 := up j3 (Same.trans t4 (Same.trans t5 (Same.trans t6 t7)) _ _ e3)
      have f4 := up j4 (Same.trans t5 (Same.trans t6 t7) _ _ e4)
      have f5 := up j5 (Same.trans t6 t7 _ _ e5)
      have f6 := up j6 (t7 _ _ e6)
      have f7 := up j7 e7
      clear t2 t3 t4 t5 t6 t7 tl up b8 J8
      match n, hv with
      | 0, hv =>
        obtain rfl := (Option.some.inj hv).symm
        exact ⟨.none, dat_of (by decide +kernel) (.inl (by unfold rp; rfl))⟩
      | 1, hv =>
        obtain rfl := (Option.some.inj hv).symm
        exact ⟨.int 0, dat_of (by decide +kernel) (.inl (by unfold rp; rfl))⟩
      | 2, hv =>
        obtain rfl := (Option.some.inj hv).symm
        exact ⟨.int (-3), dat_of (by decide +kernel) (.inl (by unfold rp; rfl))⟩
      | 3, hv =>
        obtain rfl := (Option.some.inj hv).symm
        exact ⟨.bool true, dat_of (by decide +kernel) (.inl (by unfold rp; rfl))⟩
      | 4, hv =>
        obtain rfl := (Option.some.inj hv).symm
        exact ⟨.str "a", dat_of (by decide +kernel) (.inl (by unfold rp; rfl))⟩
      | 5, hv =>
        obtain rfl := (Option.some.inj hv).symm
        exact ⟨.str "", dat_of (by decide +kernel) (.inl (by unfold rp; rfl))⟩
      | 6, hv =>
        obtain rfl := (Option.some.inj hv).symm
        exact ⟨.tuple [], dat_of (by decide +kernel) (.inl (by unfold rp; exact ⟨_, _, rfl, f1, by unfold rpAll; rfl⟩))⟩
      | 7, hv =>
        obtain rfl := (Option.some.inj hv).symm
        exact ⟨.tuple [.int 1, .int 2], dat_of (by decide +kernel) (.inl (by unfold rp; exact ⟨_, _, rfl, f2, by unfold rpAll; exact ⟨_, _, rfl, by unfold rp; rfl, by unfold rpAll; exact ⟨_, _, rfl, by unfold rp; rfl, by unfold rpAll; rfl⟩⟩⟩))⟩
      | 8, hv =>
        obtain rfl := (Option.some.inj hv).symm
        exact ⟨.list [], dat_of (by decide +kernel) (.inl (by unfold rp; exact ⟨_, _, rfl, f3, by unfold rpAll; rfl⟩))⟩
      | 9, hv =>
        obtain rfl := (Option.some.inj hv).symm
        exact ⟨.list [.int 7], dat_of (by decide +kernel) (.inl (by unfold rp; exact ⟨_, _, rfl, f4, by unfold rpAll; exact ⟨_, _, rfl, by unfold rp; rfl, by unfold rpAll; rfl⟩⟩))⟩
      | 10, hv =>
        obtain rfl := (Option.some.inj hv).symm
        exact ⟨.dict [], dat_of (by decide +kernel) (.inr ⟨_, _, _, rfl, f5, rfl, .nil⟩)⟩
      | 11, hv =>
        obtain rfl := (Option.some.inj hv).symm
        exact ⟨.dict [(.str "a", .int 1)], dat_of (by decide +kernel) (.inr ⟨_, _, _, rfl, f6, rfl, .cons ⟨rfl, by unfold rp; rfl⟩ .nil⟩)⟩
      | 12, hv =>
        obtain rfl := (Option.some.inj hv).symm
        exact ⟨.int (10 ^ 30), dat_of (by decide +kernel) (.inl (by unfold rp; rfl))⟩
      | 13, hv =>
        obtain rfl := (Option.some.inj hv).symm
        exact ⟨.tuple [.str "run", .int 3], dat_of (by decide +kernel) (.inl (by unfold rp; exact ⟨_, _, rfl, f7, by unfold rpAll; exact ⟨_, _, rfl, by unfold rp; rfl, by unfold rpAll; exact ⟨_, _, rfl, by unfold rp; rfl, by unfold rpAll; rfl⟩⟩⟩))⟩
      | n + 14, hv => cases hv
    · rintro v H1 ⟨⟨d, dx⟩, b1⟩
      clear jn hj
      refine ⟨_, rfl, v, rfl, fun r H2 ls nr s2 len lr rows => ⟨r, ls.map V.ref, rfl, SqL.of lr, for_it (walk_enum (xs := ls.map V.ref)) (fun n σ H3 => (∃ v2 v3, σ = [some (.ref j), some v, v2, v3, none]) ∧ Same H2 H3) ⟨⟨_, _, rfl⟩, same_refl⟩ (fun n σ H3 _ ⟨_, s⟩ => SqL.of (s _ _ lr)) ?_ ?_⟩⟩
      · rintro n y σ H3 H4 hn ⟨⟨v2, v3, rfl⟩, s3⟩ ⟨T, a1, b2, rfl, nT, rfl, ha, hb⟩
        cases ha
        rw [List.length_map, len] at hn
        obtain ⟨l, hl, rfl⟩ : ∃ l, ls[n]? = some l ∧ b2 = V.ref l := by
          have hb : (ls.map V.ref)[n]? = some b2 := hb
          rw [List.getElem?_map] at hb
          cases e : ls[n]? with
          | none =>
            rw [e] at hb
            cases hb
          | some l =>
            rw [e] at hb
            exact ⟨l, rfl, (Option.some.inj hb).symm⟩
        have pr := rows n l hl
        rw [Nat.zero_add] at pr
        have s4 : Same H2 (upd H3 T (.tup [.int (n : Nat), .ref l])) := same_new s3 nT
        refine ⟨T, _, rfl, SqT.of upd_same, rfl, _, _, rfl, _, _, rfl, rfl, ?_⟩
        exact rd_if (i := n) (d := d) (by omega) (M.gv n hn).noN (xf n (by omega)) (pr.seq s4) (dx.seq (Same.trans s2 s4)) (so_ve n (by omega)) (fun H5 Q5 q => ⟨_, rfl, q⟩) (fun H5 s5 => ⟨⟨_, _, rfl⟩, Same.trans s4 s5⟩)
      · rintro σ H3 ⟨⟨v2, v3, rfl⟩, s3⟩
        have b3 : But j H H3 := b1.then (Same.trans s2 s3)
        have dx3 := dx.seq (Same.trans s2 s3)
        clear rows lr len nr dx b1 s3 s2
        refine ⟨_, rfl, v, rfl, fun r H2 ls nr s2 len lr rows => ⟨r, ls.map V.ref, rfl, SqL.of lr, for_it (walk_enum (xs := ls.map V.ref)) (fun n σ H3 => (∃ v2 v3, σ = [some (.ref j), some v, v2, v3, none]) ∧ Same H2 H3) ⟨⟨_, _, rfl⟩, same_refl⟩ (fun n σ H3 _ ⟨_, s⟩ => SqL.of (s _ _ lr)) ?_ ?_⟩⟩
        · rintro n y σ H5 H4 hn ⟨⟨v2, v3, rfl⟩, s3⟩ ⟨T, a1, b2, rfl, nT, rfl, ha, hb⟩
          cases ha
          rw [List.length_map, len] at hn
          obtain ⟨l, hl, rfl⟩ : ∃ l, ls[n]? = some l ∧ b2 = V.ref l := by
            have hb : (ls.map V.ref)[n]? = some b2 := hb
            rw [List.getElem?_map] at hb
            cases e : ls[n]? with
            | none =>
              rw [e] at hb
              cases hb
            | some l =>
              rw [e] at hb
              exact ⟨l, rfl, (Option.some.inj hb).symm⟩
          have pr := rows n l hl
          have s4 : Same H2 (upd H5 T (.tup [.int (n : Nat), .ref l])) := same_new s3 nT
          refine ⟨T, _, rfl, SqT.of upd_same, rfl, _, _, rfl, _, _, rfl, rfl, ?_⟩
          exact rd_if (i := 12 + n) (d := d) (by omega) (M.ix n hn).noN (xf (12 + n) (by omega)) (pr.seq s4) (dx3.seq (Same.trans s2 s4)) (so_ix n hn) (fun H5 Q5 q => ⟨_, rfl, _, _, rfl, rfl, q⟩) (fun H5 s5 => ⟨⟨_, _, rfl⟩, Same.trans s4 s5⟩)
        · rintro σ H4 ⟨⟨v2, v3, rfl⟩, s4⟩
          have b4 : But j H H4 := b3.then (Same.trans s2 s4)
          have dx4 := dx3.seq (Same.trans s2 s4)
          clear rows lr len nr dx3 b3 s4 s2
          refine ⟨fun v1 Hz => ∃ l : Addr, v1 = V.ref l ∧ Same H4 Hz ∧ PairIn c 21 "given" v Hz l, rd_pair rfl (fun l Hz h1 h2 h3 h4 => ⟨l, rfl, h1, h3⟩), ?_⟩
          rintro _ H5 ⟨l, rfl, s5, pr⟩
          refine rd_seq (rd_if (i := 21) (l := l) (x := v) (d := d) (v0 := some (.ref j)) (v2 := v2) (by decide) M.un.noN (xf 21 (by decide)) pr (dx4.seq s5) so_un (fun H5 Q5 q => q) (fun H6 s6 => ?_))
          have b6 : But j H H6 := b4.then (Same.trans s5 s6)
          have dx6 := dx4.seq (Same.trans s5 s6)
          clear pr b4 dx4 s5 s6
          refine ⟨fun v1 Hz => ∃ l : Addr, v1 = V.ref l ∧ Same H6 Hz ∧ PairIn c 22 "index" v Hz l, rd_pair rfl (fun l Hz h1 h2 h3 h4 => ⟨l, rfl, h1, h3⟩), ?_⟩
          rintro _ H7 ⟨l1, rfl, s7, pr1⟩
          refine ⟨sz (Nat.le_of_ble_eq_true rfl), fun T1 nT1 => ?_⟩
          have e1 : (upd H7 T1 (.tup [.int 22, .ref l1])) T1 = some (.tup [.int 22, .ref l1]) := upd_same
          have t1 : Same H7 (upd H7 T1 (.tup [.int 22, .ref l1])) := same_new same_refl nT1
          generalize upd H7 T1 (.tup [.int 22, .ref l1]) = H8 at e1 t1 ⊢
          have pr1 := pr1.seq t1
          have s8 := Same.trans s7 t1
          refine ⟨fun v1 Hz => ∃ l : Addr, v1 = V.ref l ∧ Same H8 Hz ∧ PairIn c 23 "index" v Hz l, rd_pair rfl (fun l Hz h1 h2 h3 h4 => ⟨l, rfl, h1, h3⟩), ?_⟩
          rintro _ H9 ⟨l2, rfl, s9, pr2⟩
          refine ⟨sz (Nat.le_of_ble_eq_true rfl), fun T2 nT2 => ?_⟩
          have e2 : (upd H9 T2 (.tup [.int 23, .ref l2])) T2 = some (.tup [.int 23, .ref l2]) := upd_same
          have t2 : Same H9 (upd H9 T2 (.tup [.int 23, .ref l2])) := same_new same_refl nT2
          generalize upd H9 T2 (.tup [.int 23, .ref l2]) = Hb at e2 t2 ⊢
          have pr2 := pr2.seq t2
          have t8 := Same.trans s9 t2
          have e1 := t8 _ _ e1
          have pr1 := pr1.seq t8
          have sb := Same.trans s8 t8
          refine ⟨sz (Nat.le_of_ble_eq_true rfl), fun L nL => ?_⟩
          have eL : (upd Hb L (.lst [.ref T1, .ref T2])) L = some (.lst [.ref T1, .ref T2]) := upd_same
          have tL : Same Hb (upd Hb L (.lst [.ref T1, .ref T2])) := same_new same_refl nL
          generalize upd Hb L (.lst [.ref T1, .ref T2]) = Hc at eL tL ⊢
          have pr1 := pr1.seq tL
          have pr2 := pr2.seq tL
          have e1 := tL _ _ e1
          have e2 := tL _ _ e2
          have sc := Same.trans sb tL
          refine ⟨L, rfl, ⟨_, SqL.of eL⟩, for_list (K := K) (a := L) (xs := [.ref T1, .ref T2]) (fun n σ H3 => (∃ v2 v3, σ = [some (.ref j), some v, v2, v3, none]) ∧ Same Hc H3) ⟨⟨_, _, rfl⟩, same_refl⟩ (fun n σ H3 _ ⟨_, s⟩ => SqL.of (s _ _ eL)) ?_ ?_⟩
          · rintro n y σ H3 hy ⟨⟨v2, v3, rfl⟩, s3⟩
            rcases List.mem_cons.mp (List.mem_of_getElem? hy) with rfl | hm
            · refine ⟨T1, _, rfl, SqT.of (s3 _ _ e1), rfl, _, _, rfl, _, _, rfl, rfl, ?_⟩
              exact rd_if (i := 22) (d := d) (by decide) M.br.noN (xf 22 (by decide)) (pr1.seq s3) (dx6.seq (Same.trans sc s3)) so_br (fun H5 Q5 q => ⟨_, rfl, q⟩) (fun H5 s5 => ⟨⟨_, _, rfl⟩, Same.trans s3 s5⟩)
            · obtain rfl := List.mem_singleton.mp hm
              refine ⟨T2, _, rfl, SqT.of (s3 _ _ e2), rfl, _, _, rfl, _, _, rfl, rfl, ?_⟩
              exact rd_if (i := 23) (d := d) (by decide) M.us.noN (xf 23 (by decide)) (pr2.seq s3) (dx6.seq (Same.trans sc s3)) so_us (fun H5 Q5 q => ⟨_, rfl, q⟩) (fun H5 s5 => ⟨⟨_, _, rfl⟩, Same.trans s3 s5⟩)
          · rintro σ H3 ⟨⟨v2, v3, rfl⟩, s3⟩
            exact k H3 (b6.then (Same.trans sc s3))
end
end LJ
set_option Elab.async false
set_option linter.all false
set_option maxRecDepth 100000
set_option maxHeartbeats 4000000
namespace LJ
open PySem L2 PySem.ErrV
abbrev sLaw : Stmt := top 50
def told : PyData := .list [.int 6, .int 6, .int 3, .int 8, .int 1000, .int (10 ^ 12), .int 20, .int 8, .int 4, .int 24, .int 6, .int 6, .int (10 ^ 13)]
theorem told_fine : fine told = true := by decide +kernel
def bareD : PyData := .list [.list [.int 24, .int 52, .int 55], .list [.int 50, .int 53], .list [.int 51, .int 54], .list [.int 52, .int 55]]
theorem bareD_shaped : SeqAt.shaped bareD = true := by decide +kernel
theorem iteNS' {α : Type} [DecidableEq α] {x : α} {A B : Prop} (h : B) : if (!decide (x = x)) = true then A else B := by
  rw [if_neg (by simp)]
  exact h
theorem so_bare : sortsOf 24 = [24, 52, 55] ∧ sortsOf 25 = [50, 53] ∧ sortsOf 26 = [51, 54] ∧ sortsOf 27 = [52, 55] := by decide +kernel
structure Cst (mg : Str → Option Value) : Prop where
  c0 : ∃ t, mg "MOST_MACHINES" = some (.int 6 t)
  c1 : ∃ t, mg "MOST_CLEANINGS" = some (.int 6 t)
  c2 : ∃ t, mg "MOST_STUFFS" = some (.int 3 t)
  c3 : ∃ t, mg "MOST_PRODUCTS" = some (.int 8 t)
  c4 : ∃ t, mg "MOST_SHARE" = some (.int 1000 t)
  c5 : ∃ t, mg "MOST_AMOUNT" = some (.int 1000000000000 t)
  c6 : ∃ t, mg "MOST_DEEDS" = some (.int 20 t)
  c7 : ∃ t, mg "MOST_LOTS" = some (.int 8 t)
  c8 : ∃ t, mg "MOST_PASSED" = some (.int 4 t)
  c9 : ∃ t, mg "MOST_ROW" = some (.int 24 t)
  c10 : ∃ t, mg "MOST_CHANGES" = some (.int 6 t)
  c11 : ∃ t, mg "MOST_ORDERED" = some (.int 6 t)
  c12 : ∃ t, mg "MOST_CLAIMED" = some (.int 10000000000000 t)
  all : mg "all" = none
  max : mg "max" = none
  min : mg "min" = none
structure Bare (K : PySem.W.Frag) (mg : Str → Option Value) (c fi : Nat → Addr) : Prop where
  un : PassC K mg "NothingToUndo" (c 24) (fi 24) "ArithmeticError.__new__" aeT
  q25 : PySem.W.excIn K (c 25) veT "ValueError.__new__" = true
  k25 : PySem.W.keepIn K (.ref (c 25)) = true
  q26 : PySem.W.excIn K (c 26) leT "LookupError.__new__" = true
  k26 : PySem.W.keepIn K (.ref (c 26)) = true
  q27 : PySem.W.excIn K (c 27) aeT "ArithmeticError.__new__" = true
  k27 : PySem.W.keepIn K (.ref (c 27)) = true
def spLaw (K : PySem.W.Frag) : Sp := fun vs H Q _ => ∃ (a : Addr) (ns : List Int), vs = [.ref a] ∧ SqL K H a (ns.map V.int) ∧ ns.length ≤ 63 ∧ ∀ H1, Q (.bl true) H1
section
variable {P : Program} {w : World} {K : PySem.W.Frag} {mg : Str → Option Value} {base : Heap} {c fi : Nat → Addr}
theorem scLaw : FnScope ["_law_cells", "_law_told", "_law_bare", "_law_e", "_law_turn"] ["_law_cells"] (defScope sLaw) := ⟨rfl, rfl, rfl, by decide +kernel, rfl, by decide +kernel, by decide +kernel⟩

/-- the reading of _law_right(_law_jar(_law_cells, _law_turn)) -/
def tR (K : PySem.W.Frag) : TE := fun σ H Q => tCons (tCall (spJar K) [] E0 (tCons (tVar 0) (tCons (tVar 4) tNil))) tNil σ H fun vs H1 => spRight vs H1 Q E0
theorem ok_law {f fS fR fJ : Addr} {fd fdS fdR fdJ : FuncData} (F : Fun K "law" "law" sLaw f fd) (T : Cst mg) (B : BltR mg) (Bl : Blt mg) (C : Cl K mg c) (Ba : Bare K mg c fi)
    (GS : FnOk P w K mg base CX0 1 fS fdS ["_law_e"] (spSorts c)) (mS : mg "_law_sorts" = some (.ref fS)) (kS : PySem.W.keepIn K (.ref fS) = true) (bS : Binds K fdS ["_law_e"] [])
    (GR : FnG P w K mg base 3 fR fdR ["_law_jar_here"] spRight) (mR : mg "_law_right" = some (.ref fR)) (kR : PySem.W.keepIn K (.ref fR) = true) (bR : Binds K fdR ["_law_jar_here"] [])
    (GJ : FnOk P w K mg base CX0 1 fJ fdJ ["_law_cells", "_law_turn"] (spJar K)) (mJ : mg "_law_jar" = some (.ref fJ)) (kJ : PySem.W.keepIn K (.ref fJ) = true) (bJ : Binds K fdJ ["_law_cells", "_law_turn"] []) :
    FnG P w K mg base 4 f fd ["_law_cells"] (spLaw K) := by
  refine F.okG scLaw (fun vs H Q E h => ?_) (fun cdv A outer s H vs Q hgA hr h => ?_)
  · obtain ⟨a, ns, rfl, _⟩ := h
    rfl
  · obtain ⟨a, ns, rfl, hS, hn, k⟩ := h
    have hr1 : Room 1 _ := hr.mono (by decide)
    have hgd : (A.deeper (PyProof.Rows.envOfC "law" (defScope sLaw) s.heap.objs.size f cdv)).guards = some [] := hgA
    have hu : (A.deeper (PyProof.Rows.envOfC "law" (defScope sLaw) s.heap.objs.size f cdv)).units + 150 < cLine := by
      have := hr.un
      omega
    have hu64 : (A.deeper (PyProof.Rows.envOfC "law" (defScope sLaw) s.heap.objs.size f cdv)).units + 64 < cLine := by omega
    have sz : ∀ {n : Nat}, n ≤ 100 → n ≤ sizeLine := fun h => by rw [sizeLine_eq]; omega
    obtain ⟨t0, h0⟩ := T.c0
    obtain ⟨t1, h1⟩ := T.c1
    obtain ⟨t2, h2⟩ := T.c2
    obtain ⟨t3, h3⟩ := T.c3
    obtain ⟨t4, h4⟩ := T.c4
    obtain ⟨t5, h5⟩ := T.c5
    obtain ⟨t6, h6⟩ := T.c6
    obtain ⟨t7, h7⟩ := T.c7
    obtain ⟨t8, h8⟩ := T.c8
    obtain ⟨t9, h9⟩ := T.c9
    obtain ⟨t10, h10⟩ := T.c10
    obtain ⟨t11, h11⟩ := T.c11
    obtain ⟨t12, h12⟩ := T.c12
    refine ⟨_, pss_cons (ps_set (i := 1) scLaw.nd rfl (Or.inl rfl) (pe_lst (pa_cons (pe_glob (v := .int 6) (by rfl) h0 ⟨_, rfl⟩) (pa_cons (pe_glob (v := .int 6) (by rfl) h1 ⟨_, rfl⟩) (pa_cons (pe_glob (v := .int 3) (by rfl) h2 ⟨_, rfl⟩) (pa_cons (pe_glob (v := .int 8) (by rfl) h3 ⟨_, rfl⟩) (pa_cons (pe_glob (v := .int 1000) (by rfl) h4 ⟨_, rfl⟩) (pa_cons (pe_glob (v := .int 1000000000000) (by rfl) h5 ⟨_, rfl⟩) pa_nil))))))))
      (pss_cons (ps_set (i := 1) scLaw.nd rfl (Or.inl rfl) (pe_op op_cat (pv 1) (pe_lst (pa_cons (pe_glob (v := .int 20) (by rfl) h6 ⟨_, rfl⟩) (pa_cons (pe_glob (v := .int 8) (by rfl) h7 ⟨_, rfl⟩) (pa_cons (pe_glob (v := .int 4) (by rfl) h8 ⟨_, rfl⟩) (pa_cons (pe_glob (v := .int 24) (by rfl) h9 ⟨_, rfl⟩) (pa_cons (pe_glob (v := .int 6) (by rfl) h10 ⟨_, rfl⟩) (pa_cons (pe_glob (v := .int 6) (by rfl) h11 ⟨_, rfl⟩) (pa_cons (pe_glob (v := .int 10000000000000) (by rfl) h12 ⟨_, rfl⟩) pa_nil))))))))))
      (pss_cons (ps_if (pt_cmpR op_ne (pe_callB (call_repr_data hgd hu) (by rfl) B.repr (by decide +kernel) (pa_cons (pv 1) pa_nil)) (pe_callB (call_repr_data hgd hu) (by rfl) B.repr (by decide +kernel) (pa_cons (pe_join0 (pe_lst (pa_cons pe_int (pa_cons pe_int (pa_cons pe_int (pa_cons pe_int (pa_cons pe_int (pa_cons (pe_op op_pow pe_int pe_int) (pa_cons pe_int (pa_cons pe_int (pa_cons pe_int (pa_cons pe_int (pa_cons pe_int (pa_cons pe_int (pa_cons (pe_op op_pow pe_int pe_int) pa_nil))))))))))))))) pa_nil)) (nomark _)) (pss_one (ps_ret pe_bl)) pss_nil)
      (pss_cons (ps_set (i := 2) scLaw.nd rfl (Or.inl rfl) (pe_join0 (pe_lst (pa_cons (pe_pass0 Ba.un bo_ae hr1 (by rfl)) (pa_cons (pe_bare PySem.F.excBase_ValueError Ba.q25 (C.g 25 (by decide)) Ba.k25 (by rfl)) (pa_cons (pe_bare PySem.F.excBase_LookupError Ba.q26 (C.g 26 (by decide)) Ba.k26 (by rfl)) (pa_cons (pe_bare PySem.F.excBase_ArithmeticError Ba.q27 (C.g 27 (by decide)) Ba.k27 (by rfl)) pa_nil)))))))
      (pss_cons (ps_if (pt_cmpR (op_neD hu64) (pe_join0 (pe_lc (own := [("_law_e", 3)]) (g := gName 3) (te := tCall (spSorts c) [] E0 (tCons (tVar 3) tNil)) (by rfl) scLaw.nd (pi_list (pv 2)) (blkOk_by (own := [("_law_e", 3)]) (N := ["_law_cells", "_law_told", "_law_bare", "_law_e", "_law_turn"]) (sc := defScope sLaw) (by decide +kernel)) (fun _ _ _ _ _ => pg_name (i := 3) scLaw.nd rfl (Or.inl rfl)) (fun _ _ _ _ _ => pts_nil) (fun _ _ _ _ _ => pe_call GS hr1 (by rfl) mS kS bS .nil pass0 (pa_cons (pv 3) pa_nil)))) (pe_join0 (pe_lst (pa_cons (pe_lst (pa_cons pe_int (pa_cons pe_int (pa_cons pe_int pa_nil)))) (pa_cons (pe_lst (pa_cons pe_int (pa_cons pe_int pa_nil))) (pa_cons (pe_lst (pa_cons pe_int (pa_cons pe_int pa_nil))) (pa_cons (pe_lst (pa_cons pe_int (pa_cons pe_int pa_nil))) pa_nil)))))) (nomark _)) (pss_one (ps_ret pe_bl)) pss_nil)
      (pss_one (ps_ret (pe_callB (cr_all rfl) (by rfl) T.all (by decide +kernel) (pa_cons (pe_lc (own := [("_law_turn", 4)]) (g := gName 4) (te := tR K) (by rfl) scLaw.nd (pi_range1 (by rfl) C.range (pa_cons (pe_callB (call_max2 rfl) (by rfl) T.max (by decide +kernel) (pa_cons pe_int (pa_cons (pe_callB (call_min2 rfl) (by rfl) T.min (by decide +kernel) (pa_cons (pe_callB call_len_seq (by rfl) Bl.len PySem.boot_len (pa_cons (pv 0) pa_nil)) (pa_cons pe_int pa_nil))) pa_nil))) pa_nil)) (blkOk_by (own := [("_law_turn", 4)]) (N := ["_law_cells", "_law_told", "_law_bare", "_law_e", "_law_turn"]) (sc := defScope sLaw) (by decide +kernel)) (fun _ _ _ _ _ => pg_name (i := 4) scLaw.nd rfl (Or.inl rfl)) (fun _ _ _ _ _ => pts_nil) (fun _ _ _ _ _ => pe_callNG GR hgd hr (by rfl) mR kR bR (pa_cons (pe_call GJ hr1 (by rfl) mJ kJ bJ .nil pass0 (pa_cons (pv 0) (pa_cons (pv 4) pa_nil))) pa_nil))) pa_nil)))))))), ?_⟩
    refine ⟨sz (Nat.le_of_ble_eq_true rfl), fun p1 n1 => ?_⟩
    have s1 : Same H (upd H p1 (.lst [.int 6, .int 6, .int 3, .int 8, .int 1000, .int 1000000000000])) := same_new same_refl n1
    have e1 : (upd H p1 (.lst [.int 6, .int 6, .int 3, .int 8, .int 1000, .int 1000000000000])) p1 = some (.lst [.int 6, .int 6, .int 3, .int 8, .int 1000, .int 1000000000000]) := upd_same
    refine ⟨_, rfl, sz (Nat.le_of_ble_eq_true rfl), fun p2 n2 => ?_⟩
    refine ⟨p1, p2, _, _, rfl, rfl, (by rw [upd_ne (ne_of_none e1 n2)]; exact e1), upd_same, sz (Nat.le_of_ble_eq_true rfl), fun p3 n3 => ?_⟩
    have s3 : Same H (upd (upd (upd H p1 (.lst [.int 6, .int 6, .int 3, .int 8, .int 1000, .int 1000000000000])) p2 (.lst [.int 20, .int 8, .int 4, .int 24, .int 6, .int 6, .int 10000000000000])) p3 (.lst ([.int 6, .int 6, .int 3, .int 8, .int 1000, .int 1000000000000] ++ [.int 20, .int 8, .int 4, .int 24, .int 6, .int 6, .int 10000000000000]))) := same_new (same_new s1 n2) n3
    have e3 : (upd (upd (upd H p1 (.lst [.int 6, .int 6, .int 3, .int 8, .int 1000, .int 1000000000000])) p2 (.lst [.int 20, .int 8, .int 4, .int 24, .int 6, .int 6, .int 10000000000000])) p3 (.lst ([.int 6, .int 6, .int 3, .int 8, .int 1000, .int 1000000000000] ++ [.int 20, .int 8, .int 4, .int 24, .int 6, .int 6, .int 10000000000000]))) p3 = some (.lst ([.int 6, .int 6, .int 3, .int 8, .int 1000, .int 1000000000000] ++ [.int 20, .int 8, .int 4, .int 24, .int 6, .int 6, .int 10000000000000])) := upd_same
    generalize upd (upd (upd H p1 (.lst [.int 6, .int 6, .int 3, .int 8, .int 1000, .int 1000000000000])) p2 (.lst [.int 20, .int 8, .int 4, .int 24, .int 6, .int 6, .int 10000000000000])) p3 (.lst ([.int 6, .int 6, .int 3, .int 8, .int 1000, .int 1000000000000] ++ [.int 20, .int 8, .int 4, .int 24, .int 6, .int 6, .int 10000000000000])) = H3 at s3 e3 ⊢
    have rpl : ∀ {G : Hp} {p : Addr}, G p = some (.lst ([.int 6, .int 6, .int 3, .int 8, .int 1000, .int 1000000000000] ++ [.int 20, .int 8, .int 4, .int 24, .int 6, .int 6, .int 10000000000000])) → Dat G told (.ref p) := fun {G p} e => dat_of told_fine (.inl (by
      unfold told rp
      refine ⟨p, _, rfl, e, ?_⟩
      repeat (unfold rpAll; refine ⟨_, _, rfl, (by unfold rp; rfl), ?_⟩)
      unfold rpAll
      rfl))
    have d3 := rpl e3
    refine ⟨_, rfl, .ref p3, told, rfl, d3.at_, d3.sh, d3.dp, d3.sz, ?_⟩
    refine ⟨fun v Hz => Same H3 Hz ∧ Dat Hz told v, ⟨_, _, rfl, rfl, ⟨by decide, by decide, by decide⟩, _, _, rfl, rfl, ⟨by decide, by decide, by decide⟩, sz (Nat.le_of_ble_eq_true rfl), fun p4 n4 => ⟨same_new same_refl n4, dat_of told_fine (.inl (by
      unfold told rp
      refine ⟨p4, _, rfl, upd_same, ?_⟩
      repeat (unfold rpAll; refine ⟨_, _, rfl, (by unfold rp; rfl), ?_⟩)
      unfold rpAll
      rfl))⟩⟩, ?_⟩
    rintro v4 H4 ⟨s4, d4⟩
    refine ⟨v4, told, rfl, d4.at_, d4.sh, d4.dp, d4.sz, rfl, _, rfl, ?_⟩
    refine iteNS' ?_
    have sA := Same.trans s3 s4
    clear rpl d3 d4 e3 n1 n2 n3 s1 e1 s3
    refine ⟨fun v Hz => ∃ q b0 b1 b2 b3 : Addr, v = .ref q ∧ Same H4 Hz ∧ Hz q = some (.lst [.ref b0, .ref b1, .ref b2, .ref b3]) ∧ ErrAt c 24 Hz b0 ∧ ErrAt c 25 Hz b1 ∧ ErrAt c 26 Hz b2 ∧ ErrAt c 27 Hz b3, ?_, ?_⟩
    · intro b0 m0
      have x0 : ErrAt c 24 (upd H4 b0 (exo b0 (c 24) none)) b0 := ⟨none, upd_same, fun z e => by cases e⟩
      have y0 : Same H4 (upd H4 b0 (exo b0 (c 24) none)) := same_new same_refl m0
      generalize upd H4 b0 (exo b0 (c 24) none) = G0 at x0 y0 ⊢
      intro b1 m1
      have x1 : ErrAt c 25 (upd G0 b1 (exo b1 (c 25) none)) b1 := ⟨none, upd_same, fun z e => by cases e⟩
      have y1 : Same G0 (upd G0 b1 (exo b1 (c 25) none)) := same_new same_refl m1
      generalize upd G0 b1 (exo b1 (c 25) none) = G1 at x1 y1 ⊢
      intro b2 m2
      have x2 : ErrAt c 26 (upd G1 b2 (exo b2 (c 26) none)) b2 := ⟨none, upd_same, fun z e => by cases e⟩
      have y2 : Same G1 (upd G1 b2 (exo b2 (c 26) none)) := same_new same_refl m2
      generalize upd G1 b2 (exo b2 (c 26) none) = G2 at x2 y2 ⊢
      intro b3 m3
      have x3 : ErrAt c 27 (upd G2 b3 (exo b3 (c 27) none)) b3 := ⟨none, upd_same, fun z e => by cases e⟩
      have y3 : Same G2 (upd G2 b3 (exo b3 (c 27) none)) := same_new same_refl m3
      generalize upd G2 b3 (exo b3 (c 27) none) = G3 at x3 y3 ⊢
      refine ⟨sz (Nat.le_of_ble_eq_true rfl), fun q nq => ⟨q, b0, b1, b2, b3, rfl, ?_, upd_same, ?_, ?_, ?_, ?_⟩⟩
      · exact same_new (Same.trans y0 (Same.trans y1 (Same.trans y2 y3))) nq
      · exact x0.seq (same_new (Same.trans y1 (Same.trans y2 y3)) nq)
      · exact x1.seq (same_new (Same.trans y2 y3) nq)
      · exact x2.seq (same_new y3 nq)
      · exact x3.seq (same_new same_refl nq)
    · rintro _ H5 ⟨q, b0, b1, b2, b3, rfl, s5, eq, x0, x1, x2, x3⟩
      have errs : ∀ (n : Nat) (y : V), ([.ref b0, .ref b1, .ref b2, .ref b3] : List V)[n]? = some y → ∃ b, y = V.ref b ∧ n < 4 ∧ ErrAt c (24 + n) H5 b := fun n y hy => by
        match n, hy with
        | 0, hy => exact ⟨b0, (Option.some.inj hy).symm, by decide, x0⟩
        | 1, hy => exact ⟨b1, (Option.some.inj hy).symm, by decide, x1⟩
        | 2, hy => exact ⟨b2, (Option.some.inj hy).symm, by decide, x2⟩
        | 3, hy => exact ⟨b3, (Option.some.inj hy).symm, by decide, x3⟩
        | n + 4, hy => cases hy
      refine ⟨fun v Hz => ∃ D r0 r1 r2 r3 : Addr, v = .ref D ∧ Same H5 Hz ∧ Hz D = some (.lst [.ref r0, .ref r1, .ref r2, .ref r3]) ∧ Hz r0 = some (.lst ((sortsOf 24).map V.int)) ∧ Hz r1 = some (.lst ((sortsOf 25).map V.int)) ∧ Hz r2 = some (.lst ((sortsOf 26).map V.int)) ∧ Hz r3 = some (.lst ((sortsOf 27).map V.int)), ?_, ?_⟩
      · refine ⟨_, rfl, q, rfl, ⟨_, SqL.of eq⟩, fun D hD => lc_list (K := K) (a := q) (xs := [.ref b0, .ref b1, .ref b2, .ref b3])
          (fun n H2 => Same H5 H2 ∧ ∃ rs : List Addr, rs.length = n ∧ n ≤ 4 ∧ H2 D = some (.lst (rs.map V.ref)) ∧ ∀ k r, rs[k]? = some r → H2 r = some (.lst ((sortsOf (24 + k)).map V.int)) ∧ r ≠ D)
          ⟨same_new same_refl hD, [], rfl, by decide, upd_same, fun k r hr => nomatch hr⟩ (fun n H2 _ ⟨s, _⟩ => SqL.of (s _ _ eq)) ?_ ?_⟩
        · rintro n y H2 hy ⟨s2, rs, hn, hn2, hDl, rows⟩
          obtain ⟨b, rfl, nlt, xb⟩ := errs n y hy
          refine ⟨rfl, ?_⟩
          refine ⟨_, rfl, b, 24 + n, rfl, by omega, xb.seq s2, fun p H6 np s6 lp => ?_⟩
          have npD : p ≠ D := by
            intro z
            rw [z, hDl] at np
            cases np
          refine ⟨_, s6 _ _ hDl, ?_, same_put (Same.trans s2 s6) hD, rs ++ [p], ?_, by omega, ?_, ?_⟩
          · rw [sizeLine_eq, List.length_map]
            omega
          · rw [List.length_append, hn]
            rfl
          · rw [List.map_append]
            exact upd_same
          · intro k1 r1 hr1
            by_cases hk : k1 < rs.length
            · rw [List.getElem?_append_left hk] at hr1
              obtain ⟨h1, h2⟩ := rows k1 r1 hr1
              exact ⟨by rw [upd_ne h2]; exact s6 _ _ h1, h2⟩
            · rw [List.getElem?_append_right (by omega)] at hr1
              obtain ⟨h0, hv⟩ := List.getElem?_eq_some_iff.mp hr1
              simp only [List.length_singleton] at h0
              have hk2 : k1 = n := by omega
              subst hk2
              simp only [hn, Nat.sub_self, List.getElem_cons_zero] at hv
              subst hv
              exact ⟨by rw [upd_ne npD]; exact lp, npD⟩
        · rintro H2 ⟨s2, rs, hn, _, hDl, rows⟩
          match rs, hn with
          | [r0, r1, r2, r3], _ => exact ⟨D, r0, r1, r2, r3, rfl, s2, hDl, (rows 0 r0 rfl).1, (rows 1 r1 rfl).1, (rows 2 r2 rfl).1, (rows 3 r3 rfl).1⟩
      · rintro _ H6 ⟨D, r0, r1, r2, r3, rfl, s6, eD, g0, g1, g2, g3⟩
        obtain ⟨so0, so1, so2, so3⟩ := so_bare
        rw [so0] at g0
        rw [so1] at g1
        rw [so2] at g2
        rw [so3] at g3
        refine ⟨fun v Hz => Same H6 Hz ∧ Dp K Hz v bareD, ?_, ?_⟩
        · refine ⟨sz (Nat.le_of_ble_eq_true rfl), fun y0 m0 => ?_⟩
          have f0 : (upd H6 y0 (.lst [.int 24, .int 52, .int 55])) y0 = some (.lst [.int 24, .int 52, .int 55]) := upd_same
          have w0 : Same H6 (upd H6 y0 (.lst [.int 24, .int 52, .int 55])) := same_new same_refl m0
          generalize upd H6 y0 (.lst [.int 24, .int 52, .int 55]) = G0 at f0 w0 ⊢
          refine ⟨sz (Nat.le_of_ble_eq_true rfl), fun y1 m1 => ?_⟩
          have f1 : (upd G0 y1 (.lst [.int 50, .int 53])) y1 = some (.lst [.int 50, .int 53]) := upd_same
          have w1 : Same G0 (upd G0 y1 (.lst [.int 50, .int 53])) := same_new same_refl m1
          generalize upd G0 y1 (.lst [.int 50, .int 53]) = G1 at f1 w1 ⊢
          refine ⟨sz (Nat.le_of_ble_eq_true rfl), fun y2 m2 => ?_⟩
          have f2 : (upd G1 y2 (.lst [.int 51, .int 54])) y2 = some (.lst [.int 51, .int 54]) := upd_same
          have w2 : Same G1 (upd G1 y2 (.lst [.int 51, .int 54])) := same_new same_refl m2
          generalize upd G1 y2 (.lst [.int 51, .int 54]) = G2 at f2 w2 ⊢
          refine ⟨sz (Nat.le_of_ble_eq_true rfl), fun y3 m3 => ?_⟩
          have f3 : (upd G2 y3 (.lst [.int 52, .int 55])) y3 = some (.lst [.int 52, .int 55]) := upd_same
          have w3 : Same G2 (upd G2 y3 (.lst [.int 52, .int 55])) := same_new same_refl m3
          generalize upd G2 y3 (.lst [.int 52, .int 55]) = G3 at f3 w3 ⊢
          refine ⟨sz (Nat.le_of_ble_eq_true rfl), fun z nz => ⟨?_, ?_⟩⟩
          · exact same_new (Same.trans w0 (Same.trans w1 (Same.trans w2 w3))) nz
          · have l3 : ∀ o, Same G3 (upd G3 z o) := fun o => same_new same_refl nz
            unfold bareD
            exact .lst (SqL.of upd_same) (.cons (.lst (SqL.of (l3 _ _ _ (Same.trans w1 (Same.trans w2 w3) _ _ f0))) (.cons (.int _) (.cons (.int _) (.cons (.int _) .nil))))
              (.cons (.lst (SqL.of (l3 _ _ _ (Same.trans w2 w3 _ _ f1))) (.cons (.int _) (.cons (.int _) .nil)))
              (.cons (.lst (SqL.of (l3 _ _ _ (w3 _ _ f2))) (.cons (.int _) (.cons (.int _) .nil)))
              (.cons (.lst (SqL.of (l3 _ _ _ f3)) (.cons (.int _) (.cons (.int _) .nil))) .nil))))
        · rintro v7 H7 ⟨s7, dp7⟩
          have dpL : Dp K H7 (.ref D) bareD := by
            unfold bareD
            exact .lst (SqL.of (s7 _ _ eD)) (.cons (.lst (SqL.of (s7 _ _ g0)) (.cons (.int _) (.cons (.int _) (.cons (.int _) .nil))))
              (.cons (.lst (SqL.of (s7 _ _ g1)) (.cons (.int _) (.cons (.int _) .nil)))
              (.cons (.lst (SqL.of (s7 _ _ g2)) (.cons (.int _) (.cons (.int _) .nil)))
              (.cons (.lst (SqL.of (s7 _ _ g3)) (.cons (.int _) (.cons (.int _) .nil))) .nil))))
          refine ⟨bareD, bareD, dpL, dp7, bareD_shaped, bareD_shaped, _, rfl, ?_⟩
          rw [SeqAt.eqv_refl _ (SeqAt.canLay_of_shaped bareD_shaped)]
          refine iteF ?_
          have sB : Same H H7 := Same.trans sA (Same.trans s5 (Same.trans s6 s7))
          have hS7 := sB.seq hS
          have six : (if (if (6 : Int) < ((ns.map V.int).length : Int) then (6 : Int) else ((ns.map V.int).length : Int)) > 2 then (if (6 : Int) < ((ns.map V.int).length : Int) then (6 : Int) else ((ns.map V.int).length : Int)) else 2) ≤ 6 := by
            split <;> split <;> omega
          have two : (2 : Int) ≤ (if (if (6 : Int) < ((ns.map V.int).length : Int) then (6 : Int) else ((ns.map V.int).length : Int)) > 2 then (if (6 : Int) < ((ns.map V.int).length : Int) then (6 : Int) else ((ns.map V.int).length : Int)) else 2) := by
            split <;> omega
          refine ⟨_, rfl, a, _, rfl, .inl hS7, _, _, rfl, _, _, rfl, _, rfl, ?_⟩
          generalize (if (if (6 : Int) < ((ns.map V.int).length : Int) then (6 : Int) else ((ns.map V.int).length : Int)) > 2 then (if (6 : Int) < ((ns.map V.int).length : Int) then (6 : Int) else ((ns.map V.int).length : Int)) else 2) = n6 at six two ⊢
          refine ⟨by omega, by omega, fun D hD => lc_range (lo := 0) (n := n6.toNat) (fun n H2 => Same H7 H2 ∧ H2 D = some (.lst ((List.replicate n true).map V.bl))) ⟨same_new same_refl hD, upd_same⟩ ?_ ?_⟩
          · rintro n H2 hi ⟨h2, hD2⟩
            refine ⟨rfl, ?_⟩
            refine ⟨_, rfl, _, rfl, a, ns, 0 + (n : Int), rfl, h2.seq hS7, hn, by omega, by omega, fun j H8 nj s8 J8 => ?_⟩
            refine ⟨j, rfl, J8, fun H9 b9 => ?_⟩
            have far : ∀ {b : Addr} {o : HO}, H2 b = some o → b ≠ j := fun {b o} e z => by
              rw [z, nj] at e
              cases e
            have s9 : Same H2 H9 := fun b o e => b9 b o (far e) (s8 b o e)
            refine ⟨_, s9 _ _ hD2, ?_, same_put (Same.trans h2 s9) hD, ?_⟩
            · rw [sizeLine_eq, List.length_map, List.length_replicate]
              omega
            · rw [List.replicate_succ', List.map_append]
              exact upd_same
          · rintro H2 ⟨h2, hD2⟩
            refine ⟨D, _, rfl, SqL.of hD2, ?_⟩
            have e : (List.replicate n6.toNat true).all id = true := by simp
            rw [e]
            exact k H2
end
end LJ
set_option Elab.async false
set_option linter.all false
set_option maxRecDepth 100000
set_option maxHeartbeats 4000000
namespace LJ
open PySem L2 PySem.ErrV
/-! ### what is asked of the written part, by one look -/
def clsLook (K : PySem.W.Frag) (C : Addr) (B : List Value) (nw : String) : Bool := match K.lookup C with
  | some ⟨.type "type", _, .cls cd, sl⟩ => (match cd.mro, sl.toList with
    | .ref D :: bm, [_, _, _, _, some (.builtin n), _] => D == C && n == nw && !cd.hasDel && cd.hasDict && rowOver B bm
    | _, _ => false)
  | _ => false
theorem clsLook_of {K : PySem.W.Frag} {C : Addr} {B : List Value} {nw : String} (h : clsLook K C B nw = true) : ∃ nm q N bs bm sn sub ab col dd k0 k1 k2 k3 k5,
    K.lookup C = some (excClassObj nm q C N bs bm true sn sub ab col dd k0 k1 k2 k3 k5 nw) ∧ rowOver B bm = true := by
  unfold clsLook at h
  split at h
  · rename_i dd cd sl ho
    split at h
    · rename_i D bm k0 k1 k2 k3 n k5 hm hs
      simp only [Bool.and_eq_true, beq_iff_eq, Bool.not_eq_true'] at h
      obtain ⟨⟨⟨⟨e1, e2⟩, e3⟩, e4⟩, e5⟩ := h
      obtain ⟨nm, bs, mro, ns, qn, hd, sn, sub, ab, col, del⟩ := cd
      dsimp only at hm e3 e4
      subst hm e1 e2 e3 e4
      have hl : sl = #[k0, k1, k2, k3, some (.builtin n), k5] := by
        obtain ⟨l⟩ := sl
        simp only at hs
        rw [hs]
      subst hl
      exact ⟨nm, qn, ns, bs, bm, sn, sub, ab, col, dd, k0, k1, k2, k3, k5, ho, e5⟩
    · cases h
  · cases h
def excLook (K : PySem.W.Frag) (C : Addr) : Bool :=
  decide (PySem.W.findIn K (.ref C) "__getattribute__" = some (some (.builtin "BaseException.__getattribute__"))) && decide (PySem.W.findIn K (.ref C) "__getattr__" = some none) &&
  decide (PySem.W.subIn K (.ref C) (.type "BaseException") = some true) && PySem.W.hasDictIn K C && decide (PySem.W.findIn K (.ref C) "__class__" = some (some (.builtin "object.__class__"))) &&
  decide (PySem.W.specialIn K (.builtin "object.__class__") "__get__" = some (some (.builtin "getset_descriptor.__get__"))) && decide (PySem.W.takesIn K (.builtin "object.__class__") = some true) &&
  decide (PySem.W.mroIn K C (.type "object") = some true)
theorem excLook_of {K : PySem.W.Frag} {C : Addr} (h : excLook K C = true) : ExcC K C ∧ XfC K C := by
  unfold excLook at h
  simp only [Bool.and_eq_true, decide_eq_true_eq] at h
  obtain ⟨⟨⟨⟨⟨⟨⟨h1, h2⟩, h3⟩, h4⟩, h5⟩, h6⟩, h7⟩, h8⟩ := h
  exact ⟨⟨h1, h2, h3, h4, h5, h6, h7, h8⟩, ⟨h1, h2, h3, h4⟩⟩
def errLook (K : PySem.W.Frag) (C fI : Addr) (f : Str) (B : List Value) (nw : String) : Bool :=
  clsLook K C B nw && decide (PySem.W.findIn K (.ref C) "__setattr__" = some (some (.builtin "object.__setattr__"))) && decide (PySem.W.findIn K (.ref C) f = some none) &&
  decide (PySem.W.findIn K (.ref C) "__init__" = some (some (.ref fI))) && decide (PySem.W.typeIn K (.ref fI) = some (.type "function")) && PySem.W.keepIn K (.ref C)
theorem errLook_of {K : PySem.W.Frag} {mg : Str → Option Value} {x f : Str} {C fI : Addr} {B : List Value} {nw : String} (h : errLook K C fI f B nw = true) (g : mg x = some (.ref C))
    (fn : ∃ (qual : Str) (oc : Value) (od : Option Addr) (doc pm : Value) (an : Option Addr) (cdv ct : Value) (osl : Array (Option Value)) (p1 p2 q1 q2 q3 q4 : Pos),
      K.lookup fI = some ⟨oc, od, .func (PySem.W.fnOf "__init__" qual (eA f p1 p2) (eB f q1 q2 q3 q4) (eS f) .none .none doc pm an cdv ct), osl⟩ ∧ PySem.W.codeIn K cdv qual = true) : ErrC K mg x f C fI nw B := by
  unfold errLook at h
  simp only [Bool.and_eq_true, decide_eq_true_eq] at h
  obtain ⟨⟨⟨⟨⟨h1, h2⟩, h3⟩, h4⟩, h5⟩, h6⟩ := h
  exact ⟨g, clsLook_of h1, h2, h3, h4, h5, h6, fn⟩
def passLook (K : PySem.W.Frag) (C fI : Addr) (B : List Value) (nw : String) : Bool :=
  clsLook K C B nw && decide (PySem.W.findIn K (.ref C) "__init__" = some (some (.ref fI))) && decide (PySem.W.typeIn K (.ref fI) = some (.type "function")) && PySem.W.keepIn K (.ref C)
def intLook (K : PySem.W.Frag) (x : Str) (n : Int) : Bool := match PySem.W.nsIn K mainGlobals x with
  | some (some (.int m _)) => m == n
  | _ => false
theorem intLook_of {K : PySem.W.Frag} {x : Str} {n : Int} {h0 : Heap} {mg : Str → Option Value} (X : K.In h0) (G : h0.Ns mainGlobals mg) (h : intLook K x n = true) : ∃ t, mg x = some (.int n t) := by
  unfold intLook at h
  split at h
  · rename_i m t e
    obtain rfl := beq_iff_eq.mp h
    exact ⟨t, PySem.W.mg_of X G e⟩
  · cases h
def outer : List Str := ["divmod", "int", "len", "abs", "isinstance", "range", "ValueError", "LookupError", "ArithmeticError", "repr", "enumerate", "all", "max", "min"]
def outLook (K : PySem.W.Frag) : Bool := outer.all fun x => decide (PySem.W.nsIn K mainGlobals x = some none)
theorem outLook_of {K : PySem.W.Frag} {h0 : Heap} {mg : Str → Option Value} (X : K.In h0) (G : h0.Ns mainGlobals mg) (h : outLook K = true) (x : Str) (hx : x ∈ outer) : mg x = none :=
  PySem.W.mg_none_of X G (of_decide_eq_true (List.all_eq_true.mp h x hx))
def kitLook (K : PySem.W.Frag) (c : Nat → Addr) : Bool := (List.range 28).all fun i => (List.range 31).all fun j => decide (PySem.W.kitOne K (.ref (c i)) (tgt c j) = some (tbl i j))
theorem kitLook_of {K : PySem.W.Frag} {c : Nat → Addr} (h : kitLook K c = true) (i j : Nat) (hi : i < 28) (hj : j < 31) : PySem.W.kitOne K (.ref (c i)) (tgt c j) = some (tbl i j) :=
  of_decide_eq_true (List.all_eq_true.mp (List.all_eq_true.mp h i (List.mem_range.mpr hi)) j (List.mem_range.mpr hj))
def gLook (K : PySem.W.Frag) (c : Nat → Addr) : Bool := (List.range 28).all fun i => decide (PySem.W.nsIn K mainGlobals (nm.getD i Str.empty) = some (some (.ref (c i)))) && excLook K (c i)
def eLook (K : PySem.W.Frag) (c fi : Nat → Addr) : Bool :=
  ((List.range 12).all fun i => errLook K (c i) (fi i) "given" veT "ValueError.__new__") && ((List.range 9).all fun i => errLook K (c (12 + i)) (fi (12 + i)) "index" veT "ValueError.__new__") &&
  errLook K (c 21) (fi 21) "given" leT "LookupError.__new__" && errLook K (c 22) (fi 22) "index" aeT "ArithmeticError.__new__" && errLook K (c 23) (fi 23) "index" aeT "ArithmeticError.__new__" &&
  passLook K (c 24) (fi 24) aeT "ArithmeticError.__new__"
def bLook (K : PySem.W.Frag) (c : Nat → Addr) : Bool := PySem.W.excIn K (c 25) veT "ValueError.__new__" && PySem.W.keepIn K (.ref (c 25)) && PySem.W.excIn K (c 26) leT "LookupError.__new__" && PySem.W.keepIn K (.ref (c 26)) &&
  PySem.W.excIn K (c 27) aeT "ArithmeticError.__new__" && PySem.W.keepIn K (.ref (c 27))
def cLook (K : PySem.W.Frag) : Bool := intLook K "MOST_MACHINES" 6 && intLook K "MOST_CLEANINGS" 6 && intLook K "MOST_STUFFS" 3 && intLook K "MOST_PRODUCTS" 8 && intLook K "MOST_SHARE" 1000 && intLook K "MOST_AMOUNT" 1000000000000 &&
  intLook K "MOST_DEEDS" 20 && intLook K "MOST_LOTS" 8 && intLook K "MOST_PASSED" 4 && intLook K "MOST_ROW" 24 && intLook K "MOST_CHANGES" 6 && intLook K "MOST_ORDERED" 6 && intLook K "MOST_CLAIMED" 10000000000000
def atL (l : List Addr) (i : Nat) : Addr := l.getD i 0
/-- an error's __init__ as it stands in the written part -/
def InitAt (K : PySem.W.Frag) (f : Str) (fI : Addr) : Prop := ∃ (qual : Str) (oc : Value) (od : Option Addr) (doc pm : Value) (an : Option Addr) (cdv ct : Value) (osl : Array (Option Value)) (p1 p2 q1 q2 q3 q4 : Pos),
  K.lookup fI = some ⟨oc, od, .func (PySem.W.fnOf "__init__" qual (eA f p1 p2) (eB f q1 q2 q3 q4) (eS f) .none .none doc pm an cdv ct), osl⟩ ∧ PySem.W.codeIn K cdv qual = true

theorem all_mk {P : Program} {w : World} {K : PySem.W.Frag} {h : Heap} {mg : Str → Option Value} {fa C0 C1 C2 C3 C4 C5 C6 C7 C8 C9 C10 C11 C12 C13 C14 C15 C16 C17 C18 C19 C20 C21 C22 C23 C24 C25 C26 C27 f0 f1 f2 f3 f4 f5 f6 f7 f8 f9 f10 f11 f12 f13 f14 f15 f16 f17 f18 f19 f20 f21 f22 f23 f24 : Addr} (X : K.In h) (G : h.Ns mainGlobals mg) (hfa : mg "law" = some (.ref fa))
    {oc0 dc0 pm0 cd0 ct0 : Value} {od0 an0 : Option Addr} {sl0 : Array (Option Value)}
    {oc1 dc1 pm1 cd1 ct1 : Value} {od1 an1 : Option Addr} {sl1 : Array (Option Value)}
    {oc2 dc2 pm2 cd2 ct2 : Value} {od2 an2 : Option Addr} {sl2 : Array (Option Value)}
    {oc3 dc3 pm3 cd3 ct3 : Value} {od3 an3 : Option Addr} {sl3 : Array (Option Value)}
    {oc4 dc4 pm4 cd4 ct4 : Value} {od4 an4 : Option Addr} {sl4 : Array (Option Value)}
    {oc5 dc5 pm5 cd5 ct5 : Value} {od5 an5 : Option Addr} {sl5 : Array (Option Value)}
    {oc6 dc6 pm6 cd6 ct6 : Value} {od6 an6 : Option Addr} {sl6 : Array (Option Value)}
    {oc7 dc7 pm7 cd7 ct7 : Value} {od7 an7 : Option Addr} {sl7 : Array (Option Value)}
    {oc8 dc8 pm8 cd8 ct8 : Value} {od8 an8 : Option Addr} {sl8 : Array (Option Value)}
    {oc9 dc9 pm9 cd9 ct9 : Value} {od9 an9 : Option Addr} {sl9 : Array (Option Value)}
    {oc10 dc10 pm10 cd10 ct10 : Value} {od10 an10 : Option Addr} {sl10 : Array (Option Value)}
    {oc11 dc11 pm11 cd11 ct11 : Value} {od11 an11 : Option Addr} {sl11 : Array (Option Value)}
    {oc12 dc12 pm12 cd12 ct12 : Value} {od12 an12 : Option Addr} {sl12 : Array (Option Value)}
    {oc13 dc13 pm13 cd13 ct13 : Value} {od13 an13 : Option Addr} {sl13 : Array (Option Value)}
    {oc14 dc14 pm14 cd14 ct14 : Value} {od14 an14 : Option Addr} {sl14 : Array (Option Value)}
    {oc15 dc15 pm15 cd15 ct15 : Value} {od15 an15 : Option Addr} {sl15 : Array (Option Value)}
    {oc16 dc16 pm16 cd16 ct16 : Value} {od16 an16 : Option Addr} {sl16 : Array (Option Value)}
    {oc17 dc17 pm17 cd17 ct17 : Value} {od17 an17 : Option Addr} {sl17 : Array (Option Value)}
    {oc18 dc18 pm18 cd18 ct18 : Value} {od18 an18 : Option Addr} {sl18 : Array (Option Value)}
    {oc19 dc19 pm19 cd19 ct19 : Value} {od19 an19 : Option Addr} {sl19 : Array (Option Value)}
    {oc20 dc20 pm20 cd20 ct20 : Value} {od20 an20 : Option Addr} {sl20 : Array (Option Value)}
    {oc21 dc21 pm21 cd21 ct21 : Value} {od21 an21 : Option Addr} {sl21 : Array (Option Value)}
    {oc22 dc22 pm22 cd22 ct22 : Value} {od22 an22 : Option Addr} {sl22 : Array (Option Value)}
    {oc23 dc23 pm23 cd23 ct23 : Value} {od23 an23 : Option Addr} {sl23 : Array (Option Value)}
    {oc24 dc24 pm24 cd24 ct24 : Value} {od24 an24 : Option Addr} {sl24 : Array (Option Value)}
    {ocdip kVdip dcdip pmdip cddip ctdip : Value} {oddip andip : Option Addr} {sldip : Array (Option Value)} {gdip : Addr}
    {ocone kVone dcone pmone cdone ctone : Value} {odone anone : Option Addr} {slone : Array (Option Value)} {gone : Addr}
    {ocjar kVjar dcjar pmjar cdjar ctjar : Value} {odjar anjar : Option Addr} {sljar : Array (Option Value)} {gjar : Addr}
    {ocsor kVsor dcsor pmsor cdsor ctsor : Value} {odsor ansor : Option Addr} {slsor : Array (Option Value)} {gsor : Addr}
    {ocgiv kVgiv dcgiv pmgiv cdgiv ctgiv : Value} {odgiv angiv : Option Addr} {slgiv : Array (Option Value)} {ggiv : Addr}
    {ocind kVind dcind pmind cdind ctind : Value} {odind anind : Option Addr} {slind : Array (Option Value)} {gind : Addr}
    {ocrig kVrig dcrig pmrig cdrig ctrig : Value} {odrig anrig : Option Addr} {slrig : Array (Option Value)} {grig : Addr}
    {oclaw kVlaw dclaw pmlaw cdlaw ctlaw : Value} {odlaw anlaw : Option Addr} {sllaw : Array (Option Value)} {glaw : Addr}
    (a0 : PySem.W.nsIn K mainGlobals "InvalidText" = some (some (.ref C0)))
    (a1 : PySem.W.nsIn K mainGlobals "InvalidLot" = some (some (.ref C1)))
    (a2 : PySem.W.nsIn K mainGlobals "InvalidBound" = some (some (.ref C2)))
    (a3 : PySem.W.nsIn K mainGlobals "InvalidName" = some (some (.ref C3)))
    (a4 : PySem.W.nsIn K mainGlobals "InvalidClaim" = some (some (.ref C4)))
    (a5 : PySem.W.nsIn K mainGlobals "InvalidIndex" = some (some (.ref C5)))
    (a6 : PySem.W.nsIn K mainGlobals "InvalidOther" = some (some (.ref C6)))
    (a7 : PySem.W.nsIn K mainGlobals "InvalidLine" = some (some (.ref C7)))
    (a8 : PySem.W.nsIn K mainGlobals "NotWorks" = some (some (.ref C8)))
    (a9 : PySem.W.nsIn K mainGlobals "NotAPlan" = some (some (.ref C9)))
    (a10 : PySem.W.nsIn K mainGlobals "NotARule" = some (some (.ref C10)))
    (a11 : PySem.W.nsIn K mainGlobals "NotAPart" = some (some (.ref C11)))
    (a12 : PySem.W.nsIn K mainGlobals "InvalidMachines" = some (some (.ref C12)))
    (a13 : PySem.W.nsIn K mainGlobals "InvalidCleanings" = some (some (.ref C13)))
    (a14 : PySem.W.nsIn K mainGlobals "InvalidStuffs" = some (some (.ref C14)))
    (a15 : PySem.W.nsIn K mainGlobals "InvalidProducts" = some (some (.ref C15)))
    (a16 : PySem.W.nsIn K mainGlobals "InvalidDeeds" = some (some (.ref C16)))
    (a17 : PySem.W.nsIn K mainGlobals "InvalidTable" = some (some (.ref C17)))
    (a18 : PySem.W.nsIn K mainGlobals "InvalidRow" = some (some (.ref C18)))
    (a19 : PySem.W.nsIn K mainGlobals "InvalidChanges" = some (some (.ref C19)))
    (a20 : PySem.W.nsIn K mainGlobals "InvalidOrdered" = some (some (.ref C20)))
    (a21 : PySem.W.nsIn K mainGlobals "UnknownName" = some (some (.ref C21)))
    (a22 : PySem.W.nsIn K mainGlobals "Broken" = some (some (.ref C22)))
    (a23 : PySem.W.nsIn K mainGlobals "InUse" = some (some (.ref C23)))
    (a24 : PySem.W.nsIn K mainGlobals "NothingToUndo" = some (some (.ref C24)))
    (a25 : PySem.W.nsIn K mainGlobals "WrongValue" = some (some (.ref C25)))
    (a26 : PySem.W.nsIn K mainGlobals "WrongName" = some (some (.ref C26)))
    (a27 : PySem.W.nsIn K mainGlobals "NoAnswer" = some (some (.ref C27)))
    (i0 : PySem.W.findIn K (.ref C0) "__init__" = some (some (.ref f0)))
    (l0 : K.lookup f0 = some ⟨oc0, od0, .func (PySem.W.fnOf "__init__" "InvalidText.__init__" (defArgs (inClass (top 2) 0)) (defBody (inClass (top 2) 0)) (defScope (inClass (top 2) 0)) .none .none dc0 pm0 an0 cd0 ct0), sl0⟩)
    (d0 : PySem.W.codeIn K cd0 "InvalidText.__init__" = true)
    (i1 : PySem.W.findIn K (.ref C1) "__init__" = some (some (.ref f1)))
    (l1 : K.lookup f1 = some ⟨oc1, od1, .func (PySem.W.fnOf "__init__" "InvalidLot.__init__" (defArgs (inClass (top 3) 0)) (defBody (inClass (top 3) 0)) (defScope (inClass (top 3) 0)) .none .none dc1 pm1 an1 cd1 ct1), sl1⟩)
    (d1 : PySem.W.codeIn K cd1 "InvalidLot.__init__" = true)
    (i2 : PySem.W.findIn K (.ref C2) "__init__" = some (some (.ref f2)))
    (l2 : K.lookup f2 = some ⟨oc2, od2, .func (PySem.W.fnOf "__init__" "InvalidBound.__init__" (defArgs (inClass (top 4) 0)) (defBody (inClass (top 4) 0)) (defScope (inClass (top 4) 0)) .none .none dc2 pm2 an2 cd2 ct2), sl2⟩)
    (d2 : PySem.W.codeIn K cd2 "InvalidBound.__init__" = true)
    (i3 : PySem.W.findIn K (.ref C3) "__init__" = some (some (.ref f3)))
    (l3 : K.lookup f3 = some ⟨oc3, od3, .func (PySem.W.fnOf "__init__" "InvalidName.__init__" (defArgs (inClass (top 5) 0)) (defBody (inClass (top 5) 0)) (defScope (inClass (top 5) 0)) .none .none dc3 pm3 an3 cd3 ct3), sl3⟩)
    (d3 : PySem.W.codeIn K cd3 "InvalidName.__init__" = true)
    (i4 : PySem.W.findIn K (.ref C4) "__init__" = some (some (.ref f4)))
    (l4 : K.lookup f4 = some ⟨oc4, od4, .func (PySem.W.fnOf "__init__" "InvalidClaim.__init__" (defArgs (inClass (top 6) 0)) (defBody (inClass (top 6) 0)) (defScope (inClass (top 6) 0)) .none .none dc4 pm4 an4 cd4 ct4), sl4⟩)
    (d4 : PySem.W.codeIn K cd4 "InvalidClaim.__init__" = true)
    (i5 : PySem.W.findIn K (.ref C5) "__init__" = some (some (.ref f5)))
    (l5 : K.lookup f5 = some ⟨oc5, od5, .func (PySem.W.fnOf "__init__" "InvalidIndex.__init__" (defArgs (inClass (top 7) 0)) (defBody (inClass (top 7) 0)) (defScope (inClass (top 7) 0)) .none .none dc5 pm5 an5 cd5 ct5), sl5⟩)
    (d5 : PySem.W.codeIn K cd5 "InvalidIndex.__init__" = true)
    (i6 : PySem.W.findIn K (.ref C6) "__init__" = some (some (.ref f6)))
    (l6 : K.lookup f6 = some ⟨oc6, od6, .func (PySem.W.fnOf "__init__" "InvalidOther.__init__" (defArgs (inClass (top 8) 0)) (defBody (inClass (top 8) 0)) (defScope (inClass (top 8) 0)) .none .none dc6 pm6 an6 cd6 ct6), sl6⟩)
    (d6 : PySem.W.codeIn K cd6 "InvalidOther.__init__" = true)
    (i7 : PySem.W.findIn K (.ref C7) "__init__" = some (some (.ref f7)))
    (l7 : K.lookup f7 = some ⟨oc7, od7, .func (PySem.W.fnOf "__init__" "InvalidLine.__init__" (defArgs (inClass (top 9) 0)) (defBody (inClass (top 9) 0)) (defScope (inClass (top 9) 0)) .none .none dc7 pm7 an7 cd7 ct7), sl7⟩)
    (d7 : PySem.W.codeIn K cd7 "InvalidLine.__init__" = true)
    (i8 : PySem.W.findIn K (.ref C8) "__init__" = some (some (.ref f8)))
    (l8 : K.lookup f8 = some ⟨oc8, od8, .func (PySem.W.fnOf "__init__" "NotWorks.__init__" (defArgs (inClass (top 10) 0)) (defBody (inClass (top 10) 0)) (defScope (inClass (top 10) 0)) .none .none dc8 pm8 an8 cd8 ct8), sl8⟩)
    (d8 : PySem.W.codeIn K cd8 "NotWorks.__init__" = true)
    (i9 : PySem.W.findIn K (.ref C9) "__init__" = some (some (.ref f9)))
    (l9 : K.lookup f9 = some ⟨oc9, od9, .func (PySem.W.fnOf "__init__" "NotAPlan.__init__" (defArgs (inClass (top 11) 0)) (defBody (inClass (top 11) 0)) (defScope (inClass (top 11) 0)) .none .none dc9 pm9 an9 cd9 ct9), sl9⟩)
    (d9 : PySem.W.codeIn K cd9 "NotAPlan.__init__" = true)
    (i10 : PySem.W.findIn K (.ref C10) "__init__" = some (some (.ref f10)))
    (l10 : K.lookup f10 = some ⟨oc10, od10, .func (PySem.W.fnOf "__init__" "NotARule.__init__" (defArgs (inClass (top 12) 0)) (defBody (inClass (top 12) 0)) (defScope (inClass (top 12) 0)) .none .none dc10 pm10 an10 cd10 ct10), sl10⟩)
    (d10 : PySem.W.codeIn K cd10 "NotARule.__init__" = true)
    (i11 : PySem.W.findIn K (.ref C11) "__init__" = some (some (.ref f11)))
    (l11 : K.lookup f11 = some ⟨oc11, od11, .func (PySem.W.fnOf "__init__" "NotAPart.__init__" (defArgs (inClass (top 13) 0)) (defBody (inClass (top 13) 0)) (defScope (inClass (top 13) 0)) .none .none dc11 pm11 an11 cd11 ct11), sl11⟩)
    (d11 : PySem.W.codeIn K cd11 "NotAPart.__init__" = true)
    (i12 : PySem.W.findIn K (.ref C12) "__init__" = some (some (.ref f12)))
    (l12 : K.lookup f12 = some ⟨oc12, od12, .func (PySem.W.fnOf "__init__" "InvalidMachines.__init__" (defArgs (inClass (top 14) 0)) (defBody (inClass (top 14) 0)) (defScope (inClass (top 14) 0)) .none .none dc12 pm12 an12 cd12 ct12), sl12⟩)
    (d12 : PySem.W.codeIn K cd12 "InvalidMachines.__init__" = true)
    (i13 : PySem.W.findIn K (.ref C13) "__init__" = some (some (.ref f13)))
    (l13 : K.lookup f13 = some ⟨oc13, od13, .func (PySem.W.fnOf "__init__" "InvalidCleanings.__init__" (defArgs (inClass (top 15) 0)) (defBody (inClass (top 15) 0)) (defScope (inClass (top 15) 0)) .none .none dc13 pm13 an13 cd13 ct13), sl13⟩)
    (d13 : PySem.W.codeIn K cd13 "InvalidCleanings.__init__" = true)
    (i14 : PySem.W.findIn K (.ref C14) "__init__" = some (some (.ref f14)))
    (l14 : K.lookup f14 = some ⟨oc14, od14, .func (PySem.W.fnOf "__init__" "InvalidStuffs.__init__" (defArgs (inClass (top 16) 0)) (defBody (inClass (top 16) 0)) (defScope (inClass (top 16) 0)) .none .none dc14 pm14 an14 cd14 ct14), sl14⟩)
    (d14 : PySem.W.codeIn K cd14 "InvalidStuffs.__init__" = true)
    (i15 : PySem.W.findIn K (.ref C15) "__init__" = some (some (.ref f15)))
    (l15 : K.lookup f15 = some ⟨oc15, od15, .func (PySem.W.fnOf "__init__" "InvalidProducts.__init__" (defArgs (inClass (top 17) 0)) (defBody (inClass (top 17) 0)) (defScope (inClass (top 17) 0)) .none .none dc15 pm15 an15 cd15 ct15), sl15⟩)
    (d15 : PySem.W.codeIn K cd15 "InvalidProducts.__init__" = true)
    (i16 : PySem.W.findIn K (.ref C16) "__init__" = some (some (.ref f16)))
    (l16 : K.lookup f16 = some ⟨oc16, od16, .func (PySem.W.fnOf "__init__" "InvalidDeeds.__init__" (defArgs (inClass (top 18) 0)) (defBody (inClass (top 18) 0)) (defScope (inClass (top 18) 0)) .none .none dc16 pm16 an16 cd16 ct16), sl16⟩)
    (d16 : PySem.W.codeIn K cd16 "InvalidDeeds.__init__" = true)
    (i17 : PySem.W.findIn K (.ref C17) "__init__" = some (some (.ref f17)))
    (l17 : K.lookup f17 = some ⟨oc17, od17, .func (PySem.W.fnOf "__init__" "InvalidTable.__init__" (defArgs (inClass (top 19) 0)) (defBody (inClass (top 19) 0)) (defScope (inClass (top 19) 0)) .none .none dc17 pm17 an17 cd17 ct17), sl17⟩)
    (d17 : PySem.W.codeIn K cd17 "InvalidTable.__init__" = true)
    (i18 : PySem.W.findIn K (.ref C18) "__init__" = some (some (.ref f18)))
    (l18 : K.lookup f18 = some ⟨oc18, od18, .func (PySem.W.fnOf "__init__" "InvalidRow.__init__" (defArgs (inClass (top 20) 0)) (defBody (inClass (top 20) 0)) (defScope (inClass (top 20) 0)) .none .none dc18 pm18 an18 cd18 ct18), sl18⟩)
    (d18 : PySem.W.codeIn K cd18 "InvalidRow.__init__" = true)
    (i19 : PySem.W.findIn K (.ref C19) "__init__" = some (some (.ref f19)))
    (l19 : K.lookup f19 = some ⟨oc19, od19, .func (PySem.W.fnOf "__init__" "InvalidChanges.__init__" (defArgs (inClass (top 21) 0)) (defBody (inClass (top 21) 0)) (defScope (inClass (top 21) 0)) .none .none dc19 pm19 an19 cd19 ct19), sl19⟩)
    (d19 : PySem.W.codeIn K cd19 "InvalidChanges.__init__" = true)
    (i20 : PySem.W.findIn K (.ref C20) "__init__" = some (some (.ref f20)))
    (l20 : K.lookup f20 = some ⟨oc20, od20, .func (PySem.W.fnOf "__init__" "InvalidOrdered.__init__" (defArgs (inClass (top 22) 0)) (defBody (inClass (top 22) 0)) (defScope (inClass (top 22) 0)) .none .none dc20 pm20 an20 cd20 ct20), sl20⟩)
    (d20 : PySem.W.codeIn K cd20 "InvalidOrdered.__init__" = true)
    (i21 : PySem.W.findIn K (.ref C21) "__init__" = some (some (.ref f21)))
    (l21 : K.lookup f21 = some ⟨oc21, od21, .func (PySem.W.fnOf "__init__" "UnknownName.__init__" (defArgs (inClass (top 24) 0)) (defBody (inClass (top 24) 0)) (defScope (inClass (top 24) 0)) .none .none dc21 pm21 an21 cd21 ct21), sl21⟩)
    (d21 : PySem.W.codeIn K cd21 "UnknownName.__init__" = true)
    (i22 : PySem.W.findIn K (.ref C22) "__init__" = some (some (.ref f22)))
    (l22 : K.lookup f22 = some ⟨oc22, od22, .func (PySem.W.fnOf "__init__" "Broken.__init__" (defArgs (inClass (top 26) 0)) (defBody (inClass (top 26) 0)) (defScope (inClass (top 26) 0)) .none .none dc22 pm22 an22 cd22 ct22), sl22⟩)
    (d22 : PySem.W.codeIn K cd22 "Broken.__init__" = true)
    (i23 : PySem.W.findIn K (.ref C23) "__init__" = some (some (.ref f23)))
    (l23 : K.lookup f23 = some ⟨oc23, od23, .func (PySem.W.fnOf "__init__" "InUse.__init__" (defArgs (inClass (top 27) 0)) (defBody (inClass (top 27) 0)) (defScope (inClass (top 27) 0)) .none .none dc23 pm23 an23 cd23 ct23), sl23⟩)
    (d23 : PySem.W.codeIn K cd23 "InUse.__init__" = true)
    (i24 : PySem.W.findIn K (.ref C24) "__init__" = some (some (.ref f24)))
    (l24 : K.lookup f24 = some ⟨oc24, od24, .func (PySem.W.fnOf "__init__" "NothingToUndo.__init__" (defArgs (inClass (top 28) 0)) (defBody (inClass (top 28) 0)) (defScope (inClass (top 28) 0)) .none .none dc24 pm24 an24 cd24 ct24), sl24⟩)
    (d24 : PySem.W.codeIn K cd24 "NothingToUndo.__init__" = true)
    (adip : PySem.W.nsIn K mainGlobals "_law_dip" = some (some (.ref gdip)))
    (ldip : K.lookup gdip = some ⟨ocdip, oddip, .func (PySem.W.fnOf "_law_dip" "_law_dip" (defArgs (top 43)) (defBody (top 43)) (defScope (top 43)) .none kVdip dcdip pmdip andip cddip ctdip), sldip⟩)
    (ddip : PySem.W.codeIn K cddip "_law_dip" = true)
    (kdip : PySem.W.keepIn K (.ref gdip) = true)
    (aone : PySem.W.nsIn K mainGlobals "_law_one_of" = some (some (.ref gone)))
    (lone : K.lookup gone = some ⟨ocone, odone, .func (PySem.W.fnOf "_law_one_of" "_law_one_of" (defArgs (top 44)) (defBody (top 44)) (defScope (top 44)) .none kVone dcone pmone anone cdone ctone), slone⟩)
    (done : PySem.W.codeIn K cdone "_law_one_of" = true)
    (kone : PySem.W.keepIn K (.ref gone) = true)
    (ajar : PySem.W.nsIn K mainGlobals "_law_jar" = some (some (.ref gjar)))
    (ljar : K.lookup gjar = some ⟨ocjar, odjar, .func (PySem.W.fnOf "_law_jar" "_law_jar" (defArgs (top 45)) (defBody (top 45)) (defScope (top 45)) .none kVjar dcjar pmjar anjar cdjar ctjar), sljar⟩)
    (djar : PySem.W.codeIn K cdjar "_law_jar" = true)
    (kjar : PySem.W.keepIn K (.ref gjar) = true)
    (asor : PySem.W.nsIn K mainGlobals "_law_sorts" = some (some (.ref gsor)))
    (lsor : K.lookup gsor = some ⟨ocsor, odsor, .func (PySem.W.fnOf "_law_sorts" "_law_sorts" (defArgs (top 46)) (defBody (top 46)) (defScope (top 46)) .none kVsor dcsor pmsor ansor cdsor ctsor), slsor⟩)
    (dsor : PySem.W.codeIn K cdsor "_law_sorts" = true)
    (ksor : PySem.W.keepIn K (.ref gsor) = true)
    (agiv : PySem.W.nsIn K mainGlobals "_law_given_errors" = some (some (.ref ggiv)))
    (lgiv : K.lookup ggiv = some ⟨ocgiv, odgiv, .func (PySem.W.fnOf "_law_given_errors" "_law_given_errors" (defArgs (top 47)) (defBody (top 47)) (defScope (top 47)) .none kVgiv dcgiv pmgiv angiv cdgiv ctgiv), slgiv⟩)
    (dgiv : PySem.W.codeIn K cdgiv "_law_given_errors" = true)
    (kgiv : PySem.W.keepIn K (.ref ggiv) = true)
    (aind : PySem.W.nsIn K mainGlobals "_law_index_errors" = some (some (.ref gind)))
    (lind : K.lookup gind = some ⟨ocind, odind, .func (PySem.W.fnOf "_law_index_errors" "_law_index_errors" (defArgs (top 48)) (defBody (top 48)) (defScope (top 48)) .none kVind dcind pmind anind cdind ctind), slind⟩)
    (dind : PySem.W.codeIn K cdind "_law_index_errors" = true)
    (kind : PySem.W.keepIn K (.ref gind) = true)
    (arig : PySem.W.nsIn K mainGlobals "_law_right" = some (some (.ref grig)))
    (lrig : K.lookup grig = some ⟨ocrig, odrig, .func (PySem.W.fnOf "_law_right" "_law_right" (defArgs (top 49)) (defBody (top 49)) (defScope (top 49)) .none kVrig dcrig pmrig anrig cdrig ctrig), slrig⟩)
    (drig : PySem.W.codeIn K cdrig "_law_right" = true)
    (krig : PySem.W.keepIn K (.ref grig) = true)
    (alaw : PySem.W.nsIn K mainGlobals "law" = some (some (.ref glaw)))
    (llaw : K.lookup glaw = some ⟨oclaw, odlaw, .func (PySem.W.fnOf "law" "law" (defArgs (top 50)) (defBody (top 50)) (defScope (top 50)) .none kVlaw dclaw pmlaw anlaw cdlaw ctlaw), sllaw⟩)
    (dlaw : PySem.W.codeIn K cdlaw "law" = true)
    (klaw : PySem.W.keepIn K (.ref glaw) = true)
    (outL : outLook K = true)
    (kitL : kitLook K (atL [C0, C1, C2, C3, C4, C5, C6, C7, C8, C9, C10, C11, C12, C13, C14, C15, C16, C17, C18, C19, C20, C21, C22, C23, C24, C25, C26, C27]) = true)
    (gL : gLook K (atL [C0, C1, C2, C3, C4, C5, C6, C7, C8, C9, C10, C11, C12, C13, C14, C15, C16, C17, C18, C19, C20, C21, C22, C23, C24, C25, C26, C27]) = true)
    (eL : eLook K (atL [C0, C1, C2, C3, C4, C5, C6, C7, C8, C9, C10, C11, C12, C13, C14, C15, C16, C17, C18, C19, C20, C21, C22, C23, C24, C25, C26, C27]) (atL [f0, f1, f2, f3, f4, f5, f6, f7, f8, f9, f10, f11, f12, f13, f14, f15, f16, f17, f18, f19, f20, f21, f22, f23, f24]) = true)
    (bL : bLook K (atL [C0, C1, C2, C3, C4, C5, C6, C7, C8, C9, C10, C11, C12, C13, C14, C15, C16, C17, C18, C19, C20, C21, C22, C23, C24, C25, C26, C27]) = true)
    (cL : cLook K = true) :
    ∃ fd : FuncData, (∀ (s : Shared) (u : Value), BindsTo s fd ⟨[u], []⟩ [("_law_cells", u)]) ∧ ∀ base : Heap, K.In base → base.Ns mainGlobals mg → FnG P w K mg base 4 fa fd ["_law_cells"] (spLaw K) := by
  have e := hfa.symm.trans (PySem.W.mg_of X G alaw)
  cases e

  have out := outLook_of X G outL
  have gg : ∀ i, i < 28 → mg (nm.getD i Str.empty) = some (.ref (atL [C0, C1, C2, C3, C4, C5, C6, C7, C8, C9, C10, C11, C12, C13, C14, C15, C16, C17, C18, C19, C20, C21, C22, C23, C24, C25, C26, C27] i)) ∧ ExcC K (atL [C0, C1, C2, C3, C4, C5, C6, C7, C8, C9, C10, C11, C12, C13, C14, C15, C16, C17, C18, C19, C20, C21, C22, C23, C24, C25, C26, C27] i) ∧ XfC K (atL [C0, C1, C2, C3, C4, C5, C6, C7, C8, C9, C10, C11, C12, C13, C14, C15, C16, C17, C18, C19, C20, C21, C22, C23, C24, C25, C26, C27] i) := fun i hi => by
    have z := List.all_eq_true.mp gL i (List.mem_range.mpr hi)
    simp only [Bool.and_eq_true, decide_eq_true_eq] at z
    exact ⟨PySem.W.mg_of X G z.1, excLook_of z.2⟩
  have C : Cl K mg (atL [C0, C1, C2, C3, C4, C5, C6, C7, C8, C9, C10, C11, C12, C13, C14, C15, C16, C17, C18, C19, C20, C21, C22, C23, C24, C25, C26, C27]) := ⟨fun i hi => (gg i hi).1, kitLook_of kitL, fun i hi => (gg i hi).2.1, out _ (by decide), out _ (by decide), out _ (by decide), out _ (by decide), out _ (by decide)⟩
  have xf : ∀ i, i < 28 → XfC K (atL [C0, C1, C2, C3, C4, C5, C6, C7, C8, C9, C10, C11, C12, C13, C14, C15, C16, C17, C18, C19, C20, C21, C22, C23, C24, C25, C26, C27] i) := fun i hi => (gg i hi).2.2
  unfold eLook at eL
  simp only [Bool.and_eq_true] at eL
  obtain ⟨⟨⟨⟨⟨e1, e2⟩, e3⟩, e4⟩, e5⟩, e6⟩ := eL
  have g1 : ∀ i, i < 12 → InitAt K "given" (atL [f0, f1, f2, f3, f4, f5, f6, f7, f8, f9, f10, f11, f12, f13, f14, f15, f16, f17, f18, f19, f20, f21, f22, f23, f24] i) := fun i hi => by
    match i, hi with
    | 0, _ => exact ⟨_, _, _, _, _, _, _, _, _, _, _, _, _, _, _, l0, d0⟩
    | 1, _ => exact ⟨_, _, _, _, _, _, _, _, _, _, _, _, _, _, _, l1, d1⟩
    | 2, _ => exact ⟨_, _, _, _, _, _, _, _, _, _, _, _, _, _, _, l2, d2⟩
    | 3, _ => exact ⟨_, _, _, _, _, _, _, _, _, _, _, _, _, _, _, l3, d3⟩
    | 4, _ => exact ⟨_, _, _, _, _, _, _, _, _, _, _, _, _, _, _, l4, d4⟩
    | 5, _ => exact ⟨_, _, _, _, _, _, _, _, _, _, _, _, _, _, _, l5, d5⟩
    | 6, _ => exact ⟨_, _, _, _, _, _, _, _, _, _, _, _, _, _, _, l6, d6⟩
    | 7, _ => exact ⟨_, _, _, _, _, _, _, _, _, _, _, _, _, _, _, l7, d7⟩
    | 8, _ => exact ⟨_, _, _, _, _, _, _, _, _, _, _, _, _, _, _, l8, d8⟩
    | 9, _ => exact ⟨_, _, _, _, _, _, _, _, _, _, _, _, _, _, _, l9, d9⟩
    | 10, _ => exact ⟨_, _, _, _, _, _, _, _, _, _, _, _, _, _, _, l10, d10⟩
    | 11, _ => exact ⟨_, _, _, _, _, _, _, _, _, _, _, _, _, _, _, l11, d11⟩
    | n + 12, hi => exact absurd hi (by omega)
  have g2 : ∀ i, i < 9 → InitAt K "index" (atL [f0, f1, f2, f3, f4, f5, f6, f7, f8, f9, f10, f11, f12, f13, f14, f15, f16, f17, f18, f19, f20, f21, f22, f23, f24] (12 + i)) := fun i hi => by
    match i, hi with
    | 0, _ => exact ⟨_, _, _, _, _, _, _, _, _, _, _, _, _, _, _, l12, d12⟩
    | 1, _ => exact ⟨_, _, _, _, _, _, _, _, _, _, _, _, _, _, _, l13, d13⟩
    | 2, _ => exact ⟨_, _, _, _, _, _, _, _, _, _, _, _, _, _, _, l14, d14⟩
    | 3, _ => exact ⟨_, _, _, _, _, _, _, _, _, _, _, _, _, _, _, l15, d15⟩
    | 4, _ => exact ⟨_, _, _, _, _, _, _, _, _, _, _, _, _, _, _, l16, d16⟩
    | 5, _ => exact ⟨_, _, _, _, _, _, _, _, _, _, _, _, _, _, _, l17, d17⟩
    | 6, _ => exact ⟨_, _, _, _, _, _, _, _, _, _, _, _, _, _, _, l18, d18⟩
    | 7, _ => exact ⟨_, _, _, _, _, _, _, _, _, _, _, _, _, _, _, l19, d19⟩
    | 8, _ => exact ⟨_, _, _, _, _, _, _, _, _, _, _, _, _, _, _, l20, d20⟩
    | n + 9, hi => exact absurd hi (by omega)

  have M : Mks K mg (atL [C0, C1, C2, C3, C4, C5, C6, C7, C8, C9, C10, C11, C12, C13, C14, C15, C16, C17, C18, C19, C20, C21, C22, C23, C24, C25, C26, C27]) (atL [f0, f1, f2, f3, f4, f5, f6, f7, f8, f9, f10, f11, f12, f13, f14, f15, f16, f17, f18, f19, f20, f21, f22, f23, f24]) :=
    ⟨fun i hi => errLook_of (List.all_eq_true.mp e1 i (List.mem_range.mpr hi)) (gg i (by omega)).1 (g1 i hi), fun i hi => errLook_of (List.all_eq_true.mp e2 i (List.mem_range.mpr hi)) (gg (12 + i) (by omega)).1 (g2 i hi),
      errLook_of e3 (gg 21 (by decide)).1 ⟨_, _, _, _, _, _, _, _, _, _, _, _, _, _, _, l21, d21⟩, errLook_of e4 (gg 22 (by decide)).1 ⟨_, _, _, _, _, _, _, _, _, _, _, _, _, _, _, l22, d22⟩, errLook_of e5 (gg 23 (by decide)).1 ⟨_, _, _, _, _, _, _, _, _, _, _, _, _, _, _, l23, d23⟩⟩
  unfold passLook at e6
  unfold bLook at bL
  unfold cLook at cL
  simp only [Bool.and_eq_true, decide_eq_true_eq] at e6 bL cL
  obtain ⟨⟨⟨u1, u2⟩, u3⟩, u4⟩ := e6
  obtain ⟨⟨⟨⟨⟨b1, b2⟩, b3⟩, b4⟩, b5⟩, b6⟩ := bL
  have Ba : Bare K mg (atL [C0, C1, C2, C3, C4, C5, C6, C7, C8, C9, C10, C11, C12, C13, C14, C15, C16, C17, C18, C19, C20, C21, C22, C23, C24, C25, C26, C27]) (atL [f0, f1, f2, f3, f4, f5, f6, f7, f8, f9, f10, f11, f12, f13, f14, f15, f16, f17, f18, f19, f20, f21, f22, f23, f24]) := ⟨⟨(gg 24 (by decide)).1, clsLook_of u1, u2, u3, u4, ⟨_, _, _, _, _, _, _, _, _, _, _, l24, d24⟩⟩, b1, b2, b3, b4, b5, b6⟩
  obtain ⟨⟨⟨⟨⟨⟨⟨⟨⟨⟨⟨⟨c0, c1⟩, c2⟩, c3⟩, c4⟩, c5⟩, c6⟩, c7⟩, c8⟩, c9⟩, c10⟩, c11⟩, c12⟩ := cL
  have T : Cst mg := ⟨intLook_of X G c0, intLook_of X G c1, intLook_of X G c2, intLook_of X G c3, intLook_of X G c4, intLook_of X G c5, intLook_of X G c6, intLook_of X G c7, intLook_of X G c8, intLook_of X G c9, intLook_of X G c10, intLook_of X G c11, intLook_of X G c12, out _ (by decide), out _ (by decide), out _ (by decide)⟩
  have Bl : Blt mg := ⟨out _ (by decide), out _ (by decide), out _ (by decide), out _ (by decide)⟩
  have B : BltR mg := ⟨out _ (by decide), out _ (by decide)⟩

  have Fdip := fun_mk (st := top 43) ldip ddip kdip
  have bdip := Fdip.binds (ps := ["_law_jar_here", "_law_top"]) fun _ _ _ _ _ _ us hl => match us, hl with | [_, _], _ => rfl
  have Fone := fun_mk (st := top 44) lone done kone
  have bone := Fone.binds (ps := ["_law_jar_here", "_law_some"]) fun _ _ _ _ _ _ us hl => match us, hl with | [_, _], _ => rfl
  have Fjar := fun_mk (st := top 45) ljar djar kjar
  have bjar := Fjar.binds (ps := ["_law_cells", "_law_turn"]) fun _ _ _ _ _ _ us hl => match us, hl with | [_, _], _ => rfl
  have Fsor := fun_mk (st := top 46) lsor dsor ksor
  have bsor := Fsor.binds (ps := ["_law_e"]) fun _ _ _ _ _ _ us hl => match us, hl with | [_], _ => rfl
  have Fgiv := fun_mk (st := top 47) lgiv dgiv kgiv
  have bgiv := Fgiv.binds (ps := ["_law_thing"]) fun _ _ _ _ _ _ us hl => match us, hl with | [_], _ => rfl
  have Find := fun_mk (st := top 48) lind dind kind
  have bindx := Find.binds (ps := ["_law_thing"]) fun _ _ _ _ _ _ us hl => match us, hl with | [_], _ => rfl
  have Frig := fun_mk (st := top 49) lrig drig krig
  have brig := Frig.binds (ps := ["_law_jar_here"]) fun _ _ _ _ _ _ us hl => match us, hl with | [_], _ => rfl
  have Flaw := fun_mk (st := top 50) llaw dlaw klaw
  have mDip := PySem.W.mg_of X G adip
  have mOne := PySem.W.mg_of X G aone
  have mJar := PySem.W.mg_of X G ajar
  have mSor := PySem.W.mg_of X G asor
  have mGiv := PySem.W.mg_of X G agiv
  have mInd := PySem.W.mg_of X G aind
  have mRig := PySem.W.mg_of X G arig
  refine ⟨PySem.W.fnOf "law" "law" (defArgs (top 50)) (defBody (top 50)) (defScope (top 50)) .none kVlaw dclaw pmlaw anlaw cdlaw ctlaw, fun s v => .of_eq rfl, fun base _ _ => ?_⟩
  have GS := ok_sorts (P := P) (w := w) (base := base) Fsor C
  have GR := ok_right (P := P) (w := w) (base := base) Frig B C M xf (ok_one Fone Bl Fdip bdip mDip) mOne kone bone (ok_given Fgiv M) mGiv kgiv bgiv (ok_index Find M) mInd kind bindx GS mSor ksor bsor
  exact ok_law Flaw T B Bl C Ba GS mSor ksor bsor GR mRig krig brig (ok_jar Fjar Bl) mJar kjar bjar
theorem walk {l : PySem.W.OpenLaw} {q : Program} {loose : List Str} {XP : (Str → Option Value) → Heap → Prop} {YP : World → Heap → Prop} {d : DefRec} {K : Params → PySem.W.Frag} (hn : l.most = some 63) (hdf : d.params.defaults = [])
    (hY : ∀ (w : World) (h : Heap), YP w h → (K w.params).In h)
    (F : ∀ (w : World) (mg : Str → Option Value) (fa : Addr) (h : Heap), (K w.params).In h → h.Ns mainGlobals mg → mg d.name = some (.ref fa) →
      ∃ fd : FuncData, (∀ (s : Shared) (u : Value), BindsTo s fd ⟨[u], []⟩ [("_law_cells", u)]) ∧ ∀ base : Heap, (K w.params).In base → base.Ns mainGlobals mg → FnG l.prog w (K w.params) mg base 4 fa fd ["_law_cells"] (spLaw (K w.params))) :
    PySem.W.WalkO q loose XP YP l.row.toRowW d [] (fun f vs => PySem.call f vs) :=
  L2.walk_ofG (n := 63) (k := 4) (x := "_law_cells") (sp := spLaw) hn (by decide) hdf ⟨rfl, by decide, by decide⟩ hY F fun _ _ a ns hl _ hS => ⟨a, ns, rfl, hS, hl, fun _ => rfl⟩
end LJ
set_option Elab.async false
open PySem PySem.W PyProof.Rows
set_option maxRecDepth 100000 in
set_option maxHeartbeats 0 in
theorem PySem.Challenge.cw_tracebounds_k01_limits_and_errors_holds : PySem.Challenge.rw_tracebounds_k01_limits_and_errors.Holds := by
  w_on; o_law; k_head; (case hw => w_witness2)
  k_fill
  refine LJ.walk (l := PySem.Challenge.rw_tracebounds_k01_limits_and_errors) rfl rfl (fun w h Y => PySem.W.kIn_of Y) ?F
  case F =>
    intro w mg fa h KX G hmg
    refine' LJ.all_mk KX G hmg ?a0 ?a1 ?a2 ?a3 ?a4 ?a5 ?a6 ?a7 ?a8 ?a9 ?a10 ?a11 ?a12 ?a13 ?a14 ?a15 ?a16 ?a17 ?a18 ?a19 ?a20 ?a21 ?a22 ?a23 ?a24 ?a25 ?a26 ?a27 ?i0 ?l0 ?d0 ?i1 ?l1 ?d1 ?i2 ?l2 ?d2 ?i3 ?l3 ?d3 ?i4 ?l4 ?d4 ?i5 ?l5 ?d5 ?i6 ?l6 ?d6 ?i7 ?l7 ?d7 ?i8 ?l8 ?d8 ?i9 ?l9 ?d9 ?i10 ?l10 ?d10 ?i11 ?l11 ?d11 ?i12 ?l12 ?d12 ?i13 ?l13 ?d13 ?i14 ?l14 ?d14 ?i15 ?l15 ?d15 ?i16 ?l16 ?d16 ?i17 ?l17 ?d17 ?i18 ?l18 ?d18 ?i19 ?l19 ?d19 ?i20 ?l20 ?d20 ?i21 ?l21 ?d21 ?i22 ?l22 ?d22 ?i23 ?l23 ?d23 ?i24 ?l24 ?d24 ?adip ?ldip ?ddip ?kdip ?aone ?lone ?done ?kone ?ajar ?ljar ?djar ?kjar ?asor ?lsor ?dsor ?ksor ?agiv ?lgiv ?dgiv ?kgiv ?aind ?lind ?dind ?kind ?arig ?lrig ?drig ?krig ?alaw ?llaw ?dlaw ?klaw ?outL ?kitL ?gL ?eL ?bL ?cL
    (case a0 => k_is)
    (case a1 => k_is)
    (case a2 => k_is)
    (case a3 => k_is)
    (case a4 => k_is)
    (case a5 => k_is)
    (case a6 => k_is)
    (case a7 => k_is)
    (case a8 => k_is)
    (case a9 => k_is)
    (case a10 => k_is)
    (case a11 => k_is)
    (case a12 => k_is)
    (case a13 => k_is)
    (case a14 => k_is)
    (case a15 => k_is)
    (case a16 => k_is)
    (case a17 => k_is)
    (case a18 => k_is)
    (case a19 => k_is)
    (case a20 => k_is)
    (case a21 => k_is)
    (case a22 => k_is)
    (case a23 => k_is)
    (case a24 => k_is)
    (case a25 => k_is)
    (case a26 => k_is)
    (case a27 => k_is)
    (case i0 => k_is)
    (case l0 => k_is)
    (case d0 => k_is)
    (case i1 => k_is)
    (case l1 => k_is)
    (case d1 => k_is)
    (case i2 => k_is)
    (case l2 => k_is)
    (case d2 => k_is)
    (case i3 => k_is)
    (case l3 => k_is)
    (case d3 => k_is)
    (case i4 => k_is)
    (case l4 => k_is)
    (case d4 => k_is)
    (case i5 => k_is)
    (case l5 => k_is)
    (case d5 => k_is)
    (case i6 => k_is)
    (case l6 => k_is)
    (case d6 => k_is)
    (case i7 => k_is)
    (case l7 => k_is)
    (case d7 => k_is)
    (case i8 => k_is)
    (case l8 => k_is)
    (case d8 => k_is)
    (case i9 => k_is)
    (case l9 => k_is)
    (case d9 => k_is)
    (case i10 => k_is)
    (case l10 => k_is)
    (case d10 => k_is)
    (case i11 => k_is)
    (case l11 => k_is)
    (case d11 => k_is)
    (case i12 => k_is)
    (case l12 => k_is)
    (case d12 => k_is)
    (case i13 => k_is)
    (case l13 => k_is)
    (case d13 => k_is)
    (case i14 => k_is)
    (case l14 => k_is)
    (case d14 => k_is)
    (case i15 => k_is)
    (case l15 => k_is)
    (case d15 => k_is)
    (case i16 => k_is)
    (case l16 => k_is)
    (case d16 => k_is)
    (case i17 => k_is)
    (case l17 => k_is)
    (case d17 => k_is)
    (case i18 => k_is)
    (case l18 => k_is)
    (case d18 => k_is)
    (case i19 => k_is)
    (case l19 => k_is)
    (case d19 => k_is)
    (case i20 => k_is)
    (case l20 => k_is)
    (case d20 => k_is)
    (case i21 => k_is)
    (case l21 => k_is)
    (case d21 => k_is)
    (case i22 => k_is)
    (case l22 => k_is)
    (case d22 => k_is)
    (case i23 => k_is)
    (case l23 => k_is)
    (case d23 => k_is)
    (case i24 => k_is)
    (case l24 => k_is)
    (case d24 => k_is)
    (case adip => k_is)
    (case ldip => k_is)
    (case ddip => k_is)
    (case kdip => k_is)
    (case aone => k_is)
    (case lone => k_is)
    (case done => k_is)
    (case kone => k_is)
    (case ajar => k_is)
    (case ljar => k_is)
    (case djar => k_is)
    (case kjar => k_is)
    (case asor => k_is)
    (case lsor => k_is)
    (case dsor => k_is)
    (case ksor => k_is)
    (case agiv => k_is)
    (case lgiv => k_is)
    (case dgiv => k_is)
    (case kgiv => k_is)
    (case aind => k_is)
    (case lind => k_is)
    (case dind => k_is)
    (case kind => k_is)
    (case arig => k_is)
    (case lrig => k_is)
    (case drig => k_is)
    (case krig => k_is)
    (case alaw => k_is)
    (case llaw => k_is)
    (case dlaw => k_is)
    (case klaw => k_is)
    (case outL => kernel_rfl)
    (case kitL => kernel_rfl)
    (case gL => kernel_rfl)
    (case eL => kernel_rfl)
    (case bL => kernel_rfl)
    (case cL => kernel_rfl)
