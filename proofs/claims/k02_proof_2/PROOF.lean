import PyProof.Rows.All
import Wide.All
import OpenK.AllK
import Wide.FinOn
import HandS.ForSpec
import HandS.ForMost
import HandS.ExcInit
import HandS.ExcValue
import HandS.ExcIs
import HandS.ExcField
import HandS.MakeKwOnly
import KE.KExcInit
import HandS.IsInst
import PyProof.ReprRoads
import HandS.Nested
import HandS.Iter
import KE.GoesMore
import HandS.Flow
import HandS.Walk
import HandS.DictComp
import HandS.Zip
import HandS.FStr
import HandS.Text
import HandS.Conv
import HandS.ExcOwn
import HandS.Defaults
import HandS.ClsMeth
import HandS.OwnEq
import HandS.RaiseMore
import HandS.TryOnly
import HandS.Property
import HandS.Exc
import HandS.TupLe
import HandS.TupAny
import HandS.EndTab
import KE.KNestM
import PySem.Challenge.RW_tracebounds_k02_works_made_and_told
set_option Elab.async false
set_option linter.all false
set_option maxRecDepth 100000
set_option maxHeartbeats 4000000
/-! Errors of one's own, over any base, made by position or by name. -/
namespace PySem
namespace ErrV
open PySem.W PySem.Calls PyProof.Rows
open Builtin Builtin.ObjectAttr
/-- own classes in front, then the base's own row -/
def rowOver (B : List Value) : List Value → Bool
  | .ref _ :: r => rowOver B r
  | l => l == B
theorem rowOver_two (B l : List Value) (e : rowOver B l = true) :
    (∃ c r, l = .ref c :: r ∧ rowOver B r = true) ∨ l = B := by
  unfold rowOver at e
  split at e
  · exact .inl ⟨_, _, rfl, e⟩
  · exact .inr (beq_iff_eq.mp e)
/-- what is asked of the built-in base -/
structure BaseOk (B nw ini : String) (bm : List Value) : Prop where
  F : ExcBaseFacts B nw ini bm
  S : StoreFacts B bm "object.__setattr__" "object"
section
variable {B nw ini : String} {bm : List Value}
theorem rowOver_has (T : BaseOk B nw ini bm) (Y : String) :
    ∀ l : List Value, rowOver bm l = true → l.contains (.type Y) = bm.contains (.type Y) := by
  intro l
  induction l with
  | nil =>
    intro e
    rcases rowOver_two _ _ e with ⟨_, _, z, _⟩ | z
    · cases z
    · rw [z]
  | cons a r ih =>
    intro e
    rcases rowOver_two _ _ e with ⟨c, r1, z, h⟩ | z
    · obtain ⟨z1, z2⟩ := List.cons.inj z
      subst z1
      subst z2
      rw [List.contains_cons, ih h]
      rfl
    · rw [z]
theorem rowOver_lets (T : BaseOk B nw ini bm) (self : Value) :
    ∀ l : List Value, rowOver bm l = true → refuseLoop self "__setattr__" l = pure () := by
  intro l
  induction l with
  | nil =>
    intro e
    rcases rowOver_two _ _ e with ⟨_, _, z, _⟩ | z
    · cases z
    · rw [z]
      exact T.S.passes self
  | cons a r ih =>
    intro e
    rcases rowOver_two _ _ e with ⟨c, r1, z, h⟩ | z
    · obtain ⟨z1, z2⟩ := List.cons.inj z
      subst z1
      subst z2
      rw [refuseLoop_ref]
      exact ih h
    · rw [z]
      exact T.S.passes self
theorem rowOver_some (T : BaseOk B nw ini bm) {l : List Value} (e : rowOver bm l = true) : l.isEmpty = false := by
  cases l with
  | cons _ _ => rfl
  | nil =>
    have z := rowOver_has T B [] e
    rw [T.F.hasB] at z
    cases z
end
section
variable {prog : Program} {w : World} {A : Around} {E : Value → Shared → Prop} {R : Result → Shared → Prop}
variable {hp : Heap} {g : Array GenState} {d : Drawn} {t : Nat} {os : OsState} {B nw ini : String} {bmB : List Value}
/-- the object as BaseException.__new__ lays it -/
abbrev fresh (C u : Addr) (dd : Option Addr) : Obj :=
  { cls := .ref C, dict := dd, data := .fields #[.ref u, .none, .none, .none, .bool false, .none] }
/-- self.name = v where the error has no dict so far -/
theorem put_first {K : W.Frag} {name : Str} {tk : Tok} {v : Value} {x C u : Addr} {cd : ClassData} (T : BaseOk B nw ini bmB)
    (X : K.In hp) (hx : hp.get? x = some (fresh C u none)) (hcd : W.clsIn K C = some cd) (hm : rowOver bmB cd.mro = true)
    (hh : cd.hasDict = true) (ha : W.findIn K (.ref C) name = some none)
    (hq : ∀ h1 t1 dx, (∀ b o, b ≠ x → hp.get? b = some o → h1.get? b = some o) → hp.objs.size ≤ dx → dx ≠ x →
      h1.get? x = some (fresh C u (some dx)) → h1.Ns1 dx (fun y => if y = name then some v else none) →
      R (.ok (.ret .none)) ⟨h1, g, d, t1, os⟩) :
    codeAny (model prog w) A (.call (.builtin "object.__setattr__") ⟨[.ref x, .str name tk, v], []⟩) R ⟨hp, g, d, t, os⟩ := by
  have J : W.InstAt hp x (fresh C u none) C none := ⟨hx, rfl, rfl, trivial⟩
  have G := F.store_object
  have obj : cd.mro.contains (.type "object") = true := (rowOver_has T "object" _ hm).trans T.S.hasOwner
  have far : x ≠ hp.objs.size := Nat.ne_of_lt (Heap.lt_size hx)
  have of_obj : W.Looks (model prog w) hp (isInstance (.ref x) (.type "object")) true :=
    J.type.andThen (W.looks_mroIn X (by
      unfold W.mroIn
      rw [hcd, Option.bind_some, if_neg (by rw [rowOver_some T hm]; decide), obj]))
  refine codeAny_call_builtin G.slot.plain G.entry ?_
  refine @W.check_slot (model prog w) _ _ ⟨hp, g, d, t, os⟩ "object.__setattr__" "object" "__setattr__" (.ref x)
    [.str name tk, v] [] _ G.kind G.split of_obj (G.args (.ref x) (.str name tk) v) ?_
  have Lm : W.Looks (model prog w) hp (mroOf (.ref C)) cd.mro := (W.looks_clsIn X hcd).andThen .now
  have Lt : W.Looks (model prog w) hp (storeTaker? none) none := .now
  have Lc : W.Looks (model prog w) hp (classData C) cd := W.looks_clsIn X hcd
  rw [W.osa_eq, refuse_eq]
  refine wpAny_bind (wpAny_bind (J.type.at (wpAny_bind (Lm.at ?_))))
  rw [rowOver_lets T _ _ hm]
  refine wpAny_pure (wpAny_bind (J.type.at (wpAny_bind ((W.looks_findIn X ha).at (wpAny_bind (Lt.at ?_))))))
  show wpAny _ _ (storeInOwnDict (.ref x) (.ref C) (.str name tk) name v false) _ _ _
  obtain ⟨nm, bs, mro, ns, qn, hd, sn, sb, ab, col, del⟩ := cd
  dsimp only at hh
  subst hh
  unfold storeInOwnDict ownDictForStores
  repeat (first
    | with_reducible refine HandSPX.store_in_new ?_ ?_
    | with_reducible refine wpAny_loadPart_at hx ?_
    | with_reducible refine Lc.at ?_
    | wp_step)
  · refine ⟨_, #[], _, (Heap.get?_update_ne _ _ _ _ far.symm).trans (Heap.get?_push_at rfl rfl), rfl, ?_, fun _ => rfl⟩
    intro e he
    exact absurd he (by simp)
  · intro h1 t1 hn same
    have hx1 : (hp.push { cls := .type "dict", data := .dict #[] }).get? x = some (fresh C u none) := Heap.get?_push_of_some _ hx
    refine hq h1 t1 hp.objs.size (fun b o hb ho => ?_) (Nat.le_refl _) far.symm ?_ hn
    · refine (same.2 b (Nat.ne_of_lt (Heap.lt_size ho))).trans ?_
      exact (Heap.get?_update_ne _ _ _ _ hb).trans (Heap.get?_push_of_some _ ho)
    · exact (same.2 x far).trans (Heap.get?_update_self _ hx1 rfl)
end
/-! ### the class is called -/
section
variable {prog : Program} {w : World} {A : Around} {E : Value → Shared → Prop} {R : Result → Shared → Prop} {h : Heap}
variable {g : Array GenState} {d : Drawn} {t : Nat} {os : OsState} {M : Model}
variable {nm q : Str} {C N : Addr} {bs bm bmB : List Value} {hdct : Bool} {sn : List Str} {sub : List Value} {ab : Bool}
variable {col : Option Bool} {dd : Option Addr} {k0 k1 k2 k3 k5 : Option Value} {B nw ini : String}
variable {rest : List Value} {kw : List (Str × Value)}
theorem new_checked (F : ExcBaseFacts B nw ini bmB) (hT : ∀ Y : String, bm.contains (.type Y) = bmB.contains (.type Y)) {Q : Unit → Shared → Prop}
    (hC : h.get? C = some (excClassObj nm q C N bs bm hdct sn sub ab col dd k0 k1 k2 k3 k5 nw)) (hq : Q () ⟨h, g, d, t, os⟩) :
    wpAny M A (checkBuiltinCall nw ⟨.ref C :: rest, kw⟩) Q E ⟨h, g, d, t, os⟩ := by
  have inB : (Value.ref C :: bm).contains (.type B) = true := by
    rw [List.contains_cons, hT, F.hasB, Bool.or_true]
  have ns := F.noStar
  simp only [checkBuiltinCall, F.newKind, F.newSplit, F.newRow]
  repeat (first
    | refine wpAny_loadPart_at hC ?_
    | (refine wpAny_isSubtype_exc hC ?_; rw [inB])
    | refine wpAny_staticBase_exc hC ?_
    | refine wpAny_madeBy_exc hC ?_
    | simp only [bne_self_eq_false, Bool.false_eq_true, if_false]
    | wp_step)
  exact hq
theorem new_laid (F : ExcBaseFacts B nw ini bmB) (hT : ∀ Y : String, bm.contains (.type Y) = bmB.contains (.type Y))
    (hC : h.get? C = some (excClassObj nm q C N bs bm hdct sn sub ab col dd k0 k1 k2 k3 k5 nw)) (hrest : rest.length ≤ sizeLine)
    (hq : R (.ok (.ret (.ref (h.objs.size + 1)))) ⟨(h.push (W.kdv_tup rest)).push (fresh C h.objs.size none), g, d, t, os⟩) :
    codeAny (model prog w) A (.builtin nw ⟨.ref C :: rest, kw⟩) R ⟨h, g, d, t, os⟩ := by
  have ends := F.ends
  have inB : (Value.ref C :: bm).contains (.type B) = true := by
    rw [List.contains_cons, hT, F.hasB, Bool.or_true]
  have noA : (Value.ref C :: bm).contains (.type "AttributeError") = false := by
    rw [List.contains_cons, hT, F.noAttr]
    rfl
  have noN : (Value.ref C :: bm).contains (.type "NameError") = false := by
    rw [List.contains_cons, hT, F.noName]
    rfl
  refine codeAny_builtinAt F.entry ?_
  unfold Builtin.«BaseException.__new__»
  refine wpAt_bind ?_
  show wpAt _ _ _ (stack >>= _) _ _ _
  refine wpAt_bind (wpAt_stack fun p below => wpAt_of_wpAny ?_)
  wp_walk
  refine wpAt_of_wpAny ?_
  rw [F.owner]
  repeat (first
    | with_reducible refine wpAny_madeHere_exc F.canon hC ?_
    | with_reducible refine wpAny_loadPart_at hC ?_
    | (with_reducible refine wpAny_isSubtype_exc hC ?_; first | rw [inB] | rw [noA] | rw [noN])
    | wp_step)
  show R _ _
  rw [Heap.size_push]
  exact hq
theorem type_called (F : ExcBaseFacts B nw ini bmB) (hT : ∀ Y : String, bm.contains (.type Y) = bmB.contains (.type Y)) {fI : Addr} {Q : Fin → Shared → Prop}
    (hC : h.get? C = some (excClassObj nm q C N bs bm hdct sn sub ab col dd k0 k1 k2 k3 k5 nw)) (hrest : rest.length ≤ sizeLine)
    (hi : W.Looks (model prog w) h (typeLookup (.ref C) "__init__") (some (.ref fI)))
    (hb : ∀ self, W.Looks (model prog w) h (bindSpecial (.ref fI) self) (.ref fI, [self]))
    (hq : codeAny (model prog w) A (.call (.ref fI) ⟨.ref (h.objs.size + 1) :: rest, kw⟩)
      (fun r s1 => match r with
        | .ok (.ret v) => v = .none ∧ Q (.done (.ret (.ref (h.objs.size + 1)))) s1
        | .ok _ => False
        | .error e => E e s1)
      ⟨(h.push (W.kdv_tup rest)).push (fresh C h.objs.size none), g, d, t, os⟩) :
    wpAny (model prog w) A (Builtin.«type.__call__» ⟨.ref C :: rest, kw⟩) Q E ⟨h, g, d, t, os⟩ := by
  repeat (first
    | with_reducible refine wpAny_loadPart_at hC ?_
    | with_reducible refine wpAny_madeBy_exc hC ?_
    | wp_step)
  refine codeAny_call_builtin_code (Code.quiet_builtin _ F.quiet) (new_checked F hT hC ?_)
  refine new_laid F hT hC hrest ?_
  show wpAny _ _ _ _ _ _
  have k : ∀ b o, h.get? b = some o → ((h.push (W.kdv_tup rest)).push (fresh C h.objs.size none)).get? b = some o :=
    fun b o e => Heap.get?_push_of_some _ (Heap.get?_push_of_some _ e)
  have hC1 := k _ _ hC
  have at1 : ((h.push (W.kdv_tup rest)).push (fresh C h.objs.size none)).get? (h.objs.size + 1) = some (fresh C h.objs.size none) := by
    heap_get
  have inC : (Value.ref C :: bm).contains (.ref C) = true := by simp
  have i1 := hi.keeps k
  have b1 := (hb (.ref (h.objs.size + 1))).keeps k
  unfold isInstance
  repeat (first
    | with_reducible refine wpAny_loadPart_at at1 ?_
    | (with_reducible refine wpAny_isSubtype_exc hC1 ?_; rw [inC])
    | wp_step)
  show wpAny _ _ (typeLookup (.ref C) _) _ _ _
  refine i1.at ?_
  refine wpAny_holding (wpAny_bind (b1.at ?_))
  refine wpAny_bind (wpAny_call (codeAny_mono hq fun r s1 z => ?_))
  rcases r with e | (v | _ | _ | _) <;> first | exact z | exact z.elim | skip
  obtain ⟨rfl, z⟩ := z
  first
    | exact wpAny_pure (wpAny_pure z)
    | (wp_walk; exact z)
theorem call_checked {Q : Unit → Shared → Prop}
    (hC : h.get? C = some (excClassObj nm q C N bs bm hdct sn sub ab col dd k0 k1 k2 k3 k5 nw)) (hq : Q () ⟨h, g, d, t, os⟩) :
    wpAny M A (checkBuiltinCall "type.__call__" ⟨.ref C :: rest, kw⟩) Q E ⟨h, g, d, t, os⟩ := by
  have f3 := tc_sub
  have isT : (⟨h, g, d, t, os⟩ : Shared).TypeIs (.ref C) "type" := ⟨_, hC, rfl⟩
  simp only [checkBuiltinCall, tc_kind, tc_split]
  repeat (any_goals (first
    | assumption
    | with_reducible refine wpAny_loadPart_at hC ?_
    | with_reducible refine wpAny_onRaise ?_
    | with_reducible refine wpAny_map ?_
    | wp_step))
theorem class_called (F : ExcBaseFacts B nw ini bmB) (hT : ∀ Y : String, bm.contains (.type Y) = bmB.contains (.type Y)) {fI : Addr}
    (hC : h.get? C = some (excClassObj nm q C N bs bm hdct sn sub ab col dd k0 k1 k2 k3 k5 nw)) (hrest : rest.length ≤ sizeLine)
    (hi : W.Looks (model prog w) h (typeLookup (.ref C) "__init__") (some (.ref fI)))
    (hb : ∀ self, W.Looks (model prog w) h (bindSpecial (.ref fI) self) (.ref fI, [self]))
    (hq : codeAny (model prog w) (A.under (.builtin "type.__call__" ⟨.ref C :: rest, kw⟩)) (.call (.ref fI) ⟨.ref (h.objs.size + 1) :: rest, kw⟩)
      (W.InitBack (h.objs.size + 1) R) ⟨(h.push (W.kdv_tup rest)).push (fresh C h.objs.size none), g, d, t, os⟩) :
    codeAny (model prog w) A (.call (.ref C) ⟨rest, kw⟩) R ⟨h, g, d, t, os⟩ := by
  have f1 := tc_lookup
  have f2 := tc_bind (.ref C)
  have isT : (⟨h, g, d, t, os⟩ : Shared).TypeIs (.ref C) "type" := ⟨_, hC, rfl⟩
  refine codeAny_of_tree ?_
  show wpAny _ _ (callAny (.ref C) _) _ _ _
  repeat (any_goals (first
    | assumption
    | with_reducible refine wpAny_loadPart_at hC ?_
    | wp_step))
  refine ⟨rfl, ?_⟩
  refine codeAny_call_builtin_at (Code.quiet_builtin _ (by decide +kernel)) entry_typeCall ?_
  refine call_checked hC (type_called F hT hC hrest hi hb ?_)
  refine codeAny_mono hq fun r s1 z => ?_
  rcases r with e | (v | _ | _ | _) <;> exact z
end
end ErrV
end PySem
set_option Elab.async false
set_option linter.all false
set_option maxRecDepth 100000
set_option maxHeartbeats 4000000
namespace PySem
namespace ErrV
open PySem.W PySem.Calls PyProof.Rows
/-! ### the text of an error's __init__ -/
def eA (f : Str) (p1 p2 : Pos) : Arguments :=
  { posonlyargs := [], args := [{ arg := "self", annotation := none, pos := p1 }, { arg := f, annotation := none, pos := p2 }], vararg := none, kwonlyargs := [], kw_defaults := [], kwarg := none, defaults := [] }
def eB (f : Str) (q1 q2 q3 q4 : Pos) : List Stmt := [.Assign [.Attribute (.Name "self" q1) f q2] (.Name f q3) q4]
def eS (f : Str) : Scope :=
  { kind := .function, names := [(PySem.Str.ofString "self", .local), (f, .local)], isGenerator := false, isCoroutine := false, more := [] }
/-- what the written part says of an error's class, at C, and of its __init__, at fI -/
structure ErrC (K : Frag) (mg : Str → Option Value) (x f : Str) (C fI : Addr) (nw : String) (bmB : List Value) : Prop where
  gC : mg x = some (.ref C)
  cls : ∃ nm q N bs bm sn sub ab col dd k0 k1 k2 k3 k5,
    K.lookup C = some (excClassObj nm q C N bs bm true sn sub ab col dd k0 k1 k2 k3 k5 nw) ∧ rowOver bmB bm = true
  sa : findIn K (.ref C) "__setattr__" = some (some (.builtin "object.__setattr__"))
  noN : findIn K (.ref C) f = some none
  iC : findIn K (.ref C) "__init__" = some (some (.ref fI))
  tC : typeIn K (.ref fI) = some (.type "function")
  kC : keepIn K (.ref C) = true
  fn : ∃ (qual : Str) (oc : Value) (od : Option Addr) (doc pm : Value) (an : Option Addr) (cdv ct : Value) (osl : Array (Option Value)) (p1 p2 q1 q2 q3 q4 : Pos),
    K.lookup fI = some ⟨oc, od, .func (fnOf "__init__" qual (eA f p1 p2) (eB f q1 q2 q3 q4) (eS f) .none .none doc pm an cdv ct), osl⟩ ∧ codeIn K cdv qual = true
theorem ldL {M : Model} {s : Shared} {name : Str} {scope : Scope} {L a : Addr} {cd : Value} {m : Str → Option Value} {x : Str} {pos : Pos} {v : Value}
    {Q : Value → Shared → Prop} {A : Around} {E : Value → Shared → Prop} (hn : s.heap.Ns L m) (hv : m x = some v) (h : Q v s)
    (hk : scope.kind = .function := by rfl) (hl : (envOfC name scope L a cd).kindOf x = some .local := by rfl) (hd : (x == ("__debug__" : Str)) = false := by decide) :
    wpAny M A (eval (.Name x pos) (envOfC name scope L a cd)) Q E s :=
  wpAny_Name (wpAny_loadName_local hk hl hn hv h) hd
section
variable {prog : Program} {w : World} {A : Around} {E : Value → Shared → Prop} {R : Result → Shared → Prop} {s : Shared}
variable {K : Frag} {mg : Str → Option Value} {n f : Str} {C fI : Addr} {B nw ini : String} {bmB : List Value}
/-- __init__(self, f): self.f = f -/
theorem init_run (hf : f = "given" ∨ f = "index") (T : ErrC K mg n f C fI nw bmB) (Bo : BaseOk B nw ini bmB) {x t0 : Addr} {v : Value} {args : Args}
    (hargs : args = ⟨[.ref x, v], []⟩ ∨ args = ⟨[.ref x], [(f, v)]⟩)
    (X : K.In s.heap) (hlim : s.heap.NoLimit) (hx : s.heap.get? x = some (fresh C t0 none)) (hroom : A.depth < recursionLimit)
    (hq : ∀ h1 tk dx, (∀ b o, b ≠ x → s.heap.get? b = some o → h1.get? b = some o) → h1.get? x = some (fresh C t0 (some dx)) → s.heap.objs.size ≤ dx → dx ≠ x →
      h1.Ns1 dx (fun y => if y = f then some v else none) → R (.ok (.ret .none)) { s with heap := h1, toks := tk }) :
    codeAny (model prog w) A (.call (.ref fI) args) R s := by
  obtain ⟨qual, oc, od, doc, pm, an, cdv, ct, osl, p1, p2, q1, q2, q3, q4, ho, hcd⟩ := T.fn
  obtain ⟨nm, q, N, bs, bm, sn, sub, ab, col, dd, k0, k1, k2, k3, k5, hC, hbm⟩ := T.cls
  have hcl : clsIn K C = some { name := nm, bases := bs, mro := .ref C :: bm, ns := N, qualname := q, hasDict := true, slotNames := sn, subclasses := sub, abstract := ab, collection := col, hasDel := false } := by
    unfold clsIn
    rw [hC] <;> rfl
  have noN := T.noN
  have sa := T.sa
  clear T hC
  rcases hf with rfl | rfl
  · refine Att.call_fn (binds := [("self", .ref x), ("given", v)]) X hlim ho hcd hroom ?_ (by first | rfl | decide | with_unfolding_all rfl) (fun s1 IC => ?_) rfl rfl rfl
    · rcases hargs with rfl | rfl
      · exact BindsTo.of_eq (by first | rfl | with_unfolding_all rfl)
      · exact BindsTo.of_eq (by first | rfl | with_unfolding_all rfl)
    · obtain ⟨h1, tk1, rfl⟩ := IC.toInCall.same
      have k : ∀ b o, s.heap.get? b = some o → h1.get? b = some o := IC.toInCall.keep
      have hn := IC.toInCall.ns
      have far : s.heap.objs.size ≠ x := Nat.ne_of_gt (Heap.lt_size hx)
      have X1 : K.In h1 := X.keeps k
      have hx1 := k _ _ hx
      show wpAny _ _ (execs _ _) _ _ _
      refine wpAny_execs_cons (plainObj_wpAny_Assign_Attribute ?_)
      refine ldL (v := v) hn (by first | rfl | with_unfolding_all rfl | kernel_rfl) ?_
      refine ldL (v := .ref x) hn (by first | rfl | with_unfolding_all rfl | kernel_rfl) ?_
      refine set_plain X1 (ox := fresh C t0 none) (od := none) ⟨hx1, rfl, rfl, trivial⟩ sa ?_
      refine put_first Bo X1 hx1 hcl (show rowOver bmB (.ref C :: bm) = true from hbm) rfl noN (fun h3 tk3 dx k3 big ne hx3 hn3 => ?_)
      show wpAny _ _ (execs _ _) _ _ _
      have z : s.heap.objs.size < h1.objs.size := hn.lt
      exact wpAny_execs_nil (hq h3 tk3 dx (fun b o hb e => k3 b o hb (k b o e)) hx3 (Nat.le_of_lt (Nat.lt_of_lt_of_le z big)) ne hn3)
  · refine Att.call_fn (binds := [("self", .ref x), ("index", v)]) X hlim ho hcd hroom ?_ (by first | rfl | decide | with_unfolding_all rfl) (fun s1 IC => ?_) rfl rfl rfl
    · rcases hargs with rfl | rfl
      · exact BindsTo.of_eq (by first | rfl | with_unfolding_all rfl)
      · exact BindsTo.of_eq (by first | rfl | with_unfolding_all rfl)
    · obtain ⟨h1, tk1, rfl⟩ := IC.toInCall.same
      have k : ∀ b o, s.heap.get? b = some o → h1.get? b = some o := IC.toInCall.keep
      have hn := IC.toInCall.ns
      have far : s.heap.objs.size ≠ x := Nat.ne_of_gt (Heap.lt_size hx)
      have X1 : K.In h1 := X.keeps k
      have hx1 := k _ _ hx
      show wpAny _ _ (execs _ _) _ _ _
      refine wpAny_execs_cons (plainObj_wpAny_Assign_Attribute ?_)
      refine ldL (v := v) hn (by first | rfl | with_unfolding_all rfl | kernel_rfl) ?_
      refine ldL (v := .ref x) hn (by first | rfl | with_unfolding_all rfl | kernel_rfl) ?_
      refine set_plain X1 (ox := fresh C t0 none) (od := none) ⟨hx1, rfl, rfl, trivial⟩ sa ?_
      refine put_first Bo X1 hx1 hcl (show rowOver bmB (.ref C :: bm) = true from hbm) rfl noN (fun h3 tk3 dx k3 big ne hx3 hn3 => ?_)
      show wpAny _ _ (execs _ _) _ _ _
      have z : s.heap.objs.size < h1.objs.size := hn.lt
      exact wpAny_execs_nil (hq h3 tk3 dx (fun b o hb e => k3 b o hb (k b o e)) hx3 (Nat.le_of_lt (Nat.lt_of_lt_of_le z big)) ne hn3)
/-- a made error: at e, its dict at d -/
structure Made (h h1 : Heap) (e C d : Addr) (f : Str) (v : Value) : Prop where
  keep : ∀ b o, h.get? b = some o → h1.get? b = some o
  big : h.objs.size ≤ e
  obj : ∃ u, h1.get? e = some (fresh C u (some d))
  dbig : h.objs.size ≤ d
  ne : d ≠ e
  ns : h1.Ns1 d (fun y => if y = f then some v else none)
theorem err_made (hf : f = "given" ∨ f = "index") (T : ErrC K mg n f C fI nw bmB) (Bo : BaseOk B nw ini bmB) {v : Value} {rest : List Value} {kw : List (Str × Value)}
    (hargs : (rest = [v] ∧ kw = []) ∨ (rest = [] ∧ kw = [(f, v)])) (X : K.In s.heap) (hlim : s.heap.NoLimit) (hroom : A.depth + 1 < recursionLimit)
    (hq : ∀ h1 tk e d, Made s.heap h1 e C d f v → R (.ok (.ret (.ref e))) { s with heap := h1, toks := tk }) :
    codeAny (model prog w) A (.call (.ref C) ⟨rest, kw⟩) R s := by
  obtain ⟨nm, q, N, bs, bm, sn, sub, ab, col, dd, k0, k1, k2, k3, k5, hC, hbm⟩ := T.cls
  obtain ⟨hp, g, dr, tk, os⟩ := s
  have sz : rest.length ≤ sizeLine := by
    rw [sizeLine_eq]
    rcases hargs with ⟨rfl, _⟩ | ⟨rfl, _⟩
    · exact (by decide : 1 ≤ 16777216)
    · exact (by decide : 0 ≤ 16777216)
  have k : ∀ b o, hp.get? b = some o → ((hp.push (kdv_tup rest)).push (fresh C hp.objs.size none)).get? b = some o :=
    fun b o e => Heap.get?_push_of_some _ (Heap.get?_push_of_some _ e)
  have at1 : ((hp.push (kdv_tup rest)).push (fresh C hp.objs.size none)).get? (hp.objs.size + 1) = some (fresh C hp.objs.size none) := by heap_get
  refine class_called Bo.F (fun Y => rowOver_has Bo Y bm hbm) (X _ _ hC) sz (looks_findIn X T.iC) (fun self => bind_fn X self T.tC) ?_
  refine init_run (s := ⟨(hp.push (kdv_tup rest)).push (fresh C hp.objs.size none), g, dr, tk, os⟩) (x := hp.objs.size + 1) hf T Bo (v := v) ?_ (X.keeps k) (hlim.keeps k) at1 ?_ ?_
  · rcases hargs with ⟨rfl, rfl⟩ | ⟨rfl, rfl⟩
    · exact .inl rfl
    · exact .inr rfl
  · rw [L2.make_depth]
    exact hroom
  · intro h1 tk1 dx k1 hx big ne hns
    have old : ∀ b o, hp.get? b = some o → h1.get? b = some o :=
      fun b o e => k1 b o (Nat.ne_of_lt (Nat.lt_succ_of_lt (Heap.lt_size e))) (k b o e)
    have z : hp.objs.size + 1 + 1 ≤ dx := by
      have q := big
      simp only [Heap.size_push] at q
      exact q
    exact ⟨rfl, hq h1 tk1 (hp.objs.size + 1) dx ⟨old, Nat.le_succ _, ⟨_, hx⟩, Nat.le_trans (Nat.le_trans (Nat.le_succ _) (Nat.le_succ _)) z, ne, hns⟩⟩
end
/-! ### an error whose __init__ does nothing -/
def eA0 (p1 : Pos) : Arguments :=
  { posonlyargs := [], args := [{ arg := "self", annotation := none, pos := p1 }], vararg := none, kwonlyargs := [], kw_defaults := [], kwarg := none, defaults := [] }
def eS0 : Scope := { kind := .function, names := [(PySem.Str.ofString "self", .local)], isGenerator := false, isCoroutine := false, more := [] }
structure PassC (K : Frag) (mg : Str → Option Value) (x : Str) (C fI : Addr) (nw : String) (bmB : List Value) : Prop where
  gC : mg x = some (.ref C)
  cls : ∃ nm q N bs bm sn sub ab col dd k0 k1 k2 k3 k5,
    K.lookup C = some (excClassObj nm q C N bs bm true sn sub ab col dd k0 k1 k2 k3 k5 nw) ∧ rowOver bmB bm = true
  iC : findIn K (.ref C) "__init__" = some (some (.ref fI))
  tC : typeIn K (.ref fI) = some (.type "function")
  kC : keepIn K (.ref C) = true
  fn : ∃ (qual : Str) (oc : Value) (od : Option Addr) (doc pm : Value) (an : Option Addr) (cdv ct : Value) (osl : Array (Option Value)) (p1 q1 : Pos),
    K.lookup fI = some ⟨oc, od, .func (fnOf "__init__" qual (eA0 p1) [.Pass q1] eS0 .none .none doc pm an cdv ct), osl⟩ ∧ codeIn K cdv qual = true
section
variable {prog : Program} {w : World} {A : Around} {E : Value → Shared → Prop} {R : Result → Shared → Prop} {s : Shared}
variable {K : Frag} {mg : Str → Option Value} {n : Str} {C fI : Addr} {B nw ini : String} {bmB : List Value}
theorem pass_made (T : PassC K mg n C fI nw bmB) (Bo : BaseOk B nw ini bmB) (X : K.In s.heap) (hlim : s.heap.NoLimit) (hroom : A.depth + 1 < recursionLimit)
    (hq : ∀ h1 tk e u, (∀ b o, s.heap.get? b = some o → h1.get? b = some o) → s.heap.objs.size ≤ e → h1.get? e = some (fresh C u none) → R (.ok (.ret (.ref e))) { s with heap := h1, toks := tk }) :
    codeAny (model prog w) A (.call (.ref C) ⟨[], []⟩) R s := by
  obtain ⟨nm, q, N, bs, bm, sn, sub, ab, col, dd, k0, k1, k2, k3, k5, hC, hbm⟩ := T.cls
  obtain ⟨qual, oc, od, doc, pm, an, cdv, ct, osl, p1, q1, ho, hcd⟩ := T.fn
  obtain ⟨hp, g, dr, tk, os⟩ := s
  have k : ∀ b o, hp.get? b = some o → ((hp.push (kdv_tup [])).push (fresh C hp.objs.size none)).get? b = some o :=
    fun b o e => Heap.get?_push_of_some _ (Heap.get?_push_of_some _ e)
  have at1 : ((hp.push (kdv_tup [])).push (fresh C hp.objs.size none)).get? (hp.objs.size + 1) = some (fresh C hp.objs.size none) := by heap_get
  refine class_called Bo.F (fun Y => rowOver_has Bo Y bm hbm) (X _ _ hC) (by rw [sizeLine_eq]; exact (by decide : 0 ≤ 16777216)) (looks_findIn X T.iC) (fun self => bind_fn X self T.tC) ?_
  have room1 : (A.under (.builtin "type.__call__" ⟨.ref C :: [], []⟩)).depth < recursionLimit := by
    rw [L2.make_depth]
    exact hroom
  refine Att.call_fn (s := ⟨(hp.push (kdv_tup [])).push (fresh C hp.objs.size none), g, dr, tk, os⟩) (binds := [("self", .ref (hp.objs.size + 1))]) (X.keeps k) (hlim.keeps k) ho hcd room1 (BindsTo.of_eq (by first | rfl | with_unfolding_all rfl))
    (by first | rfl | decide | with_unfolding_all rfl) (fun s1 IC => ?_) rfl rfl rfl
  obtain ⟨h1, tk1, rfl⟩ := IC.toInCall.same
  have kk : ∀ b o, ((hp.push (kdv_tup [])).push (fresh C hp.objs.size none)).get? b = some o → h1.get? b = some o := IC.toInCall.keep
  show wpAny _ _ (execs [.Pass q1] _) _ _ _
  refine wpAny_execs_cons ?_
  have fin : InitBack (hp.objs.size + 1) R (.ok (.ret .none)) ⟨h1, g, dr, tk1, os⟩ :=
    ⟨rfl, hq h1 tk1 (hp.objs.size + 1) hp.objs.size (fun b o e => kk b o (k b o e)) (Nat.le_succ _) (kk _ _ at1)⟩
  first
    | exact wpAny_Pass (wpAny_execs_nil fin)
    | (wp_walk; exact fin)
end
end ErrV
end PySem
set_option Elab.async false
set_option linter.all false
set_option maxRecDepth 100000
set_option maxHeartbeats 4000000
/-! The hand layer's rules for errors held as values. -/
namespace L2
open PySem PySem.Spec PyProof.Rows PySem.ErrV
section
variable {fs ex : List Addr} {H : Hp} {h h1 : Heap} {a b : Addr} {o u : HO}
/-- two new objects at once -/
theorem Un.two (k : ∀ c z, h.get? c = some z → h1.get? c = some z) (ha : h.objs.size ≤ a) (hb : h.objs.size ≤ b) (na : H a = none) (nb : H b = none) :
    Un fs ex H (upd (upd H a o) b u) h h1 := by
  have oa : ∀ {c : Addr} {z : Obj}, h.get? c = some z → c ≠ a := fun {c z} q => Nat.ne_of_lt (Nat.lt_of_lt_of_le (Heap.lt_size q) ha)
  have ob : ∀ {c : Addr} {z : Obj}, h.get? c = some z → c ≠ b := fun {c z} q => Nat.ne_of_lt (Nat.lt_of_lt_of_le (Heap.lt_size q) hb)
  exact {
    keep := fun c z q _ _ _ => k c z q
    slot := fun c z q _ _ _ => ⟨z.slots, k c z q⟩
    free := fun c z q n _ => by
      rw [upd_ne (ob q), upd_ne (oa q)]
      exact n
    there := fun c z q _ => ⟨z, k c z q⟩
    tups := fun c xs q => by
      rw [upd_ne (ne_of_none q nb), upd_ne (ne_of_none q na)]
      exact q
    frzs := fun c z xs q => by
      rw [upd_ne (ne_of_none q nb), upd_ne (ne_of_none q na)]
      exact q
    tbls := fun c ps q => ⟨#[], by
      rw [upd_ne (ne_of_none q nb), upd_ne (ne_of_none q na), q]
      simp⟩ }
theorem HOk.two {P : Program} {w : World} (x : HOk P w H h) (k : ∀ c z, h.get? c = some z → h1.get? c = some z) (na : H a = none) (nb : H b = none) (ne : a ≠ b)
    (oka : ObjOk P w (upd (upd H a o) b u) h1 a o) (okb : ObjOk P w (upd (upd H a o) b u) h1 b u) : HOk P w (upd (upd H a o) b u) h1 := fun c z e => by
  by_cases cb : c = b
  · subst cb
    rw [upd_same] at e
    cases e
    exact okb
  · rw [upd_ne cb] at e
    by_cases ca : c = a
    · subst ca
      rw [upd_same] at e
      cases e
      exact oka
    · rw [upd_ne ca] at e
      have up : ∀ {y : Addr} {v : HO}, H y = some v → upd (upd H a o) b u y = some v := fun {y v} q => by
        rw [upd_ne (ne_of_none q nb), upd_ne (ne_of_none q na)]
        exact q
      exact (x c z e).stay (fun y v _ q => k y v q) (fun y q => up q) fun y xs q => up q
end
section
variable {X : Cx} {C fI : Addr} {x f : Str} {B nw ini : String} {bmB : List Value} {e : Expr} {p pos : Pos} {te : TE}
/-- C(e): a new error whose dict has the one field -/
def tErr (C : Addr) (f : Str) (te : TE) : TE := fun σ H Q => te σ H fun v H1 => ∀ a d, H1 a = none → H1 d = none → d ≠ a → Q (.ref a) (upd (upd H1 d (exd d [(f, v)])) a (exo a C (some d)))
theorem err_end {pins : List (Addr × Obj)} {σ : St} {H1 : Hp} {s1 : Shared} {h1 : Heap} {tk : Nat} {a d : Addr} {y : V} {u : Value} {Q : VK} (I : Inv X pins σ H1 s1) (ry : RelV y u) (m : Made s1.heap h1 a C d f u)
    (q : ∀ a d, H1 a = none → H1 d = none → d ≠ a → Q (.ref a) (upd (upd H1 d (exd d [(f, y)])) a (exo a C (some d)))) : EP X pins σ Q (.ref a) { s1 with heap := h1, toks := tk } := by
  have na : H1 a = none := I.hok.fresh m.big
  have nd : H1 d = none := I.hok.fresh m.dbig
  obtain ⟨t, ob⟩ := m.obj
  refine ⟨.ref a, _, I.un (t' := tk) (Un.two m.keep m.dbig m.big nd na) (I.hok.two m.keep nd na m.ne ?_ (exo_ok ob)), rfl, q a d na nd m.ne⟩
  exact exd_ok m.ns (relO_put (fs := []) ry fun g => True.intro)
theorem pe_err (hf : f = "given" ∨ f = "index") (T : ErrC X.K X.mg x f C fI nw bmB) (Bo : BaseOk B nw ini bmB) (hr : Room 1 X.A) (hg : Gl X x) (he : PE X e te)
    (hs : starEach [e] X.env = (false, eval e X.env) :: starEach [] X.env := by rfl) (hdb : (x == ("__debug__" : Str)) = false := by decide) :
    PE X (.Call (.Name x p) [e] [] pos) (tErr C f te) := by
  refine ⟨fun pins s σ H Q I h => ?_⟩
  refine wpAny_Call_Name_kw (ld_glob I hg T.gC ?_ hdb)
  refine PySem.W.callWith_K (h₀ := X.base) I.ok.mod.kin T.kC ?_ hs (by rfl)
  rw [hs]
  show wpAny _ _ (spliced ((false, eval e X.env) :: backTo pos (starEach [] X.env))) _ _ s
  refine Calls.spliced_cons (thn (he.run pins s σ H _ I h) fun u s1 ⟨v, H1, I1, r1, q1⟩ => ?_)
  refine Calls.spliced_nil ⟨I1.kIn, ?_⟩
  show wpAny _ _ (call (.ref C) [u]) _ _ _
  refine wpAny_call (err_made hf T Bo (v := u) (.inl ⟨rfl, rfl⟩) I1.kIn I1.nolimit (by have := hr.dp; omega) fun h1 tk a d m => ?_)
  exact err_end I1 r1 m q1
theorem pe_errK {kpos : Pos} (hf : f = "given" ∨ f = "index") (T : ErrC X.K X.mg x f C fI nw bmB) (Bo : BaseOk B nw ini bmB) (hr : Room 1 X.A) (hg : Gl X x) (he : PE X e te)
    (hall : (backToKw pos (keywordEach [⟨some f, e, kpos⟩] X.env)).all (·.1.isSome) = true := by rfl) (hks : (backToKw pos (keywordEach [⟨some f, e, kpos⟩] X.env)).filterMap (·.1) = [f] := by rfl)
    (hpl : ((backTo pos (starEach [] X.env)).any (·.1) || (backToKw pos (keywordEach [⟨some f, e, kpos⟩] X.env)).any (·.1.isNone)) = false := by rfl) (hdb : (x == ("__debug__" : Str)) = false := by decide) :
    PE X (.Call (.Name x p) [] [⟨some f, e, kpos⟩] pos) (tErr C f te) := by
  refine ⟨fun pins s σ H Q I h => ?_⟩
  refine wpAny_Call_Name_kw (ld_glob I hg T.gC ?_ hdb)
  refine PySem.W.callWith_KW0 (h₀ := X.base) I.ok.mod.kin T.kC hall ?_ hpl
  have hk : PK X [⟨some f, e, kpos⟩] (tCons te tNil) := pk_cons he pk_nil
  refine thn (hk.run pos pins s σ H (fun zs H2 => match zs with
    | [v] => ∀ a d, H2 a = none → H2 d = none → d ≠ a → Q (.ref a) (upd (upd H2 d (exd d [(f, v)])) a (exo a C (some d)))
    | _ => False) I h) fun ws s2 ⟨zs, H2, I2, rz, q2⟩ => ⟨I2.kIn, ?_⟩
  rw [hks]
  cases rz with
  | nil => exact q2.elim
  | @cons v u vs us rv rr =>
    cases rr with
    | cons _ _ => exact q2.elim
    | nil =>
      show wpAny _ _ (call (.ref C) [] [(f, u)]) _ _ _
      refine wpAny_call (err_made hf T Bo (v := u) (.inr ⟨rfl, rfl⟩) I2.kIn I2.nolimit (by have := hr.dp; omega) fun h1 tk a d m => ?_)
      exact err_end I2 rv m q2
end
section
variable {X : Cx} {e : Expr} {f : Str} {pos : Pos} {te : TE}
/-- e.f, e an error -/
def tEf (K : PySem.W.Frag) (f : Str) (te : TE) : TE := fun σ H Q => te σ H fun x H1 => ∃ (a C d : Addr) (fs : List (Str × V)) (v : V), x = .ref a ∧ XfC K C ∧ PySem.W.findIn K (.ref C) f = some none ∧
  H1 a = some (exo a C (some d)) ∧ H1 d = some (exd d fs) ∧ fs.lookup f = some v ∧ Q v H1
theorem pe_ef (he : PE X e te) (hb : attributeBase e f X.env (eval e X.env) = eval e X.env := by rfl) : PE X (.Attribute e f pos) (tEf X.K f te) := by
  refine ⟨fun pins s σ H Q I h => ?_⟩
  refine attr_of hb (thn (he.run pins s σ H _ I h) fun u s1 hh => ?_)
  obtain ⟨x, H1, I1, rx, a, C, d, fs, v, ex, T, hno, ea, ed, l, q⟩ := hh
  subst ex
  obtain rfl : u = Value.ref a := rx
  obtain ⟨t1, ho⟩ := exo_at I1.hok ea
  obtain ⟨mA, hns, hr⟩ := exd_at I1.hok ed
  obtain ⟨od, hd, hl⟩ := lookIn_ns hns
  obtain ⟨u, hu, ru⟩ := RelO.some_of (v := v) (o := mA f) (by rw [← l]; exact hr f)
  have J : PySem.W.InstAt s1.heap a _ C (some od) := ⟨ho, rfl, rfl, hd⟩
  exact HandSPX.exc_get I1.kIn J T.ga T.gg T.exC (PySem.W.findObj_own T.hdC hno rfl (by rw [hl, hu])) (handed_of ru) ⟨v, H1, I1.tok _, ru, q⟩
end
/-! ### isinstance of such a value -/
end L2
namespace PySem.W
open PySem PySem.Spec PySem.Calls PyProof.Rows
section
variable {prog : Program} {w : World} {A : Around} {E : Value → Shared → Prop} {s : Shared} {K : Frag} {x D : Addr} {ox : Obj} {od : Option Obj}
theorem data_found {C : Addr} {name : Str} {a g : Value} (hc : (clsIn K C).isSome = true) (ha : findIn K (.ref C) name = some (some a)) (hg : specialIn K a "__get__" = some (some g))
    (ht : takesIn K a = some true) : findObj K C od name = some (.bind g a) := by
  obtain ⟨cd, e⟩ := Option.isSome_iff_exists.mp hc
  unfold findObj
  rw [e, Option.bind_some, ha, Option.bind_some]
  simp only [hg, ht, Option.bind_some]
theorem errv_class {Q : Option Value → Shared → Prop} (c : L2.ExcC K D) (X : K.In s.heap) (I : InstAt s.heap x ox D od) (h : Q (some (.ref D)) { s with toks := s.toks + 1 }) :
    wpAny (model prog w) A (getAttr? (.ref x) "__class__") Q E s := by
  have hf : findObj K D od "__class__" = some (.bind (.builtin "getset_descriptor.__get__") (.builtin "object.__class__")) :=
    data_found (by obtain ⟨cd, hc, _⟩ := any_some c.hd; rw [hc]; rfl) c.ha c.hn c.ht
  obtain ⟨hp, g, d, t, os⟩ := s
  have ty := I.type (M := model prog w)
  have ga := looks_findIn (M := model prog w) X c.hg
  have gt := looks_findIn (M := model prog w) X c.hk
  have fd := looks_find (M := model prog w) X I hf
  have isB : Looks (model prog w) hp (isInstance (.ref x) (.type "BaseException")) true := ty.andThen (looks_subIn X c.hs)
  have n0 : (false && onTheHeap (Value.builtin "BaseException.__getattribute__")) = false := rfl
  have n2 : (Value.builtin "BaseException.__getattribute__" == Value.builtin "object.__getattribute__") = false := by decide +kernel
  have n1 : (onTheHeap (Value.ref D) && Value.builtin "BaseException.__getattribute__" == Value.builtin "object.__getattribute__") = false := by
    rw [n2]
    rfl
  unfold getAttr? getAttrBy? getAttrBy
  refine wpAny_bind (wpAny_mkText (wpAny_bind (wpAny_attempt (wpAny_holding (wpAny_bind (ty.at (wpAny_bind (ga.at ?_))))))))
  show wpAny _ _ (if (onTheHeap (Value.ref D) && Value.builtin "BaseException.__getattribute__" == Value.builtin "object.__getattribute__") = true then _ else _) _ _ _
  rw [n1, if_neg Bool.false_ne_true]
  unfold getAttrByItsOwn hookBefore
  refine wpAny_bind ?_
  rw [if_pos (show onTheHeap (Value.ref D) = true from rfl)]
  refine gt.at ?_
  refine wpAny_bind (wpAny_attempt (wpAny_holding ?_))
  unfold callGetattribute
  rw [n0, if_neg Bool.false_ne_true]
  unfold boundAndCalled
  rw [PySem.F.excAttr_ValueError.ga.bind (.ref x)]
  refine wpAny_bind (wpAny_pure ?_)
  show wpAny _ _ (call (.builtin "BaseException.__getattribute__") [.ref x, .str "__class__" t]) _ _ _
  refine wpAny_call (codeAny_call_builtin PySem.F.excAttr_ValueError.ga.plain PySem.F.entry_bexc_ga ?_)
  refine @check_slot (model prog w) _ _ ⟨hp, g, d, t + 1, os⟩ "BaseException.__getattribute__" "BaseException" "__getattribute__" (.ref x)
    [.str "__class__" t] [] _ (by decide +kernel) (by decide +kernel) isB (PySem.F.args_bexc_ga (.ref x) (.str "__class__" t)) ?_
  unfold Builtin.«object.__getattribute__»
  refine wpAny_bind (wpAny_of_eq (a := ((Value.ref x : Value), [Value.str "__class__" t])) (by first | rfl | (simp only [slotArgs]; rfl)) ?_)
  refine wpAny_bind (wpAny_pure (wpAny_bind (ty.at (wpAny_bind (fd.at ?_)))))
  show wpAny _ _ (holding [Value.builtin "object.__class__"] (call (.builtin "getset_descriptor.__get__") [.builtin "object.__class__", .ref x, .ref D]) >>= ret) _ _ _
  refine wpAny_bind (wpAny_holding (wpAny_call (class_get (s := ⟨hp, g, d, t + 1, os⟩) (ox := ox) (od := od) X I c.hm ?_)))
  refine wpAny_pure ?_
  show wpAny _ _ (handedOut (.ref D)) _ _ _
  rw [handedOut_of (v := .ref D) rfl]
  first
    | exact wpAny_pure (wpAny_pure h)
    | exact wpAny_pure h
    | exact wpAny_pure (wpAny_bind (wpAny_pure (wpAny_pure h)))
theorem errv_kit (c : L2.ExcC K D) : KitX K (.ref x) (.ref D) (fun h => ∃ ox od, InstAt h x ox D od) where
  ty := fun _ _ _ ⟨_, _, I⟩ => I.type
  it := fun _ _ X _ => by
    obtain ⟨cd, hc, _⟩ := any_some c.hd
    unfold clsIn at hc
    split at hc
    · rename_i ho
      intro A1 Q1 E1 s1 k q
      unfold isType loadHead
      exact wpAny_bind (wpAny_loadPart (k _ _ (X _ _ ho)) (wpAny_pure q))
    · cases hc
  ne := fun h tp dd its n sl X htp => by
    obtain ⟨cd, hc, _⟩ := any_some c.hd
    refine Bool.eq_false_iff.mpr fun q => ?_
    have e : D = tp := Value.ref.inj (beq_iff_eq.mp q)
    subst e
    unfold clsIn at hc
    split at hc
    · rename_i ho
      have z := (X _ _ ho).symm.trans htp
      cases z
    · cases hc
  ca := fun X ⟨_, _, I⟩ k => errv_class c X I k
end
end PySem.W
namespace L2
open PySem PySem.Spec PyProof.Rows PySem.ErrV
/-- isinstance(e, c), e an error that is held as a value -/
def rIsErr (K : PySem.W.Frag) : List V → Hp → VK → Prop := fun xs H Q => ∃ (a C : Addr) (d : Option Addr) (c : V) (cv : Value) (b : Bool), xs = [.ref a, c] ∧ H a = some (exo a C d) ∧ (∀ z, d = some z → ∃ fs, H z = some (exd z fs)) ∧ ExcC K C ∧
  ClsV c cv ∧ PySem.W.kitOne K (.ref C) cv = some b ∧ Q (.bl b) H
theorem call_isErr {X : Cx} : CallR X (.builtin "isinstance") (rIsErr X.K) := by
  intro pins s σ H xs us Q I r h
  obtain ⟨a, C, d, c, cv, b, rfl, ea, hd, c0, hcv, e, q⟩ := h
  cases r with
  | cons rx rr =>
    cases rr with
    | cons rt rr =>
      cases rr
      cases rx
      obtain ⟨t1, ho⟩ := exo_at I.hok ea
      have J : ∃ ox od, PySem.W.InstAt s.heap a ox C od := by
        cases d with
        | none => exact ⟨_, none, ho, rfl, rfl, trivial⟩
        | some z =>
          obtain ⟨o, eo⟩ := hd z rfl
          obtain ⟨_, ⟨oz, _, _, gz, _⟩, _⟩ := exd_at I.hok eo
          exact ⟨_, some oz, ho, rfl, rfl, gz⟩
      have ec := hcv.eq rt
      subst ec
      exact PySem.W.kia_one (PySem.W.errv_kit c0) I.kIn J e (fun z => nomatch z) fun tk => ⟨.bl b, H, I.kept (t' := tk) fun _ _ z => z, rfl, q⟩
end L2
set_option Elab.async false
set_option linter.all false
set_option maxRecDepth 100000
set_option maxHeartbeats 4000000
/-! repr of data that the hand layer tracks. -/
namespace L2
open PySem PySem.Spec PyProof.Rows
mutual
/-- x is the datum d, its lists and tuples standing in H -/
def rp (H : Hp) : PyData → V → Prop
  | .none, x => x = .non
  | .bool b, x => x = .bl b
  | .int i, x => x = .int i
  | .str z, x => x = .str z
  | .list ds, x => ∃ (a : Addr) (xs : List V), x = .ref a ∧ H a = some (.lst xs) ∧ rpAll H ds xs
  | .tuple ds, x => ∃ (a : Addr) (xs : List V), x = .ref a ∧ H a = some (.tup xs) ∧ rpAll H ds xs
  | .dict _, _ => False
def rpAll (H : Hp) : List PyData → List V → Prop
  | [], xs => xs = []
  | d :: ds, xs => ∃ (y : V) (ys : List V), xs = y :: ys ∧ rp H d y ∧ rpAll H ds ys
end
section
variable {P : Program} {w : World} {H : Hp} {h : Heap}
mutual
theorem rp_reads (ok : HOk P w H h) : ∀ (d : PyData) (x : V) (u : Value), rp H d x → RelV x u → d.hasDict = false ∧ ∃ as, Reads h u d as
  | .none, x, u, e, r => by
    unfold rp at e
    subst e
    obtain rfl : u = Value.none := r
    exact ⟨rfl, _, .none⟩
  | .bool b, x, u, e, r => by
    unfold rp at e
    subst e
    obtain rfl : u = Value.bool b := r
    exact ⟨rfl, _, .bool b⟩
  | .int i, x, u, e, r => by
    unfold rp at e
    subst e
    obtain ⟨t, rfl⟩ : ∃ t, u = Value.int i t := r
    exact ⟨rfl, _, .int i t⟩
  | .str z, x, u, e, r => by
    unfold rp at e
    subst e
    obtain ⟨t, rfl⟩ : ∃ t, u = Value.str z t := r
    exact ⟨rfl, _, .str z t⟩
  | .list ds, x, u, e, r => by
    unfold rp at e
    obtain ⟨a, xs, rfl, ea, q⟩ := e
    obtain rfl : u = Value.ref a := r
    obtain ⟨_, its, n, rv, g⟩ := (show ObjOk P w H h a (.lst xs) from ok a _ ea)
    obtain ⟨nd, as, R⟩ := rpAll_reads ok ds xs its q rv
    exact ⟨by simpa only [PyData.hasDict] using nd, _, .list g rfl rfl (by simpa using R)⟩
  | .tuple ds, x, u, e, r => by
    unfold rp at e
    obtain ⟨a, xs, rfl, ea, q⟩ := e
    obtain rfl : u = Value.ref a := r
    obtain ⟨_, its, rv, o, g, c, n, dd⟩ := (show ObjOk P w H h a (.tup xs) from ok a _ ea)
    obtain ⟨nd, as, R⟩ := rpAll_reads ok ds xs its q rv
    exact ⟨by simpa only [PyData.hasDict] using nd, _, .tuple g c dd (by simpa using R)⟩
  | .dict _, x, u, e, r => by
    unfold rp at e
    exact e.elim
theorem rpAll_reads (ok : HOk P w H h) : ∀ (ds : List PyData) (xs : List V) (us : List Value), rpAll H ds xs → Vals xs us → PyData.hasDictAll ds = false ∧ ∃ as, ReadsAll h us ds as
  | [], xs, us, e, r => by
    unfold rpAll at e
    subst e
    cases r
    exact ⟨rfl, _, .nil⟩
  | d :: ds, xs, us, e, r => by
    unfold rpAll at e
    obtain ⟨y, ys, rfl, e1, e2⟩ := e
    cases r with
    | cons r1 r2 =>
      obtain ⟨n1, as, R1⟩ := rp_reads ok d y _ e1 r1
      obtain ⟨n2, bs, R2⟩ := rpAll_reads ok ds ys _ e2 r2
      exact ⟨by simp only [PyData.hasDictAll, n1, n2, Bool.or_self], _, .cons R1 R2⟩
end
/-- a key of a dict as a datum -/
def kdat0 : Key → PyData
  | .inl i => .int i
  | .inr z => .str z
/-- a dict whose values are flat -/
def rpD (H : Hp) (d : PyData) (x : V) : Prop := ∃ (a : Addr) (kvs : List (Key × V)) (ds : List (PyData × PyData)), x = .ref a ∧ H a = some (.dK kvs) ∧ d = .dict ds ∧
  Paired (fun (p : Key × V) (q : PyData × PyData) => q.1 = kdat0 p.1 ∧ rp (fun _ => none) q.2 p.2) kvs ds
theorem key_reads {k : Key} {v : Value} (e : keyIs k v = true) : Reads h v (kdat0 k) [] := by
  rcases keyIs_shape e with ⟨i, t, rfl, rfl⟩ | ⟨z, t, rfl, rfl⟩
  · exact .int i t
  · exact .str z t
theorem nothing_ok : HOk P w (fun _ => none) h := fun a o e => by cases e
/-- flat data stand nowhere -/
theorem flat_reads {d : PyData} {x : V} {u : Value} (e : rp (fun _ => none) d x) (r : RelV x u) : Reads h u d [] := by
  cases d with
  | none =>
    unfold rp at e
    subst e
    obtain rfl : u = Value.none := r
    exact .none
  | bool b =>
    unfold rp at e
    subst e
    obtain rfl : u = Value.bool b := r
    exact .bool b
  | int i =>
    unfold rp at e
    subst e
    obtain ⟨t, rfl⟩ : ∃ t, u = Value.int i t := r
    exact .int i t
  | str z =>
    unfold rp at e
    subst e
    obtain ⟨t, rfl⟩ : ∃ t, u = Value.str z t := r
    exact .str z t
  | list ds =>
    unfold rp at e
    obtain ⟨a, xs, _, q, _⟩ := e
    cases q
  | tuple ds =>
    unfold rp at e
    obtain ⟨a, xs, _, q, _⟩ := e
    cases q
  | dict ds =>
    unfold rp at e
    exact e.elim
theorem rpD_reads (ok : HOk P w H h) {d : PyData} {x : V} {u : Value} (e : rpD H d x) (r : RelV x u) : ∃ as, sysModules ∉ as ∧ Reads h u d as := by
  obtain ⟨a, kvs, ds, rfl, ea, rfl, q⟩ := e
  obtain rfl : u = Value.ref a := r
  obtain ⟨_, sys, vs, kv, o, es, ep, g, ex, dd, _, prs, _⟩ := (show ObjOk P w H h a (.dK kvs) from ok a _ ea)
  have hc : o.cls = .type "dict" := ex.1
  have both : ∀ {l : List (Key × V)} {m : List (Key × Value)} {c : List (PyData × PyData)} {el : List DictEntry}, KV l m → Pairs (mixKind P w) el m →
      Paired (fun (p : Key × V) (q : PyData × PyData) => q.1 = kdat0 p.1 ∧ rp (fun _ => none) q.2 p.2) l c →
      ReadsAll h (el.map (·.key)) (c.map (·.1)) [] ∧ ReadsAll h (el.map (·.val)) (c.map (·.2)) [] := by
    intro l
    induction l with
    | nil =>
      intro m c el k1 k2 k3
      cases k1
      cases k2
      cases k3
      exact ⟨.nil, .nil⟩
    | cons p l ih =>
      intro m c el k1 k2 k3
      cases k1 with
      | cons ka kb =>
        cases k2 with
        | cons ia ib ic =>
          cases k3 with
          | cons ja jb =>
            obtain ⟨i1, i2⟩ := ih kb ic jb
            obtain ⟨k0, kr⟩ := ka
            obtain ⟨j0, jr⟩ := ja
            rw [← k0] at ia
            refine ⟨?_, ?_⟩
            · have z := ReadsAll.cons (j0 ▸ key_reads ia) i1
              simpa using z
            · have z := ReadsAll.cons (flat_reads jr (ib ▸ kr)) i2
              simpa using z
  obtain ⟨r1, r2⟩ := both kv prs q
  refine ⟨_, ?_, .dict g hc dd r1 r2⟩
  simp only [List.append_nil, List.mem_singleton]
  intro z
  rw [z, beq_self_eq_true] at sys
  cases sys
end
section
variable {X : Cx}
/-- repr(x), x data -/
def rRepr : List V → Hp → VK → Prop := fun xs H Q => ∃ (x : V) (d : PyData), xs = [x] ∧ (rp H d x ∨ rpD H d x) ∧ d.showable = true ∧ d.depth ≤ 100 ∧ d.shown.length ≤ sizeLine ∧ Q (.str d.shown) H
theorem call_repr_data (hg : X.A.guards = some []) (hu : X.A.units + 150 < cLine) : CallR X (.builtin "repr") rRepr := by
  intro pins s σ H xs us Q I r h
  obtain ⟨x, d, rfl, hd, sh, dp, sz, q⟩ := h
  obtain ⟨u, rfl, ru⟩ : ∃ u, us = [u] ∧ RelV x u := by
    cases r with
    | cons r1 r2 =>
      cases r2
      exact ⟨_, rfl, r1⟩
  obtain ⟨as, hs, R⟩ : ∃ as, (d.hasDict = true → sysModules ∉ as) ∧ Reads s.heap u d as := by
    rcases hd with hd | hd
    · obtain ⟨nd, as, R⟩ := rp_reads I.hok d x u hd ru
      exact ⟨as, PyData.noDict_hsm nd, R⟩
    · obtain ⟨as, nm, R⟩ := rpD_reads I.hok hd ru
      exact ⟨as, fun _ => nm, R⟩
  have byRef : ∀ {a : Addr}, u = .ref a → wpAny (model X.prog X.w) X.A (call (.builtin "repr") [u]) (EP X pins σ Q) X.xe s := fun {a} e => by
    subst e
    exact repr_of_reads' R sh hs hg (by omega) (fun _ _ z => z) (fun h1 v tk k => ⟨.str d.shown, H, I.kept (t' := tk) k, ⟨_, rfl⟩, q⟩) sz
  cases R with
  | none => exact PySem.P.repr_of_none ⟨.str _, H, I.tok _, ⟨_, rfl⟩, q⟩
  | bool b => exact PySem.P.repr_of_bool ⟨.str _, H, I.tok _, ⟨_, rfl⟩, q⟩
  | int i t => exact PySem.P.repr_of_int (by simpa only [PyData.showable, decide_eq_true_eq] using sh) ⟨.str _, H, I.tok _, ⟨_, rfl⟩, q⟩
  | str z t => exact PySem.P.repr_of_str ⟨.str _, H, I.tok _, ⟨_, rfl⟩, q⟩ sz
  | list => exact byRef rfl
  | tuple => exact byRef rfl
  | dict => exact byRef rfl
end
end L2
set_option Elab.async false
set_option linter.all false
set_option maxRecDepth 100000
set_option maxHeartbeats 4000000
/-! Defs that are called where no repr is under way (so that repr of lists and dicts may be asked in them). -/
namespace L2
open PySem PySem.Spec PyProof.Rows
/-- the def at f keeps the promise sp wherever it is called with no guard standing; nothing is raised out of it -/
structure FnG (P : Program) (w : World) (K : PySem.W.Frag) (mg : Str → Option Value) (base : Heap) (k : Nat) (f : Addr) (fd : FuncData) (ps : List Str) (sp : Sp) : Prop where
  len : ∀ vs H Q E, sp vs H Q E → vs.length = ps.length
  run : ∀ (A : Around) (outer : List Env) (s : Shared) (H : Hp) (args : Args) (us : List Value) (vs : List V) (Q : VK), A.guards = some [] → Room k A →
    Env0 P w K mg base A outer s H → BindsTo s fd args (ps.zip us) → Vals vs us → sp vs H Q E0 → codeAny (model P w) A (.call (.ref f) args) (CR CX0 outer P w H s Q E0) s
section
variable {P : Program} {w : World} {K : PySem.W.Frag} {mg : Str → Option Value} {base : Heap} {k : Nat} {f : Addr} {fd : FuncData} {N ps : List Str} {sp : Sp}
theorem FnOk.toG (F : FnOk P w K mg base CX0 k f fd ps sp) : FnG P w K mg base k f fd ps sp :=
  ⟨F.len, fun A outer s H args us vs Q _ hr e0 hb r h => F.run A outer s H args us vs Q E0 hr e0 hb r h⟩
theorem Fun.okG {x qual : Str} {st : Stmt} (F : Fun K x qual st f fd) (S : FnScope N ps (defScope st)) (len : ∀ vs H Q E, sp vs H Q E → vs.length = ps.length)
    (hbody : ∀ (cdv : Value) (A : Around) (outer : List Env) (s : Shared) (H : Hp) (vs : List V) (Q : VK), A.guards = some [] → Room k (A.deeper (envOfC qual (defScope st) s.heap.objs.size f cdv)) → sp vs H Q E0 →
      ∃ t, PSs (cxOf CX0 P w K mg base N qual (defScope st) f cdv A outer s H E0).nox (defBody st) t ∧ t { nx := fun _ H1 => Q .non H1, rt := Q } (start N vs) H) :
    FnG P w K mg base (k + 1) f fd ps sp := by
  obtain ⟨oc, od, kV, doc, pm, an, cdv, ct, osl, rfl, lk, hcd⟩ := F.ex
  refine ⟨len, fun A outer s H args us vs Q hg hr e0 hb r hsp => ?_⟩
  have hl := len _ _ _ _ hsp
  have up : ∀ b o, base.get? b = some o → s.heap.get? b = some o := fun b o e => (e0.bs b o e).1
  have X1 : K.In s.heap := e0.mod.kin.keeps up
  have nl : s.heap.NoLimit := e0.mod.nolimit.keeps up
  have slots : ∀ y ∈ ps.zip us, (defScope st).names.lookup y.1 = some .local ∨
      ((defScope st).names.lookup y.1 = some .cell ∧ ((cellsFrom (s.heap.objs.size + 1) (defScope st).names []).lookup y.1).isSome = true) := fun ⟨n, v⟩ hy =>
    (S.par n (List.of_mem_zip hy).1).elim (fun q => .inl q) fun q => .inr ⟨q, PySem.W.cellsFrom_some _ _ _ (.inl q)⟩
  refine codeAny_call_function hr.depth (X1 _ _ lk) rfl S.co S.gen rfl (PySem.W.codeRec_of X1 hcd) (hb _ _ _ _ ?_)
  refine wpAny_newFunctionEnv_cells S.kind slots fun env he s1 x1 => ?_
  subst he
  refine ⟨nl.keeps x1.toInCall.keep, codeAny_func ?_⟩
  obtain ⟨t, ht, hq⟩ := hbody cdv A outer s H vs Q hg (hr.deeper _) hsp
  have J : Inv (cxOf CX0 P w K mg base N qual (defScope st) f cdv A outer s H E0) [] (start N vs) H s1 := inv_start S hr.hd e0 hl r x1
  refine wpAny_mono (ht.nox.run [] s1 (start N vs) H _ J hq) (fun fl s2 hs => ?_) fun e s2 hs => hs
  cases fl with
  | ret u =>
    obtain ⟨v, σ1, H1, I1, rv, q⟩ := hs
    exact ⟨v, H1, I1.os, I1.bare, I1.base, I1.hok, rv, q⟩
  | next =>
    obtain ⟨σ1, H1, I1, q⟩ := hs
    exact ⟨.non, H1, I1.os, I1.bare, I1.base, I1.hok, rfl, q⟩
  | brk =>
    obtain ⟨_, _, _, q⟩ := hs
    exact q.elim
  | cont =>
    obtain ⟨_, _, _, q⟩ := hs
    exact q.elim
end
section
variable {X : Cx} {k : Nat} {f : Addr} {fd : FuncData} {ps : List Str} {sp : Sp} {x : Str} {p pos : Pos} {e : Expr} {es : List Expr} {t : TA}
theorem run_g {pins : List (Addr × Obj)} {σ : St} {H : Hp} {s : Shared} {Q : VK} {us : List Value} {vs : List V} (F : FnG X.prog X.w X.K X.mg X.base k f fd ps sp) (hg : X.A.guards = some []) (hr : Room k X.A) (hb : Binds X.K fd ps [])
    (I : Inv X pins σ H s) (r : Vals vs us) (h : sp vs H Q E0) : wpAny (model X.prog X.w) X.A (call (.ref f) us) (EP X pins σ Q) X.xe s := by
  have hl : us.length = ps.length := by
    rw [← r.length]
    exact F.len _ _ _ _ h
  have b := hb s us I.kIn (by rw [List.append_nil]; exact hl)
  rw [List.append_nil] at b
  refine wpAny_call (codeAny_mono (F.run X.A X.stack s H ⟨us, []⟩ us vs Q hg hr I.env0 b r h) fun r1 s1 hq => ?_)
  cases r1 with
  | error er => exact hq.elim
  | ok fl =>
    cases fl with
    | ret u => exact I.after hq
    | next => exact False.elim hq
    | brk => exact False.elim hq
    | cont => exact False.elim hq
/-- f(e, ..) of such a def -/
theorem pe_callNG (F : FnG X.prog X.w X.K X.mg X.base k f fd ps sp) (hgd : X.A.guards = some []) (hr : Room k X.A) (hg : Gl X x) (hm : X.mg x = some (.ref f)) (hk : PySem.W.keepIn X.K (.ref f) = true) (hb : Binds X.K fd ps [])
    (ha : PA X (e :: es) t) (hdb : (x == ("__debug__" : Str)) = false := by decide) (he : starEach (e :: es) X.env = (false, eval e X.env) :: starEach es X.env := by rfl)
    (hpl : (backTo pos (starEach es X.env)).any (·.1) = false := by rfl) : PE X (.Call (.Name x p) (e :: es) [] pos) (fun σ H Q => t σ H fun vs H1 => sp vs H1 Q E0) := by
  refine ⟨fun pins s σ H Q I h => ?_⟩
  refine wpAny_Call_Name_kw (ld_glob I hg hm ?_ hdb)
  exact PySem.W.callWith_K (h₀ := X.base) I.ok.mod.kin hk (thn (ha.run pos pins s σ H _ I h) fun us s1 ⟨vs, H1, I1, r, q⟩ => ⟨I1.kIn, run_g F hgd hr hb I1 r q⟩) he hpl
end
/-! ### the law's own call -/
section
variable {P : Program} {w : World} {K : PySem.W.Frag} {mg mb : Str → Option Value} {k : Nat} {fa a : Addr} {fd : FuncData} {x : Str} {sp : Sp} {s1 : Shared} {vs : List Value} {ns : List Int}
theorem law_callG_at (KX : K.In s1.heap) (hns : s1.heap.Ns mainGlobals mg) (hb : s1.heap.Ns builtinsNs mb) (hbb : ∀ y : Str, y ≠ "__name__" → mb y = bootBuiltins y) (hlim : s1.heap.NoLimit) (hgn : s1.gens = #[])
    (ha : s1.heap.get? a = some { cls := .type "list", data := .seq vs.toArray }) (hr : Room k callerA)
    (F : ∀ base : Heap, K.In base → base.Ns mainGlobals mg → FnG P w K mg base k fa fd [x] sp) (hbind : ∀ (s : Shared) (u : Value), BindsTo s fd ⟨[u], []⟩ [(x, u)])
    (H : Hp) (hO : Only H) (hsp : sp [.ref a] H (fun v _ => v = .bl true) E0) (hok : HOk P w H s1.heap) (hA : ∀ b, H b ≠ none → b = a) (hK : H a ≠ none → K.lookup a = none) :
    codeAny (model P w) callerA (.call (.ref fa) ⟨[.ref a], []⟩) (fun r s2 => r = .ok (.ret (.bool true)) ∧ OldK s1.heap s2.heap ∧ s2.os = s1.os ∧ AllBare s2.gens) s1 := by
  have stay : ∀ {b : Addr} {o : Obj}, s1.heap.get? b = some o → H b = none → (hidT s1.heap H).get? b = some o := fun e n => hidT_get e n
  have dictFree : ∀ {b : Addr} {o : Obj} {es : Array DictEntry} {ep : Nat}, s1.heap.get? b = some o → o.data = .dict es ep → H b = none := fun {b o es ep} e d => by
    cases q : H b with
    | none => rfl
    | some u =>
      obtain rfl : b = a := hA b (by rw [q]; simp)
      rw [ha] at e
      cases e
      exact absurd (show Data.seq vs.toArray _ = Data.dict es ep from d) (fun z => by cases z)
  have names : ∀ {b : Addr} {m : Str → Option Value}, s1.heap.Ns b m → (hidT s1.heap H).Ns b m := fun {b m} ⟨o, es, ep, e, d, r⟩ => ⟨o, es, ep, stay e (dictFree e d), d, r⟩
  have KB : K.In (hidT s1.heap H) := fun b o e => stay (KX b o e) (by
    cases q : H b with
    | none => rfl
    | some u =>
      obtain rfl : b = a := hA b (by rw [q]; simp)
      rw [hK (by rw [q]; simp)] at e
      cases e)
  have md : Mod K mg (hidT s1.heap H) := ⟨KB, names hns, ⟨mb, names hb, hbb⟩, let ⟨mc, h1, h2⟩ := hlim; ⟨mc, names h1, h2⟩⟩
  have start0 : Env0 P w K mg (hidT s1.heap H) callerA [] s1 H :=
    ⟨rfl, md, fun b o e => of_hidT e, Nat.le_of_eq (hidT_size _ _), trivial, fun b hb => absurd (show b ∈ ([] : List Addr) from hb) (by simp), hok, .of_eq hgn⟩
  refine codeAny_mono ((F _ KB (names hns)).run callerA [] s1 H ⟨[.ref a], []⟩ [.ref a] [.ref a] _ rfl hr start0 (hbind s1 (.ref a)) (.cons rfl .nil) hsp) fun r s2 h => ?_
  cases r with
  | error e => exact False.elim h
  | ok fl =>
    cases fl with
    | next => exact False.elim h
    | brk => exact False.elim h
    | cont => exact False.elim h
    | ret u =>
      obtain ⟨v, H2, os, bare, un, ok2, rv, q⟩ := h
      obtain rfl : v = .bl true := q
      obtain rfl : u = Value.bool true := rv
      refine ⟨rfl, OldK.of_keep fun b o e => ?_, os, bare⟩
      have nox : b ∉ ([] : List Addr) := by simp
      cases q : H b with
      | none => exact un.keep b o e q (fun z => absurd (show b ∈ ([] : List Addr) from z) nox) nox
      | some u =>
        rcases hO b with z | ⟨ob, xs, z⟩
        · rw [q] at z
          cases z
        · obtain ⟨e1, _⟩ := hok b _ z
          obtain ⟨e2, _⟩ := ok2 b _ (un.frzs b ob _ z)
          rw [e] at e1
          cases e1
          exact e2
theorem law_callG (KX : K.In s1.heap) (hns : s1.heap.Ns mainGlobals mg) (hb : s1.heap.Ns builtinsNs mb) (hbb : ∀ y : Str, y ≠ "__name__" → mb y = bootBuiltins y) (hlim : s1.heap.NoLimit) (hgn : s1.gens = #[])
    (ha : s1.heap.get? a = some { cls := .type "list", data := .seq vs.toArray }) (hi : IntsAre vs ns) (hl : ns.length ≤ sizeLine) (hr : Room k callerA)
    (F : ∀ base : Heap, K.In base → base.Ns mainGlobals mg → FnG P w K mg base k fa fd [x] sp) (hbind : ∀ (s : Shared) (u : Value), BindsTo s fd ⟨[u], []⟩ [(x, u)])
    (hsp : ∀ H : Hp, Only H → SqL K H a (ns.map V.int) → sp [.ref a] H (fun v _ => v = .bl true) E0) :
    codeAny (model P w) callerA (.call (.ref fa) ⟨[.ref a], []⟩) (fun r s2 => r = .ok (.ret (.bool true)) ∧ OldK s1.heap s2.heap ∧ s2.os = s1.os ∧ AllBare s2.gens) s1 := by
  have rv := vals_ints hi
  have lenV := hi.length
  cases hk : K.lookup a with
  | some o =>
    have e := KX a o hk
    rw [ha] at e
    cases e
    have only : Only (fun _ => none) := fun _ => .inl rfl
    have told : SqL K (fun _ => none) a (ns.map V.int) :=
      .inr ⟨_, vs.toArray, _, hk, rfl, rfl, rfl, by rw [List.size_toArray, lenV]; exact hl, by simpa using rv⟩
    exact law_callG_at KX hns hb hbb hlim hgn ha hr F hbind (fun _ => none) only (hsp _ only told) (fun b u z => by cases z) (fun b z => absurd rfl z) fun z => absurd rfl z
  | none =>
    let H : Hp := fun b => if b = a then some (.frz { cls := .type "list", data := .seq vs.toArray } (.lst (ns.map V.int))) else none
    have at_a : H a = some (.frz { cls := .type "list", data := .seq vs.toArray } (.lst (ns.map V.int))) := if_pos rfl
    have off : ∀ {b : Addr}, b ≠ a → H b = none := fun hb => if_neg hb
    have only : Only H := fun b => by
      by_cases hb : b = a
      · exact .inr ⟨_, _, if_pos hb⟩
      · exact .inl (off hb)
    refine law_callG_at KX hns hb hbb hlim hgn ha hr F hbind H only (hsp H only (.inl (.inr ⟨_, at_a⟩))) (fun b u z => ?_) (fun b z => ?_) fun _ => hk
    · by_cases hb : b = a
      · subst hb
        rw [at_a] at z
        cases z
        exact ⟨ha, by rw [List.length_map]; exact hl, vs, _, rv, ha⟩
      · rw [off hb] at z
        cases z
    · by_cases hb : b = a
      · exact hb
      · exact absurd (off hb) z
end
theorem walk_ofG {l : PySem.W.OpenLaw} {n k : Nat} {q : Program} {loose : List Str} {XP : (Str → Option Value) → Heap → Prop} {YP : World → Heap → Prop} {d : DefRec} {K : Params → PySem.W.Frag} {sp : PySem.W.Frag → Sp} {x : Str}
    (hn : l.most = some n) (hn2 : n ≤ sizeLine) (hdf : d.params.defaults = []) (hr : Room k callerA) (hY : ∀ (w : World) (h : Heap), YP w h → (K w.params).In h)
    (F : ∀ (w : World) (mg : Str → Option Value) (fa : Addr) (h : Heap), (K w.params).In h → h.Ns mainGlobals mg → mg d.name = some (.ref fa) →
      ∃ fd : FuncData, (∀ (s : Shared) (u : Value), BindsTo s fd ⟨[u], []⟩ [(x, u)]) ∧
        ∀ base : Heap, (K w.params).In base → base.Ns mainGlobals mg → FnG l.prog w (K w.params) mg base k fa fd [x] (sp (K w.params)))
    (hsp : ∀ (K : PySem.W.Frag) (H : Hp) (a : Addr) (ns : List Int), ns.length ≤ n → Only H → SqL K H a (ns.map V.int) → sp K [.ref a] H (fun v _ => v = .bl true) E0) :
    PySem.W.WalkO q loose XP YP l.row.toRowW d [] (fun f vs => PySem.call f vs) := by
  refine Att.attach_call hn hdf fun w s₀ s₁ mg mb fa o pm cd doc a vs ns G Y ho hd hcd hmg hobj hints hlen hgn => ?_
  have KX := hY w _ Y
  obtain ⟨fd, hb, hF⟩ := F w mg fa _ KX G.T.g hmg
  exact law_callG KX G.T.g G.T.b G.T.builtins G.T.nolimit hgn hobj hints (Nat.le_trans hlen hn2) hr hF hb fun H hO hS => hsp (K w.params) H a ns hlen hO hS
end L2
set_option Elab.async false
set_option linter.all false
set_option maxRecDepth 100000
set_option maxHeartbeats 4000000
namespace L2
open PySem PySem.Spec PyProof.Rows PySem.ErrV
section
variable {X : Cx} {C fI : Addr} {x : Str} {B nw ini : String} {bmB : List Value} {p pos : Pos}
/-- C(), no __init__ of its own -/
theorem pe_bare (F : ExcBaseFacts B nw ini bmB) (q : PySem.W.excIn X.K C bmB nw = true) (gC : X.mg x = some (.ref C)) (kC : PySem.W.keepIn X.K (.ref C) = true) (hg : Gl X x) (hdb : (x == ("__debug__" : Str)) = false := by decide) :
    PE X (.Call (.Name x p) [] [] pos) (fun σ H Q => ∀ a, H a = none → Q (.ref a) (upd H a (exo a C none))) := by
  refine ⟨fun pins s σ H Q I h => ?_⟩
  refine wpAny_Call_Name_kw (ld_glob I hg gC ?_ hdb)
  refine PySem.W.callWith_K0 I.kIn kC ?_
  show wpAny _ _ (call (.ref C) []) _ _ _
  obtain ⟨bm, N, nm, qn, bs, hdct, sn, sub, ab, col, dd, k0, k1, k2, k3, k5, mN, hC, hN, hni, T⟩ := exc_obj I.kIn q
  refine wpAny_call_exc_subT F T hC hN hni (fun h1 a hm => ?_) (by show 0 ≤ sizeLine; exact Nat.zero_le _)
  have hn : H a = none := I.hok.gone hm.new
  obtain ⟨t, ht, _, _⟩ := hm.there
  exact ⟨.ref a, upd H a (exo a C none), I.laidN hm.keeps hm.new hn (exo_ok ht), rfl, h a hn⟩
/-- C(), __init__ does nothing -/
theorem pe_pass0 (T : PassC X.K X.mg x C fI nw bmB) (Bo : BaseOk B nw ini bmB) (hr : Room 1 X.A) (hg : Gl X x) (hdb : (x == ("__debug__" : Str)) = false := by decide) :
    PE X (.Call (.Name x p) [] [] pos) (fun σ H Q => ∀ a, H a = none → Q (.ref a) (upd H a (exo a C none))) := by
  refine ⟨fun pins s σ H Q I h => ?_⟩
  refine wpAny_Call_Name_kw (ld_glob I hg T.gC ?_ hdb)
  refine PySem.W.callWith_K0 I.kIn T.kC ?_
  show wpAny _ _ (call (.ref C) []) _ _ _
  refine wpAny_call (pass_made T Bo I.kIn I.nolimit (by have := hr.dp; omega) fun h1 tk a u k big ho => ?_)
  exact ⟨.ref a, upd H a (exo a C none), I.laid (t' := tk) k big (exo_ok ho), rfl, h a (I.hok.fresh big)⟩
end
/-- ways joined: what is wanted of an expression, said in between -/
def tJoin0 (te : TE) : TE := fun σ H Q => ∃ R : VK, te σ H R ∧ ∀ v H1, R v H1 → Q v H1
theorem pe_join0 {X : Cx} {e : Expr} {te : TE} (he : PE X e te) : PE X e (tJoin0 te) := ⟨fun pins s σ H Q I h => by
  obtain ⟨R, h1, h2⟩ := h
  exact thn (he.run pins s σ H R I h1) fun u s1 ⟨v, H1, I1, r, q⟩ => ⟨v, H1, I1, r, h2 v H1 q⟩⟩
end L2
set_option Elab.async false
set_option linter.all false
set_option maxRecDepth 100000
set_option maxHeartbeats 8000000
/-! Lambdas as values: with parameters, with captured names; made anywhere, handed on, called in the def that got them. -/
namespace LamV
open PySem PySem.Spec PyProof.Rows L2
open LamX (CodeO ExtN TabB)
open NdefX (NF NTab TabN TabsN CellsAt NScope startF ncx envF)
/-- there stands a lambda with the words of F and this body -/
def Stands (f : Addr) (F : NF) (body : Expr) (h : Heap) : Prop :=
  ∃ (d : Option Addr) (z : Array (Option Value)) (m t : Value), h.get? f = some ⟨.type "function", d, .func (PySem.W.kla_fn F.name F.qual F.params body F.scope F.cl m (.ref F.c) t), z⟩
def LnO (f : Addr) (F : NF) (body : Expr) : HO := .ext (Stands f F body)
theorem stands {P : Program} {w : World} {H : Hp} {h : Heap} {f : Addr} {F : NF} {body : Expr} (k : HOk P w H h) (e : H f = some (LnO f F body)) : Stands f F body h := (k f _ e).1
theorem LnO.tbl {f : Addr} {F : NF} {body : Expr} {ps : Array Value} : LnO f F body ≠ .tbl ps := fun z => nomatch (show HO.ext _ = HO.tbl _ from z)
theorem CodeO.tbl {c : Addr} {q : Str} {ps : Array Value} : CodeO c q ≠ .tbl ps := fun z => nomatch (show HO.ext _ = HO.tbl _ from z)
theorem Gone.upd {H : Hp} {a b : Addr} {o : HO} (e : L2.upd H a o b = none) : H b = none := by
  by_cases z : b = a
  · rw [z, upd_same] at e
    cases e
  · rwa [upd_ne z] at e
/-- the table of a def tells one code object more -/
theorem tabs_more {T : List NTab} {H H1 : Hp} {P c1 : Addr} {nm : Nat → Nat → Str} {ps : Array Value} {pos : Pos} (hT : TabsN T H) (me : H P = some (.tbl ps)) (ok : TriplesOk ps.toList) (only : ∀ r ∈ T, r.1 = P → r.2 = nm) (new : H c1 = none)
    (e1 : H1 = L2.upd (L2.upd H P (.tbl (ps ++ #[rawInt pos.line, rawInt pos.col, .ref c1]))) c1 (CodeO c1 (nm pos.line pos.col))) : TabsN T H1 ∧ ExtN H H1 := by
  have ext : ExtN H H1 := by
    intro b o eb nb
    have x1 : b ≠ c1 := ne_of_none eb new
    have x2 : b ≠ P := by
      rintro rfl
      exact nb ps (Option.some.inj (eb.symm.trans me))
    rw [e1, upd_ne x1, upd_ne x2, eb]
  have atC : H1 c1 = some (CodeO c1 (nm pos.line pos.col)) := by rw [e1, upd_same]
  refine ⟨fun r hr => ?_, ext⟩
  obtain ⟨qs, a1, a2, a3⟩ := hT r hr
  have old : ∀ {p2 : Pos} {v : Value}, codeAmong p2 qs.toList = some v → ∃ c, v = .ref c ∧ H1 c = some (CodeO c (r.2 p2.line p2.col)) := fun {p2 v} hv => by
    obtain ⟨c, ev, ec⟩ := a3 p2 v hv
    exact ⟨c, ev, ext c _ ec fun _ => CodeO.tbl⟩
  by_cases z : r.1 = P
  · have ep : qs = ps := by
      rw [z, me] at a1
      exact (HO.tbl.inj (Option.some.inj a1)).symm
    have lt : (ps ++ #[rawInt pos.line, rawInt pos.col, .ref c1]).toList = ps.toList ++ [rawInt pos.line, rawInt pos.col, .ref c1] := by simp
    refine ⟨ps ++ #[rawInt pos.line, rawInt pos.col, .ref c1], ?_, ?_, fun p2 v hv => ?_⟩
    · rw [e1, z, upd_ne (ne_of_none me new), upd_same]
    · rw [lt]
      exact TriplesOk_snoc _ _ _ _ ok
    · rw [lt] at hv
      rcases NdefX.among_app2 _ ok hv with w1 | ⟨w1, w2, w3⟩
      · rw [← ep] at w1
        exact old w1
      · refine ⟨c1, w1, ?_⟩
        rw [only r hr z, ← w2, ← w3]
        exact atC
  · have nC : r.1 ≠ c1 := ne_of_none a1 new
    refine ⟨qs, ?_, a2, fun p2 v hv => old hv⟩
    rw [e1, upd_ne nC, upd_ne z, a1]
/-- the words of a lambda of X's def -/
def lamF (X : Cx) (params : Arguments) (scope : Scope) (c1 : Addr) : NF where
  name := "<lambda>"
  qual := X.env.qual ++ "<lambda>"
  params := params
  body := []
  scope := scope
  cl := cloFrom X.env.cells scope.names []
  c := c1
/-- a lambda was made: the new function at f, its code object at c1 -/
structure Born (X : Cx) (pins : List (Addr × Obj)) (σ : L2.St) (T : List NTab) (H : Hp) (F : NF) (body : Expr) (f : Addr) (H1 : Hp) (s1 : Shared) : Prop where
  inv : Inv X pins σ H1 s1
  ext : ExtN H H1
  gone : ∀ b, H1 b = none → H b = none
  tabs : TabsN T H1
  was : H f = none
  fn : H1 f = some (LnO f F body)
  code : H1 F.c = some (CodeO F.c F.qual)
section
variable {X : Cx} {pins : List (Addr × Obj)} {σ : L2.St} {H H1 : Hp} {s s1 : Shared} {T : List NTab}
/-- the push of the function object, behind the code object's making -/
theorem Born.push {F : NF} {body : Expr} {m t : Value} {k : Nat} (I : Inv X pins σ H1 s1) (x : ExtN H H1) (g : ∀ b, H1 b = none → H b = none) (hT : TabsN T H1) (hc : H1 F.c = some (CodeO F.c F.qual)) :
    Born X pins σ T H F body s1.heap.objs.size (L2.upd H1 s1.heap.objs.size (LnO s1.heap.objs.size F body))
      { s1 with heap := s1.heap.push (PySem.W.kla_obj F.name F.qual F.params body F.scope F.cl m F.c t), toks := k } := by
  have free : H1 s1.heap.objs.size = none := I.hok.fresh (Nat.le_refl _)
  have up : ∀ b o, H1 b = some o → L2.upd H1 s1.heap.objs.size (LnO s1.heap.objs.size F body) b = some o := fun b o e => by
    rw [upd_ne (ne_of_none e free), e]
  have here : Stands s1.heap.objs.size F body (s1.heap.push (PySem.W.kla_obj F.name F.qual F.params body F.scope F.cl m F.c t)) := ⟨_, _, m, t, Heap.get?_push_size _ rfl⟩
  refine ⟨I.laid (fun b u e => Heap.get?_push_of_some _ e) (Nat.le_refl _) ⟨here, ?_, ?_⟩, fun b o e n => up b o (x b o e n), fun b e => g b (Gone.upd e), hT.ext up, g _ free, upd_same, up _ _ hc⟩
  · obtain ⟨_, _, _, _, e⟩ := here
    exact ⟨_, e⟩
  · rintro g1 g2 ⟨d, z, m1, t1, e⟩ keep
    exact ⟨d, z, m1, t1, keep _ e⟩
theorem lam_born {nm : Nat → Nat → Str} {c P : Addr} {params : Arguments} {body : Expr} {scope : Scope} {pos : Pos} {E : Value → Shared → Prop} {Q : Value → Shared → Prop} (I : Inv X pins σ H s) (B : TabB X.base X.mg c P) (ec : X.env.code = .ref c)
    (inT : (P, nm) ∈ T) (name : nm pos.line pos.col = X.env.qual ++ "<lambda>") (only : ∀ r ∈ T, r.1 = P → r.2 = nm) (hT : TabsN T H) (nodef : defaultsOf params X.env = ([], [])) (caps : ∀ y ∈ scope.names, y.2 = .free → ∃ c, X.env.cells.lookup y.1 = some c)
    (k : ∀ (f c1 : Addr) (H1 : Hp) (s1 : Shared), Born X pins σ T H (lamF X params scope c1) body f H1 s1 → Q (.ref f) s1) :
    wpAny (model X.prog X.w) X.A (eval (.Lambda params body scope pos) X.env) Q E s := by
  have tn : TabN H P nm := hT _ inT
  obtain ⟨ps, tb, ok, told⟩ := tn
  have real := I.hok P _ tb
  have mods := I.mod.glob.keeps I.bk
  have bl := B.bm.keeps I.bk
  have hd := B.code.keeps I.bk
  apply PySem.W.kla_eval nodef
  match hc : codeAmong pos ps.toList with
  | some v =>
    obtain ⟨c1, rfl, e1⟩ := told pos v hc
    rw [name] at e1
    exact PySem.W.kla_makeFunctionHit (closure_ok caps) I.ok.glob mods ec hd real ok hc bl fun t h1 k1 up _ =>
      k _ c1 _ _ (Born.push (F := lamF X params scope c1) (I.kept (t' := k1) up) (ExtN.refl H) (fun _ e => e) hT e1)
  | none =>
    refine PySem.W.kla_makeFunction (closure_ok caps) I.ok.glob mods ec hd real ok hc B.gP bl fun c1 t h1 k1 up lo hi rec tab => ?_
    obtain ⟨_, o, vs, n, ce, q1, q2, q3⟩ := rec
    cases ce
    have new : H c1 = none := I.hok.fresh lo
    have J := LamX.inv_table (t' := k1) I tb (fun b o nb e => up b o nb e) tab lo ⟨o, vs, n, q1, q2, q3⟩
    obtain ⟨t1, x1⟩ := tabs_more (pos := pos) hT tb ok only new rfl
    rw [name] at t1 x1
    exact k _ c1 _ _ (Born.push (F := lamF X params scope c1) J x1 (fun b e => Gone.upd (Gone.upd e)) t1 upd_same)
end
/-- a lambda's reading -/
def tLamE (T : List NTab) (mk : Addr → NF) (body : Expr) : TE := fun _ H Q => TabsN T H ∧ ∀ (f c1 : Addr) (H1 : Hp), ExtN H H1 → (∀ b, H1 b = none → H b = none) → TabsN T H1 → H f = none → H1 f = some (LnO f (mk c1) body) →
  H1 (mk c1).c = some (CodeO (mk c1).c (mk c1).qual) → Q (.ref f) H1
theorem pe_lam {X : Cx} {T : List NTab} {nm : Nat → Nat → Str} {c P : Addr} {params : Arguments} {body : Expr} {scope : Scope} {pos : Pos} (B : TabB X.base X.mg c P) (ec : X.env.code = .ref c) (inT : (P, nm) ∈ T) (name : nm pos.line pos.col = X.env.qual ++ "<lambda>")
    (only : ∀ r ∈ T, r.1 = P → r.2 = nm) (nodef : defaultsOf params X.env = ([], [])) (caps : ∀ y ∈ scope.names, y.2 = .free → X.env.scope.names.lookup y.1 = some .cell ∨ X.env.scope.names.lookup y.1 = some .free) :
    PE X (.Lambda params body scope pos) (tLamE T (lamF X params scope) body) where
  run _ _ _ _ _ I h := lam_born I B ec inT name only h.1 nodef (fun y hy e => I.ok.has _ (caps y hy e)) fun f c1 H1 _ b => ⟨.ref f, H1, b.inv, rfl, h.2 f c1 H1 b.ext b.gone b.tabs b.was b.fn b.code⟩
/-! ### its promise -/
/-- the lambda stands at f, its captured names hold ws -/
structure Ready (f : Addr) (F : NF) (body : Expr) (fr : List Str) (ws : List (Option V)) (h : Heap) (H : Hp) : Prop where
  fn : H f = some (LnO f F body)
  code : H F.c = some (CodeO F.c F.qual)
  cells : CellsAt F.cl fr ws h H
structure LOk (P : Program) (w : World) (K : PySem.W.Frag) (mg : Str → Option Value) (base : Heap) (CX : CXT) (k : Nat) (f : Addr) (F : NF) (body : Expr) (n : Nat) (fr : List Str) (sp : List (Option V) → Sp) : Prop where
  many : ∀ {ws vs H Q E}, sp ws vs H Q E → vs.length = n
  call : ∀ {A : Around} {outer : List Env} {s : Shared} {H : Hp} {us : List Value} {vs : List V} {ws : List (Option V)} {Q : VK} {E : XK}, Room k A → Env0 P w K mg base A outer s H → Ready f F body fr ws s.heap H → Vals vs us →
    sp ws vs H Q E → codeAny (model P w) A (.call (.ref f) ⟨us, []⟩) (CR CX outer P w H s Q E) s
section
variable {CX : CXT} {P : Program} {w : World} {K : PySem.W.Frag} {mg : Str → Option Value} {base : Heap} {N ps fr : List Str} {F : NF} {body : Expr} {f : Addr} {j k : Nat} {sp : List (Option V) → Sp}
theorem LOk.less {n : Nat} (o : LOk P w K mg base CX j f F body n fr sp) (h : j ≤ k) : LOk P w K mg base CX k f F body n fr sp := ⟨o.many, fun r => o.call (r.mono h)⟩
/-- by its body -/
theorem LOk.by_body (S : NScope N ps fr F.scope) (bind : ∀ (m t : Value) (us : List Value), us.length = ps.length → bindArgs (PySem.W.kla_fn F.name F.qual F.params body F.scope F.cl m (.ref F.c) t) ⟨us, []⟩ = pure (ps.zip us))
    (many : ∀ {ws vs H Q E}, sp ws vs H Q E → vs.length = ps.length)
    (hbody : ∀ (A : Around) (outer : List Env) (s : Shared) (H : Hp) (vs : List V) (ws : List (Option V)) (Q : VK) (E : XK), Room k (A.deeper (envF F f s.heap.objs.size)) → Ready f F body fr ws s.heap H → sp ws vs H Q E →
      ∃ t, PE (ncx CX P w K mg base N F f A outer s H E) body t ∧ t (startF N vs ws) H Q) :
    LOk P w K mg base CX (k + 1) f F body ps.length fr sp where
  many := many
  call := by
    intro A outer s H us vs ws Q E room e0 L r h
    have lv := many h
    have lu : us.length = ps.length := r.length ▸ lv
    obtain ⟨d, z, m, t, real⟩ := stands e0.hok L.fn
    obtain ⟨tb, hp, hq⟩ := hbody A outer s H vs ws Q E (room.deeper _) L h
    apply PySem.W.kla_callFunE room.depth real rfl S.co S.gen rfl (NdefX.codeO_at e0.hok L.code)
    rw [bind m t us lu]
    refine wpAny_pure (wpAny_newFunctionEnv S.nocell (fun y hy => S.par _ (List.of_mem_zip hy).1) (fun h1 ns same => ?_) S.kind)
    have kept : ∀ b o, s.heap.get? b = some o → h1.get? b = some o := fun b o e => same.extBut b o (Nat.ne_of_lt (Heap.lt_size e)) (Heap.get?_push_of_some _ e)
    refine ⟨(e0.mod.nolimit.keeps fun b o e => (e0.bs b o e).1).fresh _ same, ?_⟩
    have I := NdefX.inv_startN (CX := CX) (f := f) (E := E) (tk := s.toks + (ps.zip us).length) S room.hd e0 lv r L.cells ns kept
    exact PySem.W.kla_codeExpr (wpAny_mono (hp.run _ _ _ _ _ I hq) (fun u s1 ⟨v, H1, J, rv, q⟩ => ⟨v, H1, J.os, J.bare, J.base, J.hok, rv, q⟩) fun _ _ x => x)
end
/-! ### its call, in the def that got it -/
section
variable {Y : Cx} {pins : List (Addr × Obj)} {σ : L2.St} {H : Hp} {s : Shared} {f : Addr} {F : NF} {body : Expr} {fr : List Str} {ws : List (Option V)}
/-- captured cells are no objects of the frames between -/
theorem cells_stay {cl : List (Str × Addr)} (C : CellsAt cl fr ws Y.s_0.heap Y.H_0) (ex : Y.ex = []) (I : Inv Y pins σ H s) : CellsAt cl fr ws s.heap H := by
  have out : ∀ b : Addr, b ∉ Y.ex := fun b => by
    rw [ex]
    exact List.not_mem_nil
  have same : ∀ {y c v}, cl.lookup y = some c → Y.s_0.heap.IsCell c v → s.heap.IsCell c v := by
    rintro y c v e ⟨o, ho, hv⟩
    obtain ⟨_, q⟩ := I.base.any ho (C.all y c e).1 (out c)
    exact ⟨_, q, hv⟩
  constructor
  · exact C.len
  · intro y c e
    obtain ⟨free, v, o, ho, hv⟩ := C.all y c e
    exact ⟨I.base.free c o ho free (out c), v, same e ⟨o, ho, hv⟩⟩
  · exact C.inj
  · intro i y e
    obtain ⟨c, ec, hold⟩ := C.has i y e
    refine ⟨c, ec, fun v ev => ?_⟩
    obtain ⟨u, ru, cu⟩ := hold v ev
    exact ⟨u, ru, same ec cu⟩
/-- the reading: slot i holds the lambda; sp its promise with what it captured -/
def tCallL (f : Addr) (F : NF) (body : Expr) (i : Nat) (ws : List (Option V)) (sp : List (Option V) → Sp) (E : XK) (t : TA) : TE := fun σ H Q =>
  (σ[i]? = some (some (.ref f)) ∧ H f = some (LnO f F body)) ∧ t σ H fun vs H1 => (H1 f = some (LnO f F body) ∧ H1 F.c = some (CodeO F.c F.qual)) ∧ sp ws vs H1 Q E
variable {CX : CXT} {n i j k : Nat} {x : Str} {sp : List (Option V) → Sp} {E : XK} {t : TA} {e : Expr} {es : List Expr} {p pos : Pos}
theorem LOk.runs {us : List Value} {vs : List V} {Q : VK} (G : LOk Y.prog Y.w Y.K Y.mg Y.base CX k f F body n fr sp) (room : Room j Y.A) (le : k ≤ j) (out : Passes CX Y E) (I : Inv Y pins σ H s) (L : Ready f F body fr ws s.heap H) (r : Vals vs us) (h : sp ws vs H Q E) :
    wpAny (model Y.prog Y.w) Y.A (PySem.call (.ref f) us) (EP Y pins σ Q) Y.xe s := by
  refine wpAny_call (codeAny_mono (G.call (room.mono le) I.env0 L r h) ?_)
  rintro (u | fl) s1 hq
  · exact out _ _ _ _ _ _ I hq
  · cases fl with
    | ret u => exact I.after hq
    | _ => exact (hq : False).elim
theorem fnAt (I : Inv Y pins σ H s) (h : H f = some (LnO f F body)) : PySem.W.FnAt f s.heap := by
  obtain ⟨d, z, m, q, real⟩ := stands I.hok h
  exact ⟨_, d, _, z, real⟩
theorem pe_lact (G : LOk Y.prog Y.w Y.K Y.mg Y.base CX k f F body n fr sp) (C : CellsAt F.cl fr ws Y.s_0.heap Y.H_0) (ex : Y.ex = []) (room : Room j Y.A) (le : k ≤ j) (out : Passes CX Y E) (slot : Y.N[i]? = some x) (vis : Vis Y.env.scope x) (args : PA Y (e :: es) t)
    (d1 : (x == ("__debug__" : Str)) = false := by decide) (d2 : (x == ("__classdict__" : Str)) = false := by decide)
    (p1 : starEach (e :: es) Y.env = (false, eval e Y.env) :: starEach es Y.env := by rfl) (p2 : (backTo pos (starEach es Y.env)).any (·.1) = false := by rfl) :
    PE Y (.Call (.Name x p) (e :: es) [] pos) (tCallL f F body i ws sp E t) := by
  constructor
  rintro pins s σ H Q I ⟨⟨hs, hf⟩, ht⟩
  apply wpAny_Call_Name_kw
  refine thn ((pe_var slot vis d1 d2).run pins s σ H (fun v H1 => v = .ref f ∧ H1 = H) I ⟨_, hs, rfl, rfl⟩) ?_
  rintro u s1 ⟨_, _, I1, ru, rfl, rfl⟩
  cases (show u = Value.ref f from ru)
  refine PySem.W.callWith_F (first := []) (fnAt I1 hf) (thn (args.run pos pins s1 σ _ _ I1 ht) ?_) p1 p2
  rintro us s2 ⟨vs, H2, I2, r, ⟨h1, h2⟩, q⟩
  exact ⟨fnAt I2 h1, G.runs room le out I2 ⟨h1, h2, cells_stay C ex I2⟩ r q⟩
theorem pe_lact0 (G : LOk Y.prog Y.w Y.K Y.mg Y.base CX k f F body n fr sp) (C : CellsAt F.cl fr ws Y.s_0.heap Y.H_0) (ex : Y.ex = []) (room : Room j Y.A) (le : k ≤ j) (out : Passes CX Y E) (slot : Y.N[i]? = some x) (vis : Vis Y.env.scope x)
    (d1 : (x == ("__debug__" : Str)) = false := by decide) (d2 : (x == ("__classdict__" : Str)) = false := by decide) :
    PE Y (.Call (.Name x p) [] [] pos) (tCallL f F body i ws sp E tNil) := by
  constructor
  rintro pins s σ H Q I ⟨⟨hs, hf⟩, ⟨h1, h2⟩, q⟩
  apply wpAny_Call_Name_kw
  refine thn ((pe_var slot vis d1 d2).run pins s σ H (fun v H1 => v = .ref f ∧ H1 = H) I ⟨_, hs, rfl, rfl⟩) ?_
  rintro u s1 ⟨_, _, I1, ru, rfl, rfl⟩
  cases (show u = Value.ref f from ru)
  exact PySem.W.callWith_F0 (first := []) (fnAt I1 hf) (G.runs room le out I1 ⟨h1, h2, cells_stay C ex I1⟩ .nil q)
end
/-! ### a def called, its body walked at the very state -/
section
variable {X : Cx} {x qual : Str} {st : Stmt} {f : Addr} {fd : FuncData} {N ps : List Str} {k : Nat} {e : Expr} {es : List Expr} {t : TA} {p pos : Pos}
/-- what the callee's body has to show when it is entered from X at s -/
abbrev Walks (X : Cx) (qual : Str) (st : Stmt) (f : Addr) (N : List Str) (cdv : Value) (s : Shared) (H : Hp) (vs : List V) (Q : VK) : Prop :=
  ∃ t, PSs (cxOf CX0 X.prog X.w X.K X.mg X.base N qual (defScope st) f cdv X.A X.stack s H E0).nox (defBody st) t ∧ t { nx := fun _ H1 => Q .non H1, rt := Q } (start N vs) H
theorem pe_in {TT : L2.St → List V → Hp → VK → Prop} (D : Fun X.K x qual st f fd) (S : FnScope N ps (defScope st)) (room : Room (k + 1) X.A) (gl : Gl X x) (is : X.mg x = some (.ref f)) (kp : PySem.W.keepIn X.K (.ref f) = true) (bd : Binds X.K fd ps [])
    (many : ∀ {σ vs H Q}, TT σ vs H Q → vs.length = ps.length)
    (go : ∀ (cdv : Value) (pins : List (Addr × Obj)) (σ : L2.St) (H : Hp) (s : Shared) (vs : List V) (Q : VK), Inv X pins σ H s → Room k (X.A.deeper (envOfC qual (defScope st) s.heap.objs.size f cdv)) → TT σ vs H Q → Walks X qual st f N cdv s H vs Q)
    (args : PA X (e :: es) t) (d1 : (x == ("__debug__" : Str)) = false := by decide) (p1 : starEach (e :: es) X.env = (false, eval e X.env) :: starEach es X.env := by rfl) (p2 : (backTo pos (starEach es X.env)).any (·.1) = false := by rfl) :
    PE X (.Call (.Name x p) (e :: es) [] pos) (fun σ H Q => t σ H fun vs H1 => TT σ vs H1 Q) := by
  obtain ⟨_, _, _, _, _, _, cdv, _, _, rfl, lk, cd⟩ := D.ex
  constructor
  intro pins s σ H Q I h
  apply wpAny_Call_Name_kw
  refine ld_glob I gl is (PySem.W.callWith_K (h₀ := X.base) I.ok.mod.kin kp (thn (args.run pos pins s σ H _ I h) ?_) p1 p2) d1
  rintro us s1 ⟨vs, H1, I1, r, q⟩
  have lv := many q
  have b := bd s1 us I1.kIn (by rw [List.append_nil, ← r.length]; exact lv)
  rw [List.append_nil] at b
  refine ⟨I1.kIn, wpAny_call (codeAny_mono (LamX.run_ofS (CX := CX0) (E := E0) (Q := Q) lk cd S room I1.env0 b r lv fun deep => ?_) ?_)⟩
  · obtain ⟨t1, w1, w2⟩ := go cdv pins σ H1 s1 vs Q I1 deep q
    exact ⟨t1, w1.nox, w2⟩
  · rintro (u | fl) s2 hq
    · exact (hq : False).elim
    · cases fl with
      | ret u => exact I1.after hq
      | _ => exact (hq : False).elim
end
end LamV
set_option Elab.async false
set_option linter.all false
set_option maxRecDepth 100000
set_option maxHeartbeats 4000000
/-! for i, x in enumerate(t), t a tuple. -/
namespace EnT
open PySem PySem.Spec PyProof.Rows L2
section
variable {prog : Program} {w : World} {A : Around} {E : Value → Shared → Prop} {s : Shared}
theorem meets_en (a : Addr) (items : Array Value) :
    Meets (Builtin.«enumerate.__new__» ⟨[.type "enumerate", .ref a], []⟩) (fun _ R s => s.heap.IsTuple a items ∧
      R (.ok (.ret (.ref (s.heap.push { cls := .type "tuple_iterator", data := .fields #[.ref a, .int 0 0] }).objs.size)))
        { s with heap := (s.heap.push { cls := .type "tuple_iterator", data := .fields #[.ref a, .int 0 0] }).push { cls := .type "enumerate", data := .fields #[.none, .bool false, .ref s.heap.objs.size, rawInt 0, .none, .none] } }) :=
  .of_wp fun prog w A R s h => by
    obtain ⟨hp, g, d, tk, os⟩ := s
    obtain ⟨hT, h⟩ := h
    have hs := sub_enumerate
    have q : ∀ {A' : Around} {E : Value → Shared → Prop} {Q : Value → Shared → Prop}, Q (.ref hp.objs.size) ⟨hp.push { cls := .type "tuple_iterator", data := .fields #[.ref a, .int 0 0] }, g, d, tk, os⟩ →
        wpAny (model prog w) A' (pyIter (.ref a)) Q E ⟨hp, g, d, tk, os⟩ := fun k => wpAny_pyIter_tuple hT k
    wp_walk using q
    refine wpAny_stack_any fun st => wpAny_pure ?_
    split
    · rename_i c _ _ _ _ _
      cases (c == Value.type "enumerate") <;> (wp_walk using q; exact ⟨_, rfl, h⟩)
    · wp_walk using q
      exact ⟨_, rfl, h⟩
theorem call_en {a : Addr} {items : Array Value} {Q : Value → Shared → Prop} (hT : s.heap.IsTuple a items)
    (h : ∀ h1, IsEnum h1 (s.heap.objs.size + 1) s.heap.objs.size 0 .none → h1.IsTupleIter s.heap.objs.size a 0 → (∀ b o, s.heap.get? b = some o → h1.get? b = some o) → Q (.ref (s.heap.objs.size + 1)) { s with heap := h1 }) :
    wpAny (model prog w) A (call (.type "enumerate") [.ref a]) Q E s := by
  refine callType_new F.called_enumerate (by decide) (F.typeCall_enumerate_1 _) (F.newCall_enumerate_1 _) (fun obj => F.args_object_init_2 obj _) F.entry_enumerate_new (meets_en a items) ⟨hT, ?_⟩
  generalize hq : s.heap.push { cls := .type "tuple_iterator", data := .fields #[.ref a, .int 0 0] } = q
  have sz : q.objs.size = s.heap.objs.size + 1 := by rw [← hq]; exact Heap.size_push ..
  have it : q.get? s.heap.objs.size = some { cls := .type "tuple_iterator", data := .fields #[.ref a, .int 0 0] } := by rw [← hq]; exact Heap.get?_push_size _ rfl
  have en := Heap.get?_push_size q (o := { cls := .type "enumerate", data := .fields #[.none, .bool false, .ref s.heap.objs.size, rawInt 0, .none, .none] }) rfl
  rw [sz] at en
  show _ ∧ _
  rw [sz]
  refine ⟨⟨_, en, rfl⟩, h _ en ⟨_, Heap.get?_push_of_some _ it, rfl, rfl⟩ fun b o x => ?_⟩
  refine Heap.get?_push_of_some _ ?_
  rw [← hq]
  exact Heap.get?_push_of_some _ x
end
/-- the tuple at a, each item in a new pair -/
def Itn (K : PySem.W.Frag) (a : Addr) : It where
  go := fun i H => ∃ (xs : List V) (x : V), SqT K H a xs ∧ xs[i]? = some x
  yld := fun i H v H' => ∃ T x, v = .ref T ∧ H T = none ∧ H' = upd H T (.tup [.int (i : Nat), x]) ∧ ∀ xs, SqT K H a xs → xs[i]? = some x
  stop := fun i H => ∃ xs : List V, SqT K H a xs ∧ xs.length = i
theorem turn_en {P : Program} {w : World} {K : PySem.W.Frag} {elts : List Expr} {kk : Nat} {tpos : Pos} (a e it : Addr) :
    Turn P w K (.Tuple elts kk tpos) (Itn K a) [e, it] e (fun i h => (∃ old, IsEnum h e it ((i : Nat) : Int) old) ∧ h.IsTupleIter it a i ∧ e ≠ it) where
  mem := List.mem_cons_self ..
  self := by
    rintro A i s Q E ⟨⟨_, q⟩, _⟩ h
    exact wpAny_pyIter_enum q h
  keep := by
    rintro i h h1 ⟨⟨old, q⟩, r, ne⟩ k
    exact ⟨⟨old, k e (List.mem_cons_self ..) _ q⟩, r.at fun o q => k it (by simp) o q, ne⟩
  obj := by
    rintro i h ⟨⟨old, q⟩, ⟨o, r1, _, r2⟩, _⟩ b hb
    rcases List.mem_cons.mp hb with rfl | hb
    · exact ⟨_, q, fun _ z => nomatch z⟩
    · obtain rfl := List.mem_singleton.mp hb
      exact ⟨o, r1, fun _ z => nomatch (r2.symm.trans z)⟩
  item := by
    intro X hP hw hK calm i pins s σ H E I free st hg
    subst hP hw hK
    obtain ⟨⟨old, en⟩, ti, ne⟩ := st
    obtain ⟨xs, x, sq, hx⟩ := hg
    obtain ⟨its, vals, tup, _⟩ := I.tuple sq
    have T1 : s.heap.IsTuple a its.toArray := tup
    obtain ⟨u, hu, ru⟩ := vals.get hx
    have hu2 : its.toArray[i]? = some u := by rw [List.getElem?_toArray, hu]
    have lt : i < its.toArray.size := (Array.getElem?_eq_some_iff.mp hu2).1
    have nI : a ≠ it := by
      rintro rfl
      obtain ⟨o1, g1, c1, _⟩ := T1
      obtain ⟨o2, g2, c2, _⟩ := ti
      cases g1.symm.trans g2
      exact absurd (c1.symm.trans c2) (by decide)
    have nE : e ≠ a := by
      rintro rfl
      obtain ⟨o1, g1, c1, _⟩ := T1
      cases g1.symm.trans en
      exact absurd (show Value.type "enumerate" = Value.type "tuple" from c1) (by decide)
    have l1 := Heap.lt_size en
    have l2 : it < s.heap.objs.size := Heap.lt_size ti.choose_spec.1
    refine wpAny_pyNext_enum_itemD (Draws.tuple (A := X.A.in1) (I.ok.hd calm) it a nI its.toArray) en ⟨ti, T1⟩ lt ne (by simp [ne, nE]) fun y h1 tk hy out st1 new1 _ hk => ?_
    obtain rfl : y = u := Option.some.inj (hy.symm.trans hu2)
    refine ⟨_, rfl, wpAny_letOwnedTupleGo_enum (s := { s with heap := h1, toks := tk + 1 }) out fun h2 en2 same => ?_⟩
    have new2 := (same.2 _ (Nat.ne_of_gt l1)).trans new1
    have O : ObjOk X.prog X.w (upd H s.heap.objs.size (.tup [.int (i : Nat), x])) h2 s.heap.objs.size (.tup [.int (i : Nat), x]) := by
      refine ⟨?_, [.int i tk, y], .cons ⟨_, rfl⟩ (.cons ru .nil), _, new2, rfl, _, rfl⟩
      show 2 ≤ sizeLine
      decide
    have old1 : ∀ b o, b ∉ [e, it] → s.heap.get? b = some o → h2.get? b = some o := fun b o nb q => by
      simp only [List.mem_cons, List.not_mem_nil, or_false, not_or] at nb
      exact (same.2 b nb.1).trans (hk b o nb.1 nb.2 q)
    have J := I.turnedNew (t' := tk + 1) (ch := [e, it]) old1 free (Nat.le_refl _) O
    refine ⟨.ref s.heap.objs.size, _, J, rfl, ⟨_, x, rfl, I.hok.fresh (Nat.le_refl _), rfl, fun ys hy => ?_⟩, ⟨⟨y, ?_⟩, st1.1.at fun o q => (same.2 it ne.symm).trans q, ne⟩, fun b hb => ?_⟩
    · rw [I.tuple_inj hy sq, hx]
    · rw [show ((i + 1 : Nat) : Int) = (i : Int) + 1 from rfl]
      exact en2
    · have lb : b ≠ s.heap.objs.size := by
        rcases List.mem_cons.mp hb with rfl | hb
        · exact Nat.ne_of_lt l1
        · exact Nat.ne_of_lt (List.mem_singleton.mp hb ▸ l2)
      rw [upd_ne lb]
      exact (free b hb).1
  done := by
    intro X hP hw hK calm i pins s σ H E I free st hg
    subst hP hw hK
    obtain ⟨⟨old, en⟩, ti, ne⟩ := st
    obtain ⟨xs, sq, rfl⟩ := hg
    obtain ⟨its, vals, tup, _⟩ := I.tuple sq
    have T1 : s.heap.IsTuple a its.toArray := tup
    have nI : a ≠ it := by
      rintro rfl
      obtain ⟨o1, g1, c1, _⟩ := T1
      obtain ⟨o2, g2, c2, _⟩ := ti
      cases g1.symm.trans g2
      exact absurd (c1.symm.trans c2) (by decide)
    have sz : its.toArray.size = xs.length := by
      rw [List.size_toArray]
      exact vals.length.symm
    obtain ⟨f0, f1, f2, f3, f4, f5⟩ := free it (by simp)
    refine wpAny_pyNext_enum_endD (Draws.tuple (A := X.A.in1) (I.ok.hd calm) it a nI its.toArray) en (by rw [sz]; exact ⟨ti, T1⟩) fun h1 but => ⟨rfl, ?_⟩
    exact I.turned (t' := s.toks) (fun b o nb q => but b o nb q) f0 f1 f3 f4 f5
def iEnT (K : PySem.W.Frag) (ta : TA) : TI := fun σ H R => ta σ H fun vs H1 => ∃ a xs, vs = [.ref a] ∧ SqT K H1 a xs ∧ R (Itn K a) H1
theorem pi_enT {X : Cx} {e : Expr} {ta : TA} {p pos tpos : Pos} {elts : List Expr} {kk : Nat} (gl : Gl X "enumerate") (no : X.mg "enumerate" = none) (args : PA X [e] ta) (p1 : starEach [e] X.env = [(false, eval e X.env)] := by rfl) :
    PI X (.Tuple elts kk tpos) (.Call (.Name "enumerate" p) [e] [] pos) (iEnT X.K ta) := by
  constructor
  intro pins s σ H R I h
  refine Call_ (ld_blt I gl no boot_enumerate (PyProof.Rows.callWith_type1 (thn (args.run pos pins s σ H _ I h) ?_) p1 rfl))
  rintro us s1 ⟨vs, H1, I1, rv, a, xs, rfl, sq, q⟩
  obtain ⟨u, rfl⟩ : ∃ u, us = [u] := by
    cases rv with
    | cons _ t => cases t; exact ⟨_, rfl⟩
  cases rv with
  | cons ru _ =>
    cases (show u = Value.ref a from ru)
    obtain ⟨its, vals, tup, _⟩ := I1.tuple sq
    refine call_en (show s1.heap.IsTuple a its.toArray from tup) fun h1 en ti up => wpAny_pyIter_enum en ?_
    have J : Inv X pins σ H1 { s1 with heap := h1 } := I1.kept (t' := s1.toks) up
    refine ⟨_, [s1.heap.objs.size + 1, s1.heap.objs.size], _, _, H1, rfl, J, turn_en a (s1.heap.objs.size + 1) s1.heap.objs.size, ⟨⟨.none, en⟩, ti, Nat.succ_ne_self _⟩, fun b hb => ?_, q⟩
    have lo : s1.heap.objs.size ≤ b := by
      rcases List.mem_cons.mp hb with z | z
      · rw [z]
        exact Nat.le_succ _
      · rw [List.mem_singleton.mp z]
        exact Nat.le_refl _
    exact I1.fpOk lo (I1.hok.fresh lo)
end EnT
set_option Elab.async false
set_option linter.all false
set_option maxRecDepth 100000
set_option maxHeartbeats 4000000
namespace LJ
open PySem L2
def top (i : Nat) : Stmt := PySem.Challenge.pw_tracebounds_k02_works_made_and_told.main.body.getD i (.Pass ⟨0, 0, 0, 0⟩)
abbrev sDip : Stmt := top 38
abbrev sOne : Stmt := top 39
abbrev sJar : Stmt := top 45
/-- where draws come from: a list of three numbers, the middle one small -/
def JarAt (H : Hp) (j : Addr) : Prop := ∃ (d m c : Int), H j = some (.lst [.int d, .int m, .int c]) ∧ 0 ≤ m ∧ m < 2147483249
/-- all but j stays -/
def But (j : Addr) (H H1 : Hp) : Prop := ∀ b o, b ≠ j → H b = some o → H1 b = some o
def spDip : Sp := fun vs H Q _ => ∃ (j : Addr) (t : Int), vs = [.ref j, .int t] ∧ JarAt H j ∧ 0 < t ∧ t < 1073741824 ∧
  ∀ (r : Int) (H1 : Hp), 0 ≤ r → r < t → JarAt H1 j → But j H H1 → Q (.int r) H1
/-- built-ins that are still what they were -/
structure Blt (mg : Str → Option Value) : Prop where
  divmod : mg "divmod" = none
  int : mg "int" = none
  len : mg "len" = none
  abs : mg "abs" = none
section
variable {P : Program} {w : World} {K : PySem.W.Frag} {mg : Str → Option Value} {base : Heap}
theorem scDip : FnScope ["_law_jar_here", "_law_top", "_law_digit"] ["_law_jar_here", "_law_top"] (defScope sDip) := ⟨rfl, rfl, rfl, by decide +kernel, rfl, by decide +kernel, by decide +kernel⟩
theorem ok_dip {f : Addr} {fd : FuncData} (F : Fun K "_law_dip" "_law_dip" sDip f fd) (T : Blt mg) : FnOk P w K mg base CX0 1 f fd ["_law_jar_here", "_law_top"] spDip := by
  refine F.ok scDip (fun vs H Q E h => ?_) (fun cdv A outer s H vs Q E hr h => ?_)
  · obtain ⟨j, t, rfl, _⟩ := h
    rfl
  · obtain ⟨j, t, rfl, ⟨d, m, c, hj, m0, m1⟩, t0, t1, k⟩ := h
    refine ⟨_, pss_cons (ps_asg (pe_op op_add (pe_ix ix_list (pv 0) pe_int (fun _ _ => rfl)) pe_int) (pg_sub (pv 0) pe_int set_list))
      (pss_cons (ps_if (pt_cmpR op_gt (pe_ix ix_list (pv 0) pe_int (fun _ _ => rfl)) pe_int (nomark _))
        (pss_cons (ps_asg (pe_callB call_divmod (by rfl) T.divmod (by decide +kernel) (pa_cons (pe_ix ix_list (pv 0) pe_int (fun _ _ => rfl)) (pa_cons (pv 1) pa_nil)))
          (pg_tup (by rfl) (pgs_cons (pg_sub (pv 0) pe_int set_list) (pgs_cons (pg_name (i := 2) scDip.nd rfl (Or.inl rfl)) pgs_nil))))
        (pss_one (ps_ret (pv 2)))) pss_nil)
      (pss_cons (ps_asg (pe_op op_mod (pe_callTy call_int1 (by rfl) T.int (by decide +kernel) (pa_cons (pe_op op_add (pe_op op_mul (pe_ix ix_list (pv 0) pe_int (fun _ _ => rfl)) pe_int) (pe_op op_mul pe_int (pe_ix ix_list (pv 0) pe_int (fun _ _ => rfl)))) pa_nil)) pe_int)
          (pg_sub (pv 0) pe_int set_list))
      (pss_one (ps_ret (pe_op op_mod (pe_callTy call_int1 (by rfl) T.int (by decide +kernel) (pa_cons (pe_op op_fdiv (pe_ix ix_list (pv 0) pe_int (fun _ _ => rfl)) pe_int) pa_nil)) (pv 1)))))), ?_⟩
    refine ⟨_, rfl, j, _, 2, .int c, rfl, rfl, SqL.of hj, rfl, _, _, rfl, rfl, _, rfl, j, _, 2, 2, rfl, rfl, hj, rfl, ?_⟩
    have h1 : ∀ v, (upd H j (.lst [.int d, .int m, v])) j = some (.lst [.int d, .int m, v]) := fun v => upd_same
    have b1 : ∀ o, But j H (upd H j o) := fun o b z hb hz => by
      rw [upd_ne hb]
      exact hz
    refine ⟨_, rfl, j, _, 0, .int d, rfl, rfl, SqL.of (h1 _), rfl, _, _, rfl, rfl, _, rfl, ?_⟩
    refine ite2 (fun c0 => ?_) (fun c0 => ?_)
    · refine ⟨_, rfl, j, _, 0, .int d, rfl, rfl, SqL.of (h1 _), rfl, _, rfl, _, _, rfl, ⟨t0, t1⟩, fun p hp => ?_⟩
      have jp : j ≠ p := ne_of_none (h1 _) hp
      refine ⟨p, _, rfl, SqT.of upd_same, rfl, ?_⟩
      refine ⟨_, _, rfl, _, rfl, j, _, 0, 0, rfl, rfl, (by rw [upd_ne jp]; exact h1 _), rfl, ?_⟩
      refine ⟨_, _, rfl, rfl, ?_⟩
      refine ⟨_, rfl, ?_⟩
      refine k (d % t) _ (Int.emod_nonneg _ (by omega)) (Int.emod_lt_of_pos _ t0) ⟨d / t, m, c + 1, upd_same, m0, m1⟩ fun b o hb hz => ?_
      rw [upd_ne hb, upd_ne (ne_of_none (b1 _ b o hb hz) hp), upd_ne hb]
      exact hz
    · refine ⟨_, rfl, j, _, 1, .int m, rfl, rfl, SqL.of (h1 _), rfl, _, _, rfl, rfl, .inl ⟨by omega, by omega⟩, _, rfl, j, _, 2, .int (c + 1), rfl, rfl, SqL.of (h1 _), rfl, _, _, rfl, rfl, .inl ⟨by omega, by omega⟩, _, _, rfl, rfl, .inl ⟨_, rfl, ?_⟩⟩
      refine ⟨_, _, rfl, rfl, (by show (0 : Int) < 2147483249; decide), _, rfl, j, _, 1, 1, rfl, rfl, h1 _, rfl, ?_⟩
      refine ⟨_, rfl, j, _, 1, _, rfl, rfl, SqL.of upd_same, rfl, _, _, rfl, rfl, ⟨by decide, by decide⟩, .inl ⟨_, rfl, ?_⟩⟩
      refine ⟨_, rfl, _, _, rfl, rfl, t0, ?_⟩
      refine k _ _ (Int.emod_nonneg _ (by omega)) (Int.emod_lt_of_pos _ t0) ⟨d, _, c + 1, upd_same, Int.emod_nonneg _ (by decide), Int.emod_lt_of_pos _ (by decide)⟩ fun b o hb hz => ?_
      rw [upd_ne hb, upd_ne hb]
      exact hz
theorem But.seq {j l : Addr} {H H1 : Hp} {o : HO} (b : But j H H1) (h : H l = some o) (n : l ≠ j) : H1 l = some o := b l o n h
def spOne : Sp := fun vs H Q _ => ∃ (j l : Addr) (xs : List V), vs = [.ref j, .ref l] ∧ JarAt H j ∧ H l = some (.lst xs) ∧ l ≠ j ∧ 0 < xs.length ∧ xs.length < 100000 ∧
  ∀ (n : Nat) (v : V) (H1 : Hp), xs[n]? = some v → JarAt H1 j → But j H H1 → Q v H1
theorem scOne : FnScope ["_law_jar_here", "_law_some"] ["_law_jar_here", "_law_some"] (defScope sOne) := ⟨rfl, rfl, rfl, by decide +kernel, rfl, by decide +kernel, by decide +kernel⟩
theorem ok_one {f fD : Addr} {fd fdD : FuncData} (F : Fun K "_law_one_of" "_law_one_of" sOne f fd) (T : Blt mg) (FD : Fun K "_law_dip" "_law_dip" sDip fD fdD) (bD : Binds K fdD ["_law_jar_here", "_law_top"] []) (mD : mg "_law_dip" = some (.ref fD)) :
    FnOk P w K mg base CX0 2 f fd ["_law_jar_here", "_law_some"] spOne := by
  have GD : FnOk P w K mg base CX0 1 fD fdD ["_law_jar_here", "_law_top"] spDip := ok_dip FD T
  refine F.ok scOne (fun vs H Q E h => ?_) (fun cdv A outer s H vs Q E hr h => ?_)
  · obtain ⟨j, l, xs, rfl, _⟩ := h
    rfl
  · obtain ⟨j, l, xs, rfl, J, hl, nl, p0, p1, k⟩ := h
    refine ⟨_, pss_one (ps_ret (pe_ix ix_list (pv 1) (pe_call GD hr (by rfl) mD FD.kp bD .nil pass0 (pa_cons (pv 0) (pa_cons (pe_callB call_len_seq (by rfl) T.len PySem.boot_len (pa_cons (pv 1) pa_nil)) pa_nil))) (fun _ _ => rfl))), ?_⟩
    refine ⟨_, rfl, _, rfl, _, rfl, l, _, rfl, .inl (SqL.of hl), j, (xs.length : Int), rfl, J, by omega, by omega, fun r H1 r0 r1 J1 bt => ?_⟩
    obtain ⟨v, hv⟩ : ∃ v, xs[r.toNat]? = some v := ⟨xs[r.toNat]'(by omega), List.getElem?_eq_getElem (by omega)⟩
    refine ⟨l, xs, r, v, rfl, rfl, SqL.of (bt.seq hl nl), ?_, k r.toNat v H1 hv J1 bt⟩
    unfold atI ixN
    rw [if_pos r0, if_pos r1]
    exact hv
theorem same_new {H H1 : Hp} {p : Addr} {o : HO} (s : Same H H1) (n : H1 p = none) : Same H (upd H1 p o) := fun b z e => by
  rw [upd_ne (ne_of_none (s b z e) n)]
  exact s b z e
def spJar (K : PySem.W.Frag) : Sp := fun vs H Q _ => ∃ (a : Addr) (ns : List Int) (t : Int), vs = [.ref a, .int t] ∧ SqL K H a (ns.map V.int) ∧ ns.length ≤ 63 ∧ 0 ≤ t ∧ t ≤ 100 ∧
  ∀ (j : Addr) (H1 : Hp), H j = none → Same H H1 → JarAt H1 j → Q (.ref j) H1
theorem scJar : FnScope ["_law_cells", "_law_turn", "_law_cell", "_law_mixed", "_law_each"] ["_law_cells", "_law_turn"] (defScope sJar) := ⟨rfl, rfl, rfl, by decide +kernel, rfl, by decide +kernel, by decide +kernel⟩
theorem ok_jar {f : Addr} {fd : FuncData} (F : Fun K "_law_jar" "_law_jar" sJar f fd) (T : Blt mg) : FnOk P w K mg base CX0 1 f fd ["_law_cells", "_law_turn"] (spJar K) := by
  refine F.ok scJar (fun vs H Q E h => ?_) (fun cdv A outer s H vs Q E hr h => ?_)
  · obtain ⟨j, l, xs, rfl, _⟩ := h
    rfl
  · obtain ⟨a, ns, t, rfl, hS, hn, t0, t1, k⟩ := h
    refine ⟨_, pss_cons (ps_set (i := 2) scJar.nd rfl (Or.inl rfl) (pe_join0 (pe_ifExp (pt_cmpR op_lt (pv 1) (pe_callB call_len_seq (by rfl) T.len PySem.boot_len (pa_cons (pv 0) pa_nil)) (nomark _))
        (pe_ix ix_list (pv 0) (pv 1) (fun _ _ => rfl)) (pe_op op_add (pe_op op_mul pe_int (pv 1)) pe_int))))
      (pss_cons (ps_set (i := 3) scJar.nd rfl (Or.inl rfl) (pe_op op_add pe_int (pe_op op_mul pe_int (pv 1))))
      (pss_cons (ps_for PassesOwn.never rfl (pi_list (pe_op op_cat (pe_slice sl_list (pv 0) po_none (po_some pe_int)) (pe_lst (pa_cons (pv 2) pa_nil)))) (pg_name (i := 4) scJar.nd rfl (Or.inl rfl))
        (pss_one (ps_set (i := 3) scJar.nd rfl (Or.inl rfl) (pe_op op_mod (pe_callTy call_int1 (by rfl) T.int (by decide +kernel) (pa_cons (pe_op op_add (pe_op op_mul (pv 3) pe_int) (pv 4)) pa_nil)) pe_int))))
      (pss_one (ps_ret (pe_lst (pa_cons (pe_join0 (pe_ifExp (PW.pt (pw_or (pt_cmpR op_lt (pv 2) pe_int (nomark _)) (pw_or1 (pt_cmpR op_ge (pv 2) (pe_op op_pow pe_int pe_int) (nomark _)))))
        (pe_callB call_abs (by rfl) T.abs (by decide +kernel) (pa_cons (pv 2) pa_nil)) pe_int)) (pa_cons (pv 3) (pa_cons pe_int pa_nil)))))))), ?_⟩
    refine ⟨fun v H1 => (∃ z : Int, v = .int z) ∧ H1 = H, ?_, ?_⟩
    · refine ⟨_, rfl, _, rfl, a, _, rfl, .inl hS, _, _, rfl, rfl, _, rfl, ?_⟩
      refine ite2 (fun c => ?_) (fun c => ?_)
      · have c1 : t < (ns.length : Int) := by
          have z := of_decide_eq_true c
          rw [List.length_map] at z
          exact z
        obtain ⟨z, hz⟩ : ∃ z, ns[t.toNat]? = some z := ⟨ns[t.toNat]'(by omega), List.getElem?_eq_getElem (by omega)⟩
        refine ⟨_, rfl, _, rfl, a, _, t, .int z, rfl, rfl, hS, ?_, ⟨z, rfl⟩, rfl⟩
        unfold atI ixN
        rw [if_pos t0, if_pos (by rw [List.length_map]; exact c1), Option.bind_some, List.getElem?_map, hz]
        rfl
      · exact ⟨_, rfl, _, _, rfl, rfl, .inl ⟨by omega, by omega⟩, _, _, rfl, rfl, ⟨_, rfl⟩, rfl⟩
    · rintro v H1 ⟨⟨z, rfl⟩, rfl⟩
      refine ⟨_, rfl, _, _, rfl, rfl, .inl ⟨by omega, by omega⟩, _, _, rfl, rfl, ?_⟩
      refine ⟨_, rfl, 5, rfl, a, _, rfl, hS, fun p hp => ?_⟩
      refine ⟨_, rfl, (by show 1 ≤ sizeLine; rw [sizeLine_eq]; decide), fun l hl => ?_⟩
      have pl : p ≠ l := ne_of_none upd_same hl
      have cl : (cutV (ns.map V.int) none (some 5)).length ≤ 63 := by
        have z1 := cutV_length (ns.map V.int) none (some 5)
        rw [List.length_map] at z1
        omega
      refine ⟨p, l, _, _, rfl, rfl, (by rw [upd_ne pl]; exact upd_same), upd_same, (by rw [sizeLine_eq]; show (cutV (ns.map V.int) none (some 5)).length + 1 ≤ 16777216; omega), fun q hq => ?_⟩
      have allI : ∀ (i : Nat) (y : V), (cutV (ns.map V.int) none (some 5) ++ [V.int z])[i]? = some y → ∃ e : Int, y = .int e := by
        intro i y hy
        have hm := List.mem_of_getElem? hy
        rcases List.mem_append.mp hm with hm | hm
        · have h2 := List.mem_of_mem_drop (List.mem_of_mem_take hm)
          obtain ⟨e, _, he⟩ := List.mem_map.mp h2
          exact ⟨e, he.symm⟩
        · exact ⟨z, List.mem_singleton.mp hm⟩
      have s1 : ∀ o, Same H1 (upd _ q o) := fun o => same_new (same_new (same_new (fun _ _ z => z) hp) hl) hq
      refine ⟨q, rfl, ⟨_, SqL.of upd_same⟩, for_list (K := K) (a := q) (xs := cutV (ns.map V.int) none (some 5) ++ [V.int z]) (fun i σ H2 => ∃ (m : Int) (v : Option V),
        σ = [some (.ref a), some (.int t), some (.int z), some (.int m), v] ∧ 0 ≤ m ∧ m < 2147483249 ∧ Same H1 H2 ∧ H2 q = some (.lst (cutV (ns.map V.int) none (some 5) ++ [V.int z])))
        ⟨_, none, rfl, by omega, by omega, s1 _, upd_same⟩ (fun i σ H2 _ ⟨_, _, _, _, _, _, h⟩ => SqL.of h) ?_ ?_⟩
      · rintro i y σ H2 hi ⟨m, v, rfl, m0, m1, s2, hq2⟩
        obtain ⟨e, rfl⟩ := allI i y hi
        refine ⟨_, rfl, _, _, rfl, rfl, .inl ⟨by omega, by omega⟩, _, rfl, _, _, rfl, rfl, .inl ⟨_, rfl, ?_⟩⟩
        refine ⟨_, _, rfl, rfl, (by show (0 : Int) < 2147483249; decide), ?_⟩
        exact ⟨_, _, rfl, Int.emod_nonneg _ (by decide), Int.emod_lt_of_pos _ (by decide), s2, hq2⟩
      · rintro σ H2 ⟨m, v, rfl, m0, m1, s2, hq2⟩
        refine ⟨fun v H3 => (∃ d : Int, v = .int d) ∧ H3 = H2, ?_, ?_⟩
        · refine ⟨_, rfl, _, _, rfl, rfl, _, rfl, ?_⟩
          refine ite2 (fun c => ⟨_, rfl, _, rfl, ⟨_, rfl⟩, rfl⟩) (fun c => ?_)
          refine ⟨_, rfl, _, _, rfl, rfl, ⟨by decide, by decide, by decide⟩, _, _, rfl, rfl, _, rfl, ?_⟩
          exact ite2 (fun c => ⟨_, rfl, _, rfl, ⟨_, rfl⟩, rfl⟩) (fun c => ⟨⟨_, rfl⟩, rfl⟩)
        · rintro v H3 ⟨⟨d, rfl⟩, rfl⟩
          refine ⟨_, rfl, (by show 3 ≤ sizeLine; rw [sizeLine_eq]; decide), fun j hj => ?_⟩
          have nj : H1 j = none := by
            cases e : H1 j with
            | none => rfl
            | some o =>
              rw [s2 j o e] at hj
              cases hj
          exact k j _ nj (same_new s2 hj) ⟨d, m, 0, upd_same, m0, m1⟩
end
end LJ
set_option Elab.async false
set_option linter.all false
set_option maxRecDepth 100000
set_option maxHeartbeats 4000000
namespace LJ
open PySem L2
abbrev sLabels : Stmt := top 42
abbrev sShares : Stmt := top 40
abbrev sInside : Stmt := top 41
theorem But.refl {j : Addr} {H : Hp} : But j H H := fun _ _ _ z => z
theorem But.trans {j : Addr} {H H1 H2 : Hp} (b : But j H H1) (d : But j H1 H2) : But j H H2 := fun a o n e => d a o n (b a o n e)
theorem But.new {j p : Addr} {H H1 : Hp} {o : HO} (b : But j H H1) (n : H1 p = none) : But j H (upd H1 p o) := fun a u m e => by
  rw [upd_ne (ne_of_none (b a u m e) n)]
  exact b a u m e
/-- a change of what was none when we began -/
theorem But.put {j p : Addr} {H H1 : Hp} {o : HO} (b : But j H H1) (n : H p = none) : But j H (upd H1 p o) := fun a u m e => by
  rw [upd_ne (ne_of_none e n)]
  exact b a u m e
theorem But.gone {j p : Addr} {H H1 : Hp} (b : But j H H1) (m : p ≠ j) (n : H1 p = none) : H p = none := by
  cases e : H p with
  | none => rfl
  | some o =>
    rw [b p o m e] at n
    cases n
theorem JarAt.ne {j p : Addr} {H : Hp} (h : JarAt H j) (n : H p = none) : p ≠ j := fun z => by
  obtain ⟨d, m, c, e, _⟩ := h
  rw [z, e] at n
  cases n
theorem JarAt.new {j p : Addr} {H : Hp} {o : HO} (h : JarAt H j) (n : H p = none) : JarAt (upd H p o) j := by
  have m := h.ne n
  obtain ⟨d, m1, c, e, r⟩ := h
  exact ⟨d, m1, c, by rw [upd_ne m.symm]; exact e, r⟩
theorem JarAt.put {j p : Addr} {H : Hp} {o : HO} (h : JarAt H j) (m : p ≠ j) : JarAt (upd H p o) j := by
  obtain ⟨d, m1, c, e, r⟩ := h
  exact ⟨d, m1, c, by rw [upd_ne m.symm]; exact e, r⟩
/-- a pair of bounds up to top -/
def spBounds (top : Int) : Sp := fun vs H Q _ => ∃ j : Addr, vs = [.ref j] ∧ JarAt H j ∧ ∀ (p : Addr) (lo hi : Int) (H1 : Hp), 0 ≤ lo → lo ≤ hi → hi ≤ top → JarAt H1 j → But j H H1 → H p = none → p ≠ j → H1 p = some (.tup [.int lo, .int hi]) → Q (.ref p) H1
structure BltD (mg : Str → Option Value) : Prop where
  sorted : mg "sorted" = none
  range : mg "range" = none
theorem two_sorted {a b : Int} {ns : List Int} (hp : ns.Perm [a, b]) (hs : ns.Pairwise (· ≤ ·)) : ∃ lo hi, ns = [lo, hi] ∧ lo ≤ hi ∧ (lo = a ∨ lo = b) ∧ (hi = a ∨ hi = b) := by
  have hl := hp.length_eq
  match ns, hl with
  | [x, y], _ =>
    refine ⟨x, y, rfl, ?_, ?_, ?_⟩
    · simpa using hs
    · have h := hp.mem_iff (a := x)
      simpa using h
    · have h := hp.mem_iff (a := y)
      simpa using h
section
variable {P : Program} {w : World} {K : PySem.W.Frag} {mg : Str → Option Value} {base : Heap}
theorem scShares : FnScope ["_law_jar_here", "_law_some", "_law_k"] ["_law_jar_here"] (defScope sShares) := ⟨rfl, rfl, rfl, by decide +kernel, rfl, by decide +kernel, by decide +kernel⟩
theorem scInside : FnScope ["_law_jar_here", "_law_some", "_law_k"] ["_law_jar_here"] (defScope sInside) := ⟨rfl, rfl, rfl, by decide +kernel, rfl, by decide +kernel, by decide +kernel⟩
/-- the end of both: the same bound twice, or both -/
theorem rd_ends {n : Int} {σ : St} {D : Ends} {H H2 : Hp} {j L : Addr} {lo hi top : Int} (hn0 : 0 < n) (hn1 : n < 1073741824) (h0 : σ[0]? = some (some (.ref j))) (h1 : σ[1]? = some (some (.ref L))) (J : JarAt H2 j) (b : But j H H2) (hL : H2 L = some (.lst [.int lo, .int hi])) (nL : L ≠ j)
    (l0 : 0 ≤ lo) (l1 : lo ≤ hi) (l2 : hi ≤ top) (k : ∀ (p : Addr) (lo hi : Int) (H1 : Hp), 0 ≤ lo → lo ≤ hi → hi ≤ top → JarAt H1 j → But j H H1 → H p = none → p ≠ j → H1 p = some (.tup [.int lo, .int hi]) → D.rt (.ref p) H1) :
    tRet (tIf (tTest (tOp rEq (tCall spDip [] E0 (tCons (tVar 0) (tCons (tC (.int n)) tNil))) (tC (.int 0))))
      (tTup (tCons (tOp (rIxL K) (tVar 1) (tC (.int 0))) (tCons (tOp (rIxL K) (tVar 1) (tC (.int 0))) tNil)))
      (tTup (tCons (tOp (rIxL K) (tVar 1) (tC (.int 0))) (tCons (tOp (rIxL K) (tVar 1) (tC (.int 1))) tNil)))) D σ H2 := by
  have two : 2 ≤ sizeLine := by
    rw [sizeLine_eq]
    decide
  refine ⟨_, h0, j, n, rfl, J, hn0, hn1, fun r H3 r0 r1 J3 b3 => ?_⟩
  have hL3 := b3 _ _ nL hL
  have bb := But.trans b b3
  refine ⟨rfl, _, rfl, ?_⟩
  refine ite2 (fun _ => ?_) (fun _ => ?_)
  · refine ⟨_, h1, L, _, 0, .int lo, rfl, rfl, SqL.of hL3, rfl, _, h1, L, _, 0, .int lo, rfl, rfl, SqL.of hL3, rfl, two, fun p np => ?_⟩
    have m := J3.ne np
    exact k p lo lo _ l0 (Int.le_refl _) (by omega) (J3.new np) (bb.new np) (bb.gone m np) m upd_same
  · refine ⟨_, h1, L, _, 0, .int lo, rfl, rfl, SqL.of hL3, rfl, _, h1, L, _, 1, .int hi, rfl, rfl, SqL.of hL3, rfl, two, fun p np => ?_⟩
    have m := J3.ne np
    exact k p lo hi _ l0 l1 l2 (J3.new np) (bb.new np) (bb.gone m np) m upd_same
theorem ok_shares {f fD fO : Addr} {fd fdD fdO : FuncData} (F : Fun K "_law_shares" "_law_shares" sShares f fd) (T : BltD mg)
    (GD : FnOk P w K mg base CX0 1 fD fdD ["_law_jar_here", "_law_top"] spDip) (mD : mg "_law_dip" = some (.ref fD)) (kD : PySem.W.keepIn K (.ref fD) = true) (bD : Binds K fdD ["_law_jar_here", "_law_top"] [])
    (GO : FnOk P w K mg base CX0 2 fO fdO ["_law_jar_here", "_law_some"] spOne) (mO : mg "_law_one_of" = some (.ref fO)) (kO : PySem.W.keepIn K (.ref fO) = true) (bO : Binds K fdO ["_law_jar_here", "_law_some"] []) :
    FnOk P w K mg base CX0 3 f fd ["_law_jar_here"] (spBounds 1000) := by
  refine F.ok scShares (fun vs H Q E h => ?_) (fun cdv A outer s H vs Q E hr h => ?_)
  · obtain ⟨j, rfl, _⟩ := h
    rfl
  · obtain ⟨j, rfl, J, k⟩ := h
    have hr1 : Room 1 _ := hr.mono (by decide)
    refine ⟨_, pss_cons (ps_set (i := 1) scShares.nd rfl (Or.inl rfl) (pe_callB cr_sorted (by rfl) T.sorted (by decide +kernel) (pa_cons (pe_lc (own := [("_law_k", 2)]) (g := gName 2) (by rfl) scShares.nd (pi_range1 (by rfl) T.range (pa_cons pe_int pa_nil)) (blkOk_by (own := [("_law_k", 2)]) (N := ["_law_jar_here", "_law_some", "_law_k"]) (sc := defScope sShares) (by decide +kernel)) (fun _ _ _ _ _ => pg_name (i := 2) scShares.nd rfl (Or.inl rfl)) (fun _ _ _ _ _ => pts_nil) (fun _ _ _ _ _ => pe_call GO hr (by rfl) mO kO bO .nil pass0 (pa_cons (pv 0) (pa_cons (pe_lst (pa_cons pe_int (pa_cons pe_int (pa_cons pe_int (pa_cons pe_int (pa_cons pe_int (pa_cons pe_int (pa_cons pe_int (pa_cons (pe_call GD hr1 (by rfl) mD kD bD .nil pass0 (pa_cons (pv 0) (pa_cons pe_int pa_nil))) pa_nil))))))))) pa_nil)))) pa_nil)))
      (pss_one (ps_ret (pe_ifExp (pt_cmpR op_eq (pe_call GD hr1 (by rfl) mD kD bD .nil pass0 (pa_cons (pv 0) (pa_cons pe_int pa_nil))) pe_int (nomark _)) (pe_tup (pa_cons (pe_ix ix_list (pv 1) pe_int (fun _ _ => rfl)) (pa_cons (pe_ix ix_list (pv 1) pe_int (fun _ _ => rfl)) pa_nil))) (pe_tup (pa_cons (pe_ix ix_list (pv 1) pe_int (fun _ _ => rfl)) (pa_cons (pe_ix ix_list (pv 1) pe_int (fun _ _ => rfl)) pa_nil)))))), ?_⟩
    have J0 := J
    have b0 : But j H H := But.refl
    have big : ∀ {n : Nat}, n ≤ 100 → n ≤ sizeLine := fun h => by rw [sizeLine_eq]; omega
    refine ⟨2, rfl, by decide, by decide, fun D hD => lc_range (lo := 0) (n := 2) (fun n H2 => JarAt H2 j ∧ But j H H2 ∧ ∃ zs : List Int, zs.length = n ∧ n ≤ 2 ∧ H2 D = some (.lst (zs.map V.int)) ∧ ∀ z ∈ zs, 0 ≤ z ∧ z ≤ 1000)
      ⟨J0.new hD, b0.new hD, [], rfl, by decide, upd_same, fun z hz => nomatch hz⟩ ?_ ?_⟩
    · rintro n H2 hn ⟨J2, b2, zs, hz, hz2, hDl, hb⟩
      refine ⟨rfl, ?_⟩
      refine ⟨_, rfl, _, rfl, j, 1001, rfl, J2, by decide, by decide, fun r H3 r0 r1 J3 b3 => ?_⟩
      refine ⟨big (Nat.le_of_ble_eq_true rfl), fun l nl => ?_⟩
      have ml := J3.ne nl
      refine ⟨j, l, _, rfl, J3.new nl, upd_same, ml, by exact (by decide : 0 < 8), by exact (by decide : 8 < 100000), fun m v H4 hv J4 b4 => ?_⟩
      have hm := List.mem_of_getElem? hv
      obtain ⟨z, rfl, z0, z1⟩ : ∃ z : Int, v = V.int z ∧ 0 ≤ z ∧ z ≤ 1000 := by
        simp only [List.mem_cons, List.not_mem_nil, or_false] at hm
        rcases hm with rfl | rfl | rfl | rfl | rfl | rfl | rfl | rfl <;> exact ⟨_, rfl, by omega, by omega⟩
      have dj : D ≠ j := J0.ne hD
      have e4 : H4 D = some (.lst (zs.map V.int)) := b4 _ _ dj (by rw [upd_ne (ne_of_none (b3 _ _ dj hDl) nl)]; exact b3 _ _ dj hDl)
      have bb : But j H H4 := But.trans ((But.trans b2 b3).new nl) b4
      refine ⟨_, e4, ?_, J4.put dj, bb.put (b0.gone dj hD), zs ++ [z], ?_, by omega, ?_, ?_⟩
      · rw [sizeLine_eq, List.length_map]
        omega
      · rw [List.length_append, hz]
        rfl
      · rw [List.map_append]
        exact upd_same
      · intro y hy
        rcases List.mem_append.mp hy with h | h
        · exact hb y h
        · obtain rfl := List.mem_singleton.mp h
          exact ⟨z0, z1⟩
    · rintro H2 ⟨J2, b2, zs, hz, hz2, hDl, hb⟩
      refine ⟨D, zs, rfl, SqL.of hDl, by omega, fun ns L hp hs nL => ?_⟩
      obtain ⟨a, b, rfl⟩ : ∃ a b, zs = [a, b] := by
        match zs, hz with
        | [a, b], _ => exact ⟨a, b, rfl⟩
      obtain ⟨lo, hi, rfl, hle, hlo, hhi⟩ := two_sorted hp hs
      have ba := hb a (by simp)
      have bb := hb b (by simp)
      have mL := J2.ne nL
      refine rd_ends (n := 4) (top := 1000) (j := j) (L := L) (lo := lo) (hi := hi) (by decide) (by decide) rfl rfl (J2.new nL) (b2.new nL) upd_same mL ?_ hle ?_ k
      · rcases hlo with h | h <;> omega
      · rcases hhi with h | h <;> omega
theorem ok_inside {f fD fO : Addr} {fd fdD fdO : FuncData} (F : Fun K "_law_inside" "_law_inside" sInside f fd) (T : BltD mg)
    (GD : FnOk P w K mg base CX0 1 fD fdD ["_law_jar_here", "_law_top"] spDip) (mD : mg "_law_dip" = some (.ref fD)) (kD : PySem.W.keepIn K (.ref fD) = true) (bD : Binds K fdD ["_law_jar_here", "_law_top"] [])
    (GO : FnOk P w K mg base CX0 2 fO fdO ["_law_jar_here", "_law_some"] spOne) (mO : mg "_law_one_of" = some (.ref fO)) (kO : PySem.W.keepIn K (.ref fO) = true) (bO : Binds K fdO ["_law_jar_here", "_law_some"] []) :
    FnOk P w K mg base CX0 3 f fd ["_law_jar_here"] (spBounds 1000000000000) := by
  refine F.ok scInside (fun vs H Q E h => ?_) (fun cdv A outer s H vs Q E hr h => ?_)
  · obtain ⟨j, rfl, _⟩ := h
    rfl
  · obtain ⟨j, rfl, J, k⟩ := h
    have hr1 : Room 1 _ := hr.mono (by decide)
    refine ⟨_, pss_cons (ps_if (pt_cmpR op_eq (pe_call GD hr1 (by rfl) mD kD bD .nil pass0 (pa_cons (pv 0) (pa_cons pe_int pa_nil))) pe_int (nomark _)) (pss_one (ps_ret (pe_tup (pa_cons pe_int (pa_cons pe_int pa_nil))))) pss_nil)
      (pss_cons (ps_set (i := 1) scInside.nd rfl (Or.inl rfl) (pe_callB cr_sorted (by rfl) T.sorted (by decide +kernel) (pa_cons (pe_lc (own := [("_law_k", 2)]) (g := gName 2) (by rfl) scInside.nd (pi_range1 (by rfl) T.range (pa_cons pe_int pa_nil)) (blkOk_by (own := [("_law_k", 2)]) (N := ["_law_jar_here", "_law_some", "_law_k"]) (sc := defScope sInside) (by decide +kernel)) (fun _ _ _ _ _ => pg_name (i := 2) scInside.nd rfl (Or.inl rfl)) (fun _ _ _ _ _ => pts_nil) (fun _ _ _ _ _ => pe_call GO hr (by rfl) mO kO bO .nil pass0 (pa_cons (pv 0) (pa_cons (pe_lst (pa_cons pe_int (pa_cons pe_int (pa_cons pe_int (pa_cons pe_int (pa_cons pe_int (pa_cons pe_int (pa_cons (pe_op op_sub (pe_op op_pow pe_int pe_int) (pe_call GD hr1 (by rfl) mD kD bD .nil pass0 (pa_cons (pv 0) (pa_cons pe_int pa_nil)))) pa_nil)))))))) pa_nil)))) pa_nil)))
      (pss_one (ps_ret (pe_ifExp (pt_cmpR op_eq (pe_call GD hr1 (by rfl) mD kD bD .nil pass0 (pa_cons (pv 0) (pa_cons pe_int pa_nil))) pe_int (nomark _)) (pe_tup (pa_cons (pe_ix ix_list (pv 1) pe_int (fun _ _ => rfl)) (pa_cons (pe_ix ix_list (pv 1) pe_int (fun _ _ => rfl)) pa_nil))) (pe_tup (pa_cons (pe_ix ix_list (pv 1) pe_int (fun _ _ => rfl)) (pa_cons (pe_ix ix_list (pv 1) pe_int (fun _ _ => rfl)) pa_nil))))))), ?_⟩
    refine ⟨_, rfl, j, 3, rfl, J, by decide, by decide, fun r H0 r0 r1 J0 b0 => ?_⟩
    refine ⟨rfl, _, rfl, ?_⟩
    refine ite2 (fun _ => ?_) (fun _ => ?_)
    · refine ⟨by rw [sizeLine_eq]; exact Nat.le_of_ble_eq_true rfl, fun p np => ?_⟩
      have m := J0.ne np
      exact k p 0 0 _ (by decide) (by decide) (by decide) (J0.new np) (b0.new np) (b0.gone m np) m upd_same
    · have big : ∀ {n : Nat}, n ≤ 100 → n ≤ sizeLine := fun h => by rw [sizeLine_eq]; omega
      refine ⟨2, rfl, by decide, by decide, fun D hD => lc_range (lo := 0) (n := 2) (fun n H2 => JarAt H2 j ∧ But j H H2 ∧ ∃ zs : List Int, zs.length = n ∧ n ≤ 2 ∧ H2 D = some (.lst (zs.map V.int)) ∧ ∀ z ∈ zs, 0 ≤ z ∧ z ≤ 1000000000000)
        ⟨J0.new hD, b0.new hD, [], rfl, by decide, upd_same, fun z hz => nomatch hz⟩ ?_ ?_⟩
      · rintro n H2 hn ⟨J2, b2, zs, hz, hz2, hDl, hb⟩
        refine ⟨rfl, ?_⟩
        refine ⟨_, rfl, _, _, rfl, rfl, ⟨by decide, by decide, by decide⟩, _, rfl, j, 3, rfl, J2, by decide, by decide, fun r H3 r0 r1 J3 b3 => ?_⟩
        refine ⟨_, _, rfl, rfl, ?_⟩
        refine ⟨big (Nat.le_of_ble_eq_true rfl), fun l nl => ?_⟩
        have ml := J3.ne nl
        refine ⟨j, l, _, rfl, J3.new nl, upd_same, ml, by exact (by decide : 0 < 7), by exact (by decide : 7 < 100000), fun m v H4 hv J4 b4 => ?_⟩
        have hm := List.mem_of_getElem? hv
        obtain ⟨z, rfl, z0, z1⟩ : ∃ z : Int, v = V.int z ∧ 0 ≤ z ∧ z ≤ 1000000000000 := by
          have p12 : (10 : Int) ^ ((12 : Int).toNat) = 1000000000000 := by decide
          simp only [List.mem_cons, List.not_mem_nil, or_false, p12] at hm
          rcases hm with rfl | rfl | rfl | rfl | rfl | rfl | rfl <;> exact ⟨_, rfl, by omega, by omega⟩
        have dj : D ≠ j := J0.ne hD
        have e4 : H4 D = some (.lst (zs.map V.int)) := b4 _ _ dj (by rw [upd_ne (ne_of_none (b3 _ _ dj hDl) nl)]; exact b3 _ _ dj hDl)
        have bb : But j H H4 := But.trans ((But.trans b2 b3).new nl) b4
        refine ⟨_, e4, ?_, J4.put dj, bb.put (b0.gone dj hD), zs ++ [z], ?_, by omega, ?_, ?_⟩
        · rw [sizeLine_eq, List.length_map]
          omega
        · rw [List.length_append, hz]
          rfl
        · rw [List.map_append]
          exact upd_same
        · intro y hy
          rcases List.mem_append.mp hy with h | h
          · exact hb y h
          · obtain rfl := List.mem_singleton.mp h
            exact ⟨z0, z1⟩
      · rintro H2 ⟨J2, b2, zs, hz, hz2, hDl, hb⟩
        refine ⟨D, zs, rfl, SqL.of hDl, by omega, fun ns L hp hs nL => ?_⟩
        obtain ⟨a, b, rfl⟩ : ∃ a b, zs = [a, b] := by
          match zs, hz with
          | [a, b], _ => exact ⟨a, b, rfl⟩
        obtain ⟨lo, hi, rfl, hle, hlo, hhi⟩ := two_sorted hp hs
        have ba := hb a (by simp)
        have bb := hb b (by simp)
        have mL := J2.ne nL
        refine rd_ends (n := 3) (top := 1000000000000) (j := j) (L := L) (lo := lo) (hi := hi) (by decide) (by decide) rfl rfl (J2.new nL) (b2.new nL) upd_same mL ?_ hle ?_ k
        · rcases hlo with h | h <;> omega
        · rcases hhi with h | h <;> omega
end
end LJ
set_option Elab.async false
set_option linter.all false
set_option maxRecDepth 100000
set_option maxHeartbeats 4000000
namespace LJ
open PySem L2
def menu : List Str := ["mixer", "oven", "belt", "run", "clean", "machine", "stuff", "rinse", "wash", "nuts", "milk", "a", "bar", "cake", "roll", "product", "zzzzzzzz", "rule"]
/-- the eighteen names from s on, g apart -/
def lab (s g : Int) (n : Nat) : List Str := (List.range n).map fun (k : Nat) => menu.getD ((s + g * (k : Int)) % 18).toNat Str.empty
def gaps : List Int := [1, 5, 7, 11, 13, 17]
theorem lab_nodup : ∀ s : Fin 18, ∀ g ∈ gaps, (lab (s.val : Int) g 18).Nodup := by decide +kernel
theorem lab_in (s g : Int) (n : Nat) : ∀ x ∈ lab s g n, x ∈ menu := fun x hx => by
  unfold lab at hx
  obtain ⟨k, _, rfl⟩ := List.mem_map.mp hx
  have h0 : 0 ≤ (s + g * (k : Int)) % 18 := Int.emod_nonneg _ (by decide)
  have h1 : (s + g * (k : Int)) % 18 < 18 := Int.emod_lt_of_pos _ (by decide)
  have hl : ((s + g * (k : Int)) % 18).toNat < menu.length := by
    show _ < 18
    omega
  rw [List.getD_eq_getElem?_getD, List.getElem?_eq_getElem hl]
  exact List.getElem_mem hl
theorem lab_succ (s g : Int) (n : Nat) : lab s g (n + 1) = lab s g n ++ [menu.getD ((s + g * (n : Int)) % 18).toNat Str.empty] := by
  unfold lab
  rw [List.range_succ, List.map_append]
  rfl
theorem lab_len (s g : Int) (n : Nat) : (lab s g n).length = n := by
  unfold lab
  rw [List.length_map, List.length_range]
theorem menu_at {i : Int} (h0 : 0 ≤ i) (h1 : i < 18) : atI (menu.map V.str) i = some (.str (menu.getD i.toNat Str.empty)) := by
  have hl : i.toNat < menu.length := by
    show _ < 18
    omega
  have e : atI (menu.map V.str) (i.toNat : Int) = some (.str (menu.getD i.toNat Str.empty)) := by
    refine atI_nat ?_
    rw [List.getElem?_map, List.getD_eq_getElem?_getD, List.getElem?_eq_getElem hl]
    rfl
  rwa [Int.toNat_of_nonneg h0] at e
def spLabels : Sp := fun vs H Q _ => ∃ j : Addr, vs = [.ref j] ∧ JarAt H j ∧ ∀ (p : Addr) (ls : List Str) (H1 : Hp), ls.length = 18 → ls.Nodup → (∀ x ∈ ls, x ∈ menu) → JarAt H1 j → But j H H1 → H p = none → p ≠ j → H1 p = some (.lst (ls.map V.str)) → Q (.ref p) H1
structure BltL (mg : Str → Option Value) : Prop where
  range : mg "range" = none
  int : mg "int" = none
section
variable {P : Program} {w : World} {K : PySem.W.Frag} {mg : Str → Option Value} {base : Heap}
theorem scLabels : FnScope ["_law_jar_here", "_law_menu", "_law_found", "_law_start", "_law_gap", "_law_k"] ["_law_jar_here"] (defScope sLabels) := ⟨rfl, rfl, rfl, by decide +kernel, rfl, by decide +kernel, by decide +kernel⟩
theorem ok_labels {f fD fO : Addr} {fd fdD fdO : FuncData} (F : Fun K "_law_labels" "_law_labels" sLabels f fd) (T : BltL mg)
    (GD : FnOk P w K mg base CX0 1 fD fdD ["_law_jar_here", "_law_top"] spDip) (mD : mg "_law_dip" = some (.ref fD)) (kD : PySem.W.keepIn K (.ref fD) = true) (bD : Binds K fdD ["_law_jar_here", "_law_top"] [])
    (GO : FnOk P w K mg base CX0 2 fO fdO ["_law_jar_here", "_law_some"] spOne) (mO : mg "_law_one_of" = some (.ref fO)) (kO : PySem.W.keepIn K (.ref fO) = true) (bO : Binds K fdO ["_law_jar_here", "_law_some"] []) :
    FnOk P w K mg base CX0 3 f fd ["_law_jar_here"] spLabels := by
  refine F.ok scLabels (fun vs H Q E h => ?_) (fun cdv A outer s H vs Q E hr h => ?_)
  · obtain ⟨j, rfl, _⟩ := h
    rfl
  · obtain ⟨j, rfl, J, k⟩ := h
    have hr1 : Room 1 _ := hr.mono (by decide)
    have big : ∀ {n : Nat}, n ≤ 100 → n ≤ sizeLine := fun h => by rw [sizeLine_eq]; omega
    refine ⟨_, pss_cons (ps_par (i := 1) (j := 2) (by rfl) scLabels.nd rfl rfl (by decide) rfl rfl (pa_cons (pe_lst (pa_cons pe_str (pa_cons pe_str (pa_cons pe_str (pa_cons pe_str (pa_cons pe_str (pa_cons pe_str (pa_cons pe_str (pa_cons pe_str (pa_cons pe_str (pa_cons pe_str (pa_cons pe_str pa_nil)))))))))))) (pa_cons (pe_lst pa_nil) pa_nil)) (by rfl))
      (pss_cons (ps_set (i := 1) scLabels.nd rfl (Or.inl rfl) (pe_op op_cat (pv 1) (pe_lst (pa_cons pe_str (pa_cons pe_str (pa_cons pe_str (pa_cons pe_str (pa_cons pe_str (pa_cons pe_str (pa_cons pe_str pa_nil)))))))))
      )
      (pss_cons (ps_par (i := 3) (j := 4) (by rfl) scLabels.nd rfl rfl (by decide) rfl rfl (pa_cons (pe_call GD hr1 (by rfl) mD kD bD .nil pass0 (pa_cons (pv 0) (pa_cons pe_int pa_nil))) (pa_cons (pe_call GO hr (by rfl) mO kO bO .nil pass0 (pa_cons (pv 0) (pa_cons (pe_lst (pa_cons pe_int (pa_cons pe_int (pa_cons pe_int (pa_cons pe_int (pa_cons pe_int (pa_cons pe_int pa_nil))))))) pa_nil))) pa_nil)) (by rfl))
      (pss_cons (ps_for PassesOwn.never rfl (pi_range1 (by rfl) T.range (pa_cons pe_int pa_nil)) (pg_name (i := 5) scLabels.nd rfl (Or.inl rfl))
        (pss_one (ps_expr (pe_bm PySem.F.plainAttrs_list PySem.F.slot_list_append PySem.F.type_list_append mt_append (pv 2) (pa_cons (pe_ix ix_list (pv 1) (pe_op op_mod (pe_callTy call_int1 (by rfl) T.int (by decide +kernel) (pa_cons (pe_op op_add (pv 3) (pe_op op_mul (pv 4) (pv 5))) pa_nil)) pe_int) (fun _ _ => rfl)) pa_nil)))))
      (pss_one (ps_ret (pv 2)))))), ?_⟩
    refine ⟨big (Nat.le_of_ble_eq_true rfl), fun p1 n1 => ⟨big (Nat.le_of_ble_eq_true rfl), fun p2 n2 => ?_⟩⟩
    refine ⟨_, _, rfl, ?_⟩
    refine ⟨_, rfl, big (Nat.le_of_ble_eq_true rfl), fun p3 n3 => ?_⟩
    refine ⟨p1, p3, _, _, rfl, rfl, (by rw [upd_ne (ne_of_none (by rw [upd_ne (ne_of_none upd_same n2)]; exact upd_same) n3), upd_ne (ne_of_none upd_same n2)]; exact upd_same), upd_same, big (Nat.le_of_ble_eq_true rfl), fun p4 n4 => ?_⟩
    obtain ⟨H4, s4, e2, e4, N2, ne24, hG⟩ : ∃ H4 : Hp, Same H H4 ∧ H4 p2 = some (.lst []) ∧ H4 p4 = some (.lst (menu.map V.str)) ∧ H p2 = none ∧ p2 ≠ p4 ∧ H4 = upd (upd (upd (upd H p1 (.lst [.str "mixer", .str "oven", .str "belt", .str "run", .str "clean", .str "machine", .str "stuff", .str "rinse", .str "wash", .str "nuts", .str "milk"])) p2 (.lst [])) p3 (.lst [.str "a", .str "bar", .str "cake", .str "roll", .str "product", .str "zzzzzzzz", .str "rule"])) p4
        (.lst ([.str "mixer", .str "oven", .str "belt", .str "run", .str "clean", .str "machine", .str "stuff", .str "rinse", .str "wash", .str "nuts", .str "milk"] ++ [.str "a", .str "bar", .str "cake", .str "roll", .str "product", .str "zzzzzzzz", .str "rule"])) := by
      have N2 : H p2 = none := by
        cases e : H p2 with
        | none => rfl
        | some o =>
          rw [upd_ne (ne_of_none e n1), e] at n2
          cases n2
      have S1 := fun (b : Addr) (o : HO) (e : H b = some o) => (show (upd H p1 (.lst [.str "mixer", .str "oven", .str "belt", .str "run", .str "clean", .str "machine", .str "stuff", .str "rinse", .str "wash", .str "nuts", .str "milk"])) b = some o by rw [upd_ne (ne_of_none e n1)]; exact e)
      have S2 : Same H (upd (upd H p1 (.lst [.str "mixer", .str "oven", .str "belt", .str "run", .str "clean", .str "machine", .str "stuff", .str "rinse", .str "wash", .str "nuts", .str "milk"])) p2 (.lst [])) := fun b o e => by
        rw [upd_ne (ne_of_none (S1 b o e) n2)]
        exact S1 b o e
      have S3 := fun (b : Addr) (o : HO) (e : H b = some o) => ne_of_none (S2 b o e) n3
      have X2 : (upd (upd (upd H p1 (.lst [.str "mixer", .str "oven", .str "belt", .str "run", .str "clean", .str "machine", .str "stuff", .str "rinse", .str "wash", .str "nuts", .str "milk"])) p2 (.lst [])) p3 (.lst [.str "a", .str "bar", .str "cake", .str "roll", .str "product", .str "zzzzzzzz", .str "rule"])) p2 = some (.lst []) := by
        rw [upd_ne (ne_of_none upd_same n3)]
        exact upd_same
      refine ⟨_, fun b o e => ?_, ?_, upd_same, N2, ne_of_none X2 n4, rfl⟩
      · have z : (upd (upd (upd H p1 (.lst [.str "mixer", .str "oven", .str "belt", .str "run", .str "clean", .str "machine", .str "stuff", .str "rinse", .str "wash", .str "nuts", .str "milk"])) p2 (.lst [])) p3 (.lst [.str "a", .str "bar", .str "cake", .str "roll", .str "product", .str "zzzzzzzz", .str "rule"])) b = some o := by
          rw [upd_ne (S3 b o e)]
          exact S2 b o e
        rw [upd_ne (ne_of_none z n4)]
        exact z
      · rw [upd_ne (ne_of_none X2 n4)]
        exact X2
    rw [← hG]
    clear hG n1 n2 n3 n4
    have J4 : JarAt H4 j := by
      obtain ⟨d0, m0, c0, hj0, r0⟩ := J
      exact ⟨d0, m0, c0, s4 _ _ hj0, r0⟩
    have m2 : p2 ≠ j := J.ne N2
    have m4 : p4 ≠ j := by
      intro z
      obtain ⟨d0, m0, c0, hj0, _⟩ := J4
      rw [z, hj0] at e4
      cases e4
    refine ⟨_, rfl, j, 18, rfl, J4, by decide, by decide, fun s H5 s0 s1 J5 b5 => ⟨_, rfl, big (Nat.le_of_ble_eq_true rfl), fun l nl => ?_⟩⟩
    have ml := J5.ne nl
    refine ⟨j, l, _, rfl, J5.new nl, upd_same, ml, by exact (by decide : 0 < 6), by exact (by decide : 6 < 100000), fun n v H6 hv J6 b6 => ?_⟩
    obtain ⟨g, hg, rfl⟩ : ∃ g, g ∈ gaps ∧ v = V.int g := by
      have hm : v ∈ gaps.map V.int := List.mem_of_getElem? hv
      obtain ⟨g, h1, h2⟩ := List.mem_map.mp hm
      exact ⟨g, h1, h2.symm⟩
    have b56 : But j H4 H6 := But.trans (b5.new nl) b6
    have f2 := b56 _ _ m2 e2
    have f4 := b56 _ _ m4 e4
    have bH : But j H H6 := fun b o n e => b56 b o n (s4 b o e)
    have gb : -(2 ^ 64) < g ∧ g < 2 ^ 64 := by
      simp only [gaps, List.mem_cons, List.not_mem_nil, or_false] at hg
      omega
    refine ⟨_, _, rfl, ?_⟩
    refine ⟨18, rfl, by decide, by decide, for_range (lo := 0) (n := 18) (fun n σ H7 => ∃ v5 : Option V, σ = [some (.ref j), some (.ref p4), some (.ref p2), some (.int s), some (.int g), v5] ∧ JarAt H7 j ∧ But j H H7 ∧ H7 p4 = some (.lst (menu.map V.str)) ∧ H7 p2 = some (.lst ((lab s g n).map V.str)))
      ⟨_, rfl, J6, bH, f4, f2⟩ ?_ ?_⟩
    · rintro n σ H7 hn ⟨v5, rfl, J7, b7, g4, g2⟩
      have e0 : (0 : Int) + (n : Int) = (n : Int) := by omega
      rw [e0]
      refine ⟨_, rfl, .inl ⟨rfl, _, SqL.of g2⟩, _, rfl, _, rfl, _, rfl, _, rfl, _, _, rfl, rfl, .inl gb, _, _, rfl, rfl, .inl ⟨_, rfl, ?_⟩⟩
      have i0 : 0 ≤ (s + g * (n : Int)) % 18 := Int.emod_nonneg _ (by decide)
      have i1 : (s + g * (n : Int)) % 18 < 18 := Int.emod_lt_of_pos _ (by decide)
      refine ⟨_, _, rfl, rfl, (by show (0 : Int) < 18; decide), p4, _, _, _, rfl, rfl, SqL.of g4, menu_at i0 i1, p2, _, _, rfl, rfl, g2, ?_, ?_⟩
      · rw [sizeLine_eq, List.length_map, lab_len]
        omega
      · refine ⟨_, rfl, J7.put m2, b7.put N2, ?_, ?_⟩
        · rw [upd_ne ne24.symm]
          exact g4
        · rw [lab_succ, List.map_append]
          exact upd_same
    · rintro σ H7 ⟨v5, rfl, J7, b7, g4, g2⟩
      refine ⟨_, rfl, ?_⟩
      have hs : (lab s g 18).Nodup := by
        have z := lab_nodup ⟨s.toNat, by omega⟩ g hg
        have e : ((s.toNat : Nat) : Int) = s := Int.toNat_of_nonneg s0
        simpa only [e] using z
      exact k p2 (lab s g 18) H7 (lab_len s g 18) hs (lab_in s g 18) J7 b7 N2 m2 g2
end
end LJ
set_option Elab.async false
set_option linter.all false
set_option maxRecDepth 100000
set_option maxHeartbeats 4000000
namespace LJ
open PySem L2
abbrev sWorld : Stmt := top 43
/-- drawn works, as data -/
structure Wd where
  ms : List (Str × Int × Int)
  cs : List (Str × Int × Int)
  ss : List (Str × Int)
  ps : List (Str × List (Int × Int))
def Row3 (H : Hp) (v : V) (r : Str × Int × Int) : Prop := ∃ a : Addr, v = .ref a ∧ H a = some (.tup [.str r.1, .int r.2.1, .int r.2.2])
def Row2 (H : Hp) (v : V) (r : Str × Int) : Prop := ∃ a : Addr, v = .ref a ∧ H a = some (.tup [.str r.1, .int r.2])
def Bnd (H : Hp) (v : V) (r : Int × Int) : Prop := ∃ a : Addr, v = .ref a ∧ H a = some (.tup [.int r.1, .int r.2])
def RowP (H : Hp) (v : V) (r : Str × List (Int × Int)) : Prop := ∃ (a t : Addr) (vs : List V), v = .ref a ∧ H a = some (.tup [.str r.1, .ref t]) ∧ H t = some (.tup vs) ∧ Paired (Bnd H) vs r.2
/-- all tuples stay -/
def Tup (H H1 : Hp) : Prop := ∀ b xs, H b = some (.tup xs) → H1 b = some (.tup xs)
theorem Tup.of {j : Addr} {H H1 : Hp} (J : JarAt H j) (b : But j H H1) : Tup H H1 := fun a xs e => b a _ (fun z => by
  obtain ⟨d, m, c, q, _⟩ := J
  rw [z, q] at e
  cases e) e
theorem Tup.new {H : Hp} {p : Addr} {o : HO} (n : H p = none) : Tup H (upd H p o) := fun a xs e => by
  rw [upd_ne (ne_of_none e n)]
  exact e
theorem Tup.put {H : Hp} {p : Addr} {o : HO} {ys : List V} (n : H p = some (.lst ys)) : Tup H (upd H p o) := fun a xs e => by
  have m : a ≠ p := fun z => by
    rw [z, n] at e
    cases e
  rw [upd_ne m]
  exact e
theorem Tup.trans {H H1 H2 : Hp} (s : Tup H H1) (t : Tup H1 H2) : Tup H H2 := fun a xs e => t a xs (s a xs e)
theorem Row3.seq {H H1 : Hp} {v : V} {r : Str × Int × Int} (t : Tup H H1) (h : Row3 H v r) : Row3 H1 v r := by
  obtain ⟨a, e, q⟩ := h
  exact ⟨a, e, t _ _ q⟩
theorem Row2.seq {H H1 : Hp} {v : V} {r : Str × Int} (t : Tup H H1) (h : Row2 H v r) : Row2 H1 v r := by
  obtain ⟨a, e, q⟩ := h
  exact ⟨a, e, t _ _ q⟩
theorem Bnd.seq {H H1 : Hp} {v : V} {r : Int × Int} (t : Tup H H1) (h : Bnd H v r) : Bnd H1 v r := by
  obtain ⟨a, e, q⟩ := h
  exact ⟨a, e, t _ _ q⟩
theorem RowP.seq {H H1 : Hp} {v : V} {r : Str × List (Int × Int)} (t : Tup H H1) (h : RowP H v r) : RowP H1 v r := by
  obtain ⟨a, b, vs, e, q, s, p⟩ := h
  exact ⟨a, b, vs, e, t _ _ q, t _ _ s, L2.Paired.mapP p fun x y z => Bnd.seq t z⟩
theorem Paired.snoc {α β : Type} {F : α → β → Prop} : ∀ {xs : List α} {ys : List β} {x : α} {y : β}, Paired F xs ys → F x y → Paired F (xs ++ [x]) (ys ++ [y])
  | _, _, _, _, .nil, h => .cons h .nil
  | _, _, _, _, .cons r t, h => .cons r (Paired.snoc t h)
/-- so many rows: the names one behind another from a place on -/
def Rows3 (H : Hp) (p : Addr) (ls : List Str) (off n : Nat) (ms : List (Str × Int × Int)) : Prop := (∃ vs, H p = some (.lst vs) ∧ vs.length = n ∧ Paired (Row3 H) vs ms) ∧ ms.map (·.1) = (ls.drop off).take n ∧ ∀ r ∈ ms, 0 ≤ r.2.1 ∧ r.2.1 ≤ r.2.2 ∧ r.2.2 ≤ 1000
def Rows2 (H : Hp) (p : Addr) (ls : List Str) (off n : Nat) (ss : List (Str × Int)) : Prop := (∃ vs, H p = some (.lst vs) ∧ vs.length = n ∧ Paired (Row2 H) vs ss) ∧ ss.map (·.1) = (ls.drop off).take n ∧ ∀ r ∈ ss, 0 ≤ r.2 ∧ r.2 ≤ 1000000000000
def RowsP (H : Hp) (p : Addr) (ls : List Str) (off n many : Nat) (ps : List (Str × List (Int × Int))) : Prop := (∃ vs, H p = some (.lst vs) ∧ vs.length = n ∧ Paired (RowP H) vs ps) ∧ ps.map (·.1) = (ls.drop off).take n ∧
  ∀ r ∈ ps, r.2.length = many ∧ ∀ b ∈ r.2, 0 ≤ b.1 ∧ b.1 ≤ b.2 ∧ b.2 ≤ 1000000000000
theorem names_succ {ls : List Str} {off n : Nat} {x : Str} (h : ls[off + n]? = some x) : (ls.drop off).take (n + 1) = (ls.drop off).take n ++ [x] := by
  rw [List.take_succ, List.getElem?_drop, h]
  rfl
theorem lab_at {ls : List Str} {i : Int} {n : Nat} {x : Str} (e : i = (n : Int)) (h : ls[n]? = some x) : atI (ls.map V.str) i = some (.str x) := by
  rw [e]
  refine atI_nat ?_
  rw [List.getElem?_map, h]
  rfl
theorem Rows3.but {j : Addr} {H H1 : Hp} {p : Addr} {ls : List Str} {off n : Nat} {ms : List (Str × Int × Int)} (J : JarAt H j) (b : But j H H1) (m : p ≠ j) (h : Rows3 H p ls off n ms) : Rows3 H1 p ls off n ms := by
  obtain ⟨⟨vs, h1, h2, h3⟩, h4⟩ := h
  exact ⟨⟨vs, b _ _ m h1, h2, L2.Paired.mapP h3 fun x y z => Row3.seq (Tup.of J b) z⟩, h4⟩
theorem Rows2.but {j : Addr} {H H1 : Hp} {p : Addr} {ls : List Str} {off n : Nat} {ms : List (Str × Int)} (J : JarAt H j) (b : But j H H1) (m : p ≠ j) (h : Rows2 H p ls off n ms) : Rows2 H1 p ls off n ms := by
  obtain ⟨⟨vs, h1, h2, h3⟩, h4⟩ := h
  exact ⟨⟨vs, b _ _ m h1, h2, L2.Paired.mapP h3 fun x y z => Row2.seq (Tup.of J b) z⟩, h4⟩
theorem RowsP.but {j : Addr} {H H1 : Hp} {p : Addr} {ls : List Str} {off n many : Nat} {ms : List (Str × List (Int × Int))} (J : JarAt H j) (b : But j H H1) (m : p ≠ j) (h : RowsP H p ls off n many ms) : RowsP H1 p ls off n many ms := by
  obtain ⟨⟨vs, h1, h2, h3⟩, h4⟩ := h
  exact ⟨⟨vs, b _ _ m h1, h2, L2.Paired.mapP h3 fun x y z => RowP.seq (Tup.of J b) z⟩, h4⟩
def WorldAt (H : Hp) (p : Addr) (W : Wd) : Prop := ∃ (a b c d : Addr) (va vb vc vd : List V), H p = some (.lst [.ref a, .ref b, .ref c, .ref d]) ∧ H a = some (.lst va) ∧ Paired (Row3 H) va W.ms ∧ H b = some (.lst vb) ∧ Paired (Row3 H) vb W.cs ∧
  H c = some (.lst vc) ∧ Paired (Row2 H) vc W.ss ∧ H d = some (.lst vd) ∧ Paired (RowP H) vd W.ps
structure Good (W : Wd) : Prop where
  m1 : 1 ≤ W.ms.length
  m2 : W.ms.length ≤ 6
  c2 : W.cs.length ≤ 3
  s1 : 1 ≤ W.ss.length
  s2 : W.ss.length ≤ 2
  p1 : 1 ≤ W.ps.length
  p2 : W.ps.length ≤ 4
  mb : ∀ r ∈ W.ms, 0 ≤ r.2.1 ∧ r.2.1 ≤ r.2.2 ∧ r.2.2 ≤ 1000
  cb : ∀ r ∈ W.cs, 0 ≤ r.2.1 ∧ r.2.1 ≤ r.2.2 ∧ r.2.2 ≤ 1000
  sb : ∀ r ∈ W.ss, 0 ≤ r.2 ∧ r.2 ≤ 1000000000000
  pb : ∀ r ∈ W.ps, r.2.length = W.ss.length ∧ ∀ b ∈ r.2, 0 ≤ b.1 ∧ b.1 ≤ b.2 ∧ b.2 ≤ 1000000000000
  nd : (W.ms.map (·.1) ++ (W.cs.map (·.1) ++ (W.ss.map (·.1) ++ W.ps.map (·.1)))).Nodup
  nm : ∀ x ∈ W.ms.map (·.1) ++ (W.cs.map (·.1) ++ (W.ss.map (·.1) ++ W.ps.map (·.1))), x ∈ menu
theorem Paired.len {α β : Type} {F : α → β → Prop} : ∀ {xs : List α} {ys : List β}, Paired F xs ys → xs.length = ys.length
  | _, _, .nil => rfl
  | _, _, .cons _ t => by rw [List.length_cons, List.length_cons, Paired.len t]
/-- names from four stretches of one row without doubles -/
theorem four_nodup {ls : List Str} (hl : ls.length = 18) (nd : ls.Nodup) {n1 n2 n3 n4 : Nat} (h1 : n1 ≤ 6) (h2 : n2 ≤ 3) (h3 : n3 ≤ 3) (h4 : n4 ≤ 6) :
    (ls.take n1 ++ ((ls.drop 6).take n2 ++ ((ls.drop 9).take n3 ++ (ls.drop 12).take n4))).Sublist ls := by
  have e1 : ls = ls.take 6 ++ ls.drop 6 := (List.take_append_drop 6 ls).symm
  have e2 : ls.drop 6 = (ls.drop 6).take 3 ++ ls.drop 9 := by
    have z := (List.take_append_drop 3 (ls.drop 6)).symm
    rw [List.drop_drop] at z
    exact z
  have e3 : ls.drop 9 = (ls.drop 9).take 3 ++ ls.drop 12 := by
    have z := (List.take_append_drop 3 (ls.drop 9)).symm
    rw [List.drop_drop] at z
    exact z
  have t : ∀ {xs : List Str} {a b : Nat}, a ≤ b → (xs.take a).Sublist (xs.take b) := fun {xs a b} h => by
    have z : xs.take a = (xs.take b).take a := by rw [List.take_take, Nat.min_eq_left h]
    rw [z]
    exact List.take_sublist _ _
  have s3 : ((ls.drop 9).take n3 ++ (ls.drop 12).take n4).Sublist (ls.drop 9) := by
    conv => rhs; rw [e3]
    exact (t h3).append (List.take_sublist _ _)
  have s2 : ((ls.drop 6).take n2 ++ ((ls.drop 9).take n3 ++ (ls.drop 12).take n4)).Sublist (ls.drop 6) := by
    conv => rhs; rw [e2]
    exact (t h2).append s3
  conv => rhs; rw [e1]
  exact (t h1).append s2
def spWorld : Sp := fun vs H Q _ => ∃ (j : Addr) (m : Int), vs = [.ref j, .int m] ∧ JarAt H j ∧ 0 < m ∧ m ≤ 6 ∧ ∀ (p : Addr) (W : Wd) (H1 : Hp), WorldAt H1 p W → Good W → JarAt H1 j → But j H H1 → H p = none → p ≠ j → Q (.ref p) H1
structure BltW (mg : Str → Option Value) : Prop where
  range : mg "range" = none
  tuple : mg "tuple" = none
section
variable {P : Program} {w : World} {K : PySem.W.Frag} {mg : Str → Option Value} {base : Heap}
theorem scWorld : FnScope ["_law_jar_here", "_law_most", "_law_labels_here", "_law_many", "_law_k", "_law_machines_here", "_law_cleanings_here", "_law_stuffs_here", "_law_goods", "_law_each"] ["_law_jar_here", "_law_most"] (defScope sWorld) := ⟨rfl, rfl, rfl, by decide +kernel, rfl, by decide +kernel, by decide +kernel⟩

theorem ok_world {f fD fO fL fS fN : Addr} {fd fdD fdO fdL fdS fdN : FuncData} (F : Fun K "_law_world" "_law_world" sWorld f fd) (T : BltW mg)
    (GD : FnOk P w K mg base CX0 1 fD fdD ["_law_jar_here", "_law_top"] spDip) (mD : mg "_law_dip" = some (.ref fD)) (kD : PySem.W.keepIn K (.ref fD) = true) (bD : Binds K fdD ["_law_jar_here", "_law_top"] [])
    (GO : FnOk P w K mg base CX0 2 fO fdO ["_law_jar_here", "_law_some"] spOne) (mO : mg "_law_one_of" = some (.ref fO)) (kO : PySem.W.keepIn K (.ref fO) = true) (bO : Binds K fdO ["_law_jar_here", "_law_some"] [])
    (GL : FnOk P w K mg base CX0 3 fL fdL ["_law_jar_here"] spLabels) (mL : mg "_law_labels" = some (.ref fL)) (kL : PySem.W.keepIn K (.ref fL) = true) (bL : Binds K fdL ["_law_jar_here"] [])
    (GS : FnOk P w K mg base CX0 3 fS fdS ["_law_jar_here"] (spBounds 1000)) (mS : mg "_law_shares" = some (.ref fS)) (kS : PySem.W.keepIn K (.ref fS) = true) (bS : Binds K fdS ["_law_jar_here"] [])
    (GN : FnOk P w K mg base CX0 3 fN fdN ["_law_jar_here"] (spBounds 1000000000000)) (mN : mg "_law_inside" = some (.ref fN)) (kN : PySem.W.keepIn K (.ref fN) = true) (bN : Binds K fdN ["_law_jar_here"] []) :
    FnOk P w K mg base CX0 4 f fd ["_law_jar_here", "_law_most"] spWorld := by
  refine F.ok scWorld (fun vs H Q E h => ?_) (fun cdv A outer s H vs Q E hr h => ?_)
  · obtain ⟨j, m, rfl, _⟩ := h
    rfl
  · obtain ⟨j, m, rfl, J, m0, m6, k⟩ := h
    have hr1 : Room 1 _ := hr.mono (by decide)
    have hr2 : Room 2 _ := hr.mono (by decide)
    have big : ∀ {n : Nat}, n ≤ 100 → n ≤ sizeLine := fun h => by rw [sizeLine_eq]; omega
    refine ⟨_, pss_cons (ps_asg (pe_tup (pa_cons (pe_call GL hr (by rfl) mL kL bL .nil pass0 (pa_cons (pv 0) pa_nil)) (pa_cons (pe_op op_add pe_int (pe_call GD hr1 (by rfl) mD kD bD .nil pass0 (pa_cons (pv 0) (pa_cons (pv 1) pa_nil)))) pa_nil))) (pg_tup (by rfl) (pgs_cons (pg_name (i := 2) scWorld.nd rfl (Or.inr rfl)) (pgs_cons (pg_name (i := 3) scWorld.nd rfl (Or.inl rfl)) pgs_nil))))
      (pss_cons (ps_setLc (i := 5) (own := [("_law_k", 4)]) (g := gName 4) (by rfl) scWorld.nd rfl rfl (sw_true rfl rfl rfl (by decide +kernel)) (pi_range1 (by rfl) T.range (pa_cons (pv 3) pa_nil)) (blkOk_by (own := [("_law_k", 4)]) (N := ["_law_jar_here", "_law_most", "_law_labels_here", "_law_many", "_law_k", "_law_machines_here", "_law_cleanings_here", "_law_stuffs_here", "_law_goods", "_law_each"]) (sc := defScope sWorld) (by decide +kernel)) (fun _ _ _ _ _ => pg_name (i := 4) scWorld.nd rfl (Or.inl rfl)) (fun _ _ _ _ _ => pts_nil) (fun _ _ _ _ _ => pe_op (show OpR _ _ (rCatT K) from op_catT) (pe_tup (pa_cons (pe_ix (show IxR _ (rIxL K) from ix_list) (pv 2) (pv 4) (fun _ _ => rfl)) pa_nil)) (pe_call GS hr (by rfl) mS kS bS .nil pass0 (pa_cons (pv 0) pa_nil))))
      (pss_cons (ps_setLc (i := 6) (own := [("_law_k", 4)]) (g := gName 4) (by rfl) scWorld.nd rfl rfl (sw_true rfl rfl rfl (by decide +kernel)) (pi_range1 (by rfl) T.range (pa_cons (pe_call GD hr1 (by rfl) mD kD bD .nil pass0 (pa_cons (pv 0) (pa_cons pe_int pa_nil))) pa_nil)) (blkOk_by (own := [("_law_k", 4)]) (N := ["_law_jar_here", "_law_most", "_law_labels_here", "_law_many", "_law_k", "_law_machines_here", "_law_cleanings_here", "_law_stuffs_here", "_law_goods", "_law_each"]) (sc := defScope sWorld) (by decide +kernel)) (fun _ _ _ _ _ => pg_name (i := 4) scWorld.nd rfl (Or.inl rfl)) (fun _ _ _ _ _ => pts_nil) (fun _ _ _ _ _ => pe_op (show OpR _ _ (rCatT K) from op_catT) (pe_tup (pa_cons (pe_ix (show IxR _ (rIxL K) from ix_list) (pv 2) (pe_op op_add pe_int (pv 4)) (fun _ _ => rfl)) pa_nil)) (pe_call GS hr (by rfl) mS kS bS .nil pass0 (pa_cons (pv 0) pa_nil))))
      (pss_cons (ps_par (i := 7) (j := 8) (by rfl) scWorld.nd rfl rfl (by decide) rfl rfl (pa_cons (pe_lst pa_nil) (pa_cons (pe_lst pa_nil) pa_nil)) (by rfl))
      (pss_cons (ps_for PassesOwn.never rfl (pi_range1 (by rfl) T.range (pa_cons (pe_op op_add pe_int (pe_call GD hr1 (by rfl) mD kD bD .nil pass0 (pa_cons (pv 0) (pa_cons pe_int pa_nil)))) pa_nil)) (pg_name (i := 4) scWorld.nd rfl (Or.inl rfl)) (pss_one (ps_expr (pe_bm PySem.F.plainAttrs_list PySem.F.slot_list_append PySem.F.type_list_append mt_append (pv 7) (pa_cons (pe_tup (pa_cons (pe_ix (show IxR _ (rIxL K) from ix_list) (pv 2) (pe_op op_add pe_int (pv 4)) (fun _ _ => rfl)) (pa_cons (pe_call GO hr2 (by rfl) mO kO bO .nil pass0 (pa_cons (pv 0) (pa_cons (pe_lst (pa_cons pe_int (pa_cons pe_int (pa_cons pe_int (pa_cons pe_int (pa_cons (pe_op op_pow pe_int pe_int) pa_nil)))))) pa_nil))) pa_nil))) pa_nil)))))
      (pss_cons (ps_for PassesOwn.never rfl (pi_range1 (by rfl) T.range (pa_cons (pe_op op_add pe_int (pe_call GD hr1 (by rfl) mD kD bD .nil pass0 (pa_cons (pv 0) (pa_cons pe_int pa_nil)))) pa_nil)) (pg_name (i := 4) scWorld.nd rfl (Or.inl rfl)) (pss_one (ps_expr (pe_bm PySem.F.plainAttrs_list PySem.F.slot_list_append PySem.F.type_list_append mt_append (pv 8) (pa_cons (pe_tup (pa_cons (pe_ix (show IxR _ (rIxL K) from ix_list) (pv 2) (pe_op op_add pe_int (pv 4)) (fun _ _ => rfl)) (pa_cons (pe_callTy call_tuple_of (by rfl) T.tuple (by decide +kernel) (pa_cons (pe_lc (own := [("_law_each", 9)]) (g := gName 9) (by rfl) scWorld.nd (pi_list (pv 7)) (blkOk_by (own := [("_law_each", 9)]) (N := ["_law_jar_here", "_law_most", "_law_labels_here", "_law_many", "_law_k", "_law_machines_here", "_law_cleanings_here", "_law_stuffs_here", "_law_goods", "_law_each"]) (sc := defScope sWorld) (by decide +kernel)) (fun _ _ _ _ _ => pg_name (i := 9) scWorld.nd rfl (Or.inl rfl)) (fun _ _ _ _ _ => pts_nil) (fun _ _ _ _ _ => pe_call GN hr (by rfl) mN kN bN .nil pass0 (pa_cons (pv 0) pa_nil))) pa_nil)) pa_nil))) pa_nil)))))
      (pss_one (ps_ret (pe_lst (pa_cons (pv 5) (pa_cons (pv 6) (pa_cons (pv 7) (pa_cons (pv 8) pa_nil)))))))))))), ?_⟩
    refine ⟨_, rfl, j, rfl, J, fun pl ls H1 hls hnd hin J1 b1 npl nl eL1 => ?_⟩
    refine ⟨_, rfl, _, rfl, j, m, rfl, J1, m0, by omega, fun r H2 r0 r1 J2 b2 => ⟨_, _, rfl, rfl, big (Nat.le_of_ble_eq_true rfl), fun t nt => ?_⟩⟩
    have eL2 := b2 _ _ nl eL1
    have eL3 : (upd H2 t (.tup [.ref pl, .int (1 + r)])) pl = some (.lst (ls.map V.str)) := by
      rw [upd_ne (ne_of_none eL2 nt)]
      exact eL2
    have B3 : But j H (upd H2 t (.tup [.ref pl, .int (1 + r)])) := (But.trans b1 b2).new nt
    have J3 : JarAt (upd H2 t (.tup [.ref pl, .int (1 + r)])) j := J2.new nt
    refine ⟨t, _, rfl, SqT.of upd_same, rfl, _, _, rfl, _, _, rfl, rfl, ?_⟩
    generalize upd H2 t (.tup [.ref pl, .int (1 + r)]) = H3 at eL3 B3 J3 ⊢
    refine ⟨_, rfl, _, rfl, by omega, by omega, fun D hD => lc_range (lo := 0) (fun n H2 => JarAt H2 j ∧ But j H3 H2 ∧ ∃ ms, Rows3 H2 D ls 0 n ms)
      ⟨J3.new hD, But.refl.new hD, [], ⟨⟨[], upd_same, rfl, .nil⟩, rfl, fun r hr => nomatch hr⟩⟩ ?_ ?_⟩
    · rintro n H2 hn ⟨J2, b2, ms, ⟨vs, hv, hvl, hpr⟩, hnm, hbd⟩
      have nle : 0 + n < 18 := by omega
      obtain ⟨x, hx⟩ : ∃ x, ls[0 + n]? = some x := ⟨ls[0 + n]'(by omega), List.getElem?_eq_getElem (by omega)⟩
      have dD : D ≠ j := J3.ne hD
      have eL := b2 _ _ nl eL3
      refine ⟨rfl, ?_⟩
      refine ⟨_, rfl, _, rfl, pl, _, _, _, rfl, rfl, SqL.of eL, lab_at (by omega) hx, big (Nat.le_of_ble_eq_true rfl), fun t1 nt1 => ?_⟩
      have mt1 := J2.ne nt1
      refine ⟨_, rfl, j, rfl, J2.new nt1, fun p lo hi G3 l0 l1 l2 JG bG np mp e3 => ?_⟩
      have e1 := bG _ _ mt1 upd_same
      refine ⟨t1, p, _, _, rfl, rfl, SqT.of e1, SqT.of e3, (by simp), big (Nat.le_of_ble_eq_true rfl), (fun z => by cases z), fun _ q nq => ?_⟩
      have mq := JG.ne nq
      have bb : But j H3 (upd G3 q (.tup [.str x, .int lo, .int hi])) := (But.trans (b2.new nt1) bG).new nq
      have eD : (upd G3 q (.tup [.str x, .int lo, .int hi])) D = some (.lst vs) := by
        have z := bG _ _ dD (show (upd H2 t1 (.tup [.str x])) D = some (.lst vs) by rw [upd_ne (ne_of_none hv nt1)]; exact hv)
        rw [upd_ne (ne_of_none z nq)]
        exact z
      have tt : Tup H2 (upd G3 q (.tup [.str x, .int lo, .int hi])) := Tup.trans (Tup.new nt1) (Tup.trans (Tup.of (J2.new nt1) bG) (Tup.new nq))
      have hq : (upd G3 q (.tup [.str x, .int lo, .int hi])) q = some (.tup [.str x, .int lo, .int hi]) := upd_same
      have J4 := JG.new nq (o := .tup [.str x, .int lo, .int hi])
      refine ⟨vs, eD, ?_, J4.put dD, bb.put hD, ms ++ [(x, lo, hi)], ⟨⟨vs ++ [.ref q], upd_same, by rw [List.length_append, hvl]; rfl, ?_⟩, ?_, ?_⟩⟩
      · rw [sizeLine_eq, hvl]
        omega
      · have t5 : Tup (upd G3 q (.tup [.str x, .int lo, .int hi])) (upd (upd G3 q (.tup [.str x, .int lo, .int hi])) D (.lst (vs ++ [.ref q]))) := Tup.put eD
        exact Paired.snoc (L2.Paired.mapP hpr fun a b z => Row3.seq (Tup.trans tt t5) z) ⟨q, rfl, t5 _ _ hq⟩
      · rw [List.map_append, hnm, names_succ hx]
        rfl
      · intro r hr
        rcases List.mem_append.mp hr with h | h
        · exact hbd r h
        · obtain rfl := List.mem_singleton.mp h
          exact ⟨l0, l1, l2⟩
    · rintro H4 ⟨J4, b4, ms, R4⟩
      have dD : D ≠ j := J3.ne hD
      have eL4 := b4 _ _ nl eL3
      refine ⟨_, rfl, j, 4, rfl, J4, by decide, by decide, fun r2 H5 q0 q1 J5 b5 => ⟨_, rfl, by omega, by omega, fun D2 hD2 => lc_range (lo := 0) (fun n H2 => JarAt H2 j ∧ But j H5 H2 ∧ ∃ ms, Rows3 H2 D2 ls 6 n ms)
      ⟨J5.new hD2, But.refl.new hD2, [], ⟨⟨[], upd_same, rfl, .nil⟩, rfl, fun r hr => nomatch hr⟩⟩ ?_ ?_⟩⟩
      · rintro n H2 hn ⟨J2, b2, ms, ⟨vs, hv, hvl, hpr⟩, hnm, hbd⟩
        have nle : 6 + n < 18 := by omega
        obtain ⟨x, hx⟩ : ∃ x, ls[6 + n]? = some x := ⟨ls[6 + n]'(by omega), List.getElem?_eq_getElem (by omega)⟩
        have dD2 : D2 ≠ j := J5.ne hD2
        have eL := b2 _ _ nl (b5 _ _ nl eL4)
        refine ⟨rfl, ?_⟩
        refine ⟨_, rfl, _, rfl, _, _, rfl, rfl, pl, _, _, _, rfl, rfl, SqL.of eL, lab_at (by omega) hx, big (Nat.le_of_ble_eq_true rfl), fun t1 nt1 => ?_⟩
        have mt1 := J2.ne nt1
        refine ⟨_, rfl, j, rfl, J2.new nt1, fun p lo hi G3 l0 l1 l2 JG bG np mp e3 => ?_⟩
        have e1 := bG _ _ mt1 upd_same
        refine ⟨t1, p, _, _, rfl, rfl, SqT.of e1, SqT.of e3, (by simp), big (Nat.le_of_ble_eq_true rfl), (fun z => by cases z), fun _ q nq => ?_⟩
        have mq := JG.ne nq
        have bb : But j H5 (upd G3 q (.tup [.str x, .int lo, .int hi])) := (But.trans (b2.new nt1) bG).new nq
        have eD : (upd G3 q (.tup [.str x, .int lo, .int hi])) D2 = some (.lst vs) := by
          have z := bG _ _ dD2 (show (upd H2 t1 (.tup [.str x])) D2 = some (.lst vs) by rw [upd_ne (ne_of_none hv nt1)]; exact hv)
          rw [upd_ne (ne_of_none z nq)]
          exact z
        have tt : Tup H2 (upd G3 q (.tup [.str x, .int lo, .int hi])) := Tup.trans (Tup.new nt1) (Tup.trans (Tup.of (J2.new nt1) bG) (Tup.new nq))
        have hq : (upd G3 q (.tup [.str x, .int lo, .int hi])) q = some (.tup [.str x, .int lo, .int hi]) := upd_same
        have J4 := JG.new nq (o := .tup [.str x, .int lo, .int hi])
        refine ⟨vs, eD, ?_, J4.put dD2, bb.put hD2, ms ++ [(x, lo, hi)], ⟨⟨vs ++ [.ref q], upd_same, by rw [List.length_append, hvl]; rfl, ?_⟩, ?_, ?_⟩⟩
        · rw [sizeLine_eq, hvl]
          omega
        · have t5 : Tup (upd G3 q (.tup [.str x, .int lo, .int hi])) (upd (upd G3 q (.tup [.str x, .int lo, .int hi])) D2 (.lst (vs ++ [.ref q]))) := Tup.put eD
          exact Paired.snoc (L2.Paired.mapP hpr fun a b z => Row3.seq (Tup.trans tt t5) z) ⟨q, rfl, t5 _ _ hq⟩
        · rw [List.map_append, hnm, names_succ hx]
          rfl
        · intro r hr
          rcases List.mem_append.mp hr with h | h
          · exact hbd r h
          · obtain rfl := List.mem_singleton.mp h
            exact ⟨l0, l1, l2⟩
      · rintro H6 ⟨J6, b6, cs, R6⟩
        have dD2 : D2 ≠ j := J5.ne hD2
        have bH6 : But j H H6 := But.trans B3 (But.trans b4 (But.trans b5 b6))
        have eL5 := b5 _ _ nl eL4
        have eL6 := b6 _ _ nl eL5
        have M6 : Rows3 H6 D ls 0 (1 + r).toNat ms := (R4.but J4 b5 dD).but J5 b6 dD
        clear R4 eL5 eL4 eL3
        refine ⟨big (Nat.le_of_ble_eq_true rfl), fun p7 n7 => ⟨big (Nat.le_of_ble_eq_true rfl), fun p8 n8 => ?_⟩⟩
        have m7 : p7 ≠ j := J6.ne n7
        have n86 : H6 p8 = none := by
          cases e : H6 p8 with
          | none => rfl
          | some o =>
            rw [upd_ne (ne_of_none e n7), e] at n8
            cases n8
        have m8 : p8 ≠ j := J6.ne n86
        have n78 : p7 ≠ p8 := ne_of_none upd_same n8
        have e7 : (upd (upd H6 p7 (.lst [])) p8 (.lst [])) p7 = some (.lst []) := by
          rw [upd_ne n78]
          exact upd_same
        have e8 : (upd (upd H6 p7 (.lst [])) p8 (.lst [])) p8 = some (.lst []) := upd_same
        have J8 : JarAt (upd (upd H6 p7 (.lst [])) p8 (.lst [])) j := (J6.new n7).put m8
        have b8 : But j H6 (upd (upd H6 p7 (.lst [])) p8 (.lst [])) := (But.refl.new n7).put n86
        refine ⟨_, _, rfl, ?_⟩
        generalize upd (upd H6 p7 (.lst [])) p8 (.lst []) = H8 at e7 e8 J8 b8 ⊢
        refine ⟨_, rfl, j, 2, rfl, J8, by decide, by decide, fun r3 H9 u0 u1 J9 b9 => ⟨_, _, rfl, rfl, _, rfl, by omega, by omega, for_range (lo := 0) (fun n σ G => (∃ v4 v9 : Option V, σ = [some (.ref j), some (.int m), some (.ref pl), some (.int (1 + r)), v4, some (.ref D), some (.ref D2), some (.ref p7), some (.ref p8), v9]) ∧ JarAt G j ∧ But j H6 G ∧ G p8 = some (.lst []) ∧ ∃ ss, Rows2 G p7 ls 9 n ss)
          ⟨⟨_, _, rfl⟩, J9, But.trans b8 b9, b9 _ _ m8 e8, [], ⟨⟨[], b9 _ _ m7 e7, rfl, .nil⟩, rfl, fun r hr => nomatch hr⟩⟩ ?_ ?_⟩⟩
        · rintro n σ G hn ⟨⟨v4, v9, rfl⟩, JG, bG, g8, ss, ⟨vs, hv, hvl, hpr⟩, hnm, hbd⟩
          have nle : 9 + n < 18 := by omega
          obtain ⟨x, hx⟩ : ∃ x, ls[9 + n]? = some x := ⟨ls[9 + n]'(by omega), List.getElem?_eq_getElem (by omega)⟩
          have gL := bG _ _ nl eL6
          refine ⟨_, rfl, .inl ⟨rfl, _, SqL.of hv⟩, _, rfl, _, rfl, _, _, rfl, rfl, pl, _, _, _, rfl, rfl, SqL.of gL, lab_at (by omega) hx, _, rfl, _, _, rfl, rfl, ⟨by decide, by decide, by decide⟩, big (Nat.le_of_ble_eq_true rfl), fun l nl2 => ?_⟩
          have ml := JG.ne nl2
          refine ⟨j, l, _, rfl, JG.new nl2, upd_same, ml, by exact (by decide : 0 < 5), by exact (by decide : 5 < 100000), fun i v G2 hvv JG2 bG2 => ?_⟩
          obtain ⟨z, rfl, z0, z1⟩ : ∃ z : Int, v = V.int z ∧ 0 ≤ z ∧ z ≤ 1000000000000 := by
            have hm := List.mem_of_getElem? hvv
            have p12 : (10 : Int) ^ ((12 : Int).toNat) = 1000000000000 := by decide
            simp only [List.mem_cons, List.not_mem_nil, or_false, p12] at hm
            rcases hm with rfl | rfl | rfl | rfl | rfl <;> exact ⟨_, rfl, by omega, by omega⟩
          have bb : But j G G2 := But.trans (But.refl.new nl2) bG2
          have gv := bb _ _ m7 hv
          have gg8 := bb _ _ m8 g8
          refine ⟨big (Nat.le_of_ble_eq_true rfl), fun q nq => ?_⟩
          have gv2 : (upd G2 q (.tup [.str x, .int z])) p7 = some (.lst vs) := by
            rw [upd_ne (ne_of_none gv nq)]
            exact gv
          have gg9 : (upd G2 q (.tup [.str x, .int z])) p8 = some (.lst []) := by
            rw [upd_ne (ne_of_none gg8 nq)]
            exact gg8
          have hq : (upd G2 q (.tup [.str x, .int z])) q = some (.tup [.str x, .int z]) := upd_same
          have tt : Tup G (upd G2 q (.tup [.str x, .int z])) := Tup.trans (Tup.of JG bb) (Tup.new nq)
          have J4' := JG2.new nq (o := .tup [.str x, .int z])
          have bb2 : But j H6 (upd G2 q (.tup [.str x, .int z])) := But.trans bG (bb.new nq)
          refine ⟨p7, _, _, rfl, rfl, gv2, by rw [sizeLine_eq, hvl]; omega, ⟨⟨_, _, rfl⟩, J4'.put m7, bb2.put n7, ?_, ss ++ [(x, z)], ⟨⟨vs ++ [.ref q], upd_same, by rw [List.length_append, hvl]; rfl, ?_⟩, ?_, ?_⟩⟩⟩
          · rw [upd_ne n78.symm]
            exact gg9
          · have t5 : Tup (upd G2 q (.tup [.str x, .int z])) (upd (upd G2 q (.tup [.str x, .int z])) p7 (.lst (vs ++ [.ref q]))) := Tup.put gv2
            exact Paired.snoc (L2.Paired.mapP hpr fun a b z => Row2.seq (Tup.trans tt t5) z) ⟨q, rfl, t5 _ _ hq⟩
          · rw [List.map_append, hnm, names_succ hx]
            rfl
          · intro r hr
            rcases List.mem_append.mp hr with h | h
            · exact hbd r h
            · obtain rfl := List.mem_singleton.mp h
              exact ⟨z0, z1⟩
        · rintro σ Ha ⟨⟨v4, v9, rfl⟩, Ja, ba, a8, ss, Ra⟩
          refine ⟨_, rfl, j, 4, rfl, Ja, by decide, by decide, fun r4 Hb w0 w1 Jb bb => ⟨_, _, rfl, rfl, _, rfl, by omega, by omega, ?_⟩⟩
          have eLb := bb _ _ nl (ba _ _ nl eL6)
          have Sb : Rows2 Hb p7 ls 9 (1 + r3).toNat ss := Ra.but Ja bb m7
          have b8b := bb _ _ m8 a8
          have bHb : But j H6 Hb := But.trans ba bb
          clear Ra a8
          refine for_range (lo := 0) (fun n σ G => (∃ v4 v9 : Option V, σ = [some (.ref j), some (.int m), some (.ref pl), some (.int (1 + r)), v4, some (.ref D), some (.ref D2), some (.ref p7), some (.ref p8), v9]) ∧ JarAt G j ∧ But j H6 G ∧ Rows2 G p7 ls 9 (1 + r3).toNat ss ∧ ∃ ps, RowsP G p8 ls 12 n (1 + r3).toNat ps)
            ⟨⟨_, _, rfl⟩, Jb, bHb, Sb, [], ⟨⟨[], b8b, rfl, .nil⟩, rfl, fun r hr => nomatch hr⟩⟩ ?_ ?_
          · rintro n σ G hn ⟨⟨v4, v9, rfl⟩, JG, bG, SG, ps, ⟨vs, hv, hvl, hpr⟩, hnm, hbd⟩
            have nle : 12 + n < 18 := by omega
            obtain ⟨x, hx⟩ : ∃ x, ls[12 + n]? = some x := ⟨ls[12 + n]'(by omega), List.getElem?_eq_getElem (by omega)⟩
            have gL := bG _ _ nl eL6
            obtain ⟨⟨v7, h7, l7, _⟩, _⟩ := id SG
            refine ⟨_, rfl, .inl ⟨rfl, _, SqL.of hv⟩, _, rfl, _, rfl, _, _, rfl, rfl, pl, _, _, _, rfl, rfl, SqL.of gL, lab_at (by omega) hx, ?_⟩
            refine ⟨_, rfl, p7, rfl, ⟨_, SqL.of h7⟩, fun E9 hE => lc_list (K := K) (a := p7) (xs := v7) (fun i G2 => JarAt G2 j ∧ But j G G2 ∧ ∃ (ws : List V) (bs : List (Int × Int)), G2 E9 = some (.lst ws) ∧ ws.length = i ∧ Paired (Bnd G2) ws bs ∧ ∀ b ∈ bs, 0 ≤ b.1 ∧ b.1 ≤ b.2 ∧ b.2 ≤ 1000000000000)
              ⟨JG.new hE, But.refl.new hE, [], [], upd_same, rfl, .nil, fun b hb => nomatch hb⟩ (fun i G2 _ ⟨_, b2, _⟩ => SqL.of (b2 _ _ m7 h7)) ?_ ?_⟩
            · rintro i y G2 hy ⟨JG2, bG2, ws, bs, hw, hwl, hwp, hwb⟩
              have il : i < v7.length := (List.getElem?_eq_some_iff.mp hy).1
              have dE : E9 ≠ j := JG.ne hE
              refine ⟨rfl, ?_⟩
              refine ⟨_, rfl, j, rfl, JG2, fun p lo hi G3 l0 l1 l2 JG3 bG3 np mp e3 => ?_⟩
              have hw3 := bG3 _ _ dE hw
              refine ⟨ws, hw3, ?_, JG3.put dE, (But.trans bG2 bG3).put hE, ws ++ [.ref p], bs ++ [(lo, hi)], upd_same, by rw [List.length_append, hwl]; rfl, ?_, ?_⟩
              · rw [sizeLine_eq, hwl]
                omega
              · have t5 : Tup G3 (upd G3 E9 (.lst (ws ++ [.ref p]))) := Tup.put hw3
                exact Paired.snoc (L2.Paired.mapP hwp fun a b z => Bnd.seq (Tup.trans (Tup.of JG2 bG3) t5) z) ⟨p, rfl, t5 _ _ e3⟩
              · intro b hb
                rcases List.mem_append.mp hb with h | h
                · exact hwb b h
                · obtain rfl := List.mem_singleton.mp h
                  exact ⟨l0, l1, l2⟩
            · rintro G2 ⟨JG2, bG2, ws, bs, hw, hwl, hwp, hwb⟩
              refine ⟨E9, ws, rfl, .inl ⟨SqL.of hw, fun t nt => ?_⟩⟩
              refine ⟨big (Nat.le_of_ble_eq_true rfl), fun q nq => ?_⟩
              have f1 : (upd (upd G2 t (.tup ws)) q (.tup [.str x, .ref t])) q = some (.tup [.str x, .ref t]) := upd_same
              have f2 : (upd (upd G2 t (.tup ws)) q (.tup [.str x, .ref t])) t = some (.tup ws) := by
                rw [upd_ne (ne_of_none upd_same nq)]
                exact upd_same
              have T1 : Tup G2 (upd (upd G2 t (.tup ws)) q (.tup [.str x, .ref t])) := Tup.trans (Tup.new nt) (Tup.new nq)
              have B1 : But j G (upd (upd G2 t (.tup ws)) q (.tup [.str x, .ref t])) := (bG2.new nt).new nq
              have JX : JarAt (upd (upd G2 t (.tup ws)) q (.tup [.str x, .ref t])) j := (JG2.new nt).new nq
              generalize upd (upd G2 t (.tup ws)) q (.tup [.str x, .ref t]) = G4 at f1 f2 T1 B1 JX ⊢
              have hv4 := B1 _ _ m8 hv
              have t5 : Tup G4 (upd G4 p8 (.lst (vs ++ [.ref q]))) := Tup.put hv4
              have tG : Tup G (upd G4 p8 (.lst (vs ++ [.ref q]))) := Tup.trans (Tup.of JG B1) t5
              refine ⟨p8, _, _, rfl, rfl, hv4, by rw [sizeLine_eq, hvl]; omega, ⟨⟨_, _, rfl⟩, JX.put m8, (But.trans bG B1).put n86, ?_, ps ++ [(x, bs)], ⟨⟨vs ++ [.ref q], upd_same, by rw [List.length_append, hvl]; rfl, ?_⟩, ?_, ?_⟩⟩⟩
              · obtain ⟨⟨v7, h7, l7, p7r⟩, rest⟩ := SG
                exact ⟨⟨v7, by rw [upd_ne n78]; exact B1 _ _ m7 h7, l7, L2.Paired.mapP p7r fun a b z => Row2.seq tG z⟩, rest⟩
              · exact Paired.snoc (L2.Paired.mapP hpr fun a b z => RowP.seq tG z) ⟨q, t, ws, rfl, t5 _ _ f1, t5 _ _ f2, L2.Paired.mapP hwp fun a b z => Bnd.seq (Tup.trans T1 t5) z⟩
              · rw [List.map_append, hnm, names_succ hx]
                rfl
              · intro r hr
                rcases List.mem_append.mp hr with h | h
                · exact hbd r h
                · obtain rfl := List.mem_singleton.mp h
                  exact ⟨by rw [← Paired.len hwp, hwl, l7], hwb⟩
          · rintro σ Hc ⟨⟨v4, v9, rfl⟩, Jc, bc, Sc, ps, Pc⟩
            refine ⟨_, rfl, _, rfl, _, rfl, _, rfl, big (Nat.le_of_ble_eq_true rfl), fun p np => ?_⟩
            have mp := Jc.ne np
            have Mc := M6.but J6 bc dD
            have Cc := R6.but J6 bc dD2
            have bn : But j Hc (upd Hc p (.lst [.ref D, .ref D2, .ref p7, .ref p8])) := But.refl.new np
            obtain ⟨⟨va, ha, la, pa⟩, na, ba'⟩ := Mc.but Jc bn dD
            obtain ⟨⟨vb, hb, lb, pb⟩, nb, bb'⟩ := Cc.but Jc bn dD2
            obtain ⟨⟨vc, hc, lc, pc⟩, nc, bc'⟩ := Sc.but Jc bn m7
            obtain ⟨⟨vd, hd, ld, pd⟩, nd', bd'⟩ := Pc.but Jc bn m8
            have sub := four_nodup hls hnd (n1 := (1 + r).toNat) (n2 := r2.toNat) (n3 := (1 + r3).toNat) (n4 := (1 + r4).toNat) (by omega) (by omega) (by omega) (by omega)
            have xa := Paired.len pa
            have xb := Paired.len pb
            have xc := Paired.len pc
            have xd := Paired.len pd
            refine k p ⟨ms, cs, ss, ps⟩ _ ⟨D, D2, p7, p8, va, vb, vc, vd, upd_same, ha, pa, hb, pb, hc, pc, hd, pd⟩ ?_ (Jc.new np) ((But.trans bH6 bc).new np) ((But.trans bH6 bc).gone mp np) mp
            refine ⟨?_, ?_, ?_, ?_, ?_, ?_, ?_, ba', bb', bc', ?_, ?_, ?_⟩
            · show 1 ≤ ms.length
              omega
            · show ms.length ≤ 6
              omega
            · show cs.length ≤ 3
              omega
            · show 1 ≤ ss.length
              omega
            · show ss.length ≤ 2
              omega
            · show 1 ≤ ps.length
              omega
            · show ps.length ≤ 4
              omega
            · intro r hr
              obtain ⟨h1, h2⟩ := bd' r hr
              exact ⟨by show _ = ss.length; omega, h2⟩
            · show (ms.map (·.1) ++ (cs.map (·.1) ++ (ss.map (·.1) ++ ps.map (·.1)))).Nodup
              rw [na, nb, nc, nd', List.drop_zero]
              exact List.Sublist.nodup sub hnd
            · show ∀ x ∈ ms.map (·.1) ++ (cs.map (·.1) ++ (ss.map (·.1) ++ ps.map (·.1))), x ∈ menu
              rw [na, nb, nc, nd', List.drop_zero]
              exact fun x hx => hin x (sub.subset hx)
end
end LJ
set_option Elab.async false
set_option linter.all false
set_option maxRecDepth 100000
set_option maxHeartbeats 4000000
/-! The small tests of works: is_integer, is_name, _is_named, _are_bounds; over any known value. -/
namespace LJ
open PySem PySem.Spec L2
/-- a op1 b op2 c op3 d -/
def tChain3 (r1 r2 r3 : R2) (ta tb tc td : TE) : TE := fun σ H Q => ta σ H fun x H1 => tb σ H1 fun y H2 => r1 x y H2 fun u H3 => ∃ k, u = .bl k ∧
  if k = true then tc σ H3 fun z H4 => r2 y z H4 fun v H5 => ∃ l, v = .bl l ∧ (if l = true then td σ H5 fun w H6 => r3 z w H6 Q else Q (.bl false) H5) else Q (.bl false) H3
theorem pe_chain3 {X : Cx} {o1 o2 o3 : CmpOp} {r1 r2 r3 : R2} {a b c d : Expr} {ta tb tc td : TE} {pos : Pos} (h1 : OpR X (compareOp o1) r1) (h2 : OpR X (compareOp o2) r2) (h3 : OpR X (compareOp o3) r3) (ea : PE X a ta) (eb : PE X b tb) (ec : PE X c tc) (ed : PE X d td)
    (hm : lastMarks [o1, o2, o3] [b, c, d] = false := by with_unfolding_all rfl) : PE X (.Compare a [o1, o2, o3] [b, c, d] pos) (tChain3 r1 r2 r3 ta tb tc td) := by
  constructor
  intro pins s σ H Q I h
  refine PyProof.Rows.Compare_chain (thn (ea.run pins s σ H _ I h) ?_) hm
  rintro ua s1 ⟨x, H1, I1, rx, q1⟩
  refine PyProof.Rows.chain_link (thn (eb.run pins s1 σ H1 _ I1 q1) ?_)
  rintro ub s2 ⟨y, H2, I2, ry, q2⟩
  refine thn (h1 pins s2 σ H2 x y ua ub _ I2 rx ry q2) ?_
  rintro u1 s3 ⟨_, H3, I3, ru, k, rfl, q3⟩
  cases ru
  refine wpAny_truthy_bool ?_
  cases k
  · exact ⟨.bl false, H3, I3, rfl, q3⟩
  refine PyProof.Rows.chain_link (thn (ec.run pins s3 σ H3 _ I3 q3) ?_)
  rintro uc s4 ⟨z, H4, I4, rz, q4⟩
  refine thn (h2 pins s4 σ H4 y z ub uc _ I4 ry rz q4) ?_
  rintro u2 s5 ⟨_, H5, I5, rv, l, rfl, q5⟩
  cases rv
  refine wpAny_truthy_bool ?_
  cases l
  · exact ⟨.bl false, H5, I5, rfl, q5⟩
  refine PyProof.Rows.chain_last (thn (ed.run pins s5 σ H5 _ I5 q5) ?_)
  rintro ud s6 ⟨w, H6, I6, rw, q6⟩
  exact h3 pins s6 σ H6 z w uc ud Q I6 rz rw q6
/-! ### known values -/
/-- all that stood stands -/
def Ex (H H1 : Hp) : Prop := ∀ b o, H b = some o → H1 b = some o
theorem Ex.refl {H : Hp} : Ex H H := fun _ _ e => e
theorem Ex.trans {H H1 H2 : Hp} (s : Ex H H1) (t : Ex H1 H2) : Ex H H2 := fun b o e => t b o (s b o e)
theorem Ex.new {H H1 : Hp} {p : Addr} {o : HO} (s : Ex H H1) (n : H1 p = none) : Ex H (upd H1 p o) := fun b u e => by
  rw [upd_ne (ne_of_none (s b u e) n)]
  exact s b u e
theorem Ex.put {H H1 : Hp} {p : Addr} {o : HO} (s : Ex H H1) (n : H p = none) : Ex H (upd H1 p o) := fun b u e => by
  rw [upd_ne (ne_of_none e n)]
  exact s b u e
theorem Ex.gone {H H1 : Hp} {p : Addr} (s : Ex H H1) (n : H1 p = none) : H p = none := by
  cases e : H p with
  | none => rfl
  | some o =>
    rw [s p o e] at n
    cases n
def isI : V → Bool
  | .int _ => true
  | _ => false
def tupOf (H : Hp) : V → Option (List V)
  | .ref a => match H a with
    | some (.tup xs) => some xs
    | _ => none
  | _ => none
/-- is this a string of one to eight letters from a to z -/
def isW (s : Str) : Bool := decide (1 ≤ s.length) && (decide (s.length ≤ 8) && s.cps.toList.all fun c => decide (97 ≤ c) && decide (c ≤ 122))
def isN : V → Bool
  | .str s => isW s
  | _ => false
inductive Kn (K : PySem.W.Frag) (H : Hp) : V → Prop
  | int (i : Int) : Kn K H (.int i)
  | str (s : Str) (le : s.length ≤ sizeLine) : Kn K H (.str s)
  | tup {a : Addr} {xs : List V} (e : H a = some (.tup xs)) (le : xs.length ≤ sizeLine) : Kn K H (.ref a)
  | oth {x : V} {t : Value} {b : Bool} (ty : ∀ H1, LamX.ExtN H H1 → TyX K H1 x t) (i : PySem.W.kitOne K t (.type "int") = some b) (l : PySem.W.kitOne K t (.type "bool") = some b) (s : PySem.W.kitOne K t (.type "str") = some false)
      (u : PySem.W.kitOne K t (.type "tuple") = some false) (ni : isI x = false) (nn : isN x = false) (nt : ∀ H1, LamX.ExtN H H1 → tupOf H1 x = none) : Kn K H x
theorem Ex.n {H H1 : Hp} (e : Ex H H1) : LamX.ExtN H H1 := LamX.ExtN.of e
theorem tup_n {H H1 : Hp} {a : Addr} {xs : List V} (e : LamX.ExtN H H1) (h : H a = some (.tup xs)) : H1 a = some (.tup xs) := e _ _ h fun _ z => nomatch z
theorem Kn.exN {K : PySem.W.Frag} {H H1 : Hp} {x : V} (k : Kn K H x) (e : LamX.ExtN H H1) : Kn K H1 x := by
  cases k with
  | int i => exact .int i
  | str s le => exact .str s le
  | tup h le => exact .tup (tup_n e h) le
  | oth ty i l s u ni nn nt => exact .oth (fun H2 e2 => ty H2 (e.trans e2)) i l s u ni nn fun H2 e2 => nt H2 (e.trans e2)
theorem Kn.ex {K : PySem.W.Frag} {H H1 : Hp} {x : V} (k : Kn K H x) (e : Ex H H1) : Kn K H1 x := k.exN e.n
theorem Kn.tupsN {K : PySem.W.Frag} {H H1 : Hp} {x : V} (k : Kn K H x) (e : LamX.ExtN H H1) : tupOf H1 x = tupOf H x := by
  cases k with
  | int i => rfl
  | str s le => rfl
  | @tup a xs h le =>
    show (match H1 a with
      | some (.tup ys) => some ys
      | _ => none) = (match H a with
      | some (.tup ys) => some ys
      | _ => none)
    rw [h, tup_n e h]
  | oth ty i l s u ni nn nt => rw [nt H1 e, nt H (LamX.ExtN.refl _)]
theorem Kn.tups {K : PySem.W.Frag} {H H1 : Hp} {x : V} (k : Kn K H x) (e : Ex H H1) : tupOf H1 x = tupOf H x := k.tupsN e.n
theorem Kn.le {K : PySem.W.Frag} {H : Hp} {x : V} {xs : List V} (k : Kn K H x) (h : tupOf H x = some xs) : xs.length ≤ sizeLine := by
  cases k with
  | int i => cases h
  | str s le => cases h
  | @tup a ys e le =>
    have z : (match H a with
      | some (.tup ys) => some ys
      | _ => none) = some xs := h
    rw [e] at z
    cases z
    exact le
  | oth ty i l s u ni nn nt =>
    rw [nt H (LamX.ExtN.refl _)] at h
    cases h
/-- known to this depth -/
def Deep (K : PySem.W.Frag) (H : Hp) : Nat → V → Prop
  | 0, x => Kn K H x
  | n + 1, x => Kn K H x ∧ ∀ xs, tupOf H x = some xs → ∀ y ∈ xs, Deep K H n y
theorem Deep.kn {K : PySem.W.Frag} {H : Hp} : ∀ {n : Nat} {x : V}, Deep K H n x → Kn K H x
  | 0, _, d => d
  | _ + 1, _, d => d.1
theorem Deep.exN {K : PySem.W.Frag} {H H1 : Hp} (e : LamX.ExtN H H1) : ∀ {n : Nat} {x : V}, Deep K H n x → Deep K H1 n x
  | 0, _, d => Kn.exN d e
  | n + 1, x, d => ⟨d.1.exN e, fun xs h y hy => Deep.exN e (d.2 xs (by rw [← d.1.tupsN e]; exact h) y hy)⟩
theorem Deep.ex {K : PySem.W.Frag} {H H1 : Hp} (e : Ex H H1) {n : Nat} {x : V} (d : Deep K H n x) : Deep K H1 n x := d.exN e.n
structure BltI (mg : Str → Option Value) : Prop where
  isinstance : mg "isinstance" = none
  int : mg "int" = none
  bool : mg "bool" = none
  str : mg "str" = none
  tuple : mg "tuple" = none
  len : mg "len" = none
  all : mg "all" = none
  enumerate : mg "enumerate" = none
/-- the answer of is_integer -/
theorem rd_int {K : PySem.W.Frag} {H : Hp} {x : V} (k : Kn K H x) {Q : VK} (q : Q (.bl (isI x)) H) : rIsi K [x, .ty "int"] H fun v H1 => ∃ c, v = .bl c ∧ if c = true then rIsi K [x, .ty "bool"] H1 fun w H2 => ∃ d, w = .bl d ∧ Q (.bl (!d)) H2 else Q (.bl false) H1 := by
  cases k with
  | int i =>
    refine ⟨_, _, _, _, true, rfl, .ty "int", .base (.int i), kit_ty (by decide +kernel), true, rfl, ?_⟩
    rw [if_pos rfl]
    exact ⟨_, _, _, _, false, rfl, .ty "bool", .base (.int i), kit_ty (by decide +kernel), false, rfl, q⟩
  | str s le =>
    refine ⟨_, _, _, _, false, rfl, .ty "int", .base (.str s), kit_ty (by decide +kernel), false, rfl, ?_⟩
    rw [if_neg (by decide)]
    exact q
  | tup e le =>
    refine ⟨_, _, _, _, false, rfl, .ty "int", .base (.tup e), kit_ty (by decide +kernel), false, rfl, ?_⟩
    rw [if_neg (by decide)]
    exact q
  | @oth _ t b ty i l s u ni nn nt =>
    rw [ni] at q
    refine ⟨_, _, _, _, b, rfl, .ty "int", ty _ (LamX.ExtN.refl _), i, b, rfl, ?_⟩
    cases b with
    | false =>
      rw [if_neg (by decide)]
      exact q
    | true =>
      rw [if_pos rfl]
      exact ⟨_, _, _, _, true, rfl, .ty "bool", ty _ (LamX.ExtN.refl _), l, true, rfl, q⟩
abbrev sInt : Stmt := top 3
abbrev sName : Stmt := top 4
def spInt (K : PySem.W.Frag) : Sp := fun vs H Q _ => ∃ x, vs = [x] ∧ Kn K H x ∧ Q (.bl (isI x)) H
section
variable {P : Program} {w : World} {K : PySem.W.Frag} {mg : Str → Option Value} {base : Heap}
theorem scInt : FnScope ["value"] ["value"] (defScope sInt) := ⟨rfl, rfl, rfl, by decide +kernel, rfl, by decide +kernel, by decide +kernel⟩
theorem ok_int {f : Addr} {fd : FuncData} (F : Fun K "is_integer" "is_integer" sInt f fd) (B : BltI mg) : FnOk P w K mg base CX0 1 f fd ["value"] (spInt K) := by
  refine F.ok scInt (fun vs H Q E h => ?_) (fun cdv A outer s H vs Q E hr h => ?_)
  · obtain ⟨x, rfl, _⟩ := h
    rfl
  · obtain ⟨x, rfl, k, q⟩ := h
    refine ⟨_, pss_one (ps_ret (pe_and (pe_callB call_isi (by rfl) B.isinstance (by decide +kernel) (pa_cons (pv 0) (pa_cons (pe_bltn (by rfl) B.int (by decide +kernel) (v := .ty "int") rfl) pa_nil)))
      (pe_one (pe_not (pe_callB call_isi (by rfl) B.isinstance (by decide +kernel) (pa_cons (pv 0) (pa_cons (pe_bltn (by rfl) B.bool (by decide +kernel) (v := .ty "bool") rfl) pa_nil))))))), ?_⟩
    have z := rd_int k q
    obtain ⟨_, c, t, u, b, e1, e2, e3, e4, c1, e5, z⟩ := z
    cases e1
    refine ⟨_, rfl, _, _, t, u, b, rfl, e2, e3, e4, c1, e5, ?_⟩
    cases c1 with
    | false => exact z
    | true =>
      obtain ⟨_, c, t, u, b, e1, e2, e3, e4, z⟩ := z
      cases e1
      exact ⟨_, rfl, _, _, t, u, b, rfl, e2, e3, e4, z⟩
end
end LJ
set_option Elab.async false
set_option linter.all false
set_option maxRecDepth 100000
set_option maxHeartbeats 4000000
namespace LJ
open PySem PySem.Spec L2
/-- the answer is b, whatever new stands beside -/
def Says (Q : VK) (H : Hp) (b : Bool) : Prop := ∀ H1, Ex H H1 → Q (.bl b) H1
def spName (K : PySem.W.Frag) : Sp := fun vs H Q _ => ∃ x, vs = [x] ∧ Kn K H x ∧ Says Q H (isN x)
theorem Kn.atStr {K : PySem.W.Frag} {H : Hp} {x : V} (k : Kn K H x) : ∃ t b, TyX K H x t ∧ PySem.W.kitOne K t (.type "str") = some b ∧ ((b = true ∧ ∃ s, x = .str s ∧ s.length ≤ sizeLine) ∨ (b = false ∧ isN x = false)) := by
  cases k with
  | int i => exact ⟨_, false, .base (.int i), kit_ty (by decide +kernel), .inr ⟨rfl, rfl⟩⟩
  | str s le => exact ⟨_, true, .base (.str s), kit_ty (by decide +kernel), .inl ⟨rfl, s, rfl, le⟩⟩
  | tup e le => exact ⟨_, false, .base (.tup e), kit_ty (by decide +kernel), .inr ⟨rfl, rfl⟩⟩
  | @oth _ t b ty i l s u ni nn nt => exact ⟨t, false, ty _ (LamX.ExtN.refl _), s, .inr ⟨rfl, nn⟩⟩
theorem Kn.atTup {K : PySem.W.Frag} {H : Hp} {x : V} (k : Kn K H x) : ∃ t b, TyX K H x t ∧ PySem.W.kitOne K t (.type "tuple") = some b ∧ ((b = true ∧ ∃ a xs, x = .ref a ∧ H a = some (.tup xs) ∧ tupOf H x = some xs) ∨ (b = false ∧ tupOf H x = none)) := by
  cases k with
  | int i => exact ⟨_, false, .base (.int i), kit_ty (by decide +kernel), .inr ⟨rfl, rfl⟩⟩
  | str s le => exact ⟨_, false, .base (.str s), kit_ty (by decide +kernel), .inr ⟨rfl, rfl⟩⟩
  | @tup a xs e le =>
    refine ⟨_, true, .base (.tup e), kit_ty (by decide +kernel), .inl ⟨rfl, a, xs, rfl, e, ?_⟩⟩
    show (match H a with
      | some (.tup ys) => some ys
      | _ => none) = some xs
    rw [e]
  | @oth _ t b ty i l s u ni nn nt => exact ⟨t, false, ty _ (LamX.ExtN.refl _), u, .inr ⟨rfl, nt _ (LamX.ExtN.refl _)⟩⟩
def low (c : Nat) : Bool := decide (97 ≤ c) && decide (c ≤ 122)
/-- one sign between two -/
theorem le_one (a b : Nat) : (!decide ((⟨#[b]⟩ : Str).cps.toList < (⟨#[a]⟩ : Str).cps.toList)) = decide (a ≤ b) := by
  have e : ((⟨#[b]⟩ : Str).cps.toList < (⟨#[a]⟩ : Str).cps.toList) ↔ b < a := by
    show [b] < [a] ↔ _
    simp [List.cons_lt_cons_iff]
  by_cases h : a ≤ b
  · rw [decide_eq_true h, decide_eq_false (fun z => by have := e.mp z; omega)]
    rfl
  · rw [decide_eq_false h, decide_eq_true (e.mpr (by omega))]
    rfl
section
variable {P : Program} {w : World} {K : PySem.W.Frag} {mg : Str → Option Value} {base : Heap}
theorem scName : FnScope ["value", "letter"] ["value"] (defScope sName) := ⟨rfl, rfl, rfl, by decide +kernel, rfl, by decide +kernel, by decide +kernel⟩
theorem ok_name {f : Addr} {fd : FuncData} {uL : Value} (F : Fun K "is_name" "is_name" sName f fd) (B : BltI mg) (mL : mg "_MOST_LETTERS" = some uL) (rL : RelV (.int 8) uL) : FnOk P w K mg base CX0 1 f fd ["value"] (spName K) := by
  refine F.ok scName (fun vs H Q E h => ?_) (fun cdv A outer s H vs Q E hr h => ?_)
  · obtain ⟨x, rfl, _⟩ := h
    rfl
  · obtain ⟨x, rfl, k, q⟩ := h
    refine ⟨_, pss_cons (ps_if (PW.pt (pw_or (pt_not (pt_truth (pe_callB call_isi (by rfl) B.isinstance (by decide +kernel) (pa_cons (pv 0) (pa_cons (pe_bltn (by rfl) B.str (by decide +kernel) (v := .ty "str") rfl) pa_nil))) (fun _ => rfl)))
        (pw_or1 (pt_not (pt_chain op_le op_le pe_int (pe_callB call_len_str (by rfl) B.len (by decide +kernel) (pa_cons (pv 0) pa_nil)) (pe_glob (by rfl) mL rL)))))) (pss_one (ps_ret pe_bl)) pss_nil)
      (pss_one (ps_ret (pe_callB (cr_all (by rfl)) (by rfl) B.all (by decide +kernel) (pa_cons (pe_lc (own := [("letter", 1)]) (g := gName 1) (by rfl) scName.nd (pi_str (pv 0)) (blkOk_by (own := [("letter", 1)]) (N := ["value", "letter"]) (sc := defScope sName) (by decide +kernel)) (fun _ _ _ _ _ => pg_name scName.nd rfl (Or.inl rfl)) (fun _ _ _ _ _ => pts_nil) (fun _ _ _ _ _ => pe_chain op_le_str op_le_str pe_str (pv 1) pe_str)) pa_nil)))), ?_⟩
    obtain ⟨t, b, ty, e, hb⟩ := k.atStr
    refine ⟨_, rfl, _, _, t, _, b, rfl, .ty "str", ty, e, b, rfl, ?_⟩
    rcases hb with ⟨rfl, s, rfl, le⟩ | ⟨rfl, n⟩
    · have out : ∀ c : Bool, c = false → isN (.str s) = c → Q (.bl false) H := fun c e1 e2 => by
        have z := q H Ex.refl
        rw [e2, e1] at z
        exact z
      refine ⟨_, rfl, s, rfl, le, 1, s.length, rfl, rfl, _, rfl, ?_⟩
      refine ite2 (fun c1 => ?_) (fun c1 => ?_)
      · refine ⟨_, _, rfl, rfl, _, rfl, ?_⟩
        have l1 : (1 : Int) ≤ s.length := of_decide_eq_true c1
        by_cases c2 : (s.length : Int) ≤ 8
        · rw [decide_eq_true c2]
          have l2 : s.length ≤ 8 := by omega
          have sz : s.cps.toList.length ≤ 8 := l2
          have big : (8 : Nat) < sizeLine := by
            rw [sizeLine_eq]
            decide
          refine ⟨_, rfl, s, rfl, fun D hD => lc_it walk_str (fun n H2 => Ex H H2 ∧ H2 D = some (.lst (((s.cps.toList.take n).map low).map V.bl))) ⟨Ex.refl.new hD, upd_same⟩ (fun _ _ _ _ => True.intro) ?_ ?_⟩
          · rintro i y _ H2 hi ⟨x2, e2⟩ ⟨rfl, c, hc, rfl⟩
            refine ⟨rfl, ?_⟩
            have hc2 : s.cps.toList[i]? = some c := by rw [Array.getElem?_toList]; exact hc
            have done : ∃ acc, H2 D = some (.lst acc) ∧ acc.length < sizeLine ∧ Ex H (upd H2 D (.lst (acc ++ [.bl (low c)]))) ∧ (upd H2 D (.lst (acc ++ [.bl (low c)]))) D = some (.lst (((s.cps.toList.take (i + 1)).map low).map V.bl)) := by
              refine ⟨_, e2, ?_, x2.put hD, ?_⟩
              · rw [List.length_map, List.length_map, List.length_take]
                omega
              · rw [upd_same, List.take_succ, hc2, List.map_append, List.map_append]
                rfl
            refine ⟨_, rfl, _, _, rfl, rfl, _, rfl, ?_⟩
            rw [show (!decide ((⟨#[c]⟩ : Str).cps.toList < (Str.ofString "a").cps.toList)) = decide (97 ≤ c) from le_one 97 c]
            refine ite2 (fun k1 => ?_) (fun k1 => ?_)
            · refine ⟨_, _, rfl, rfl, ?_⟩
              rw [show (!decide ((Str.ofString "z").cps.toList < (⟨#[c]⟩ : Str).cps.toList)) = decide (c ≤ 122) from le_one c 122]
              have e : low c = decide (c ≤ 122) := by
                unfold low
                rw [k1, Bool.true_and]
              rw [← e]
              exact done
            · have e : low c = false := by
                unfold low
                rw [Bool.eq_false_iff.mpr k1, Bool.false_and]
              rw [e] at done
              exact done
          · rintro H2 ⟨x2, e2⟩
            refine ⟨D, _, rfl, SqL.of e2, ?_⟩
            have z := q H2 x2
            have e : isN (.str s) = ((s.cps.toList.take s.cps.size).map low).all id := by
              show isW s = _
              unfold isW
              rw [decide_eq_true (p := 1 ≤ s.length) (by omega), decide_eq_true l2, Bool.true_and, Bool.true_and, List.take_of_length_le (by rw [Array.length_toList]; exact Nat.le_refl _), List.all_map]
              rfl
            rw [e] at z
            exact z
        · rw [decide_eq_false c2]
          refine out _ rfl ?_
          show isW s = false
          unfold isW
          rw [decide_eq_false (p := s.length ≤ 8) (by omega)]
          simp
      · have l1 : ¬ (1 : Int) ≤ s.length := fun z => c1 (decide_eq_true z)
        refine ⟨_, rfl, ?_⟩
        refine out _ rfl ?_
        show isW s = false
        unfold isW
        rw [decide_eq_false (p := 1 ≤ s.length) (by omega)]
        simp
    · rw [n] at q
      exact q H Ex.refl
end
end LJ
set_option Elab.async false
set_option linter.all false
set_option maxRecDepth 100000
set_option maxHeartbeats 4000000
namespace LJ
open PySem PySem.Spec L2
abbrev sShar : Stmt := top 27
abbrev sLim : Stmt := top 28
abbrev sCont : Stmt := top 29
abbrev sNamed : Stmt := top 30
abbrev sBnds : Stmt := top 31
/-- a tuple of this length that begins with a name -/
def isRow (H : Hp) (x : V) (n : Int) : Bool := match tupOf H x with
  | some xs => decide ((xs.length : Int) = n) && match xs with
    | y :: _ => isN y
    | [] => false
  | none => false
/-- a pair of bounds up to m -/
def bndOf (m : Int) : List V → Bool
  | [.int i, .int j] => decide (0 ≤ i) && (decide (i ≤ j) && decide (j ≤ m))
  | _ => false
def isBnd (H : Hp) (x : V) (m : Int) : Bool := match tupOf H x with
  | some xs => bndOf m xs
  | none => false
theorem isI_int : ∀ {y : V}, isI y = true → ∃ i, y = .int i
  | .int i, _ => ⟨i, rfl⟩
theorem bnd_two {m : Int} {xs : List V} (h : xs.length ≠ 2) : bndOf m xs = false := by
  match xs, h with
  | [], _ => rfl
  | [y], _ => cases y <;> rfl
  | [_, _], h => exact absurd rfl h
  | y :: z :: _ :: _, _ => cases y <;> cases z <;> rfl
theorem bnd_fst {m : Int} {y z : V} (h : isI y ≠ true) : bndOf m [y, z] = false := by
  cases y <;> first | exact absurd rfl h | rfl
theorem bnd_snd {m : Int} {i : Int} {z : V} (h : isI z ≠ true) : bndOf m [.int i, z] = false := by
  cases z <;> first | exact absurd rfl h | rfl
def spNamed (K : PySem.W.Frag) : Sp := fun vs H Q _ => ∃ (x : V) (n : Int), vs = [x, .int n] ∧ 1 ≤ n ∧ Deep K H 1 x ∧ Says Q H (isRow H x n)
def spBnd (K : PySem.W.Frag) : Sp := fun vs H Q _ => ∃ (x : V) (m : Int), vs = [x, .int m] ∧ Deep K H 1 x ∧ Says Q H (isBnd H x m)
section
variable {P : Program} {w : World} {K : PySem.W.Frag} {mg : Str → Option Value} {base : Heap}
theorem scNamed : FnScope ["row", "length"] ["row", "length"] (defScope sNamed) := ⟨rfl, rfl, rfl, by decide +kernel, rfl, by decide +kernel, by decide +kernel⟩
theorem ok_named {f fN : Addr} {fd fdN : FuncData} (F : Fun K "_is_named" "_is_named" sNamed f fd) (B : BltI mg)
    (GN : FnOk P w K mg base CX0 1 fN fdN ["value"] (spName K)) (mN : mg "is_name" = some (.ref fN)) (kN : PySem.W.keepIn K (.ref fN) = true) (bN : Binds K fdN ["value"] []) :
    FnOk P w K mg base CX0 2 f fd ["row", "length"] (spNamed K) := by
  refine F.ok scNamed (fun vs H Q E h => ?_) (fun cdv A outer s H vs Q E hr h => ?_)
  · obtain ⟨x, n, rfl, _⟩ := h
    rfl
  · obtain ⟨x, n, rfl, n1, k, q⟩ := h
    refine ⟨_, pss_one (ps_ret (pe_and (pe_callB call_isi (by rfl) B.isinstance (by decide +kernel) (pa_cons (pv 0) (pa_cons (pe_bltn (by rfl) B.tuple (by decide +kernel) (v := .ty "tuple") rfl) pa_nil)))
      (pe_and (pe_cmpR op_eq (pe_callB call_len_seq (by rfl) B.len (by decide +kernel) (pa_cons (pv 0) pa_nil)) (pv 1) (nomark _))
        (pe_one (pe_call GN hr (by rfl) mN kN bN .nil pass0 (pa_cons (pe_ix ix_tup (pv 0) pe_int (fun _ _ => rfl)) pa_nil)))))), ?_⟩
    obtain ⟨t, b, ty, e, hb⟩ := k.1.atTup
    refine ⟨_, rfl, _, _, t, _, b, rfl, .ty "tuple", ty, e, b, rfl, ?_⟩
    rcases hb with ⟨rfl, a, xs, rfl, ha, hx⟩ | ⟨rfl, hx⟩
    · refine ⟨_, rfl, a, xs, rfl, .inr (SqT.of ha), _, rfl, rfl, _, rfl, ?_⟩
      have z := q H Ex.refl
      by_cases c : (xs.length : Int) = n
      · have c1 : (V.int (xs.length : Int) = V.int n) := by rw [c]
        rw [decide_eq_true c1]
        show _
        match xs, hx, ha, c with
        | y :: r, hx, ha, c =>
          refine ⟨_, rfl, a, y :: r, 0, y, rfl, rfl, SqT.of ha, atI_nat (j := 0) rfl, y, rfl, k.2 _ hx y (List.mem_cons_self ..), fun H1 e1 => ?_⟩
          have z1 := q H1 e1
          unfold isRow at z1
          rw [hx] at z1
          simp only [c, decide_true, Bool.true_and] at z1
          exact z1
        | [], hx, ha, c =>
          simp at c
          omega
      · have c1 : ¬ (V.int (xs.length : Int) = V.int n) := fun z => c (V.int.inj z)
        rw [decide_eq_false c1]
        unfold isRow at z
        rw [hx] at z
        simp only [c, decide_false, Bool.false_and] at z
        exact z
    · have z := q H Ex.refl
      unfold isRow at z
      rw [hx] at z
      exact z
theorem scBnds : FnScope ["pair", "most", "low", "high"] ["pair", "most"] (defScope sBnds) := ⟨rfl, rfl, rfl, by decide +kernel, rfl, by decide +kernel, by decide +kernel⟩
theorem ok_bnds {f fI : Addr} {fd fdI : FuncData} (F : Fun K "_are_bounds" "_are_bounds" sBnds f fd) (B : BltI mg)
    (GI : FnOk P w K mg base CX0 1 fI fdI ["value"] (spInt K)) (mI : mg "is_integer" = some (.ref fI)) (kI : PySem.W.keepIn K (.ref fI) = true) (bI : Binds K fdI ["value"] []) :
    FnOk P w K mg base CX0 2 f fd ["pair", "most"] (spBnd K) := by
  refine F.ok scBnds (fun vs H Q E h => ?_) (fun cdv A outer s H vs Q E hr h => ?_)
  · obtain ⟨x, n, rfl, _⟩ := h
    rfl
  · obtain ⟨x, m, rfl, k, q⟩ := h
    refine ⟨_, pss_cons (ps_if (PW.pt (pw_or (pt_not (pt_truth (pe_callB call_isi (by rfl) B.isinstance (by decide +kernel) (pa_cons (pv 0) (pa_cons (pe_bltn (by rfl) B.tuple (by decide +kernel) (v := .ty "tuple") rfl) pa_nil))) (fun _ => rfl)))
        (pw_or1 (pt_cmpR op_ne (pe_callB call_len_seq (by rfl) B.len (by decide +kernel) (pa_cons (pv 0) pa_nil)) pe_int (nomark _))))) (pss_one (ps_ret pe_bl)) pss_nil)
      (pss_cons (ps_asg (pv 0) (pg_tup (by rfl) (pgs_cons (pg_name (i := 2) scBnds.nd rfl (Or.inl rfl)) (pgs_cons (pg_name (i := 3) scBnds.nd rfl (Or.inl rfl)) pgs_nil))))
      (pss_one (ps_ret (pe_and (pe_call GI hr (by rfl) mI kI bI .nil pass0 (pa_cons (pv 2) pa_nil)) (pe_and (pe_call GI hr (by rfl) mI kI bI .nil pass0 (pa_cons (pv 3) pa_nil))
        (pe_one (pe_chain3 op_le op_le op_le pe_int (pv 2) (pv 3) (pv 1)))))))), ?_⟩
    obtain ⟨t, b, ty, e, hb⟩ := k.1.atTup
    have z := q H Ex.refl
    refine ⟨_, rfl, _, _, t, _, b, rfl, .ty "tuple", ty, e, b, rfl, ?_⟩
    rcases hb with ⟨rfl, a, xs, rfl, ha, hx⟩ | ⟨rfl, hx⟩
    · refine ⟨_, rfl, a, xs, rfl, .inr (SqT.of ha), rfl, _, rfl, ?_⟩
      have kk := k.2 xs hx
      unfold isBnd at z
      rw [hx] at z
      by_cases c : xs.length = 2
      · obtain ⟨y1, y2, rfl⟩ : ∃ y1 y2, xs = [y1, y2] := by
          match xs, c with
          | [y1, y2], _ => exact ⟨y1, y2, rfl⟩
        refine ⟨_, rfl, a, _, rfl, SqT.of ha, rfl, ?_⟩
        have k1 : Kn K H y1 := kk y1 (by simp)
        have k2 : Kn K H y2 := kk y2 (by simp)
        refine ⟨_, _, rfl, _, _, rfl, rfl, _, rfl, y1, rfl, k1, _, rfl, ?_⟩
        by_cases e1 : isI y1 = true
        · obtain ⟨i, rfl⟩ := isI_int e1
          refine ⟨_, rfl, y2, rfl, k2, _, rfl, ?_⟩
          by_cases e2 : isI y2 = true
          · obtain ⟨j, rfl⟩ := isI_int e2
            have z : Q (.bl (decide (0 ≤ i) && (decide (i ≤ j) && decide (j ≤ m)))) H := z
            refine ⟨_, rfl, _, _, rfl, rfl, _, rfl, ?_⟩
            refine ite2 (fun c1 => ?_) (fun c1 => ?_)
            · rw [c1] at z
              refine ⟨_, rfl, _, _, rfl, rfl, _, rfl, ?_⟩
              refine ite2 (fun c2 => ?_) (fun c2 => ?_)
              · rw [c2] at z
                exact ⟨_, rfl, _, _, rfl, rfl, z⟩
              · rw [Bool.eq_false_iff.mpr c2] at z
                exact z
            · rw [Bool.eq_false_iff.mpr c1] at z
              exact z
          · rw [if_neg e2]
            have z : Q (.bl (bndOf m [.int i, y2])) H := z
            rw [bnd_snd e2] at z
            exact z
        · rw [if_neg e1]
          have z : Q (.bl (bndOf m [y1, y2])) H := z
          rw [bnd_fst e1] at z
          exact z
      · have c1 : ¬ (V.int (xs.length : Int) = V.int 2) := fun q1 => c (by have := V.int.inj q1; omega)
        rw [decide_eq_false c1]
        have z : Q (.bl (bndOf m xs)) H := z
        rw [bnd_two c] at z
        exact z
    · unfold isBnd at z
      rw [hx] at z
      exact z
end
end LJ
set_option Elab.async false
set_option linter.all false
set_option maxRecDepth 100000
set_option maxHeartbeats 4000000
namespace LJ
open PySem PySem.Spec L2
def top12 : Int := 1000000000000
def sharesOf : List V → Bool
  | [n, a, b] => isN n && bndOf 1000 [a, b]
  | _ => false
def limOf : List V → Bool
  | [n, .int i] => isN n && (decide (0 ≤ i) && decide (i ≤ top12))
  | _ => false
def pairsOf (H : Hp) (m : Int) : Option (List V) → Bool
  | some ps => decide ((ps.length : Int) = m) && ps.all fun y => isBnd H y top12
  | none => false
def contOf (H : Hp) (m : Int) : List V → Bool
  | [n, t] => isN n && pairsOf H m (tupOf H t)
  | _ => false
def onTup (f : List V → Bool) (H : Hp) (x : V) : Bool := match tupOf H x with
  | some xs => f xs
  | none => false
def spTest (K : PySem.W.Frag) (d : Nat) (f : Hp → V → Bool) : Sp := fun vs H Q _ => ∃ x : V, vs = [x] ∧ Deep K H d x ∧ Says Q H (f H x)
def spCont (K : PySem.W.Frag) : Sp := fun vs H Q _ => ∃ (x : V) (m : Int), vs = [x, .int m] ∧ Deep K H 3 x ∧ Says Q H (onTup (contOf H m) H x)
theorem tup_ref {H : Hp} {x : V} {xs : List V} (h : tupOf H x = some xs) : ∃ a, x = .ref a ∧ H a = some (.tup xs) := by
  unfold tupOf at h
  split at h
  · rename_i a
    refine ⟨a, rfl, ?_⟩
    split at h
    · rename_i e
      rw [e]
      cases h
      rfl
    · cases h
  · cases h
theorem tup_at {H : Hp} {a : Addr} {xs : List V} (e : H a = some (.tup xs)) : tupOf H (.ref a) = some xs := by
  show (match H a with
    | some (.tup ys) => some ys
    | _ => none) = some xs
  rw [e]
theorem row_yes {H : Hp} {x : V} {n : Int} (h : isRow H x n = true) : ∃ y ys, tupOf H x = some (y :: ys) ∧ (((y :: ys).length : Nat) : Int) = n ∧ isN y = true := by
  unfold isRow at h
  split at h
  · rename_i xs e
    rw [Bool.and_eq_true] at h
    obtain ⟨h1, h2⟩ := h
    match xs, h1, h2, e with
    | y :: ys, h1, h2, e => exact ⟨y, ys, e, of_decide_eq_true h1, h2⟩
    | [], _, h2, _ => cases h2
  · cases h
theorem row_no {H : Hp} {x : V} {n : Nat} {f : List V → Bool} (h : isRow H x n = false) (hf : ∀ xs, f xs = true → ∃ y ys, xs = y :: ys ∧ xs.length = n ∧ isN y = true) : onTup f H x = false := by
  unfold isRow at h
  unfold onTup
  split at h
  · rename_i xs e
    try rw [e]
    refine Bool.eq_false_iff.mpr fun z => ?_
    obtain ⟨y, ys, rfl, e2, e3⟩ := hf xs z
    simp only [e2, e3, decide_true, Bool.and_self] at h
    cases h
  · rename_i e
    first
      | rw [e]
      | rfl
theorem Deep.down {K : PySem.W.Frag} {H : Hp} : ∀ {n : Nat} {x : V}, Deep K H (n + 1) x → Deep K H n x
  | 0, _, d => d.1
  | n + 1, _, d => ⟨d.1, fun xs h y hy => Deep.down (d.2 xs h y hy)⟩
section
variable {P : Program} {w : World} {K : PySem.W.Frag} {mg : Str → Option Value} {base : Heap}
theorem scShar : FnScope ["row"] ["row"] (defScope sShar) := ⟨rfl, rfl, rfl, by decide +kernel, rfl, by decide +kernel, by decide +kernel⟩
theorem ok_shar {f fN fB : Addr} {fd fdN fdB : FuncData} {u : Value} (F : Fun K "_has_shares" "_has_shares" sShar f fd)
    (GN : FnOk P w K mg base CX0 2 fN fdN ["row", "length"] (spNamed K)) (mN : mg "_is_named" = some (.ref fN)) (kN : PySem.W.keepIn K (.ref fN) = true) (bN : Binds K fdN ["row", "length"] [])
    (GB : FnOk P w K mg base CX0 2 fB fdB ["pair", "most"] (spBnd K)) (mB : mg "_are_bounds" = some (.ref fB)) (kB : PySem.W.keepIn K (.ref fB) = true) (bB : Binds K fdB ["pair", "most"] [])
    (mM : mg "MOST_SHARE" = some u) (rM : RelV (.int 1000) u) :
    FnOk P w K mg base CX0 3 f fd ["row"] (spTest K 1 (onTup sharesOf)) := by
  refine F.ok scShar (fun vs H Q E h => ?_) (fun cdv A outer s H vs Q E hr h => ?_)
  · obtain ⟨x, rfl, _⟩ := h
    rfl
  · obtain ⟨x, rfl, k, q⟩ := h
    refine ⟨_, pss_one (ps_ret (pe_and (pe_call GN hr (by rfl) mN kN bN .nil pass0 (pa_cons (pv 0) (pa_cons pe_int pa_nil)))
      (pe_one (pe_call GB hr (by rfl) mB kB bB .nil pass0 (pa_cons (pe_slice sl_tup (pv 0) (po_some pe_int) po_none) (pa_cons (pe_glob (by rfl) mM rM) pa_nil)))))), ?_⟩
    refine ⟨_, rfl, x, 3, rfl, by decide, k, fun H1 e1 => ⟨_, rfl, ?_⟩⟩
    have z := q H1 e1
    cases hr3 : isRow H x 3 with
    | false =>
      rw [row_no (n := 3) hr3 fun xs hx => ?_] at z
      · exact z
      · match xs, hx with
        | [y, a, b], hx =>
          unfold sharesOf at hx
          exact ⟨y, _, rfl, rfl, (Bool.and_eq_true _ _ ▸ hx).1⟩
    | true =>
      obtain ⟨y, ys, ht, hl, hy⟩ := row_yes hr3
      obtain ⟨a, b, rfl⟩ : ∃ a b, ys = [a, b] := by
        match ys, hl with
        | [a, b], _ => exact ⟨a, b, rfl⟩
        | [], hl => simp at hl
        | [_], hl => simp at hl
        | _ :: _ :: _ :: _, hl => simp at hl; omega
      obtain ⟨p, rfl, hp⟩ := tup_ref ht
      rw [if_pos rfl]
      refine ⟨_, rfl, _, rfl, p, _, rfl, SqT.of (e1 _ _ hp), ?_, fun t nt => ?_⟩
      · rintro ⟨c, _⟩
        exact absurd (show (1 : Nat) = 0 from c) (by decide)
      · have cut : cutV [y, a, b] (some 1) none = [a, b] := rfl
        rw [cut]
        have up : Ex H1 (upd H1 t (.tup [a, b])) := Ex.refl.new nt
        have tt : tupOf (upd H1 t (.tup [a, b])) (.ref t) = some [a, b] := tup_at upd_same
        refine ⟨.ref t, 1000, rfl, ⟨.tup upd_same (by rw [sizeLine_eq]; exact (by decide : 2 ≤ 16777216)), fun xs hx v hv => ?_⟩, fun H2 e2 => ?_⟩
        · rw [tt] at hx
          cases hx
          exact Kn.ex (k.2 _ ht v (List.mem_cons_of_mem _ hv)) (e1.trans up)
        · have z2 := q H2 (e1.trans (up.trans e2))
          have e : isBnd (upd H1 t (.tup [a, b])) (.ref t) 1000 = onTup sharesOf H (.ref p) := by
            unfold isBnd onTup
            rw [tt, ht]
            show bndOf 1000 [a, b] = (isN y && bndOf 1000 [a, b])
            rw [hy, Bool.true_and]
          show Q (.bl (isBnd (upd H1 t (.tup [a, b])) (.ref t) 1000)) H2
          rw [e]
          exact z2
theorem scLim : FnScope ["row"] ["row"] (defScope sLim) := ⟨rfl, rfl, rfl, by decide +kernel, rfl, by decide +kernel, by decide +kernel⟩
theorem ok_lim {f fN fI : Addr} {fd fdN fdI : FuncData} {u : Value} (F : Fun K "_has_limit" "_has_limit" sLim f fd)
    (GN : FnOk P w K mg base CX0 2 fN fdN ["row", "length"] (spNamed K)) (mN : mg "_is_named" = some (.ref fN)) (kN : PySem.W.keepIn K (.ref fN) = true) (bN : Binds K fdN ["row", "length"] [])
    (GI : FnOk P w K mg base CX0 1 fI fdI ["value"] (spInt K)) (mI : mg "is_integer" = some (.ref fI)) (kI : PySem.W.keepIn K (.ref fI) = true) (bI : Binds K fdI ["value"] [])
    (mM : mg "MOST_AMOUNT" = some u) (rM : RelV (.int top12) u) :
    FnOk P w K mg base CX0 3 f fd ["row"] (spTest K 1 (onTup limOf)) := by
  refine F.ok scLim (fun vs H Q E h => ?_) (fun cdv A outer s H vs Q E hr h => ?_)
  · obtain ⟨x, rfl, _⟩ := h
    rfl
  · obtain ⟨x, rfl, k, q⟩ := h
    have hr1 : Room 1 _ := hr.mono (by decide)
    refine ⟨_, pss_one (ps_ret (pe_and (pe_call GN hr (by rfl) mN kN bN .nil pass0 (pa_cons (pv 0) (pa_cons pe_int pa_nil)))
      (pe_and (pe_call GI hr1 (by rfl) mI kI bI .nil pass0 (pa_cons (pe_ix ix_tup (pv 0) pe_int (fun _ _ => rfl)) pa_nil))
        (pe_one (pe_chain op_le op_le pe_int (pe_ix ix_tup (pv 0) pe_int (fun _ _ => rfl)) (pe_glob (by rfl) mM rM)))))), ?_⟩
    refine ⟨_, rfl, x, 2, rfl, by decide, k, fun H1 e1 => ⟨_, rfl, ?_⟩⟩
    have z := q H1 e1
    cases hr3 : isRow H x 2 with
    | false =>
      rw [row_no (n := 2) hr3 fun xs hx => ?_] at z
      · exact z
      · match xs, hx with
        | [y, .int i], hx =>
          unfold limOf at hx
          exact ⟨y, _, rfl, rfl, (Bool.and_eq_true _ _ ▸ hx).1⟩
    | true =>
      obtain ⟨y, ys, ht, hl, hy⟩ := row_yes hr3
      obtain ⟨a, rfl⟩ : ∃ a, ys = [a] := by
        match ys, hl with
        | [a], _ => exact ⟨a, rfl⟩
        | [], hl => simp at hl
        | _ :: _ :: _, hl => simp at hl; omega
      obtain ⟨p, rfl, hp⟩ := tup_ref ht
      rw [if_pos rfl]
      have at1 : atI [y, a] 1 = some a := atI_nat (j := 1) rfl
      refine ⟨_, rfl, p, _, 1, a, rfl, rfl, SqT.of (e1 _ _ hp), at1, a, rfl, Kn.ex (k.2 _ ht a (by simp)) e1, _, rfl, ?_⟩
      have z : Q (.bl (onTup limOf H (.ref p))) H1 := z
      unfold onTup at z
      rw [ht] at z
      have z : Q (.bl (limOf [y, a])) H1 := z
      by_cases ci : isI a = true
      · obtain ⟨i, rfl⟩ := isI_int ci
        rw [if_pos ci]
        refine ⟨_, rfl, p, _, 1, .int i, rfl, rfl, SqT.of (e1 _ _ hp), at1, _, _, rfl, rfl, _, rfl, ?_⟩
        have z : Q (.bl (isN y && (decide (0 ≤ i) && decide (i ≤ top12)))) H1 := z
        rw [hy, Bool.true_and] at z
        refine ite2 (fun c1 => ?_) (fun c1 => ?_)
        · rw [c1, Bool.true_and] at z
          exact ⟨_, _, rfl, rfl, z⟩
        · rw [Bool.eq_false_iff.mpr c1, Bool.false_and] at z
          exact z
      · rw [if_neg ci]
        have e : limOf [y, a] = false := by
          cases a <;> first | exact absurd rfl ci | rfl
        rw [e] at z
        exact z
end
end LJ
set_option Elab.async false
set_option linter.all false
set_option maxRecDepth 100000
set_option maxHeartbeats 4000000
namespace LJ
open PySem PySem.Spec L2
theorem isBnd_ex {K : PySem.W.Frag} {H H1 : Hp} {y : V} {m : Int} (k : Kn K H y) (e : Ex H H1) : isBnd H1 y m = isBnd H y m := by
  unfold isBnd
  rw [k.tups e]
section
variable {P : Program} {w : World} {K : PySem.W.Frag} {mg : Str → Option Value} {base : Heap}
theorem scCont : FnScope ["row", "many", "pair"] ["row", "many"] (defScope sCont) := ⟨rfl, rfl, rfl, by decide +kernel, rfl, by decide +kernel, by decide +kernel⟩
theorem ok_cont {f fN fB : Addr} {fd fdN fdB : FuncData} {u : Value} (F : Fun K "_has_contents" "_has_contents" sCont f fd) (B : BltI mg)
    (GN : FnOk P w K mg base CX0 2 fN fdN ["row", "length"] (spNamed K)) (mN : mg "_is_named" = some (.ref fN)) (kN : PySem.W.keepIn K (.ref fN) = true) (bN : Binds K fdN ["row", "length"] [])
    (GB : FnOk P w K mg base CX0 2 fB fdB ["pair", "most"] (spBnd K)) (mB : mg "_are_bounds" = some (.ref fB)) (kB : PySem.W.keepIn K (.ref fB) = true) (bB : Binds K fdB ["pair", "most"] [])
    (mM : mg "MOST_AMOUNT" = some u) (rM : RelV (.int top12) u) :
    FnOk P w K mg base CX0 3 f fd ["row", "many"] (spCont K) := by
  refine F.ok scCont (fun vs H Q E h => ?_) (fun cdv A outer s H vs Q E hr h => ?_)
  · obtain ⟨x, m, rfl, _⟩ := h
    rfl
  · obtain ⟨x, m, rfl, k, q⟩ := h
    refine ⟨_, pss_cons (ps_if (PW.pt (pw_or (pt_not (pt_truth (pe_call GN hr (by rfl) mN kN bN .nil pass0 (pa_cons (pv 0) (pa_cons pe_int pa_nil))) (fun _ => rfl)))
        (pw_or (pt_not (pt_truth (pe_callB call_isi (by rfl) B.isinstance (by decide +kernel) (pa_cons (pe_ix ix_tup (pv 0) pe_int (fun _ _ => rfl)) (pa_cons (pe_bltn (by rfl) B.tuple (by decide +kernel) (v := .ty "tuple") rfl) pa_nil))) (fun _ => rfl)))
        (pw_or1 (pt_cmpR op_ne (pe_callB call_len_seq (by rfl) B.len (by decide +kernel) (pa_cons (pe_ix ix_tup (pv 0) pe_int (fun _ _ => rfl)) pa_nil)) (pv 1) (nomark _)))))) (pss_one (ps_ret pe_bl)) pss_nil)
      (pss_one (ps_ret (pe_callB (cr_all (by rfl)) (by rfl) B.all (by decide +kernel) (pa_cons (pe_lc (own := [("pair", 2)]) (g := gName 2) (by rfl) scCont.nd (pi_tup (pe_ix ix_tup (pv 0) pe_int (fun _ _ => rfl))) (blkOk_by (own := [("pair", 2)]) (N := ["row", "many", "pair"]) (sc := defScope sCont) (by decide +kernel))
        (fun _ _ _ _ _ => pg_name scCont.nd rfl (Or.inl rfl)) (fun _ _ _ _ _ => pts_nil) (fun _ _ _ _ _ => pe_call GB hr (by rfl) mB kB bB .nil pass0 (pa_cons (pv 2) (pa_cons (pe_glob (by rfl) mM rM) pa_nil)))) pa_nil)))), ?_⟩
    have k1 : Deep K H 1 x := k.down.down
    refine ⟨_, rfl, x, 2, rfl, by decide, k1, fun H1 e1 => ⟨_, rfl, ?_⟩⟩
    have z := q H1 e1
    cases hr3 : isRow H x 2 with
    | false =>
      rw [row_no (n := 2) hr3 fun xs hx => ?_] at z
      · exact z
      · match xs, hx with
        | [y, t], hx =>
          unfold contOf at hx
          exact ⟨y, _, rfl, rfl, (Bool.and_eq_true _ _ ▸ hx).1⟩
    | true =>
      obtain ⟨y, ys, ht, hl, hy⟩ := row_yes hr3
      obtain ⟨t, rfl⟩ : ∃ a, ys = [a] := by
        match ys, hl with
        | [a], _ => exact ⟨a, rfl⟩
        | [], hl => simp at hl
        | _ :: _ :: _, hl => simp at hl; omega
      obtain ⟨p, rfl, hp⟩ := tup_ref ht
      have at1 : atI [y, t] 1 = some t := atI_nat (j := 1) rfl
      have kt : Deep K H 2 t := k.2 _ ht t (by simp)
      have kt1 : Kn K H1 t := kt.1.ex e1
      have ez : onTup (contOf H m) H (.ref p) = pairsOf H m (tupOf H t) := by
        unfold onTup
        rw [ht]
        show (isN y && _) = _
        rw [hy, Bool.true_and]
      rw [ez] at z q
      obtain ⟨ty1, b, ty, e, hb⟩ := kt1.atTup
      refine ⟨_, rfl, p, _, 1, t, rfl, rfl, SqT.of (e1 _ _ hp), at1, t, _, ty1, _, b, rfl, .ty "tuple", ty, e, b, rfl, ?_⟩
      rcases hb with ⟨rfl, a, ps, rfl, ha, hx⟩ | ⟨rfl, hx⟩
      · refine ⟨_, rfl, p, _, 1, .ref a, rfl, rfl, SqT.of (e1 _ _ hp), at1, a, ps, rfl, .inr (SqT.of ha), _, rfl, rfl, _, rfl, ?_⟩
        have h0 : tupOf H (.ref a) = some ps := by
          rw [← kt.1.tups e1]
          exact hx
        rw [h0] at z q
        have z : Q (.bl (decide ((ps.length : Int) = m) && ps.all fun y => isBnd H y top12)) H1 := z
        have sz : ps.length ≤ sizeLine := kt.1.le h0
        by_cases c : (ps.length : Int) = m
        · have c1 : (V.int (ps.length : Int) = V.int m) := by rw [c]
          rw [decide_eq_true c1]
          refine ⟨_, rfl, p, _, 1, .ref a, rfl, rfl, SqT.of (e1 _ _ hp), at1, a, rfl, ⟨ps, SqT.of ha⟩, fun D hD => lc_it walk_tup (fun n H2 => Ex H1 H2 ∧ H2 D = some (.lst ((ps.take n).map fun y => V.bl (isBnd H y top12)))) ⟨Ex.refl.new hD, upd_same⟩ (fun i H2 _ h => SqT.of (h.1 _ _ ha)) ?_ ?_⟩
          · rintro i v _ H2 hi ⟨x2, e2⟩ ⟨rfl, hv⟩
            have kv : Deep K H 1 v := kt.2 _ h0 v (List.mem_of_getElem? hv)
            refine ⟨rfl, ?_⟩
            refine ⟨_, rfl, v, top12, rfl, Deep.ex (e1.trans x2) kv, fun H3 e3 => ?_⟩
            refine ⟨_, e3 _ _ e2, ?_, (x2.trans e3).put hD, ?_⟩
            · rw [List.length_map, List.length_take]
              omega
            · rw [upd_same, List.take_succ, hv, List.map_append, isBnd_ex kv.1 (e1.trans x2)]
              rfl
          · rintro H2 ⟨x2, e2⟩
            have e3 : H2 D = some (.lst ((ps.map fun y => isBnd H y top12).map V.bl)) := by
              rw [e2, List.take_of_length_le (Nat.le_refl _), List.map_map]
              rfl
            refine ⟨D, _, rfl, SqL.of e3, ?_⟩
            have z2 := q H2 (e1.trans x2)
            have z2 : Q (.bl (decide ((ps.length : Int) = m) && ps.all fun y => isBnd H y top12)) H2 := z2
            rw [decide_eq_true c, Bool.true_and] at z2
            rw [List.all_map]
            exact z2
        · have c1 : ¬ (V.int (ps.length : Int) = V.int m) := fun z => c (V.int.inj z)
          rw [decide_eq_false c1]
          rw [decide_eq_false c, Bool.false_and] at z
          exact z
      · rw [← kt.1.tups e1, hx] at z
        exact z
end
end LJ
set_option Elab.async false
set_option linter.all false
set_option maxRecDepth 100000
set_option maxHeartbeats 8000000
namespace LJ
open PySem PySem.Spec L2
abbrev sFirst : Stmt := top 26
abbrev nFirst : List Str := ["rows", "earlier", "fewest", "most", "is_right", "taken", "at", "row"]
abbrev pFirst : List Str := ["rows", "earlier", "fewest", "most", "is_right"]
/-- the place of the first row that is none: too many, not right, or its name is taken -/
def fwAt (R : V → Bool) (nm : V → Str) (most : Int) : List Str → Nat → List V → Option Nat
  | _, _, [] => none
  | tk, i, v :: r => if (i : Int) = most then some i else if R v = false then some i else if nm v ∈ tk then some i else fwAt R nm most (tk ++ [nm v]) (i + 1) r
def fwOut (R : V → Bool) (nm : V → Str) (few most : Int) (tk : List Str) : Option (List V) → List V
  | none => [.non]
  | some xs => if (xs.length : Int) < few then [.non] else match fwAt R nm most tk 0 xs with
    | none => []
    | some i => [.int i]
/-- a row that begins with this name -/
def Named (H : Hp) (v : V) (n : Str) : Prop := ∃ (a : Addr) (r : List V), v = .ref a ∧ H a = some (.tup (.str n :: r))
theorem Named.ex {H H1 : Hp} {v : V} {n : Str} (h : Named H v n) (e : Ex H H1) : Named H1 v n := by
  obtain ⟨a, r, e1, e2⟩ := h
  exact ⟨a, r, e1, e _ _ e2⟩
theorem walk_en {K : PySem.W.Frag} {a : Addr} {xs : List V} : Walk (EnT.Itn K a) xs.length (fun H => SqT K H a xs) (YPair (fun i => some (.int (i : Nat))) (fun i => xs[i]?)) where
  goes i _ hi q := ⟨xs, xs[i], q, by simp [hi]⟩
  stops _ q := ⟨xs, q, rfl⟩
  yields i H v H1 _ q y := by
    obtain ⟨T, x, h1, h2, h3, h4⟩ := y
    exact ⟨T, .int (i : Nat), x, h1, h2, h3, rfl, h4 xs q⟩
theorem strs_in {n : Str} {tk : List Str} : inV (.str n) (tk.map V.str) = decide (n ∈ tk) := by
  unfold inV
  rw [List.any_map]
  have e : (fun y => eqV y (V.str n)) ∘ V.str = fun y => decide (y = n) := by
    funext y
    show eqV (.str y) (.str n) = _
    unfold eqV
    rfl
  rw [e]
  by_cases h : n ∈ tk
  · rw [decide_eq_true h, List.any_eq_true]
    exact ⟨n, h, by simp⟩
  · rw [decide_eq_false h, List.any_eq_false]
    intro y hy z
    exact h (of_decide_eq_true z ▸ hy)
theorem Paired.spot {α β : Type} {F : α → β → Prop} : ∀ {xs : List α} {ys : List β} {i : Nat} {x : α}, Paired F xs ys → xs[i]? = some x → ∃ y, ys[i]? = some y ∧ F x y
  | _, _, 0, _, .cons f _, h => by
    cases h
    exact ⟨_, rfl, f⟩
  | _, _, i + 1, _, .cons _ t, h => Paired.spot (i := i) t h
  | _, _, _, _, .nil, h => by simp at h
theorem Paired.size {α β : Type} {F : α → β → Prop} : ∀ {xs : List α} {ys : List β}, Paired F xs ys → xs.length = ys.length
  | _, _, .nil => rfl
  | _, _, .cons _ t => by rw [List.length_cons, List.length_cons, Paired.size t]
section
variable {P : Program} {w : World} {K : PySem.W.Frag} {mg : Str → Option Value} {base : Heap}
theorem scFirst : FnScope nFirst pFirst (defScope sFirst) := ⟨rfl, rfl, rfl, by decide +kernel, rfl, by decide +kernel, by decide +kernel⟩
theorem walk_fw {f : Addr} {cdv : Value} {A : Around} {outer : List Env} {s : Shared} {H : Hp} {E : XK} {Q : VK} {tc : TE} {R : V → Bool} {nm : V → Str} {x cal : V} {ae : Addr} {ers : List V} {names : List Str} {few most : Int} (B : BltI mg)
    (hcall : ∀ p1 p2 p3, PE (cxOf CX0 P w K mg base nFirst "_first_wrong" (defScope sFirst) f cdv A outer s H E).nox (.Call (.Name "is_right" p1) [.Name "row" p2] [] p3) tc)
    (kx : Kn K H x) (ke : H ae = some (.tup ers)) (ken : Paired (Named H) ers names) (few0 : 0 ≤ few) (most0 : 0 ≤ most) (most1 : most ≤ 100) (el : ers.length ≤ 1000)
    (hR : ∀ xs, tupOf H x = some xs → ∀ v ∈ xs, ∀ (σ : St) (H1 : Hp) (Q1 : VK), Ex H H1 → σ[4]? = some (some cal) → σ[7]? = some (some v) → Says Q1 H1 (R v) → tc σ H1 Q1)
    (hN : ∀ xs, tupOf H x = some xs → ∀ v ∈ xs, R v = true → Named H v (nm v))
    (q : ∀ (p : Addr) (H1 : Hp), Ex H H1 → H p = none → H1 p = some (.tup (fwOut R nm few most names (tupOf H x))) → Q (.ref p) H1) :
    ∃ t, PSs (cxOf CX0 P w K mg base nFirst "_first_wrong" (defScope sFirst) f cdv A outer s H E).nox (defBody sFirst) t ∧ t { nx := fun _ H1 => Q .non H1, rt := Q } (start nFirst [x, .ref ae, .int few, .int most, cal]) H := by
  refine ⟨_, pss_cons (ps_if (PW.pt (pw_or (pt_not (pt_truth (pe_callB call_isi (by rfl) B.isinstance (by decide +kernel) (pa_cons (pv 0) (pa_cons (pe_bltn (by rfl) B.tuple (by decide +kernel) (v := .ty "tuple") rfl) pa_nil))) (fun _ => rfl)))
        (pw_or1 (pt_cmpR op_lt (pe_callB call_len_seq (by rfl) B.len (by decide +kernel) (pa_cons (pv 0) pa_nil)) (pv 2) (nomark _))))) (pss_one (ps_ret (pe_tup (pa_cons pe_non pa_nil)))) pss_nil)
    (pss_cons (ps_setLc (i := 5) (own := [("row", 7)]) (g := gName 7) (by rfl) scFirst.nd rfl rfl (sw_true rfl rfl rfl (by decide +kernel)) (pi_tup (pv 1)) (blkOk_by (own := [("row", 7)]) (N := nFirst) (sc := defScope sFirst) (by decide +kernel))
        (fun _ _ _ _ _ => pg_name scFirst.nd rfl (Or.inl rfl)) (fun _ _ _ _ _ => pts_nil) (fun _ _ _ _ _ => pe_ix (show IxR _ (rIxT K) from ix_tup) (pv 7) pe_int (fun _ _ => rfl)))
    (pss_cons (ps_for PassesOwn.never rfl (EnT.pi_enT (by rfl) B.enumerate (pa_cons (pv 0) pa_nil)) (pg_tup (by rfl) (pgs_cons (pg_name (i := 6) scFirst.nd rfl (Or.inl rfl)) (pgs_cons (pg_name (i := 7) scFirst.nd rfl (Or.inl rfl)) pgs_nil)))
        (pss_cons (ps_if (PW.pt (pw_or (pt_cmpR op_eq (pv 6) (pv 3) (nomark _)) (pw_or (pt_not (pt_truth (hcall _ _ _) (fun _ => rfl))) (pw_or1 (pt_cmpR op_in_seq (pe_ix ix_tup (pv 7) pe_int (fun _ _ => rfl)) (pv 5) (by with_unfolding_all rfl)))))) (pss_one (ps_ret (pe_tup (pa_cons (pv 6) pa_nil)))) pss_nil)
        (pss_one (ps_expr (pe_bm PySem.F.plainAttrs_list PySem.F.slot_list_append PySem.F.type_list_append mt_append (pv 5) (pa_cons (pe_ix ix_tup (pv 7) pe_int (fun _ _ => rfl)) pa_nil))))))
    (pss_one (ps_ret (pe_tup pa_nil))))), ?_⟩
  obtain ⟨t, b, ty, e, hb⟩ := kx.atTup
  have one : 1 ≤ sizeLine := by
    rw [sizeLine_eq]
    decide
  have big : (2000 : Nat) < sizeLine := by
    rw [sizeLine_eq]
    decide
  have nl : ers.length = names.length := Paired.size ken
  refine ⟨_, rfl, _, _, t, _, b, rfl, .ty "tuple", ty, e, b, rfl, ?_⟩
  rcases hb with ⟨rfl, a, xs, rfl, ha, hx⟩ | ⟨rfl, hx⟩
  · rw [hx] at q
    refine ⟨_, rfl, a, xs, rfl, .inr (SqT.of ha), _, rfl, _, _, rfl, rfl, _, rfl, ?_⟩
    refine ite2 (fun c => ?_) (fun c => ?_)
    · refine ⟨one, fun p np => q p _ (Ex.refl.new np) np ?_⟩
      rw [upd_same]
      unfold fwOut
      simp only
      rw [if_pos (of_decide_eq_true c)]
    · have c' : ¬ (xs.length : Int) < few := fun z => c (decide_eq_true z)
      have q : ∀ (p : Addr) (H1 : Hp) (o : Option Nat), Ex H H1 → H p = none → fwAt R nm most names 0 xs = o → H1 p = some (.tup (match o with | none => [] | some i => [.int i])) → Q (.ref p) H1 := fun p H1 o e1 e2 e3 e4 => by
        refine q p H1 e1 e2 ?_
        unfold fwOut
        simp only
        rw [if_neg c', e3, e4]
      clear c
      refine ⟨_, rfl, ae, rfl, ⟨ers, SqT.of ke⟩, fun D hD => lc_it walk_tup (fun n H2 => Ex H H2 ∧ H2 D = some (.lst ((names.take n).map V.str))) ⟨Ex.refl.new hD, upd_same⟩ (fun i H2 _ h => SqT.of (h.1 _ _ ke)) ?_ ?_⟩
      · rintro i v _ H2 hi ⟨x2, e2⟩ ⟨rfl, hv⟩
        obtain ⟨n, hn, b, r, rfl, hb⟩ := Paired.spot ken hv
        refine ⟨rfl, ?_⟩
        refine ⟨_, rfl, b, _, 0, .str n, rfl, rfl, SqT.of (x2 _ _ hb), atI_nat (j := 0) rfl, ?_⟩
        refine ⟨_, e2, ?_, x2.put hD, ?_⟩
        · rw [List.length_map, List.length_take]
          omega
        · rw [upd_same, List.take_succ, hn, List.map_append]
          rfl
      · rintro H2 ⟨x2, e2⟩
        rw [nl, List.take_length] at e2
        refine ⟨_, rfl, a, xs, rfl, SqT.of (x2 _ _ ha), for_it walk_en (fun n σ G => ∃ (tk : List Str) (v6 v7 : Option V), σ = [some (.ref a), some (.ref ae), some (.int few), some (.int most), some cal, some (.ref D), v6, v7] ∧ Ex H G ∧ G D = some (.lst (tk.map V.str)) ∧
            tk.length = names.length + n ∧ (n : Int) ≤ most ∧ fwAt R nm most names 0 xs = fwAt R nm most tk n (xs.drop n))
          ⟨names, _, _, rfl, x2, e2, rfl, by omega, by rw [List.drop_zero]⟩ (fun n σ G _ ⟨_, _, _, _, h, _⟩ => SqT.of (h _ _ ha)) ?_ ?_⟩
        · rintro i v σ G G1 hi ⟨tk, v6, v7, rfl, xG, eD, tl, im, ef⟩ ⟨T, y1, y2, rfl, nT, rfl, h1, h2⟩
          cases h1
          have h2 : xs[i]? = some y2 := h2
          have hi2 : i < xs.length := hi
          have dr : xs.drop i = y2 :: xs.drop (i + 1) := by
            have z := h2
            rw [List.getElem?_eq_getElem hi2] at z
            rw [List.drop_eq_getElem_cons hi2, Option.some.inj z]
          rw [dr] at ef
          have mem : y2 ∈ xs := List.mem_of_getElem? h2
          have xT : Ex H (upd G T (.tup [.int (i : Nat), y2])) := xG.new nT
          have dT : D ≠ T := ne_of_none eD nT
          have eD1 : (upd G T (.tup [.int (i : Nat), y2])) D = some (.lst (tk.map V.str)) := by
            rw [upd_ne dT]
            exact eD
          have eT : (upd G T (.tup [.int (i : Nat), y2])) T = some (.tup [.int (i : Nat), y2]) := upd_same
          generalize upd G T (.tup [.int (i : Nat), y2]) = G1 at xT eD1 eT ⊢
          refine ⟨T, _, rfl, SqT.of eT, rfl, _, _, rfl, _, _, rfl, rfl, ?_⟩
          refine ⟨_, rfl, _, rfl, rfl, _, rfl, ?_⟩
          have stop : fwAt R nm most tk i (y2 :: xs.drop (i + 1)) = some i → ∀ (G2 : Hp), Ex H G2 → ∀ p, G2 p = none → Q (.ref p) (upd G2 p (.tup [.int (i : Nat)])) := fun z G2 x3 p np =>
            q p _ (some i) (x3.new np) (x3.gone np) (ef.trans z) upd_same
          by_cases c1 : (i : Int) = most
          · rw [decide_eq_true (show V.int ((i : Nat) : Int) = V.int most by rw [c1])]
            refine ⟨_, rfl, one, fun p np => stop ?_ G1 xT p np⟩
            unfold fwAt
            rw [if_pos c1]
          · rw [decide_eq_false (fun z : V.int ((i : Nat) : Int) = V.int most => c1 (V.int.inj z))]
            refine hR xs hx y2 mem _ _ _ xT rfl rfl fun G2 x4 => ⟨_, rfl, ?_⟩
            have xT2 := xT.trans x4
            cases hRv : R y2 with
            | false =>
              refine ⟨_, rfl, one, fun p np => stop ?_ G2 xT2 p np⟩
              unfold fwAt
              rw [if_neg c1, if_pos hRv]
            | true =>
              obtain ⟨bb, r, rfl, hbb⟩ := hN xs hx y2 mem hRv
              have eD2 := x4 _ _ eD1
              have fl : (tk.map V.str).all flatV = true := by
                rw [List.all_map]
                exact List.all_eq_true.mpr fun _ _ => rfl
              refine ⟨_, rfl, bb, _, 0, .str (nm (.ref bb)), rfl, rfl, SqT.of (xT2 _ _ hbb), atI_nat (j := 0) rfl, _, rfl, D, _, rfl, .inl (SqL.of eD2), rfl, fl, _, rfl, ?_⟩
              rw [show (if false = true then !inV (V.str (nm (V.ref bb))) (tk.map V.str) else inV (V.str (nm (V.ref bb))) (tk.map V.str)) = decide (nm (V.ref bb) ∈ tk) from strs_in]
              refine ite2 (fun c2 => ?_) (fun c2 => ?_)
              · refine ⟨_, rfl, one, fun p np => stop ?_ G2 xT2 p np⟩
                unfold fwAt
                rw [if_neg c1, if_neg (by rw [hRv]; decide), if_pos (of_decide_eq_true c2)]
              · have c3 : ¬ nm (V.ref bb) ∈ tk := fun z => c2 (decide_eq_true z)
                refine ⟨_, rfl, .inl ⟨rfl, _, SqL.of eD2⟩, _, rfl, bb, _, 0, .str (nm (.ref bb)), rfl, rfl, SqT.of (xT2 _ _ hbb), atI_nat (j := 0) rfl, D, _, _, rfl, rfl, eD2, ?_, tk ++ [nm (.ref bb)], _, _, rfl, xT2.put hD, ?_, ?_, ?_, ?_⟩
                · rw [List.length_map, tl]
                  omega
                · rw [upd_same, List.map_append]
                  rfl
                · rw [List.length_append, tl]
                  rfl
                · omega
                · rw [ef]
                  conv => lhs; unfold fwAt
                  rw [if_neg c1, if_neg (by rw [hRv]; decide), if_neg c3]
        · rintro σ G ⟨tk, v6, v7, rfl, xG, eD, tl, im, ef⟩
          rw [List.drop_length] at ef
          exact ⟨Nat.zero_le _, fun p np => q p _ none (xG.new np) (xG.gone np) ef upd_same⟩
  · rw [hx] at q
    exact ⟨one, fun p np => q p _ (Ex.refl.new np) np upd_same⟩
end
end LJ
set_option Elab.async false
set_option linter.all false
set_option maxRecDepth 100000
set_option maxHeartbeats 8000000
namespace LJ
open PySem PySem.Spec L2
def nameOf (H : Hp) (v : V) : Str := match tupOf H v with
  | some (.str n :: _) => n
  | _ => Str.empty
/-- what a test lets has a name ahead -/
def Heads (g : List V → Bool) : Prop := ∀ xs, g xs = true → ∃ y ys, xs = y :: ys ∧ isN y = true
theorem heads_shares : Heads sharesOf := fun xs h => by
  match xs, h with
  | [y, a, b], h =>
    unfold sharesOf at h
    exact ⟨y, _, rfl, (Bool.and_eq_true _ _ ▸ h).1⟩
theorem heads_lim : Heads limOf := fun xs h => by
  match xs, h with
  | [y, .int i], h =>
    unfold limOf at h
    exact ⟨y, _, rfl, (Bool.and_eq_true _ _ ▸ h).1⟩
theorem heads_cont {H : Hp} {m : Int} : Heads (contOf H m) := fun xs h => by
  match xs, h with
  | [y, t], h =>
    unfold contOf at h
    exact ⟨y, _, rfl, (Bool.and_eq_true _ _ ▸ h).1⟩
theorem named_of {g : List V → Bool} {H : Hp} {v : V} (hg : Heads g) (h : onTup g H v = true) : Named H v (nameOf H v) := by
  unfold onTup at h
  split at h
  · rename_i xs e
    obtain ⟨y, ys, rfl, hy⟩ := hg xs h
    obtain ⟨a, rfl, ha⟩ := tup_ref e
    match y, hy with
    | .str n, _ =>
      refine ⟨a, ys, rfl, ?_⟩
      unfold nameOf
      rw [e]
      exact ha
  · cases h
theorem onTup_ex {K : PySem.W.Frag} {g : List V → Bool} {H H1 : Hp} {v : V} (k : Kn K H v) (e : Ex H H1) : onTup g H1 v = onTup g H v := by
  unfold onTup
  rw [k.tups e]
/-- what the call of _first_wrong asks of its first four arguments -/
structure FwPre (K : PySem.W.Frag) (H : Hp) (x : V) (ae : Addr) (ers : List V) (names : List Str) (few most : Int) : Prop where
  ke : H ae = some (.tup ers)
  ken : Paired (Named H) ers names
  few0 : 0 ≤ few
  most0 : 0 ≤ most
  most1 : most ≤ 100
  el : ers.length ≤ 1000
def spFw (K : PySem.W.Frag) (fS fL : Addr) : Sp := fun vs H Q _ => ∃ (x : V) (ae : Addr) (ers : List V) (names : List Str) (few most : Int) (cf : Addr) (g : List V → Bool), vs = [x, .ref ae, .int few, .int most, .ref cf] ∧ FwPre K H x ae ers names few most ∧ Deep K H 2 x ∧
  ((cf = fS ∧ g = sharesOf) ∨ (cf = fL ∧ g = limOf)) ∧ ∀ (p : Addr) (H1 : Hp), Ex H H1 → H p = none → H1 p = some (.tup (fwOut (onTup g H) (nameOf H) few most names (tupOf H x))) → Q (.ref p) H1
section
variable {P : Program} {w : World} {K : PySem.W.Frag} {mg : Str → Option Value} {base : Heap}
theorem ok_first {f fS fL : Addr} {fd fdS fdL : FuncData} (F : Fun K "_first_wrong" "_first_wrong" sFirst f fd) (B : BltI mg)
    (GS : FnOk P w K mg base CX0 3 fS fdS ["row"] (spTest K 1 (onTup sharesOf))) (kS : PySem.W.keepIn K (.ref fS) = true) (bS : Binds K fdS ["row"] [])
    (GL : FnOk P w K mg base CX0 3 fL fdL ["row"] (spTest K 1 (onTup limOf))) (kL : PySem.W.keepIn K (.ref fL) = true) (bL : Binds K fdL ["row"] []) :
    FnOk P w K mg base CX0 4 f fd pFirst (spFw K fS fL) := by
  refine F.ok scFirst (fun vs H Q E h => ?_) (fun cdv A outer s H vs Q E hr h => ?_)
  · obtain ⟨x, ae, ers, names, few, most, cf, g, rfl, _⟩ := h
    rfl
  · obtain ⟨x, ae, ers, names, few, most, cf, g, rfl, pre, dx, hc, q⟩ := h
    refine walk_fw (cal := .ref cf) (R := onTup g H) (nm := nameOf H) B (fun p1 p2 p3 => C8.pe_cv (i := 4) (k1 := 3) (k2 := 3) ⟨⟨_, _, GS, kS, bS⟩⟩ ⟨⟨_, _, GL, kL, bL⟩⟩ hr (by decide) (by decide) (by rfl) (by exact Or.inl rfl) (pa_cons (pv 7) pa_nil))
      dx.1 pre.ke pre.ken pre.few0 pre.most0 pre.most1 pre.el ?_ ?_ q
    · intro xs hx v hv σ H1 Q1 e1 h4 h7 says
      have dv : Deep K H 1 v := dx.2 xs hx v hv
      rcases hc with ⟨rfl, rfl⟩ | ⟨rfl, rfl⟩
      · exact .inl ⟨h4, v, h7, v, rfl, Deep.ex e1 dv, by rw [onTup_ex dv.1 e1]; exact says⟩
      · exact .inr ⟨h4, v, h7, v, rfl, Deep.ex e1 dv, by rw [onTup_ex dv.1 e1]; exact says⟩
    · intro xs hx v hv hR
      rcases hc with ⟨_, rfl⟩ | ⟨_, rfl⟩
      · exact named_of heads_shares hR
      · exact named_of heads_lim hR
end
end LJ
set_option Elab.async false
set_option linter.all false
set_option maxRecDepth 100000
set_option maxHeartbeats 8000000
namespace LJ
open PySem PySem.Spec L2
open LamX (ExtN)
abbrev sCheck : Stmt := top 25
abbrev nCheck : List Str := ["machines", "cleanings", "stuffs", "products", "wrong", "many"]
abbrev pCheck : List Str := ["machines", "cleanings", "stuffs", "products"]
theorem onTup_exN {K : PySem.W.Frag} {g : List V → Bool} {H H1 : Hp} {v : V} (k : Kn K H v) (e : ExtN H H1) : onTup g H1 v = onTup g H v := by
  unfold onTup
  rw [k.tupsN e]
theorem nameOf_exN {K : PySem.W.Frag} {H H1 : Hp} {v : V} (k : Kn K H v) (e : ExtN H H1) : nameOf H1 v = nameOf H v := by
  unfold nameOf
  rw [k.tupsN e]
theorem isBnd_exN {K : PySem.W.Frag} {H H1 : Hp} {y : V} {m : Int} (k : Kn K H y) (e : ExtN H H1) : isBnd H1 y m = isBnd H y m := by
  unfold isBnd
  rw [k.tupsN e]
theorem all_same {α : Type} {p q : α → Bool} : ∀ {xs : List α}, (∀ x ∈ xs, p x = q x) → xs.all p = xs.all q
  | [], _ => rfl
  | x :: xs, h => by rw [List.all_cons, List.all_cons, h x (List.mem_cons_self ..), all_same fun y hy => h y (List.mem_cons_of_mem _ hy)]
theorem cont_exN {K : PySem.W.Frag} {H H1 : Hp} {m : Int} {v : V} (d : Deep K H 3 v) (e : ExtN H H1) : onTup (contOf H1 m) H1 v = onTup (contOf H m) H v := by
  unfold onTup
  rw [d.1.tupsN e]
  cases hx : tupOf H v with
  | none => rfl
  | some xs =>
    show contOf H1 m xs = contOf H m xs
    match xs, hx with
    | [], _ => rfl
    | [_], _ => rfl
    | _ :: _ :: _ :: _, _ => rfl
    | [n, t], hx =>
      have dt : Deep K H 2 t := d.2 _ hx t (by simp)
      show (isN n && pairsOf H1 m (tupOf H1 t)) = (isN n && pairsOf H m (tupOf H t))
      rw [dt.1.tupsN e]
      cases ht : tupOf H t with
      | none => rfl
      | some ps =>
        show (isN n && (decide ((ps.length : Int) = m) && ps.all fun y => isBnd H1 y top12)) = (isN n && (decide ((ps.length : Int) = m) && ps.all fun y => isBnd H y top12))
        rw [all_same fun y hy => isBnd_exN (m := top12) (dt.2 _ ht y hy).1 e]
theorem fwAt_same {R R1 : V → Bool} {nm nm1 : V → Str} {most : Int} : ∀ {xs : List V} {tk : List Str} {i : Nat}, (∀ v ∈ xs, R v = R1 v ∧ nm v = nm1 v) → fwAt R nm most tk i xs = fwAt R1 nm1 most tk i xs
  | [], _, _, _ => by
    unfold fwAt
    rfl
  | v :: xs, tk, i, h => by
    have h1 := h v (List.mem_cons_self ..)
    have t := fwAt_same (tk := tk ++ [nm1 v]) (i := i + 1) (most := most) fun y hy => h y (List.mem_cons_of_mem _ hy)
    unfold fwAt
    rw [h1.1, h1.2, t]
/-- all rows are right, and there are no more than so many -/
theorem fwAt_all {R : V → Bool} {nm : V → Str} {most : Int} : ∀ {xs : List V} {tk : List Str} {i : Nat}, (i : Int) ≤ most → fwAt R nm most tk i xs = none → (∀ v ∈ xs, R v = true) ∧ (i : Int) + xs.length ≤ most
  | [], _, i, h0, _ => ⟨(fun _ z => nomatch z), by simpa using h0⟩
  | v :: xs, tk, i, h0, h => by
    unfold fwAt at h
    split at h
    · cases h
    · split at h
      · cases h
      · split at h
        · cases h
        · rename_i c1 c2 c3
          obtain ⟨a, b⟩ := fwAt_all (i := i + 1) (by omega) h
          refine ⟨fun y hy => ?_, ?_⟩
          · rcases List.mem_cons.mp hy with rfl | hy
            · exact Bool.of_not_eq_false c2
            · exact a y hy
          · rw [List.length_cons]
            omega
theorem fw_nil {R : V → Bool} {nm : V → Str} {few most : Int} {tk : List Str} {H : Hp} {x : V} {xs : List V} (e : tupOf H x = some xs) (l : few ≤ xs.length) (h : fwAt R nm most tk 0 xs = none) : fwOut R nm few most tk (tupOf H x) = [] := by
  rw [e]
  unfold fwOut
  simp only
  rw [if_neg (by omega), h]
/-- four tuples that the check lets -/
structure Fit (K : PySem.W.Frag) (H : Hp) (am ac as ap : Addr) (xm xc xs xp : List V) : Prop where
  m : H am = some (.tup xm)
  c : H ac = some (.tup xc)
  s : H as = some (.tup xs)
  p : H ap = some (.tup xp)
  dm : Deep K H 2 (.ref am)
  dc : Deep K H 2 (.ref ac)
  ds : Deep K H 2 (.ref as)
  dp : Deep K H 4 (.ref ap)
  lm : 1 ≤ xm.length
  ls : 1 ≤ xs.length
  lp : 1 ≤ xp.length
  fm : fwAt (onTup sharesOf H) (nameOf H) 6 [] 0 xm = none
  fc : fwAt (onTup sharesOf H) (nameOf H) 6 (xm.map (nameOf H)) 0 xc = none
  fs : fwAt (onTup limOf H) (nameOf H) 3 ((xm ++ xc).map (nameOf H)) 0 xs = none
  fp : fwAt (onTup (contOf H xs.length) H) (nameOf H) 8 ((xm ++ xc ++ xs).map (nameOf H)) 0 xp = none
theorem Deep.rows {K : PySem.W.Frag} {H : Hp} {n : Nat} {a : Addr} {xs : List V} (d : Deep K H (n + 1) (.ref a)) (h : H a = some (.tup xs)) : ∀ v ∈ xs, Deep K H n v := d.2 xs (tup_at h)
theorem names_exN {K : PySem.W.Frag} {H H1 : Hp} (e : ExtN H H1) : ∀ {xs : List V}, (∀ v ∈ xs, Kn K H v) → xs.map (nameOf H1) = xs.map (nameOf H)
  | [], _ => rfl
  | x :: xs, h => by rw [List.map_cons, List.map_cons, nameOf_exN (h x (List.mem_cons_self ..)) e, names_exN e fun y hy => h y (List.mem_cons_of_mem _ hy)]
theorem Fit.exN {K : PySem.W.Frag} {H H1 : Hp} {am ac as ap : Addr} {xm xc xs xp : List V} (F : Fit K H am ac as ap xm xc xs xp) (e : ExtN H H1) : Fit K H1 am ac as ap xm xc xs xp := by
  have km : ∀ v ∈ xm, Kn K H v := fun v hv => (F.dm.rows F.m v hv).kn
  have kc : ∀ v ∈ xc, Kn K H v := fun v hv => (F.dc.rows F.c v hv).kn
  have ks : ∀ v ∈ xs, Kn K H v := fun v hv => (F.ds.rows F.s v hv).kn
  have kp : ∀ v ∈ xp, Kn K H v := fun v hv => (F.dp.rows F.p v hv).kn
  have kmc : ∀ v ∈ xm ++ xc, Kn K H v := fun v hv => (List.mem_append.mp hv).elim (km v) (kc v)
  have kmcs : ∀ v ∈ xm ++ xc ++ xs, Kn K H v := fun v hv => (List.mem_append.mp hv).elim (kmc v) (ks v)
  refine ⟨tup_n e F.m, tup_n e F.c, tup_n e F.s, tup_n e F.p, F.dm.exN e, F.dc.exN e, F.ds.exN e, F.dp.exN e, F.lm, F.ls, F.lp, ?_, ?_, ?_, ?_⟩
  · rw [← F.fm]
    exact fwAt_same fun v hv => ⟨onTup_exN (km v hv) e, nameOf_exN (km v hv) e⟩
  · rw [← F.fc, names_exN e km]
    exact fwAt_same fun v hv => ⟨onTup_exN (kc v hv) e, nameOf_exN (kc v hv) e⟩
  · rw [← F.fs, names_exN e kmc]
    exact fwAt_same fun v hv => ⟨onTup_exN (ks v hv) e, nameOf_exN (ks v hv) e⟩
  · rw [← F.fp, names_exN e kmcs]
    exact fwAt_same fun v hv => ⟨cont_exN (F.dp.rows F.p v hv) e, nameOf_exN (kp v hv) e⟩
theorem paired_names {H : Hp} : ∀ {xs : List V}, (∀ v ∈ xs, Named H v (nameOf H v)) → Paired (Named H) xs (xs.map (nameOf H))
  | [], _ => .nil
  | x :: xs, h => .cons (h x (List.mem_cons_self ..)) (paired_names fun y hy => h y (List.mem_cons_of_mem _ hy))
theorem Fit.named {K : PySem.W.Frag} {H : Hp} {am ac as ap : Addr} {xm xc xs xp : List V} (F : Fit K H am ac as ap xm xc xs xp) :
    (∀ v ∈ xm, Named H v (nameOf H v)) ∧ (∀ v ∈ xc, Named H v (nameOf H v)) ∧ (∀ v ∈ xs, Named H v (nameOf H v)) ∧ xm.length ≤ 6 ∧ xc.length ≤ 6 ∧ xs.length ≤ 3 := by
  obtain ⟨a1, b1⟩ := fwAt_all (by decide) F.fm
  obtain ⟨a2, b2⟩ := fwAt_all (by decide) F.fc
  obtain ⟨a3, b3⟩ := fwAt_all (by decide) F.fs
  exact ⟨fun v hv => named_of heads_shares (a1 v hv), fun v hv => named_of heads_shares (a2 v hv), fun v hv => named_of heads_lim (a3 v hv), by omega, by omega, by omega⟩
/-- a + b, two tuples, the first one not empty -/
theorem rd_cat {K : PySem.W.Frag} {H : Hp} {a b : Addr} {xs ys : List V} {Q : VK} (ha : H a = some (.tup xs)) (hb : H b = some (.tup ys)) (ne : xs ≠ []) (l : xs.length + ys.length ≤ 1000)
    (q : ∀ (c : Addr) (H1 : Hp), Ex H H1 → H1 c = some (.tup (xs ++ ys)) → Q (.ref c) H1) : rCatT K (.ref a) (.ref b) H Q := by
  refine ⟨a, b, xs, ys, rfl, rfl, SqT.of ha, SqT.of hb, ne, ?_, fun e => ?_, fun _ p np => ?_⟩
  · rw [sizeLine_eq]
    omega
  · subst e
    exact q a H Ex.refl (by rw [List.append_nil]; exact ha)
  · exact q p _ (Ex.refl.new np) upd_same
end LJ
set_option Elab.async false
set_option linter.all false
set_option maxRecDepth 100000
set_option maxHeartbeats 8000000
namespace LJ
open PySem PySem.Spec L2
open LamX (ExtN TabB)
open NdefX (NTab TabsN)
/-- a def with the code object at c, by its body -/
theorem Fun.okC {K : PySem.W.Frag} {P : Program} {w : World} {mg : Str → Option Value} {base : Heap} {x qual : Str} {st : Stmt} {f c : Addr} {fd : FuncData} {N ps : List Str} {k : Nat} {sp : Sp} (F : Fun K x qual st f fd) (hc : fd.code = .ref c) (S : FnScope N ps (defScope st)) (len : ∀ vs H Q E, sp vs H Q E → vs.length = ps.length)
    (hbody : ∀ (A : Around) (outer : List Env) (s : Shared) (H : Hp) (vs : List V) (Q : VK) (E : XK), Room k (A.deeper (PyProof.Rows.envOfC qual (defScope st) s.heap.objs.size f (.ref c))) → sp vs H Q E →
      ∃ t, PSs (cxOf CX0 P w K mg base N qual (defScope st) f (.ref c) A outer s H E).nox (defBody st) t ∧ t { nx := fun _ H1 => Q .non H1, rt := Q } (start N vs) H) : FnOk P w K mg base CX0 (k + 1) f fd ps sp := by
  obtain ⟨oc, od, kV, doc, pm, an, cdv, ct, osl, rfl, lk, hcd⟩ := F.ex
  obtain rfl : cdv = .ref c := hc
  refine fn_of lk hcd S len fun A outer s H vs Q E hr hsp => ?_
  obtain ⟨t, h, q⟩ := hbody A outer s H vs Q E hr hsp
  exact ⟨t, h.nox, q⟩
/-! ### _first_wrong(.., lambda row: _has_contents(row, many)) -/
def spRow (K : PySem.W.Frag) : List (Option V) → Sp := fun ws vs H Q _ => ∃ (v : V) (m : Int), ws = [some (.int m)] ∧ vs = [v] ∧ Deep K H 3 v ∧ Says Q H (onTup (contOf H m) H v)
/-- what the arguments are: the lambda stands, many is m -/
def AskL (X : Cx) (params : Arguments) (body : Expr) (scope : Scope) : St → List V → Hp → VK → Prop := fun σ vs H Q => ∃ (x : V) (ae : Addr) (ers : List V) (names : List Str) (few most m : Int) (fl c1 : Addr),
  vs = [x, .ref ae, .int few, .int most, .ref fl] ∧ FwPre X.K H x ae ers names few most ∧ Deep X.K H 4 x ∧ σ[5]? = some (some (.int m)) ∧ H fl = some (LamV.LnO fl (LamV.lamF X params scope c1) body) ∧
  H (LamV.lamF X params scope c1).c = some (LamX.CodeO (LamV.lamF X params scope c1).c (LamV.lamF X params scope c1).qual) ∧
  ∀ (p : Addr) (H1 : Hp), Ex H H1 → H p = none → H1 p = some (.tup (fwOut (onTup (contOf H m) H) (nameOf H) few most names (tupOf H x))) → Q (.ref p) H1
theorem pe_fwl {X : Cx} {f fC : Addr} {fd fdC : FuncData} {params : Arguments} {body : Expr} {scope : Scope} {p pos : Pos} {e : Expr} {es : List Expr} {t : TA} {q1 q2 q3 q4 : Pos} (F : Fun X.K "_first_wrong" "_first_wrong" sFirst f fd) (B : BltI X.mg) (room : Room 5 X.A) (gl : Gl X "_first_wrong")
    (is : X.mg "_first_wrong" = some (.ref f)) (kp : PySem.W.keepIn X.K (.ref f) = true) (bd : Binds X.K fd pFirst [])
    (GC : FnOk X.prog X.w X.K X.mg X.base CX0 3 fC fdC ["row", "many"] (spCont X.K)) (mC : X.mg "_has_contents" = some (.ref fC)) (kC : PySem.W.keepIn X.K (.ref fC) = true) (bC : Binds X.K fdC ["row", "many"] [])
    (is5 : X.N[5]? = some ("many" : Str)) (caps : ∀ y ∈ scope.names, y.2 = .free → X.env.scope.names.lookup y.1 = some .cell ∨ X.env.scope.names.lookup y.1 = some .free) (frees : ∀ y ∈ (["many"] : List Str), (y, NameKind.free) ∈ scope.names) (hb : body = .Call (.Name "_has_contents" q1) [.Name "row" q2, .Name "many" q3] [] q4)
    (NS : NdefX.NScope ["row", "many"] ["row"] ["many"] scope) (glC : scope.names.lookup ("_has_contents" : Str) = some .globalImplicit)
    (hbind : ∀ (nm q : Str) (cl : List (Str × Addr)) (m t cv : Value) (us : List Value), us.length = 1 → bindArgs (PySem.W.kla_fn nm q params body scope cl m cv t) ⟨us, []⟩ = pure ((["row"] : List Str).zip us))
    (args : PA X (e :: es) t) (p1 : starEach (e :: es) X.env = (false, eval e X.env) :: starEach es X.env := by rfl) (p2 : (backTo pos (starEach es X.env)).any (·.1) = false := by rfl) :
    PE X (.Call (.Name "_first_wrong" p) (e :: es) [] pos) (fun σ H Q => t σ H fun vs H1 => AskL X params body scope σ vs H1 Q) := by
  refine LamV.pe_in (N := nFirst) (ps := pFirst) (k := 4) F scFirst room gl is kp bd (fun {σ vs H Q} h => ?_) (fun cdv pins σ H s vs Q I deep h => ?_) args (by decide) p1 p2
  · obtain ⟨x, ae, ers, names, few, most, m, fl, c1, rfl, _⟩ := h
    rfl
  · obtain ⟨x, ae, ers, names, few, most, m, fl, c1, rfl, pre, dx, hm, hfl, hc1, q⟩ := h
    have L : LamV.LOk X.prog X.w X.K X.mg X.base CX0 4 fl (LamV.lamF X params scope c1) body 1 ["many"] (spRow X.K) := by
      refine LamV.LOk.by_body (N := ["row", "many"]) (ps := ["row"]) NS (fun m t us hl => hbind _ _ _ _ _ _ us hl) (fun {ws vs H Q E} h => ?_) fun A outer s H vs ws Q E hr rdy h => ?_
      · obtain ⟨v, m, _, rfl, _⟩ := h
        rfl
      · obtain ⟨v, m, rfl, rfl, dv, says⟩ := h
        subst hb
        refine ⟨_, pe_call GC hr (show Gl _ _ from glC) mC kC bC .nil pass0 (pa_cons (pe_var (i := 0) rfl (.inl (NS.par _ (List.mem_cons_self ..)))) (pa_cons (pe_var (i := 1) rfl (.inr (.inr (NS.frk _ (List.mem_cons_self ..))))) pa_nil)), ?_⟩
        exact ⟨v, rfl, .int m, rfl, v, m, rfl, dv, says⟩
    have C : NdefX.CellsAt (LamV.lamF X params scope c1).cl ["many"] ([5].map (NdefX.slotAt σ)) s.heap H := by
      refine NdefX.cells_of I (NdefX.Caps.made (fr := ["many"]) (js := [5]) I.ok caps frees ?_)
      show [X.N[5]?] = [some ("many" : Str)]
      rw [is5]
    have w5 : [5].map (NdefX.slotAt σ) = [some (.int m)] := by
      show [NdefX.slotAt σ 5] = _
      rw [NdefX.slotAt_of hm]
    rw [w5] at C
    have deep' : Room 4 (X.A.deeper (PyProof.Rows.envOfC "_first_wrong" (defScope sFirst) s.heap.objs.size f cdv)) := deep
    refine walk_fw (cal := .ref fl) (R := onTup (contOf H m) H) (nm := nameOf H) B (fun q1 q2 q3 => LamV.pe_lact (i := 4) L C rfl deep' (Nat.le_refl _) pass0 rfl (Or.inl rfl) (pa_cons (pv 7) pa_nil)) dx.1 pre.ke pre.ken pre.few0 pre.most0 pre.most1 pre.el ?_ ?_ q
    · intro xs hx v hv σ1 H1 Q1 e1 h4 h7 says
      have dv : Deep X.K H 3 v := dx.2 xs hx v hv
      refine ⟨⟨h4, e1 _ _ hfl⟩, v, h7, ⟨e1 _ _ hfl, e1 _ _ hc1⟩, v, m, rfl, rfl, Deep.ex e1 dv, ?_⟩
      rw [cont_exN dv e1.n]
      exact says
    · intro xs hx v hv hR
      exact named_of heads_cont hR
end LJ
set_option Elab.async false
set_option linter.all false
set_option maxRecDepth 100000
set_option maxHeartbeats 8000000
namespace LJ
open PySem PySem.Spec L2
open LamX (ExtN TabB)
open NdefX (NTab TabsN)
/-- the lambda that the check hands on -/
def lamE : Expr := match (defBody sCheck).getD 7 (.Pass ⟨0, 0, 0, 0⟩) with
  | .Assign _ (.Call _ args _ _) _ => args.getD 4 (.Constant .none 0 ⟨0, 0, 0, 0⟩)
  | _ => .Constant .none 0 ⟨0, 0, 0, 0⟩
def lamParams : Expr → Arguments
  | .Lambda a _ _ _ => a
  | _ => ⟨[], [], none, [], [], none, []⟩
def lamBody : Expr → Expr
  | .Lambda _ b _ _ => b
  | e => e
def lamScope : Expr → Scope
  | .Lambda _ _ s _ => s
  | _ => defScope sCheck
def lamName : Nat → Nat → Str := fun _ _ => "_check.<locals>.<lambda>"
def spCheck (K : PySem.W.Frag) (T : List NTab) : Sp := fun vs H Q _ => ∃ (am ac as ap : Addr) (xm xc xs xp : List V), vs = [.ref am, .ref ac, .ref as, .ref ap] ∧ Fit K H am ac as ap xm xc xs xp ∧ TabsN T H ∧ ∀ H1, ExtN H H1 → TabsN T H1 → Q .non H1
theorem TabsN.exs {T : List NTab} {H H1 : Hp} (t : TabsN T H) (e : Ex H H1) : TabsN T H1 := t.ext e
section
variable {P : Program} {w : World} {K : PySem.W.Frag} {mg : Str → Option Value} {base : Heap}
theorem scCheck : FnScope nCheck pCheck (defScope sCheck) := ⟨rfl, rfl, rfl, by decide +kernel, rfl, by decide +kernel, by decide +kernel⟩
theorem ok_check {f fF fS fL fC c Pt : Addr} {fd fdF fdC : FuncData} {u1 u2 u3 u4 : Value} {T : List NTab} (F : Fun K "_check" "_check" sCheck f fd) (hcode : fd.code = .ref c) (TB : TabB base mg c Pt) (inT : (Pt, lamName) ∈ T) (only : ∀ r ∈ T, r.1 = Pt → r.2 = lamName) (B : BltI mg)
    (FF : Fun K "_first_wrong" "_first_wrong" sFirst fF fdF) (GF : FnOk P w K mg base CX0 4 fF fdF pFirst (spFw K fS fL)) (mF : mg "_first_wrong" = some (.ref fF)) (kF : PySem.W.keepIn K (.ref fF) = true) (bF : Binds K fdF pFirst [])
    (GC : FnOk P w K mg base CX0 3 fC fdC ["row", "many"] (spCont K)) (mC : mg "_has_contents" = some (.ref fC)) (kC : PySem.W.keepIn K (.ref fC) = true) (bC : Binds K fdC ["row", "many"] [])
    (mS : mg "_has_shares" = some (.ref fS)) (mL : mg "_has_limit" = some (.ref fL))
    (m1 : mg "MOST_MACHINES" = some u1) (r1 : RelV (.int 6) u1) (m2 : mg "MOST_CLEANINGS" = some u2) (r2 : RelV (.int 6) u2) (m3 : mg "MOST_STUFFS" = some u3) (r3 : RelV (.int 3) u3) (m4 : mg "MOST_PRODUCTS" = some u4) (r4 : RelV (.int 8) u4) :
    FnOk P w K mg base CX0 6 f fd pCheck (spCheck K T) := by
  refine Fun.okC F hcode scCheck (fun vs H Q E h => ?_) (fun A outer s H vs Q E hr h => ?_)
  · obtain ⟨am, ac, as, ap, xm, xc, xs, xp, rfl, _⟩ := h
    rfl
  · obtain ⟨am, ac, as, ap, xm, xc, xs, xp, rfl, fit, tabs, q⟩ := h
    have hr4 : Room 4 _ := hr.mono (by decide)
    refine ⟨_, pss_cons (ps_set (i := 4) scCheck.nd rfl (Or.inl rfl) (pe_call GF hr4 (by rfl) mF kF bF .nil pass0 (pa_cons (pv 0) (pa_cons (pe_tup pa_nil) (pa_cons pe_int (pa_cons (pe_glob (by rfl) m1 r1) (pa_cons (pe_glob (v := .ref fS) (by rfl) mS rfl) pa_nil)))))))
      (pss_cons (ps_if (pt_truth (pv 4) (fun _ => rfl)) pss_never pss_nil)
      (pss_cons (ps_set (i := 4) scCheck.nd rfl (Or.inl rfl) (pe_call GF hr4 (by rfl) mF kF bF .nil pass0 (pa_cons (pv 1) (pa_cons (pv 0) (pa_cons pe_int (pa_cons (pe_glob (by rfl) m2 r2) (pa_cons (pe_glob (v := .ref fS) (by rfl) mS rfl) pa_nil)))))))
      (pss_cons (ps_if (pt_truth (pv 4) (fun _ => rfl)) pss_never pss_nil)
      (pss_cons (ps_set (i := 4) scCheck.nd rfl (Or.inl rfl) (pe_call GF hr4 (by rfl) mF kF bF .nil pass0 (pa_cons (pv 2) (pa_cons (pe_op op_catT (pv 0) (pv 1)) (pa_cons pe_int (pa_cons (pe_glob (by rfl) m3 r3) (pa_cons (pe_glob (v := .ref fL) (by rfl) mL rfl) pa_nil)))))))
      (pss_cons (ps_if (pt_truth (pv 4) (fun _ => rfl)) pss_never pss_nil)
      (pss_cons (ps_set (i := 5) scCheck.nd rfl (Or.inr rfl) (pe_callB call_len_seq (by rfl) B.len (by decide +kernel) (pa_cons (pv 2) pa_nil)))
      (pss_cons (ps_set (i := 4) scCheck.nd rfl (Or.inl rfl) (pe_fwl (params := lamParams lamE) (body := lamBody lamE) (scope := lamScope lamE) FF B hr (by rfl) mF kF bF GC mC kC bC rfl (NdefX.ndef_free (sc := defScope sCheck) (fr := ["many"]) (by decide +kernel)) (NdefX.ndef_fr (sc := defScope sCheck) (by decide +kernel)) rfl (NdefX.nscope_by (by decide +kernel)) rfl
          (fun _ _ _ _ _ _ us hl => match us, hl with | [_], _ => rfl)
          (pa_cons (pv 3) (pa_cons (pe_op op_catT (pe_op op_catT (pv 0) (pv 1)) (pv 2)) (pa_cons pe_int (pa_cons (pe_glob (by rfl) m4 r4) (pa_cons (LamV.pe_lam TB rfl inT rfl only rfl (NdefX.ndef_free (sc := defScope sCheck) (fr := ["many"]) (by decide +kernel))) pa_nil)))))))
      (pss_one (ps_if (pt_truth (pv 4) (fun _ => rfl)) pss_never pss_nil))))))))), ?_⟩
    have le0 : ([] : List V).length ≤ sizeLine := Nat.zero_le _
    refine ⟨_, rfl, le0, fun p0 np0 => ?_⟩
    have x0 : Ex H (upd H p0 (.tup [])) := Ex.refl.new np0
    have F0 := fit.exN x0.n
    have T0 := TabsN.exs tabs x0
    have e0 : (upd H p0 (.tup [])) p0 = some (.tup []) := upd_same
    generalize upd H p0 (.tup []) = H0 at x0 F0 T0 e0 ⊢
    refine ⟨.ref am, p0, [], [], 1, 6, fS, sharesOf, rfl, ⟨e0, .nil, by decide, by decide, by decide, by decide⟩, F0.dm, .inl ⟨rfl, rfl⟩, fun p1 H1 x1 np1 e1 => ?_⟩
    rw [fw_nil (tup_at F0.m) (by have := fit.lm; omega) F0.fm] at e1
    refine ⟨_, rfl, false, .inr (.inl ⟨[], SqT.of e1, rfl⟩), ?_⟩
    have F1 := F0.exN x1.n
    have T1 := TabsN.exs T0 x1
    obtain ⟨nm1, nc1, ns1, lm1, lc1, ls1⟩ := F1.named
    refine ⟨_, rfl, _, rfl, .ref ac, am, xm, xm.map (nameOf H1), 0, 6, fS, sharesOf, rfl, ⟨F1.m, paired_names nm1, by decide, by decide, by decide, by omega⟩, F1.dc, .inl ⟨rfl, rfl⟩, fun p2 H2 x2 np2 e2 => ?_⟩
    rw [fw_nil (tup_at F1.c) (by omega) F1.fc] at e2
    refine ⟨_, rfl, false, .inr (.inl ⟨[], SqT.of e2, rfl⟩), ?_⟩
    have F2 := F1.exN x2.n
    have T2 := TabsN.exs T1 x2
    have ne : xm ≠ [] := fun z => by
      have l := fit.lm
      rw [z] at l
      exact absurd l (by decide)
    refine ⟨_, rfl, _, rfl, _, rfl, rd_cat F2.m F2.c ne (by omega) fun pc H3 x3 e3 => ?_⟩
    have F3 := F2.exN x3.n
    have T3 := TabsN.exs T2 x3
    obtain ⟨nm3, nc3, ns3, _⟩ := F3.named
    have nmc3 : ∀ v ∈ xm ++ xc, Named H3 v (nameOf H3 v) := fun v hv => (List.mem_append.mp hv).elim (nm3 v) (nc3 v)
    refine ⟨.ref as, pc, xm ++ xc, (xm ++ xc).map (nameOf H3), 1, 3, fL, limOf, rfl, ⟨e3, paired_names nmc3, by decide, by decide, by decide, by rw [List.length_append]; omega⟩, F3.ds, .inr ⟨rfl, rfl⟩, fun p4 H4 x4 np4 e4 => ?_⟩
    rw [fw_nil (tup_at F3.s) (by have := fit.ls; omega) F3.fs] at e4
    refine ⟨_, rfl, false, .inr (.inl ⟨[], SqT.of e4, rfl⟩), ?_⟩
    have F4 := F3.exN x4.n
    have T4 := TabsN.exs T3 x4
    refine ⟨_, rfl, as, xs, rfl, .inr (SqT.of F4.s), ?_⟩
    refine ⟨_, rfl, _, rfl, _, rfl, rd_cat F4.m F4.c ne (by omega) fun pd H5 x5 e5 => ?_⟩
    have F5 := F4.exN x5.n
    have T5 := TabsN.exs T4 x5
    have ne2 : xm ++ xc ≠ [] := fun z => ne (List.append_eq_nil_iff.mp z).1
    refine ⟨_, rfl, rd_cat e5 F5.s ne2 (by rw [List.length_append]; omega) fun pe H6 x6 e6 => ?_⟩
    have F6 := F5.exN x6.n
    have T6 := TabsN.exs T5 x6
    refine ⟨T6, fun fl c1 H7 x7 _ T7 _ efl ec1 => ?_⟩
    have F7 := F6.exN x7
    obtain ⟨nm7, nc7, ns7, _⟩ := F7.named
    have n7 : ∀ v ∈ xm ++ xc ++ xs, Named H7 v (nameOf H7 v) := fun v hv => (List.mem_append.mp hv).elim (fun hv => (List.mem_append.mp hv).elim (nm7 v) (nc7 v)) (ns7 v)
    refine ⟨.ref ap, pe, xm ++ xc ++ xs, (xm ++ xc ++ xs).map (nameOf H7), 1, 8, xs.length, fl, c1, rfl, ⟨tup_n x7 e6, paired_names n7, by decide, by decide, by decide, by rw [List.length_append, List.length_append]; omega⟩, F7.dp, rfl, efl, ec1, fun p8 H8 x8 np8 e8 => ?_⟩
    rw [fw_nil (tup_at F7.p) (by have := fit.lp; omega) F7.fp] at e8
    refine ⟨_, rfl, false, .inr (.inl ⟨[], SqT.of e8, rfl⟩), ?_⟩
    exact q H8 ((x0.trans (x1.trans (x2.trans (x3.trans (x4.trans (x5.trans x6)))))).n.trans (x7.trans x8.n)) (TabsN.exs T7 x8)
end
end LJ
set_option Elab.async false
set_option linter.all false
set_option maxRecDepth 100000
set_option maxHeartbeats 8000000
namespace LJ
open PySem PySem.Spec L2
open LamX (ExtN TabB)
open NdefX (NTab TabsN)
open RZ (ItzT pi_zipA iZipA)
abbrev sBy : Stmt := top 24
/-- a dict comprehension over any walk -/
theorem dc_it {J : It} {n : Nat} {G : Hp → Prop} {Y : Nat → Hp → V → Hp → Prop} (w : Walk J n G Y) {g : TG} {tt : TT} {tk tv : TE} {vs : List Nat} {σ : St} {H1 : Hp} {D : Addr} {Qd : Hp → Prop} (Pv : Nat → Hp → Prop) (start : Pv 0 (upd H1 D (.dK []))) (hG : ∀ i H, i ≤ n → Pv i H → G H)
    (turn : ∀ i x H H2, i < n → Pv i H → Y i H x H2 → g x (wipe σ vs) H2 fun σ3 H3 => wipe σ3 vs = wipe σ vs ∧ tt σ3 H3 fun b H4 =>
      if b = true then tk σ3 H4 fun y H5 => tv σ3 H5 fun z H6 => ∃ kvs k, y = kV k ∧ H6 D = some (.dK kvs) ∧ kvs.length < sizeLine ∧ Pv (i + 1) (upd H6 D (.dK (putK kvs k z))) else Pv (i + 1) H4) (stop : ∀ H, Pv n H → Qd H) :
    ∃ W : Nat → Nat → Hp → Prop, (∃ m, W 0 m (upd H1 D (.dK []))) ∧ ∀ i m H, W i m H →
      (J.stop i H ∧ Qd H) ∨ (J.go i H ∧ ∃ Nx : Hp → Prop, (∀ H2, Nx H2 → ∃ m2, m2 < m ∧ W (i + 1) m2 H2) ∧ ∀ x H2, J.yld i H x H2 → g x (wipe σ vs) H2 fun σ3 H3 => wipe σ3 vs = wipe σ vs ∧ tt σ3 H3 fun b H4 =>
        if b = true then tk σ3 H4 fun y H5 => tv σ3 H5 fun z H6 => ∃ kvs k, y = kV k ∧ H6 D = some (.dK kvs) ∧ kvs.length < sizeLine ∧ Nx (upd H6 D (.dK (putK kvs k z))) else Nx H4) := by
  refine ⟨fun i m H => i + m = n ∧ Pv i H, ⟨n, Nat.zero_add n, start⟩, ?_⟩
  rintro i m H ⟨im, p⟩
  have gH := hG i H (by omega) p
  cases m with
  | zero =>
    obtain rfl : i = n := by omega
    exact .inl ⟨w.stops H gH, stop H p⟩
  | succ m =>
    have lt : i < n := by omega
    exact .inr ⟨w.goes i H lt gH, Pv (i + 1), fun H2 p2 => ⟨m, Nat.lt_succ_self m, by omega, p2⟩, fun x H2 y => turn i x H H2 lt p (w.yields i H x H2 lt gH y)⟩
theorem walk_zt {K : PySem.W.Frag} {a b : Addr} {xs ys : List V} (l : xs.length = ys.length) : Walk (ItzT K a b) xs.length (fun H => SqT K H a xs ∧ SqT K H b ys) (YPair (fun i => xs[i]?) (fun i => ys[i]?)) where
  goes i _ hi q := ⟨xs, ys, xs[i], ys[i]'(l ▸ hi), q.1, q.2, List.getElem?_eq_getElem hi, List.getElem?_eq_getElem (l ▸ hi)⟩
  stops _ q := ⟨xs, ys, q.1, q.2, .inl (Nat.le_refl _)⟩
  yields i H v H1 _ q y := by
    obtain ⟨T, x, z, h1, h2, h3, h4, h5⟩ := y
    exact ⟨T, x, z, h1, h2, h3, h4 xs q.1, h5 ys q.2⟩
theorem merge_snoc {kvs more : List (Key × V)} {p : Key × V} : mergeK kvs (more ++ [p]) = putK (mergeK kvs more) p.1 p.2 := by
  unfold mergeK
  rw [List.foldl_append]
  rfl
theorem merge_len : ∀ {more kvs : List (Key × V)}, (mergeK kvs more).length ≤ kvs.length + more.length
  | [], kvs => Nat.le_refl _
  | p :: r, kvs => by
    have h := merge_len (more := r) (kvs := putK kvs p.1 p.2)
    have l : (putK kvs p.1 p.2).length ≤ kvs.length + 1 := by
      unfold putK
      split
      · rw [List.length_map]
        omega
      · rw [List.length_append]
        exact Nat.le_refl _
    have e : mergeK kvs (p :: r) = mergeK (putK kvs p.1 p.2) r := rfl
    rw [e, List.length_cons]
    omega
/-- names and what stands under them -/
def under (ns : List Str) (ys : List V) : List (Key × V) := (ns.zip ys).map fun p => (.inr p.1, p.2)
def dictOf (ns : List Str) (ys : List V) : List (Key × V) := mergeK [] (under ns ys)
theorem under_at {ns : List Str} {ys : List V} {i : Nat} {n : Str} {y : V} (h1 : ns[i]? = some n) (h2 : ys[i]? = some y) : (under ns ys)[i]? = some (.inr n, y) := by
  unfold under
  rw [List.getElem?_map, (List.getElem?_zip_eq_some (z := (n, y))).mpr ⟨h1, h2⟩]
  rfl
theorem under_len {ns : List Str} {ys : List V} (h : ns.length = ys.length) : (under ns ys).length = ys.length := by
  unfold under
  rw [List.length_map, List.length_zip, h, Nat.min_self]
def spBy : Sp := fun vs H Q _ => ∃ (a b : Addr) (xs ys : List V) (ns : List Str), vs = [.ref a, .ref b] ∧ H a = some (.tup xs) ∧ H b = some (.tup ys) ∧ Paired (Named H) xs ns ∧ xs.length = ys.length ∧ xs.length ≤ 100 ∧
  ∀ (D : Addr) (H1 : Hp), Ex H H1 → H D = none → H1 D = some (.dK (dictOf ns ys)) → Q (.ref D) H1
structure BltZ (mg : Str → Option Value) : Prop where
  zip : mg "zip" = none
section
variable {P : Program} {w : World} {K : PySem.W.Frag} {mg : Str → Option Value} {base : Heap}
theorem scBy : FnScope ["stuffs", "contents", "stuff", "content"] ["stuffs", "contents"] (defScope sBy) := ⟨rfl, rfl, rfl, by decide +kernel, rfl, by decide +kernel, by decide +kernel⟩
theorem ok_by {f : Addr} {fd : FuncData} (F : Fun K "_by_stuff" "_by_stuff" sBy f fd) (Z : BltZ mg) : FnOk P w K mg base CX0 1 f fd ["stuffs", "contents"] spBy := by
  refine F.ok scBy (fun vs H Q E h => ?_) (fun cdv A outer s H vs Q E hr h => ?_)
  · obtain ⟨a, b, xs, ys, ns, rfl, _⟩ := h
    rfl
  · obtain ⟨a, b, xs, ys, ns, rfl, ha, hb, pn, l, le, q⟩ := h
    refine ⟨_, pss_one (ps_ret (pe_dc (own := [("stuff", 2), ("content", 3)]) (g := gTup K 2 (gCons (gName 2) (gCons (gName 3) gNil))) (by rfl) scBy.nd (pi_zipA (by rfl) Z.zip (pa_cons (pv 0) (pa_cons (pv 1) pa_nil))) (blkOk_by (own := [("stuff", 2), ("content", 3)]) (N := ["stuffs", "contents", "stuff", "content"]) (sc := defScope sBy) (by decide +kernel))
      (fun _ _ _ _ _ => pg_tup (by rfl) (pgs_cons (pg_name (i := 2) scBy.nd rfl (Or.inl rfl)) (pgs_cons (pg_name (i := 3) scBy.nd rfl (Or.inl rfl)) pgs_nil))) (fun _ _ _ _ _ => pts_nil)
      (fun _ _ _ _ _ => pe_ix (show IxR _ (rIxT K) from ix_tup) (pv 2) pe_int (fun _ _ => rfl)) (fun _ _ _ _ _ => pv 3))), ?_⟩
    have nl : ns.length = ys.length := by rw [← Paired.size pn, l]
    refine ⟨_, rfl, _, rfl, a, b, xs, ys, rfl, .inr ⟨SqT.of ha, SqT.of hb, fun D hD => dc_it (walk_zt l) (fun n H2 => Ex H H2 ∧ H2 D = some (.dK (mergeK [] ((under ns ys).take n)))) ⟨Ex.refl.new hD, upd_same⟩ (fun i H2 _ h => ⟨SqT.of (h.1 _ _ ha), SqT.of (h.1 _ _ hb)⟩) ?_ ?_⟩⟩
    · rintro i v H2 H3 hi ⟨x2, e2⟩ ⟨T, v1, v2, rfl, nT, rfl, h1, h2⟩
      have h1 : xs[i]? = some v1 := h1
      have h2 : ys[i]? = some v2 := h2
      obtain ⟨n, hn, bb, r, rfl, hbb⟩ := Paired.spot pn h1
      have eT : (upd H2 T (.tup [.ref bb, v2])) T = some (.tup [.ref bb, v2]) := upd_same
      have x3 : Ex H (upd H2 T (.tup [.ref bb, v2])) := x2.new nT
      have e3 : (upd H2 T (.tup [.ref bb, v2])) D = some (.dK (mergeK [] ((under ns ys).take i))) := by
        rw [upd_ne (ne_of_none e2 nT)]
        exact e2
      refine ⟨T, _, rfl, SqT.of eT, rfl, _, _, rfl, _, _, rfl, rfl, rfl, ?_⟩
      refine ⟨_, rfl, bb, _, 0, .str n, rfl, rfl, SqT.of (x3 _ _ hbb), atI_nat (j := 0) rfl, _, rfl, _, .inr n, rfl, e3, ?_, x3.put hD, ?_⟩
      · have m := merge_len (more := (under ns ys).take i) (kvs := [])
        rw [List.length_take, List.length_nil] at m
        rw [sizeLine_eq]
        omega
      · rw [upd_same, List.take_succ, under_at hn h2]
        show _ = some (HO.dK (mergeK [] ((under ns ys).take i ++ [(.inr n, v2)])))
        rw [merge_snoc]
    · rintro H2 ⟨x2, e2⟩
      rw [List.take_of_length_le (by rw [under_len nl, l]; exact Nat.le_refl _)] at e2
      exact q D H2 x2 hD e2
end
end LJ
set_option Elab.async false
set_option linter.all false
set_option maxRecDepth 100000
set_option maxHeartbeats 8000000
namespace LJ
open PySem PySem.Spec L2
abbrev sLine : Stmt := top 33
/-- a number's digits -/
def num (i : Int) : Str := Str.ofString (toString i)
theorem num_len {i : Int} (h0 : 0 ≤ i) (h1 : i ≤ 1000000000000) : (num i).length ≤ 14 := by
  unfold num
  rw [ofString_length]
  exact int_text_length_le10 (k := 13) (by decide) (by have : (10 : Nat) ^ 13 = 10000000000000 := by decide
                                                       omega)
theorem num_log {i : Int} (h0 : 0 ≤ i) (h1 : i ≤ 1000000000000) : i.natAbs.log2 < 1920 := by
  by_cases z : i.natAbs = 0
  · rw [z]
    decide
  · have l : i.natAbs < 2 ^ 40 := by
      have : (2 : Nat) ^ 40 = 1099511627776 := by decide
      omega
    have := (Nat.log2_lt z).mpr l
    omega
def bline (b : Int × Int) : Str := Str.empty ++ Str.ofString " " ++ num b.1 ++ Str.ofString "-" ++ num b.2
def pline (n : Str) (bs : List (Int × Int)) : Str := (Str.empty ++ Str.ofString "product " ++ n) ++ Txt.join (Str.ofString "") (bs.map bline)
def Small (b : Int × Int) : Prop := 0 ≤ b.1 ∧ b.1 ≤ b.2 ∧ b.2 ≤ 1000000000000
theorem bl_len {b : Int × Int} (h : Small b) : (bline b).length ≤ 30 := by
  obtain ⟨s1, s2, s3⟩ := h
  have l1 := num_len s1 (Int.le_trans s2 s3)
  have l2 := num_len (Int.le_trans s1 s2) s3
  unfold bline
  rw [Str.length_append, Str.length_append, Str.length_append, Str.length_append, show Str.empty.length = 0 from rfl, show (Str.ofString " ").length = 1 by decide +kernel, show (Str.ofString "-").length = 1 by decide +kernel]
  omega
theorem sum_most {α : Type} {f : α → Nat} {B : Nat} : ∀ {xs : List α}, (∀ x ∈ xs, f x ≤ B) → (xs.map f).sum ≤ xs.length * B
  | [], _ => Nat.zero_le _
  | x :: xs, h => by
    have h1 := h x (List.mem_cons_self ..)
    have h2 := sum_most (B := B) fun y hy => h y (List.mem_cons_of_mem _ hy)
    rw [List.map_cons, List.sum_cons, List.length_cons, Nat.add_mul]
    omega
theorem blines_sum {bs : List (Int × Int)} (h : ∀ r ∈ bs, Small r) : ((bs.map bline).map (·.length)).sum ≤ bs.length * 30 := by
  rw [List.map_map]
  exact sum_most fun x hx => bl_len (h x hx)
theorem join_len {sep : Str} {ys : List Str} : (Txt.join sep ys).length = (ys.map (·.length)).sum + (ys.length - 1) * sep.length := size_glued sep ys
theorem pline_len {n : Str} {bs : List (Int × Int)} (hn : n.length ≤ 8) (hb : bs.length ≤ 10) (h : ∀ r ∈ bs, Small r) : (pline n bs).length ≤ 316 := by
  have s1 := blines_sum h
  unfold pline
  rw [Str.length_append, Str.length_append, join_len, show (Str.ofString "").length = 0 from rfl, Nat.mul_zero, Str.length_append, show Str.empty.length = 0 from rfl, show (Str.ofString "product ").length = 8 by decide +kernel]
  omega
def spLine : Sp := fun vs H Q _ => ∃ (n : Str) (b : Addr) (ys : List V) (bs : List (Int × Int)), vs = [.str n, .ref b] ∧ n.length ≤ 8 ∧ H b = some (.tup ys) ∧ Paired (Bnd H) ys bs ∧ (∀ r ∈ bs, Small r) ∧ bs.length ≤ 10 ∧ ∀ H1, Ex H H1 → Q (.str (pline n bs)) H1
section
variable {P : Program} {w : World} {K : PySem.W.Frag} {mg : Str → Option Value} {base : Heap}
theorem scLine : FnScope ["name", "contents", "low", "high"] ["name", "contents"] (defScope sLine) := ⟨rfl, rfl, rfl, by decide +kernel, rfl, by decide +kernel, by decide +kernel⟩
theorem ok_line {f : Addr} {fd : FuncData} (F : Fun K "_product_line" "_product_line" sLine f fd) : FnOk P w K mg base CX0 1 f fd ["name", "contents"] spLine := by
  refine F.ok scLine (fun vs H Q E h => ?_) (fun cdv A outer s H vs Q E hr h => ?_)
  · obtain ⟨n, b, ys, bs, rfl, _⟩ := h
    rfl
  · obtain ⟨n, b, ys, bs, rfl, nl, hb, pb, sm, bl, q⟩ := h
    refine ⟨_, pss_one (ps_ret (pe_op op_add_str (pe_joined (.cons pe_str (.cons (pe_fmt (pv 0)) .nil)))
      (pe_join pe_str (pe_lc (own := [("low", 2), ("high", 3)]) (g := gTup K 2 (gCons (gName 2) (gCons (gName 3) gNil))) (by rfl) scLine.nd (pi_tup (pv 1)) (blkOk_by (own := [("low", 2), ("high", 3)]) (N := ["name", "contents", "low", "high"]) (sc := defScope sLine) (by decide +kernel))
        (fun _ _ _ _ _ => pg_tup (by rfl) (pgs_cons (pg_name (i := 2) scLine.nd rfl (Or.inl rfl)) (pgs_cons (pg_name (i := 3) scLine.nd rfl (Or.inl rfl)) pgs_nil))) (fun _ _ _ _ _ => pts_nil)
        (fun _ _ _ _ _ => pe_joined (.cons pe_str (.cons (pe_fmt (pv 2)) (.cons pe_str (.cons (pe_fmt (pv 3)) .nil)))))))))  , ?_⟩
    have yl : ys.length = bs.length := Paired.size pb
    have sz : sizeLine = 16777216 := sizeLine_eq
    have hl : (Str.empty ++ Str.ofString "product ").length = 8 := by decide +kernel
    have hl2 : (Str.empty ++ Str.ofString "product " ++ n).length ≤ 16 := by
      rw [Str.length_append, hl]
      omega
    refine ⟨_, rfl, by rw [hl, sz]; decide, _, rfl, .inl ⟨n, rfl, by omega, n, rfl, by omega, ?_⟩⟩
    refine ⟨⟨_, rfl⟩, _, rfl, b, rfl, ⟨ys, SqT.of hb⟩, fun D hD => lc_it (te := fun σ H Q => tJs [tC (.str (Str.ofString " ")), tFmt (tVar 2), tC (.str (Str.ofString "-")), tFmt (tVar 3)] Str.empty σ H fun out H1 => Q (.str out) H1) walk_tup (fun i H2 => Ex H H2 ∧ H2 D = some (.lst (((bs.take i).map bline).map V.str))) ⟨Ex.refl.new hD, upd_same⟩ (fun i H2 _ h => SqT.of (h.1 _ _ hb)) ?_ ?_⟩
    · rintro i v _ H2 hi ⟨x2, e2⟩ ⟨rfl, hv⟩
      obtain ⟨⟨lo, hi2⟩, hr, a, rfl, ha⟩ := Paired.spot pb hv
      obtain ⟨s1, s2, s3⟩ := sm _ (List.mem_of_getElem? hr)
      have s1 : 0 ≤ lo := s1
      have s2 : lo ≤ hi2 := s2
      have s3 : hi2 ≤ 1000000000000 := s3
      have l1 := num_len s1 (Int.le_trans s2 s3)
      have l2 := num_len (Int.le_trans s1 s2) s3
      have k1 : (Str.empty ++ Str.ofString " ").length = 1 := by decide +kernel
      have k2 : (Str.empty ++ Str.ofString " " ++ num lo).length ≤ 15 := by
        rw [Str.length_append, k1]
        omega
      have k3 : (Str.empty ++ Str.ofString " " ++ num lo ++ Str.ofString "-").length ≤ 16 := by
        rw [Str.length_append, show (Str.ofString "-").length = 1 by decide +kernel]
        omega
      have k4 : (bline (lo, hi2)).length ≤ 30 := by
        show (Str.empty ++ Str.ofString " " ++ num lo ++ Str.ofString "-" ++ num hi2).length ≤ 30
        rw [Str.length_append]
        omega
      refine ⟨_, _, rfl, SqT.of (x2 _ _ ha), rfl, _, _, rfl, _, _, rfl, rfl, rfl, ?_⟩
      refine ⟨_, rfl, by omega, _, rfl, .inr ⟨lo, rfl, num_log s1 (Int.le_trans s2 s3), num lo, rfl, by omega, _, rfl, by omega, _, rfl, .inr ⟨hi2, rfl, num_log (Int.le_trans s1 s2) s3, num hi2, rfl, ?_, ?_⟩⟩⟩
      · exact Nat.le_trans k4 (by omega)
      · refine ⟨_, e2, ?_, x2.put hD, ?_⟩
        · rw [List.length_map, List.length_map, List.length_take]
          omega
        · rw [upd_same, List.take_succ, hr, List.map_append, List.map_append]
          rfl
    · rintro H2 ⟨x2, e2⟩
      rw [List.take_of_length_le (by omega)] at e2
      refine ⟨_, D, bs.map bline, rfl, rfl, .inl (SqL.of e2), ?_, _, _, rfl, rfl, ?_, q H2 x2⟩
      · have s1 := blines_sum sm
        rw [show (Str.ofString "").length = 0 from rfl, Nat.mul_zero]
        omega
      · have l := pline_len nl bl sm
        unfold pline at l
        rw [Str.length_append] at l
        omega
end
end LJ
set_option Elab.async false
set_option linter.all false
set_option maxRecDepth 100000
set_option maxHeartbeats 8000000
namespace LJ
open PySem PySem.Spec L2
abbrev sText : Stmt := top 32
abbrev nText : List Str := ["machines", "cleanings", "stuffs", "products", "lines", "name", "low", "high", "most", "contents"]
abbrev sp1 : Str := Str.ofString " "
def line3 (pre : Str) (r : Str × Int × Int) : Str := Str.empty ++ pre ++ r.1 ++ sp1 ++ num r.2.1 ++ sp1 ++ num r.2.2
def line2 (pre : Str) (r : Str × Int) : Str := Str.empty ++ pre ++ r.1 ++ sp1 ++ num r.2
def Fit3 (r : Str × Int × Int) : Prop := r.1.length ≤ 8 ∧ 0 ≤ r.2.1 ∧ r.2.1 ≤ r.2.2 ∧ r.2.2 ≤ 1000000000000
def Fit2 (r : Str × Int) : Prop := r.1.length ≤ 8 ∧ 0 ≤ r.2 ∧ r.2 ≤ 1000000000000
theorem sp1_len : sp1.length = 1 := by decide +kernel
theorem empty_len : Str.empty.length = 0 := rfl
theorem rd3 {pre n : Str} {lo hi : Int} {σ : St} {H : Hp} {Q : Str → Hp → Prop} (h5 : σ[5]? = some (some (.str n))) (h6 : σ[6]? = some (some (.int lo))) (h7 : σ[7]? = some (some (.int hi))) (pl : pre.length ≤ 20) (f : Fit3 (n, lo, hi)) (q : (line3 pre (n, lo, hi)).length ≤ 80 → Q (line3 pre (n, lo, hi)) H) :
    tJs [tC (.str pre), tFmt (tVar 5), tC (.str sp1), tFmt (tVar 6), tC (.str sp1), tFmt (tVar 7)] Str.empty σ H Q := by
  obtain ⟨f1, f2, f3, f4⟩ := f
  have f1 : n.length ≤ 8 := f1
  have f2 : 0 ≤ lo := f2
  have f3 : lo ≤ hi := f3
  have f4 : hi ≤ 1000000000000 := f4
  have l1 := num_len f2 (Int.le_trans f3 f4)
  have l2 := num_len (Int.le_trans f2 f3) f4
  have sz := sizeLine_eq
  have k1 : (Str.empty ++ pre).length ≤ 20 := by
    rw [Str.length_append, empty_len]
    omega
  have k2 : (Str.empty ++ pre ++ n).length ≤ 28 := by
    rw [Str.length_append]
    omega
  have k3 : (Str.empty ++ pre ++ n ++ sp1).length ≤ 29 := by
    rw [Str.length_append, sp1_len]
    omega
  have k4 : (Str.empty ++ pre ++ n ++ sp1 ++ num lo).length ≤ 43 := by
    rw [Str.length_append]
    omega
  have k5 : (Str.empty ++ pre ++ n ++ sp1 ++ num lo ++ sp1).length ≤ 44 := by
    rw [Str.length_append, sp1_len]
    omega
  have k6 : (Str.empty ++ pre ++ n ++ sp1 ++ num lo ++ sp1 ++ num hi).length ≤ 58 := by
    rw [Str.length_append]
    omega
  have b : ∀ {m : Nat}, m ≤ 80 → m ≤ sizeLine := fun h => by omega
  exact ⟨_, rfl, b (by omega), _, h5, .inl ⟨n, rfl, b (by omega), n, rfl, b (by omega), _, rfl, b (by omega), _, h6, .inr ⟨lo, rfl, num_log f2 (Int.le_trans f3 f4), num lo, rfl, b (by omega), _, rfl, b (by omega), _, h7, .inr ⟨hi, rfl, num_log (Int.le_trans f2 f3) f4, num hi, rfl, b (Nat.le_trans k6 (by omega)), q (Nat.le_trans k6 (by omega))⟩⟩⟩⟩
theorem rd2 {pre n : Str} {m : Int} {σ : St} {H : Hp} {Q : Str → Hp → Prop} (h5 : σ[5]? = some (some (.str n))) (h8 : σ[8]? = some (some (.int m))) (pl : pre.length ≤ 20) (f : Fit2 (n, m)) (q : Q (line2 pre (n, m)) H) :
    tJs [tC (.str pre), tFmt (tVar 5), tC (.str sp1), tFmt (tVar 8)] Str.empty σ H Q := by
  obtain ⟨f1, f2, f4⟩ := f
  have f1 : n.length ≤ 8 := f1
  have f2 : 0 ≤ m := f2
  have f4 : m ≤ 1000000000000 := f4
  have l1 := num_len f2 f4
  have sz := sizeLine_eq
  have k1 : (Str.empty ++ pre).length ≤ 20 := by
    rw [Str.length_append, empty_len]
    omega
  have k2 : (Str.empty ++ pre ++ n).length ≤ 28 := by
    rw [Str.length_append]
    omega
  have k3 : (Str.empty ++ pre ++ n ++ sp1).length ≤ 29 := by
    rw [Str.length_append, sp1_len]
    omega
  have k4 : (Str.empty ++ pre ++ n ++ sp1 ++ num m).length ≤ 43 := by
    rw [Str.length_append]
    omega
  have b : ∀ {m : Nat}, m ≤ 80 → m ≤ sizeLine := fun h => by omega
  exact ⟨_, rfl, b (by omega), _, h5, .inl ⟨n, rfl, b (by omega), n, rfl, b (by omega), _, rfl, b (by omega), _, h8, .inr ⟨m, rfl, num_log f2 f4, num m, rfl, b (Nat.le_trans k4 (by omega)), q⟩⟩⟩
theorem line3_len {pre : Str} {r : Str × Int × Int} (pl : pre.length ≤ 20) (f : Fit3 r) : (line3 pre r).length ≤ 400 := by
  obtain ⟨f1, f2, f3, f4⟩ := f
  have l1 := num_len f2 (Int.le_trans f3 f4)
  have l2 := num_len (Int.le_trans f2 f3) f4
  unfold line3
  rw [Str.length_append, Str.length_append, Str.length_append, Str.length_append, Str.length_append, Str.length_append, empty_len, sp1_len]
  omega
theorem line2_len {pre : Str} {r : Str × Int} (pl : pre.length ≤ 20) (f : Fit2 r) : (line2 pre r).length ≤ 400 := by
  obtain ⟨f1, f2, f4⟩ := f
  have l1 := num_len f2 f4
  unfold line2
  rw [Str.length_append, Str.length_append, Str.length_append, Str.length_append, empty_len, sp1_len]
  omega
def wlines (W : Wd) : List Str := W.ms.map (line3 (Str.ofString "machine ")) ++ W.cs.map (line3 (Str.ofString "cleaning ")) ++ W.ss.map (line2 (Str.ofString "stuff ")) ++ W.ps.map fun p => pline p.1 p.2
def wtext (W : Wd) : Str := Txt.join (Str.ofString "\n") (wlines W)
/-- works small enough to be told in a text -/
structure Told (W : Wd) : Prop where
  lm : W.ms.length ≤ 10
  lc : W.cs.length ≤ 10
  ls : W.ss.length ≤ 10
  lp : W.ps.length ≤ 10
  fm : ∀ r ∈ W.ms, Fit3 r
  fc : ∀ r ∈ W.cs, Fit3 r
  fs : ∀ r ∈ W.ss, Fit2 r
  fp : ∀ r ∈ W.ps, r.1.length ≤ 8 ∧ r.2.length ≤ 10 ∧ ∀ b ∈ r.2, Small b
def spText : Sp := fun vs H Q _ => ∃ (am ac as ap : Addr) (vm vc vs2 vp : List V) (W : Wd), vs = [.ref am, .ref ac, .ref as, .ref ap] ∧ H am = some (.tup vm) ∧ H ac = some (.tup vc) ∧ H as = some (.tup vs2) ∧ H ap = some (.tup vp) ∧
  Paired (Row3 H) vm W.ms ∧ Paired (Row3 H) vc W.cs ∧ Paired (Row2 H) vs2 W.ss ∧ Paired (RowP H) vp W.ps ∧ Told W ∧ ∀ H1, Ex H H1 → Q (.str (wtext W)) H1
section
variable {P : Program} {w : World} {K : PySem.W.Frag} {mg : Str → Option Value} {base : Heap}
theorem scText : FnScope nText ["machines", "cleanings", "stuffs", "products"] (defScope sText) := ⟨rfl, rfl, rfl, by decide +kernel, rfl, by decide +kernel, by decide +kernel⟩
theorem ok_text {f fP : Addr} {fd fdP : FuncData} (F : Fun K "_text_of" "_text_of" sText f fd) (GP : FnOk P w K mg base CX0 1 fP fdP ["name", "contents"] spLine) (mP : mg "_product_line" = some (.ref fP)) (kP : PySem.W.keepIn K (.ref fP) = true) (bP : Binds K fdP ["name", "contents"] []) :
    FnOk P w K mg base CX0 2 f fd ["machines", "cleanings", "stuffs", "products"] spText := by
  refine F.ok scText (fun vs H Q E h => ?_) (fun cdv A outer s H vs Q E hr h => ?_)
  · obtain ⟨am, ac, as, ap, vm, vc, vs2, vp, W, rfl, _⟩ := h
    rfl
  · obtain ⟨am, ac, as, ap, vm, vc, vs2, vp, W, rfl, hm, hc, hs, hp, pm, pc, ps, pp, T, q⟩ := h
    refine ⟨_, pss_cons (ps_setLc (i := 4) (own := [("name", 5), ("low", 6), ("high", 7)]) (g := gTup K 3 (gCons (gName 5) (gCons (gName 6) (gCons (gName 7) gNil)))) (by rfl) scText.nd rfl rfl (sw_true rfl rfl rfl (by decide +kernel)) (pi_tup (pv 0)) (blkOk_by (own := [("name", 5), ("low", 6), ("high", 7)]) (N := nText) (sc := defScope sText) (by decide +kernel))
        (fun _ _ _ _ _ => pg_tup (by rfl) (pgs_cons (pg_name (i := 5) scText.nd rfl (Or.inl rfl)) (pgs_cons (pg_name (i := 6) scText.nd rfl (Or.inl rfl)) (pgs_cons (pg_name (i := 7) scText.nd rfl (Or.inl rfl)) pgs_nil)))) (fun _ _ _ _ _ => pts_nil)
        (fun _ _ _ _ _ => pe_joined (.cons pe_str (.cons (pe_fmt (pv 5)) (.cons pe_str (.cons (pe_fmt (pv 6)) (.cons pe_str (.cons (pe_fmt (pv 7)) .nil))))))))
      (pss_cons (ps_expr (pe_bm PySem.F.plainAttrs_list PySem.F.slot_list_extend PySem.F.type_list_extend mt_extend (pv 4) (pa_cons (pe_lc (own := [("name", 5), ("low", 6), ("high", 7)]) (g := gTup K 3 (gCons (gName 5) (gCons (gName 6) (gCons (gName 7) gNil)))) (by rfl) scText.nd (pi_tup (pv 1)) (blkOk_by (own := [("name", 5), ("low", 6), ("high", 7)]) (N := nText) (sc := defScope sText) (by decide +kernel))
        (fun _ _ _ _ _ => pg_tup (by rfl) (pgs_cons (pg_name (i := 5) scText.nd rfl (Or.inl rfl)) (pgs_cons (pg_name (i := 6) scText.nd rfl (Or.inl rfl)) (pgs_cons (pg_name (i := 7) scText.nd rfl (Or.inl rfl)) pgs_nil)))) (fun _ _ _ _ _ => pts_nil)
        (fun _ _ _ _ _ => pe_joined (.cons pe_str (.cons (pe_fmt (pv 5)) (.cons pe_str (.cons (pe_fmt (pv 6)) (.cons pe_str (.cons (pe_fmt (pv 7)) .nil)))))))) pa_nil)))
      (pss_cons (ps_expr (pe_bm PySem.F.plainAttrs_list PySem.F.slot_list_extend PySem.F.type_list_extend mt_extend (pv 4) (pa_cons (pe_lc (own := [("name", 5), ("most", 8)]) (g := gTup K 2 (gCons (gName 5) (gCons (gName 8) gNil))) (by rfl) scText.nd (pi_tup (pv 2)) (blkOk_by (own := [("name", 5), ("most", 8)]) (N := nText) (sc := defScope sText) (by decide +kernel))
        (fun _ _ _ _ _ => pg_tup (by rfl) (pgs_cons (pg_name (i := 5) scText.nd rfl (Or.inl rfl)) (pgs_cons (pg_name (i := 8) scText.nd rfl (Or.inl rfl)) pgs_nil))) (fun _ _ _ _ _ => pts_nil)
        (fun _ _ _ _ _ => pe_joined (.cons pe_str (.cons (pe_fmt (pv 5)) (.cons pe_str (.cons (pe_fmt (pv 8)) .nil)))))) pa_nil)))
      (pss_cons (ps_expr (pe_bm PySem.F.plainAttrs_list PySem.F.slot_list_extend PySem.F.type_list_extend mt_extend (pv 4) (pa_cons (pe_lc (own := [("name", 5), ("contents", 9)]) (g := gTup K 2 (gCons (gName 5) (gCons (gName 9) gNil))) (by rfl) scText.nd (pi_tup (pv 3)) (blkOk_by (own := [("name", 5), ("contents", 9)]) (N := nText) (sc := defScope sText) (by decide +kernel))
        (fun _ _ _ _ _ => pg_tup (by rfl) (pgs_cons (pg_name (i := 5) scText.nd rfl (Or.inl rfl)) (pgs_cons (pg_name (i := 9) scText.nd rfl (Or.inl rfl)) pgs_nil))) (fun _ _ _ _ _ => pts_nil)
        (fun _ _ _ _ _ => pe_call GP hr (by rfl) mP kP bP .nil pass0 (pa_cons (pv 5) (pa_cons (pv 9) pa_nil)))) pa_nil)))
      (pss_one (ps_ret (pe_join pe_str (pv 4))))))), ?_⟩
    have sz := sizeLine_eq
    obtain ⟨t1, t2, t3, t4, f1, f2, f3, f4⟩ := T
    have n1 : vm.length = W.ms.length := Paired.size pm
    have n2 : vc.length = W.cs.length := Paired.size pc
    have n3 : vs2.length = W.ss.length := Paired.size ps
    have n4 : vp.length = W.ps.length := Paired.size pp
    refine ⟨_, rfl, am, rfl, ⟨vm, SqT.of hm⟩, fun D hD => lc_it (te := fun σ H Q => tJs [tC (.str (Str.ofString "machine ")), tFmt (tVar 5), tC (.str sp1), tFmt (tVar 6), tC (.str sp1), tFmt (tVar 7)] Str.empty σ H fun out H1 => Q (.str out) H1) walk_tup (fun i G => Ex H G ∧ G D = some (.lst (((W.ms.take i).map (line3 (Str.ofString "machine "))).map V.str))) ⟨Ex.refl.new hD, upd_same⟩ (fun i G _ h => SqT.of (h.1 _ _ hm)) ?_ ?_⟩
    · rintro i v _ G hi ⟨xG, eG⟩ ⟨rfl, hv⟩
      obtain ⟨⟨n, lo, up⟩, hr, a, rfl, ha⟩ := Paired.spot pm hv
      have f := f1 _ (List.mem_of_getElem? hr)
      have e : G a = some (.tup [.str n, .int lo, .int up]) := xG _ _ (Ex.refl _ _ ha)
      refine ⟨a, _, rfl, SqT.of e, rfl, _, _, rfl, _, _, rfl, _, _, rfl, rfl, rfl, ?_⟩
      refine rd3 rfl rfl rfl (by decide +kernel) f fun _ => ⟨_, eG, ?_, xG.put hD, ?_⟩
      · rw [List.length_map, List.length_map, List.length_take]
        omega
      · rw [upd_same, List.take_succ, hr, List.map_append, List.map_append]
        rfl
    rintro H1 ⟨x1, e1⟩
    rw [List.take_of_length_le (by omega)] at e1
    generalize hls1 : W.ms.map (line3 (Str.ofString "machine ")) = ls1 at e1
    have k1 : ls1.length ≤ 10 := by
      rw [← hls1, List.length_map]
      exact t1
    have nD := hD
    clear hD
    refine ⟨_, rfl, .inl ⟨rfl, _, SqL.of e1⟩, _, rfl, ac, rfl, ⟨vc, SqT.of (x1 _ _ hc)⟩, fun D2 hD => lc_it (te := fun σ H Q => tJs [tC (.str (Str.ofString "cleaning ")), tFmt (tVar 5), tC (.str sp1), tFmt (tVar 6), tC (.str sp1), tFmt (tVar 7)] Str.empty σ H fun out H1 => Q (.str out) H1) walk_tup (fun i G => Ex H1 G ∧ G D2 = some (.lst (((W.cs.take i).map (line3 (Str.ofString "cleaning "))).map V.str))) ⟨Ex.refl.new hD, upd_same⟩ (fun i G _ h => SqT.of (h.1 _ _ (x1 _ _ hc))) ?_ ?_⟩
    · rintro i v _ G hi ⟨xG, eG⟩ ⟨rfl, hv⟩
      obtain ⟨⟨n, lo, up⟩, hr, a, rfl, ha⟩ := Paired.spot pc hv
      have f := f2 _ (List.mem_of_getElem? hr)
      have e : G a = some (.tup [.str n, .int lo, .int up]) := xG _ _ (x1 _ _ ha)
      refine ⟨a, _, rfl, SqT.of e, rfl, _, _, rfl, _, _, rfl, _, _, rfl, rfl, rfl, ?_⟩
      refine rd3 rfl rfl rfl (by decide +kernel) f fun _ => ⟨_, eG, ?_, xG.put hD, ?_⟩
      · rw [List.length_map, List.length_map, List.length_take]
        omega
      · rw [upd_same, List.take_succ, hr, List.map_append, List.map_append]
        rfl
    rintro H2 ⟨x2, e2⟩
    rw [List.take_of_length_le (by omega)] at e2
    generalize hls2 : W.cs.map (line3 (Str.ofString "cleaning ")) = ls2 at e2
    have k2 : ls2.length ≤ 10 := by
      rw [← hls2, List.length_map]
      exact t2
    refine ⟨D, D2, _, _, rfl, rfl, x2 _ _ e1, e2, by rw [List.length_map, List.length_map]; omega, ?_⟩
    rw [← List.map_append]
    have x3 : Ex H (upd H2 D (.lst ((ls1 ++ ls2).map V.str))) := (x1.trans x2).put nD
    have e3 : (upd H2 D (.lst ((ls1 ++ ls2).map V.str))) D = some (.lst ((ls1 ++ ls2).map V.str)) := upd_same
    clear hD e2
    generalize upd H2 D (.lst ((ls1 ++ ls2).map V.str)) = H3 at x3 e3 ⊢
    refine ⟨_, rfl, .inl ⟨rfl, _, SqL.of e3⟩, _, rfl, as, rfl, ⟨vs2, SqT.of (x3 _ _ hs)⟩, fun D3 hD => lc_it (te := fun σ H Q => tJs [tC (.str (Str.ofString "stuff ")), tFmt (tVar 5), tC (.str sp1), tFmt (tVar 8)] Str.empty σ H fun out H1 => Q (.str out) H1) walk_tup (fun i G => Ex H3 G ∧ G D3 = some (.lst (((W.ss.take i).map (line2 (Str.ofString "stuff "))).map V.str))) ⟨Ex.refl.new hD, upd_same⟩ (fun i G _ h => SqT.of (h.1 _ _ (x3 _ _ hs))) ?_ ?_⟩
    · rintro i v _ G hi ⟨xG, eG⟩ ⟨rfl, hv⟩
      obtain ⟨⟨n, m⟩, hr, a, rfl, ha⟩ := Paired.spot ps hv
      have f := f3 _ (List.mem_of_getElem? hr)
      have e : G a = some (.tup [.str n, .int m]) := xG _ _ (x3 _ _ ha)
      refine ⟨a, _, rfl, SqT.of e, rfl, _, _, rfl, _, _, rfl, rfl, rfl, ?_⟩
      refine rd2 rfl rfl (by decide +kernel) f ⟨_, eG, ?_, xG.put hD, ?_⟩
      · rw [List.length_map, List.length_map, List.length_take]
        omega
      · rw [upd_same, List.take_succ, hr, List.map_append, List.map_append]
        rfl
    rintro H4 ⟨x4, e4⟩
    rw [List.take_of_length_le (by omega)] at e4
    generalize hls3 : W.ss.map (line2 (Str.ofString "stuff ")) = ls3 at e4
    have k3 : ls3.length ≤ 10 := by
      rw [← hls3, List.length_map]
      exact t3
    refine ⟨D, D3, _, _, rfl, rfl, x4 _ _ e3, e4, by rw [List.length_map, List.length_map, List.length_append]; omega, ?_⟩
    rw [← List.map_append]
    have x5 : Ex H (upd H4 D (.lst ((ls1 ++ ls2 ++ ls3).map V.str))) := (x3.trans x4).put nD
    have e5 : (upd H4 D (.lst ((ls1 ++ ls2 ++ ls3).map V.str))) D = some (.lst ((ls1 ++ ls2 ++ ls3).map V.str)) := upd_same
    clear hD e4
    generalize upd H4 D (.lst ((ls1 ++ ls2 ++ ls3).map V.str)) = H5 at x5 e5 ⊢
    refine ⟨_, rfl, .inl ⟨rfl, _, SqL.of e5⟩, _, rfl, ap, rfl, ⟨vp, SqT.of (x5 _ _ hp)⟩, fun D4 hD => lc_it walk_tup (fun i G => Ex H5 G ∧ G D4 = some (.lst (((W.ps.take i).map fun p => pline p.1 p.2).map V.str))) ⟨Ex.refl.new hD, upd_same⟩ (fun i G _ h => SqT.of (h.1 _ _ (x5 _ _ hp))) ?_ ?_⟩
    · rintro i v _ G hi ⟨xG, eG⟩ ⟨rfl, hv⟩
      obtain ⟨⟨n, bs⟩, hr, a, t, vb, rfl, ha, ht, pb⟩ := Paired.spot pp hv
      obtain ⟨g1, g2, g3⟩ := f4 _ (List.mem_of_getElem? hr)
      have xx := x5.trans xG
      refine ⟨a, _, rfl, SqT.of (xx _ _ ha), rfl, _, _, rfl, _, _, rfl, rfl, rfl, ?_⟩
      refine ⟨_, rfl, _, rfl, n, t, vb, bs, rfl, g1, xx _ _ ht, L2.Paired.mapP pb fun x y z => Bnd.seq (fun b xs e => xx b _ e) z, g3, g2, fun G2 xG2 => ⟨_, xG2 _ _ eG, ?_, (xG.trans xG2).put hD, ?_⟩⟩
      · rw [List.length_map, List.length_map, List.length_take]
        omega
      · rw [upd_same, List.take_succ, hr, List.map_append, List.map_append]
        rfl
    rintro H6 ⟨x6, e6⟩
    rw [List.take_of_length_le (by omega)] at e6
    refine ⟨D, D4, _, _, rfl, rfl, x6 _ _ e5, e6, by rw [List.length_map, List.length_map, List.length_map, List.length_append, List.length_append]; omega, ?_⟩
    rw [← List.map_append]
    have x7 : Ex H (upd H6 D (.lst ((ls1 ++ ls2 ++ ls3 ++ W.ps.map fun p => pline p.1 p.2).map V.str))) := (x5.trans x6).put nD
    refine ⟨⟨_, rfl⟩, _, rfl, _, D, ls1 ++ ls2 ++ ls3 ++ W.ps.map fun p => pline p.1 p.2, rfl, rfl, .inl (SqL.of upd_same), ?_, ?_⟩
    · have most : ∀ x ∈ ls1 ++ ls2 ++ ls3 ++ W.ps.map fun p => pline p.1 p.2, x.length ≤ 400 := fun x hx => by
        rcases List.mem_append.mp hx with h | h
        · rcases List.mem_append.mp h with h | h
          · rcases List.mem_append.mp h with h | h
            · rw [← hls1] at h
              obtain ⟨r, hr, rfl⟩ := List.mem_map.mp h
              exact line3_len (by decide +kernel) (f1 r hr)
            · rw [← hls2] at h
              obtain ⟨r, hr, rfl⟩ := List.mem_map.mp h
              exact line3_len (by decide +kernel) (f2 r hr)
          · rw [← hls3] at h
            obtain ⟨r, hr, rfl⟩ := List.mem_map.mp h
            exact line2_len (by decide +kernel) (f3 r hr)
        · obtain ⟨r, hr, rfl⟩ := List.mem_map.mp h
          obtain ⟨g1, g2, g3⟩ := f4 r hr
          exact Nat.le_trans (pline_len g1 g2 g3) (by decide)
      have sm := sum_most (f := fun x : Str => x.length) most
      have ll : (ls1 ++ ls2 ++ ls3 ++ W.ps.map fun p => pline p.1 p.2).length ≤ 40 := by
        rw [List.length_append, List.length_append, List.length_append, List.length_map]
        omega
      rw [show (Str.ofString "\n").length = 1 by decide +kernel]
      have sm : ((ls1 ++ ls2 ++ ls3 ++ W.ps.map fun p => pline p.1 p.2).map fun x => x.length).sum ≤ (ls1 ++ ls2 ++ ls3 ++ W.ps.map fun p => pline p.1 p.2).length * 400 := sm
      omega
    · have z := q _ x7
      unfold wtext wlines at z
      rw [hls1, hls2, hls3] at z
      exact z
end
end LJ
set_option Elab.async false
set_option linter.all false
set_option maxRecDepth 100000
set_option maxHeartbeats 8000000
namespace LJ
open PySem PySem.Spec L2
open LamX (ExtN TabB)
open NdefX (NTab TabsN)
def clsBody : Stmt → List Stmt
  | .ClassDef (body := b) .. => b
  | _ => []
def meth (i : Nat) : Stmt := (clsBody (top 22)).getD i (.Pass ⟨0, 0, 0, 0⟩)
abbrev sInit : Stmt := meth 0
abbrev nInit : List Str := ["self", "machines", "cleanings", "stuffs", "products", "name", "low", "high", "most", "contents"]
abbrev pInit : List Str := ["self", "machines", "cleanings", "stuffs", "products"]
/-- Works' own class -/
structure WCls (K : PySem.W.Frag) (C : Addr) : Prop where
  cl : Cls K C
  n1 : NoAttr K C "_machines"
  n2 : NoAttr K C "_cleanings"
  n3 : NoAttr K C "_stuffs"
  n4 : NoAttr K C "_products"
  n5 : NoAttr K C "_holds"
  n6 : NoAttr K C "_keeps"
  n7 : NoAttr K C "_limits"
  n8 : NoAttr K C "_contents"
  n9 : NoAttr K C "_text"
section
variable {P : Program} {w : World} {K : PySem.W.Frag} {mg : Str → Option Value} {base : Heap}
theorem scInit : FnScope nInit pInit (defScope sInit) := ⟨rfl, rfl, rfl, by decide +kernel, rfl, by decide +kernel, by decide +kernel⟩
/-- one name more -/
theorem under_snoc {ns : List Str} {vals : List V} {i : Nat} {n : Str} {v : V} (h : ns[i]? = some n) (l : vals.length = i) : under (ns.take (i + 1)) (vals ++ [v]) = under (ns.take i) vals ++ [(.inr n, v)] := by
  have li : i < ns.length := (List.getElem?_eq_some_iff.mp h).1
  unfold under
  rw [List.take_succ, h]
  show ((ns.take i ++ [n]).zip (vals ++ [v])).map _ = _
  rw [List.zip_append (by rw [List.length_take, l]; omega), List.map_append]
  rfl
/-- what a made object of Works holds -/
def WorksAt (C : Addr) (H : Hp) (x am ac as ap : Addr) (W : Wd) : Prop := ∃ (dx D1 D2 D3 D4 : Addr) (b1 b2 v4 : List V),
  H x = some (.ins C dx [("_machines", .ref am), ("_cleanings", .ref ac), ("_stuffs", .ref as), ("_products", .ref ap), ("_holds", .ref D1), ("_keeps", .ref D2), ("_limits", .ref D3), ("_contents", .ref D4), ("_text", .str (wtext W))]) ∧
  (H D1 = some (.dK (dictOf (W.ms.map (·.1)) b1)) ∧ Paired (Bnd H) b1 (W.ms.map (·.2))) ∧ (H D2 = some (.dK (dictOf (W.cs.map (·.1)) b2)) ∧ Paired (Bnd H) b2 (W.cs.map (·.2))) ∧ H D3 = some (.dK (dictOf (W.ss.map (·.1)) (W.ss.map fun r => .int r.2))) ∧
  H D4 = some (.dK (dictOf (W.ps.map (·.1)) v4)) ∧ Paired (fun v p => ∃ (Dp : Addr) (ys : List V), v = .ref Dp ∧ H Dp = some (.dK (dictOf (W.ss.map (·.1)) ys)) ∧ Paired (Bnd H) ys p.2) v4 W.ps
def spInit (K : PySem.W.Frag) (C : Addr) (T : List NTab) : Sp := fun vs H Q _ => ∃ (x dx am ac as ap : Addr) (vm vc vs2 vp : List V) (W : Wd), vs = [.ref x, .ref am, .ref ac, .ref as, .ref ap] ∧ H x = some (.ins C dx []) ∧ Fit K H am ac as ap vm vc vs2 vp ∧
  Paired (Row3 H) vm W.ms ∧ Paired (Row3 H) vc W.cs ∧ Paired (Row2 H) vs2 W.ss ∧ Paired (RowP H) vp W.ps ∧ Told W ∧ (∀ p ∈ W.ps, p.2.length = W.ss.length) ∧ TabsN T H ∧
  ∀ H1, (∀ b o, b ≠ x → H b = some o → (∀ ps, o ≠ .tbl ps) → H1 b = some o) → TabsN T H1 → WorksAt C H1 x am ac as ap W → Q .non H1
/-- all but the instance at x stays: so do tuples and tables -/
theorem But.tup {x C dx : Addr} {fs : List (Str × V)} {H H1 : Hp} (hx : H x = some (.ins C dx fs)) (b : But x H H1) : Tup H H1 := fun a xs e => b a _ (ne_of e hx fun z => nomatch z) e
theorem TabsN.but {T : List NTab} {x C dx : Addr} {fs : List (Str × V)} {H H1 : Hp} (hx : H x = some (.ins C dx fs)) (b : But x H H1) (t : TabsN T H) : TabsN T H1 := fun r hr => by
  obtain ⟨ps, h1, h2, h3⟩ := t r hr
  refine ⟨ps, b _ _ (ne_of h1 hx fun z => nomatch z) h1, h2, fun pos v hv => ?_⟩
  obtain ⟨c, e1, e2⟩ := h3 pos v hv
  exact ⟨c, e1, b _ _ (ne_of e2 hx fun z => nomatch (show HO.ext _ = HO.ins _ _ _ from z)) e2⟩
theorem But.ex {x : Addr} {H H1 : Hp} (e : Ex H H1) : But x H H1 := fun b o _ h => e b o h
theorem But.self {x : Addr} {H : Hp} {o : HO} : But x H (upd H x o) := fun b u n e => by
  rw [upd_ne n]
  exact e
theorem Ex.tup {H H1 : Hp} (e : Ex H H1) : Tup H H1 := fun a xs h => e a _ h
theorem rows3 {H H1 : Hp} (t : Tup H H1) {vs : List V} {rs : List (Str × Int × Int)} (p : Paired (Row3 H) vs rs) : Paired (Row3 H1) vs rs := L2.Paired.mapP p fun _ _ z => Row3.seq t z
theorem rows2 {H H1 : Hp} (t : Tup H H1) {vs : List V} {rs : List (Str × Int)} (p : Paired (Row2 H) vs rs) : Paired (Row2 H1) vs rs := L2.Paired.mapP p fun _ _ z => Row2.seq t z
theorem rowsP {H H1 : Hp} (t : Tup H H1) {vs : List V} {rs : List (Str × List (Int × Int))} (p : Paired (RowP H) vs rs) : Paired (RowP H1) vs rs := L2.Paired.mapP p fun _ _ z => RowP.seq t z
theorem bnds {H H1 : Hp} (t : Tup H H1) {vs : List V} {rs : List (Int × Int)} (p : Paired (Bnd H) vs rs) : Paired (Bnd H1) vs rs := L2.Paired.mapP p fun _ _ z => Bnd.seq t z
theorem paired_map {α β γ : Type} {F : α → γ → Prop} {g : β → γ} : ∀ {xs : List α} {ys : List β}, Paired (fun x y => F x (g y)) xs ys → Paired F xs (ys.map g)
  | _, _, .nil => .nil
  | _, _, .cons h t => .cons h (paired_map t)
/-- the contents of one product, by stuff; not the dict at D4 -/
def CBn (W : Wd) (D4 : Addr) (H : Hp) (v : V) (p : Str × List (Int × Int)) : Prop := ∃ (Dp : Addr) (ys : List V), v = .ref Dp ∧ Dp ≠ D4 ∧ H Dp = some (.dK (dictOf (W.ss.map (·.1)) ys)) ∧ Paired (Bnd H) ys p.2
theorem CBn.but {W : Wd} {D4 x C dx : Addr} {fs : List (Str × V)} {H H1 : Hp} {v : V} {p : Str × List (Int × Int)} (hx : H x = some (.ins C dx fs)) (b : But x H H1) (h : CBn W D4 H v p) : CBn W D4 H1 v p := by
  obtain ⟨D0, ys, e1, e2, e3, e4⟩ := h
  exact ⟨D0, ys, e1, e2, b _ _ (ne_of e3 hx fun z => nomatch z) e3, bnds (But.tup hx b) e4⟩
theorem ok_init {f fC fB fT C : Addr} {fd fdC fdB fdT : FuncData} {T : List NTab} (F : Fun K "__init__" "Works.__init__" sInit f fd) (c : WCls K C)
    (GC : FnOk P w K mg base CX0 6 fC fdC pCheck (spCheck K T)) (mC : mg "_check" = some (.ref fC)) (kC : PySem.W.keepIn K (.ref fC) = true) (bC : Binds K fdC pCheck [])
    (GB : FnOk P w K mg base CX0 1 fB fdB ["stuffs", "contents"] spBy) (mB : mg "_by_stuff" = some (.ref fB)) (kB : PySem.W.keepIn K (.ref fB) = true) (bB : Binds K fdB ["stuffs", "contents"] [])
    (GT : FnOk P w K mg base CX0 2 fT fdT ["machines", "cleanings", "stuffs", "products"] spText) (mT : mg "_text_of" = some (.ref fT)) (kT : PySem.W.keepIn K (.ref fT) = true) (bT : Binds K fdT ["machines", "cleanings", "stuffs", "products"] []) :
    FnOk P w K mg base CX0 7 f fd pInit (spInit K C T) := by
  refine F.ok scInit (fun vs H Q E h => ?_) (fun cdv A outer s H vs Q E hr h => ?_)
  · obtain ⟨x, dx, am, ac, as, ap, vm, vc, vs2, vp, W, rfl, _⟩ := h
    rfl
  · obtain ⟨x, dx, am, ac, as, ap, vm, vc, vs2, vp, W, rfl, hx, fit, pm, pc, ps, pp, T1, same, tabs, q⟩ := h
    have hr1 : Room 1 _ := hr.mono (by decide)
    have hr2 : Room 2 _ := hr.mono (by decide)
    refine ⟨_, pss_cons (ps_expr (pe_call GC hr (by rfl) mC kC bC .nil pass0 (pa_cons (pv 1) (pa_cons (pv 2) (pa_cons (pv 3) (pa_cons (pv 4) pa_nil))))))
      (pss_cons (ps_fld (pv 0) (pv 1) rfl)
      (pss_cons (ps_fld (pv 0) (pv 2) rfl)
      (pss_cons (ps_fld (pv 0) (pv 3) rfl)
      (pss_cons (ps_fld (pv 0) (pv 4) rfl)
      (pss_cons (ps_fld (pv 0) (pe_dc (own := [("name", 5), ("low", 6), ("high", 7)]) (g := gTup K 3 (gCons (gName 5) (gCons (gName 6) (gCons (gName 7) gNil)))) (by rfl) scInit.nd (pi_tup (pv 1)) (blkOk_by (own := [("name", 5), ("low", 6), ("high", 7)]) (N := nInit) (sc := defScope sInit) (by decide +kernel))
          (fun _ _ _ _ _ => pg_tup (by rfl) (pgs_cons (pg_name (i := 5) scInit.nd rfl (Or.inl rfl)) (pgs_cons (pg_name (i := 6) scInit.nd rfl (Or.inl rfl)) (pgs_cons (pg_name (i := 7) scInit.nd rfl (Or.inl rfl)) pgs_nil)))) (fun _ _ _ _ _ => pts_nil)
          (fun _ _ _ _ _ => pv 5) (fun _ _ _ _ _ => pe_tup (pa_cons (pv 6) (pa_cons (pv 7) pa_nil)))) rfl)
      (pss_cons (ps_fld (pv 0) (pe_dc (own := [("name", 5), ("low", 6), ("high", 7)]) (g := gTup K 3 (gCons (gName 5) (gCons (gName 6) (gCons (gName 7) gNil)))) (by rfl) scInit.nd (pi_tup (pv 2)) (blkOk_by (own := [("name", 5), ("low", 6), ("high", 7)]) (N := nInit) (sc := defScope sInit) (by decide +kernel))
          (fun _ _ _ _ _ => pg_tup (by rfl) (pgs_cons (pg_name (i := 5) scInit.nd rfl (Or.inl rfl)) (pgs_cons (pg_name (i := 6) scInit.nd rfl (Or.inl rfl)) (pgs_cons (pg_name (i := 7) scInit.nd rfl (Or.inl rfl)) pgs_nil)))) (fun _ _ _ _ _ => pts_nil)
          (fun _ _ _ _ _ => pv 5) (fun _ _ _ _ _ => pe_tup (pa_cons (pv 6) (pa_cons (pv 7) pa_nil)))) rfl)
      (pss_cons (ps_fld (pv 0) (pe_dc (own := [("name", 5), ("most", 8)]) (g := gTup K 2 (gCons (gName 5) (gCons (gName 8) gNil))) (by rfl) scInit.nd (pi_tup (pv 3)) (blkOk_by (own := [("name", 5), ("most", 8)]) (N := nInit) (sc := defScope sInit) (by decide +kernel))
          (fun _ _ _ _ _ => pg_tup (by rfl) (pgs_cons (pg_name (i := 5) scInit.nd rfl (Or.inl rfl)) (pgs_cons (pg_name (i := 8) scInit.nd rfl (Or.inl rfl)) pgs_nil))) (fun _ _ _ _ _ => pts_nil)
          (fun _ _ _ _ _ => pv 5) (fun _ _ _ _ _ => pv 8)) rfl)
      (pss_cons (ps_fld (pv 0) (pe_dc (own := [("name", 5), ("contents", 9)]) (g := gTup K 2 (gCons (gName 5) (gCons (gName 9) gNil))) (by rfl) scInit.nd (pi_tup (pv 4)) (blkOk_by (own := [("name", 5), ("contents", 9)]) (N := nInit) (sc := defScope sInit) (by decide +kernel))
          (fun _ _ _ _ _ => pg_tup (by rfl) (pgs_cons (pg_name (i := 5) scInit.nd rfl (Or.inl rfl)) (pgs_cons (pg_name (i := 9) scInit.nd rfl (Or.inl rfl)) pgs_nil))) (fun _ _ _ _ _ => pts_nil)
          (fun _ _ _ _ _ => pv 5) (fun _ _ _ _ _ => pe_call GB hr1 (by rfl) mB kB bB .nil pass0 (pa_cons (pv 3) (pa_cons (pv 9) pa_nil)))) rfl)
      (pss_one (ps_fld (pv 0) (pe_call GT hr2 (by rfl) mT kT bT .nil pass0 (pa_cons (pv 1) (pa_cons (pv 2) (pa_cons (pv 3) (pa_cons (pv 4) pa_nil))))) rfl)))))))))), ?_⟩
    have two : 2 ≤ sizeLine := by
      rw [sizeLine_eq]
      decide
    have few : ∀ {n : Nat}, n < 100 → n < 1000 := fun h => by omega
    have l1 : vm.length = W.ms.length := Paired.size pm
    have l2 : vc.length = W.cs.length := Paired.size pc
    have l3 : vs2.length = W.ss.length := Paired.size ps
    have l4 : vp.length = W.ps.length := Paired.size pp
    have w1 := T1.lm
    have w2 := T1.lc
    have w3 := T1.ls
    have w4 := T1.lp
    refine ⟨_, rfl, _, rfl, _, rfl, _, rfl, am, ac, as, ap, vm, vc, vs2, vp, rfl, fit, tabs, fun H1 x1 tabs1 => ?_⟩
    have hx1 : H1 x = some (.ins C dx []) := x1 _ _ hx fun _ z => nomatch z
    have fit1 := fit.exN x1
    have tt1 : Tup H H1 := fun a xs e => tup_n x1 e
    have pm1 := rows3 tt1 pm
    have pc1 := rows3 tt1 pc
    have ps1 := rows2 tt1 ps
    have pp1 := rowsP tt1 pp
    refine ⟨_, rfl, _, rfl, x, C, dx, _, rfl, hx1, c.cl, c.n1, few (by decide), ?_⟩
    refine ⟨_, rfl, _, rfl, x, C, dx, _, rfl, upd_same, c.cl, c.n2, (by decide : (1 : Nat) < 1000), ?_⟩
    refine ⟨_, rfl, _, rfl, x, C, dx, _, rfl, upd_same, c.cl, c.n3, (by decide : (2 : Nat) < 1000), ?_⟩
    refine ⟨_, rfl, _, rfl, x, C, dx, _, rfl, upd_same, c.cl, c.n4, (by decide : (3 : Nat) < 1000), ?_⟩
    rw [upd_upd, upd_upd, upd_upd]
    show tSeq _ _ _ _ (upd H1 x (.ins C dx [("_machines", .ref am), ("_cleanings", .ref ac), ("_stuffs", .ref as), ("_products", .ref ap)]))
    have B4 : But x H1 (upd H1 x (.ins C dx [("_machines", .ref am), ("_cleanings", .ref ac), ("_stuffs", .ref as), ("_products", .ref ap)])) := But.self
    have X4 : (upd H1 x (.ins C dx [("_machines", .ref am), ("_cleanings", .ref ac), ("_stuffs", .ref as), ("_products", .ref ap)])) x = some (.ins C dx [("_machines", .ref am), ("_cleanings", .ref ac), ("_stuffs", .ref as), ("_products", .ref ap)]) := upd_same
    generalize upd H1 x (.ins C dx [("_machines", .ref am), ("_cleanings", .ref ac), ("_stuffs", .ref as), ("_products", .ref ap)]) = H4 at B4 X4 ⊢
    have t4 := But.tup hx1 B4
    have pm4 := rows3 t4 pm1
    have hm4 := t4 _ _ fit1.m
    refine ⟨_, rfl, am, rfl, ⟨vm, SqT.of hm4⟩, fun D1 n1 => dc_it walk_tup (fun i G => Ex H4 G ∧ ∃ vals : List V, vals.length = i ∧ Paired (Bnd G) vals ((W.ms.map (·.2)).take i) ∧ G D1 = some (.dK (mergeK [] (under ((W.ms.map (·.1)).take i) vals)))) ⟨Ex.refl.new n1, [], rfl, .nil, upd_same⟩ (fun i G _ h => SqT.of (h.1 _ _ hm4)) ?_ ?_⟩
    · rintro i v _ G hi ⟨xG, vals, vl, pv, eG⟩ ⟨rfl, hv⟩
      obtain ⟨⟨n, lo, up⟩, hr, a, rfl, ha⟩ := Paired.spot pm4 hv
      have e : G a = some (.tup [.str n, .int lo, .int up]) := xG _ _ ha
      have hn : (W.ms.map (·.1))[i]? = some n := by
        rw [List.getElem?_map, hr]
        rfl
      have hb : (W.ms.map (·.2))[i]? = some (lo, up) := by
        rw [List.getElem?_map, hr]
        rfl
      refine ⟨a, _, rfl, SqT.of e, rfl, _, _, rfl, _, _, rfl, _, _, rfl, rfl, rfl, ?_⟩
      refine ⟨_, rfl, _, rfl, _, rfl, two, fun p np => ?_⟩
      have nDp : D1 ≠ p := ne_of_none eG np
      have eD : (upd G p (.tup [.int lo, .int up])) D1 = some (.dK (mergeK [] (under ((W.ms.map (·.1)).take i) vals))) := by
        rw [upd_ne nDp]
        exact eG
      refine ⟨_, .inr n, rfl, eD, ?_, (xG.new np).put n1, vals ++ [.ref p], by rw [List.length_append, vl]; rfl, ?_, ?_⟩
      · have m := merge_len (more := under ((W.ms.map (·.1)).take i) vals) (kvs := [])
        have m2 : (under ((W.ms.map (·.1)).take i) vals).length ≤ i := by
          unfold under
          rw [List.length_map, List.length_zip, vl]
          exact Nat.min_le_right _ _
        rw [List.length_nil] at m
        rw [sizeLine_eq]
        omega
      · have tt : Tup G (upd (upd G p (.tup [.int lo, .int up])) D1 (.dK (putK (mergeK [] (under ((W.ms.map (·.1)).take i) vals)) (.inr n) (.ref p)))) := fun b xs h => by
          rw [upd_ne (ne_of h eG fun z => nomatch z), upd_ne (ne_of_none h np)]
          exact h
        rw [List.take_succ, hb]
        exact Paired.snoc (bnds tt pv) ⟨p, rfl, by rw [upd_ne nDp.symm]; exact upd_same⟩
      · rw [upd_same, under_snoc hn vl, merge_snoc]
    rintro G1 ⟨xG1, b1, bl1, pb1, eG1⟩
    rw [List.take_of_length_le (by rw [List.length_map]; omega), ] at pb1
    rw [List.take_of_length_le (by rw [List.length_map]; omega)] at eG1
    refine ⟨_, rfl, x, C, dx, _, rfl, xG1 _ _ X4, c.cl, c.n5, (by decide : (4 : Nat) < 1000), ?_⟩
    show tSeq _ _ _ _ (upd G1 x (.ins C dx [("_machines", .ref am), ("_cleanings", .ref ac), ("_stuffs", .ref as), ("_products", .ref ap), ("_holds", .ref D1)]))
    have S5 : But x H4 (upd G1 x (.ins C dx [("_machines", .ref am), ("_cleanings", .ref ac), ("_stuffs", .ref as), ("_products", .ref ap), ("_holds", .ref D1)])) := But.trans (But.ex xG1) But.self
    have V5 : But x G1 (upd G1 x (.ins C dx [("_machines", .ref am), ("_cleanings", .ref ac), ("_stuffs", .ref as), ("_products", .ref ap), ("_holds", .ref D1)])) := But.self
    have X5 : (upd G1 x (.ins C dx [("_machines", .ref am), ("_cleanings", .ref ac), ("_stuffs", .ref as), ("_products", .ref ap), ("_holds", .ref D1)])) x = some (.ins C dx [("_machines", .ref am), ("_cleanings", .ref ac), ("_stuffs", .ref as), ("_products", .ref ap), ("_holds", .ref D1)]) := upd_same
    have XG5 := xG1 _ _ X4
    generalize upd G1 x (.ins C dx [("_machines", .ref am), ("_cleanings", .ref ac), ("_stuffs", .ref as), ("_products", .ref ap), ("_holds", .ref D1)]) = H5 at S5 V5 X5 ⊢
    have B5 : But x H1 H5 := But.trans B4 S5
    have t5 := But.tup hx1 B5
    have d1_5 := V5 _ _ (ne_of eG1 XG5 fun z => nomatch z) eG1
    have p1_5 := bnds (But.tup XG5 V5) pb1
    have pc5 := rows3 t5 pc1
    have hc5 := t5 _ _ fit1.c
    refine ⟨_, rfl, ac, rfl, ⟨vc, SqT.of hc5⟩, fun D2 n2 => dc_it walk_tup (fun i G => Ex H5 G ∧ ∃ vals : List V, vals.length = i ∧ Paired (Bnd G) vals ((W.cs.map (·.2)).take i) ∧ G D2 = some (.dK (mergeK [] (under ((W.cs.map (·.1)).take i) vals)))) ⟨Ex.refl.new n2, [], rfl, .nil, upd_same⟩ (fun i G _ h => SqT.of (h.1 _ _ hc5)) ?_ ?_⟩
    · rintro i v _ G hi ⟨xG, vals, vl, pv, eG⟩ ⟨rfl, hv⟩
      obtain ⟨⟨n, lo, up⟩, hr, a, rfl, ha⟩ := Paired.spot pc5 hv
      have e : G a = some (.tup [.str n, .int lo, .int up]) := xG _ _ ha
      have hn : (W.cs.map (·.1))[i]? = some n := by
        rw [List.getElem?_map, hr]
        rfl
      have hb : (W.cs.map (·.2))[i]? = some (lo, up) := by
        rw [List.getElem?_map, hr]
        rfl
      refine ⟨a, _, rfl, SqT.of e, rfl, _, _, rfl, _, _, rfl, _, _, rfl, rfl, rfl, ?_⟩
      refine ⟨_, rfl, _, rfl, _, rfl, two, fun p np => ?_⟩
      have nDp : D2 ≠ p := ne_of_none eG np
      have eD : (upd G p (.tup [.int lo, .int up])) D2 = some (.dK (mergeK [] (under ((W.cs.map (·.1)).take i) vals))) := by
        rw [upd_ne nDp]
        exact eG
      refine ⟨_, .inr n, rfl, eD, ?_, (xG.new np).put n2, vals ++ [.ref p], by rw [List.length_append, vl]; rfl, ?_, ?_⟩
      · have m := merge_len (more := under ((W.cs.map (·.1)).take i) vals) (kvs := [])
        have m2 : (under ((W.cs.map (·.1)).take i) vals).length ≤ i := by
          unfold under
          rw [List.length_map, List.length_zip, vl]
          exact Nat.min_le_right _ _
        rw [List.length_nil] at m
        rw [sizeLine_eq]
        omega
      · have tt : Tup G (upd (upd G p (.tup [.int lo, .int up])) D2 (.dK (putK (mergeK [] (under ((W.cs.map (·.1)).take i) vals)) (.inr n) (.ref p)))) := fun b xs h => by
          rw [upd_ne (ne_of h eG fun z => nomatch z), upd_ne (ne_of_none h np)]
          exact h
        rw [List.take_succ, hb]
        exact Paired.snoc (bnds tt pv) ⟨p, rfl, by rw [upd_ne nDp.symm]; exact upd_same⟩
      · rw [upd_same, under_snoc hn vl, merge_snoc]
    rintro G2 ⟨xG2, b2, bl2, pb2, eG2⟩
    rw [List.take_of_length_le (by rw [List.length_map]; omega), ] at pb2
    rw [List.take_of_length_le (by rw [List.length_map]; omega)] at eG2
    refine ⟨_, rfl, x, C, dx, _, rfl, xG2 _ _ X5, c.cl, c.n6, (by decide : (5 : Nat) < 1000), ?_⟩
    show tSeq _ _ _ _ (upd G2 x (.ins C dx [("_machines", .ref am), ("_cleanings", .ref ac), ("_stuffs", .ref as), ("_products", .ref ap), ("_holds", .ref D1), ("_keeps", .ref D2)]))
    have S6 : But x H5 (upd G2 x (.ins C dx [("_machines", .ref am), ("_cleanings", .ref ac), ("_stuffs", .ref as), ("_products", .ref ap), ("_holds", .ref D1), ("_keeps", .ref D2)])) := But.trans (But.ex xG2) But.self
    have V6 : But x G2 (upd G2 x (.ins C dx [("_machines", .ref am), ("_cleanings", .ref ac), ("_stuffs", .ref as), ("_products", .ref ap), ("_holds", .ref D1), ("_keeps", .ref D2)])) := But.self
    have X6 : (upd G2 x (.ins C dx [("_machines", .ref am), ("_cleanings", .ref ac), ("_stuffs", .ref as), ("_products", .ref ap), ("_holds", .ref D1), ("_keeps", .ref D2)])) x = some (.ins C dx [("_machines", .ref am), ("_cleanings", .ref ac), ("_stuffs", .ref as), ("_products", .ref ap), ("_holds", .ref D1), ("_keeps", .ref D2)]) := upd_same
    have XG6 := xG2 _ _ X5
    generalize upd G2 x (.ins C dx [("_machines", .ref am), ("_cleanings", .ref ac), ("_stuffs", .ref as), ("_products", .ref ap), ("_holds", .ref D1), ("_keeps", .ref D2)]) = H6 at S6 V6 X6 ⊢
    have B6 : But x H1 H6 := But.trans B5 S6
    have t6 := But.tup hx1 B6
    have d2_6 := V6 _ _ (ne_of eG2 XG6 fun z => nomatch z) eG2
    have p2_6 := bnds (But.tup XG6 V6) pb2
    have d1_6 := S6 _ _ (ne_of d1_5 X5 fun z => nomatch z) d1_5
    have p1_6 := bnds (But.tup X5 S6) p1_5
    have ps6 := rows2 t6 ps1
    have hs6 := t6 _ _ fit1.s
    refine ⟨_, rfl, as, rfl, ⟨vs2, SqT.of hs6⟩, fun D3 n3 => dc_it walk_tup (fun i G => Ex H6 G ∧ G D3 = some (.dK (mergeK [] (under ((W.ss.map (·.1)).take i) ((W.ss.map fun r => V.int r.2).take i))))) ⟨Ex.refl.new n3, upd_same⟩ (fun i G _ h => SqT.of (h.1 _ _ hs6)) ?_ ?_⟩
    · rintro i v _ G hi ⟨xG, eG⟩ ⟨rfl, hv⟩
      obtain ⟨⟨n, m⟩, hr, a, rfl, ha⟩ := Paired.spot ps6 hv
      have e : G a = some (.tup [.str n, .int m]) := xG _ _ ha
      have hn : (W.ss.map (·.1))[i]? = some n := by
        rw [List.getElem?_map, hr]
        rfl
      have hb : (W.ss.map fun r => V.int r.2)[i]? = some (.int m) := by
        rw [List.getElem?_map, hr]
        rfl
      have il : i < W.ss.length := (List.getElem?_eq_some_iff.mp hr).1
      have vl : ((W.ss.map fun r => V.int r.2).take i).length = i := by
        rw [List.length_take, List.length_map]
        omega
      refine ⟨a, _, rfl, SqT.of e, rfl, _, _, rfl, _, _, rfl, rfl, rfl, ?_⟩
      refine ⟨_, rfl, _, rfl, _, .inr n, rfl, eG, ?_, xG.put n3, ?_⟩
      · have m := merge_len (more := under ((W.ss.map (·.1)).take i) ((W.ss.map fun r => V.int r.2).take i)) (kvs := [])
        have m2 : (under ((W.ss.map (·.1)).take i) ((W.ss.map fun r => V.int r.2).take i)).length ≤ i := by
          unfold under
          rw [List.length_map, List.length_zip, vl]
          exact Nat.min_le_right _ _
        rw [List.length_nil] at m
        rw [sizeLine_eq]
        omega
      · rw [upd_same, List.take_succ (l := W.ss.map fun r => V.int r.2), hb]
        show _ = some (HO.dK (mergeK [] (under ((W.ss.map (·.1)).take (i + 1)) ((W.ss.map fun r => V.int r.2).take i ++ [.int m]))))
        rw [under_snoc hn vl, merge_snoc]
    rintro G3 ⟨xG3, eG3⟩
    rw [List.take_of_length_le (by rw [List.length_map]; omega), List.take_of_length_le (by rw [List.length_map]; omega)] at eG3
    refine ⟨_, rfl, x, C, dx, _, rfl, xG3 _ _ X6, c.cl, c.n7, (by decide : (6 : Nat) < 1000), ?_⟩
    show tSeq _ _ _ _ (upd G3 x (.ins C dx [("_machines", .ref am), ("_cleanings", .ref ac), ("_stuffs", .ref as), ("_products", .ref ap), ("_holds", .ref D1), ("_keeps", .ref D2), ("_limits", .ref D3)]))
    have S7 : But x H6 (upd G3 x (.ins C dx [("_machines", .ref am), ("_cleanings", .ref ac), ("_stuffs", .ref as), ("_products", .ref ap), ("_holds", .ref D1), ("_keeps", .ref D2), ("_limits", .ref D3)])) := But.trans (But.ex xG3) But.self
    have V7 : But x G3 (upd G3 x (.ins C dx [("_machines", .ref am), ("_cleanings", .ref ac), ("_stuffs", .ref as), ("_products", .ref ap), ("_holds", .ref D1), ("_keeps", .ref D2), ("_limits", .ref D3)])) := But.self
    have X7 : (upd G3 x (.ins C dx [("_machines", .ref am), ("_cleanings", .ref ac), ("_stuffs", .ref as), ("_products", .ref ap), ("_holds", .ref D1), ("_keeps", .ref D2), ("_limits", .ref D3)])) x = some (.ins C dx [("_machines", .ref am), ("_cleanings", .ref ac), ("_stuffs", .ref as), ("_products", .ref ap), ("_holds", .ref D1), ("_keeps", .ref D2), ("_limits", .ref D3)]) := upd_same
    have XG7 := xG3 _ _ X6
    generalize upd G3 x (.ins C dx [("_machines", .ref am), ("_cleanings", .ref ac), ("_stuffs", .ref as), ("_products", .ref ap), ("_holds", .ref D1), ("_keeps", .ref D2), ("_limits", .ref D3)]) = H7 at S7 V7 X7 ⊢
    have B7 : But x H1 H7 := But.trans B6 S7
    have t7 := But.tup hx1 B7
    have d3_7 := V7 _ _ (ne_of eG3 XG7 fun z => nomatch z) eG3
    have d1_7 := S7 _ _ (ne_of d1_6 X6 fun z => nomatch z) d1_6
    have p1_7 := bnds (But.tup X6 S7) p1_6
    have d2_7 := S7 _ _ (ne_of d2_6 X6 fun z => nomatch z) d2_6
    have p2_7 := bnds (But.tup X6 S7) p2_6
    have pp7 := rowsP t7 pp1
    have ps7 := rows2 t7 ps1
    have hs7 := t7 _ _ fit1.s
    have hp7 := t7 _ _ fit1.p
    have nm7 : ∀ {G : Hp}, Ex H7 G → Paired (Named G) vs2 (W.ss.map (·.1)) := fun {G} e => paired_map (L2.Paired.mapP ps7 fun v r z => by
      obtain ⟨a, e1, e2⟩ := z
      exact ⟨a, _, e1, e _ _ e2⟩)
    refine ⟨_, rfl, ap, rfl, ⟨vp, SqT.of hp7⟩, fun D4 n4 => dc_it walk_tup (fun i G => Ex H7 G ∧ ∃ vals : List V, vals.length = i ∧ Paired (CBn W D4 G) vals (W.ps.take i) ∧ G D4 = some (.dK (mergeK [] (under ((W.ps.map (·.1)).take i) vals)))) ⟨Ex.refl.new n4, [], rfl, .nil, upd_same⟩ (fun i G _ h => SqT.of (h.1 _ _ hp7)) ?_ ?_⟩
    · rintro i v _ G hi ⟨xG, vals, vl, pv, eG⟩ ⟨rfl, hv⟩
      obtain ⟨⟨n, bs⟩, hr, a, t, vb, rfl, ha, ht, pb⟩ := Paired.spot pp7 hv
      have hn : (W.ps.map (·.1))[i]? = some n := by
        rw [List.getElem?_map, hr]
        rfl
      have sm : bs.length = W.ss.length := same _ (List.mem_of_getElem? hr)
      have vbl : vb.length = bs.length := Paired.size pb
      refine ⟨a, _, rfl, SqT.of (xG _ _ ha), rfl, _, _, rfl, _, _, rfl, rfl, rfl, ?_⟩
      refine ⟨_, rfl, _, rfl, _, rfl, as, t, vs2, vb, W.ss.map (·.1), rfl, xG _ _ hs7, xG _ _ ht, nm7 xG, by omega, by omega, fun Dp G2 x2 nDp eDp => ?_⟩
      have eG2 := x2 _ _ eG
      have nD : Dp ≠ D4 := (ne_of_none eG nDp).symm
      refine ⟨_, .inr n, rfl, eG2, ?_, (xG.trans x2).put n4, vals ++ [.ref Dp], by rw [List.length_append, vl]; rfl, ?_, ?_⟩
      · have m := merge_len (more := under ((W.ps.map (·.1)).take i) vals) (kvs := [])
        have m2 : (under ((W.ps.map (·.1)).take i) vals).length ≤ i := by
          unfold under
          rw [List.length_map, List.length_zip, vl]
          exact Nat.min_le_right _ _
        rw [List.length_nil] at m
        rw [sizeLine_eq]
        omega
      · have tt : Tup G2 (upd G2 D4 (.dK (putK (mergeK [] (under ((W.ps.map (·.1)).take i) vals)) (.inr n) (.ref Dp)))) := fun b xs h => by
          rw [upd_ne (ne_of h eG2 fun z => nomatch z)]
          exact h
        rw [List.take_succ, hr]
        refine Paired.snoc (L2.Paired.mapP pv fun v p z => ?_) ⟨Dp, vb, rfl, nD, by rw [upd_ne nD]; exact eDp, bnds tt (bnds (Ex.tup (xG.trans x2)) pb)⟩
        obtain ⟨D0, ys, e1, e2, e3, e4⟩ := z
        exact ⟨D0, ys, e1, e2, by rw [upd_ne e2]; exact x2 _ _ e3, bnds tt (bnds (Ex.tup x2) e4)⟩
      · rw [upd_same, under_snoc hn vl, merge_snoc]
    rintro G4 ⟨xG4, b4, bl4, pb4, eG4⟩
    rw [List.take_of_length_le (by omega)] at pb4
    rw [List.take_of_length_le (by rw [List.length_map]; omega)] at eG4
    refine ⟨_, rfl, x, C, dx, _, rfl, xG4 _ _ X7, c.cl, c.n8, (by decide : (7 : Nat) < 1000), ?_⟩
    show tSeq _ _ _ _ (upd G4 x (.ins C dx [("_machines", .ref am), ("_cleanings", .ref ac), ("_stuffs", .ref as), ("_products", .ref ap), ("_holds", .ref D1), ("_keeps", .ref D2), ("_limits", .ref D3), ("_contents", .ref D4)]))
    have S8 : But x H7 (upd G4 x (.ins C dx [("_machines", .ref am), ("_cleanings", .ref ac), ("_stuffs", .ref as), ("_products", .ref ap), ("_holds", .ref D1), ("_keeps", .ref D2), ("_limits", .ref D3), ("_contents", .ref D4)])) := But.trans (But.ex xG4) But.self
    have V8 : But x G4 (upd G4 x (.ins C dx [("_machines", .ref am), ("_cleanings", .ref ac), ("_stuffs", .ref as), ("_products", .ref ap), ("_holds", .ref D1), ("_keeps", .ref D2), ("_limits", .ref D3), ("_contents", .ref D4)])) := But.self
    have X8 : (upd G4 x (.ins C dx [("_machines", .ref am), ("_cleanings", .ref ac), ("_stuffs", .ref as), ("_products", .ref ap), ("_holds", .ref D1), ("_keeps", .ref D2), ("_limits", .ref D3), ("_contents", .ref D4)])) x = some (.ins C dx [("_machines", .ref am), ("_cleanings", .ref ac), ("_stuffs", .ref as), ("_products", .ref ap), ("_holds", .ref D1), ("_keeps", .ref D2), ("_limits", .ref D3), ("_contents", .ref D4)]) := upd_same
    have XG8 := xG4 _ _ X7
    generalize upd G4 x (.ins C dx [("_machines", .ref am), ("_cleanings", .ref ac), ("_stuffs", .ref as), ("_products", .ref ap), ("_holds", .ref D1), ("_keeps", .ref D2), ("_limits", .ref D3), ("_contents", .ref D4)]) = H8 at S8 V8 X8 ⊢
    have B8 : But x H1 H8 := But.trans B7 S8
    have t8 := But.tup hx1 B8
    have d4_8 := V8 _ _ (ne_of eG4 XG8 fun z => nomatch z) eG4
    have p4_8 : Paired (CBn W D4 H8) b4 W.ps := L2.Paired.mapP pb4 fun v p z => CBn.but XG8 V8 z
    have d3_8 := S8 _ _ (ne_of d3_7 X7 fun z => nomatch z) d3_7
    have d1_8 := S8 _ _ (ne_of d1_7 X7 fun z => nomatch z) d1_7
    have p1_8 := bnds (But.tup X7 S8) p1_7
    have d2_8 := S8 _ _ (ne_of d2_7 X7 fun z => nomatch z) d2_7
    have p2_8 := bnds (But.tup X7 S8) p2_7
    refine ⟨_, rfl, _, rfl, _, rfl, _, rfl, am, ac, as, ap, vm, vc, vs2, vp, W, rfl, t8 _ _ fit1.m, t8 _ _ fit1.c, t8 _ _ fit1.s, t8 _ _ fit1.p, rows3 t8 pm1, rows3 t8 pc1, rows2 t8 ps1, rowsP t8 pp1, T1, fun G5 xG5 => ?_⟩
    refine ⟨_, rfl, x, C, dx, _, rfl, xG5 _ _ X8, c.cl, c.n9, (by decide : (8 : Nat) < 1000), ?_⟩
    show Q .non (upd G5 x (.ins C dx [("_machines", .ref am), ("_cleanings", .ref ac), ("_stuffs", .ref as), ("_products", .ref ap), ("_holds", .ref D1), ("_keeps", .ref D2), ("_limits", .ref D3), ("_contents", .ref D4), ("_text", .str (wtext W))]))
    have S9 : But x H8 (upd G5 x (.ins C dx [("_machines", .ref am), ("_cleanings", .ref ac), ("_stuffs", .ref as), ("_products", .ref ap), ("_holds", .ref D1), ("_keeps", .ref D2), ("_limits", .ref D3), ("_contents", .ref D4), ("_text", .str (wtext W))])) := But.trans (But.ex xG5) But.self
    have V9 : But x G5 (upd G5 x (.ins C dx [("_machines", .ref am), ("_cleanings", .ref ac), ("_stuffs", .ref as), ("_products", .ref ap), ("_holds", .ref D1), ("_keeps", .ref D2), ("_limits", .ref D3), ("_contents", .ref D4), ("_text", .str (wtext W))])) := But.self
    have X9 : (upd G5 x (.ins C dx [("_machines", .ref am), ("_cleanings", .ref ac), ("_stuffs", .ref as), ("_products", .ref ap), ("_holds", .ref D1), ("_keeps", .ref D2), ("_limits", .ref D3), ("_contents", .ref D4), ("_text", .str (wtext W))])) x = some (.ins C dx [("_machines", .ref am), ("_cleanings", .ref ac), ("_stuffs", .ref as), ("_products", .ref ap), ("_holds", .ref D1), ("_keeps", .ref D2), ("_limits", .ref D3), ("_contents", .ref D4), ("_text", .str (wtext W))]) := upd_same
    have XG9 := xG5 _ _ X8
    generalize upd G5 x (.ins C dx [("_machines", .ref am), ("_cleanings", .ref ac), ("_stuffs", .ref as), ("_products", .ref ap), ("_holds", .ref D1), ("_keeps", .ref D2), ("_limits", .ref D3), ("_contents", .ref D4), ("_text", .str (wtext W))]) = H9 at S9 V9 X9 ⊢
    have B9 : But x H1 H9 := But.trans B8 S9
    have t9 := But.tup hx1 B9
    have d4_9 := S9 _ _ (ne_of d4_8 X8 fun z => nomatch z) d4_8
    have p4_9 : Paired (CBn W D4 H9) b4 W.ps := L2.Paired.mapP p4_8 fun v p z => CBn.but X8 S9 z
    have d3_9 := S9 _ _ (ne_of d3_8 X8 fun z => nomatch z) d3_8
    have d1_9 := S9 _ _ (ne_of d1_8 X8 fun z => nomatch z) d1_8
    have p1_9 := bnds (But.tup X8 S9) p1_8
    have d2_9 := S9 _ _ (ne_of d2_8 X8 fun z => nomatch z) d2_8
    have p2_9 := bnds (But.tup X8 S9) p2_8
    exact q H9 (fun b o n e nt => B9 b o n (x1 b o e nt)) (TabsN.but hx1 B9 tabs1) ⟨dx, D1, D2, D3, D4, b1, b2, b4, X9, ⟨d1_9, p1_9⟩, ⟨d2_9, p2_9⟩, d3_9, d4_9, L2.Paired.mapP p4_9 fun v p z => by
      obtain ⟨D0, ys, e1, _, e3, e4⟩ := z
      exact ⟨D0, ys, e1, e3, e4⟩⟩
end
end LJ
set_option Elab.async false
set_option linter.all false
set_option maxRecDepth 100000
set_option maxHeartbeats 8000000
namespace LJ
open PySem PySem.Spec L2
/-! A drawn world fits. -/
theorem menu_w : ∀ x ∈ menu, isW x = true := by decide +kernel
theorem menu_8 : ∀ x ∈ menu, x.length ≤ 8 := by decide +kernel
theorem fwAt_none {R : V → Bool} {nm : V → Str} {most : Int} : ∀ {xs : List V} {tk : List Str} {i : Nat}, (∀ v ∈ xs, R v = true) → (i : Int) + xs.length ≤ most → (tk ++ xs.map nm).Nodup → fwAt R nm most tk i xs = none
  | [], _, _, _, _, _ => by
    unfold fwAt
    rfl
  | v :: xs, tk, i, hR, l, nd => by
    rw [List.length_cons] at l
    have nin : nm v ∉ tk := fun z => by
      rw [List.map_cons] at nd
      exact (List.nodup_append.mp nd).2.2 _ z _ (List.mem_cons_self ..) rfl
    have t := fwAt_none (R := R) (nm := nm) (most := most) (xs := xs) (tk := tk ++ [nm v]) (i := i + 1) (fun y hy => hR y (List.mem_cons_of_mem _ hy)) (by omega) (by rw [List.append_assoc]; exact nd)
    unfold fwAt
    rw [if_neg (by omega), if_neg (by rw [hR v (List.mem_cons_self ..)]; decide), if_neg nin, t]
theorem paired_mem {α β : Type} {F : α → β → Prop} : ∀ {xs : List α} {ys : List β}, Paired F xs ys → ∀ x ∈ xs, ∃ y ∈ ys, F x y
  | _, _, .nil, _, h => nomatch h
  | _, _, .cons f t, x, h => by
    rcases List.mem_cons.mp h with rfl | h
    · exact ⟨_, List.mem_cons_self .., f⟩
    · obtain ⟨y, hy, g⟩ := paired_mem t x h
      exact ⟨y, List.mem_cons_of_mem _ hy, g⟩
theorem paired_nm {α : Type} {F : V → α → Prop} {nm : V → Str} {g : α → Str} (h : ∀ v r, F v r → nm v = g r) : ∀ {xs : List V} {ys : List α}, Paired F xs ys → xs.map nm = ys.map g
  | _, _, .nil => rfl
  | _, _, .cons f t => by rw [List.map_cons, List.map_cons, h _ _ f, paired_nm h t]
section
variable {K : PySem.W.Frag} {H : Hp}
theorem kn_tup {a : Addr} {xs : List V} (h : H a = some (.tup xs)) (l : xs.length ≤ 1000) : Kn K H (.ref a) := .tup h (by rw [sizeLine_eq]; omega)
theorem kn_str {n : Str} (l : n.length ≤ 8) : Kn K H (.str n) := .str n (by rw [sizeLine_eq]; omega)
theorem deep_tup {n : Nat} {a : Addr} {xs : List V} (h : H a = some (.tup xs)) (l : xs.length ≤ 1000) (d : ∀ y ∈ xs, Deep K H n y) : Deep K H (n + 1) (.ref a) := ⟨kn_tup h l, fun ys e y hy => by
  rw [tup_at h] at e
  cases e
  exact d y hy⟩
theorem row3_deep {v : V} {r : Str × Int × Int} (h : Row3 H v r) (l : r.1.length ≤ 8) : Deep K H 1 v := by
  obtain ⟨a, rfl, e⟩ := h
  refine deep_tup e (by decide : 3 ≤ 1000) fun y hy => ?_
  simp only [List.mem_cons, List.not_mem_nil, or_false] at hy
  rcases hy with rfl | rfl | rfl
  · exact kn_str l
  · exact .int _
  · exact .int _
theorem row2_deep {v : V} {r : Str × Int} (h : Row2 H v r) (l : r.1.length ≤ 8) : Deep K H 1 v := by
  obtain ⟨a, rfl, e⟩ := h
  refine deep_tup e (by decide : 2 ≤ 1000) fun y hy => ?_
  simp only [List.mem_cons, List.not_mem_nil, or_false] at hy
  rcases hy with rfl | rfl
  · exact kn_str l
  · exact .int _
theorem int_deep {i : Int} : ∀ {n : Nat}, Deep K H n (.int i)
  | 0 => Kn.int i
  | n + 1 => ⟨.int i, fun _ e => nomatch e⟩
theorem str_deep {s : Str} (l : s.length ≤ 8) : ∀ {n : Nat}, Deep K H n (.str s)
  | 0 => kn_str l
  | n + 1 => ⟨kn_str l, fun _ e => nomatch e⟩
theorem bnd_deep {v : V} {b : Int × Int} (h : Bnd H v b) : Deep K H 1 v := by
  obtain ⟨a, rfl, e⟩ := h
  refine deep_tup e (by decide : 2 ≤ 1000) fun y hy => ?_
  simp only [List.mem_cons, List.not_mem_nil, or_false] at hy
  rcases hy with rfl | rfl <;> exact int_deep
theorem rowP_deep {v : V} {r : Str × List (Int × Int)} (h : RowP H v r) (l : r.1.length ≤ 8) (l2 : r.2.length ≤ 100) : Deep K H 3 v := by
  obtain ⟨a, t, vs, rfl, e, et, p⟩ := h
  have vl : vs.length = r.2.length := Paired.size p
  refine deep_tup e (by decide : 2 ≤ 1000) fun y hy => ?_
  simp only [List.mem_cons, List.not_mem_nil, or_false] at hy
  rcases hy with rfl | rfl
  · exact str_deep l
  · refine deep_tup et (by omega) fun z hz => ?_
    obtain ⟨b, _, hb⟩ := paired_mem p z hz
    exact bnd_deep hb
theorem row3_name {v : V} {r : Str × Int × Int} (h : Row3 H v r) : nameOf H v = r.1 := by
  obtain ⟨a, rfl, e⟩ := h
  unfold nameOf
  rw [tup_at e]
theorem row2_name {v : V} {r : Str × Int} (h : Row2 H v r) : nameOf H v = r.1 := by
  obtain ⟨a, rfl, e⟩ := h
  unfold nameOf
  rw [tup_at e]
theorem rowP_name {v : V} {r : Str × List (Int × Int)} (h : RowP H v r) : nameOf H v = r.1 := by
  obtain ⟨a, t, vs, rfl, e, _⟩ := h
  unfold nameOf
  rw [tup_at e]
theorem row3_right {v : V} {r : Str × Int × Int} (h : Row3 H v r) (w : isW r.1 = true) (b0 : 0 ≤ r.2.1) (b1 : r.2.1 ≤ r.2.2) (b2 : r.2.2 ≤ 1000) : onTup sharesOf H v = true := by
  obtain ⟨a, rfl, e⟩ := h
  unfold onTup
  rw [tup_at e]
  show (isW r.1 && (decide (0 ≤ r.2.1) && (decide (r.2.1 ≤ r.2.2) && decide (r.2.2 ≤ 1000)))) = true
  rw [w, decide_eq_true b0, decide_eq_true b1, decide_eq_true b2]
  rfl
theorem row2_right {v : V} {r : Str × Int} (h : Row2 H v r) (w : isW r.1 = true) (b0 : 0 ≤ r.2) (b1 : r.2 ≤ 1000000000000) : onTup limOf H v = true := by
  obtain ⟨a, rfl, e⟩ := h
  unfold onTup
  rw [tup_at e]
  show (isW r.1 && (decide (0 ≤ r.2) && decide (r.2 ≤ top12))) = true
  rw [w, decide_eq_true b0, decide_eq_true (show r.2 ≤ top12 from b1)]
  rfl
theorem rowP_right {v : V} {r : Str × List (Int × Int)} {m : Int} (h : RowP H v r) (w : isW r.1 = true) (l : (r.2.length : Int) = m) (b : ∀ x ∈ r.2, Small x) : onTup (contOf H m) H v = true := by
  obtain ⟨a, t, vs, rfl, e, et, p⟩ := h
  have vl : vs.length = r.2.length := Paired.size p
  unfold onTup
  rw [tup_at e]
  show (isW r.1 && pairsOf H m (tupOf H (.ref t))) = true
  rw [w, tup_at et]
  show (true && (decide ((vs.length : Int) = m) && vs.all fun y => isBnd H y top12)) = true
  rw [decide_eq_true (by rw [vl]; exact l), Bool.true_and, Bool.true_and, List.all_eq_true]
  intro y hy
  obtain ⟨x, hx, b1, rfl, b2⟩ := paired_mem p y hy
  obtain ⟨s1, s2, s3⟩ := b x hx
  unfold isBnd
  rw [tup_at b2]
  show (decide (0 ≤ x.1) && (decide (x.1 ≤ x.2) && decide (x.2 ≤ top12))) = true
  rw [decide_eq_true s1, decide_eq_true s2, decide_eq_true (show x.2 ≤ top12 from s3)]
  rfl
theorem good_fit {am ac as ap : Addr} {vm vc vs2 vp : List V} {W : Wd} (g : Good W) (hm : H am = some (.tup vm)) (hc : H ac = some (.tup vc)) (hs : H as = some (.tup vs2)) (hp : H ap = some (.tup vp))
    (pm : Paired (Row3 H) vm W.ms) (pc : Paired (Row3 H) vc W.cs) (ps : Paired (Row2 H) vs2 W.ss) (pp : Paired (RowP H) vp W.ps) : Fit K H am ac as ap vm vc vs2 vp := by
  have l1 : vm.length = W.ms.length := Paired.size pm
  have l2 : vc.length = W.cs.length := Paired.size pc
  have l3 : vs2.length = W.ss.length := Paired.size ps
  have l4 : vp.length = W.ps.length := Paired.size pp
  have g1 := g.m1
  have g2 := g.m2
  have g3 := g.c2
  have g4 := g.s1
  have g5 := g.s2
  have g6 := g.p1
  have g7 := g.p2
  have im : ∀ r ∈ W.ms, r.1 ∈ menu := fun r hr => g.nm _ (List.mem_append_left _ (List.mem_map_of_mem hr))
  have ic : ∀ r ∈ W.cs, r.1 ∈ menu := fun r hr => g.nm _ (List.mem_append_right _ (List.mem_append_left _ (List.mem_map_of_mem hr)))
  have is : ∀ r ∈ W.ss, r.1 ∈ menu := fun r hr => g.nm _ (List.mem_append_right _ (List.mem_append_right _ (List.mem_append_left _ (List.mem_map_of_mem hr))))
  have ip : ∀ r ∈ W.ps, r.1 ∈ menu := fun r hr => g.nm _ (List.mem_append_right _ (List.mem_append_right _ (List.mem_append_right _ (List.mem_map_of_mem hr))))
  have em : vm.map (nameOf H) = W.ms.map (·.1) := paired_nm (fun v r h => row3_name h) pm
  have ec : vc.map (nameOf H) = W.cs.map (·.1) := paired_nm (fun v r h => row3_name h) pc
  have es : vs2.map (nameOf H) = W.ss.map (·.1) := paired_nm (fun v r h => row2_name h) ps
  have ep : vp.map (nameOf H) = W.ps.map (·.1) := paired_nm (fun v r h => rowP_name h) pp
  have nd := g.nd
  have nd3 : ((W.ms.map (·.1) ++ W.cs.map (·.1)) ++ W.ss.map (·.1) ++ W.ps.map (·.1)).Nodup := by
    rw [List.append_assoc, List.append_assoc]
    exact nd
  have nd2 : ((W.ms.map (·.1) ++ W.cs.map (·.1)) ++ W.ss.map (·.1)).Nodup := (List.nodup_append.mp nd3).1
  have nd1 : (W.ms.map (·.1) ++ W.cs.map (·.1)).Nodup := (List.nodup_append.mp nd2).1
  have nd0 : (W.ms.map (·.1)).Nodup := (List.nodup_append.mp nd1).1
  refine ⟨hm, hc, hs, hp, deep_tup hm (by omega) fun v hv => ?_, deep_tup hc (by omega) fun v hv => ?_, deep_tup hs (by omega) fun v hv => ?_, deep_tup hp (by omega) fun v hv => ?_, by omega, by omega, by omega, ?_, ?_, ?_, ?_⟩
  · obtain ⟨r, hr, h⟩ := paired_mem pm v hv
    exact row3_deep h (menu_8 _ (im r hr))
  · obtain ⟨r, hr, h⟩ := paired_mem pc v hv
    exact row3_deep h (menu_8 _ (ic r hr))
  · obtain ⟨r, hr, h⟩ := paired_mem ps v hv
    exact row2_deep h (menu_8 _ (is r hr))
  · obtain ⟨r, hr, h⟩ := paired_mem pp v hv
    exact rowP_deep h (menu_8 _ (ip r hr)) (by have := (g.pb r hr).1; omega)
  · refine fwAt_none (fun v hv => ?_) (by omega) (by rw [em]; exact nd0)
    obtain ⟨r, hr, h⟩ := paired_mem pm v hv
    obtain ⟨a, b, c⟩ := g.mb r hr
    exact row3_right h (menu_w _ (im r hr)) a b c
  · refine fwAt_none (fun v hv => ?_) (by omega) (by rw [em, ec]; exact nd1)
    obtain ⟨r, hr, h⟩ := paired_mem pc v hv
    obtain ⟨a, b, c⟩ := g.cb r hr
    exact row3_right h (menu_w _ (ic r hr)) a b c
  · refine fwAt_none (fun v hv => ?_) (by omega) (by rw [List.map_append, em, ec, es]; exact nd2)
    obtain ⟨r, hr, h⟩ := paired_mem ps v hv
    obtain ⟨a, b⟩ := g.sb r hr
    exact row2_right h (menu_w _ (is r hr)) a b
  · refine fwAt_none (fun v hv => ?_) (by omega) (by rw [List.map_append, List.map_append, em, ec, es, ep]; exact nd3)
    obtain ⟨r, hr, h⟩ := paired_mem pp v hv
    obtain ⟨a, b⟩ := g.pb r hr
    exact rowP_right h (menu_w _ (ip r hr)) (by omega) b
theorem good_told {W : Wd} (g : Good W) : Told W := by
  have g2 := g.m2
  have g3 := g.c2
  have g5 := g.s2
  have g7 := g.p2
  refine ⟨by omega, by omega, by omega, by omega, fun r hr => ?_, fun r hr => ?_, fun r hr => ?_, fun r hr => ?_⟩
  · obtain ⟨a, b, c⟩ := g.mb r hr
    exact ⟨menu_8 _ (g.nm _ (List.mem_append_left _ (List.mem_map_of_mem hr))), a, b, by omega⟩
  · obtain ⟨a, b, c⟩ := g.cb r hr
    exact ⟨menu_8 _ (g.nm _ (List.mem_append_right _ (List.mem_append_left _ (List.mem_map_of_mem hr)))), a, b, by omega⟩
  · obtain ⟨a, b⟩ := g.sb r hr
    exact ⟨menu_8 _ (g.nm _ (List.mem_append_right _ (List.mem_append_right _ (List.mem_append_left _ (List.mem_map_of_mem hr))))), a, b⟩
  · obtain ⟨a, b⟩ := g.pb r hr
    exact ⟨menu_8 _ (g.nm _ (List.mem_append_right _ (List.mem_append_right _ (List.mem_append_right _ (List.mem_map_of_mem hr))))), by omega, b⟩
end
end LJ
set_option Elab.async false
set_option linter.all false
set_option maxRecDepth 100000
set_option maxHeartbeats 8000000
namespace LJ
open PySem PySem.Spec L2
open LamX (ExtN)
open NdefX (NTab TabsN)
abbrev sBuilt : Stmt := top 44
def spBuilt (C : Addr) (T : List NTab) : Sp := fun vs H Q _ => ∃ (p : Addr) (W : Wd), vs = [.ref p] ∧ WorldAt H p W ∧ Good W ∧ TabsN T H ∧
  ∀ (x am ac as ap : Addr) (H1 : Hp), ExtN H H1 → H x = none → TabsN T H1 → WorksAt C H1 x am ac as ap W → Q (.ref x) H1
section
variable {P : Program} {w : World} {K : PySem.W.Frag} {mg : Str → Option Value} {base : Heap}
theorem scBuilt : FnScope ["_law_world_here"] ["_law_world_here"] (defScope sBuilt) := ⟨rfl, rfl, rfl, by decide +kernel, rfl, by decide +kernel, by decide +kernel⟩
theorem ok_built {f fI C : Addr} {fd fdI : FuncData} {T : List NTab} (F : Fun K "_law_built" "_law_built" sBuilt f fd) (BT : mg "tuple" = none) (M : Mk K C fI) (mW : mg "Works" = some (.ref C))
    (GI : FnOk P w K mg base CX0 7 fI fdI pInit (spInit K C T)) (bI : Binds K fdI pInit []) :
    FnOk P w K mg base CX0 9 f fd ["_law_world_here"] (spBuilt C T) := by
  refine F.ok scBuilt (fun vs H Q E h => ?_) (fun cdv A outer s H vs Q E hr h => ?_)
  · obtain ⟨p, W, rfl, _⟩ := h
    rfl
  · obtain ⟨p, W, rfl, ⟨a, b, c, d, va, vb, vc, vd, hp, ha, pa, hb, pb, hc, pc, hd, pd⟩, g, tabs, q⟩ := h
    refine ⟨_, pss_one (ps_ret (pe_make M GI hr (by rfl) mW bI .nil pass0 (pa_cons (pe_tupleOf (by rfl) BT (pe_ix ix_list (pv 0) pe_int (fun _ _ => rfl))) (pa_cons (pe_tupleOf (by rfl) BT (pe_ix ix_list (pv 0) pe_int (fun _ _ => rfl)))
      (pa_cons (pe_tupleOf (by rfl) BT (pe_ix ix_list (pv 0) pe_int (fun _ _ => rfl))) (pa_cons (pe_tupleOf (by rfl) BT (pe_ix ix_list (pv 0) pe_int (fun _ _ => rfl))) pa_nil)))))), ?_⟩
    have at0 : atI [V.ref a, .ref b, .ref c, .ref d] 0 = some (.ref a) := atI_nat (j := 0) rfl
    have at1 : atI [V.ref a, .ref b, .ref c, .ref d] 1 = some (.ref b) := atI_nat (j := 1) rfl
    have at2 : atI [V.ref a, .ref b, .ref c, .ref d] 2 = some (.ref c) := atI_nat (j := 2) rfl
    have at3 : atI [V.ref a, .ref b, .ref c, .ref d] 3 = some (.ref d) := atI_nat (j := 3) rfl
    refine ⟨_, rfl, p, _, 0, _, rfl, rfl, SqL.of hp, at0, .inl ⟨a, va, rfl, SqL.of ha, fun am n1 => ?_⟩⟩
    have x1 : Ex H (upd H am (.tup va)) := Ex.refl.new n1
    have e1 : (upd H am (.tup va)) am = some (.tup va) := upd_same
    generalize upd H am (.tup va) = H1 at x1 e1 ⊢
    refine ⟨_, rfl, p, _, 1, _, rfl, rfl, SqL.of (x1 _ _ hp), at1, .inl ⟨b, vb, rfl, SqL.of (x1 _ _ hb), fun ac n2 => ?_⟩⟩
    have x2 : Ex H1 (upd H1 ac (.tup vb)) := Ex.refl.new n2
    have e2 : (upd H1 ac (.tup vb)) ac = some (.tup vb) := upd_same
    generalize upd H1 ac (.tup vb) = H2 at x2 e2 ⊢
    have y2 := x1.trans x2
    refine ⟨_, rfl, p, _, 2, _, rfl, rfl, SqL.of (y2 _ _ hp), at2, .inl ⟨c, vc, rfl, SqL.of (y2 _ _ hc), fun as n3 => ?_⟩⟩
    have x3 : Ex H2 (upd H2 as (.tup vc)) := Ex.refl.new n3
    have e3 : (upd H2 as (.tup vc)) as = some (.tup vc) := upd_same
    generalize upd H2 as (.tup vc) = H3 at x3 e3 ⊢
    have y3 := y2.trans x3
    refine ⟨_, rfl, p, _, 3, _, rfl, rfl, SqL.of (y3 _ _ hp), at3, .inl ⟨d, vd, rfl, SqL.of (y3 _ _ hd), fun ap n4 => ?_⟩⟩
    have x4 : Ex H3 (upd H3 ap (.tup vd)) := Ex.refl.new n4
    have e4 : (upd H3 ap (.tup vd)) ap = some (.tup vd) := upd_same
    generalize upd H3 ap (.tup vd) = H4 at x4 e4 ⊢
    have y4 := y3.trans x4
    intro x dx nx ndx ne
    have x5 : Ex H4 (upd (upd H4 dx (.own x)) x (.ins C dx [])) := (Ex.refl.new ndx).new (by rw [upd_ne ne.symm]; exact nx)
    have e5 : (upd (upd H4 dx (.own x)) x (.ins C dx [])) x = some (.ins C dx []) := upd_same
    generalize upd (upd H4 dx (.own x)) x (.ins C dx []) = H5 at x5 e5 ⊢
    have y5 := y4.trans x5
    have tt := Ex.tup y5
    refine ⟨x, dx, am, ac, as, ap, va, vb, vc, vd, W, rfl, e5, good_fit g (x5 _ _ (x4 _ _ (x3 _ _ (x2 _ _ e1)))) (x5 _ _ (x4 _ _ (x3 _ _ e2))) (x5 _ _ (x4 _ _ e3)) (x5 _ _ e4) (rows3 tt pa) (rows3 tt pb) (rows2 tt pc) (rowsP tt pd), rows3 tt pa, rows3 tt pb, rows2 tt pc, rowsP tt pd, good_told g, fun r hr => (g.pb r hr).1, TabsN.exs tabs y5, fun H6 keep t6 at6 => ⟨rfl, ?_⟩⟩
    have hxn : H x = none := y4.gone nx
    refine q x am ac as ap H6 (fun b o e nt => keep b o (fun z => ?_) (y5 _ _ e) nt) hxn t6 at6
    rw [z, hxn] at e
    cases e
end
end LJ
set_option Elab.async false
set_option linter.all false
set_option maxRecDepth 100000
set_option maxHeartbeats 4000000
/-! Own errors over any base: raised; methods called by keywords; a lambda called in a try. -/
namespace L2
open PySem PySem.Spec PyProof.Rows PySem.ErrV
section
variable {X : Cx} {C fI : Addr} {x f : Str} {B nw ini : String} {bmB : List Value} {a : Expr} {p pos : Pos} {ta : TA}
/-- C(e), to be raised -/
def tMkE (C : Addr) (f : Str) (ta : TA) : St → Hp → XK → Prop := fun σ H Q => ta σ H fun vs H1 => ∃ v, vs = [v] ∧ ∀ d, H1 d = none → Q (.ref C) (some d) (upd H1 d (.xd [(f, v)]))
theorem pmk_err (hf : f = "given" ∨ f = "index") (T : ErrC X.K X.mg x f C fI nw bmB) (Bo : BaseOk B nw ini bmB) (exC : PySem.W.subIn X.K (.ref C) (.type "BaseException") = some true) (tyC : PySem.W.typeIn X.K (.ref C) = some (.type "type"))
    (hr : Room 1 X.A) (ha : PA X [a] ta) (hg : Gl X x) (hdb : (x == ("__debug__" : Str)) = false := by decide)
    (he : starEach (a :: []) X.env = (false, eval a X.env) :: starEach [] X.env := by rfl) (hpl : (backTo pos (starEach [] X.env)).any (·.1) = false := by rfl) :
    PMk X (.Call (.Name x p) [a] [] pos) (tMkE C f ta) := by
  intro pins s σ H Q I h
  refine wpAny_Call_Name_kw (ld_glob I hg T.gC ?_ hdb)
  refine PySem.W.callWith_K (h₀ := X.base) I.ok.mod.kin T.kC (thn (ha.run pos pins s σ H _ I h) fun us s1 hh => ?_) he hpl
  obtain ⟨vs, H1, I1, r1, v, ev, q1⟩ := hh
  subst ev
  refine ⟨I1.kIn, ?_⟩
  cases r1 with
  | cons rv rn =>
    rename_i u us
    cases rn
    show wpAny _ _ (call (.ref C) [u]) _ _ _
    have lim := I1.nolimit
    obtain ⟨hp, g, dr, tk, os⟩ := s1
    refine wpAny_call (err_made hf T Bo (v := u) (.inl ⟨rfl, rfl⟩) I1.kIn lim (by have := hr.dp; omega) fun h1 tk1 e d M => ?_)
    show MkP X pins σ Q (.ref e) ⟨h1, g, dr, tk1, os⟩
    obtain ⟨uo, hoe⟩ := M.obj
    have hns := M.ns
    obtain ⟨G1, g1, g2⟩ := restrict h1 fun b => decide (b ≠ e)
    have gk : ∀ b, b ≠ e → G1.get? b = h1.get? b := fun b hb => g1 b (decide_eq_true hb)
    have ge : G1.get? e = none := g2 e (by simp)
    have old : ∀ b o, hp.get? b = some o → G1.get? b = some o := fun b o q => (gk b (Nat.ne_of_lt (Nat.lt_of_lt_of_le (Heap.lt_size q) M.big))).trans (M.keep b o q)
    have ob : ObjOk X.prog X.w (upd H1 d (.xd [(f, v)])) G1 d (.xd [(f, v)]) :=
      ⟨_, hns.at (fun o q => (gk d M.ne).trans q), relO_put (fs := []) rv fun g => True.intro⟩
    have J : Inv X pins σ (upd H1 d (.xd [(f, v)])) ⟨G1, g, dr, tk1, os⟩ := I1.laid (t' := tk1) old M.dbig ob
    refine ⟨e, _, _, ⟨G1, g, dr, tk1, os⟩, _, .ref C, some d, rfl, J, fun b o q => ?_, ge, hoe, ⟨rfl, rfl⟩, rfl, rfl, ?_, rfl, I1.bare, raises_own exC tyC, q1 d (I1.hok.fresh M.dbig)⟩
    · by_cases hb : b = e
      · have q2 : G1.get? b = some o := q
        rw [hb, ge] at q2
        cases q2
      · exact (gk b hb).symm.trans q
    · rw [upd_ne (Ne.symm M.ne)]
      exact I1.hok.fresh M.big
/-- raise C(e) -/
theorem ps_raiseE {W : WX} {pos2 : Pos} (hc : X.calm = true) (hf : f = "given" ∨ f = "index") (T : ErrC X.K X.mg x f C fI nw bmB) (Bo : BaseOk B nw ini bmB) (exC : PySem.W.subIn X.K (.ref C) (.type "BaseException") = some true) (tyC : PySem.W.typeIn X.K (.ref C) = some (.type "type"))
    (hr : Room 1 X.A) (tk : Takes X W) (ha : PA X [a] ta) (hg : Gl X x) (hdb : (x == ("__debug__" : Str)) = false := by decide)
    (he : starEach (a :: []) X.env = (false, eval a X.env) :: starEach [] X.env := by rfl) (hpl : (backTo pos (starEach [] X.env)).any (·.1) = false := by rfl) :
    PS X (.Raise (some (.Call (.Name x p) [a] [] pos)) none pos2) (fun _ σ H => tMkE C f ta σ H fun cls d H1 => W cls d σ H1) := ps_raise hc tk (pmk_err hf T Bo exC tyC hr ha hg hdb he hpl)
end
/-! ### o.m(k = v, ..) -/
/-- by keywords alone: gV tells how the parameters behind the object are filled from the keywords' values -/
def tMethK (C : Addr) (m : Str) (sp : Sp) (n : Nat) (gV : List V → List V → List V) (E : XK) (ta : TE) (t : TA) : TE := fun σ H Q => ta σ H fun x H1 => ∃ a dx fs, x = .ref a ∧ H1 a = some (.ins C dx fs) ∧ fs.lookup m = none ∧
  t σ H1 fun zs H2 => zs.length = n ∧ sp (gV [x] zs) H2 Q E
section
variable {X : Cx} {CX : CXT} {k : Nat} {f C : Addr} {fd : FuncData} {ps ks : List Str} {sp : Sp} {E : XK} {m : Str} {pos apos : Pos} {o : Expr} {kws : List Keyword} {ta : TE} {tk : TA} {g : List Value → List Value → List Value} {gV : List V → List V → List V}
theorem pe_methK {pl : Sem Bool} (he : PE X o ta) (c : Cls X.K C) (hm : Meth X.K C m f) (F : FnOk X.prog X.w X.K X.mg X.base CX k f fd ps sp) (hr : Room k X.A) (hb : KBn X.K fd ps 1 ks g gV) (hx : Passes CX X E) (hkw : PK X kws tk)
    (hall : (backToKw pos (keywordEach kws X.env)).all (·.1.isSome) = true := by rfl) (hks : (backToKw pos (keywordEach kws X.env)).filterMap (·.1) = ks := by rfl)
    (hpl : ((backTo pos (starEach [] X.env)).any (·.1) || (backToKw pos (keywordEach kws X.env)).any (·.1.isNone)) = false := by rfl)
    (ht : eval (.Call (.Attribute o m apos) [] kws pos) X.env = (do
      let ov ← eval o X.env
      standAt apos.atName
      let (f, first) ← holding [ov] (getMethod ov m pl)
      callWith pos f first (backTo pos (starEach [] X.env)) (backToKw pos (keywordEach kws X.env))) := by rfl) :
    PE X (.Call (.Attribute o m apos) [] kws pos) (tMethK C m sp ks.length gV E ta tk) := by
  refine ⟨fun pins s σ H Q I h => ?_⟩
  refine PySem.W.methodCall_KW (pl := pl) (thn (he.run pins s σ H _ I h) fun u s1 ⟨x, H1, I1, rx, a, dx, fs, ex, ea, l, q⟩ => ?_) ht
  subst ex
  obtain rfl : u = Value.ref a := rx
  refine getmeth_ok I1 ea c hm l ?_
  refine PySem.W.callWith_KW0 (first := [.ref a]) (h₀ := X.base) I.ok.mod.kin hm.kp hall ?_ hpl
  refine thn (hkw.run pos pins s1 σ H1 _ I1 q) fun ws s2 ⟨zs, H2, I2, rz, l2, q2⟩ => ⟨I2.kIn, ?_⟩
  rw [hks]
  show wpAny _ _ (call (.ref f) [.ref a] (ks.zip ws)) _ _ _
  have e2 : ws.length = ks.length := rz.length.symm.trans l2
  have r1 : Vals [V.ref a] [Value.ref a] := .cons rfl .nil
  refine wpAny_call (codeAny_mono (F.run X.A X.stack s2 H2 ⟨[.ref a], ks.zip ws⟩ (g [.ref a] ws) (gV [.ref a] zs) Q E hr I2.env0 (hb.to s2 [.ref a] ws I2.kIn rfl e2) (hb.rel r1 rz) q2) fun r s3 hq => ?_)
  cases r with
  | error e => exact hx pins σ H2 s2 e s3 I2 hq
  | ok fl =>
    cases fl with
    | ret u => exact I2.after hq
    | next => exact False.elim hq
    | brk => exact False.elim hq
    | cont => exact False.elim hq
end
end L2
namespace LamV
open PySem PySem.Spec PyProof.Rows L2
open LamX (CodeO ExtN TabB)
open NdefX (NF NTab TabN TabsN CellsAt NScope startF ncx envF)
section
variable {Y : Cx} {pins : List (Addr × Obj)} {σ : L2.St} {H : Hp} {s : Shared} {f : Addr} {F : NF} {body : Expr} {fr : List Str} {ws : List (Option V)}
variable {CX : CXT} {n i j k : Nat} {x : Str} {sp : List (Option V) → Sp} {E : L2.St → XK} {t : TA} {e : Expr} {es : List Expr} {p pos : Pos}
/-- the reading: slot i holds the lambda without parameters; what it raises is wished for at the slots -/
def tCallL0S (f : Addr) (F : NF) (body : Expr) (i : Nat) (ws : List (Option V)) (sp : List (Option V) → Sp) (E : L2.St → XK) : TE := fun σ H Q =>
  (σ[i]? = some (some (.ref f)) ∧ H f = some (LnO f F body)) ∧ H F.c = some (CodeO F.c F.qual) ∧ sp ws [] H Q (E σ)
theorem pe_lact0S (G : LOk Y.prog Y.w Y.K Y.mg Y.base CX k f F body n fr sp) (C : CellsAt F.cl fr ws Y.s_0.heap Y.H_0) (ex : Y.ex = []) (room : Room j Y.A) (le : k ≤ j) (out : ∀ σ, PassesAt CX Y σ (E σ)) (slot : Y.N[i]? = some x) (vis : Vis Y.env.scope x)
    (d1 : (x == ("__debug__" : Str)) = false := by decide) (d2 : (x == ("__classdict__" : Str)) = false := by decide) :
    PE Y (.Call (.Name x p) [] [] pos) (tCallL0S f F body i ws sp E) := by
  constructor
  rintro pins s σ H Q I ⟨⟨hs, hf⟩, h2, q⟩
  apply wpAny_Call_Name_kw
  refine thn ((pe_var slot vis d1 d2).run pins s σ H (fun v H1 => v = .ref f ∧ H1 = H) I ⟨_, hs, rfl, rfl⟩) ?_
  rintro u s1 ⟨_, _, I1, ru, rfl, rfl⟩
  cases (show u = Value.ref f from ru)
  refine PySem.W.callWith_F0 (first := []) (fnAt I1 hf) ?_
  refine wpAny_call (codeAny_mono (G.call (room.mono le) I1.env0 ⟨hf, h2, cells_stay C ex I1⟩ .nil q) ?_)
  rintro (u | fl) s2 hq
  · exact out σ _ _ _ _ _ I1 hq
  · cases fl with
    | ret u => exact I1.after hq
    | _ => exact (hq : False).elim
end
end LamV
set_option Elab.async false
set_option linter.all false
set_option maxRecDepth 100000
set_option maxHeartbeats 4000000
/-! hold, keep, content, limit, declares: what is told of a name, and UnknownName. -/
namespace LJ
open PySem PySem.Spec L2 PySem.ErrV
open LamX (ExtN)
/-- a value that is asked for: a text, or one that is known to be none -/
inductive St (K : PySem.W.Frag) (H : Hp) : V → Prop
  | str (s : Str) (le : s.length ≤ sizeLine) : St K H (.str s)
  | oth {x : V} {t : Value} (ty : ∀ H1, ExtN H H1 → TyX K H1 x t) (s : PySem.W.kitOne K t (.type "str") = some false) (ns : ∀ z, x ≠ .str z) : St K H x
theorem St.exN {K : PySem.W.Frag} {H H1 : Hp} {x : V} (k : St K H x) (e : ExtN H H1) : St K H1 x := by
  cases k with
  | str s le => exact .str s le
  | oth ty s ns => exact .oth (fun H2 e2 => ty H2 (e.trans e2)) s ns
theorem St.ty {K : PySem.W.Frag} {H : Hp} {x : V} (k : St K H x) : ∃ t b, TyX K H x t ∧ PySem.W.kitOne K t (.type "str") = some b ∧ ((b = true ∧ ∃ s, x = .str s) ∨ (b = false ∧ ∀ z, x ≠ .str z)) := by
  cases k with
  | str s le => exact ⟨_, true, .base (.str s), kit_ty (by decide +kernel), .inl ⟨rfl, s, rfl⟩⟩
  | @oth _ t ty s ns => exact ⟨t, false, ty _ (ExtN.refl _), s, .inr ⟨rfl, ns⟩⟩
/-- what a table has under this value -/
def und (kvs : List (Key × V)) : V → Option V
  | .str s => valV kvs (.inr s)
  | _ => none
theorem und_none {kvs : List (Key × V)} {v : V} (h : ∀ z, v ≠ .str z) : und kvs v = none := by
  cases v with
  | str z => exact absurd rfl (h z)
  | _ => rfl
/-- o is what is told of v; nothing: UnknownName(v) -/
def Tells (CU : Addr) (o : Option V) (v : V) (H : Hp) (Q : VK) (E : XK) : Prop := match o with
  | some y => Q y H
  | none => ∀ d, H d = none → E (.ref CU) (some d) (upd H d (.xd [(("given" : Str), v)]))
/-- what the written part tells of UnknownName -/
structure Unk (K : PySem.W.Frag) (mg : Str → Option Value) (CU fU : Addr) : Prop where
  c : ∃ bm, ErrC K mg "UnknownName" "given" CU fU "LookupError.__new__" bm ∧ BaseOk "LookupError" "LookupError.__new__" "LookupError.__init__" bm
  exC : PySem.W.subIn K (.ref CU) (.type "BaseException") = some true
  tyC : PySem.W.typeIn K (.ref CU) = some (.type "type")
  xf : XfC K CU
  te : PySem.W.exmOne K (.ref CU) (.ref CU) = some true
abbrev sOf : Stmt := top 23
def spOf (K : PySem.W.Frag) (CU : Addr) : Sp := fun vs H Q E => ∃ (D : Addr) (kvs : List (Key × V)) (v : V), vs = [.ref D, v] ∧ H D = some (.dK kvs) ∧ St K H v ∧ Tells CU (und kvs v) v H Q E
section
variable {P : Program} {w : World} {K : PySem.W.Frag} {mg : Str → Option Value} {base : Heap} {CU fU C : Addr}
theorem scOf : FnScope ["table", "name"] ["table", "name"] (defScope sOf) := ⟨rfl, rfl, rfl, by decide +kernel, rfl, by decide +kernel, by decide +kernel⟩
theorem ok_of {f : Addr} {fd : FuncData} (F : Fun K "_of_name" "_of_name" sOf f fd) (B : BltI mg) (U : Unk K mg CU fU) : FnOk P w K mg base (L2.CX P w) 2 f fd ["table", "name"] (spOf K CU) := by
  refine F.okX scOf (fun vs H Q E h => ?_) (fun cdv A outer s H vs Q E hr h => ?_)
  · obtain ⟨D, kvs, v, rfl, _⟩ := h
    rfl
  · obtain ⟨D, kvs, v, rfl, hD, st, tl⟩ := h
    obtain ⟨bm, T, Bo⟩ := U.c
    have hu : (A.deeper (PyProof.Rows.envOfC "_of_name" (defScope sOf) s.heap.objs.size f cdv)).units + 1 < cLine := by
      have := hu_of hr
      omega
    refine ⟨_, pss_cons (ps_if (PW.pt (pw_or (pt_not (pt_truth (pe_callB call_isi (by rfl) B.isinstance (by decide +kernel) (pa_cons (pv 1) (pa_cons (pe_bltn (by rfl) B.str (by decide +kernel) (v := .ty "str") rfl) pa_nil))) (fun _ => rfl)))
        (pw_or1 (pt_cmp (pc_dnotin hu (pv 1) (pv 0)))))) (pss_one (ps_raiseE rfl (.inl rfl) T Bo U.exC U.tyC hr (takes_of rfl rfl rfl rfl) (pa_cons (pv 1) pa_nil) (by rfl))) pss_nil)
      (pss_one (ps_ret (pe_dget hu (pv 0) (pv 1) (fun _ _ => rfl)))), ?_⟩
    obtain ⟨t, b, ty, e, hb⟩ := st.ty
    refine ⟨_, rfl, _, _, t, _, b, rfl, .ty "str", ty, e, b, rfl, ?_⟩
    rcases hb with ⟨rfl, z, rfl⟩ | ⟨rfl, ns⟩
    · refine ⟨_, rfl, _, rfl, D, _, rfl, DGet.k (k := Sum.inr z) hD, _, rfl, ?_⟩
      cases ev : valV kvs (Sum.inr z) with
      | some y =>
        have ey : und kvs (.str z) = some y := ev
        rw [ey] at tl
        refine ⟨_, rfl, _, rfl, D, y, rfl, ?_, tl⟩
        have g := DGet.k (k := Sum.inr z) hD
        rw [ev] at g
        exact g
      | none =>
        have ey : und kvs (.str z) = none := ev
        rw [ey] at tl
        exact ⟨_, rfl, _, rfl, tl⟩
    · rw [und_none ns] at tl
      exact ⟨_, rfl, _, rfl, tl⟩
end
end LJ
set_option Elab.async false
set_option linter.all false
set_option maxRecDepth 100000
set_option maxHeartbeats 4000000
namespace LJ
open PySem PySem.Spec L2 PySem.ErrV
open LamX (ExtN)
/-- the object at x holds a dict at D under this field -/
def spFld (K : PySem.W.Frag) (CU C : Addr) (fl : Str) : Sp := fun vs H Q E => ∃ (x dx D : Addr) (fs : List (Str × V)) (kvs : List (Key × V)) (v : V), vs = [.ref x, v] ∧ H x = some (.ins C dx fs) ∧ fs.lookup fl = some (.ref D) ∧ H D = some (.dK kvs) ∧ St K H v ∧ Tells CU (und kvs v) v H Q E
/-- what is told of a product and a stuff -/
def TellsC (CU : Addr) (H : Hp) (kvs : List (Key × V)) (p s : V) (Q : VK) (E : XK) : Prop := match und kvs p with
  | some y => ∃ (Dp : Addr) (kp : List (Key × V)), y = .ref Dp ∧ H Dp = some (.dK kp) ∧ Tells CU (und kp s) s H Q E
  | none => ∀ d, H d = none → E (.ref CU) (some d) (upd H d (.xd [(("given" : Str), p)]))
def spContent (K : PySem.W.Frag) (CU C : Addr) : Sp := fun vs H Q E => ∃ (x dx D : Addr) (fs : List (Str × V)) (kvs : List (Key × V)) (p s : V), vs = [.ref x, p, s] ∧ H x = some (.ins C dx fs) ∧ fs.lookup ("_contents" : Str) = some (.ref D) ∧ H D = some (.dK kvs) ∧ St K H p ∧ St K H s ∧ TellsC CU H kvs p s Q E
section
variable {P : Program} {w : World} {K : PySem.W.Frag} {mg : Str → Option Value} {base : Heap} {CU fU C fO : Addr} {fdO : FuncData}
abbrev sHold : Stmt := meth 6
theorem scHold : FnScope ["self", "machine"] ["self", "machine"] (defScope sHold) := ⟨rfl, rfl, rfl, by decide +kernel, rfl, by decide +kernel, by decide +kernel⟩
theorem ok_hold {f : Addr} {fd : FuncData} (F : Fun K "hold" "Works.hold" sHold f fd) (c : WCls K C) (GO : FnOk P w K mg base (L2.CX P w) 2 fO fdO ["table", "name"] (spOf K CU)) (mO : mg "_of_name" = some (.ref fO)) (kO : PySem.W.keepIn K (.ref fO) = true) (bO : Binds K fdO ["table", "name"] []) :
    FnOk P w K mg base (L2.CX P w) 3 f fd ["self", "machine"] (spFld K CU C "_holds") := by
  refine F.okX scHold (fun vs H Q E h => ?_) (fun cdv A outer s H vs Q E hr h => ?_)
  · obtain ⟨x, dx, D, fs, kvs, v, rfl, _⟩ := h
    rfl
  · obtain ⟨x, dx, D, fs, kvs, v, rfl, hx, hf, hD, st, tl⟩ := h
    refine ⟨_, pss_one (ps_ret (pe_call GO hr (by rfl) mO kO bO .nil (passes_call (W := fun cls d _ H => E cls d H) (takes_of rfl rfl rfl rfl) (fun _ _ _ _ z => z)) (pa_cons (pe_fld (pv 0) rfl) (pa_cons (pv 1) pa_nil)))), ?_⟩
    exact ⟨_, rfl, x, C, dx, fs, _, rfl, hx, c.cl, c.n5, hf, _, rfl, D, kvs, v, rfl, hD, st, tl⟩
abbrev sKeep : Stmt := meth 7
theorem scKeep : FnScope ["self", "cleaning"] ["self", "cleaning"] (defScope sKeep) := ⟨rfl, rfl, rfl, by decide +kernel, rfl, by decide +kernel, by decide +kernel⟩
theorem ok_keep {f : Addr} {fd : FuncData} (F : Fun K "keep" "Works.keep" sKeep f fd) (c : WCls K C) (GO : FnOk P w K mg base (L2.CX P w) 2 fO fdO ["table", "name"] (spOf K CU)) (mO : mg "_of_name" = some (.ref fO)) (kO : PySem.W.keepIn K (.ref fO) = true) (bO : Binds K fdO ["table", "name"] []) :
    FnOk P w K mg base (L2.CX P w) 3 f fd ["self", "cleaning"] (spFld K CU C "_keeps") := by
  refine F.okX scKeep (fun vs H Q E h => ?_) (fun cdv A outer s H vs Q E hr h => ?_)
  · obtain ⟨x, dx, D, fs, kvs, v, rfl, _⟩ := h
    rfl
  · obtain ⟨x, dx, D, fs, kvs, v, rfl, hx, hf, hD, st, tl⟩ := h
    refine ⟨_, pss_one (ps_ret (pe_call GO hr (by rfl) mO kO bO .nil (passes_call (W := fun cls d _ H => E cls d H) (takes_of rfl rfl rfl rfl) (fun _ _ _ _ z => z)) (pa_cons (pe_fld (pv 0) rfl) (pa_cons (pv 1) pa_nil)))), ?_⟩
    exact ⟨_, rfl, x, C, dx, fs, _, rfl, hx, c.cl, c.n6, hf, _, rfl, D, kvs, v, rfl, hD, st, tl⟩
abbrev sLimit : Stmt := meth 9
theorem scLimit : FnScope ["self", "stuff"] ["self", "stuff"] (defScope sLimit) := ⟨rfl, rfl, rfl, by decide +kernel, rfl, by decide +kernel, by decide +kernel⟩
theorem ok_limit {f : Addr} {fd : FuncData} (F : Fun K "limit" "Works.limit" sLimit f fd) (c : WCls K C) (GO : FnOk P w K mg base (L2.CX P w) 2 fO fdO ["table", "name"] (spOf K CU)) (mO : mg "_of_name" = some (.ref fO)) (kO : PySem.W.keepIn K (.ref fO) = true) (bO : Binds K fdO ["table", "name"] []) :
    FnOk P w K mg base (L2.CX P w) 3 f fd ["self", "stuff"] (spFld K CU C "_limits") := by
  refine F.okX scLimit (fun vs H Q E h => ?_) (fun cdv A outer s H vs Q E hr h => ?_)
  · obtain ⟨x, dx, D, fs, kvs, v, rfl, _⟩ := h
    rfl
  · obtain ⟨x, dx, D, fs, kvs, v, rfl, hx, hf, hD, st, tl⟩ := h
    refine ⟨_, pss_one (ps_ret (pe_call GO hr (by rfl) mO kO bO .nil (passes_call (W := fun cls d _ H => E cls d H) (takes_of rfl rfl rfl rfl) (fun _ _ _ _ z => z)) (pa_cons (pe_fld (pv 0) rfl) (pa_cons (pv 1) pa_nil)))), ?_⟩
    exact ⟨_, rfl, x, C, dx, fs, _, rfl, hx, c.cl, c.n7, hf, _, rfl, D, kvs, v, rfl, hD, st, tl⟩
abbrev sContent : Stmt := meth 8
theorem scContent : FnScope ["self", "product", "stuff"] ["self", "product", "stuff"] (defScope sContent) := ⟨rfl, rfl, rfl, by decide +kernel, rfl, by decide +kernel, by decide +kernel⟩
theorem ok_content {f : Addr} {fd : FuncData} (F : Fun K "content" "Works.content" sContent f fd) (c : WCls K C) (GO : FnOk P w K mg base (L2.CX P w) 2 fO fdO ["table", "name"] (spOf K CU)) (mO : mg "_of_name" = some (.ref fO)) (kO : PySem.W.keepIn K (.ref fO) = true) (bO : Binds K fdO ["table", "name"] []) :
    FnOk P w K mg base (L2.CX P w) 3 f fd ["self", "product", "stuff"] (spContent K CU C) := by
  refine F.okX scContent (fun vs H Q E h => ?_) (fun cdv A outer s H vs Q E hr h => ?_)
  · obtain ⟨x, dx, D, fs, kvs, p, s, rfl, _⟩ := h
    rfl
  · obtain ⟨x, dx, D, fs, kvs, p, s, rfl, hx, hf, hD, sp, ss, tl⟩ := h
    refine ⟨_, pss_one (ps_ret (pe_call GO hr (by rfl) mO kO bO .nil (passes_call (W := fun cls d _ H => E cls d H) (takes_of rfl rfl rfl rfl) (fun _ _ _ _ z => z)) (pa_cons (pe_call GO hr (by rfl) mO kO bO .nil (passes_call (W := fun cls d _ H => E cls d H) (takes_of rfl rfl rfl rfl) (fun _ _ _ _ z => z)) (pa_cons (pe_fld (pv 0) rfl) (pa_cons (pv 1) pa_nil))) (pa_cons (pv 2) pa_nil)))), ?_⟩
    refine ⟨_, rfl, x, C, dx, fs, _, rfl, hx, c.cl, c.n8, hf, _, rfl, D, kvs, p, rfl, hD, sp, ?_⟩
    unfold TellsC at tl
    unfold Tells
    cases e : und kvs p with
    | none =>
      rw [e] at tl
      exact tl
    | some y =>
      rw [e] at tl
      obtain ⟨Dp, kp, rfl, hp, tl⟩ := tl
      exact ⟨_, rfl, Dp, kp, s, rfl, hp, ss, tl⟩
/-- whether the upper bound is above 0 -/
def spDecl (K : PySem.W.Frag) (CU C : Addr) : Sp := fun vs H Q E => ∃ (x dx D : Addr) (fs : List (Str × V)) (kvs : List (Key × V)) (p s : V), vs = [.ref x, p, s] ∧ H x = some (.ins C dx fs) ∧ fs.lookup ("_contents" : Str) = some (.ref D) ∧ fs.lookup ("content" : Str) = none ∧ H D = some (.dK kvs) ∧ St K H p ∧ St K H s ∧
  TellsC CU H kvs p s (fun v H1 => ∃ (t : Addr) (lo hi : Int), v = .ref t ∧ H1 t = some (.tup [.int lo, .int hi]) ∧ Q (.bl (decide (0 < hi))) H1) E
abbrev sDecl : Stmt := meth 10
theorem scDecl : FnScope ["self", "product", "stuff"] ["self", "product", "stuff"] (defScope sDecl) := ⟨rfl, rfl, rfl, by decide +kernel, rfl, by decide +kernel, by decide +kernel⟩
theorem TellsC.imp {H : Hp} {kvs : List (Key × V)} {p s : V} {Q Q1 : VK} {E : XK} (t : TellsC CU H kvs p s Q E) (h : ∀ v H1, Q v H1 → Q1 v H1) : TellsC CU H kvs p s Q1 E := by
  unfold TellsC at t ⊢
  cases e : und kvs p with
  | none =>
    rw [e] at t
    exact t
  | some y =>
    rw [e] at t
    obtain ⟨Dp, kp, e1, e2, t⟩ := t
    refine ⟨Dp, kp, e1, e2, ?_⟩
    unfold Tells at t ⊢
    cases e3 : und kp s with
    | none =>
      rw [e3] at t
      exact t
    | some y =>
      rw [e3] at t
      exact h _ _ t
theorem ok_decl {f fC : Addr} {fd fdC : FuncData} (F : Fun K "declares" "Works.declares" sDecl f fd) (c : WCls K C) (GC : FnOk P w K mg base (L2.CX P w) 3 fC fdC ["self", "product", "stuff"] (spContent K CU C)) (mC : Meth K C "content" fC) (bC : Binds K fdC ["self", "product", "stuff"] []) :
    FnOk P w K mg base (L2.CX P w) 4 f fd ["self", "product", "stuff"] (spDecl K CU C) := by
  refine F.okX scDecl (fun vs H Q E h => ?_) (fun cdv A outer s H vs Q E hr h => ?_)
  · obtain ⟨x, dx, D, fs, kvs, p, s, rfl, _⟩ := h
    rfl
  · obtain ⟨x, dx, D, fs, kvs, p, s, rfl, hx, hf, hn, hD, sp, ss, tl⟩ := h
    refine ⟨_, pss_one (ps_ret (pe_cmpR op_gt (pe_ix ix_tup (pe_meth (pv 0) c.cl mC GC hr bC .nil (passes_call (W := fun cls d _ H => E cls d H) (takes_of rfl rfl rfl rfl) (fun _ _ _ _ z => z)) (pa_cons (pv 1) (pa_cons (pv 2) pa_nil))) pe_int (fun _ _ => rfl)) pe_int (nomark _))), ?_⟩
    refine ⟨_, rfl, x, dx, fs, rfl, hx, hn, _, rfl, _, rfl, x, dx, D, fs, kvs, p, s, rfl, hx, hf, hD, sp, ss, tl.imp fun v H1 z => ?_⟩
    obtain ⟨t, lo, hi, rfl, ht, q⟩ := z
    exact ⟨t, _, 1, .int hi, rfl, rfl, SqT.of ht, rfl, _, _, rfl, rfl, q⟩
end
end LJ
set_option Elab.async false
set_option linter.all false
set_option maxRecDepth 100000
set_option maxHeartbeats 4000000
/-! Data that can be shown. -/
namespace LJ
open PySem L2 PySem.ErrV
open LamX (ExtN)
section
variable {H H1 : Hp}
mutual
theorem rp_seqN (s : ExtN H H1) : ∀ (d : PyData) (x : V), rp H d x → rp H1 d x
  | .none, x, e => by
    unfold rp at e ⊢
    exact e
  | .bool b, x, e => by
    unfold rp at e ⊢
    exact e
  | .int i, x, e => by
    unfold rp at e ⊢
    exact e
  | .str z, x, e => by
    unfold rp at e ⊢
    exact e
  | .list ds, x, e => by
    unfold rp at e ⊢
    obtain ⟨a, xs, h1, h2, h3⟩ := e
    exact ⟨a, xs, h1, s _ _ h2 (fun _ z => nomatch z), rpAll_seqN s ds xs h3⟩
  | .tuple ds, x, e => by
    unfold rp at e ⊢
    obtain ⟨a, xs, h1, h2, h3⟩ := e
    exact ⟨a, xs, h1, s _ _ h2 (fun _ z => nomatch z), rpAll_seqN s ds xs h3⟩
  | .dict ds, x, e => by
    unfold rp at e
    exact e.elim
theorem rpAll_seqN (s : ExtN H H1) : ∀ (ds : List PyData) (xs : List V), rpAll H ds xs → rpAll H1 ds xs
  | [], xs, e => by
    unfold rpAll at e ⊢
    exact e
  | d :: ds, xs, e => by
    unfold rpAll at e ⊢
    obtain ⟨y, ys, h1, h2, h3⟩ := e
    exact ⟨y, ys, h1, rp_seqN s d y h2, rpAll_seqN s ds ys h3⟩
end
theorem rpD_seqN (s : ExtN H H1) {d : PyData} {x : V} (e : rpD H d x) : rpD H1 d x := by
  obtain ⟨a, kvs, ds, h1, h2, h3⟩ := e
  exact ⟨a, kvs, ds, h1, s _ _ h2 (fun _ z => nomatch z), h3⟩
end
/-- x is the datum d, small enough to be shown -/
structure Dat (H : Hp) (d : PyData) (x : V) : Prop where
  at_ : rp H d x ∨ rpD H d x
  sh : d.showable = true
  dp : d.depth ≤ 100
  sz : d.shown.length ≤ sizeLine
  ok : PyData.strOk d.shown = true
theorem Dat.exN {H H1 : Hp} {d : PyData} {x : V} (h : Dat H d x) (s : ExtN H H1) : Dat H1 d x :=
  ⟨h.at_.elim (fun e => .inl (rp_seqN s d x e)) fun e => .inr (rpD_seqN s e), h.sh, h.dp, h.sz, h.ok⟩
end LJ
set_option Elab.async false
set_option linter.all false
set_option maxRecDepth 100000
set_option maxHeartbeats 4000000
/-! Static methods called by their class; own ==, != with both answers; str, repr and truth of own objects. -/
namespace OwnX
open PySem PySem.Spec PyProof.Rows L2
/-- m is a static method of C, the def at g -/
structure SMet (K : PySem.W.Frag) (C : Addr) (mc : Value) (m : Str) (p g : Addr) : Prop where
  ty : PySem.W.typeIn K (.ref C) = some mc
  at_ : PySem.W.findCls K (.ref C) mc m = some (.get (.builtin "staticmethod.__get__") (.ref p) .none (.ref C))
  rc : ∃ rest, PySem.W.recIn K p "staticmethod" = some (.ref g :: rest)
  kp : PySem.W.keepIn K (.ref g) = true
def tSMeth (C : Addr) (sp : Sp) (dvs : List V) (E : XK) (ta : TE) (t : TA) : TE := fun σ H Q => ta σ H fun x H1 => x = .ref C ∧ t σ H1 fun vs H2 => sp (vs ++ dvs) H2 Q E
def tSMethK (C : Addr) (sp : Sp) (n : Nat) (gV : List V → List V → List V) (E : XK) (ta : TE) (t : TA) : TE := fun σ H Q => ta σ H fun x H1 => x = .ref C ∧ t σ H1 fun zs H2 => zs.length = n ∧ sp (gV [] zs) H2 Q E
section
variable {X : Cx} {CX : CXT} {k : Nat} {p C g : Addr} {fd : FuncData} {ps ks : List Str} {sp : Sp} {dvs : List V} {ds : List Value} {mc : Value} {E : XK} {m : Str} {pos apos : Pos} {o e : Expr} {es : List Expr} {ta : TE} {t tk : TA} {kws : List Keyword} {gg : List Value → List Value → List Value} {gV : List V → List V → List V}
theorem getmeth_sm {pins : List (Addr × Obj)} {σ : L2.St} {H : Hp} {s : Shared} {A : Around} {E : Value → Shared → Prop} {pl : Sem Bool} {Q : Value × List Value → Shared → Prop}
    (I : Inv X pins σ H s) (r : ClX.CRead X.K C mc) (c : SMet X.K C mc m p g) (q : Q (.ref g, []) { s with toks := s.toks + 1 }) : wpAny (model X.prog X.w) A (getMethod (.ref C) m pl) Q E s := by
  obtain ⟨m1, fr⟩ := I.fr
  obtain ⟨rest, hrc⟩ := c.rc
  unfold getMethod
  refine wpAny_bind ((PySem.W.looks_specialIn I.kIn r.ga).at ?_)
  show wpAny _ _ (if (Manifest.canonical "type.__getattribute__" != "object.__getattribute__") = true then _ else _) _ _ _
  rw [if_pos (by decide +kernel)]
  refine wpAny_bind (PySem.W.cls_sm fr I.ok.mod.kin c.ty r.rd c.at_ hrc rfl ?_)
  exact wpAny_pure q
/-- C.m(e, ..) -/
theorem pe_smeth {pl : Sem Bool} (he : PE X o ta) (r : ClX.CRead X.K C mc) (c : SMet X.K C mc m p g) (F : FnOk X.prog X.w X.K X.mg X.base CX k g fd ps sp) (hr : Room k X.A) (hb : Binds X.K fd ps ds) (hd : Vals dvs ds) (hx : Passes CX X E) (ha : PA X (e :: es) t)
    (hs : starEach (e :: es) X.env = (false, eval e X.env) :: starEach es X.env := by rfl) (hp : (backTo pos (starEach es X.env)).any (·.1) = false := by rfl)
    (ht : eval (.Call (.Attribute o m apos) (e :: es) [] pos) X.env = (do
      let ov ← eval o X.env
      standAt apos.atName
      let (f, first) ← holding [ov] (getMethod ov m pl)
      callWith pos f first (backTo pos (starEach (e :: es) X.env)) (backToKw pos (keywordEach [] X.env))) := by rfl) :
    PE X (.Call (.Attribute o m apos) (e :: es) [] pos) (tSMeth C sp dvs E ta t) := by
  refine ⟨fun pins s σ H Q I h => ?_⟩
  refine PySem.W.methodCall_KW (pl := pl) (thn (he.run pins s σ H _ I h) fun u s1 ⟨x, H1, I1, rx, ex, q⟩ => ?_) ht
  subst ex
  obtain rfl : u = Value.ref C := rx
  refine getmeth_sm I1 r c ?_
  refine PySem.W.callWith_K (first := []) (h₀ := X.base) I.ok.mod.kin c.kp ?_ hs hp
  refine thn (ha.run pos pins _ σ H1 _ (I1.tok _) q) fun us s2 ⟨vs, H2, I2, rz, q2⟩ => ⟨I2.kIn, ?_⟩
  have r2 : Vals (vs ++ dvs) (us ++ ds) := Vals.append rz hd
  have l2 : (us ++ ds).length = ps.length := r2.length.symm.trans (F.len _ _ _ _ q2)
  refine wpAny_call (codeAny_mono (F.run X.A X.stack s2 H2 ⟨us, []⟩ (us ++ ds) (vs ++ dvs) Q E hr I2.env0 (hb s2 us I2.kIn l2) r2 q2) fun r s3 hq => ?_)
  cases r with
  | error e => exact hx pins σ H2 s2 e s3 I2 hq
  | ok fl =>
    cases fl with
    | ret u => exact I2.after hq
    | next => exact False.elim hq
    | brk => exact False.elim hq
    | cont => exact False.elim hq
/-- C.m(k = v, ..) -/
theorem pe_smethK {pl : Sem Bool} (he : PE X o ta) (r : ClX.CRead X.K C mc) (c : SMet X.K C mc m p g) (F : FnOk X.prog X.w X.K X.mg X.base CX k g fd ps sp) (hr : Room k X.A) (hb : KBn X.K fd ps 0 ks gg gV) (hx : Passes CX X E) (hkw : PK X kws tk)
    (hall : (backToKw pos (keywordEach kws X.env)).all (·.1.isSome) = true := by rfl) (hks : (backToKw pos (keywordEach kws X.env)).filterMap (·.1) = ks := by rfl)
    (hpl : ((backTo pos (starEach [] X.env)).any (·.1) || (backToKw pos (keywordEach kws X.env)).any (·.1.isNone)) = false := by rfl)
    (ht : eval (.Call (.Attribute o m apos) [] kws pos) X.env = (do
      let ov ← eval o X.env
      standAt apos.atName
      let (f, first) ← holding [ov] (getMethod ov m pl)
      callWith pos f first (backTo pos (starEach [] X.env)) (backToKw pos (keywordEach kws X.env))) := by rfl) :
    PE X (.Call (.Attribute o m apos) [] kws pos) (tSMethK C sp ks.length gV E ta tk) := by
  refine ⟨fun pins s σ H Q I h => ?_⟩
  refine PySem.W.methodCall_KW (pl := pl) (thn (he.run pins s σ H _ I h) fun u s1 ⟨x, H1, I1, rx, ex, q⟩ => ?_) ht
  subst ex
  obtain rfl : u = Value.ref C := rx
  refine getmeth_sm I1 r c ?_
  refine PySem.W.callWith_KW0 (first := []) (h₀ := X.base) I.ok.mod.kin c.kp hall ?_ hpl
  refine thn (hkw.run pos pins _ σ H1 _ (I1.tok _) q) fun ws s2 ⟨zs, H2, I2, rz, l2, q2⟩ => ⟨I2.kIn, ?_⟩
  rw [hks]
  show wpAny _ _ (call (.ref g) [] (ks.zip ws)) _ _ _
  have e2 : ws.length = ks.length := rz.length.symm.trans l2
  have r1 : Vals ([] : List V) ([] : List Value) := .nil
  refine wpAny_call (codeAny_mono (F.run X.A X.stack s2 H2 ⟨[], ks.zip ws⟩ (gg [] ws) (gV [] zs) Q E hr I2.env0 (hb.to s2 [] ws I2.kIn rfl e2) (hb.rel r1 rz) q2) fun r s3 hq => ?_)
  cases r with
  | error e => exact hx pins σ H2 s2 e s3 I2 hq
  | ok fl =>
    cases fl with
    | ret u => exact I2.after hq
    | next => exact False.elim hq
    | brk => exact False.elim hq
    | cont => exact False.elim hq
end
end OwnX
set_option Elab.async false
set_option linter.all false
set_option maxRecDepth 100000
set_option maxHeartbeats 4000000
namespace OwnX
open PySem PySem.Spec PyProof.Rows L2
section
variable {X : Cx} {CX : CXT} {k : Nat} {C f : Addr} {fd : FuncData} {sp : Sp} {E : XK} {pins : List (Addr × Obj)} {s : Shared} {σ : L2.St} {H : Hp}
/-- the instance as the machine sees it -/
theorem inst_of (I : Inv X pins σ H s) {a dx : Addr} {fs : List (Str × V)} (h : H a = some (.ins C dx fs)) : ∃ od, PySem.W.InstAt s.heap a (PySem.W.instObj C dx) C (some od) := by
  have z := I.hok a _ h
  unfold ObjOk at z
  obtain ⟨h1, h2, h3, h4, mA, h5, h6, h7⟩ := z
  obtain ⟨od, h8, _⟩ := ObjM.look ⟨h4, h5, h3⟩
  exact ⟨od, h8⟩
/-- the other side: of the same class, or a text -/
def OSide (K : PySem.W.Frag) (C : Addr) (H : Hp) (y : V) : Prop := (∃ a2 dx2 fs2, y = .ref a2 ∧ H a2 = some (.ins C dx2 fs2)) ∨ (∃ z, y = .str z) ∧ PySem.W.subIn K (.type "str") (.ref C) = some false
def rEqO (K : PySem.W.Frag) (C : Addr) (sp : Sp) (E : XK) : R2 := fun x y H Q => ∃ a dx fs, x = .ref a ∧ H a = some (.ins C dx fs) ∧ OSide K C H y ∧ sp [x, y] H (fun v H1 => ∃ b, v = .bl b ∧ Q (.bl b) H1) E
theorem op_eqO (c : Meth X.K C "__eq__" f) (F : FnOk X.prog X.w X.K X.mg X.base CX k f fd ["self", "other"] sp) (hr : Room k X.A) (hu : X.A.units + 1 < cLine) (hb : Binds X.K fd ["self", "other"] []) (hx : Passes CX X E) : OpR X (compareOp .Eq) (rEqO X.K C sp E) := by
  rintro pins s σ H x y v u Q I rx ry ⟨a, dx, fs, rfl, ha, hy, q⟩
  obtain rfl : v = Value.ref a := rx
  obtain ⟨od, J⟩ := inst_of I ha
  obtain ⟨m1, fr⟩ := I.fr
  have rv : Vals [V.ref a, y] [Value.ref a, u] := .cons rfl (.cons ry .nil)
  have go : wpAny (model X.prog X.w) X.A (call (.ref f) [.ref a, u]) (PySem.W.CmpBack (EP X pins σ Q)) X.xe s := by
    refine wpAny_call (codeAny_mono (F.run X.A X.stack s H ⟨[.ref a, u], []⟩ [.ref a, u] [.ref a, y] _ E hr I.env0 (hb s [.ref a, u] I.kIn rfl) rv q) fun r s3 hq => ?_)
    cases r with
    | error e => exact hx pins σ H s e s3 I hq
    | ok fl =>
      cases fl with
      | ret u3 =>
        obtain ⟨v3, H3, I3, r3, b, rfl, q3⟩ := I.after hq
        obtain rfl : u3 = Value.bool b := r3
        exact ⟨.bl b, H3, I3, rfl, q3⟩
      | next => exact False.elim hq
      | brk => exact False.elim hq
      | cont => exact False.elim hq
  have hu1 : X.A.units < cLine := by omega
  rcases hy with ⟨a2, dx2, fs2, rfl, h2⟩ | ⟨⟨z, rfl⟩, hz⟩
  · obtain rfl : u = Value.ref a2 := ry
    obtain ⟨od2, J2⟩ := inst_of I h2
    refine PySem.W.cmp_ofEq (PySem.W.cmp_K (h₀ := X.base) (tb := .ref C) hu1 fr I.ok.mod.kin J ?_ ?_ c.at_ c.fn go)
    · intro A Q E s1 kk qq
      exact wpAny_typeOf_ref (kk _ _ J2.at_) (by rw [J2.cls]; exact qq)
    · unfold PySem.W.notFirst
      rw [show ((Value.ref C : Value) == Value.ref C) = true from by simp]
      rfl
  · obtain ⟨t, rfl⟩ : ∃ t, u = Value.str z t := ry
    refine PySem.W.cmp_ofEq (PySem.W.cmp_K (h₀ := X.base) (tb := .type "str") hu1 fr I.ok.mod.kin J ?_ ?_ c.at_ c.fn go)
    · intro A Q E s1 kk qq
      exact wpAny_of_eq rfl qq
    · unfold PySem.W.notFirst
      rw [hz]
      rfl
end
end OwnX
set_option Elab.async false
set_option linter.all false
set_option maxRecDepth 100000
set_option maxHeartbeats 4000000
namespace OwnX
open PySem PySem.Spec PyProof.Rows L2
section
variable {X : Cx} {CX : CXT} {k : Nat} {C f : Addr} {fd : FuncData} {sp : Sp} {E : XK} {pins : List (Addr × Obj)} {s : Shared} {σ : L2.St} {H : Hp}
def rNeO (C : Addr) (sp : Sp) (E : XK) : R2 := fun x y H Q => ∃ a dx fs a2 dx2 fs2, x = .ref a ∧ y = .ref a2 ∧ H a = some (.ins C dx fs) ∧ H a2 = some (.ins C dx2 fs2) ∧ sp [x, y] H (fun v H1 => ∃ b, v = .bl b ∧ Q (.bl !b) H1) E
theorem op_neO (c : Meth X.K C "__eq__" f) (hn : PySem.W.findIn X.K (.ref C) "__ne__" = some (some (.builtin "object.__ne__"))) (so : PySem.W.subIn X.K (.ref C) (.type "object") = some true) (G : FnOk X.prog X.w X.K X.mg X.base CX k f fd ["self", "other"] sp) (hr : Room (k + 1) X.A) (hb : Binds X.K fd ["self", "other"] []) (hx : Passes CX X E) : OpR X (compareOp .NotEq) (rNeO C sp E) := by
  rintro pins s σ H x y v u Q I rx ry ⟨a, dx, fs, a2, dx2, fs2, rfl, rfl, ha, h2, q⟩
  obtain rfl : v = Value.ref a := rx
  obtain rfl : u = Value.ref a2 := ry
  obtain ⟨od, J⟩ := inst_of I ha
  obtain ⟨od2, J2⟩ := inst_of I h2
  have rv : Vals [V.ref a, V.ref a2] [Value.ref a, Value.ref a2] := .cons rfl (.cons rfl .nil)
  have ty : PySem.W.Looks (model X.prog X.w) s.heap (typeOf (.ref a)) (.ref C) := fun A Q E s1 kk qq => wpAny_typeOf_ref (kk _ _ J.at_) (by rw [J.cls]; exact qq)
  have ty2 : PySem.W.Looks (model X.prog X.w) s.heap (typeOf (.ref a2)) (.ref C) := fun A Q E s1 kk qq => wpAny_typeOf_ref (kk _ _ J2.at_) (by rw [J2.cls]; exact qq)
  have hu1 : X.A.units < cLine := by have := hr.un; omega
  have go : wpAny (model X.prog X.w) X.A.in1 (call (.ref f) [.ref a, .ref a2]) (fun v s' => ∃ b, v = .bool b ∧ EP X pins σ Q (.bool !b) s') X.xe s := by
    refine wpAny_call (codeAny_mono (G.run X.A.in1 X.stack s H ⟨[.ref a, .ref a2], []⟩ [.ref a, .ref a2] [.ref a, .ref a2] _ E ?_ ?_ (hb s [.ref a, .ref a2] I.kIn rfl) rv q) fun r s3 hq => ?_)
    · exact ⟨hr.hd, by have := hr.dp; show X.A.depth + 3 * k + 5 < recursionLimit; omega, by have := hr.un; show X.A.units + 1 + 16 * k + 200 < cLine; omega⟩
    · obtain ⟨e1, e2, e3, e4, e5, e6, e7, e8⟩ := I.env0
      exact ⟨e1, e2, e3, e4, e5, e6, e7, e8⟩
    cases r with
    | error e => exact hx pins σ H s e s3 I hq
    | ok fl =>
      cases fl with
      | ret u3 =>
        obtain ⟨v3, H3, I3, r3, b, rfl, q3⟩ := I.after hq
        obtain rfl : u3 = Value.bool b := r3
        exact ⟨b, rfl, .bl !b, H3, I3, rfl, q3⟩
      | next => exact False.elim hq
      | brk => exact False.elim hq
      | cont => exact False.elim hq
  refine PySem.W.cmp_ofNotEq ?_
  unfold richCompare
  refine wpAny_holding (wpAny_bind (wpAny_cRoomFor hu1 ?_))
  show wpAny _ _ (typeOf (.ref a) >>= fun ta => typeOf (.ref a2) >>= fun tb => _) _ _ _
  refine wpAny_bind (ty.at (wpAny_bind (ty2.at ?_)))
  rw [if_neg (by simp)]
  refine wpAny_bind (wpAny_pure ?_)
  dsimp only
  rw [if_neg (by decide)]
  refine wpAny_bind ?_
  unfold tryCompare
  refine wpAny_bind ?_
  have bs : ∀ self, bindSpecial (.builtin "object.__ne__") self = pure (.builtin "object.__ne__", [self]) := fun self => by rfl
  have fnd := PySem.W.looks_findIn (M := model X.prog X.w) I.kIn hn
  unfold callSpecialIfBound? bindSpecialIfBound? specialOf
  refine wpAny_holding (wpAny_bind (wpAny_bind (wpAny_bind (ty.at (fnd.at ?_)))))
  refine wpAny_bind (wpAny_askSetting ?_)
  have both : ∀ {c : Bool} {Q1 : Option (Value × List Value) → Shared → Prop}, Q1 (some (.builtin "object.__ne__", [.ref a])) s → wpAny (model X.prog X.w) X.A (if c = true then (do
        let z ← bindSpecial (Value.builtin "object.__ne__") (Value.ref a)
        pure (some z)) else ((do
        let z ← bindSpecial (Value.builtin "object.__ne__") (Value.ref a)
        pure (some z)).tryCatch fun _ => do
          rule "special.get-raises-dropped"
          pure none)) Q1 X.xe s := by
    intro c Q1 h
    have one : ∀ E, wpAny (model X.prog X.w) X.A (do
        let z ← bindSpecial (Value.builtin "object.__ne__") (Value.ref a)
        pure (some z)) Q1 E s := fun E => by
      rw [bs]
      exact wpAny_bind (wpAny_pure (wpAny_pure h))
    cases c
    · exact wpAny_tryCatch (one _)
    · exact one _
  refine both ?_
  refine wpAny_bind ?_
  show wpAny _ _ (call (.builtin "object.__ne__") [.ref a, .ref a2]) _ _ _
  have of_obj : PySem.W.Looks (model X.prog X.w) s.heap (isInstance (.ref a) (.type "object")) true := ty.andThen (PySem.W.looks_subIn I.kIn so)
  refine wpAny_call (codeAny_call_builtin (by decide +kernel) F.entry_object_ne (PySem.W.check_slot (owner := "object") (n := "__ne__") (by decide +kernel) (by decide +kernel) of_obj (F.args_object_ne_2 _ _) ?_))
  unfold Builtin.«object.__ne__»
  refine wpAny_bind (wpAny_of_eq (a := ((Value.ref a : Value), [Value.ref a2])) (by first | rfl | (simp only [slotArgs]; rfl)) ?_)
  refine wpAny_bind (wpAny_cRoomFor (by have := hr.un; show X.A.units + 1 < cLine; omega) ?_)
  refine wpAny_bind (PySem.W.ifBound_K I.kIn J c.at_ c.fn (thn go fun v s1 h => ?_))
  obtain ⟨b, rfl, h⟩ := h
  refine wpAny_bind (wpAny_pure ?_)
  refine wpAny_pure ?_
  exact wpAny_pure (wpAny_pure (wpAny_pure h))
end
end OwnX
set_option Elab.async false
set_option linter.all false
set_option maxRecDepth 100000
set_option maxHeartbeats 4000000
namespace OwnX
open PySem PySem.Spec PyProof.Rows L2
section
variable {X : Cx} {CX : CXT} {k : Nat} {C f : Addr} {fd : FuncData} {sp : Sp} {E : XK} {pins : List (Addr × Obj)} {s : Shared} {σ : L2.St} {H : Hp}
/-- str(o), repr(o) by a def of the class -/
def rTxtO (C : Addr) (sp : Sp) (E : XK) : List V → Hp → VK → Prop := fun xs H Q => ∃ a dx fs, xs = [.ref a] ∧ H a = some (.ins C dx fs) ∧ sp [.ref a] H (fun v H1 => ∃ z, v = .str z ∧ Q (.str z) H1) E
theorem env_in (I : Inv X pins σ H s) {A : Around} (h : A.frames = X.A.frames) : Env0 X.prog X.w X.K X.mg X.base A X.stack s H := by
  obtain ⟨e1, e2, e3, e4, e5, e6, e7, e8⟩ := I.env0
  exact ⟨h.trans e1, e2, e3, e4, e5, e6, e7, e8⟩
theorem call_of (I : Inv X pins σ H s) {A : Around} {a : Addr} {Q : VK} (h : A.frames = X.A.frames) (hr : Room k A) (G : FnOk X.prog X.w X.K X.mg X.base CX k f fd ["self"] sp) (hb : Binds X.K fd ["self"] []) (hx : Passes CX X E)
    (q : sp [.ref a] H (fun v H1 => ∃ z, v = .str z ∧ Q (.str z) H1) E) : wpAny (model X.prog X.w) A (call (.ref f) [.ref a]) (PySem.W.StrBack (EP X pins σ Q)) X.xe s := by
  refine wpAny_call (codeAny_mono (G.run A X.stack s H ⟨[.ref a], []⟩ [.ref a] [.ref a] _ E hr (env_in I h) (hb s [.ref a] I.kIn rfl) (.cons rfl .nil) q) fun r s3 hq => ?_)
  cases r with
  | error e => exact hx pins σ H s e s3 I hq
  | ok fl =>
    cases fl with
    | ret u3 =>
      obtain ⟨v3, H3, I3, r3, z, rfl, q3⟩ := I.after hq
      obtain ⟨t, rfl⟩ : ∃ t, u3 = Value.str z t := r3
      exact ⟨.str z, H3, I3, ⟨t, rfl⟩, q3⟩
    | next => exact False.elim hq
    | brk => exact False.elim hq
    | cont => exact False.elim hq
theorem call_strO (c : Meth X.K C "__str__" f) (G : FnOk X.prog X.w X.K X.mg X.base CX k f fd ["self"] sp) (hr : Room (k + 1) X.A) (hb : Binds X.K fd ["self"] []) (hx : Passes CX X E) : CallR X (.type "str") (rTxtO C sp E) := by
  rintro pins s σ H xs us Q I r ⟨a, dx, fs, rfl, ha, q⟩
  obtain rfl : us = [Value.ref a] := by
    cases r with
    | cons r1 r2 =>
      cases r2
      cases (show _ = Value.ref a from r1)
      rfl
  obtain ⟨od, J⟩ := inst_of I ha
  have h1 := hr.un
  have h2 := hr.dp
  exact PySem.W.kso_call (by show X.A.units + 1 + 1 < cLine; omega) I.kIn J c.at_ c.fn (call_of I rfl ⟨hr.hd, by show X.A.depth + 3 * k + 5 < recursionLimit; omega, by show X.A.units + 1 + 1 + 16 * k + 200 < cLine; omega⟩ G hb hx q)
theorem call_reprO (c : Meth X.K C "__repr__" f) (G : FnOk X.prog X.w X.K X.mg X.base CX k f fd ["self"] sp) (hr : Room (k + 1) X.A) (hb : Binds X.K fd ["self"] []) (hx : Passes CX X E) : CallR X (.builtin "repr") (rTxtO C sp E) := by
  rintro pins s σ H xs us Q I r ⟨a, dx, fs, rfl, ha, q⟩
  obtain rfl : us = [Value.ref a] := by
    cases r with
    | cons r1 r2 =>
      cases r2
      cases (show _ = Value.ref a from r1)
      rfl
  obtain ⟨od, J⟩ := inst_of I ha
  have h1 := hr.un
  have h2 := hr.dp
  have ty : PySem.W.Looks (model X.prog X.w) s.heap (typeOf (.ref a)) (.ref C) := fun A Q E s1 kk qq => wpAny_typeOf_ref (kk _ _ J.at_) (by rw [J.cls]; exact qq)
  have fnd := PySem.W.looks_findIn (M := model X.prog X.w) I.kIn c.at_
  refine wpAny_call (codeAny_call_builtin (by decide +kernel) F.entry_repr (wpAny_of_eq (a := ()) (by rfl) ?_))
  unfold Builtin.repr
  refine wpAny_bind (wpAny_of_eq (a := (Value.ref a)) (by first | rfl | (simp only [oneArg]; rfl)) ?_)
  refine wpAny_bind (wpAny_cRoomFor (by show X.A.units + 1 < cLine; omega) ?_)
  unfold specialOf
  refine wpAny_bind (wpAny_bind (ty.at (fnd.at ?_)))
  refine wpAny_bind (PySem.W.ifBound_K I.kIn J c.at_ c.fn (thn (call_of I (A := X.A.in1) rfl ⟨hr.hd, by show X.A.depth + 3 * k + 5 < recursionLimit; omega, by show X.A.units + 1 + 16 * k + 200 < cLine; omega⟩ G hb hx q) fun v s1 h => ?_))
  cases v with
  | str z t =>
    refine wpAny_bind (wpAny_of_eq (a := true) (by rfl) ?_)
    exact wpAny_pure h
  | _ => exact False.elim h
/-- an own object is true -/
theorem pt_truthO {e : Expr} {ta : TE} (he : PE X e ta) (hb : PySem.W.findIn X.K (.ref C) "__bool__" = some none) (hl : PySem.W.findIn X.K (.ref C) "__len__" = some none)
    (ht : ∀ (whole : Sem Value), PySem.isTrue e X.env whole = do
          let v ← whole
          standAt e.pos
          holding [v] (truthy v)) : PT X e (fun σ H Q => ta σ H fun x H1 => ∃ a dx fs, x = .ref a ∧ H1 a = some (.ins C dx fs) ∧ Q true H1) := by
  refine ⟨fun pins s σ H Q I h => ?_⟩
  rw [ht]
  refine wpAny_bind (thn (he.run pins s σ H _ I h) fun u s1 ⟨x, H1, I1, rx, a, dx, fs, ex, ea, q⟩ => ?_)
  subst ex
  obtain rfl : u = Value.ref a := rx
  obtain ⟨od, J⟩ := inst_of I1 ea
  obtain ⟨m1, fr⟩ := I1.fr
  refine wpAny_bind (wpAny_standAt (wpAny_holding (PySem.W.truthy_K0 fr I1.ok.mod.kin J hb hl ⟨H1, I1, q⟩)))
end
end OwnX
set_option Elab.async false
set_option linter.all false
set_option maxRecDepth 100000
set_option maxHeartbeats 4000000
/-! a, *b = a list -/
namespace OwnX
open PySem PySem.Spec PyProof.Rows L2
def gStar (K : PySem.W.Frag) (n i : Nat) (t : TGs) : TG := fun v σ H Q => ∃ a xs, v = .ref a ∧ SqL K H a xs ∧ i < n ∧ n ≤ xs.length + 1 ∧ xs.length ≤ 16384 ∧
  ∀ D, H D = none → t (xs.take i ++ [.ref D] ++ (xs.drop i).drop (xs.length + 1 - n)) σ (upd H D (.lst ((xs.drop i).take (xs.length + 1 - n)))) Q
section
variable {X : Cx} {es es' : List Expr} {t : TGs} {n i k : Nat} {pos : Pos}
theorem pgs_same (h : PGs X es t) (e : (assignEach es' X.env).map (·.2) = (assignEach es X.env).map (·.2) := by rfl) : PGs X es' t := ⟨fun pins s σ H vs us Q I r q => by
  rw [e]
  exact h.run pins s σ H vs us Q I r q⟩
theorem pgs_star {e : Expr} {p : Pos} {g : TG} {u : TGs} (he : PG X e g) (hs : PGs X es u) : PGs X (.Starred e p :: es) (gCons g u) := ⟨fun pins s σ H vs us Q I r q => by
  obtain ⟨v, rest, rfl, q⟩ := q
  rw [arm_assignEach_Starred]
  cases r with
  | @cons _ u1 _ us r1 r2 =>
    show wpAny _ _ (do
      holding us (assign e X.env u1)
      assignInOrder ((assignEach es X.env).map (·.2)) us) _ _ _
    refine wpAny_bind (wpAny_holding (thn (he.run pins s σ H v u1 _ I r1 q) fun _ s1 ⟨σ1, H1, I1, q1⟩ => ?_))
    exact hs.run pins s1 σ1 H1 rest us Q I1 r2 q1⟩
theorem vals_take : ∀ {xs : List V} {us : List Value} (n : Nat), Vals xs us → Vals (xs.take n) (us.take n)
  | _, _, 0, _ => .nil
  | _, _, _ + 1, .nil => .nil
  | _, _, n + 1, .cons h t => .cons h (vals_take n t)
theorem vals_drop : ∀ {xs : List V} {us : List Value} (n : Nat), Vals xs us → Vals (xs.drop n) (us.drop n)
  | _, _, 0, h => h
  | _, _, _ + 1, .nil => .nil
  | _, _, n + 1, .cons h t => vals_drop n t
theorem ns_one {h : Heap} {L : Addr} {m m' : Str → Option Value} (a : h.Ns L m) (b : h.Ns L m') : m = m' := by
  obtain ⟨o, es, ep, e1, e2, _, e3⟩ := a
  obtain ⟨o', es', ep', f1, f2, _, f3⟩ := b
  rw [e1] at f1
  cases f1
  rw [e2] at f2
  cases f2
  funext x
  rw [← e3, ← f3]
theorem pg_star (hc : X.calm = true) (hts : PGs X es t) (hn : (assignEach es X.env).length = n := by rfl) (hi : List.findIdx? (·.1) (assignEach es X.env) = some i := by rfl) : PG X (.Tuple es k pos) (gStar X.K n i t) := by
  refine ⟨fun pins s σ H v u Q I rv h => ?_⟩
  obtain ⟨a, xs, rfl, hx, i1, i2, i3, q⟩ := h
  obtain rfl : u = Value.ref a := rv
  obtain ⟨its, rx, pl, _⟩ := I.list hx
  have lx : xs.length = its.length := rx.length
  obtain ⟨oa, ea, ec, na, ed⟩ := pl.isList
  have ty : s.TypeIs (.ref a) "list" := ⟨oa, ea, ec⟩
  have sz := sizeLine_eq
  have lt := Heap.lt_size ea
  rw [arm_assign_Tuple]
  refine wpAny_bind (wpAny_standAt ?_)
  unfold unpack
  rw [hn, hi]
  refine wpAny_bind (wpAny_holding ?_)
  unfold unpackItems notIterableAtAll
  refine wpAny_bind (wpAny_bind (wpAny_specialOf ty F.slot_list_iter.lookup ?_))
  refine wpAny_pure ?_
  refine wpAny_bind (wpAny_holding (wpAny_pyIter_list pl.isList ?_))
  have big : ∀ b o, s.heap.get? b = some o → (s.heap.push { cls := Value.type "list_iterator", data := Data.fields #[Value.ref a, Value.int 0 0] }).get? b = some o := fun b o e => Heap.get?_push_of_some _ e
  have itn : (s.heap.push { cls := Value.type "list_iterator", data := Data.fields #[Value.ref a, Value.int 0 0] }).get? s.heap.objs.size = some { cls := Value.type "list_iterator", data := Data.fields #[Value.ref a, Value.int 0 0] } := Heap.get?_push_size _ rfl
  have szn : (s.heap.push { cls := Value.type "list_iterator", data := Data.fields #[Value.ref a, Value.int 0 0] }).objs.size = s.heap.objs.size + 1 := Heap.size_push _ _
  generalize s.heap.push { cls := Value.type "list_iterator", data := Data.fields #[Value.ref a, Value.int 0 0] } = h1 at big itn szn ⊢
  dsimp only
  refine wpAny_bind (wpAny_holding (PySem.W.kun_draw (l := a) (items := its.toArray) (Nat.ne_of_lt lt) i 0 _ _ ⟨_, itn, rfl, rfl⟩ ⟨oa, big _ _ ea, ec, na, ed⟩ (by rw [List.size_toArray]; omega) fun h2 it2 same2 => ?_))
  have e1 : its.toArray.toList = its := by simp
  have e2 : its.toArray.size = xs.length := by rw [List.size_toArray, lx]
  have f1 : (List.take i (List.drop 0 its.toArray.toList)).length = i := by
    rw [e1, List.drop_zero, List.length_take]
    omega
  rw [if_neg (by rw [f1]; omega)]
  obtain ⟨sz2, old2⟩ := same2
  have old2 : ∀ b, b ≠ s.heap.objs.size → h2.get? b = h1.get? b := old2
  have sz2 : h2.objs.size = h1.objs.size := sz2
  have keep2 : ∀ b o, s.heap.get? b = some o → h2.get? b = some o := fun b o e => by
    rw [old2 b (Nat.ne_of_lt (Heap.lt_size e))]
    exact big b o e
  have b1 : s.heap.objs.size < h2.objs.size := by rw [sz2, szn]; exact Nat.lt_succ_self _
  have b2 : a < h2.objs.size := Nat.lt_trans lt b1
  refine wpAny_bind (wpAny_holding (PySem.W.kun_collect (I := s.heap.objs.size) (ax := a) (items := its.toArray) (k := i) (T := "list_iterator") (St := fun i h => h.IsListIter s.heap.objs.size a i ∧ h.IsList a its.toArray) (.inr (.inr (.inl rfl))) (Walks.list (A := X.A.in1) (I.ok.hd hc) _ _ (Nat.ne_of_lt lt) _) (fun j u hu => ?_) (by rw [e2]; omega) ⟨by rw [Nat.zero_add] at it2; exact it2, oa, keep2 _ _ ea, ec, na, ed⟩ b1 b2 (fun h3 tk old3 => ?_) (by rw [e2, sz]; omega)))
  · obtain ⟨o, u1, u2, _⟩ := hu.1
    exact ⟨o, u1, u2⟩
  have f2 : (List.drop i its.toArray.toList).length = xs.length - i := by rw [e1, List.length_drop, lx]
  rw [if_neg (by rw [f2]; omega)]
  have old3 : ∀ b o, b ≠ s.heap.objs.size → h2.get? b = some o → h3.get? b = some o := old3
  have keep3 : ∀ b o, s.heap.get? b = some o → h3.get? b = some o := fun b o e => old3 b o (Nat.ne_of_lt (Heap.lt_size e)) (keep2 b o e)
  have J0 := I.kept (t' := tk) keep3
  rw [f2]
  have l2 : (List.take (xs.length - i - (n - 1 - i)) (List.drop i its.toArray.toList)).length ≤ sizeLine := by
    rw [List.length_take, f2]
    omega
  have ek : xs.length - i - (n - 1 - i) = xs.length + 1 - n := by omega
  rw [ek] at l2 ⊢
  rw [e1] at l2 ⊢
  refine wpAny_bind (wpAny_newList ?_ l2)
  refine wpAny_pure ?_
  have rv2 : Vals ((xs.drop i).take (xs.length + 1 - n)) ((its.drop i).take (xs.length + 1 - n)) := vals_take _ (vals_drop _ rx)
  have J := Inv.lnew (t' := tk) J0 rv2 (by rw [rv2.length]; exact l2)
  have hD : H h3.objs.size = none := J0.hok.fresh (Nat.le_refl _)
  refine hts.run pins _ σ _ _ _ Q J ?_ (q h3.objs.size hD)
  rw [List.drop_zero]
  exact Vals.append (Vals.append (vals_take _ rx) (.cons rfl .nil)) (vals_drop _ (vals_drop _ rx))
end
end OwnX
set_option Elab.async false
set_option linter.all false
set_option maxRecDepth 100000
set_option maxHeartbeats 8000000
namespace LJ
open PySem PySem.Spec L2
/-! read_number: the number that a word writes. -/
abbrev sNum : Stmt := top 5
def dgt (c : Nat) : Bool := decide (48 ≤ c) && decide (c ≤ 57)
/-- digits without needless zeros -/
def rdOk (z : Str) : Bool := decide (1 ≤ z.length) && (!(decide (z.cps.toList[0]? = some 48) && !decide (z = Str.ofString "0")) && z.cps.toList.all dgt)
def rdN (z : Str) : Option Int := if rdOk z = true then some (NumText.digitsVal z.cps.toList : Nat) else none
def optI : Option Int → V
  | some i => .int i
  | none => .non
def spNum : Sp := fun vs H Q _ => ∃ z : Str, vs = [.str z] ∧ z.length ≤ 600 ∧ ∀ H1, Ex H H1 → Q (optI (rdN z)) H1
theorem str1_eq {c : Nat} {z : Str} (h : z = ⟨#[c]⟩) (d : Nat) : (V.str z = V.str ⟨#[d]⟩) ↔ c = d := by
  subst h
  constructor
  · intro e
    cases e
    rfl
  · rintro rfl
    rfl
theorem rd_first {σ : L2.St} {H : Hp} {Qb : Bool → Hp → Prop} {z : Str} (h : σ[0]? = some (some (.str z))) (l1 : 1 ≤ z.length) (l : z.length ≤ 600) (q : Qb (decide (z.cps.toList[0]? = some 48) && !decide (z = Str.ofString "0")) H) :
    tAnd (tTest (tOp rEq (tOp rIxS (tVar 0) (tC (V.int 0))) (tC (V.str (Str.ofString "0"))))) (tTest (tOp rNe (tVar 0) (tC (V.str (Str.ofString "0"))))) σ H Qb := by
  have zsz : z.cps.toList.length = z.length := rfl
  obtain ⟨c, hc⟩ : ∃ c, z.cps.toList[0]? = some c := ⟨_, List.getElem?_eq_getElem (by omega)⟩
  refine ⟨_, h, z, 0, c, rfl, rfl, by rw [sizeLine_eq]; omega, atI_nat (j := 0) hc, rfl, _, rfl, ?_⟩
  have e : decide (V.str ⟨#[c]⟩ = V.str (Str.ofString "0")) = decide (z.cps.toList[0]? = some 48) := by
    have e1 : Str.ofString "0" = ⟨#[48]⟩ := by decide +kernel
    rw [hc, e1]
    exact decide_eq_decide.mpr ((str1_eq rfl 48).trans ⟨fun z => by rw [z], fun z => Option.some.inj z⟩)
  rw [e]
  refine ite2 (fun k1 => ?_) (fun k1 => ?_)
  · refine ⟨_, h, rfl, _, rfl, ?_⟩
    rw [k1, Bool.true_and] at q
    have e2 : decide (V.str z = V.str (Str.ofString "0")) = decide (z = Str.ofString "0") := decide_eq_decide.mpr ⟨fun e => V.str.inj e, fun e => by rw [e]⟩
    rw [e2]
    exact q
  · rw [Bool.eq_false_iff.mpr k1, Bool.false_and] at q
    exact q
section
variable {P : Program} {w : World} {K : PySem.W.Frag} {mg : Str → Option Value} {base : Heap}
theorem scNum : FnScope ["word", "digit"] ["word"] (defScope sNum) := ⟨rfl, rfl, rfl, by decide +kernel, rfl, by decide +kernel, by decide +kernel⟩
theorem ok_num {f : Addr} {fd : FuncData} {uL : Value} (F : Fun K "read_number" "read_number" sNum f fd) (B : BltI mg) (mL : mg "_MOST_DIGITS" = some uL) (rL : RelV (.int 4000) uL) : FnOk P w K mg base CX0 1 f fd ["word"] spNum := by
  refine F.ok scNum (fun vs H Q E h => ?_) (fun cdv A outer s H vs Q E hr h => ?_)
  · obtain ⟨z, rfl, _⟩ := h
    rfl
  · obtain ⟨z, rfl, zl, q⟩ := h
    refine ⟨_, pss_cons (ps_if (PW.pt (pw_or (pt_not (pt_chain op_le op_le pe_int (pe_callB call_len_str (by rfl) B.len (by decide +kernel) (pa_cons (pv 0) pa_nil)) (pe_glob (by rfl) mL rL)))
        (pw_or1 (PW.pt (pw_and (pt_cmpR op_eq (pe_ix ix_str (pv 0) pe_int (fun _ _ => rfl)) pe_str (nomark _)) (pw_and1 (pt_cmpR op_ne (pv 0) pe_str (nomark _)))))))) (pss_one (ps_ret pe_non)) pss_nil)
      (pss_cons (ps_if (pt_not (pt_truth (pe_callB (cr_all (by rfl)) (by rfl) B.all (by decide +kernel) (pa_cons (pe_lc (own := [("digit", 1)]) (g := gName 1) (by rfl) scNum.nd (pi_str (pv 0)) (blkOk_by (own := [("digit", 1)]) (N := ["word", "digit"]) (sc := defScope sNum) (by decide +kernel)) (fun _ _ _ _ _ => pg_name scNum.nd rfl (Or.inl rfl)) (fun _ _ _ _ _ => pts_nil) (fun _ _ _ _ _ => pe_chain op_le_str op_le_str pe_str (pv 1) pe_str)) pa_nil)) (fun _ => rfl))) (pss_one (ps_ret pe_non)) pss_nil)
      (pss_one (ps_ret (pe_callTy call_int_str (by rfl) B.int (by decide +kernel) (pa_cons (pv 0) pa_nil))))), ?_⟩
    have big : (600 : Nat) < sizeLine := by
      rw [sizeLine_eq]
      decide
    have zsz : z.cps.toList.length = z.length := rfl
    have none_ : rdOk z = false → Q .non H := fun e => by
      have h := q H Ex.refl
      unfold rdN at h
      rw [if_neg (by rw [e]; decide)] at h
      exact h
    refine ⟨_, rfl, z, rfl, by omega, 1, z.length, rfl, rfl, _, rfl, ?_⟩
    refine ite2 (fun c1 => ?_) (fun c1 => ?_)
    · have l1 : (1 : Int) ≤ z.length := of_decide_eq_true c1
      refine ⟨_, _, rfl, rfl, _, rfl, ?_⟩
      rw [decide_eq_true (show (z.length : Int) ≤ 4000 by omega)]
      refine rd_first (z := z) rfl (by omega) zl ?_
      refine ite2 (fun k1 => ?_) (fun k1 => ?_)
      · refine none_ ?_
        unfold rdOk
        rw [k1]
        simp
      · have k2 := Bool.eq_false_iff.mpr k1
        refine ⟨_, rfl, z, rfl, fun D hD => lc_it walk_str (fun n H2 => Ex H H2 ∧ H2 D = some (.lst (((z.cps.toList.take n).map dgt).map V.bl))) ⟨Ex.refl.new hD, upd_same⟩ (fun _ _ _ _ => True.intro) ?_ ?_⟩
        · rintro i y _ H2 hi ⟨x2, e2⟩ ⟨rfl, c, hc, rfl⟩
          refine ⟨rfl, ?_⟩
          have hc2 : z.cps.toList[i]? = some c := by rw [Array.getElem?_toList]; exact hc
          have done : ∃ acc, H2 D = some (.lst acc) ∧ acc.length < sizeLine ∧ Ex H (upd H2 D (.lst (acc ++ [.bl (dgt c)]))) ∧ (upd H2 D (.lst (acc ++ [.bl (dgt c)]))) D = some (.lst (((z.cps.toList.take (i + 1)).map dgt).map V.bl)) := by
            refine ⟨_, e2, ?_, x2.put hD, ?_⟩
            · rw [List.length_map, List.length_map, List.length_take]
              omega
            · rw [upd_same, List.take_succ, hc2, List.map_append, List.map_append]
              rfl
          refine ⟨_, rfl, _, _, rfl, rfl, _, rfl, ?_⟩
          rw [show (!decide ((⟨#[c]⟩ : Str).cps.toList < (Str.ofString "0").cps.toList)) = decide (48 ≤ c) from le_one 48 c]
          refine ite2 (fun k1 => ?_) (fun k1 => ?_)
          · refine ⟨_, _, rfl, rfl, ?_⟩
            rw [show (!decide ((Str.ofString "9").cps.toList < (⟨#[c]⟩ : Str).cps.toList)) = decide (c ≤ 57) from le_one c 57]
            have e : dgt c = decide (c ≤ 57) := by
              unfold dgt
              rw [k1, Bool.true_and]
            rw [← e]
            exact done
          · have e : dgt c = false := by
              unfold dgt
              rw [Bool.eq_false_iff.mpr k1, Bool.false_and]
            rw [e] at done
            exact done
        · rintro H2 ⟨x2, e2⟩
          refine ⟨D, _, rfl, SqL.of e2, _, rfl, ?_⟩
          have ea : (((z.cps.toList.take z.cps.size).map dgt).all id) = z.cps.toList.all dgt := by
            rw [List.take_of_length_le (by rw [Array.length_toList]; exact Nat.le_refl _), List.all_map]
            rfl
          rw [ea]
          have re : rdOk z = z.cps.toList.all dgt := by
            unfold rdOk
            rw [k2, decide_eq_true (p := 1 ≤ z.length) (by omega)]
            simp
          refine ite2 (fun k3 => ?_) (fun k3 => ?_)
          · have h := q H2 x2
            unfold rdN at h
            rw [re, if_neg (by intro y; rw [y] at k3; cases k3)] at h
            exact h
          · have k4 : z.cps.toList.all dgt = true := by
              cases e : z.cps.toList.all dgt with
              | true => rfl
              | false => rw [e] at k3; exact absurd rfl k3
            have h := q H2 x2
            unfold rdN at h
            rw [re, if_pos k4] at h
            refine ⟨_, rfl, z, _, rfl, intText_digits (fun c hc => ?_) (fun y => ?_) (by omega), by omega, h⟩
            · have := List.all_eq_true.mp k4 c hc
              unfold dgt at this
              rw [Bool.and_eq_true, decide_eq_true_eq, decide_eq_true_eq] at this
              exact this
            · rw [y] at zsz
              simp at zsz
              omega
    · have l1 : ¬ (1 : Int) ≤ z.length := fun w => c1 (decide_eq_true w)
      refine ⟨_, rfl, ?_⟩
      refine none_ ?_
      unfold rdOk
      rw [decide_eq_false (p := 1 ≤ z.length) (by omega)]
      rfl
end
end LJ
set_option Elab.async false
set_option linter.all false
set_option maxRecDepth 100000
set_option maxHeartbeats 8000000
namespace LJ
open PySem PySem.Spec L2
/-! What lines and words of told works are. -/
theorem tl_num {i : Int} (h0 : 0 ≤ i) : TL.tl (num i) = TL.numL i.toNat := by
  obtain ⟨n, rfl⟩ := Int.eq_ofNat_of_zero_le h0
  unfold num TL.numL
  rw [TL.tl_ofString]
  congr 1
  show (toString (n : Int)).toList = _
  have e : (toString (n : Int)) = Nat.repr n := rfl
  rw [e]
  unfold Nat.repr
  simp
theorem num_head {n : Nat} (h : 1 ≤ n) : (TL.numL n)[0]? ≠ some 48 := by
  induction n using Nat.strongRecOn with
  | _ n ih =>
    by_cases lt : n < 10
    · rw [TL.numL_lt lt]
      intro z
      have z := Option.some.inj z
      omega
    · rw [TL.numL_step (by omega)]
      have h2 := ih (n / 10) (by omega) (by omega)
      have ne := TL.numL_ne (n / 10)
      rw [List.getElem?_append_left (by cases e : TL.numL (n / 10) with
        | nil => exact absurd e ne
        | cons _ _ => exact Nat.zero_lt_succ _)]
      exact h2
theorem rdN_num {i : Int} (h0 : 0 ≤ i) : rdN (num i) = some i := by
  have tl := tl_num h0
  have tl2 : (num i).cps.toList = TL.numL i.toNat := tl
  have ok : rdOk (num i) = true := by
    unfold rdOk
    have l1 : 1 ≤ (num i).length := by
      have : (num i).cps.toList.length = (num i).length := rfl
      rw [tl2] at this
      cases e : TL.numL i.toNat with
      | nil => exact absurd e (TL.numL_ne _)
      | cons a b =>
        rw [e] at this
        simp at this
        omega
    rw [decide_eq_true l1, Bool.true_and, tl2]
    have dg : (TL.numL i.toNat).all dgt = true := List.all_eq_true.mpr fun c hc => by
      have := TL.numL_digits i.toNat c hc
      unfold dgt
      rw [decide_eq_true this.1, decide_eq_true this.2]
      rfl
    rw [dg, Bool.and_true]
    by_cases z : i.toNat = 0
    · have : num i = Str.ofString "0" := by
        apply TL.ext_tl
        rw [tl, z]
        decide +kernel
      rw [decide_eq_true this]
      simp
    · rw [decide_eq_false (num_head (by omega))]
      rfl
  unfold rdN
  rw [if_pos ok, tl2, TL.numL_val]
  congr 1
  omega
/-- signs of a text -/
def Free (c : Nat) (z : Str) : Prop := c ∉ TL.tl z
theorem free_num {i : Int} (h0 : 0 ≤ i) {c : Nat} (h : c < 48 ∨ 57 < c) : Free c (num i) := by
  unfold Free
  rw [tl_num h0]
  exact TL.numL_free h
theorem free_name {z : Str} (h : isW z = true) {c : Nat} (hc : c < 97 ∨ 122 < c) : Free c z := by
  unfold isW at h
  rw [Bool.and_eq_true, Bool.and_eq_true] at h
  intro m
  have := List.all_eq_true.mp h.2.2 c m
  rw [Bool.and_eq_true, decide_eq_true_eq, decide_eq_true_eq] at this
  omega
theorem free_app {c : Nat} {x y : Str} (hx : Free c x) (hy : Free c y) : Free c (x ++ y) := by
  unfold Free
  rw [TL.tl_append]
  exact fun m => (List.mem_append.mp m).elim hx hy
theorem split_at {c : Nat} {sep : Str} (hs : TL.tl sep = [c]) (h256 : c < 256) {ys : List Str} (ne : ys ≠ []) (h : ∀ y ∈ ys, Free c y) : Txt.split (Txt.join sep ys) sep = ys :=
  TL.split_join hs (by
    have e : sep = ⟨#[c]⟩ := TL.ext_tl hs
    rw [e]
    simpa using h256) ne h
theorem tl_join2 (sep : Str) : ∀ (ys : List Str), TL.tl (Txt.join sep ys) = TL.joinL (TL.tl sep) (ys.map TL.tl) := fun ys => by
  rw [TL.join_eq, TL.tl_join]
theorem tl_sp1 : TL.tl sp1 = [32] := by decide +kernel
theorem tl_nl : TL.tl (Str.ofString "\n") = [10] := by decide +kernel
theorem tl_hy : TL.tl (Str.ofString "-") = [45] := by decide +kernel
def kM : Str := Str.ofString "machine"
def kC : Str := Str.ofString "cleaning"
def kS : Str := Str.ofString "stuff"
def kP : Str := Str.ofString "product"
theorem tl_empty : TL.tl Str.empty = [] := rfl
theorem line3_join {pre k : Str} (h : TL.tl pre = TL.tl k ++ [32]) (r : Str × Int × Int) : line3 pre r = Txt.join sp1 [k, r.1, num r.2.1, num r.2.2] := by
  apply TL.ext_tl
  rw [tl_join2]
  unfold line3
  simp only [TL.tl_append, h, tl_sp1, tl_empty, List.map, TL.joinL, List.nil_append, List.append_assoc, List.cons_append]
theorem line2_join {pre k : Str} (h : TL.tl pre = TL.tl k ++ [32]) (r : Str × Int) : line2 pre r = Txt.join sp1 [k, r.1, num r.2] := by
  apply TL.ext_tl
  rw [tl_join2]
  unfold line2
  simp only [TL.tl_append, h, tl_sp1, tl_empty, List.map, TL.joinL, List.nil_append, List.append_assoc, List.cons_append]
/-- the word of a pair of bounds -/
def bword (b : Int × Int) : Str := num b.1 ++ Str.ofString "-" ++ num b.2
theorem bword_join (b : Int × Int) : bword b = Txt.join (Str.ofString "-") [num b.1, num b.2] := by
  apply TL.ext_tl
  rw [tl_join2]
  unfold bword
  simp only [TL.tl_append, List.map, TL.joinL, List.nil_append, List.append_assoc, List.cons_append]
theorem join_nil_sep : ∀ ys : List Str, TL.tl (Txt.join (Str.ofString "") ys) = (ys.map TL.tl).flatten
  | [] => by decide +kernel
  | [y] => by
    rw [tl_join2]
    simp only [List.map, TL.joinL]
    simp
  | y :: z :: r => by
    have ih := join_nil_sep (z :: r)
    rw [tl_join2] at ih ⊢
    simp only [List.map, TL.joinL] at ih ⊢
    rw [ih, show TL.tl (Str.ofString "") = [] from by decide +kernel]
    simp
theorem joinL_sp : ∀ (x : List Nat) (ys : List (List Nat)), TL.joinL [32] (x :: ys) = x ++ (ys.map fun y => 32 :: y).flatten
  | x, [] => by simp [TL.joinL]
  | x, y :: r => by
    have ih := joinL_sp y r
    simp only [TL.joinL] at ih ⊢
    rw [ih]
    simp
theorem pline_join (n : Str) (bs : List (Int × Int)) : pline n bs = Txt.join sp1 (kP :: n :: bs.map bword) := by
  apply TL.ext_tl
  rw [tl_join2]
  unfold pline
  rw [TL.tl_append, TL.tl_append, TL.tl_append, join_nil_sep, tl_empty, tl_sp1, List.map_cons, joinL_sp, List.map_cons, List.map_cons, List.flatten_cons,
    show TL.tl (Str.ofString "product ") = TL.tl kP ++ [32] from by decide +kernel]
  rw [List.map_map, List.map_map, List.map_map]
  have e : (bs.map (TL.tl ∘ bline)) = bs.map ((fun y => 32 :: y) ∘ (TL.tl ∘ bword)) := by
    apply List.map_congr_left
    intro b _
    show TL.tl (bline b) = 32 :: TL.tl (bword b)
    unfold bline bword
    simp only [TL.tl_append, tl_empty, show TL.tl (Str.ofString " ") = [32] from by decide +kernel, List.nil_append, List.append_assoc, List.cons_append]
  rw [e]
  simp
  rfl
/-- works as they may be, of any size that is let -/
structure GoodF (W : Wd) : Prop where
  m1 : 1 ≤ W.ms.length
  m2 : W.ms.length ≤ 6
  c2 : W.cs.length ≤ 6
  s1 : 1 ≤ W.ss.length
  s2 : W.ss.length ≤ 3
  p1 : 1 ≤ W.ps.length
  p2 : W.ps.length ≤ 8
  mb : ∀ r ∈ W.ms, 0 ≤ r.2.1 ∧ r.2.1 ≤ r.2.2 ∧ r.2.2 ≤ 1000
  cb : ∀ r ∈ W.cs, 0 ≤ r.2.1 ∧ r.2.1 ≤ r.2.2 ∧ r.2.2 ≤ 1000
  sb : ∀ r ∈ W.ss, 0 ≤ r.2 ∧ r.2 ≤ 1000000000000
  pb : ∀ r ∈ W.ps, r.2.length = W.ss.length ∧ ∀ b ∈ r.2, 0 ≤ b.1 ∧ b.1 ≤ b.2 ∧ b.2 ≤ 1000000000000
  nd : (W.ms.map (·.1) ++ (W.cs.map (·.1) ++ (W.ss.map (·.1) ++ W.ps.map (·.1)))).Nodup
  nm : ∀ x ∈ W.ms.map (·.1) ++ (W.cs.map (·.1) ++ (W.ss.map (·.1) ++ W.ps.map (·.1))), isW x = true
theorem isW_8 {x : Str} (h : isW x = true) : x.length ≤ 8 := by
  unfold isW at h
  rw [Bool.and_eq_true, Bool.and_eq_true, decide_eq_true_eq, decide_eq_true_eq] at h
  exact h.2.1
namespace GoodF
variable {W : Wd} (g : GoodF W)
include g
theorem wm {r : Str × Int × Int} (h : r ∈ W.ms) : isW r.1 = true := g.nm _ (List.mem_append_left _ (List.mem_map_of_mem h))
theorem wc {r : Str × Int × Int} (h : r ∈ W.cs) : isW r.1 = true := g.nm _ (List.mem_append_right _ (List.mem_append_left _ (List.mem_map_of_mem h)))
theorem ws {r : Str × Int} (h : r ∈ W.ss) : isW r.1 = true := g.nm _ (List.mem_append_right _ (List.mem_append_right _ (List.mem_append_left _ (List.mem_map_of_mem h))))
theorem wp {r : Str × List (Int × Int)} (h : r ∈ W.ps) : isW r.1 = true := g.nm _ (List.mem_append_right _ (List.mem_append_right _ (List.mem_append_right _ (List.mem_map_of_mem h))))
end GoodF
theorem free_join {c : Nat} {sep : Str} (hs : Free c sep) : ∀ {ys : List Str}, (∀ y ∈ ys, Free c y) → Free c (Txt.join sep ys)
  | [], _ => by
    unfold Free
    rw [tl_join2]
    simp [TL.joinL]
  | [y], h => by
    have := h y (List.mem_cons_self ..)
    unfold Free at this ⊢
    rw [tl_join2]
    simpa [TL.joinL] using this
  | y :: z :: r, h => by
    have ih := free_join hs (ys := z :: r) fun x hx => h x (List.mem_cons_of_mem _ hx)
    have hy := h y (List.mem_cons_self ..)
    unfold Free at ih hy hs ⊢
    rw [tl_join2] at ih ⊢
    simp only [List.map, TL.joinL] at ih ⊢
    intro m
    rcases List.mem_append.mp m with m | m
    · exact hy m
    · rcases List.mem_append.mp m with m | m
      · exact hs m
      · exact ih m
theorem kM_pre : TL.tl (Str.ofString "machine ") = TL.tl kM ++ [32] := by decide +kernel
theorem kC_pre : TL.tl (Str.ofString "cleaning ") = TL.tl kC ++ [32] := by decide +kernel
theorem kS_pre : TL.tl (Str.ofString "stuff ") = TL.tl kS ++ [32] := by decide +kernel
theorem k_free {c : Nat} (h : c < 97 ∨ 122 < c) {k : Str} (hk : k = kM ∨ k = kC ∨ k = kS ∨ k = kP) : Free c k := by
  rcases hk with rfl | rfl | rfl | rfl <;> exact free_name (by decide +kernel) h
/-- the words of the lines -/
def wordsM (k : Str) (r : Str × Int × Int) : List Str := [r.1, num r.2.1, num r.2.2]
def wordsS (r : Str × Int) : List Str := [r.1, num r.2]
def wordsP (r : Str × List (Int × Int)) : List Str := r.1 :: r.2.map bword
theorem bword_free {b : Int × Int} (h : Small b) {c : Nat} (hc : c < 45 ∨ 57 < c) : Free c (bword b) := by
  obtain ⟨s1, s2, s3⟩ := h
  refine free_app (free_app (free_num s1 (by omega)) ?_) (free_num (Int.le_trans s1 s2) (by omega))
  unfold Free
  rw [tl_hy]
  intro m
  have := List.mem_singleton.mp m
  omega
theorem wordsM_free {k : Str} {r : Str × Int × Int} (w : isW r.1 = true) (b : 0 ≤ r.2.1 ∧ r.2.1 ≤ r.2.2 ∧ r.2.2 ≤ 1000) {c : Nat} (hc : c < 48) : ∀ y ∈ wordsM k r, Free c y := by
  intro y hy
  unfold wordsM at hy
  simp only [List.mem_cons, List.not_mem_nil, or_false] at hy
  rcases hy with rfl | rfl | rfl
  · exact free_name w (by omega)
  · exact free_num b.1 (by omega)
  · exact free_num (by omega) (by omega)
theorem wordsS_free {r : Str × Int} (w : isW r.1 = true) (b : 0 ≤ r.2) {c : Nat} (hc : c < 48) : ∀ y ∈ wordsS r, Free c y := by
  intro y hy
  unfold wordsS at hy
  simp only [List.mem_cons, List.not_mem_nil, or_false] at hy
  rcases hy with rfl | rfl
  · exact free_name w (by omega)
  · exact free_num b (by omega)
theorem wordsP_free {r : Str × List (Int × Int)} (w : isW r.1 = true) (b : ∀ x ∈ r.2, Small x) {c : Nat} (hc : c < 45) : ∀ y ∈ wordsP r, Free c y := by
  intro y hy
  unfold wordsP at hy
  rcases List.mem_cons.mp hy with rfl | hy
  · exact free_name w (by omega)
  · obtain ⟨x, hx, rfl⟩ := List.mem_map.mp hy
    exact bword_free (b x hx) (by omega)
theorem sp1_free {c : Nat} (h : c ≠ 32) : Free c sp1 := by
  unfold Free
  rw [tl_sp1]
  exact fun m => h (List.mem_singleton.mp m)
theorem free_cons {c : Nat} {k : Str} {ws : List Str} (hk : Free c k) (h : ∀ y ∈ ws, Free c y) : ∀ y ∈ k :: ws, Free c y := fun y hy => by
  rcases List.mem_cons.mp hy with rfl | hy
  · exact hk
  · exact h y hy
theorem wlines_free {W : Wd} (g : GoodF W) : ∀ y ∈ wlines W, Free 10 y := by
  intro y hy
  unfold wlines at hy
  rcases List.mem_append.mp hy with hy | hy
  · rcases List.mem_append.mp hy with hy | hy
    · rcases List.mem_append.mp hy with hy | hy
      · obtain ⟨r, hr, rfl⟩ := List.mem_map.mp hy
        rw [line3_join kM_pre]
        exact free_join (sp1_free (by decide)) (free_cons (k_free (by omega) (.inl rfl)) (wordsM_free (k := kM) (g.wm hr) (g.mb r hr) (by omega)))
      · obtain ⟨r, hr, rfl⟩ := List.mem_map.mp hy
        rw [line3_join kC_pre]
        exact free_join (sp1_free (by decide)) (free_cons (k_free (by omega) (.inr (.inl rfl))) (wordsM_free (k := kC) (g.wc hr) (g.cb r hr) (by omega)))
    · obtain ⟨r, hr, rfl⟩ := List.mem_map.mp hy
      rw [line2_join kS_pre]
      exact free_join (sp1_free (by decide)) (free_cons (k_free (by omega) (.inr (.inr (.inl rfl)))) (wordsS_free (g.ws hr) (g.sb r hr).1 (by omega)))
  · obtain ⟨r, hr, rfl⟩ := List.mem_map.mp hy
    rw [pline_join]
    exact free_join (sp1_free (by decide)) (free_cons (k_free (by omega) (.inr (.inr (.inr rfl)))) (wordsP_free (g.wp hr) (g.pb r hr).2 (by omega)))
theorem split_text {W : Wd} (g : GoodF W) : Txt.split (wtext W) (Str.ofString "\n") = wlines W := by
  unfold wtext
  refine split_at tl_nl (by decide) (fun z => ?_) (wlines_free g)
  have l := g.m1
  have e := congrArg List.length z
  unfold wlines at e
  rw [List.length_append, List.length_append, List.length_append, List.length_map, List.length_nil] at e
  omega
theorem split_line {k : Str} {ws : List Str} (hk : k = kM ∨ k = kC ∨ k = kS ∨ k = kP) (h : ∀ y ∈ ws, Free 32 y) : Txt.split (Txt.join sp1 (k :: ws)) sp1 = k :: ws :=
  split_at tl_sp1 (by decide) (by simp) (free_cons (k_free (by omega) hk) h)
theorem split_bword {b : Int × Int} (h : Small b) : Txt.split (bword b) (Str.ofString "-") = [num b.1, num b.2] := by
  obtain ⟨s1, s2, s3⟩ := h
  rw [bword_join]
  refine split_at tl_hy (by decide) (by simp) fun y hy => ?_
  simp only [List.mem_cons, List.not_mem_nil, or_false] at hy
  rcases hy with rfl | rfl
  · exact free_num s1 (by omega)
  · exact free_num (Int.le_trans s1 s2) (by omega)
end LJ
set_option Elab.async false
set_option linter.all false
set_option maxRecDepth 100000
set_option maxHeartbeats 8000000
namespace LJ
open PySem PySem.Spec L2
abbrev sPair : Stmt := top 36
abbrev hy : Str := Str.ofString "-"
def spPair : Sp := fun vs H Q _ => ∃ z : Str, vs = [.str z] ∧ z.length ≤ 600 ∧ (∀ p ∈ Txt.split z hy, p.length ≤ 600) ∧ ∀ p H1, Ex H H1 → H p = none → H1 p = some (.tup ((Txt.split z hy).map fun w => optI (rdN w))) → Q (.ref p) H1
theorem split_len2 (z y : Str) : (Txt.split z y).length ≤ z.length + 2 := PyProof.Rows.split_le z y
section
variable {P : Program} {w : World} {K : PySem.W.Frag} {mg : Str → Option Value} {base : Heap}
theorem scPair : FnScope ["word", "part"] ["word"] (defScope sPair) := ⟨rfl, rfl, rfl, by decide +kernel, rfl, by decide +kernel, by decide +kernel⟩
theorem ok_pair {f fN : Addr} {fd fdN : FuncData} (F : Fun K "_read_pair" "_read_pair" sPair f fd) (BT : mg "tuple" = none)
    (GN : FnOk P w K mg base CX0 1 fN fdN ["word"] spNum) (mN : mg "read_number" = some (.ref fN)) (kN : PySem.W.keepIn K (.ref fN) = true) (bN : Binds K fdN ["word"] []) : FnOk P w K mg base CX0 2 f fd ["word"] spPair := by
  refine F.ok scPair (fun vs H Q E h => ?_) (fun cdv A outer s H vs Q E hr h => ?_)
  · obtain ⟨z, rfl, _⟩ := h
    rfl
  · obtain ⟨z, rfl, zl, pl, q⟩ := h
    refine ⟨_, pss_one (ps_ret (pe_tupleOf (by rfl) BT (pe_lc (own := [("part", 1)]) (g := gName 1) (te := tCall spNum [] E0 (tCons (tVar 1) tNil)) (by rfl) scPair.nd (pi_list (pe_split (pv 0) pe_str)) (blkOk_by (own := [("part", 1)]) (N := ["word", "part"]) (sc := defScope sPair) (by decide +kernel))
      (fun _ _ _ _ _ => pg_name (i := 1) scPair.nd rfl (Or.inl rfl)) (fun _ _ _ _ _ => pts_nil) (fun _ _ _ _ _ => pe_call GN hr (by rfl) mN kN bN .nil pass0 (pa_cons (pv 1) pa_nil))))), ?_⟩
    have sz := sizeLine_eq
    have sl := split_len2 z hy
    refine ⟨_, rfl, ⟨_, rfl⟩, _, _, rfl, rfl, by decide +kernel, by omega, fun L nL => ?_⟩
    have x1 : Ex H (upd H L (.lst ((Txt.split z hy).map V.str))) := Ex.refl.new nL
    have e1 : (upd H L (.lst ((Txt.split z hy).map V.str))) L = some (.lst ((Txt.split z hy).map V.str)) := upd_same
    show _
    generalize upd H L (.lst ((Txt.split z hy).map V.str)) = H1 at x1 e1 ⊢
    refine ⟨L, rfl, ⟨_, SqL.of e1⟩, fun D hD => lc_list (K := K) (a := L) (xs := (Txt.split z hy).map V.str) (fun i G => Ex H1 G ∧ G D = some (.lst (((Txt.split z hy).take i).map fun w => optI (rdN w)))) ⟨Ex.refl.new hD, upd_same⟩ (fun i G _ h => SqL.of (h.1 _ _ e1)) ?_ ?_⟩
    · rintro i v G hv ⟨xG, eG⟩
      rw [List.getElem?_map] at hv
      obtain ⟨p, hp, rfl⟩ := Option.map_eq_some_iff.mp hv
      have hm := List.mem_of_getElem? hp
      have li : i < (Txt.split z hy).length := (List.getElem?_eq_some_iff.mp hp).1
      refine ⟨rfl, _, rfl, p, rfl, pl p hm, fun G2 x2 => ⟨_, x2 _ _ eG, ?_, (xG.trans x2).put hD, ?_⟩⟩
      · rw [List.length_map, List.length_take]
        omega
      · rw [upd_same, List.take_succ, hp, List.map_append]
        rfl
    · rintro G ⟨xG, eG⟩
      rw [List.length_map, List.take_of_length_le (Nat.le_refl _)] at eG
      refine .inl ⟨D, _, rfl, SqL.of eG, fun t nt => ?_⟩
      have hn : H t = none := x1.gone (xG.gone nt)
      exact q t _ (x1.trans (xG.trans (Ex.refl.new nt))) hn upd_same
end
end LJ
set_option Elab.async false
set_option linter.all false
set_option maxRecDepth 100000
set_option maxHeartbeats 8000000
namespace LJ
open PySem PySem.Spec L2
abbrev sRow : Stmt := top 35
theorem cut_take1 (xs : List V) : cutV xs none (some 1) = xs.take 1 := by
  unfold cutV HT.sIx
  cases xs with
  | nil => rfl
  | cons a r =>
    show List.take (min (1 : Int).toNat (r.length + 1) - 0) (List.drop 0 (a :: r)) = _
    rw [show (1 : Int).toNat = 1 from rfl, Nat.min_eq_left (by omega)]
    rfl
theorem cut_drop1 (xs : List V) : cutV xs (some 1) none = xs.drop 1 := by
  unfold cutV HT.sIx
  cases xs with
  | nil => rfl
  | cons a r =>
    show List.take (r.length + 1 - min (1 : Int).toNat (r.length + 1)) (List.drop (min (1 : Int).toNat (r.length + 1)) (a :: r)) = _
    rw [show (1 : Int).toNat = 1 from rfl, Nat.min_eq_left (by omega)]
    show List.take (r.length + 1 - 1) r = r
    exact List.take_of_length_le (by omega)
def PairAt (H : Hp) (v : V) (z : Str) : Prop := ∃ a, v = .ref a ∧ H a = some (.tup ((Txt.split z hy).map fun p => optI (rdN p)))
theorem PairAt.ex {H H1 : Hp} {v : V} {z : Str} (e : Ex H H1) (h : PairAt H v z) : PairAt H1 v z := by
  obtain ⟨a, h1, h2⟩ := h
  exact ⟨a, h1, e _ _ h2⟩
def numsOf (zs : List Str) : List V := zs.map fun p => optI (rdN p)
/-- words that are short, with their parts -/
def Short (z : Str) : Prop := z.length ≤ 600 ∧ ∀ p ∈ Txt.split z hy, p.length ≤ 600
def spRd : Sp := fun vs H Q _ => ∃ (k : Str) (a : Addr) (zs : List Str), vs = [.str k, .ref a] ∧ H a = some (.lst (zs.map V.str)) ∧ zs.length ≤ 1000 ∧ (∀ z ∈ zs, Short z) ∧
  (k = kP → ∀ (t b : Addr) (vals : List V) (H1 : Hp), Ex H H1 → H b = none → H1 b = some (.tup ((zs.take 1).map V.str ++ [.ref t])) → H1 t = some (.tup vals) → Paired (PairAt H1) vals (zs.drop 1) → Q (.ref b) H1) ∧
  (k ≠ kP → ∀ (b : Addr) (H1 : Hp), Ex H H1 → H b = none → H1 b = some (.tup ((zs.take 1).map V.str ++ numsOf (zs.drop 1))) → Q (.ref b) H1)
section
variable {P : Program} {w : World} {K : PySem.W.Frag} {mg : Str → Option Value} {base : Heap}
theorem scRd : FnScope ["kind", "words", "word"] ["kind", "words"] (defScope sRow) := ⟨rfl, rfl, rfl, by decide +kernel, rfl, by decide +kernel, by decide +kernel⟩
theorem ok_row {f fN fP : Addr} {fd fdN fdP : FuncData} (F : Fun K "_read_row" "_read_row" sRow f fd) (BT : mg "tuple" = none)
    (GN : FnOk P w K mg base CX0 1 fN fdN ["word"] spNum) (mN : mg "read_number" = some (.ref fN)) (kN : PySem.W.keepIn K (.ref fN) = true) (bN : Binds K fdN ["word"] [])
    (GP : FnOk P w K mg base CX0 2 fP fdP ["word"] spPair) (mP : mg "_read_pair" = some (.ref fP)) (kPP : PySem.W.keepIn K (.ref fP) = true) (bP : Binds K fdP ["word"] []) : FnOk P w K mg base CX0 3 f fd ["kind", "words"] spRd := by
  refine F.ok scRd (fun vs H Q E h => ?_) (fun cdv A outer s H vs Q E hr h => ?_)
  · obtain ⟨k, a, zs, rfl, _⟩ := h
    rfl
  · obtain ⟨k, a, zs, rfl, ha, zl, sh, q1, q2⟩ := h
    have hr1 : Room 1 _ := hr.mono (by decide)
    refine ⟨_, pss_cons (ps_if (pt_cmpR op_eq (pv 0) pe_str (nomark _)) (pss_one (ps_ret (pe_tupleOf (by rfl) BT (pe_op op_cat (pe_slice sl_list (pv 1) po_none (po_some pe_int)) (pe_lst (pa_cons (pe_tupleOf (by rfl) BT
        (pe_lc (own := [("word", 2)]) (g := gName 2) (te := tCall spPair [] E0 (tCons (tVar 2) tNil)) (by rfl) scRd.nd (pi_list (pe_slice sl_list (pv 1) (po_some pe_int) po_none)) (blkOk_by (own := [("word", 2)]) (N := ["kind", "words", "word"]) (sc := defScope sRow) (by decide +kernel))
      (fun _ _ _ _ _ => pg_name (i := 2) scRd.nd rfl (Or.inl rfl)) (fun _ _ _ _ _ => pts_nil) (fun _ _ _ _ _ => pe_call GP hr (by rfl) mP kPP bP .nil pass0 (pa_cons (pv 2) pa_nil)))) pa_nil)))))) pss_nil)
      (pss_one (ps_ret (pe_tupleOf (by rfl) BT (pe_op op_cat (pe_slice sl_list (pv 1) po_none (po_some pe_int))
        (pe_lc (own := [("word", 2)]) (g := gName 2) (te := tCall spNum [] E0 (tCons (tVar 2) tNil)) (by rfl) scRd.nd (pi_list (pe_slice sl_list (pv 1) (po_some pe_int) po_none)) (blkOk_by (own := [("word", 2)]) (N := ["kind", "words", "word"]) (sc := defScope sRow) (by decide +kernel))
      (fun _ _ _ _ _ => pg_name (i := 2) scRd.nd rfl (Or.inl rfl)) (fun _ _ _ _ _ => pts_nil) (fun _ _ _ _ _ => pe_call GN hr1 (by rfl) mN kN bN .nil pass0 (pa_cons (pv 2) pa_nil))))))), ?_⟩
    have sz := sizeLine_eq
    refine ⟨_, rfl, rfl, _, rfl, ?_⟩
    have dm : ∀ z ∈ zs.drop 1, z ∈ zs := fun z hz => List.mem_of_mem_drop hz
    have dl : (zs.drop 1).length ≤ 1000 := by rw [List.length_drop]; omega
    refine ite2 (fun c1 => ?_) (fun c1 => ?_)
    · have ek : k = kP := V.str.inj (of_decide_eq_true c1)
      refine ⟨_, rfl, 1, rfl, a, _, rfl, SqL.of ha, fun p1 n1 => ?_⟩
      rw [cut_take1, ← List.map_take]
      have x1 : Ex H (upd H p1 (.lst ((zs.take 1).map V.str))) := Ex.refl.new n1
      have e1 : (upd H p1 (.lst ((zs.take 1).map V.str))) p1 = some (.lst ((zs.take 1).map V.str)) := upd_same
      generalize upd H p1 (.lst ((zs.take 1).map V.str)) = H1 at x1 e1 ⊢
      refine ⟨_, rfl, 1, rfl, a, _, rfl, SqL.of (x1 _ _ ha), fun p2 n2 => ?_⟩
      rw [cut_drop1, ← List.map_drop]
      have x2 : Ex H1 (upd H1 p2 (.lst ((zs.drop 1).map V.str))) := Ex.refl.new n2
      have e2 : (upd H1 p2 (.lst ((zs.drop 1).map V.str))) p2 = some (.lst ((zs.drop 1).map V.str)) := upd_same
      generalize upd H1 p2 (.lst ((zs.drop 1).map V.str)) = H2 at x2 e2 ⊢
      refine ⟨p2, rfl, ⟨_, SqL.of e2⟩, fun D hD => lc_list (K := K) (a := p2) (xs := (zs.drop 1).map V.str) (fun i G => Ex H2 G ∧ ∃ vals, G D = some (.lst vals) ∧ Paired (PairAt G) vals ((zs.drop 1).take i)) ⟨Ex.refl.new hD, [], upd_same, .nil⟩ (fun i G _ h => SqL.of (h.1 _ _ e2)) ?_ ?_⟩
      · rintro i v G hv ⟨xG, vals, eG, pG⟩
        rw [List.getElem?_map] at hv
        obtain ⟨z, hz, rfl⟩ := Option.map_eq_some_iff.mp hv
        have hm := dm z (List.mem_of_getElem? hz)
        have li : i < (zs.drop 1).length := (List.getElem?_eq_some_iff.mp hz).1
        have vl := Paired.size pG
        rw [List.length_take] at vl
        refine ⟨rfl, _, rfl, z, rfl, (sh z hm).1, (sh z hm).2, fun p G2 xG2 np eP => ⟨_, xG2 _ _ eG, by omega, (xG.trans xG2).put hD, vals ++ [.ref p], upd_same, ?_⟩⟩
        rw [List.take_succ, hz]
        have x3 : Ex G2 (upd G2 D (.lst (vals ++ [.ref p]))) → True := fun _ => trivial
        have far : ∀ b xs, G2 b = some (.tup xs) → (upd G2 D (.lst (vals ++ [.ref p]))) b = some (.tup xs) := fun b xs e => by
          rw [upd_ne (ne_of e (xG2 _ _ eG) fun z => nomatch z)]
          exact e
        refine Paired.snoc (L2.Paired.mapP pG fun v z h => ?_) ⟨p, rfl, far _ _ eP⟩
        obtain ⟨b, h1, h2⟩ := h
        exact ⟨b, h1, far _ _ (xG2 _ _ h2)⟩
      · rintro G ⟨xG, vals, eG, pG⟩
        rw [List.length_map, List.take_of_length_le (Nat.le_refl _)] at pG
        have vl := Paired.size pG
        refine .inl ⟨D, _, rfl, SqL.of eG, fun t nt => ?_⟩
        have x3 : Ex G (upd G t (.tup vals)) := Ex.refl.new nt
        have e3 : (upd G t (.tup vals)) t = some (.tup vals) := upd_same
        generalize upd G t (.tup vals) = G1 at x3 e3 ⊢
        refine ⟨by rw [sz]; show 1 ≤ 16777216; decide, fun l nl => ?_⟩
        have x4 : Ex G1 (upd G1 l (.lst [.ref t])) := Ex.refl.new nl
        have e4 : (upd G1 l (.lst [.ref t])) l = some (.lst [.ref t]) := upd_same
        generalize upd G1 l (.lst [.ref t]) = G2 at x4 e4 ⊢
        have y4 := x2.trans (xG.trans (x3.trans x4))
        refine ⟨p1, l, _, _, rfl, rfl, y4 _ _ e1, e4, by rw [List.length_map, List.length_take, sz]; simp; omega, fun l2 nl2 => ?_⟩
        refine .inl ⟨l2, _, rfl, SqL.of upd_same, fun b nb => ?_⟩
        have x5 : Ex G2 (upd (upd G2 l2 (.lst ((zs.take 1).map V.str ++ [.ref t]))) b (.tup ((zs.take 1).map V.str ++ [.ref t]))) := (Ex.refl.new nl2).trans (Ex.refl.new nb)
        have e5 : (upd (upd G2 l2 (.lst ((zs.take 1).map V.str ++ [.ref t]))) b (.tup ((zs.take 1).map V.str ++ [.ref t]))) b = some (.tup ((zs.take 1).map V.str ++ [.ref t])) := upd_same
        have hb : H b = none := x1.gone (y4.gone ((Ex.refl.new nl2).gone nb))
        generalize upd (upd G2 l2 (.lst ((zs.take 1).map V.str ++ [.ref t]))) b (.tup ((zs.take 1).map V.str ++ [.ref t])) = G3 at x5 e5 ⊢
        exact q1 ek t b vals G3 (x1.trans (y4.trans x5)) hb e5 (x5 _ _ (x4 _ _ e3)) (L2.Paired.mapP pG fun v z h => h.ex (x3.trans (x4.trans x5)))
    · have ek : k ≠ kP := fun z => c1 (decide_eq_true (by rw [z]; rfl))
      refine ⟨_, rfl, 1, rfl, a, _, rfl, SqL.of ha, fun p1 n1 => ?_⟩
      rw [cut_take1, ← List.map_take]
      have x1 : Ex H (upd H p1 (.lst ((zs.take 1).map V.str))) := Ex.refl.new n1
      have e1 : (upd H p1 (.lst ((zs.take 1).map V.str))) p1 = some (.lst ((zs.take 1).map V.str)) := upd_same
      generalize upd H p1 (.lst ((zs.take 1).map V.str)) = H1 at x1 e1 ⊢
      refine ⟨_, rfl, 1, rfl, a, _, rfl, SqL.of (x1 _ _ ha), fun p2 n2 => ?_⟩
      rw [cut_drop1, ← List.map_drop]
      have x2 : Ex H1 (upd H1 p2 (.lst ((zs.drop 1).map V.str))) := Ex.refl.new n2
      have e2 : (upd H1 p2 (.lst ((zs.drop 1).map V.str))) p2 = some (.lst ((zs.drop 1).map V.str)) := upd_same
      generalize upd H1 p2 (.lst ((zs.drop 1).map V.str)) = H2 at x2 e2 ⊢
      refine ⟨p2, rfl, ⟨_, SqL.of e2⟩, fun D hD => lc_list (K := K) (a := p2) (xs := (zs.drop 1).map V.str) (fun i G => Ex H2 G ∧ G D = some (.lst (numsOf ((zs.drop 1).take i)))) ⟨Ex.refl.new hD, upd_same⟩ (fun i G _ h => SqL.of (h.1 _ _ e2)) ?_ ?_⟩
      · rintro i v G hv ⟨xG, eG⟩
        rw [List.getElem?_map] at hv
        obtain ⟨z, hz, rfl⟩ := Option.map_eq_some_iff.mp hv
        have hm := dm z (List.mem_of_getElem? hz)
        have li : i < (zs.drop 1).length := (List.getElem?_eq_some_iff.mp hz).1
        refine ⟨rfl, _, rfl, z, rfl, (sh z hm).1, fun G2 xG2 => ⟨_, xG2 _ _ eG, ?_, (xG.trans xG2).put hD, ?_⟩⟩
        · unfold numsOf
          rw [List.length_map, List.length_take]
          omega
        · unfold numsOf
          rw [upd_same, List.take_succ, hz, List.map_append]
          rfl
      · rintro G ⟨xG, eG⟩
        rw [List.length_map, List.take_of_length_le (Nat.le_refl _)] at eG
        have y4 := x2.trans xG
        refine ⟨p1, D, _, _, rfl, rfl, y4 _ _ e1, eG, by unfold numsOf; rw [List.length_map, List.length_take, List.length_map, sz]; omega, fun l2 nl2 => ?_⟩
        refine .inl ⟨l2, _, rfl, SqL.of upd_same, fun b nb => ?_⟩
        have x5 : Ex G (upd (upd G l2 (.lst ((zs.take 1).map V.str ++ numsOf (zs.drop 1)))) b (.tup ((zs.take 1).map V.str ++ numsOf (zs.drop 1)))) := (Ex.refl.new nl2).trans (Ex.refl.new nb)
        have hb : H b = none := x1.gone (y4.gone ((Ex.refl.new nl2).gone nb))
        exact q2 ek b _ (x1.trans (y4.trans x5)) hb upd_same
end
end LJ
set_option Elab.async false
set_option linter.all false
set_option maxRecDepth 100000
set_option maxHeartbeats 8000000
namespace LJ
open PySem PySem.Spec L2
/-! All works that may be fit. -/
theorem Good.F {W : Wd} (g : Good W) : GoodF W := ⟨g.m1, g.m2, by have := g.c2; omega, g.s1, by have := g.s2; omega, g.p1, by have := g.p2; omega, g.mb, g.cb, g.sb, g.pb, g.nd, fun x hx => menu_w x (g.nm x hx)⟩
section
variable {K : PySem.W.Frag} {H : Hp}
theorem goodF_fit {am ac as ap : Addr} {vm vc vs2 vp : List V} {W : Wd} (g : GoodF W) (hm : H am = some (.tup vm)) (hc : H ac = some (.tup vc)) (hs : H as = some (.tup vs2)) (hp : H ap = some (.tup vp))
    (pm : Paired (Row3 H) vm W.ms) (pc : Paired (Row3 H) vc W.cs) (ps : Paired (Row2 H) vs2 W.ss) (pp : Paired (RowP H) vp W.ps) : Fit K H am ac as ap vm vc vs2 vp := by
  have l1 : vm.length = W.ms.length := Paired.size pm
  have l2 : vc.length = W.cs.length := Paired.size pc
  have l3 : vs2.length = W.ss.length := Paired.size ps
  have l4 : vp.length = W.ps.length := Paired.size pp
  have g1 := g.m1
  have g2 := g.m2
  have g3 := g.c2
  have g4 := g.s1
  have g5 := g.s2
  have g6 := g.p1
  have g7 := g.p2
  have im : ∀ r ∈ W.ms, isW r.1 = true := fun r hr => g.wm hr
  have ic : ∀ r ∈ W.cs, isW r.1 = true := fun r hr => g.wc hr
  have is : ∀ r ∈ W.ss, isW r.1 = true := fun r hr => g.ws hr
  have ip : ∀ r ∈ W.ps, isW r.1 = true := fun r hr => g.wp hr
  have em : vm.map (nameOf H) = W.ms.map (·.1) := paired_nm (fun v r h => row3_name h) pm
  have ec : vc.map (nameOf H) = W.cs.map (·.1) := paired_nm (fun v r h => row3_name h) pc
  have es : vs2.map (nameOf H) = W.ss.map (·.1) := paired_nm (fun v r h => row2_name h) ps
  have ep : vp.map (nameOf H) = W.ps.map (·.1) := paired_nm (fun v r h => rowP_name h) pp
  have nd := g.nd
  have nd3 : ((W.ms.map (·.1) ++ W.cs.map (·.1)) ++ W.ss.map (·.1) ++ W.ps.map (·.1)).Nodup := by
    rw [List.append_assoc, List.append_assoc]
    exact nd
  have nd2 : ((W.ms.map (·.1) ++ W.cs.map (·.1)) ++ W.ss.map (·.1)).Nodup := (List.nodup_append.mp nd3).1
  have nd1 : (W.ms.map (·.1) ++ W.cs.map (·.1)).Nodup := (List.nodup_append.mp nd2).1
  have nd0 : (W.ms.map (·.1)).Nodup := (List.nodup_append.mp nd1).1
  refine ⟨hm, hc, hs, hp, deep_tup hm (by omega) fun v hv => ?_, deep_tup hc (by omega) fun v hv => ?_, deep_tup hs (by omega) fun v hv => ?_, deep_tup hp (by omega) fun v hv => ?_, by omega, by omega, by omega, ?_, ?_, ?_, ?_⟩
  · obtain ⟨r, hr, h⟩ := paired_mem pm v hv
    exact row3_deep h (isW_8 (im r hr))
  · obtain ⟨r, hr, h⟩ := paired_mem pc v hv
    exact row3_deep h (isW_8 (ic r hr))
  · obtain ⟨r, hr, h⟩ := paired_mem ps v hv
    exact row2_deep h (isW_8 (is r hr))
  · obtain ⟨r, hr, h⟩ := paired_mem pp v hv
    exact rowP_deep h (isW_8 (ip r hr)) (by have := (g.pb r hr).1; omega)
  · refine fwAt_none (fun v hv => ?_) (by omega) (by rw [em]; exact nd0)
    obtain ⟨r, hr, h⟩ := paired_mem pm v hv
    obtain ⟨a, b, c⟩ := g.mb r hr
    exact row3_right h (im r hr) a b c
  · refine fwAt_none (fun v hv => ?_) (by omega) (by rw [em, ec]; exact nd1)
    obtain ⟨r, hr, h⟩ := paired_mem pc v hv
    obtain ⟨a, b, c⟩ := g.cb r hr
    exact row3_right h (ic r hr) a b c
  · refine fwAt_none (fun v hv => ?_) (by omega) (by rw [List.map_append, em, ec, es]; exact nd2)
    obtain ⟨r, hr, h⟩ := paired_mem ps v hv
    obtain ⟨a, b⟩ := g.sb r hr
    exact row2_right h (is r hr) a b
  · refine fwAt_none (fun v hv => ?_) (by omega) (by rw [List.map_append, List.map_append, em, ec, es, ep]; exact nd3)
    obtain ⟨r, hr, h⟩ := paired_mem pp v hv
    obtain ⟨a, b⟩ := g.pb r hr
    exact rowP_right h (ip r hr) (by omega) b
theorem goodF_told {W : Wd} (g : GoodF W) : Told W := by
  have g2 := g.m2
  have g3 := g.c2
  have g5 := g.s2
  have g7 := g.p2
  refine ⟨by omega, by omega, by omega, by omega, fun r hr => ?_, fun r hr => ?_, fun r hr => ?_, fun r hr => ?_⟩
  · obtain ⟨a, b, c⟩ := g.mb r hr
    exact ⟨isW_8 (g.wm hr), a, b, by omega⟩
  · obtain ⟨a, b, c⟩ := g.cb r hr
    exact ⟨isW_8 (g.wc hr), a, b, by omega⟩
  · obtain ⟨a, b⟩ := g.sb r hr
    exact ⟨isW_8 (g.ws hr), a, b⟩
  · obtain ⟨a, b⟩ := g.pb r hr
    exact ⟨isW_8 (g.wp hr), by omega, b⟩
end
end LJ
set_option Elab.async false
set_option linter.all false
set_option maxRecDepth 100000
set_option maxHeartbeats 8000000
namespace LJ
open PySem PySem.Spec L2
/-! The lines of told works, one by one. -/
inductive Ln where
  | m (r : Str × Int × Int)
  | c (r : Str × Int × Int)
  | s (r : Str × Int)
  | p (r : Str × List (Int × Int))
def lns (W : Wd) : List Ln := W.ms.map .m ++ W.cs.map .c ++ W.ss.map .s ++ W.ps.map .p
def lnK : Ln → Str
  | .m _ => kM
  | .c _ => kC
  | .s _ => kS
  | .p _ => kP
def lnW : Ln → List Str
  | .m r => [r.1, num r.2.1, num r.2.2]
  | .c r => [r.1, num r.2.1, num r.2.2]
  | .s r => [r.1, num r.2]
  | .p r => r.1 :: r.2.map bword
def lnT (x : Ln) : Str := Txt.join sp1 (lnK x :: lnW x)
def getM : Ln → Option (Str × Int × Int)
  | .m r => some r
  | _ => none
def getC : Ln → Option (Str × Int × Int)
  | .c r => some r
  | _ => none
def getS : Ln → Option (Str × Int)
  | .s r => some r
  | _ => none
def getP : Ln → Option (Str × List (Int × Int))
  | .p r => some r
  | _ => none
theorem lns_text (W : Wd) : wlines W = (lns W).map lnT := by
  unfold wlines lns
  rw [List.map_append, List.map_append, List.map_append, List.map_map, List.map_map, List.map_map, List.map_map]
  rw [show (W.ms.map (line3 (Str.ofString "machine "))) = W.ms.map (lnT ∘ Ln.m) from List.map_congr_left fun r _ => line3_join kM_pre r,
    show (W.cs.map (line3 (Str.ofString "cleaning "))) = W.cs.map (lnT ∘ Ln.c) from List.map_congr_left fun r _ => line3_join kC_pre r,
    show (W.ss.map (line2 (Str.ofString "stuff "))) = W.ss.map (lnT ∘ Ln.s) from List.map_congr_left fun r _ => line2_join kS_pre r,
    show (W.ps.map fun p => pline p.1 p.2) = W.ps.map (lnT ∘ Ln.p) from List.map_congr_left fun r _ => pline_join r.1 r.2]
theorem fm_none {α β : Type} {f : α → Ln} {g : Ln → Option β} (h : ∀ a, g (f a) = none) : ∀ xs : List α, (xs.map f).filterMap g = []
  | [] => rfl
  | x :: xs => by rw [List.map_cons, List.filterMap_cons, h x, fm_none h xs]
theorem fm_some {α : Type} {f : α → Ln} {g : Ln → Option α} (h : ∀ a, g (f a) = some a) : ∀ xs : List α, (xs.map f).filterMap g = xs
  | [] => rfl
  | x :: xs => by rw [List.map_cons, List.filterMap_cons, h x, fm_some h xs]
theorem lns_m (W : Wd) : (lns W).filterMap getM = W.ms := by
  unfold lns
  rw [List.filterMap_append, List.filterMap_append, List.filterMap_append, fm_some (f := Ln.m) (g := getM) (fun _ => rfl), fm_none (f := Ln.c) (g := getM) (fun _ => rfl), fm_none (f := Ln.s) (g := getM) (fun _ => rfl), fm_none (f := Ln.p) (g := getM) (fun _ => rfl)]
  simp
theorem lns_c (W : Wd) : (lns W).filterMap getC = W.cs := by
  unfold lns
  rw [List.filterMap_append, List.filterMap_append, List.filterMap_append, fm_none (f := Ln.m) (g := getC) (fun _ => rfl), fm_some (f := Ln.c) (g := getC) (fun _ => rfl), fm_none (f := Ln.s) (g := getC) (fun _ => rfl), fm_none (f := Ln.p) (g := getC) (fun _ => rfl)]
  simp
theorem lns_s (W : Wd) : (lns W).filterMap getS = W.ss := by
  unfold lns
  rw [List.filterMap_append, List.filterMap_append, List.filterMap_append, fm_none (f := Ln.m) (g := getS) (fun _ => rfl), fm_none (f := Ln.c) (g := getS) (fun _ => rfl), fm_some (f := Ln.s) (g := getS) (fun _ => rfl), fm_none (f := Ln.p) (g := getS) (fun _ => rfl)]
  simp
theorem lns_p (W : Wd) : (lns W).filterMap getP = W.ps := by
  unfold lns
  rw [List.filterMap_append, List.filterMap_append, List.filterMap_append, fm_none (f := Ln.m) (g := getP) (fun _ => rfl), fm_none (f := Ln.c) (g := getP) (fun _ => rfl), fm_none (f := Ln.s) (g := getP) (fun _ => rfl), fm_some (f := Ln.p) (g := getP) (fun _ => rfl)]
  simp
/-- a line as it may be -/
def lnOk : Ln → Prop
  | .m r => isW r.1 = true ∧ 0 ≤ r.2.1 ∧ r.2.1 ≤ r.2.2 ∧ r.2.2 ≤ 1000
  | .c r => isW r.1 = true ∧ 0 ≤ r.2.1 ∧ r.2.1 ≤ r.2.2 ∧ r.2.2 ≤ 1000
  | .s r => isW r.1 = true ∧ 0 ≤ r.2 ∧ r.2 ≤ 1000000000000
  | .p r => isW r.1 = true ∧ r.2.length ≤ 3 ∧ ∀ b ∈ r.2, Small b
theorem lns_ok {W : Wd} (g : GoodF W) : ∀ x ∈ lns W, lnOk x := by
  intro x hx
  unfold lns at hx
  rcases List.mem_append.mp hx with hx | hx
  · rcases List.mem_append.mp hx with hx | hx
    · rcases List.mem_append.mp hx with hx | hx
      · obtain ⟨r, hr, rfl⟩ := List.mem_map.mp hx
        exact ⟨g.wm hr, g.mb r hr⟩
      · obtain ⟨r, hr, rfl⟩ := List.mem_map.mp hx
        exact ⟨g.wc hr, g.cb r hr⟩
    · obtain ⟨r, hr, rfl⟩ := List.mem_map.mp hx
      exact ⟨g.ws hr, g.sb r hr⟩
  · obtain ⟨r, hr, rfl⟩ := List.mem_map.mp hx
    have h := g.pb r hr
    have := g.s2
    exact ⟨g.wp hr, by omega, h.2⟩
theorem lnK_is (x : Ln) : lnK x = kM ∨ lnK x = kC ∨ lnK x = kS ∨ lnK x = kP := by
  cases x
  · exact .inl rfl
  · exact .inr (.inl rfl)
  · exact .inr (.inr (.inl rfl))
  · exact .inr (.inr (.inr rfl))
theorem lnW_free {x : Ln} (h : lnOk x) : ∀ y ∈ lnW x, Free 32 y := by
  cases x with
  | m r => exact wordsM_free (k := kM) h.1 h.2 (by omega)
  | c r => exact wordsM_free (k := kC) h.1 h.2 (by omega)
  | s r => exact wordsS_free h.1 h.2.1 (by omega)
  | p r => exact wordsP_free h.1 h.2.2 (by omega)
theorem split_ln {x : Ln} (h : lnOk x) : Txt.split (lnT x) sp1 = lnK x :: lnW x := split_line (lnK_is x) (lnW_free h)
theorem split_one {z : Str} (h : Free 45 z) : Txt.split z hy = [z] := by
  have e : z = Txt.join hy [z] := TL.ext_tl (by
    rw [tl_join2]
    rfl)
  have := split_at (sep := hy) (c := 45) tl_hy (by decide) (ys := [z]) (by simp) (fun y m => by
    rw [List.mem_singleton.mp m]
    exact h)
  rw [← e] at this
  exact this
theorem short_free {z : Str} (l : z.length ≤ 600) (h : Free 45 z) : Short z := ⟨l, fun p hp => by
  rw [split_one h] at hp
  rw [List.mem_singleton.mp hp]
  exact l⟩
theorem bword_len {b : Int × Int} (h : Small b) : (bword b).length ≤ 30 := by
  obtain ⟨s1, s2, s3⟩ := h
  have l1 := num_len s1 (Int.le_trans s2 s3)
  have l2 := num_len (Int.le_trans s1 s2) s3
  unfold bword
  rw [Str.length_append, Str.length_append, show (Str.ofString "-").length = 1 by decide +kernel]
  omega
theorem short_bword {b : Int × Int} (h : Small b) : Short (bword b) := by
  have l := bword_len h
  refine ⟨by omega, fun p hp => ?_⟩
  rw [split_bword h] at hp
  obtain ⟨s1, s2, s3⟩ := h
  have l1 := num_len s1 (Int.le_trans s2 s3)
  have l2 := num_len (Int.le_trans s1 s2) s3
  simp only [List.mem_cons, List.not_mem_nil, or_false] at hp
  rcases hp with rfl | rfl <;> omega
theorem short_name {z : Str} (h : isW z = true) : Short z := short_free (by have := isW_8 h; omega) (free_name h (by omega))
theorem short_num {i : Int} (h0 : 0 ≤ i) (h1 : i ≤ 1000000000000) : Short (num i) := short_free (by have := num_len h0 h1; omega) (free_num h0 (by omega))
theorem lnW_short {x : Ln} (h : lnOk x) : ∀ y ∈ lnW x, Short y := by
  intro y hy
  cases x with
  | m r =>
    obtain ⟨h1, h2, h3, h4⟩ := h
    simp only [lnW, List.mem_cons, List.not_mem_nil, or_false] at hy
    rcases hy with rfl | rfl | rfl
    · exact short_name h1
    · exact short_num h2 (by omega)
    · exact short_num (by omega) (by omega)
  | c r =>
    obtain ⟨h1, h2, h3, h4⟩ := h
    simp only [lnW, List.mem_cons, List.not_mem_nil, or_false] at hy
    rcases hy with rfl | rfl | rfl
    · exact short_name h1
    · exact short_num h2 (by omega)
    · exact short_num (by omega) (by omega)
  | s r =>
    obtain ⟨h1, h2, h3⟩ := h
    simp only [lnW, List.mem_cons, List.not_mem_nil, or_false] at hy
    rcases hy with rfl | rfl
    · exact short_name h1
    · exact short_num h2 h3
  | p r =>
    obtain ⟨h1, h2, h3⟩ := h
    simp only [lnW] at hy
    rcases List.mem_cons.mp hy with rfl | hy
    · exact short_name h1
    · obtain ⟨b, hb, rfl⟩ := List.mem_map.mp hy
      exact short_bword (h3 b hb)
theorem lnW_len {x : Ln} (h : lnOk x) : (lnW x).length ≤ 4 := by
  cases x with
  | m r => exact (by decide : 3 ≤ 4)
  | c r => exact (by decide : 3 ≤ 4)
  | s r => exact (by decide : 2 ≤ 4)
  | p r =>
    have := h.2.1
    show (r.1 :: r.2.map bword).length ≤ 4
    rw [List.length_cons, List.length_map]
    omega
theorem pair_bnd {H : Hp} {v : V} {b : Int × Int} (s : Small b) (h : PairAt H v (bword b)) : Bnd H v b := by
  obtain ⟨a, rfl, e⟩ := h
  obtain ⟨s1, s2, s3⟩ := s
  rw [split_bword ⟨s1, s2, s3⟩, List.map_cons, List.map_cons, List.map_nil, rdN_num s1, rdN_num (Int.le_trans s1 s2)] at e
  exact ⟨a, rfl, e⟩
theorem pairs_bnds {H : Hp} : ∀ {vs : List V} {bs : List (Int × Int)}, (∀ b ∈ bs, Small b) → Paired (PairAt H) vs (bs.map bword) → Paired (Bnd H) vs bs
  | [], [], _, _ => .nil
  | v :: vs, b :: bs, s, .cons h t => .cons (pair_bnd (s b (List.mem_cons_self ..)) h) (pairs_bnds (fun x hx => s x (List.mem_cons_of_mem _ hx)) t)
end LJ
set_option Elab.async false
set_option linter.all false
set_option maxRecDepth 100000
set_option maxHeartbeats 8000000
namespace LJ
open PySem PySem.Spec L2
open LamX (ExtN)
open NdefX (NTab TabsN)
def rowsK (l0 l1 l2 l3 : Addr) : List (Key × V) := [(.inr kM, .ref l0), (.inr kC, .ref l1), (.inr kS, .ref l2), (.inr kP, .ref l3)]
theorem rk0 {l0 l1 l2 l3 : Addr} : valV (rowsK l0 l1 l2 l3) (.inr kM) = some (.ref l0) := by
  unfold rowsK valV
  rfl
theorem rk1 {l0 l1 l2 l3 : Addr} : valV (rowsK l0 l1 l2 l3) (.inr kC) = some (.ref l1) := by
  unfold rowsK valV
  rfl
theorem rk2 {l0 l1 l2 l3 : Addr} : valV (rowsK l0 l1 l2 l3) (.inr kS) = some (.ref l2) := by
  unfold rowsK valV
  rfl
theorem rk3 {l0 l1 l2 l3 : Addr} : valV (rowsK l0 l1 l2 l3) (.inr kP) = some (.ref l3) := by
  unfold rowsK valV
  rfl
def LstOf {α : Type} (R : Hp → V → α → Prop) (G : Hp) (l : Addr) (xs : List α) : Prop := ∃ v, G l = some (.lst v) ∧ Paired (R G) v xs
/-- the rows read so far -/
structure RwS (H G : Hp) (dr l0 l1 l2 l3 : Addr) (pre : List Ln) : Prop where
  ex : Ex H G
  d : G dr = some (.dK (rowsK l0 l1 l2 l3))
  n0 : H l0 = none
  n1 : H l1 = none
  n2 : H l2 = none
  n3 : H l3 = none
  e01 : l0 ≠ l1
  e02 : l0 ≠ l2
  e03 : l0 ≠ l3
  e12 : l1 ≠ l2
  e13 : l1 ≠ l3
  e23 : l2 ≠ l3
  p0 : LstOf Row3 G l0 (pre.filterMap getM)
  p1 : LstOf Row3 G l1 (pre.filterMap getC)
  p2 : LstOf Row2 G l2 (pre.filterMap getS)
  p3 : LstOf RowP G l3 (pre.filterMap getP)
/-- a relation that tuples alone carry -/
def ByTup {α : Type} (R : Hp → V → α → Prop) : Prop := ∀ (H H1 : Hp) (v : V) (x : α), Tup H H1 → R H v x → R H1 v x
theorem bt3 : ByTup Row3 := fun _ _ _ _ t h => Row3.seq t h
theorem bt2 : ByTup Row2 := fun _ _ _ _ t h => Row2.seq t h
theorem btP : ByTup RowP := fun _ _ _ _ t h => RowP.seq t h
theorem LstOf.far {α : Type} {R : Hp → V → α → Prop} (b : ByTup R) {G : Hp} {l m : Addr} {xs : List α} {ys zs : List V} (ne : l ≠ m) (hm : G m = some (.lst ys)) (h : LstOf R G l xs) : LstOf R (upd G m (.lst zs)) l xs := by
  obtain ⟨v, h1, h2⟩ := h
  exact ⟨v, by rw [upd_ne ne]; exact h1, L2.Paired.mapP h2 fun _ _ z => b _ _ _ _ (Tup.put hm) z⟩
theorem LstOf.add {α : Type} {R : Hp → V → α → Prop} (b : ByTup R) {G : Hp} {l : Addr} {xs : List α} {v : List V} {x : V} {y : α} (h1 : G l = some (.lst v)) (h2 : Paired (R G) v xs) (hx : R G x y) : LstOf R (upd G l (.lst (v ++ [x]))) l (xs ++ [y]) :=
  ⟨v ++ [x], upd_same, Paired.snoc (L2.Paired.mapP h2 fun _ _ z => b _ _ _ _ (Tup.put h1) z) (b _ _ _ _ (Tup.put h1) hx)⟩
theorem LstOf.exx {α : Type} {R : Hp → V → α → Prop} (b : ByTup R) {G G1 : Hp} {l : Addr} {xs : List α} (e : Ex G G1) (h : LstOf R G l xs) : LstOf R G1 l xs := by
  obtain ⟨v, h1, h2⟩ := h
  exact ⟨v, e _ _ h1, L2.Paired.mapP h2 fun _ _ z => b _ _ _ _ (Ex.tup e) z⟩
theorem fm_same {β : Type} {g : Ln → Option β} {pre : List Ln} {x : Ln} (h : g x = none) : (pre ++ [x]).filterMap g = pre.filterMap g := by
  rw [List.filterMap_append, List.filterMap_cons, h]
  simp
theorem fm_more {β : Type} {g : Ln → Option β} {pre : List Ln} {x : Ln} {y : β} (h : g x = some y) : (pre ++ [x]).filterMap g = pre.filterMap g ++ [y] := by
  rw [List.filterMap_append, List.filterMap_cons, h]
  simp
namespace RwS
variable {H G G1 : Hp} {dr l0 l1 l2 l3 : Addr} {pre : List Ln}
theorem exx (s : RwS H G dr l0 l1 l2 l3 pre) (e : Ex G G1) : RwS H G1 dr l0 l1 l2 l3 pre :=
  ⟨s.ex.trans e, e _ _ s.d, s.n0, s.n1, s.n2, s.n3, s.e01, s.e02, s.e03, s.e12, s.e13, s.e23, s.p0.exx bt3 e, s.p1.exx bt3 e, s.p2.exx bt2 e, s.p3.exx btP e⟩
theorem dne (s : RwS H G dr l0 l1 l2 l3 pre) {l : Addr} {ys zs : List V} (h : G l = some (.lst ys)) : (upd G l (.lst zs)) dr = some (.dK (rowsK l0 l1 l2 l3)) := by
  rw [upd_ne (ne_of s.d h fun z => nomatch z)]
  exact s.d
theorem addM (s : RwS H G dr l0 l1 l2 l3 pre) {v : List V} {x : V} {r : Str × Int × Int} (h : G l0 = some (.lst v)) (hx : Row3 G x r) : RwS H (upd G l0 (.lst (v ++ [x]))) dr l0 l1 l2 l3 (pre ++ [.m r]) := by
  obtain ⟨v', h1, h2⟩ := s.p0
  rw [h] at h1
  cases h1
  refine ⟨s.ex.put s.n0, s.dne h, s.n0, s.n1, s.n2, s.n3, s.e01, s.e02, s.e03, s.e12, s.e13, s.e23, ?_, ?_, ?_, ?_⟩
  · rw [fm_more (y := r) rfl]
    exact LstOf.add bt3 h h2 hx
  · rw [fm_same rfl]
    exact s.p1.far bt3 s.e01.symm h
  · rw [fm_same rfl]
    exact s.p2.far bt2 s.e02.symm h
  · rw [fm_same rfl]
    exact s.p3.far btP s.e03.symm h
theorem addC (s : RwS H G dr l0 l1 l2 l3 pre) {v : List V} {x : V} {r : Str × Int × Int} (h : G l1 = some (.lst v)) (hx : Row3 G x r) : RwS H (upd G l1 (.lst (v ++ [x]))) dr l0 l1 l2 l3 (pre ++ [.c r]) := by
  obtain ⟨v', h1, h2⟩ := s.p1
  rw [h] at h1
  cases h1
  refine ⟨s.ex.put s.n1, s.dne h, s.n0, s.n1, s.n2, s.n3, s.e01, s.e02, s.e03, s.e12, s.e13, s.e23, ?_, ?_, ?_, ?_⟩
  · rw [fm_same rfl]
    exact s.p0.far bt3 s.e01 h
  · rw [fm_more (y := r) rfl]
    exact LstOf.add bt3 h h2 hx
  · rw [fm_same rfl]
    exact s.p2.far bt2 s.e12.symm h
  · rw [fm_same rfl]
    exact s.p3.far btP s.e13.symm h
theorem addS (s : RwS H G dr l0 l1 l2 l3 pre) {v : List V} {x : V} {r : Str × Int} (h : G l2 = some (.lst v)) (hx : Row2 G x r) : RwS H (upd G l2 (.lst (v ++ [x]))) dr l0 l1 l2 l3 (pre ++ [.s r]) := by
  obtain ⟨v', h1, h2⟩ := s.p2
  rw [h] at h1
  cases h1
  refine ⟨s.ex.put s.n2, s.dne h, s.n0, s.n1, s.n2, s.n3, s.e01, s.e02, s.e03, s.e12, s.e13, s.e23, ?_, ?_, ?_, ?_⟩
  · rw [fm_same rfl]
    exact s.p0.far bt3 s.e02 h
  · rw [fm_same rfl]
    exact s.p1.far bt3 s.e12 h
  · rw [fm_more (y := r) rfl]
    exact LstOf.add bt2 h h2 hx
  · rw [fm_same rfl]
    exact s.p3.far btP s.e23.symm h
theorem addP (s : RwS H G dr l0 l1 l2 l3 pre) {v : List V} {x : V} {r : Str × List (Int × Int)} (h : G l3 = some (.lst v)) (hx : RowP G x r) : RwS H (upd G l3 (.lst (v ++ [x]))) dr l0 l1 l2 l3 (pre ++ [.p r]) := by
  obtain ⟨v', h1, h2⟩ := s.p3
  rw [h] at h1
  cases h1
  refine ⟨s.ex.put s.n3, s.dne h, s.n0, s.n1, s.n2, s.n3, s.e01, s.e02, s.e03, s.e12, s.e13, s.e23, ?_, ?_, ?_, ?_⟩
  · rw [fm_same rfl]
    exact s.p0.far bt3 s.e03 h
  · rw [fm_same rfl]
    exact s.p1.far bt3 s.e13 h
  · rw [fm_same rfl]
    exact s.p2.far bt2 s.e23 h
  · rw [fm_more (y := r) rfl]
    exact LstOf.add btP h h2 hx
end RwS
end LJ
set_option Elab.async false
set_option linter.all false
set_option maxRecDepth 100000
set_option maxHeartbeats 8000000
namespace LJ
open PySem PySem.Spec L2
open LamX (ExtN)
open NdefX (NTab TabsN)
open OwnX (pg_star pgs_star)
abbrev sRW : Stmt := top 34
abbrev nRW : List Str := ["text", "rows", "line", "kind", "words"]
/-- four tuples that hold these works -/
structure Data4 (H : Hp) (am ac as ap : Addr) (W : Wd) : Prop where
  m : ∃ v, H am = some (.tup v) ∧ Paired (Row3 H) v W.ms
  c : ∃ v, H ac = some (.tup v) ∧ Paired (Row3 H) v W.cs
  s : ∃ v, H as = some (.tup v) ∧ Paired (Row2 H) v W.ss
  p : ∃ v, H ap = some (.tup v) ∧ Paired (RowP H) v W.ps
def spRW (C : Addr) (T : List NTab) : Sp := fun vs H Q _ => ∃ W : Wd, vs = [.str (wtext W)] ∧ GoodF W ∧ TabsN T H ∧
  ∀ (x am ac as ap : Addr) (H1 : Hp), ExtN H H1 → H x = none → TabsN T H1 → WorksAt C H1 x am ac as ap W → Data4 H1 am ac as ap W → Q (.ref x) H1
theorem ln_len {x : Ln} (h : lnOk x) : (lnT x).length ≤ 400 := by
  have fs : ∀ {r : Str × Int × Int}, isW r.1 = true ∧ 0 ≤ r.2.1 ∧ r.2.1 ≤ r.2.2 ∧ r.2.2 ≤ 1000 → Fit3 r := fun {r} h => ⟨isW_8 h.1, h.2.1, h.2.2.1, by have := h.2.2.2; omega⟩
  cases x with
  | m r =>
    show (Txt.join sp1 [kM, r.1, num r.2.1, num r.2.2]).length ≤ 400
    rw [← line3_join kM_pre]
    exact line3_len (by decide +kernel) (fs h)
  | c r =>
    show (Txt.join sp1 [kC, r.1, num r.2.1, num r.2.2]).length ≤ 400
    rw [← line3_join kC_pre]
    exact line3_len (by decide +kernel) (fs h)
  | s r =>
    show (Txt.join sp1 [kS, r.1, num r.2]).length ≤ 400
    rw [← line2_join kS_pre]
    exact line2_len (by decide +kernel) ⟨isW_8 h.1, h.2.1, h.2.2⟩
  | p r =>
    show (Txt.join sp1 (kP :: r.1 :: r.2.map bword)).length ≤ 400
    rw [← pline_join]
    have := pline_len (n := r.1) (bs := r.2) (isW_8 h.1) (by have := h.2.1; omega) h.2.2
    omega
theorem lns_len {W : Wd} (g : GoodF W) : (lns W).length ≤ 23 := by
  have := g.m2
  have := g.c2
  have := g.s2
  have := g.p2
  unfold lns
  simp only [List.length_append, List.length_map]
  omega
theorem wtext_len {W : Wd} (g : GoodF W) : (wtext W).length ≤ 10000 := by
  have l := lns_len g
  have h : ((wlines W).map (·.length)).sum ≤ (lns W).length * 400 := by
    rw [lns_text, List.map_map]
    exact sum_most fun x hx => ln_len (lns_ok g x hx)
  have l2 : (wlines W).length = (lns W).length := by rw [lns_text, List.length_map]
  unfold wtext
  rw [join_len, l2, show (Str.ofString "\n").length = 1 from by decide +kernel]
  have h2 : (lns W).length * 400 ≤ 23 * 400 := Nat.mul_le_mul_right _ l
  omega
theorem up_none {H : Hp} {a b : Addr} {o : HO} (h : (upd H a o) b = none) : b ≠ a ∧ H b = none := by
  by_cases e : b = a
  · rw [e, upd_same] at h
    cases h
  · rw [upd_ne e] at h
    exact ⟨e, h⟩
theorem start_rws {H : Hp} {dr l0 l1 l2 l3 : Addr} (nd : H dr = none) (n0 : (upd H dr (.dK [])) l0 = none) (n1 : (upd (upd H dr (.dK [])) l0 (.lst [])) l1 = none)
    (n2 : (upd (upd (upd H dr (.dK [])) l0 (.lst [])) l1 (.lst [])) l2 = none) (n3 : (upd (upd (upd (upd H dr (.dK [])) l0 (.lst [])) l1 (.lst [])) l2 (.lst [])) l3 = none) :
    RwS H (upd (upd (upd (upd (upd (upd H dr (.dK [])) l0 (.lst [])) l1 (.lst [])) l2 (.lst [])) l3 (.lst [])) dr (.dK (rowsK l0 l1 l2 l3))) dr l0 l1 l2 l3 [] := by
  obtain ⟨d0, m0⟩ := up_none n0
  obtain ⟨e10, m1⟩ := up_none n1
  obtain ⟨d1, m1⟩ := up_none m1
  obtain ⟨e21, m2⟩ := up_none n2
  obtain ⟨e20, m2⟩ := up_none m2
  obtain ⟨d2, m2⟩ := up_none m2
  obtain ⟨e32, m3⟩ := up_none n3
  obtain ⟨e31, m3⟩ := up_none m3
  obtain ⟨e30, m3⟩ := up_none m3
  obtain ⟨d3, m3⟩ := up_none m3
  have x0 : Ex H (upd H dr (.dK [])) := Ex.refl.new nd
  refine ⟨((((x0.trans (Ex.refl.new n0)).trans (Ex.refl.new n1)).trans (Ex.refl.new n2)).trans (Ex.refl.new n3)).put nd, upd_same, m0, m1, m2, m3, e10.symm, e20.symm, e30.symm, e21.symm, e31.symm, e32.symm, ⟨[], ?_, .nil⟩, ⟨[], ?_, .nil⟩, ⟨[], ?_, .nil⟩, ⟨[], ?_, .nil⟩⟩
  · rw [upd_ne d0, upd_ne e30.symm, upd_ne e20.symm, upd_ne e10.symm, upd_same]
  · rw [upd_ne d1, upd_ne e31.symm, upd_ne e21.symm, upd_same]
  · rw [upd_ne d2, upd_ne e32.symm, upd_same]
  · rw [upd_ne d3, upd_same]
theorem merge_rows {l0 l1 l2 l3 : Addr} : mergeK [] (rowsK l0 l1 l2 l3) = rowsK l0 l1 l2 l3 := by
  unfold rowsK mergeK
  rfl
def lkOf (l0 l1 l2 l3 : Addr) : Ln → Addr
  | .m _ => l0
  | .c _ => l1
  | .s _ => l2
  | .p _ => l3
theorem rkx {l0 l1 l2 l3 : Addr} (x : Ln) : valV (rowsK l0 l1 l2 l3) (.inr (lnK x)) = some (.ref (lkOf l0 l1 l2 l3 x)) := by
  cases x
  · exact rk0
  · exact rk1
  · exact rk2
  · exact rk3
theorem k_ne : kM ≠ kP ∧ kC ≠ kP ∧ kS ≠ kP := by decide +kernel
theorem Paired.long {α β : Type} {R : α → β → Prop} : ∀ {xs : List α} {ys : List β}, Paired R xs ys → xs.length = ys.length := fun h => Paired.size h
section
variable {P : Program} {w : World} {K : PySem.W.Frag} {mg : Str → Option Value} {base : Heap}
theorem scRW : FnScope nRW ["text"] (defScope sRW) := ⟨rfl, rfl, rfl, by decide +kernel, rfl, by decide +kernel, by decide +kernel⟩
theorem ok_rw {f fR fI C : Addr} {fd fdR fdI : FuncData} {T : List NTab} (F : Fun K "_read_works" "_read_works" sRW f fd) (BT : mg "tuple" = none)
    (GR : FnOk P w K mg base CX0 3 fR fdR ["kind", "words"] spRd) (mR : mg "_read_row" = some (.ref fR)) (kR : PySem.W.keepIn K (.ref fR) = true) (bR : Binds K fdR ["kind", "words"] [])
    (M : Mk K C fI) (mW : mg "Works" = some (.ref C)) (GI : FnOk P w K mg base CX0 7 fI fdI pInit (spInit K C T)) (bI : Binds K fdI pInit []) :
    FnOk P w K mg base CX0 9 f fd ["text"] (spRW C T) := by
  refine F.ok scRW (fun vs H Q E h => ?_) (fun cdv A outer s H vs Q E hr h => ?_)
  · obtain ⟨W, rfl, _⟩ := h
    rfl
  · obtain ⟨W, rfl, g, tabs, q⟩ := h
    have hr3 : Room 3 _ := hr.mono (by decide)
    have hu := hu_of hr
    refine ⟨_, pss_cons (ps_set (i := 1) scRW.nd rfl (Or.inl rfl) (pe_disp (pps_cons pe_str (pe_lst pa_nil) (pps_cons pe_str (pe_lst pa_nil) (pps_cons pe_str (pe_lst pa_nil) (pps_cons pe_str (pe_lst pa_nil) pps_nil)))) (by rfl) (by rfl) (fun z => by cases z) (by decide)))
      (pss_cons (ps_for PassesOwn.never rfl (pi_list (pe_split (pv 0) pe_str)) (pg_name (i := 2) scRW.nd rfl (Or.inl rfl))
        (pss_cons (ps_asg (pe_split (pv 2) pe_str) (pg_star (n := 2) (i := 1) rfl (pgs_cons (pg_name (i := 3) scRW.nd rfl (Or.inl rfl)) (pgs_star (pg_name (i := 4) scRW.nd rfl (Or.inl rfl)) pgs_nil))))
        (pss_cons (ps_if (pt_cmp (pc_dnotin hu (pv 3) (pv 1))) (pss_one ps_never) pss_nil)
        (pss_one (ps_expr (pe_bm PySem.F.plainAttrs_list PySem.F.slot_list_append PySem.F.type_list_append mt_append (pe_dget hu (pv 1) (pv 3) (fun _ _ => rfl)) (pa_cons (pe_call GR hr3 (by rfl) mR kR bR .nil pass0 (pa_cons (pv 3) (pa_cons (pv 4) pa_nil))) pa_nil)))))))
      (pss_one (ps_ret (pe_make M GI hr (by rfl) mW bI .nil pass0 (pa_cons (pe_tupleOf (by rfl) BT (pe_dget hu (pv 1) pe_str (fun _ _ => rfl))) (pa_cons (pe_tupleOf (by rfl) BT (pe_dget hu (pv 1) pe_str (fun _ _ => rfl)))
        (pa_cons (pe_tupleOf (by rfl) BT (pe_dget hu (pv 1) pe_str (fun _ _ => rfl))) (pa_cons (pe_tupleOf (by rfl) BT (pe_dget hu (pv 1) pe_str (fun _ _ => rfl))) pa_nil)))))))), ?_⟩
    have sz := sizeLine_eq
    intro dr nd
    refine ⟨Nat.zero_le _, fun l0 n0 => ⟨Nat.zero_le _, fun l1 n1 => ⟨Nat.zero_le _, fun l2 n2 => ⟨Nat.zero_le _, fun l3 n3 => ⟨?_, rowsK l0 l1 l2 l3, rfl, (by decide : 4 ≤ 15), ?_⟩⟩⟩⟩⟩
    · obtain ⟨d0, _⟩ := up_none n0
      obtain ⟨_, m1⟩ := up_none n1
      obtain ⟨d1, _⟩ := up_none m1
      obtain ⟨_, m2⟩ := up_none n2
      obtain ⟨_, m2⟩ := up_none m2
      obtain ⟨d2, _⟩ := up_none m2
      obtain ⟨_, m3⟩ := up_none n3
      obtain ⟨_, m3⟩ := up_none m3
      obtain ⟨_, m3⟩ := up_none m3
      obtain ⟨d3, _⟩ := up_none m3
      rw [upd_ne d3.symm, upd_ne d2.symm, upd_ne d1.symm, upd_ne d0.symm, upd_same]
    have st := start_rws nd n0 n1 n2 n3
    rw [merge_rows]
    generalize upd (upd (upd (upd (upd (upd H dr (.dK [])) l0 (.lst [])) l1 (.lst [])) l2 (.lst [])) l3 (.lst [])) dr (.dK (rowsK l0 l1 l2 l3)) = G0 at st ⊢
    have tl := wtext_len g
    refine ⟨_, rfl, ⟨_, rfl⟩, _, _, rfl, rfl, by decide +kernel, by omega, fun L nL => ?_⟩
    rw [split_text g, lns_text, List.map_map]
    have eL : (upd G0 L (.lst ((lns W).map (V.str ∘ lnT)))) L = some (.lst ((lns W).map (V.str ∘ lnT))) := upd_same
    have xL : Ex G0 (upd G0 L (.lst ((lns W).map (V.str ∘ lnT)))) := Ex.refl.new nL
    have stL := st.exx xL
    have nHL : H L = none := st.ex.gone nL
    have fL : L ≠ l0 ∧ L ≠ l1 ∧ L ≠ l2 ∧ L ≠ l3 := by
      obtain ⟨v0, h0, _⟩ := st.p0
      obtain ⟨v1, h1, _⟩ := st.p1
      obtain ⟨v2, h2, _⟩ := st.p2
      obtain ⟨v3, h3, _⟩ := st.p3
      refine ⟨fun z => ?_, fun z => ?_, fun z => ?_, fun z => ?_⟩
      · rw [z, h0] at nL
        cases nL
      · rw [z, h1] at nL
        cases nL
      · rw [z, h2] at nL
        cases nL
      · rw [z, h3] at nL
        cases nL
    generalize upd G0 L (.lst ((lns W).map (V.str ∘ lnT))) = G1 at eL stL xL ⊢
    have ll := lns_len g
    refine ⟨L, rfl, ⟨_, SqL.of eL⟩, for_list (K := K) (a := L) (xs := (lns W).map (V.str ∘ lnT)) (fun i σ G => (∃ v2 v3 v4, σ = [some (.str (wtext W)), some (.ref dr), v2, v3, v4]) ∧ RwS H G dr l0 l1 l2 l3 ((lns W).take i) ∧ G L = some (.lst ((lns W).map (V.str ∘ lnT)))) ⟨⟨_, _, _, rfl⟩, stL, eL⟩ (fun i σ G _ h => SqL.of h.2.2) ?_ ?_⟩
    · rintro i v σ G hv ⟨⟨v2, v3, v4, rfl⟩, sG, eG⟩
      rw [List.getElem?_map] at hv
      obtain ⟨x, hx, rfl⟩ := Option.map_eq_some_iff.mp hv
      have ok := lns_ok g x (List.mem_of_getElem? hx)
      have tk : (lns W).take (i + 1) = (lns W).take i ++ [x] := by
        rw [List.take_succ, hx]
        rfl
      have lx := ln_len ok
      refine ⟨_, rfl, ⟨_, rfl⟩, _, _, rfl, rfl, by decide +kernel, by omega, fun p np => ?_⟩
      rw [show Str.ofString " " = sp1 from rfl, split_ln ok]
      have e1 : (upd G p (.lst ((lnK x :: lnW x).map V.str))) p = some (.lst ((lnK x :: lnW x).map V.str)) := upd_same
      have x1 : Ex G (upd G p (.lst ((lnK x :: lnW x).map V.str))) := Ex.refl.new np
      generalize upd G p (.lst ((lnK x :: lnW x).map V.str)) = G2 at e1 x1 ⊢
      have wl := lnW_len ok
      refine ⟨p, _, rfl, SqL.of e1, by decide, by rw [List.length_map, List.length_cons]; omega, by rw [List.length_map, List.length_cons]; omega, fun D nD => ?_⟩
      have c1 : ((lnK x :: lnW x).map V.str).take 1 ++ [.ref D] ++ (((lnK x :: lnW x).map V.str).drop 1).drop (((lnK x :: lnW x).map V.str).length + 1 - 2) = [.str (lnK x), .ref D] := by
        simp
      have c2 : (((lnK x :: lnW x).map V.str).drop 1).take (((lnK x :: lnW x).map V.str).length + 1 - 2) = (lnW x).map V.str := by
        rw [List.map_cons, List.drop_succ_cons, List.drop_zero, List.take_of_length_le (by simp)]
      rw [c1, c2]
      have e2 : (upd G2 D (.lst ((lnW x).map V.str))) D = some (.lst ((lnW x).map V.str)) := upd_same
      have x2 : Ex G2 (upd G2 D (.lst ((lnW x).map V.str))) := Ex.refl.new nD
      generalize upd G2 D (.lst ((lnW x).map V.str)) = G3 at e2 x2 ⊢
      have s3 := sG.exx (x1.trans x2)
      have eG3 := x2 _ _ (x1 _ _ eG)
      refine ⟨_, _, rfl, _, _, rfl, rfl, ?_⟩
      have dk : DGet G3 dr (.str (lnK x)) (some (.ref (lkOf l0 l1 l2 l3 x))) := .inl ⟨rowsK l0 l1 l2 l3, .inr (lnK x), .inl s3.d, rfl, (rkx x).symm⟩
      refine ⟨_, rfl, _, rfl, dr, _, rfl, dk, _, rfl, ?_⟩
      refine ite2 (fun z => by cases z) (fun _ => ?_)
      obtain ⟨vk, hvk, lvk⟩ : ∃ vk, G3 (lkOf l0 l1 l2 l3 x) = some (.lst vk) ∧ vk.length < 24 := by
        have lt : ((lns W).take i).length ≤ 23 := by rw [List.length_take]; omega
        cases x with
        | m r =>
          obtain ⟨v, h1, h2⟩ := s3.p0
          have := Paired.size h2
          have := List.length_filterMap_le getM ((lns W).take i)
          exact ⟨v, h1, by omega⟩
        | c r =>
          obtain ⟨v, h1, h2⟩ := s3.p1
          have := Paired.size h2
          have := List.length_filterMap_le getC ((lns W).take i)
          exact ⟨v, h1, by omega⟩
        | s r =>
          obtain ⟨v, h1, h2⟩ := s3.p2
          have := Paired.size h2
          have := List.length_filterMap_le getS ((lns W).take i)
          exact ⟨v, h1, by omega⟩
        | p r =>
          obtain ⟨v, h1, h2⟩ := s3.p3
          have := Paired.size h2
          have := List.length_filterMap_le getP ((lns W).take i)
          exact ⟨v, h1, by omega⟩
      have farL : L ≠ lkOf l0 l1 l2 l3 x := by
        cases x
        · exact fL.1
        · exact fL.2.1
        · exact fL.2.2.1
        · exact fL.2.2.2
      refine ⟨_, rfl, _, rfl, dr, _, rfl, dk, .inl ⟨rfl, _, .inl (.inl hvk)⟩, _, rfl, _, rfl, lnK x, D, lnW x, rfl, e2, by omega, lnW_short ok, fun ek t b vals G4 x4 nb e4 et pv4 => ?_, fun ek b G4 x4 nb e4 => ?_⟩
      · cases x with
        | m r => exact absurd ek k_ne.1
        | c r => exact absurd ek k_ne.2.1
        | s r => exact absurd ek k_ne.2.2
        | p r =>
          refine ⟨_, _, _, rfl, rfl, x4 _ _ hvk, by omega, ⟨_, _, _, rfl⟩, ?_, ?_⟩
          · rw [tk]
            exact (s3.exx x4).addP (x4 _ _ hvk) ⟨b, t, vals, rfl, e4, et, pairs_bnds ok.2.2 pv4⟩
          · rw [upd_ne farL]
            exact x4 _ _ eG3
      · have e5 : G4 L = some (.lst ((lns W).map (V.str ∘ lnT))) := x4 _ _ eG3
        refine ⟨_, _, _, rfl, rfl, x4 _ _ hvk, by omega, ⟨_, _, _, rfl⟩, ?_, by rw [upd_ne farL]; exact e5⟩
        rw [tk]
        cases x with
        | m r =>
          obtain ⟨h1, h2, h3, h4⟩ := ok
          have e6 : G4 b = some (.tup [.str r.1, optI (rdN (num r.2.1)), optI (rdN (num r.2.2))]) := e4
          rw [rdN_num h2, rdN_num (Int.le_trans h2 h3)] at e6
          exact (s3.exx x4).addM (x4 _ _ hvk) ⟨b, rfl, e6⟩
        | c r =>
          obtain ⟨h1, h2, h3, h4⟩ := ok
          have e6 : G4 b = some (.tup [.str r.1, optI (rdN (num r.2.1)), optI (rdN (num r.2.2))]) := e4
          rw [rdN_num h2, rdN_num (Int.le_trans h2 h3)] at e6
          exact (s3.exx x4).addC (x4 _ _ hvk) ⟨b, rfl, e6⟩
        | s r =>
          obtain ⟨h1, h2, h3⟩ := ok
          have e6 : G4 b = some (.tup [.str r.1, optI (rdN (num r.2))]) := e4
          rw [rdN_num h2] at e6
          exact (s3.exx x4).addS (x4 _ _ hvk) ⟨b, rfl, e6⟩
        | p r => exact absurd rfl ek
    · rintro σ G ⟨⟨v2, v3, v4, rfl⟩, sG, eG⟩
      rw [List.length_map, List.take_of_length_le (Nat.le_refl _)] at sG
      have q0 := sG.p0
      have q1 := sG.p1
      have q2 := sG.p2
      have q3 := sG.p3
      rw [lns_m] at q0
      rw [lns_c] at q1
      rw [lns_s] at q2
      rw [lns_p] at q3
      obtain ⟨vm, hm, pm⟩ := q0
      obtain ⟨vc, hc, pc⟩ := q1
      obtain ⟨vs, hs, ps⟩ := q2
      obtain ⟨vp, hp, pp⟩ := q3
      have gd : ∀ {G' : Hp} {k : Str} {l : Addr}, Ex G G' → valV (rowsK l0 l1 l2 l3) (.inr k) = some (.ref l) → DGet G' dr (.str k) (some (.ref l)) := fun {G' k l} e h => .inl ⟨rowsK l0 l1 l2 l3, .inr k, .inl (e _ _ sG.d), rfl, h.symm⟩
      refine ⟨_, rfl, dr, _, rfl, gd Ex.refl rk0, .inl ⟨l0, vm, rfl, SqL.of hm, fun am n1 => ?_⟩⟩
      have x1 : Ex G (upd G am (.tup vm)) := Ex.refl.new n1
      have e1 : (upd G am (.tup vm)) am = some (.tup vm) := upd_same
      generalize upd G am (.tup vm) = H1 at x1 e1 ⊢
      refine ⟨_, rfl, dr, _, rfl, gd x1 rk1, .inl ⟨l1, vc, rfl, SqL.of (x1 _ _ hc), fun ac n2 => ?_⟩⟩
      have x2 : Ex H1 (upd H1 ac (.tup vc)) := Ex.refl.new n2
      have e2 : (upd H1 ac (.tup vc)) ac = some (.tup vc) := upd_same
      generalize upd H1 ac (.tup vc) = H2 at x2 e2 ⊢
      have y2 := x1.trans x2
      refine ⟨_, rfl, dr, _, rfl, gd y2 rk2, .inl ⟨l2, vs, rfl, SqL.of (y2 _ _ hs), fun as n3 => ?_⟩⟩
      have x3 : Ex H2 (upd H2 as (.tup vs)) := Ex.refl.new n3
      have e3 : (upd H2 as (.tup vs)) as = some (.tup vs) := upd_same
      generalize upd H2 as (.tup vs) = H3 at x3 e3 ⊢
      have y3 := y2.trans x3
      refine ⟨_, rfl, dr, _, rfl, gd y3 rk3, .inl ⟨l3, vp, rfl, SqL.of (y3 _ _ hp), fun ap n4 => ?_⟩⟩
      have x4 : Ex H3 (upd H3 ap (.tup vp)) := Ex.refl.new n4
      have e4 : (upd H3 ap (.tup vp)) ap = some (.tup vp) := upd_same
      generalize upd H3 ap (.tup vp) = H4 at x4 e4 ⊢
      have y4 := y3.trans x4
      intro x dx nx ndx ne
      have x5 : Ex H4 (upd (upd H4 dx (.own x)) x (.ins C dx [])) := (Ex.refl.new ndx).new (by rw [upd_ne ne.symm]; exact nx)
      have e5 : (upd (upd H4 dx (.own x)) x (.ins C dx [])) x = some (.ins C dx []) := upd_same
      generalize upd (upd H4 dx (.own x)) x (.ins C dx []) = H5 at x5 e5 ⊢
      have y5 := y4.trans x5
      have tt := Ex.tup y5
      have hm5 := x5 _ _ (x4 _ _ (x3 _ _ (x2 _ _ e1)))
      have hc5 := x5 _ _ (x4 _ _ (x3 _ _ e2))
      have hs5 := x5 _ _ (x4 _ _ e3)
      have hp5 := x5 _ _ e4
      have T5 : TabsN T H5 := TabsN.exs tabs (sG.ex.trans y5)
      refine ⟨x, dx, am, ac, as, ap, vm, vc, vs, vp, W, rfl, e5, goodF_fit g hm5 hc5 hs5 hp5 (rows3 tt pm) (rows3 tt pc) (rows2 tt ps) (rowsP tt pp), rows3 tt pm, rows3 tt pc, rows2 tt ps, rowsP tt pp, goodF_told g, fun r hr => (g.pb r hr).1, T5, fun H6 keep t6 at6 => ⟨rfl, ?_⟩⟩
      have hxn : H x = none := sG.ex.gone (y4.gone nx)
      have far : ∀ {b : Addr} {xs : List V}, H5 b = some (.tup xs) → H6 b = some (.tup xs) := fun {b xs} e => keep b _ (ne_of e e5 fun z => nomatch z) e fun _ z => nomatch z
      have t56 : Tup H5 H6 := fun a xs e => far e
      refine q x am ac as ap H6 (fun b o e nt => keep b o (fun z => ?_) (y5 _ _ (sG.ex _ _ e)) nt) hxn t6 at6 ⟨⟨vm, far hm5, rows3 t56 (rows3 tt pm)⟩, ⟨vc, far hc5, rows3 t56 (rows3 tt pc)⟩, ⟨vs, far hs5, rows2 t56 (rows2 tt ps)⟩, ⟨vp, far hp5, rowsP t56 (rowsP tt pp)⟩⟩
      rw [z, hxn] at e
      cases e
end
end LJ
set_option Elab.async false
set_option linter.all false
set_option maxRecDepth 100000
set_option maxHeartbeats 8000000
namespace LJ
open PySem PySem.Spec L2
open LamX (ExtN)
open NdefX (NTab TabsN)
open OwnX
/-! Works: its other methods. -/
abbrev sStr : Stmt := meth 12
abbrev sRepr : Stmt := meth 13
abbrev sEq : Stmt := meth 11
abbrev sRead : Stmt := meth 1
/-- an object of Works that has these words as its text -/
def TextOf (C : Addr) (H : Hp) (x : Addr) (z : Str) : Prop := ∃ dx fs, H x = some (.ins C dx fs) ∧ fs.lookup ("_text" : Str) = some (.str z)
def spStrW (C : Addr) : Sp := fun vs H Q _ => ∃ x z, vs = [.ref x] ∧ TextOf C H x z ∧ Q (.str z) H
def spEqW (C : Addr) : Sp := fun vs H Q _ => ∃ x z y, vs = [.ref x, y] ∧ TextOf C H x z ∧ ((∃ a z2, y = .ref a ∧ TextOf C H a z2 ∧ Q (.bl (decide (z = z2))) H) ∨ (∃ z2, y = .str z2 ∧ Q (.bl false) H))
def reprW (m p : Int) : Str := Str.empty ++ Str.ofString "Works of " ++ num m ++ Str.ofString " machines and " ++ num p ++ Str.ofString " products"
def spReprW (C : Addr) : Sp := fun vs H Q _ => ∃ x dx fs am ap vm vp, vs = [.ref x] ∧ H x = some (.ins C dx fs) ∧ fs.lookup ("_machines" : Str) = some (.ref am) ∧ fs.lookup ("_products" : Str) = some (.ref ap) ∧ H am = some (.tup vm) ∧ H ap = some (.tup vp) ∧ vm.length ≤ 100 ∧ vp.length ≤ 100 ∧ Q (.str (reprW vm.length vp.length)) H
/-- what isinstance asks of Works -/
structure WIns (K : PySem.W.Frag) (C : Addr) : Prop where
  c1 : PySem.W.findIn K (.ref C) "__class__" = some (some (.builtin "object.__class__"))
  c2 : PySem.W.specialIn K (.builtin "object.__class__") "__get__" = some (some (.builtin "getset_descriptor.__get__"))
  c3 : PySem.W.takesIn K (.builtin "object.__class__") = some true
  c4 : PySem.W.mroIn K C (.type "object") = some true
  kt : PySem.W.kitOne K (.ref C) (.ref C) = some true
  kf : PySem.W.kitOne K (.type "str") (.ref C) = some false
structure BltS (mg : Str → Option Value) : Prop where
  str : mg "str" = none
  len : mg "len" = none
  isi : mg "isinstance" = none
section
variable {P : Program} {w : World} {K : PySem.W.Frag} {mg : Str → Option Value} {base : Heap} {C : Addr}
theorem scStr : FnScope ["self"] ["self"] (defScope sStr) := ⟨rfl, rfl, rfl, by decide +kernel, rfl, by decide +kernel, by decide +kernel⟩
theorem ok_str {f : Addr} {fd : FuncData} (F : Fun K "__str__" "Works.__str__" sStr f fd) (c : WCls K C) (B : BltS mg) : FnOk P w K mg base CX0 1 f fd ["self"] (spStrW C) := by
  refine F.ok scStr (fun vs H Q E h => ?_) (fun cdv A outer s H vs Q E hr h => ?_)
  · obtain ⟨x, z, rfl, _⟩ := h
    rfl
  · obtain ⟨x, z, rfl, ⟨dx, fs, hx, hf⟩, q⟩ := h
    refine ⟨_, pss_one (ps_ret (pe_callTy SkE.call_str_str (by rfl) B.str (by decide +kernel) (pa_cons (pe_fld (pv 0) rfl) pa_nil))), ?_⟩
    exact ⟨_, rfl, x, C, dx, fs, _, rfl, hx, c.cl, c.n9, hf, z, rfl, q⟩
theorem scRepr : FnScope ["self"] ["self"] (defScope sRepr) := ⟨rfl, rfl, rfl, by decide +kernel, rfl, by decide +kernel, by decide +kernel⟩
theorem ok_repr {f : Addr} {fd : FuncData} (F : Fun K "__repr__" "Works.__repr__" sRepr f fd) (c : WCls K C) (B : BltS mg) : FnOk P w K mg base CX0 1 f fd ["self"] (spReprW C) := by
  refine F.ok scRepr (fun vs H Q E h => ?_) (fun cdv A outer s H vs Q E hr h => ?_)
  · obtain ⟨x, dx, fs, am, ap, vm, vp, rfl, _⟩ := h
    rfl
  · obtain ⟨x, dx, fs, am, ap, vm, vp, rfl, hx, f1, f2, hm, hp, lm, lp, q⟩ := h
    refine ⟨_, pss_one (ps_ret (pe_joined (.cons pe_str (.cons (pe_fmt (pe_callB call_len_seq (by rfl) B.len (by decide +kernel) (pa_cons (pe_fld (pv 0) rfl) pa_nil))) (.cons pe_str (.cons (pe_fmt (pe_callB call_len_seq (by rfl) B.len (by decide +kernel) (pa_cons (pe_fld (pv 0) rfl) pa_nil))) (.cons pe_str .nil))))))), ?_⟩
    have sz := sizeLine_eq
    have l1 := num_len (i := (vm.length : Int)) (by omega) (by omega)
    have l2 := num_len (i := (vp.length : Int)) (by omega) (by omega)
    have k1 : (Str.empty ++ Str.ofString "Works of ").length = 9 := by decide +kernel
    have k2 : (Str.empty ++ Str.ofString "Works of " ++ num vm.length).length ≤ 23 := by
      rw [Str.length_append]
      omega
    have k3 : (Str.empty ++ Str.ofString "Works of " ++ num vm.length ++ Str.ofString " machines and ").length ≤ 37 := by
      rw [Str.length_append, show (Str.ofString " machines and ").length = 14 by decide +kernel]
      omega
    have k4 : (Str.empty ++ Str.ofString "Works of " ++ num vm.length ++ Str.ofString " machines and " ++ num vp.length).length ≤ 51 := by
      rw [Str.length_append]
      omega
    have k5 : (reprW vm.length vp.length).length ≤ 60 := by
      unfold reprW
      rw [Str.length_append, show (Str.ofString " products").length = 9 by decide +kernel]
      omega
    have b : ∀ {m : Nat}, m ≤ 80 → m ≤ sizeLine := fun h => by omega
    refine ⟨_, rfl, b (by omega), _, rfl, x, C, dx, fs, _, rfl, hx, c.cl, c.n1, f1, am, vm, rfl, .inr (SqT.of hm), .inr ⟨_, rfl, num_log (by omega) (by omega), num vm.length, rfl, b (by omega), _, rfl, b (by omega), _, rfl, x, C, dx, fs, _, rfl, hx, c.cl, c.n4, f2, ap, vp, rfl, .inr (SqT.of hp), .inr ⟨_, rfl, num_log (by omega) (by omega), num vp.length, rfl, b (by omega), _, rfl, b (Nat.le_trans k5 (by omega)), q⟩⟩⟩
theorem scEq : FnScope ["self", "other"] ["self", "other"] (defScope sEq) := ⟨rfl, rfl, rfl, by decide +kernel, rfl, by decide +kernel, by decide +kernel⟩
theorem ok_eq {f : Addr} {fd : FuncData} (F : Fun K "__eq__" "Works.__eq__" sEq f fd) (c : WCls K C) (B : BltS mg) (mW : mg "Works" = some (.ref C)) (I : WIns K C) : FnOk P w K mg base CX0 1 f fd ["self", "other"] (spEqW C) := by
  refine F.ok scEq (fun vs H Q E h => ?_) (fun cdv A outer s H vs Q E hr h => ?_)
  · obtain ⟨x, z, y, rfl, _⟩ := h
    rfl
  · obtain ⟨x, z, y, rfl, ⟨dx, fs, hx, hf⟩, hy⟩ := h
    refine ⟨_, pss_one (ps_ret (pe_and (pe_callB call_isi (by rfl) B.isi (by decide +kernel) (pa_cons (pv 1) (pa_cons (pe_glob (v := .ref C) (by rfl) mW rfl) pa_nil))) (pe_one (pe_cmpR op_eq (pe_fld (pv 0) rfl) (pe_fld (pv 1) rfl) (nomark _))))), ?_⟩
    rcases hy with ⟨a, z2, rfl, ⟨dx2, fs2, ha, hf2⟩, q⟩ | ⟨z2, rfl, q⟩
    · refine ⟨_, rfl, _, _, _, _, true, rfl, .own C, .base (.ins ha c.cl I.c1 I.c2 I.c3 I.c4), I.kt, true, rfl, ?_⟩
      refine ⟨_, rfl, x, C, dx, fs, _, rfl, hx, c.cl, c.n9, hf, _, rfl, a, C, dx2, fs2, _, rfl, ha, c.cl, c.n9, hf2, rfl, ?_⟩
      have e2 : decide (V.str z = V.str z2) = decide (z = z2) := decide_eq_decide.mpr ⟨fun e => V.str.inj e, fun e => by rw [e]⟩
      rw [e2]
      exact q
    · refine ⟨_, rfl, _, _, _, _, false, rfl, .own C, .base (.str z2), I.kf, false, rfl, ?_⟩
      exact q
end
end LJ
set_option Elab.async false
set_option linter.all false
set_option maxRecDepth 100000
set_option maxHeartbeats 8000000
namespace LJ
open PySem PySem.Spec L2
open LamX (ExtN)
open NdefX (NTab TabsN)
open OwnX
/-! Works.read over told texts; the properties. -/
section
variable {P : Program} {w : World} {K : PySem.W.Frag} {mg : Str → Option Value} {base : Heap} {C : Addr} {T : List NTab}
theorem scRead : FnScope ["text", "works"] ["text"] (defScope sRead) := ⟨rfl, rfl, rfl, by decide +kernel, rfl, by decide +kernel, by decide +kernel⟩
theorem works_text {H : Hp} {x am ac as ap : Addr} {W : Wd} (h : WorksAt C H x am ac as ap W) : TextOf C H x (wtext W) := by
  obtain ⟨dx, D1, D2, D3, D4, b1, b2, v4, hx, _⟩ := h
  exact ⟨dx, _, hx, rfl⟩
theorem ok_read {f fR fS : Addr} {fd fdR fdS : FuncData} (F : Fun K "read" "Works.read" sRead f fd) (B : BltS mg)
    (GR : FnOk P w K mg base CX0 9 fR fdR ["text"] (spRW C T)) (mR : mg "_read_works" = some (.ref fR)) (kR : PySem.W.keepIn K (.ref fR) = true) (bR : Binds K fdR ["text"] [])
    (cS : Meth K C "__str__" fS) (GS : FnOk P w K mg base CX0 1 fS fdS ["self"] (spStrW C)) (bS : Binds K fdS ["self"] []) :
    FnOk P w K mg base CX0 10 f fd ["text"] (spRW C T) := by
  refine F.ok scRead (fun vs H Q E h => ?_) (fun cdv A outer s H vs Q E hr h => ?_)
  · obtain ⟨W, rfl, _⟩ := h
    rfl
  · obtain ⟨W, rfl, g, tabs, q⟩ := h
    have hr2 : Room 2 _ := hr.mono (by decide)
    refine ⟨_, pss_cons (ps_if (pt_not (pt_truth (pe_callB call_isi (by rfl) B.isi (by decide +kernel) (pa_cons (pv 0) (pa_cons (pe_bltn (by rfl) B.str (by decide +kernel) (v := .ty "str") rfl) pa_nil))) (fun _ => rfl))) (pss_one ps_never) pss_nil)
      (pss_cons (ps_try_thru0 (pss_one (ps_set (i := 1) scRead.nd rfl (Or.inl rfl) (pe_call GR hr (by rfl) mR kR bR .nil pass0 (pa_cons (pv 0) pa_nil)))))
      (pss_cons (ps_if (pt_cmpR op_ne (pe_callTy (call_strO cS GS hr2 bS pass0) (by rfl) B.str (by decide +kernel) (pa_cons (pv 1) pa_nil)) (pv 0) (nomark _)) (pss_one ps_never) pss_nil)
      (pss_one (ps_ret (pv 1))))), ?_⟩
    refine ⟨_, rfl, _, _, _, _, true, rfl, .ty "str", .base (.str _), kit_ty (by decide +kernel), true, rfl, ?_⟩
    refine ite2 (fun z => by cases z) (fun _ => ?_)
    refine ⟨_, rfl, W, rfl, g, tabs, fun x am ac as ap H1 e1 nx t1 at1 d1 => ?_⟩
    obtain ⟨dx, fs, hx, hf⟩ := works_text at1
    refine ⟨_, rfl, x, dx, fs, rfl, hx, x, wtext W, rfl, ⟨dx, fs, hx, hf⟩, _, rfl, _, rfl, rfl, _, rfl, ?_⟩
    refine ite2 (fun z => ?_) (fun _ => ?_)
    · rw [decide_eq_true rfl] at z
      cases z
    · exact ⟨_, rfl, q x am ac as ap H1 e1 nx t1 at1 d1⟩
end
end LJ
set_option Elab.async false
set_option linter.all false
set_option maxRecDepth 100000
set_option maxHeartbeats 8000000
namespace LJ
open PySem PySem.Spec L2
/-! The law's own page. -/
abbrev sPage : Stmt := top 46
abbrev nPage : List Str := ["_law_world_here", "_law_lines", "_law_row", "_law_part", "_law_name_here", "_law_inside_here", "_law_low", "_law_high"]
def rStrAny : List V → Hp → VK → Prop := fun xs H Q => (∃ a, xs = [.str a] ∧ Q (.str a) H) ∨ ∃ i, xs = [.int i] ∧ i.natAbs.log2 < 1920 ∧ Q (.str (num i)) H
theorem call_strAny {X : Cx} : CallR X (.type "str") rStrAny := by
  rintro pins s σ H xs us Q I r (h | h)
  · exact SkE.call_str_str pins s σ H xs us Q I r h
  · exact call_str_int pins s σ H xs us Q I r h
def strOf : V → Str
  | .str z => z
  | .int i => num i
  | _ => Str.empty
def okV : V → Bool
  | .str z => decide (z.length ≤ 20)
  | .int i => decide (0 ≤ i ∧ i ≤ 1000000000000)
  | _ => false
/-- a row of texts and numbers, with its words -/
def FlatRow (H : Hp) (v : V) (ws : List Str) : Prop := ∃ a xs, v = .ref a ∧ H a = some (.tup xs) ∧ (∀ x ∈ xs, okV x = true) ∧ xs.map strOf = ws ∧ xs.length ≤ 3
theorem FlatRow.tup {H H1 : Hp} {v : V} {ws : List Str} (t : Tup H H1) (h : FlatRow H v ws) : FlatRow H1 v ws := by
  obtain ⟨a, xs, h1, h2, h3⟩ := h
  exact ⟨a, xs, h1, t _ _ h2, h3⟩
def w3 (r : Str × Int × Int) : List Str := [r.1, num r.2.1, num r.2.2]
def w2 (r : Str × Int) : List Str := [r.1, num r.2]
theorem flat3 {H : Hp} {v : V} {r : Str × Int × Int} (w : isW r.1 = true) (b : 0 ≤ r.2.1 ∧ r.2.1 ≤ r.2.2 ∧ r.2.2 ≤ 1000) (h : Row3 H v r) : FlatRow H v (w3 r) := by
  obtain ⟨a, rfl, e⟩ := h
  have l8 := isW_8 w
  refine ⟨a, _, rfl, e, fun x hx => ?_, rfl, (by show _ ≤ 3; simp)⟩
  simp only [List.mem_cons, List.not_mem_nil, or_false] at hx
  rcases hx with rfl | rfl | rfl
  · exact decide_eq_true (by omega)
  · exact decide_eq_true (by omega)
  · exact decide_eq_true (by omega)
theorem flat2 {H : Hp} {v : V} {r : Str × Int} (w : isW r.1 = true) (b : 0 ≤ r.2 ∧ r.2 ≤ 1000000000000) (h : Row2 H v r) : FlatRow H v (w2 r) := by
  obtain ⟨a, rfl, e⟩ := h
  have l8 := isW_8 w
  refine ⟨a, _, rfl, e, fun x hx => ?_, rfl, (by show _ ≤ 3; simp)⟩
  simp only [List.mem_cons, List.not_mem_nil, or_false] at hx
  rcases hx with rfl | rfl
  · exact decide_eq_true (by omega)
  · exact decide_eq_true b
theorem okV_len {x : V} (h : okV x = true) : (strOf x).length ≤ 20 := by
  cases x with
  | str z => exact of_decide_eq_true h
  | int i =>
    have h := of_decide_eq_true h
    have := num_len h.1 h.2
    show (num i).length ≤ 20
    omega
  | _ => cases h
def rAddS : R2 := fun x y H Q => ∃ i j, x = .str i ∧ y = .str j ∧ i.length + j.length ≤ sizeLine ∧ Q (.str (i ++ j)) H
def rJoinK (K : PySem.W.Frag) : V → List V → Hp → VK → Prop := fun x xs H Q => ∃ a p, ∃ ys : List Str, x = .str a ∧ xs = [.ref p] ∧ (SqL K H p (ys.map V.str) ∨ SqT K H p (ys.map V.str)) ∧ (ys.map (·.length)).sum + ys.length * a.length ≤ 16777216 ∧ Q (.str (Txt.join a ys)) H
/-- one line: the word, then the parts of a row -/
def teL (K : PySem.W.Frag) (pre : Str) : TE := tOp rAddS (tC (.str pre)) (tM1 (rJoinK K) (tC (.str sp1)) (tLc (iTup K (tVar 2)) (gName 3) tYes (tCB rStrAny (tCons (tVar 3) tNil)) [3]))
theorem rd_seqU {a b : TS} {D : Ends} {σ : L2.St} {H : Hp} (h : a { D with nx := b D } σ H) : tSeq a b D σ H := h
theorem rd_asgU {te : TE} {g : TG} {D : Ends} {σ : L2.St} {H : Hp} (h : te σ H fun v H1 => g v σ H1 D.nx) : tAsg te g D σ H := h
def spPage : Sp := fun vs H Q _ => ∃ (p : Addr) (W : Wd), vs = [.ref p] ∧ WorldAt H p W ∧ GoodF W ∧ ∀ H1, Ex H H1 → Q (.str (wtext W)) H1
def lineOf (pre : Str) (ws : List Str) : Str := pre ++ Txt.join sp1 ws
theorem rd_lines {K : PySem.W.Frag} {p b : Addr} {v1 v2 v3 v4 v5 v6 v7 : Option V} {H : Hp} {Q : VK} {k : Int} {items vs : List V} {wss : List (List Str)} {pre : Str} (hp : H p = some (.lst items)) (hk : atI items k = some (.ref b)) (hb : H b = some (.lst vs))
    (pr : Paired (FlatRow H) vs wss) (l : wss.length ≤ 10) (lp : pre.length ≤ 20)
    (q : ∀ D H1, Ex H H1 → H D = none → H1 D = some (.lst ((wss.map (lineOf pre)).map V.str)) → Q (.ref D) H1) :
    tLc (iList K (tOp (rIxL K) (tVar 0) (tC (.int k)))) (gName 2) tYes (teL K pre) [2] [some (.ref p), v1, v2, v3, v4, v5, v6, v7] H Q := by
  have sz := sizeLine_eq
  have vl := Paired.size pr
  refine ⟨_, rfl, p, _, _, _, rfl, rfl, SqL.of hp, hk, b, rfl, ⟨_, SqL.of hb⟩, fun D hD => lc_list (K := K) (a := b) (xs := vs) (fun i G => Ex H G ∧ G D = some (.lst (((wss.take i).map (lineOf pre)).map V.str))) ⟨Ex.refl.new hD, upd_same⟩ (fun i G _ h => SqL.of (h.1 _ _ hb)) ?_ ?_⟩
  · rintro i v G hv ⟨xG, eG⟩
    obtain ⟨ws, hw, a, xs, rfl, ha, ok, rfl, lx⟩ := Paired.spot pr hv
    have li : i < wss.length := (List.getElem?_eq_some_iff.mp hw).1
    have ha1 := xG _ _ ha
    refine ⟨rfl, ?_⟩
    refine ⟨⟨_, rfl⟩, _, rfl, a, rfl, ⟨_, SqT.of ha1⟩, fun D2 nD2 => lc_tup (K := K) (a := a) (xs := xs) (fun n H2 => Ex G H2 ∧ H2 D2 = some (.lst (((xs.take n).map strOf).map V.str))) ⟨Ex.refl.new nD2, upd_same⟩ (fun n H2 _ h => SqT.of (h.1 _ _ ha1)) ?_ ?_⟩
    · rintro n x H2 hx ⟨x2, e2⟩
      have okx := ok x (List.mem_of_getElem? hx)
      have ln : n < xs.length := (List.getElem?_eq_some_iff.mp hx).1
      have done : ∃ acc, H2 D2 = some (.lst acc) ∧ acc.length < sizeLine ∧ Ex G (upd H2 D2 (.lst (acc ++ [.str (strOf x)]))) ∧ (upd H2 D2 (.lst (acc ++ [.str (strOf x)]))) D2 = some (.lst (((xs.take (n + 1)).map strOf).map V.str)) := by
        refine ⟨_, e2, ?_, x2.put nD2, ?_⟩
        · rw [List.length_map, List.length_map, List.length_take]
          omega
        · rw [upd_same, List.take_succ, hx, List.map_append, List.map_append]
          rfl
      refine ⟨rfl, _, rfl, ?_⟩
      cases x with
      | str z => exact .inl ⟨z, rfl, done⟩
      | int i =>
        have h := of_decide_eq_true okx
        exact .inr ⟨i, rfl, num_log h.1 h.2, done⟩
      | _ => cases okx
    · rintro H2 ⟨x2, e2⟩
      rw [List.take_of_length_le (Nat.le_refl _)] at e2
      have ls : ((xs.map strOf).map (·.length)).sum ≤ xs.length * 20 := by
        rw [List.map_map]
        exact sum_most fun x hx => okV_len (ok x hx)
      have jl : (Txt.join sp1 (xs.map strOf)).length ≤ 100 := by
        rw [join_len, List.length_map, sp1_len]
        have : xs.length * 20 ≤ 3 * 20 := Nat.mul_le_mul_right _ lx
        omega
      refine ⟨_, D2, xs.map strOf, rfl, rfl, .inl (SqL.of e2), ?_, _, _, rfl, rfl, by omega, _, x2 _ _ eG, ?_, (xG.trans x2).put hD, ?_⟩
      · rw [List.length_map, sp1_len]
        have : xs.length * 20 ≤ 3 * 20 := Nat.mul_le_mul_right _ lx
        omega
      · rw [List.length_map, List.length_map, List.length_take]
        omega
      · rw [upd_same, List.take_succ, hw, List.map_append, List.map_append]
        rfl
  · rintro G ⟨xG, eG⟩
    rw [vl, List.take_of_length_le (Nat.le_refl _)] at eG
    exact q D G xG hD eG
theorem page_prod (n : Str) (bs : List (Int × Int)) : Txt.join sp1 ((Str.ofString "product " ++ n) :: bs.map bword) = pline n bs := by
  rw [pline_join]
  apply TL.ext_tl
  rw [tl_join2, tl_join2, tl_sp1, List.map_cons, List.map_cons, List.map_cons, joinL_sp, joinL_sp, TL.tl_append, show TL.tl (Str.ofString "product ") = TL.tl kP ++ [32] from by decide +kernel]
  simp
theorem line_m (r : Str × Int × Int) : lineOf (Str.ofString "machine ") (w3 r) = lnT (.m r) := by
  apply TL.ext_tl
  unfold lineOf w3 lnT
  rw [TL.tl_append, tl_join2, tl_join2, tl_sp1, kM_pre, List.map_cons, joinL_sp]
  show _ = TL.joinL [32] (TL.tl kM :: [TL.tl r.1, TL.tl (num r.2.1), TL.tl (num r.2.2)])
  rw [joinL_sp]
  simp
theorem line_c (r : Str × Int × Int) : lineOf (Str.ofString "cleaning ") (w3 r) = lnT (.c r) := by
  apply TL.ext_tl
  unfold lineOf w3 lnT
  rw [TL.tl_append, tl_join2, tl_join2, tl_sp1, kC_pre, List.map_cons, joinL_sp]
  show _ = TL.joinL [32] (TL.tl kC :: [TL.tl r.1, TL.tl (num r.2.1), TL.tl (num r.2.2)])
  rw [joinL_sp]
  simp
theorem line_s (r : Str × Int) : lineOf (Str.ofString "stuff ") (w2 r) = lnT (.s r) := by
  apply TL.ext_tl
  unfold lineOf w2 lnT
  rw [TL.tl_append, tl_join2, tl_join2, tl_sp1, kS_pre, List.map_cons, joinL_sp]
  show _ = TL.joinL [32] (TL.tl kS :: [TL.tl r.1, TL.tl (num r.2)])
  rw [joinL_sp]
  simp
theorem pairs_flat3 {H : Hp} : ∀ {vs : List V} {rs : List (Str × Int × Int)}, (∀ r ∈ rs, isW r.1 = true ∧ 0 ≤ r.2.1 ∧ r.2.1 ≤ r.2.2 ∧ r.2.2 ≤ 1000) → Paired (Row3 H) vs rs → Paired (FlatRow H) vs (rs.map w3)
  | [], [], _, _ => .nil
  | _ :: _, r :: _, h, .cons a t => .cons (flat3 (h r (List.mem_cons_self ..)).1 (h r (List.mem_cons_self ..)).2 a) (pairs_flat3 (fun x hx => h x (List.mem_cons_of_mem _ hx)) t)
theorem pairs_flat2 {H : Hp} : ∀ {vs : List V} {rs : List (Str × Int)}, (∀ r ∈ rs, isW r.1 = true ∧ 0 ≤ r.2 ∧ r.2 ≤ 1000000000000) → Paired (Row2 H) vs rs → Paired (FlatRow H) vs (rs.map w2)
  | [], [], _, _ => .nil
  | _ :: _, r :: _, h, .cons a t => .cons (flat2 (h r (List.mem_cons_self ..)).1 (h r (List.mem_cons_self ..)).2 a) (pairs_flat2 (fun x hx => h x (List.mem_cons_of_mem _ hx)) t)
def part3 (W : Wd) : List Str := (W.ms.map w3).map (lineOf (Str.ofString "machine ")) ++ (W.cs.map w3).map (lineOf (Str.ofString "cleaning ")) ++ (W.ss.map w2).map (lineOf (Str.ofString "stuff "))
theorem page_lines (W : Wd) : part3 W ++ W.ps.map (fun p => pline p.1 p.2) = wlines W := by
  rw [lns_text]
  unfold part3 lns
  rw [List.map_append, List.map_append, List.map_append]
  simp only [List.map_map]
  rw [show (W.ms.map (lineOf (Str.ofString "machine ") ∘ w3)) = W.ms.map (lnT ∘ Ln.m) from List.map_congr_left fun r _ => line_m r,
    show (W.cs.map (lineOf (Str.ofString "cleaning ") ∘ w3)) = W.cs.map (lnT ∘ Ln.c) from List.map_congr_left fun r _ => line_c r,
    show (W.ss.map (lineOf (Str.ofString "stuff ") ∘ w2)) = W.ss.map (lnT ∘ Ln.s) from List.map_congr_left fun r _ => line_s r,
    show (W.ps.map fun p => pline p.1 p.2) = W.ps.map (lnT ∘ Ln.p) from List.map_congr_left fun r _ => pline_join r.1 r.2]
structure BltP (mg : Str → Option Value) : Prop where
  str : mg "str" = none
section
variable {P : Program} {w : World} {K : PySem.W.Frag} {mg : Str → Option Value} {base : Heap}
theorem scPage : FnScope nPage ["_law_world_here"] (defScope sPage) := ⟨rfl, rfl, rfl, by decide +kernel, rfl, by decide +kernel, by decide +kernel⟩
theorem ok_page {f : Addr} {fd : FuncData} (F : Fun K "_law_page" "_law_page" sPage f fd) (B : BltP mg) : FnOk P w K mg base CX0 1 f fd ["_law_world_here"] spPage := by
  refine F.ok scPage (fun vs H Q E h => ?_) (fun cdv A outer s H vs Q E hr h => ?_)
  · obtain ⟨p, W, rfl, _⟩ := h
    rfl
  · obtain ⟨p, W, rfl, ⟨a, b, c, d, va, vb, vc, vd, hp, ha, pa, hb, pb, hc, pc, hd, pd⟩, g, q⟩ := h
    refine ⟨_, pss_cons (ps_setLc (i := 1) (own := [("_law_row", 2)]) (g := gName 2) (te := teL K (Str.ofString "machine ")) (by rfl) scPage.nd rfl rfl (sw_true rfl rfl rfl (by decide +kernel)) (pi_list (pe_ix ix_list (pv 0) pe_int (fun _ _ => rfl))) (blkOk_by (own := [("_law_row", 2)]) (N := nPage) (sc := defScope sPage) (by decide +kernel))
        (fun _ _ _ _ _ => pg_name (i := 2) scPage.nd rfl (Or.inl rfl)) (fun _ _ _ _ _ => pts_nil)
        (fun _ _ _ _ _ => pe_op op_add_str pe_str (pe_join pe_str (pe_lc (own := [("_law_part", 3)]) (g := gName 3) (by rfl) scPage.nd (pi_tup (pv 2)) (blkOk_by (own := [("_law_part", 3)]) (N := nPage) (by rfl)) (fun _ _ _ _ _ => pg_name (i := 3) scPage.nd rfl (Or.inl rfl)) (fun _ _ _ _ _ => pts_nil)
          (fun _ _ _ _ _ => pe_callTy call_strAny (by rfl) B.str (by decide +kernel) (pa_cons (pv 3) pa_nil))))))
      (pss_cons (ps_set (i := 1) scPage.nd rfl (Or.inl rfl) (pe_op op_cat (pv 1) (pe_lc (own := [("_law_row", 2)]) (g := gName 2) (te := teL K (Str.ofString "cleaning ")) (by rfl) scPage.nd (pi_list (pe_ix ix_list (pv 0) pe_int (fun _ _ => rfl))) (blkOk_by (own := [("_law_row", 2)]) (N := nPage) (sc := defScope sPage) (by decide +kernel))
        (fun _ _ _ _ _ => pg_name (i := 2) scPage.nd rfl (Or.inl rfl)) (fun _ _ _ _ _ => pts_nil)
        (fun _ _ _ _ _ => pe_op op_add_str pe_str (pe_join pe_str (pe_lc (own := [("_law_part", 3)]) (g := gName 3) (by rfl) scPage.nd (pi_tup (pv 2)) (blkOk_by (own := [("_law_part", 3)]) (N := nPage) (by rfl)) (fun _ _ _ _ _ => pg_name (i := 3) scPage.nd rfl (Or.inl rfl)) (fun _ _ _ _ _ => pts_nil)
          (fun _ _ _ _ _ => pe_callTy call_strAny (by rfl) B.str (by decide +kernel) (pa_cons (pv 3) pa_nil))))))))
      (pss_cons (ps_set (i := 1) scPage.nd rfl (Or.inl rfl) (pe_op op_cat (pv 1) (pe_lc (own := [("_law_row", 2)]) (g := gName 2) (te := teL K (Str.ofString "stuff ")) (by rfl) scPage.nd (pi_list (pe_ix ix_list (pv 0) pe_int (fun _ _ => rfl))) (blkOk_by (own := [("_law_row", 2)]) (N := nPage) (sc := defScope sPage) (by decide +kernel))
        (fun _ _ _ _ _ => pg_name (i := 2) scPage.nd rfl (Or.inl rfl)) (fun _ _ _ _ _ => pts_nil)
        (fun _ _ _ _ _ => pe_op op_add_str pe_str (pe_join pe_str (pe_lc (own := [("_law_part", 3)]) (g := gName 3) (by rfl) scPage.nd (pi_tup (pv 2)) (blkOk_by (own := [("_law_part", 3)]) (N := nPage) (by rfl)) (fun _ _ _ _ _ => pg_name (i := 3) scPage.nd rfl (Or.inl rfl)) (fun _ _ _ _ _ => pts_nil)
          (fun _ _ _ _ _ => pe_callTy call_strAny (by rfl) B.str (by decide +kernel) (pa_cons (pv 3) pa_nil))))))))
      (pss_cons (ps_for PassesOwn.never rfl (pi_list (pe_ix ix_list (pv 0) pe_int (fun _ _ => rfl))) (pg_tup (by rfl) (pgs_cons (pg_name (i := 4) scPage.nd rfl (Or.inl rfl)) (pgs_cons (pg_name (i := 5) scPage.nd rfl (Or.inl rfl)) pgs_nil)))
        (pss_one (ps_expr (pe_bm PySem.F.plainAttrs_list PySem.F.slot_list_append PySem.F.type_list_append mt_append (pv 1) (pa_cons (pe_join pe_str (pe_op op_cat (pe_lst (pa_cons (pe_op op_add_str pe_str (pv 4)) pa_nil))
          (pe_lc (own := [("_law_low", 6), ("_law_high", 7)]) (g := gTup K 2 (gCons (gName 6) (gCons (gName 7) gNil))) (by rfl) scPage.nd (pi_tup (pv 5)) (blkOk_by (own := [("_law_low", 6), ("_law_high", 7)]) (N := nPage) (sc := defScope sPage) (by decide +kernel))
            (fun _ _ _ _ _ => pg_tup (by rfl) (pgs_cons (pg_name (i := 6) scPage.nd rfl (Or.inl rfl)) (pgs_cons (pg_name (i := 7) scPage.nd rfl (Or.inl rfl)) pgs_nil))) (fun _ _ _ _ _ => pts_nil)
            (fun _ _ _ _ _ => pe_op op_add_str (pe_op op_add_str (pe_callTy call_strAny (by rfl) B.str (by decide +kernel) (pa_cons (pv 6) pa_nil)) pe_str) (pe_callTy call_strAny (by rfl) B.str (by decide +kernel) (pa_cons (pv 7) pa_nil)))))) pa_nil)))))
      (pss_one (ps_ret (pe_join pe_str (pv 1))))))), ?_⟩
    have sz := sizeLine_eq
    have g1 := g.m2
    have g2 := g.c2
    have g3 := g.s2
    have g4 := g.p2
    have at0 : atI [V.ref a, .ref b, .ref c, .ref d] 0 = some (.ref a) := atI_nat (j := 0) rfl
    have at1 : atI [V.ref a, .ref b, .ref c, .ref d] 1 = some (.ref b) := atI_nat (j := 1) rfl
    have at2 : atI [V.ref a, .ref b, .ref c, .ref d] 2 = some (.ref c) := atI_nat (j := 2) rfl
    have at3 : atI [V.ref a, .ref b, .ref c, .ref d] 3 = some (.ref d) := atI_nat (j := 3) rfl
    have fm := pairs_flat3 (fun r hr => ⟨g.wm hr, g.mb r hr⟩) pa
    have fc := pairs_flat3 (fun r hr => ⟨g.wc hr, g.cb r hr⟩) pb
    have fs := pairs_flat2 (fun r hr => ⟨g.ws hr, g.sb r hr⟩) pc
    have fx : ∀ {G : Hp} {vs : List V} {wss : List (List Str)}, Ex H G → Paired (FlatRow H) vs wss → Paired (FlatRow G) vs wss := fun e h => L2.Paired.mapP h fun _ _ z => z.tup (Ex.tup e)
    refine rd_seqU (rd_asgU ?_)
    refine rd_lines (pre := Str.ofString "machine ") (vs := va) hp at0 ha fm (by rw [List.length_map]; omega) (by decide +kernel) fun D1 H1 x1 n1 e1 => ?_
    refine ⟨_, rfl, rd_lines (pre := Str.ofString "cleaning ") (vs := vb) (x1 _ _ hp) at1 (x1 _ _ hb) (fx x1 fc) (by rw [List.length_map]; omega) (by decide +kernel) fun D2 H2 x2 n2 e2 => ?_⟩
    refine ⟨D1, D2, _, _, rfl, rfl, x2 _ _ e1, e2, by simp only [List.length_map]; omega, fun D3 n3 => ?_⟩
    have y2 := x1.trans x2
    have x3 : Ex H2 (upd H2 D3 (.lst (((W.ms.map w3).map (lineOf (Str.ofString "machine "))).map V.str ++ ((W.cs.map w3).map (lineOf (Str.ofString "cleaning "))).map V.str))) := Ex.refl.new n3
    have e3 : (upd H2 D3 (.lst (((W.ms.map w3).map (lineOf (Str.ofString "machine "))).map V.str ++ ((W.cs.map w3).map (lineOf (Str.ofString "cleaning "))).map V.str))) D3 = some (.lst _) := upd_same
    generalize upd H2 D3 (.lst (((W.ms.map w3).map (lineOf (Str.ofString "machine "))).map V.str ++ ((W.cs.map w3).map (lineOf (Str.ofString "cleaning "))).map V.str)) = H3 at x3 e3 ⊢
    have y3 := y2.trans x3
    refine ⟨_, rfl, rd_lines (pre := Str.ofString "stuff ") (vs := vc) (y3 _ _ hp) at2 (y3 _ _ hc) (fx y3 fs) (by rw [List.length_map]; omega) (by decide +kernel) fun D4 H4 x4 n4 e4 => ?_⟩
    refine ⟨D3, D4, _, _, rfl, rfl, x4 _ _ e3, e4, by simp only [List.length_map, List.length_append]; omega, fun D5 n5 => ?_⟩
    have y4 := y3.trans x4
    rw [← List.map_append, ← List.map_append]
    rw [show (W.ms.map w3).map (lineOf (Str.ofString "machine ")) ++ (W.cs.map w3).map (lineOf (Str.ofString "cleaning ")) ++ (W.ss.map w2).map (lineOf (Str.ofString "stuff ")) = part3 W from rfl]
    have x5 : Ex H4 (upd H4 D5 (.lst ((part3 W).map V.str))) := Ex.refl.new n5
    have e5 : (upd H4 D5 (.lst ((part3 W).map V.str))) D5 = some (.lst ((part3 W).map V.str)) := upd_same
    have h5 : H D5 = none := y4.gone n5
    generalize upd H4 D5 (.lst ((part3 W).map V.str)) = H5 at x5 e5 ⊢
    have y5 := y4.trans x5
    have l3 : (part3 W).length ≤ 15 := by
      unfold part3
      simp only [List.length_append, List.length_map]
      omega
    have lp : vd.length = W.ps.length := Paired.size pd
    refine ⟨_, rfl, p, _, _, _, rfl, rfl, SqL.of (y5 _ _ hp), at3, d, rfl, ⟨_, SqL.of (y5 _ _ hd)⟩, for_list (K := K) (a := d) (xs := vd) (fun i σ G => (∃ v2 v3 v4 v5 v6 v7, σ = [some (.ref p), some (.ref D5), v2, v3, v4, v5, v6, v7]) ∧ Ex H G ∧ G D5 = some (.lst ((part3 W ++ (W.ps.take i).map fun x => pline x.1 x.2).map V.str))) ⟨⟨_, _, _, _, _, _, rfl⟩, y5, by rw [List.take_zero, List.map_nil, List.append_nil]; exact e5⟩ (fun i σ G _ h => SqL.of (h.2.1 _ _ hd)) ?_ ?_⟩
    · rintro i v σ G hv ⟨⟨v2, v3, v4, v5, v6, v7, rfl⟩, xG, eG⟩
      obtain ⟨⟨n, bs⟩, hr, a1, t1, ys, rfl, ea1, et1, pb1⟩ := Paired.spot pd hv
      have hm := List.mem_of_getElem? hr
      have ok := g.pb _ hm
      have w8 : n.length ≤ 8 := isW_8 (g.wp hm)
      have lb : bs.length ≤ 3 := by
        have := ok.1
        have : bs.length = W.ss.length := this
        omega
      have li : i < W.ps.length := (List.getElem?_eq_some_iff.mp hr).1
      refine ⟨a1, _, rfl, SqT.of (xG _ _ ea1), rfl, _, _, rfl, _, _, rfl, rfl, ?_⟩
      refine ⟨_, rfl, .inl ⟨rfl, _, SqL.of eG⟩, ?_⟩
      have l0 : (Str.ofString "product " ++ n).length ≤ 16 := by
        rw [Str.length_append, show (Str.ofString "product ").length = 8 by decide +kernel]
        omega
      refine ⟨⟨_, rfl⟩, _, rfl, _, _, rfl, rfl, ?_, (by rw [sz]; show 1 ≤ 16777216; decide), fun pl npl => ?_⟩
      · rw [show (Str.ofString "product ").length = 8 by decide +kernel]
        show 8 + n.length ≤ sizeLine
        omega
      have xl : Ex G (upd G pl (.lst [.str (Str.ofString "product " ++ n)])) := Ex.refl.new npl
      have el : (upd G pl (.lst [.str (Str.ofString "product " ++ n)])) pl = some (.lst [.str (Str.ofString "product " ++ n)]) := upd_same
      generalize upd G pl (.lst [.str (Str.ofString "product " ++ n)]) = G1 at xl el ⊢
      have z1 := xG.trans xl
      have et2 := z1 _ _ et1
      have pb2 := bnds (Ex.tup z1) pb1
      have yl : ys.length = bs.length := Paired.size pb1
      refine ⟨_, rfl, t1, rfl, ⟨_, SqT.of et2⟩, fun D nD => lc_tup (K := K) (a := t1) (xs := ys) (fun k G2 => Ex G1 G2 ∧ G2 D = some (.lst (((bs.take k).map bword).map V.str))) ⟨Ex.refl.new nD, upd_same⟩ (fun k G2 _ h => SqT.of (h.1 _ _ et2)) ?_ ?_⟩
      · rintro k v G2 hv ⟨x2, e2⟩
        obtain ⟨⟨lo, hi2⟩, hk, b2, rfl, hb2⟩ := Paired.spot pb2 hv
        obtain ⟨s1, s2, s3⟩ := ok.2 _ (List.mem_of_getElem? hk)
        have s1 : 0 ≤ lo := s1
        have s2 : lo ≤ hi2 := s2
        have s3 : hi2 ≤ 1000000000000 := s3
        have lk : k < bs.length := (List.getElem?_eq_some_iff.mp hk).1
        have l1 := num_len s1 (Int.le_trans s2 s3)
        have l2 := num_len (Int.le_trans s1 s2) s3
        have l4 : (Str.ofString "-").length = 1 := by decide +kernel
        refine ⟨b2, _, rfl, SqT.of (x2 _ _ hb2), rfl, _, _, rfl, _, _, rfl, rfl, rfl, ?_⟩
        refine ⟨_, rfl, .inr ⟨lo, rfl, num_log s1 (Int.le_trans s2 s3), _, _, rfl, rfl, by omega, _, rfl, .inr ⟨hi2, rfl, num_log (Int.le_trans s1 s2) s3, _, _, rfl, rfl, ?_, _, e2, ?_, x2.put nD, ?_⟩⟩⟩
        · rw [Str.length_append]
          omega
        · rw [List.length_map, List.length_map, List.length_take]
          omega
        · rw [upd_same, List.take_succ, hk, List.map_append, List.map_append]
          rfl
      · rintro G2 ⟨x2, e2⟩
        rw [yl, List.take_of_length_le (Nat.le_refl _)] at e2
        refine ⟨pl, D, _, _, rfl, rfl, x2 _ _ el, e2, by simp only [List.length_map, List.length_cons, List.length_nil]; omega, fun pj npj => ?_⟩
        have x3 : Ex G2 (upd G2 pj (.lst ([.str (Str.ofString "product " ++ n)] ++ (bs.map bword).map V.str))) := Ex.refl.new npj
        have e3 : (upd G2 pj (.lst ([.str (Str.ofString "product " ++ n)] ++ (bs.map bword).map V.str))) pj = some (.lst (((Str.ofString "product " ++ n) :: bs.map bword).map V.str)) := upd_same
        generalize upd G2 pj (.lst ([.str (Str.ofString "product " ++ n)] ++ (bs.map bword).map V.str)) = G3 at x3 e3 ⊢
        have z3 := xl.trans (x2.trans x3)
        have sb : ((bs.map bword).map (·.length)).sum ≤ bs.length * 30 := by
          rw [List.map_map]
          exact sum_most fun x hx => bword_len (ok.2 x hx)
        refine ⟨_, pj, (Str.ofString "product " ++ n) :: bs.map bword, rfl, rfl, .inl (SqL.of e3), ?_, D5, _, _, rfl, rfl, z3 _ _ eG, ?_, ⟨_, _, _, _, _, _, rfl⟩, (xG.trans z3).put h5, ?_⟩
        · rw [List.map_cons, List.sum_cons, List.length_cons, List.length_map, show (Str.ofString " ").length = 1 by decide +kernel]
          omega
        · simp only [List.length_map, List.length_append, List.length_take]
          omega
        · rw [upd_same, List.take_succ, hr]
          simp only [List.map_append, Option.toList, List.map_cons, List.map_nil, List.append_assoc]
          rw [← page_prod]
    · rintro σ G ⟨⟨v2, v3, v4, v5, v6, v7, rfl⟩, xG, eG⟩
      rw [lp, List.take_of_length_le (Nat.le_refl _), page_lines] at eG
      have tl := wtext_len g
      have sum : ((wlines W).map (·.length)).sum ≤ 10000 := by
        unfold wtext at tl
        rw [join_len] at tl
        omega
      have ll : (wlines W).length ≤ 23 := by
        rw [lns_text, List.length_map]
        exact lns_len g
      exact ⟨⟨_, rfl⟩, _, rfl, _, D5, wlines W, rfl, rfl, .inl (SqL.of eG), by rw [show (Str.ofString "\n").length = 1 by decide +kernel]; omega, q G xG⟩
end
end LJ
set_option Elab.async false
set_option linter.all false
set_option maxRecDepth 100000
set_option maxHeartbeats 8000000
namespace LJ
open PySem PySem.Spec L2
/-! Works as full as may be. -/
abbrev sFull : Stmt := top 47
abbrev nFull : List Str := ["_law_jar_here", "_law_letters", "_law_labels_here", "_law_k", "_law_machines_here", "_law_cleanings_here", "_law_stuffs_here", "_law_goods", "_law_each"]
def rMulS : R2 := fun x y H Q => ∃ z i, x = .str z ∧ y = .int i ∧ z.length ≤ 16 ∧ 0 ≤ i ∧ i ≤ 1000 ∧ Q (.str (Txt.mul z i)) H
theorem op_mulStr {X : Cx} : OpR X (binaryOp .Mult) rMulS := by
  rintro pins s σ H x y v u Q I rx ry ⟨z, i, rfl, rfl, lz, i0, i1, q⟩
  obtain ⟨t, rfl⟩ : ∃ t, v = Value.str z t := rx
  obtain ⟨t2, rfl⟩ : ∃ t, u = Value.int i t := ry
  exact PySem.W.KXi.mul rfl lz (by omega) (by omega) fun t' k _ _ => ⟨.str (Txt.mul z i), H, I.tok _, ⟨t', rfl⟩, q⟩
def letters : Str := Str.ofString "abcdefghijklmnopqrstuvw"
def fullLab : List Str := (List.range 23).map fun (k : Nat) => Txt.mul ⟨#[97 + k]⟩ (1 + (0 + (k : Int)) % 8)
theorem full_len : fullLab.length = 23 := by decide +kernel
theorem full_w : ∀ x ∈ fullLab, isW x = true := by decide +kernel
theorem full_nd : fullLab.Nodup := by decide +kernel
theorem letter_at : ∀ k : Nat, k < 23 → letters.cps.toList[k]? = some (97 + k) := by decide +kernel
theorem full_at {k : Nat} (h : k < 23) : fullLab[k]? = some (Txt.mul ⟨#[97 + k]⟩ (1 + (0 + (k : Int)) % 8)) := by
  unfold fullLab
  rw [List.getElem?_map, List.getElem?_range h]
  rfl
/-- the contents of one product -/
def teG (K : PySem.W.Frag) : TE := tTup (tCons (tOp (rIxL K) (tVar 2) (tOp (rI0 fun i j => V.int (i + j)) (tC (.int 15)) (tVar 3))) (tCons (tThen (tLc (iRng1 (tCons (tC (.int 3)) tNil)) (gName 8) tYes (tCall (spBounds 1000000000000) [] E0 (tCons (tVar 0) tNil)) [8]) (kTup K)) tNil))
def spFull : Sp := fun vs H Q _ => ∃ j : Addr, vs = [.ref j] ∧ JarAt H j ∧ ∀ (p : Addr) (W : Wd) (H1 : Hp), WorldAt H1 p W → GoodF W → JarAt H1 j → But j H H1 → H p = none → p ≠ j → Q (.ref p) H1
theorem full_parts : (fullLab.drop 0).take 6 ++ ((fullLab.drop 6).take 6 ++ ((fullLab.drop 12).take 3 ++ (fullLab.drop 15).take 8)) = fullLab := by decide +kernel
theorem small_big {n : Nat} (h : n ≤ 100) : n ≤ sizeLine := by
  rw [sizeLine_eq]
  omega
abbrev Sf (j pl : Addr) (v3 v4 v5 v6 v7 v8 : Option V) : L2.St := [some (.ref j), some (.str letters), some (.ref pl), v3, v4, v5, v6, v7, v8]
/-- rows of a name and two bounds -/
theorem rd_full3 {K : PySem.W.Frag} {j pl : Addr} {ls : List Str} {v3 v4 v5 v6 v7 v8 : Option V} {H : Hp} {Q : VK} {idx : TE} (off n : Nat) (hidx : ∀ (σ : L2.St) (G : Hp) (Q : VK) (i : Int), σ[3]? = some (some (.int i)) → Q (.int ((off : Int) + i)) G → idx σ G Q)
    (J : JarAt H j) (eL : H pl = some (.lst (ls.map V.str))) (npl : pl ≠ j) (hl : off + n ≤ ls.length) (hn : n ≤ 50)
    (q : ∀ (D : Addr) (H1 : Hp), JarAt H1 j → But j H H1 → H D = none → D ≠ j → (∃ ms, Rows3 H1 D ls off n ms) → Q (.ref D) H1) :
    tLc (iRng1 (tCons (tC (.int n)) tNil)) (gName 3) tYes (tOp (rCatT K) (tTup (tCons (tOp (rIxL K) (tVar 2) idx) tNil)) (tCall (spBounds 1000) [] E0 (tCons (tVar 0) tNil))) [3] (Sf j pl v3 v4 v5 v6 v7 v8) H Q := by
  refine ⟨_, rfl, by omega, by omega, fun D hD => lc_range (lo := 0) (fun i H2 => JarAt H2 j ∧ But j H H2 ∧ ∃ ms, Rows3 H2 D ls off i ms)
      ⟨J.new hD, But.refl.new hD, [], ⟨⟨[], upd_same, rfl, .nil⟩, by simp, fun r hr => nomatch hr⟩⟩ ?_ ?_⟩
  · rintro i H2 hi ⟨J2, b2, ms, ⟨vs, hv, hvl, hpr⟩, hnm, hbd⟩
    have lt : off + i < ls.length := by omega
    obtain ⟨x, hx⟩ : ∃ x, ls[off + i]? = some x := ⟨_, List.getElem?_eq_getElem lt⟩
    have dD : D ≠ j := J.ne hD
    have eL2 := b2 _ _ npl eL
    refine ⟨rfl, ?_⟩
    refine ⟨_, rfl, hidx _ _ _ (0 + (i : Int)) rfl ⟨pl, _, _, .str x, rfl, rfl, SqL.of eL2, lab_at (by omega) hx, small_big (Nat.le_of_ble_eq_true rfl), fun t1 nt1 => ?_⟩⟩
    have mt1 := J2.ne nt1
    refine ⟨_, rfl, j, rfl, J2.new nt1, fun p lo hi G3 l0 l1 l2 JG bG np mp e3 => ?_⟩
    have e1 := bG _ _ mt1 upd_same
    refine ⟨t1, p, _, _, rfl, rfl, SqT.of e1, SqT.of e3, (by simp), small_big (Nat.le_of_ble_eq_true rfl), (fun z => by cases z), fun _ q nq => ?_⟩
    have mq := JG.ne nq
    have bb : But j H (upd G3 q (.tup [.str x, .int lo, .int hi])) := (But.trans (b2.new nt1) bG).new nq
    have eD : (upd G3 q (.tup [.str x, .int lo, .int hi])) D = some (.lst vs) := by
      have z := bG _ _ dD (show (upd H2 t1 (.tup [.str x])) D = some (.lst vs) by rw [upd_ne (ne_of_none hv nt1)]; exact hv)
      rw [upd_ne (ne_of_none z nq)]
      exact z
    have tt : Tup H2 (upd G3 q (.tup [.str x, .int lo, .int hi])) := Tup.trans (Tup.new nt1) (Tup.trans (Tup.of (J2.new nt1) bG) (Tup.new nq))
    have hq : (upd G3 q (.tup [.str x, .int lo, .int hi])) q = some (.tup [.str x, .int lo, .int hi]) := upd_same
    have J4 := JG.new nq (o := .tup [.str x, .int lo, .int hi])
    refine ⟨vs, eD, ?_, J4.put dD, bb.put hD, ms ++ [(x, lo, hi)], ⟨⟨vs ++ [.ref q], upd_same, by rw [List.length_append, hvl]; rfl, ?_⟩, ?_, ?_⟩⟩
    · rw [sizeLine_eq, hvl]
      omega
    · have t5 : Tup (upd G3 q (.tup [.str x, .int lo, .int hi])) (upd (upd G3 q (.tup [.str x, .int lo, .int hi])) D (.lst (vs ++ [.ref q]))) := Tup.put eD
      exact Paired.snoc (L2.Paired.mapP hpr fun a b z => Row3.seq (Tup.trans tt t5) z) ⟨q, rfl, t5 _ _ hq⟩
    · rw [List.map_append, hnm, names_succ hx]
      rfl
    · intro r hr
      rcases List.mem_append.mp hr with h | h
      · exact hbd r h
      · obtain rfl := List.mem_singleton.mp h
        exact ⟨l0, l1, l2⟩
  · rintro H4 ⟨J4, b4, ms, R4⟩
    exact q D H4 J4 b4 hD (J.ne hD) ⟨ms, R4⟩
theorem rd_nameU {i : Nat} {v : V} {σ : L2.St} {H : Hp} {Q : L2.St → Hp → Prop} (h : Q (σ.set i (some v)) H) : gName i v σ H Q := h
structure BltF (mg : Str → Option Value) : Prop where
  range : mg "range" = none
  tuple : mg "tuple" = none
  int : mg "int" = none
section
variable {P : Program} {w : World} {K : PySem.W.Frag} {mg : Str → Option Value} {base : Heap}
theorem scFull : FnScope nFull ["_law_jar_here"] (defScope sFull) := ⟨rfl, rfl, rfl, by decide +kernel, rfl, by decide +kernel, by decide +kernel⟩
theorem ok_full {f fD fS fN : Addr} {fd fdD fdS fdN : FuncData} (F : Fun K "_law_full" "_law_full" sFull f fd) (T : BltF mg)
    (GD : FnOk P w K mg base CX0 1 fD fdD ["_law_jar_here", "_law_top"] spDip) (mD : mg "_law_dip" = some (.ref fD)) (kD : PySem.W.keepIn K (.ref fD) = true) (bD : Binds K fdD ["_law_jar_here", "_law_top"] [])
    (GS : FnOk P w K mg base CX0 3 fS fdS ["_law_jar_here"] (spBounds 1000)) (mS : mg "_law_shares" = some (.ref fS)) (kS : PySem.W.keepIn K (.ref fS) = true) (bS : Binds K fdS ["_law_jar_here"] [])
    (GN : FnOk P w K mg base CX0 3 fN fdN ["_law_jar_here"] (spBounds 1000000000000)) (mN : mg "_law_inside" = some (.ref fN)) (kN : PySem.W.keepIn K (.ref fN) = true) (bN : Binds K fdN ["_law_jar_here"] []) :
    FnOk P w K mg base CX0 4 f fd ["_law_jar_here"] spFull := by
  refine F.ok scFull (fun vs H Q E h => ?_) (fun cdv A outer s H vs Q E hr h => ?_)
  · obtain ⟨j, rfl, _⟩ := h
    rfl
  · obtain ⟨j, rfl, J, k⟩ := h
    have hr1 : Room 1 _ := hr.mono (by decide)
    have big : ∀ {n : Nat}, n ≤ 100 → n ≤ sizeLine := fun h => by rw [sizeLine_eq]; omega
    refine ⟨_, pss_cons (ps_set (i := 1) scFull.nd rfl (Or.inr rfl) pe_str)
      (pss_cons (ps_set (i := 2) scFull.nd rfl (Or.inr rfl) (pe_lc (own := [("_law_k", 3)]) (g := gName 3) (by rfl) scFull.nd (pi_range1 (by rfl) T.range (pa_cons pe_int pa_nil)) (blkOk_by (own := [("_law_k", 3)]) (N := nFull) (sc := defScope sFull) (by decide +kernel)) (fun _ _ _ _ _ => pg_name (i := 3) scFull.nd rfl (Or.inl rfl)) (fun _ _ _ _ _ => pts_nil)
        (fun _ _ _ _ _ => pe_op op_mulStr (pe_ix ix_str (pv 1) (pv 3) (fun _ _ => rfl)) (pe_op op_add pe_int (pe_op op_mod (pe_callTy call_int1 (by rfl) T.int (by decide +kernel) (pa_cons (pv 3) pa_nil)) pe_int)))))
      (pss_cons (ps_setLc (i := 4) (own := [("_law_k", 3)]) (g := gName 3) (by rfl) scFull.nd rfl rfl (sw_true rfl rfl rfl (by decide +kernel)) (pi_range1 (by rfl) T.range (pa_cons pe_int pa_nil)) (blkOk_by (own := [("_law_k", 3)]) (N := nFull) (sc := defScope sFull) (by decide +kernel)) (fun _ _ _ _ _ => pg_name (i := 3) scFull.nd rfl (Or.inl rfl)) (fun _ _ _ _ _ => pts_nil) (fun _ _ _ _ _ => pe_op (show OpR _ _ (rCatT K) from op_catT) (pe_tup (pa_cons (pe_ix (show IxR _ (rIxL K) from ix_list) (pv 2) (pv 3) (fun _ _ => rfl)) pa_nil)) (pe_call GS hr (by rfl) mS kS bS .nil pass0 (pa_cons (pv 0) pa_nil))))
      (pss_cons (ps_setLc (i := 5) (own := [("_law_k", 3)]) (g := gName 3) (by rfl) scFull.nd rfl rfl (sw_true rfl rfl rfl (by decide +kernel)) (pi_range1 (by rfl) T.range (pa_cons pe_int pa_nil)) (blkOk_by (own := [("_law_k", 3)]) (N := nFull) (sc := defScope sFull) (by decide +kernel)) (fun _ _ _ _ _ => pg_name (i := 3) scFull.nd rfl (Or.inl rfl)) (fun _ _ _ _ _ => pts_nil) (fun _ _ _ _ _ => pe_op (show OpR _ _ (rCatT K) from op_catT) (pe_tup (pa_cons (pe_ix (show IxR _ (rIxL K) from ix_list) (pv 2) (pe_op op_add pe_int (pv 3)) (fun _ _ => rfl)) pa_nil)) (pe_call GS hr (by rfl) mS kS bS .nil pass0 (pa_cons (pv 0) pa_nil))))
      (pss_cons (ps_setLc (i := 6) (own := [("_law_k", 3)]) (g := gName 3) (by rfl) scFull.nd rfl rfl (sw_true rfl rfl rfl (by decide +kernel)) (pi_range1 (by rfl) T.range (pa_cons pe_int pa_nil)) (blkOk_by (own := [("_law_k", 3)]) (N := nFull) (sc := defScope sFull) (by decide +kernel)) (fun _ _ _ _ _ => pg_name (i := 3) scFull.nd rfl (Or.inl rfl)) (fun _ _ _ _ _ => pts_nil)
        (fun _ _ _ _ _ => pe_tup (pa_cons (pe_ix (show IxR _ (rIxL K) from ix_list) (pv 2) (pe_op op_add pe_int (pv 3)) (fun _ _ => rfl)) (pa_cons (pe_call GD hr1 (by rfl) mD kD bD .nil pass0 (pa_cons (pv 0) (pa_cons (pe_op op_pow pe_int pe_int) pa_nil))) pa_nil))))
      (pss_cons (ps_setLc (i := 7) (own := [("_law_k", 3)]) (g := gName 3) (te := teG K) (by rfl) scFull.nd rfl rfl (sw_true rfl rfl rfl (by decide +kernel)) (pi_range1 (by rfl) T.range (pa_cons pe_int pa_nil)) (blkOk_by (own := [("_law_k", 3)]) (N := nFull) (sc := defScope sFull) (by decide +kernel)) (fun _ _ _ _ _ => pg_name (i := 3) scFull.nd rfl (Or.inl rfl)) (fun _ _ _ _ _ => pts_nil)
        (fun _ _ _ _ _ => pe_tup (pa_cons (pe_ix (show IxR _ (rIxL K) from ix_list) (pv 2) (pe_op op_add pe_int (pv 3)) (fun _ _ => rfl)) (pa_cons (pe_tupleOf (by rfl) T.tuple (pe_lc (own := [("_law_each", 8)]) (g := gName 8) (by rfl) scFull.nd (pi_range1 (by rfl) T.range (pa_cons pe_int pa_nil)) (blkOk_by (own := [("_law_each", 8)]) (N := nFull) (by rfl)) (fun _ _ _ _ _ => pg_name (i := 8) scFull.nd rfl (Or.inl rfl)) (fun _ _ _ _ _ => pts_nil)
          (fun _ _ _ _ _ => pe_call GN hr (by rfl) mN kN bN .nil pass0 (pa_cons (pv 0) pa_nil)))) pa_nil))))
      (pss_one (ps_ret (pe_lst (pa_cons (pv 4) (pa_cons (pv 5) (pa_cons (pv 6) (pa_cons (pv 7) pa_nil)))))))))))), ?_⟩
    refine ⟨_, rfl, by decide, by decide, fun pl hpl => lc_range (lo := 0) (n := 23) (fun n G => Ex H G ∧ G pl = some (.lst ((fullLab.take n).map V.str))) ⟨Ex.refl.new hpl, upd_same⟩ ?_ ?_⟩
    · rintro n G hn ⟨xG, eG⟩
      have hn : n < 23 := hn
      have ha := letter_at n hn
      have hf := full_at hn
      have m8 : (0 : Int) ≤ (0 + (n : Int)) % 8 ∧ (0 + (n : Int)) % 8 < 8 := ⟨Int.emod_nonneg _ (by decide), Int.emod_lt_of_pos _ (by decide)⟩
      refine ⟨rfl, _, rfl, _, rfl, letters, _, 97 + n, rfl, rfl, small_big (by decide +kernel), by rw [Int.zero_add]; exact atI_nat ha, ?_⟩
      refine ⟨_, rfl, .inl ⟨_, rfl, _, _, rfl, rfl, (by show (0 : Int) < 8; decide), _, _, rfl, rfl, ?_⟩⟩
      refine ⟨_, _, rfl, rfl, (by show 1 ≤ 16; decide), by omega, by omega, _, eG, ?_, xG.put hpl, ?_⟩
      · rw [List.length_map, List.length_take, sizeLine_eq]
        omega
      · rw [upd_same, List.take_succ, hf, List.map_append]
        rfl
    · rintro G ⟨xG, eG⟩
      rw [List.take_of_length_le (by rw [full_len]; exact Nat.le_refl 23)] at eG
      have JG : JarAt G j := by
        obtain ⟨x1, x2, x3, x4, x5⟩ := J
        exact ⟨x1, x2, x3, xG _ _ x4, x5⟩
      have npl : pl ≠ j := J.ne hpl
      have bG : But j H G := But.ex xG
      dsimp only
      refine rd_seqU (rd_asgU ?_)
      refine rd_full3 0 6 (fun σ G Q i h q => ⟨_, h, by rw [show ((0 : Nat) : Int) + i = i from Int.zero_add i] at q; exact q⟩) JG eG npl (by rw [full_len]; decide) (by decide) fun D1 H1 J1 b1 n1 m1 ⟨ms, R1⟩ => ?_
      have eL1 := b1 _ _ npl eG
      dsimp only
      refine rd_nameU (rd_seqU (rd_asgU ?_))
      refine rd_full3 6 6 (fun σ G Q i h q => ⟨_, h, _, _, rfl, rfl, q⟩) J1 eL1 npl (by rw [full_len]; decide) (by decide) fun D2 H2 J2 b2 n2 m2 ⟨cs, R2⟩ => ?_
      have eL2 := b2 _ _ npl eL1
      have R1a := R1.but J1 b2 m1
      dsimp only
      refine rd_nameU (rd_seqU (rd_asgU ?_))
      refine ⟨_, rfl, by decide, by decide, fun D3 hD3 => lc_range (lo := 0) (n := 3) (fun n G => JarAt G j ∧ But j H2 G ∧ ∃ ss, Rows2 G D3 fullLab 12 n ss) ⟨J2.new hD3, But.refl.new hD3, [], ⟨⟨[], upd_same, rfl, .nil⟩, rfl, fun r hr => nomatch hr⟩⟩ ?_ ?_⟩
      · rintro n G3 hn ⟨J3, b3, ss, ⟨vs, hv, hvl, hpr⟩, hnm, hbd⟩
        have hn : n < 3 := hn
        have lt : 12 + n < fullLab.length := by rw [full_len]; omega
        obtain ⟨x, hx⟩ : ∃ x, fullLab[12 + n]? = some x := ⟨_, List.getElem?_eq_getElem lt⟩
        have dD : D3 ≠ j := J2.ne hD3
        have eL3 := b3 _ _ npl eL2
        have p6 : (10 : Int) ^ ((6 : Int).toNat) = 1000000 := by decide
        refine ⟨rfl, _, rfl, _, rfl, _, _, rfl, rfl, pl, _, _, .str x, rfl, rfl, SqL.of eL3, lab_at (by omega) hx, ?_⟩
        refine ⟨_, rfl, _, _, rfl, rfl, ⟨by decide, by decide, by decide⟩, j, _, rfl, J3, by rw [p6]; decide, by rw [p6]; decide, fun r G4 r0 r1 J4 b4 => ⟨small_big (Nat.le_of_ble_eq_true rfl), fun q nq => ?_⟩⟩
        rw [p6] at r1
        have hv4 := b4 _ _ dD hv
        have eD : (upd G4 q (.tup [.str x, .int r])) D3 = some (.lst vs) := by
          rw [upd_ne (ne_of_none hv4 nq)]
          exact hv4
        have hq : (upd G4 q (.tup [.str x, .int r])) q = some (.tup [.str x, .int r]) := upd_same
        have tt : Tup G3 (upd G4 q (.tup [.str x, .int r])) := Tup.trans (Tup.of J3 b4) (Tup.new nq)
        have J5 := J4.new nq (o := .tup [.str x, .int r])
        have bb : But j H2 (upd G4 q (.tup [.str x, .int r])) := (But.trans b3 b4).new nq
        refine ⟨vs, eD, by rw [sizeLine_eq, hvl]; omega, J5.put dD, bb.put hD3, ss ++ [(x, r)], ⟨⟨vs ++ [.ref q], upd_same, by rw [List.length_append, hvl]; rfl, ?_⟩, ?_, ?_⟩⟩
        · have t5 : Tup (upd G4 q (.tup [.str x, .int r])) (upd (upd G4 q (.tup [.str x, .int r])) D3 (.lst (vs ++ [.ref q]))) := Tup.put eD
          exact Paired.snoc (L2.Paired.mapP hpr fun a b z => Row2.seq (Tup.trans tt t5) z) ⟨q, rfl, t5 _ _ hq⟩
        · rw [List.map_append, hnm, names_succ hx]
          rfl
        · intro y hy
          rcases List.mem_append.mp hy with h | h
          · exact hbd y h
          · obtain rfl := List.mem_singleton.mp h
            exact ⟨r0, by show r ≤ 1000000000000; omega⟩
      · rintro H3 ⟨J3, b3, ss, R3⟩
        have m3 : D3 ≠ j := J2.ne hD3
        have eL3 := b3 _ _ npl eL2
        have R1b := R1a.but J2 b3 m1
        have R2b := R2.but J2 b3 m2
        dsimp only
        refine rd_nameU (rd_seqU (rd_asgU ?_))
        refine ⟨_, rfl, by decide, by decide, fun D4 hD4 => lc_range (lo := 0) (n := 8) (fun n G => JarAt G j ∧ But j H3 G ∧ ∃ ps, RowsP G D4 fullLab 15 n 3 ps) ⟨J3.new hD4, But.refl.new hD4, [], ⟨⟨[], upd_same, rfl, .nil⟩, rfl, fun r hr => nomatch hr⟩⟩ ?_ ?_⟩
        · rintro n G4 hn ⟨J4, b4, ps, ⟨vs, hv, hvl, hpr⟩, hnm, hbd⟩
          have hn : n < 8 := hn
          have lt : 15 + n < fullLab.length := by rw [full_len]; omega
          obtain ⟨x, hx⟩ : ∃ x, fullLab[15 + n]? = some x := ⟨_, List.getElem?_eq_getElem lt⟩
          have dD : D4 ≠ j := J3.ne hD4
          have eL4 := b4 _ _ npl eL3
          refine ⟨rfl, _, rfl, _, rfl, _, _, rfl, rfl, pl, _, _, .str x, rfl, rfl, SqL.of eL4, lab_at (by omega) hx, ?_⟩
          refine ⟨_, rfl, by decide, by decide, fun E9 hE => lc_range (lo := 0) (n := 3) (fun i G2 => JarAt G2 j ∧ But j G4 G2 ∧ ∃ (ws : List V) (bs : List (Int × Int)), G2 E9 = some (.lst ws) ∧ ws.length = i ∧ Paired (Bnd G2) ws bs ∧ ∀ b ∈ bs, 0 ≤ b.1 ∧ b.1 ≤ b.2 ∧ b.2 ≤ 1000000000000) ⟨J4.new hE, But.refl.new hE, [], [], upd_same, rfl, .nil, fun b hb => nomatch hb⟩ ?_ ?_⟩
          · rintro i G2 il ⟨JG2, bG2, ws, bs, hw, hwl, hwp, hwb⟩
            have il : i < 3 := il
            have dE : E9 ≠ j := J4.ne hE
            refine ⟨rfl, ?_⟩
            refine ⟨_, rfl, j, rfl, JG2, fun p lo hi G3 l0 l1 l2 JG3 bG3 np mp e3 => ?_⟩
            have hw3 := bG3 _ _ dE hw
            refine ⟨ws, hw3, ?_, JG3.put dE, (But.trans bG2 bG3).put hE, ws ++ [.ref p], bs ++ [(lo, hi)], upd_same, by rw [List.length_append, hwl]; rfl, ?_, ?_⟩
            · rw [sizeLine_eq, hwl]
              omega
            · have t5 : Tup G3 (upd G3 E9 (.lst (ws ++ [.ref p]))) := Tup.put hw3
              exact Paired.snoc (L2.Paired.mapP hwp fun a b z => Bnd.seq (Tup.trans (Tup.of JG2 bG3) t5) z) ⟨p, rfl, t5 _ _ e3⟩
            · intro b hb
              rcases List.mem_append.mp hb with h | h
              · exact hwb b h
              · obtain rfl := List.mem_singleton.mp h
                exact ⟨l0, l1, l2⟩
          · rintro G2 ⟨JG2, bG2, ws, bs, hw, hwl, hwp, hwb⟩
            refine .inl ⟨E9, ws, rfl, SqL.of hw, fun t nt => ?_⟩
            refine ⟨small_big (Nat.le_of_ble_eq_true rfl), fun q nq => ?_⟩
            have f1 : (upd (upd G2 t (.tup ws)) q (.tup [.str x, .ref t])) q = some (.tup [.str x, .ref t]) := upd_same
            have f2 : (upd (upd G2 t (.tup ws)) q (.tup [.str x, .ref t])) t = some (.tup ws) := by
              rw [upd_ne (ne_of_none upd_same nq)]
              exact upd_same
            have T1 : Tup G2 (upd (upd G2 t (.tup ws)) q (.tup [.str x, .ref t])) := Tup.trans (Tup.new nt) (Tup.new nq)
            have B1 : But j G4 (upd (upd G2 t (.tup ws)) q (.tup [.str x, .ref t])) := (bG2.new nt).new nq
            have JX : JarAt (upd (upd G2 t (.tup ws)) q (.tup [.str x, .ref t])) j := (JG2.new nt).new nq
            generalize upd (upd G2 t (.tup ws)) q (.tup [.str x, .ref t]) = G5 at f1 f2 T1 B1 JX ⊢
            have hv4 := B1 _ _ dD hv
            have t5 : Tup G5 (upd G5 D4 (.lst (vs ++ [.ref q]))) := Tup.put hv4
            have tG : Tup G4 (upd G5 D4 (.lst (vs ++ [.ref q]))) := Tup.trans (Tup.of J4 B1) t5
            refine ⟨vs, hv4, by rw [sizeLine_eq, hvl]; omega, JX.put dD, (But.trans b4 B1).put hD4, ps ++ [(x, bs)], ⟨⟨vs ++ [.ref q], upd_same, by rw [List.length_append, hvl]; rfl, ?_⟩, ?_, ?_⟩⟩
            · exact Paired.snoc (L2.Paired.mapP hpr fun a b z => RowP.seq tG z) ⟨q, t, ws, rfl, t5 _ _ f1, t5 _ _ f2, L2.Paired.mapP hwp fun a b z => Bnd.seq (Tup.trans T1 t5) z⟩
            · rw [List.map_append, hnm, names_succ hx]
              rfl
            · intro r hr
              rcases List.mem_append.mp hr with h | h
              · exact hbd r h
              · obtain rfl := List.mem_singleton.mp h
                exact ⟨by rw [← Paired.len hwp, hwl], hwb⟩
        · rintro Hc ⟨Jc, bc, ps, Pc⟩
          have m4 : D4 ≠ j := J3.ne hD4
          refine ⟨_, rfl, _, rfl, _, rfl, _, rfl, small_big (Nat.le_of_ble_eq_true rfl), fun p np => ?_⟩
          have mp := Jc.ne np
          have Mc := R1b.but J3 bc m1
          have Cc := R2b.but J3 bc m2
          have Sc := R3.but J3 bc m3
          have bn : But j Hc (upd Hc p (.lst [.ref D1, .ref D2, .ref D3, .ref D4])) := But.refl.new np
          obtain ⟨⟨va, ha, la, pa⟩, na, ba'⟩ := Mc.but Jc bn m1
          obtain ⟨⟨vb, hb, lb, pb⟩, nb, bb'⟩ := Cc.but Jc bn m2
          obtain ⟨⟨vc, hc, lc, pc⟩, nc, bc'⟩ := Sc.but Jc bn m3
          obtain ⟨⟨vd, hd, ld, pd⟩, nd', bd'⟩ := Pc.but Jc bn m4
          have xa := Paired.len pa
          have xb := Paired.len pb
          have xc := Paired.len pc
          have xd := Paired.len pd
          have bAll : But j H Hc := But.trans bG (But.trans b1 (But.trans b2 (But.trans b3 bc)))
          refine k p ⟨ms, cs, ss, ps⟩ _ ⟨D1, D2, D3, D4, va, vb, vc, vd, upd_same, ha, pa, hb, pb, hc, pc, hd, pd⟩ ?_ (Jc.new np) (bAll.new np) (bAll.gone mp np) mp
          refine ⟨?_, ?_, ?_, ?_, ?_, ?_, ?_, ba', bb', bc', ?_, ?_, ?_⟩
          · show 1 ≤ ms.length
            omega
          · show ms.length ≤ 6
            omega
          · show cs.length ≤ 6
            omega
          · show 1 ≤ ss.length
            omega
          · show ss.length ≤ 3
            omega
          · show 1 ≤ ps.length
            omega
          · show ps.length ≤ 8
            omega
          · intro r hr
            obtain ⟨h1, h2⟩ := bd' r hr
            exact ⟨by show _ = ss.length; omega, h2⟩
          · show (ms.map (·.1) ++ (cs.map (·.1) ++ (ss.map (·.1) ++ ps.map (·.1)))).Nodup
            rw [na, nb, nc, nd', full_parts]
            exact full_nd
          · show ∀ x ∈ ms.map (·.1) ++ (cs.map (·.1) ++ (ss.map (·.1) ++ ps.map (·.1))), isW x = true
            rw [na, nb, nc, nd', full_parts]
            exact full_w
end
end LJ
set_option Elab.async false
set_option linter.all false
set_option maxRecDepth 100000
set_option maxHeartbeats 8000000
namespace LJ
open PySem PySem.Spec L2 PySem.ErrV
/-! Works as data. -/
/-- data that can be shown and compared -/
structure Shw (dep wt : Nat) (d : PyData) : Prop where
  lay : d.canLay0 = true
  dp : d.depth ≤ dep
  wt : d.weight ≤ wt
  ish : PyData.intsShort 13 d = true
  sh : d.showable = true
theorem num_len13 {i : Int} (h0 : 0 ≤ i) (h1 : i ≤ 1000000000000) : (num i).length ≤ 13 := by
  show (TL.tl (num i)).length ≤ 13
  rw [tl_num h0]
  refine TL.numL_len (by decide) ?_
  have : (10 : Nat) ^ 13 = 10000000000000 := by decide
  omega
theorem shw_int {i : Int} (h0 : 0 ≤ i) (h1 : i ≤ 1000000000000) : Shw 0 60 (.int i) where
  lay := rfl
  dp := Nat.le_refl _
  wt := by
    unfold PyData.weight
    split
    · omega
    · rename_i z
      have l : i.natAbs < 2 ^ 41 := by
        have : (2 : Nat) ^ 41 = 2199023255552 := by decide
        omega
      by_cases e : i.natAbs = 0
      · rw [e]
        decide
      · have := (Nat.log2_lt e).mpr l
        omega
  ish := decide_eq_true (num_len13 h0 h1)
  sh := decide_eq_true (num_log h0 h1)
theorem shw_str {z : Str} (h : isW z = true) : Shw 0 60 (.str z) where
  lay := by
    show PyData.strOk z = true
    unfold PyData.strOk
    rw [← Array.all_toList, List.all_eq_true]
    intro c hc
    unfold isW at h
    rw [Bool.and_eq_true, Bool.and_eq_true] at h
    have := List.all_eq_true.mp h.2.2 c hc
    rw [Bool.and_eq_true, decide_eq_true_eq, decide_eq_true_eq] at this
    exact decide_eq_true (by omega)
  dp := Nat.le_refl _
  wt := by
    show z.length ≤ 60
    have := isW_8 h
    omega
  ish := rfl
  sh := rfl
theorem Shw.mono {a b n m : Nat} {d : PyData} (h : Shw a n d) (x : a ≤ b) (y : n ≤ m) : Shw b m d := ⟨h.lay, Nat.le_trans h.dp x, Nat.le_trans h.wt y, h.ish, h.sh⟩
theorem shw_all {a n : Nat} : ∀ {ds : List PyData}, (∀ d ∈ ds, Shw a n d) → PyData.canLayAll0 ds = true ∧ PyData.depthAll ds ≤ a ∧ PyData.weightAll ds ≤ ds.length * (n + 1) ∧ PyData.intsShortAll 13 ds = true ∧ PyData.showableAll ds = true
  | [], _ => ⟨rfl, Nat.zero_le _, Nat.zero_le _, rfl, rfl⟩
  | d :: ds, h => by
    obtain ⟨h1, h2, h3, h4, h5⟩ := shw_all (ds := ds) fun x hx => h x (List.mem_cons_of_mem _ hx)
    obtain ⟨k1, k2, k3, k4, k5⟩ := h d (List.mem_cons_self ..)
    refine ⟨?_, ?_, ?_, ?_, ?_⟩
    · unfold PyData.canLayAll0
      rw [k1, h1]
      rfl
    · unfold PyData.depthAll
      omega
    · unfold PyData.weightAll
      rw [List.length_cons, Nat.add_mul]
      omega
    · unfold PyData.intsShortAll
      rw [k4, h4]
      rfl
    · unfold PyData.showableAll
      rw [k5, h5]
      rfl
theorem shw_tuple {a n m : Nat} {ds : List PyData} (h : ∀ d ∈ ds, Shw a n d) (l : ds.length ≤ m) : Shw (a + 1) (m * (n + 1)) (.tuple ds) := by
  obtain ⟨h1, h2, h3, h4, h5⟩ := shw_all h
  have l2 : ds.length * (n + 1) ≤ m * (n + 1) := Nat.mul_le_mul_right _ l
  refine ⟨h1, ?_, ?_, h4, h5⟩
  · unfold PyData.depth
    omega
  · unfold PyData.weight
    omega
theorem shw_list {a n m : Nat} {ds : List PyData} (h : ∀ d ∈ ds, Shw a n d) (l : ds.length ≤ m) : Shw (a + 1) (m * (n + 1)) (.list ds) := by
  obtain ⟨h1, h2, h3, h4, h5⟩ := shw_all h
  have l2 : ds.length * (n + 1) ≤ m * (n + 1) := Nat.mul_le_mul_right _ l
  refine ⟨h1, ?_, ?_, h4, h5⟩
  · unfold PyData.depth
    omega
  · unfold PyData.weight
    omega
theorem Shw.len {a n : Nat} {d : PyData} (h : Shw a n d) (x : a ≤ 64) (y : n ≤ 1000000) : d.shown.length ≤ sizeLine := by
  have z : d.layable0 = true := by
    unfold PyData.layable0
    rw [h.lay, decide_eq_true (p := d.depth ≤ 64) (Nat.le_trans h.dp x), decide_eq_true (p := d.weight ≤ 2 ^ 20) (Nat.le_trans h.wt (Nat.le_trans y (by decide)))]
    rfl
  have := PyData.shown_le_of_layable0 z h.ish
  rw [sizeLine_eq]
  omega
theorem Shw.shaped {a n : Nat} {d : PyData} (h : Shw a n d) (x : a ≤ 64) : SeqAt.shaped d = true := by
  unfold SeqAt.shaped
  rw [h.lay, decide_eq_true (p := d.depth ≤ 64) (Nat.le_trans h.dp x)]
  rfl
def dB (b : Int × Int) : PyData := .tuple [.int b.1, .int b.2]
def d3 (r : Str × Int × Int) : PyData := .tuple [.str r.1, .int r.2.1, .int r.2.2]
def d2 (r : Str × Int) : PyData := .tuple [.str r.1, .int r.2]
def dP (r : Str × List (Int × Int)) : PyData := .tuple [.str r.1, .tuple (r.2.map dB)]
def dW (W : Wd) : List PyData := [.tuple (W.ms.map d3), .tuple (W.cs.map d3), .tuple (W.ss.map d2), .tuple (W.ps.map dP)]
theorem shw_B {b : Int × Int} (s : Small b) : Shw 1 122 (dB b) := by
  obtain ⟨s1, s2, s3⟩ := s
  refine shw_tuple (a := 0) (n := 60) (ds := [.int b.1, .int b.2]) (m := 2) (fun d hd => ?_) (Nat.le_refl 2)
  simp only [List.mem_cons, List.not_mem_nil, or_false] at hd
  rcases hd with rfl | rfl
  · exact shw_int s1 (Int.le_trans s2 s3)
  · exact shw_int (Int.le_trans s1 s2) s3
theorem shw_3 {r : Str × Int × Int} (w : isW r.1 = true) (b : 0 ≤ r.2.1 ∧ r.2.1 ≤ r.2.2 ∧ r.2.2 ≤ 1000) : Shw 1 183 (d3 r) := by
  refine shw_tuple (a := 0) (n := 60) (ds := [.str r.1, .int r.2.1, .int r.2.2]) (m := 3) (fun d hd => ?_) (Nat.le_refl 3)
  simp only [List.mem_cons, List.not_mem_nil, or_false] at hd
  rcases hd with rfl | rfl | rfl
  · exact shw_str w
  · exact shw_int (by omega) (by omega)
  · exact shw_int (by omega) (by omega)
theorem shw_2 {r : Str × Int} (w : isW r.1 = true) (b : 0 ≤ r.2 ∧ r.2 ≤ 1000000000000) : Shw 1 122 (d2 r) := by
  refine shw_tuple (a := 0) (n := 60) (ds := [.str r.1, .int r.2]) (m := 2) (fun d hd => ?_) (Nat.le_refl 2)
  simp only [List.mem_cons, List.not_mem_nil, or_false] at hd
  rcases hd with rfl | rfl
  · exact shw_str w
  · exact shw_int b.1 b.2
theorem shw_P {r : Str × List (Int × Int)} (w : isW r.1 = true) (l : r.2.length ≤ 3) (b : ∀ x ∈ r.2, Small x) : Shw 3 1000 (dP r) := by
  have h1 : Shw 2 369 (.tuple (r.2.map dB)) := shw_tuple (m := 3) (fun d hd => by
    obtain ⟨x, hx, rfl⟩ := List.mem_map.mp hd
    exact shw_B (b x hx)) (by rw [List.length_map]; exact l)
  refine (shw_tuple (ds := [.str r.1, .tuple (r.2.map dB)]) (a := 2) (n := 369) (m := 2) (fun d hd => ?_) (Nat.le_refl 2)).mono (Nat.le_refl _) (by decide)
  simp only [List.mem_cons, List.not_mem_nil, or_false] at hd
  rcases hd with rfl | rfl
  · exact (shw_str w).mono (by decide) (by decide)
  · exact h1
theorem shw_W {W : Wd} (g : GoodF W) : Shw 5 100000 (.list (dW W)) := by
  have g1 := g.m2
  have g2 := g.c2
  have g3 := g.s2
  have g4 := g.p2
  refine (shw_list (ds := dW W) (a := 4) (n := 8008) (m := 4) (fun d hd => ?_) (Nat.le_refl 4)).mono (Nat.le_refl _) (by decide)
  unfold dW at hd
  simp only [List.mem_cons, List.not_mem_nil, or_false] at hd
  rcases hd with rfl | rfl | rfl | rfl
  · exact (shw_tuple (a := 1) (n := 183) (m := 8) (fun d hd => by
      obtain ⟨x, hx, rfl⟩ := List.mem_map.mp hd
      exact shw_3 (g.wm hx) (g.mb x hx)) (by rw [List.length_map]; omega)).mono (by decide) (by decide)
  · exact (shw_tuple (a := 1) (n := 183) (m := 8) (fun d hd => by
      obtain ⟨x, hx, rfl⟩ := List.mem_map.mp hd
      exact shw_3 (g.wc hx) (g.cb x hx)) (by rw [List.length_map]; omega)).mono (by decide) (by decide)
  · exact (shw_tuple (a := 1) (n := 122) (m := 8) (fun d hd => by
      obtain ⟨x, hx, rfl⟩ := List.mem_map.mp hd
      exact shw_2 (g.ws hx) (g.sb x hx)) (by rw [List.length_map]; omega)).mono (by decide) (by decide)
  · exact (shw_tuple (a := 3) (n := 1000) (m := 8) (fun d hd => by
      obtain ⟨x, hx, rfl⟩ := List.mem_map.mp hd
      have h := g.pb x hx
      exact shw_P (g.wp hx) (by omega) h.2) (by rw [List.length_map]; omega)).mono (by decide) (by decide)
/-! as what is shown -/
theorem rpAll_of {α : Type} {H : Hp} {f : α → PyData} : ∀ {vs : List V} {rs : List α}, Paired (fun v r => rp H (f r) v) vs rs → rpAll H (rs.map f) vs
  | _, _, .nil => by
    unfold rpAll
    rfl
  | v :: vs, r :: rs, .cons a t => by
    show rpAll H (f r :: rs.map f) (v :: vs)
    unfold rpAll
    exact ⟨v, vs, rfl, a, rpAll_of t⟩
theorem rp_B {H : Hp} {v : V} {b : Int × Int} (h : Bnd H v b) : rp H (dB b) v := by
  obtain ⟨a, rfl, e⟩ := h
  unfold dB rp
  exact ⟨a, _, rfl, e, by simp [rpAll, rp]⟩
theorem rp_3 {H : Hp} {v : V} {r : Str × Int × Int} (h : Row3 H v r) : rp H (d3 r) v := by
  obtain ⟨a, rfl, e⟩ := h
  unfold d3 rp
  exact ⟨a, _, rfl, e, by simp [rpAll, rp]⟩
theorem rp_2 {H : Hp} {v : V} {r : Str × Int} (h : Row2 H v r) : rp H (d2 r) v := by
  obtain ⟨a, rfl, e⟩ := h
  unfold d2 rp
  exact ⟨a, _, rfl, e, by simp [rpAll, rp]⟩
theorem rp_tup {α : Type} {H : Hp} {f : α → PyData} {a : Addr} {vs : List V} {rs : List α} (e : H a = some (.tup vs)) (h : Paired (fun v r => rp H (f r) v) vs rs) : rp H (.tuple (rs.map f)) (.ref a) := by
  unfold rp
  exact ⟨a, vs, rfl, e, rpAll_of h⟩
theorem rp_P {H : Hp} {v : V} {r : Str × List (Int × Int)} (h : RowP H v r) : rp H (dP r) v := by
  obtain ⟨a, t, vs, rfl, e, et, p⟩ := h
  have h1 : rp H (.tuple (r.2.map dB)) (.ref t) := rp_tup et (L2.Paired.mapP p fun _ _ z => rp_B z)
  unfold dP
  unfold rp
  refine ⟨a, _, rfl, e, ?_⟩
  unfold rpAll
  refine ⟨_, _, rfl, by unfold rp; rfl, ?_⟩
  unfold rpAll
  exact ⟨_, _, rfl, h1, by unfold rpAll; rfl⟩
end LJ
set_option Elab.async false
set_option linter.all false
set_option maxRecDepth 100000
set_option maxHeartbeats 8000000
namespace LJ
open PySem PySem.Spec L2 PySem.ErrV
open LamX (ExtN)
open NdefX (NTab TabsN)
abbrev sTold : Stmt := top 48
abbrev nTold : List Str := ["_law_world_here", "_law_mine", "_law_row", "_law_part", "_law_name_here", "_law_inside_here", "_law_k", "_law_spot", "_law_told"]
theorem passE0 {P : Program} {w : World} {X : Cx} : Passes (L2.CX P w) X E0 := by
  rintro pins σ H s e s' I ⟨a, B, H', cls, d, h1, h2, h3, h4, h5, h6, h7, h8⟩
  exact False.elim h8
def Method (K : PySem.W.Frag) (C : Addr) (name : Str) (G : Addr → FuncData → Prop) (B : FuncData → Prop) : Prop := ∃ f fd, G f fd ∧ Meth K C name f ∧ B fd
def Prp (P : Program) (w : World) (K : PySem.W.Frag) (mg : Str → Option Value) (base : Heap) (C : Addr) (name fl : Str) : Prop := ∃ p g fd, PropOf K C name p g ∧ FnOk P w K mg base CX0 1 g fd ["self"] (getSp C fl) ∧ Binds K fd ["self"] []
structure BltT (mg : Str → Option Value) : Prop where
  repr : mg "repr" = none
  tuple : mg "tuple" = none
  range : mg "range" = none
  len : mg "len" = none
/-- what the asking of works needs -/
structure Rt (P : Program) (w : World) (K : PySem.W.Frag) (mg : Str → Option Value) (base : Heap) (C CU : Addr) : Prop where
  cls : WCls K C
  hold : Method K C "hold" (fun f fd => FnOk P w K mg base (L2.CX P w) 3 f fd ["self", "machine"] (spFld K CU C "_holds")) fun fd => Binds K fd ["self", "machine"] [] ∧ ∃ g, KBn K fd ["self", "machine"] 1 ["machine"] g (fun vs zs => vs ++ zs)
  keep : Method K C "keep" (fun f fd => FnOk P w K mg base (L2.CX P w) 3 f fd ["self", "cleaning"] (spFld K CU C "_keeps")) fun fd => ∃ g, KBn K fd ["self", "cleaning"] 1 ["cleaning"] g (fun vs zs => vs ++ zs)
  limit : Method K C "limit" (fun f fd => FnOk P w K mg base (L2.CX P w) 3 f fd ["self", "stuff"] (spFld K CU C "_limits")) fun fd => Binds K fd ["self", "stuff"] [] ∧ ∃ g, KBn K fd ["self", "stuff"] 1 ["stuff"] g (fun vs zs => vs ++ zs)
  content : Method K C "content" (fun f fd => FnOk P w K mg base (L2.CX P w) 3 f fd ["self", "product", "stuff"] (spContent K CU C)) fun fd => Binds K fd ["self", "product", "stuff"] [] ∧ ∃ g, KBn K fd ["self", "product", "stuff"] 1 ["stuff", "product"] g (fun vs zs => vs ++ zs.reverse)
  decl : Method K C "declares" (fun f fd => FnOk P w K mg base (L2.CX P w) 4 f fd ["self", "product", "stuff"] (spDecl K CU C)) fun fd => Binds K fd ["self", "product", "stuff"] []
  p1 : Prp P w K mg base C "machines" "_machines"
  p2 : Prp P w K mg base C "cleanings" "_cleanings"
  p3 : Prp P w K mg base C "stuffs" "_stuffs"
  p4 : Prp P w K mg base C "products" "_products"
/-- what stands -/
structure Sc (C : Addr) (H : Hp) (p x am ac as ap : Addr) (W : Wd) : Prop where
  wa : WorldAt H p W
  wk : WorksAt C H x am ac as ap W
  dt : Data4 H am ac as ap W
theorem Sc.ex {C p x am ac as ap : Addr} {W : Wd} {H H1 : Hp} (e : Ex H H1) (h : Sc C H p x am ac as ap W) : Sc C H1 p x am ac as ap W := by
  obtain ⟨⟨a, b, c, d, va, vb, vc, vd, hp, ha, pa, hb, pb, hc, pc, hd, pd⟩, ⟨dx, D1, D2, D3, D4, b1, b2, v4, hx, ⟨g1, g2⟩, ⟨g3, g4⟩, g5, g6, g7⟩, ⟨⟨v1, m1, m2⟩, ⟨v2, m3, m4⟩, ⟨v3, m5, m6⟩, ⟨v5, m7, m8⟩⟩⟩ := h
  have t := Ex.tup e
  refine ⟨⟨a, b, c, d, va, vb, vc, vd, e _ _ hp, e _ _ ha, rows3 t pa, e _ _ hb, rows3 t pb, e _ _ hc, rows2 t pc, e _ _ hd, rowsP t pd⟩, ⟨dx, D1, D2, D3, D4, b1, b2, v4, e _ _ hx, ⟨e _ _ g1, bnds t g2⟩, ⟨e _ _ g3, bnds t g4⟩, e _ _ g5, e _ _ g6, L2.Paired.mapP g7 fun v q z => ?_⟩, ⟨⟨v1, e _ _ m1, rows3 t m2⟩, ⟨v2, e _ _ m3, rows3 t m4⟩, ⟨v3, e _ _ m5, rows2 t m6⟩, ⟨v5, e _ _ m7, rowsP t m8⟩⟩⟩
  obtain ⟨Dp, ys, z1, z2, z3⟩ := z
  exact ⟨Dp, ys, z1, e _ _ z2, bnds t z3⟩
/-- rows as a test of one thing: the same data on both sides -/
theorem lookup_zip {α : Type} : ∀ {names : List Str} {ds : List α} {i : Nat} {n : Str} {d : α}, names.Nodup → names[i]? = some n → ds[i]? = some d → (names.zip ds).lookup n = some d
  | n0 :: names, d0 :: ds, 0, n, d, _, h1, h2 => by
    obtain rfl := Option.some.inj h1
    obtain rfl := Option.some.inj h2
    simp [List.lookup]
  | n0 :: names, d0 :: ds, i + 1, n, d, nd, h1, h2 => by
    have nd2 := List.nodup_cons.mp nd
    have m : n ∈ names := List.mem_of_getElem? (by simpa using h1)
    have ne : (n == n0) = false := by
      have : n ≠ n0 := fun z => nd2.1 (z ▸ m)
      simpa using this
    have ih := lookup_zip (names := names) (ds := ds) nd2.2 (by simpa using h1) (by simpa using h2)
    simp [List.lookup, ne, ih]
  | [], _, _, _, _, _, h1, _ => by cases h1
  | _ :: _, [], _, _, _, _, _, h2 => by cases h2
theorem merge_at (s : Str) : ∀ {names : List Str} {vals : List V} (kvs : List (Key × V)), names.length = vals.length → names.Nodup →
    (s ∈ names → valV (mergeK kvs (under names vals)) (.inr s) = (names.zip vals).lookup s) ∧ (s ∉ names → valV (mergeK kvs (under names vals)) (.inr s) = valV kvs (.inr s))
  | [], [], kvs, _, _ => ⟨(fun h => absurd h List.not_mem_nil), fun _ => rfl⟩
  | n :: names, v :: vals, kvs, l, nd => by
    have nd2 := (List.nodup_cons.mp nd)
    have ih := merge_at s (names := names) (putK kvs (.inr n) v) (Nat.succ.inj l) nd2.2
    have unf : mergeK kvs (under (n :: names) (v :: vals)) = mergeK (putK kvs (.inr n) v) (under names vals) := rfl
    rw [unf]
    refine ⟨fun h => ?_, fun h => ?_⟩
    · by_cases e : s = n
      · subst e
        rw [ih.2 nd2.1, valV_put, if_pos rfl]
        simp [List.lookup]
      · rw [ih.1 ((List.mem_cons.mp h).resolve_left e)]
        have : (s == n) = false := by simpa using e
        simp [List.lookup, this]
    · have e : s ≠ n := fun z => h (z ▸ List.mem_cons_self ..)
      rw [ih.2 fun z => h (List.mem_cons_of_mem _ z), valV_put, if_neg]
      exact fun z => e (Sum.inr.inj z)
  | [], _ :: _, _, l, _ => nomatch l
  | _ :: _, [], _, l, _ => nomatch l
theorem und_at {names : List Str} {vals : List V} {i : Nat} {n : Str} {v : V} (nd : names.Nodup) (l : names.length = vals.length) (h1 : names[i]? = some n) (h2 : vals[i]? = some v) : und (dictOf names vals) (.str n) = some v := by
  have z := (merge_at n [] l nd).1 (List.mem_of_getElem? h1)
  show valV (mergeK [] (under names vals)) (.inr n) = some v
  rw [z]
  exact lookup_zip nd h1 h2
end LJ
set_option Elab.async false
set_option linter.all false
set_option maxRecDepth 100000
set_option maxHeartbeats 8000000
namespace LJ
open PySem PySem.Spec L2 PySem.ErrV
open LamX (ExtN)
/-! Readings of the lists that _law_told_right makes. -/
def teRest (K : PySem.W.Frag) : TE := tSl (rSlA K) (tVar 2) (tPart (tC (.int 1))) tNoPart
abbrev S9 (p x : Addr) (v2 v3 v4 v5 v6 v7 v8 : Option V) : L2.St := [some (.ref p), some (.ref x), v2, v3, v4, v5, v6, v7, v8]
theorem rd_nextU {D : Ends} {σ : L2.St} {H : Hp} (h : D.nx σ H) : tNext D σ H := h
theorem rd_cbU {r : List V → Hp → VK → Prop} {t : TA} {σ : L2.St} {H : Hp} {Q : VK} (h : t σ H fun vs H1 => r vs H1 Q) : tCB r t σ H Q := h
theorem rd_consU {te : TE} {t : TA} {σ : L2.St} {H : Hp} {Q : List V → Hp → Prop} (h : te σ H fun v H1 => t σ H1 fun vs H2 => Q (v :: vs) H2) : tCons te t σ H Q := h
theorem rd_ifU {c : TT} {t u : TS} {D : Ends} {σ : L2.St} {H : Hp} (h : c σ H fun b H1 => if b = true then t D σ H1 else u D σ H1) : tIfS c t u D σ H := h
theorem rd_testU {t : TE} {σ : L2.St} {H : Hp} {Q : Bool → Hp → Prop} (h : t σ H fun x H1 => ∃ k, x = .bl k ∧ Q k H1) : tTest t σ H Q := h
theorem rd_opU {r : R2} {ta tb : TE} {σ : L2.St} {H : Hp} {Q : VK} (h : ta σ H fun x H1 => tb σ H1 fun y H2 => r x y H2 Q) : tOp r ta tb σ H Q := h
mutual
def tupD : PyData → Bool
  | .tuple ds => tupDs ds
  | .list _ => false
  | .dict _ => false
  | _ => true
def tupDs : List PyData → Bool
  | [] => true
  | d :: ds => tupD d && tupDs ds
end
mutual
theorem rp_byTup {H H1 : Hp} (s : Tup H H1) : ∀ (d : PyData) (x : V), tupD d = true → rp H d x → rp H1 d x
  | .none, x, _, e => by
    unfold rp at e ⊢
    exact e
  | .bool b, x, _, e => by
    unfold rp at e ⊢
    exact e
  | .int i, x, _, e => by
    unfold rp at e ⊢
    exact e
  | .str z, x, _, e => by
    unfold rp at e ⊢
    exact e
  | .list ds, x, t, e => by
    unfold tupD at t
    cases t
  | .tuple ds, x, t, e => by
    unfold rp at e ⊢
    unfold tupD at t
    obtain ⟨a, xs, h1, h2, h3⟩ := e
    exact ⟨a, xs, h1, s _ _ h2, rpAll_byTup s ds xs t h3⟩
  | .dict ds, x, t, e => by
    unfold tupD at t
    cases t
theorem rpAll_byTup {H H1 : Hp} (s : Tup H H1) : ∀ (ds : List PyData) (xs : List V), tupDs ds = true → rpAll H ds xs → rpAll H1 ds xs
  | [], xs, _, e => by
    unfold rpAll at e ⊢
    exact e
  | d :: ds, xs, t, e => by
    unfold rpAll at e ⊢
    unfold tupDs at t
    rw [Bool.and_eq_true] at t
    obtain ⟨y, ys, h1, h2, h3⟩ := e
    exact ⟨y, ys, h1, rp_byTup s d y t.1 h2, rpAll_byTup s ds ys t.2 h3⟩
end
theorem tupDs_map {α : Type} {f : α → PyData} (h : ∀ a, tupD (f a) = true) : ∀ xs : List α, tupDs (xs.map f) = true
  | [] => rfl
  | x :: xs => by
    show tupDs (f x :: xs.map f) = true
    unfold tupDs
    rw [h x, tupDs_map h xs]
    rfl
theorem tup_B (b : Int × Int) : tupD (dB b) = true := rfl
theorem tup_3 (r : Str × Int × Int) : tupD (d3 r) = true := rfl
theorem tup_2 (r : Str × Int) : tupD (d2 r) = true := rfl
theorem tup_P (r : Str × List (Int × Int)) : tupD (dP r) = true := by
  unfold dP tupD tupDs tupDs tupDs tupD
  rw [tupDs_map tup_B]
  rfl
theorem dW_tup (W : Wd) : ∀ d ∈ dW W, tupD d = true := by
  intro d hd
  unfold dW at hd
  simp only [List.mem_cons, List.not_mem_nil, or_false] at hd
  rcases hd with rfl | rfl | rfl | rfl
  · unfold tupD
    exact tupDs_map tup_3 _
  · unfold tupD
    exact tupDs_map tup_3 _
  · unfold tupD
    exact tupDs_map tup_2 _
  · unfold tupD
    exact tupDs_map tup_P _
/-- v is a list with these rows -/
def PartD (G : Hp) (v : V) (d : PyData) : Prop := ∃ l vs ds, v = .ref l ∧ G l = some (.lst vs) ∧ d = .tuple ds ∧ rpAll G ds vs
theorem parts_dW {G : Hp} {p : Addr} {W : Wd} (h : WorldAt G p W) : ∃ ys, G p = some (.lst ys) ∧ Paired (PartD G) ys (dW W) := by
  obtain ⟨a, b, c, d, va, vb, vc, vd, hp, ha, pa, hb, pb, hc, pc, hd, pd⟩ := h
  exact ⟨_, hp, .cons ⟨a, va, _, rfl, ha, rfl, rpAll_of (L2.Paired.mapP pa fun _ _ z => rp_3 z)⟩ (.cons ⟨b, vb, _, rfl, hb, rfl, rpAll_of (L2.Paired.mapP pb fun _ _ z => rp_3 z)⟩
    (.cons ⟨c, vc, _, rfl, hc, rfl, rpAll_of (L2.Paired.mapP pc fun _ _ z => rp_2 z)⟩ (.cons ⟨d, vd, _, rfl, hd, rfl, rpAll_of (L2.Paired.mapP pd fun _ _ z => rp_P z)⟩ .nil)))⟩
theorem paired_mapM {α β : Type} {F G : α → β → Prop} : ∀ {xs : List α} {ys : List β}, Paired F xs ys → (∀ x y, y ∈ ys → F x y → G x y) → Paired G xs ys
  | _, _, .nil, _ => .nil
  | _, _, .cons a t, h => .cons (h _ _ (List.mem_cons_self ..) a) (paired_mapM t fun x y m z => h x y (List.mem_cons_of_mem _ m) z)
theorem rpAll_pair {G : Hp} : ∀ {vs : List V} {ds : List PyData}, Paired (fun v d => rp G d v) vs ds → rpAll G ds vs
  | _, _, .nil => by
    unfold rpAll
    rfl
  | v :: vs, d :: ds, .cons a t => by
    unfold rpAll
    exact ⟨v, vs, rfl, a, rpAll_pair t⟩
/-- [tuple(part) for part in world] -/
theorem rd_tuples {K : PySem.W.Frag} {p x : Addr} {v2 v3 v4 v5 v6 v7 v8 : Option V} {H : Hp} {Q : VK} {W : Wd} (h : WorldAt H p W) (q : ∀ D H1, Ex H H1 → rp H1 (.list (dW W)) (.ref D) → Q (.ref D) H1) :
    tLc (iList K (tVar 0)) (gName 3) tYes (tThen (tVar 3) (kTup K)) [3] (S9 p x v2 v3 v4 v5 v6 v7 v8) H Q := by
  obtain ⟨ys, hp, pr⟩ := parts_dW h
  have l4 : ys.length = 4 := Paired.size pr
  refine ⟨_, rfl, p, rfl, ⟨_, SqL.of hp⟩, fun D hD => lc_list (K := K) (a := p) (xs := ys) (fun i G => Ex H G ∧ ∃ ts, G D = some (.lst ts) ∧ Paired (fun v d => rp G d v) ts ((dW W).take i)) ⟨Ex.refl.new hD, [], upd_same, .nil⟩ (fun i G _ h => SqL.of (h.1 _ _ hp)) ?_ ?_⟩
  · rintro i v G hv ⟨xG, ts, eG, pG⟩
    obtain ⟨d, hd, l, vs, ds, rfl, hl, rfl, hr⟩ := Paired.spot pr hv
    have dt := dW_tup W _ (List.mem_of_getElem? hd)
    have tl := Paired.size pG
    rw [List.length_take, show (dW W).length = 4 from rfl] at tl
    refine ⟨rfl, _, rfl, .inl ⟨l, vs, rfl, SqL.of (xG _ _ hl), fun t nt => ⟨ts, ?_, by rw [sizeLine_eq]; omega, (xG.trans (Ex.refl.new nt)).put hD, ts ++ [.ref t], upd_same, ?_⟩⟩⟩
    · rw [upd_ne (ne_of_none eG nt)]
      exact eG
    · have t1 : Tup G (upd G t (.tup vs)) := Tup.new nt
      have eD : (upd G t (.tup vs)) D = some (.lst ts) := by
        rw [upd_ne (ne_of_none eG nt)]
        exact eG
      have t2 : Tup (upd G t (.tup vs)) (upd (upd G t (.tup vs)) D (.lst (ts ++ [.ref t]))) := Tup.put eD
      have tt := Tup.trans t1 t2
      rw [List.take_succ, hd]
      refine Paired.snoc (paired_mapM pG fun v d m z => rp_byTup tt d v (dW_tup W d (List.mem_of_mem_take m)) z) ?_
      unfold rp
      refine ⟨t, vs, rfl, t2 _ _ upd_same, ?_⟩
      unfold tupD at dt
      exact rpAll_byTup (Tup.trans (Ex.tup xG) tt) ds vs dt hr
  · rintro G ⟨xG, ts, eG, pG⟩
    have : (dW W).take ys.length = dW W := by
      rw [l4]
      rfl
    rw [this] at pG
    refine q D G xG ?_
    unfold rp
    exact ⟨D, ts, rfl, eG, rpAll_pair pG⟩
theorem dpAll_of {α : Type} {K : PySem.W.Frag} {H : Hp} {f : α → PyData} : ∀ {vs : List V} {rs : List α}, Paired (fun v r => Dp K H v (f r)) vs rs → DpAll K H vs (rs.map f)
  | _, _, .nil => .nil
  | _, _, .cons a t => .cons a (dpAll_of t)
theorem dp_B {K : PySem.W.Frag} {H : Hp} {v : V} {b : Int × Int} (h : Bnd H v b) : Dp K H v (dB b) := by
  obtain ⟨a, rfl, e⟩ := h
  exact .tup (SqT.of e) (.cons (.int _) (.cons (.int _) .nil))
theorem dp_bnds {K : PySem.W.Frag} {H : Hp} {D : Addr} {rs : List (Int × Int)} (h : LstOf Bnd H D rs) : Dp K H (.ref D) (.list (rs.map dB)) := by
  obtain ⟨v, h1, h2⟩ := h
  exact .lst (SqL.of h1) (dpAll_of (L2.Paired.mapP h2 fun _ _ z => dp_B z))
theorem btB : ByTup Bnd := fun _ _ _ _ t h => Bnd.seq t h
theorem shw_Bs {rs : List (Int × Int)} (h : ∀ b ∈ rs, Small b) (l : rs.length ≤ 10) : Shw 2 10000 (.list (rs.map dB)) :=
  (shw_list (a := 1) (n := 122) (m := 10) (fun d hd => by
    obtain ⟨x, hx, rfl⟩ := List.mem_map.mp hd
    exact shw_B (h x hx)) (by rw [List.length_map]; exact l)).mono (Nat.le_refl _) (by decide)
/-- [row[1:] for row in a list of rows] -/
theorem rd_rest {K : PySem.W.Frag} {p x b : Addr} {v2 v3 v4 v5 v6 v7 v8 : Option V} {H : Hp} {Q : VK} {k : Int} {items vs : List V} {rs : List (Str × Int × Int)} (hp : H p = some (.lst items)) (hk : atI items k = some (.ref b)) (hb : H b = some (.lst vs)) (pr : Paired (Row3 H) vs rs) (l : rs.length ≤ 10)
    (q : ∀ D H1, Ex H H1 → LstOf Bnd H1 D (rs.map (·.2)) → Q (.ref D) H1) :
    tLc (iList K (tOp (rIxL K) (tVar 0) (tC (.int k)))) (gName 2) tYes (teRest K) [2] (S9 p x v2 v3 v4 v5 v6 v7 v8) H Q := by
  have vl := Paired.size pr
  refine ⟨_, rfl, p, _, _, _, rfl, rfl, SqL.of hp, hk, b, rfl, ⟨_, SqL.of hb⟩, fun D hD => lc_list (K := K) (a := b) (xs := vs) (fun i G => Ex H G ∧ LstOf Bnd G D ((rs.take i).map (·.2))) ⟨Ex.refl.new hD, [], upd_same, .nil⟩ (fun i G _ h => SqL.of (h.1 _ _ hb)) ?_ ?_⟩
  · rintro i v G hv ⟨xG, ts, eG, pG⟩
    obtain ⟨r, hr, a, rfl, ha⟩ := Paired.spot pr hv
    have tl := Paired.size pG
    rw [List.length_map, List.length_take] at tl
    refine ⟨rfl, _, rfl, 1, rfl, a, _, rfl, SqT.of (xG _ _ ha), fun z => ?_, fun _ t nt => ?_⟩
    · obtain ⟨z1, _⟩ := z
      cases z1
    · rw [cut_drop1]
      have e1 : (upd G t (.tup [.int r.2.1, .int r.2.2])) t = some (.tup [.int r.2.1, .int r.2.2]) := upd_same
      have eD : (upd G t (.tup [.int r.2.1, .int r.2.2])) D = some (.lst ts) := by
        rw [upd_ne (ne_of_none eG nt)]
        exact eG
      have t1 : Tup G (upd G t (.tup [.int r.2.1, .int r.2.2])) := Tup.new nt
      have x1 : Ex G (upd G t (.tup [.int r.2.1, .int r.2.2])) := Ex.refl.new nt
      refine ⟨ts, eD, by rw [sizeLine_eq]; omega, (xG.trans x1).put hD, ?_⟩
      rw [List.take_succ, hr, List.map_append]
      exact LstOf.add btB (R := Bnd) eD (L2.Paired.mapP pG fun _ _ z => Bnd.seq t1 z) ⟨t, rfl, e1⟩
  · rintro G ⟨xG, h⟩
    rw [vl, List.take_of_length_le (Nat.le_refl _)] at h
    exact q D G xG h
/-- [mine.hold(row[0]) ..], [mine.keep(row[0]) ..]: by any way of asking that a row's name gives the bounds under it -/
theorem rd_asked {K : PySem.W.Frag} {p x b : Addr} {v2 v3 v4 v5 v6 v7 v8 : Option V} {H : Hp} {Q : VK} {k : Int} {items vs b1 : List V} {rs : List (Str × Int × Int)} {te : TE} (hp : H p = some (.lst items)) (hk : atI items k = some (.ref b)) (hb : H b = some (.lst vs)) (pr : Paired (Row3 H) vs rs) (l : rs.length ≤ 10) (pb : Paired (Bnd H) b1 (rs.map (·.2)))
    (ask : ∀ (i : Nat) (v y : V) (r : Str × Int × Int) (G : Hp) (Q : VK), Ex H G → rs[i]? = some r → b1[i]? = some y → Row3 G v r → Q y G → te (S9 p x (some v) v3 v4 v5 v6 v7 v8) G Q)
    (q : ∀ D H1, Ex H H1 → LstOf Bnd H1 D (rs.map (·.2)) → Q (.ref D) H1) :
    tLc (iList K (tOp (rIxL K) (tVar 0) (tC (.int k)))) (gName 2) tYes te [2] (S9 p x v2 v3 v4 v5 v6 v7 v8) H Q := by
  have vl := Paired.size pr
  have bl := Paired.size pb
  rw [List.length_map] at bl
  refine ⟨_, rfl, p, _, _, _, rfl, rfl, SqL.of hp, hk, b, rfl, ⟨_, SqL.of hb⟩, fun D hD => lc_list (K := K) (a := b) (xs := vs) (fun i G => Ex H G ∧ LstOf Bnd G D ((rs.take i).map (·.2))) ⟨Ex.refl.new hD, [], upd_same, .nil⟩ (fun i G _ h => SqL.of (h.1 _ _ hb)) ?_ ?_⟩
  · rintro i v G hv ⟨xG, ts, eG, pG⟩
    obtain ⟨r, hr, row⟩ := Paired.spot pr hv
    have lt : i < rs.length := (List.getElem?_eq_some_iff.mp hr).1
    obtain ⟨y, hy⟩ : ∃ y, b1[i]? = some y := ⟨_, List.getElem?_eq_getElem (by omega)⟩
    obtain ⟨r2, hr2, bnd⟩ := Paired.spot pb hy
    rw [List.getElem?_map, hr] at hr2
    obtain rfl := Option.some.inj hr2
    have tl := Paired.size pG
    rw [List.length_map, List.length_take] at tl
    refine ⟨rfl, ask i v y r G _ xG hr hy (row.seq (Ex.tup xG)) ⟨ts, eG, by rw [sizeLine_eq]; omega, xG.put hD, ?_⟩⟩
    rw [List.take_succ, hr, List.map_append]
    exact LstOf.add btB (R := Bnd) eG pG (bnd.seq (Ex.tup xG))
  · rintro G ⟨xG, h⟩
    rw [vl, List.take_of_length_le (Nat.le_refl _)] at h
    exact q D G xG h
def IntIs (_ : Hp) (v : V) (m : Int) : Prop := v = .int m
theorem btI : ByTup IntIs := fun _ _ _ _ _ h => h
theorem dp_ints {K : PySem.W.Frag} {H : Hp} {D : Addr} {rs : List Int} (h : LstOf IntIs H D rs) : Dp K H (.ref D) (.list (rs.map PyData.int)) := by
  obtain ⟨v, h1, h2⟩ := h
  exact .lst (SqL.of h1) (dpAll_of (L2.Paired.mapP h2 fun v m z => by
    have z : v = .int m := z
    rw [z]
    exact .int m))
theorem shw_ints {rs : List Int} (h : ∀ m ∈ rs, 0 ≤ m ∧ m ≤ 1000000000000) (l : rs.length ≤ 10) : Shw 1 10000 (.list (rs.map PyData.int)) :=
  (shw_list (a := 0) (n := 60) (m := 10) (fun d hd => by
    obtain ⟨x, hx, rfl⟩ := List.mem_map.mp hd
    exact shw_int (h x hx).1 (h x hx).2) (by rw [List.length_map]; exact l)).mono (Nat.le_refl _) (by decide)
theorem rd_ints {K : PySem.W.Frag} {p x b : Addr} {v2 v3 v4 v5 v6 v7 v8 : Option V} {H : Hp} {Q : VK} {k : Int} {items vs : List V} {rs : List (Str × Int)} {te : TE} (hp : H p = some (.lst items)) (hk : atI items k = some (.ref b)) (hb : H b = some (.lst vs)) (pr : Paired (Row2 H) vs rs) (l : rs.length ≤ 10)
    (ask : ∀ (i : Nat) (v : V) (r : Str × Int) (G : Hp) (Q : VK), Ex H G → rs[i]? = some r → Row2 G v r → Q (.int r.2) G → te (S9 p x (some v) v3 v4 v5 v6 v7 v8) G Q)
    (q : ∀ D H1, Ex H H1 → LstOf IntIs H1 D (rs.map (·.2)) → Q (.ref D) H1) :
    tLc (iList K (tOp (rIxL K) (tVar 0) (tC (.int k)))) (gName 2) tYes te [2] (S9 p x v2 v3 v4 v5 v6 v7 v8) H Q := by
  have vl := Paired.size pr
  refine ⟨_, rfl, p, _, _, _, rfl, rfl, SqL.of hp, hk, b, rfl, ⟨_, SqL.of hb⟩, fun D hD => lc_list (K := K) (a := b) (xs := vs) (fun i G => Ex H G ∧ LstOf IntIs G D ((rs.take i).map (·.2))) ⟨Ex.refl.new hD, [], upd_same, .nil⟩ (fun i G _ h => SqL.of (h.1 _ _ hb)) ?_ ?_⟩
  · rintro i v G hv ⟨xG, ts, eG, pG⟩
    obtain ⟨r, hr, row⟩ := Paired.spot pr hv
    have lt : i < rs.length := (List.getElem?_eq_some_iff.mp hr).1
    have tl := Paired.size pG
    rw [List.length_map, List.length_take] at tl
    refine ⟨rfl, ask i v r G _ xG hr (row.seq (Ex.tup xG)) ⟨ts, eG, by rw [sizeLine_eq]; omega, xG.put hD, ?_⟩⟩
    rw [List.take_succ, hr, List.map_append]
    exact LstOf.add btI (R := IntIs) eG pG rfl
  · rintro G ⟨xG, h⟩
    rw [vl, List.take_of_length_le (Nat.le_refl _)] at h
    exact q D G xG h
end LJ
set_option Elab.async false
set_option linter.all false
set_option maxRecDepth 100000
set_option maxHeartbeats 8000000
namespace LJ
open PySem PySem.Spec L2 PySem.ErrV
open LamX (ExtN)
open NdefX (NTab TabsN)
def spTold (C : Addr) : Sp := fun vs H Q _ => ∃ (p x am ac as ap : Addr) (W : Wd), vs = [.ref p, .ref x] ∧ Sc C H p x am ac as ap W ∧ GoodF W ∧ ∀ H1, Ex H H1 → Q (.bl true) H1
section
variable {P : Program} {w : World} {K : PySem.W.Frag} {mg : Str → Option Value} {base : Heap} {C CU : Addr}
theorem scTold : FnScope nTold ["_law_world_here", "_law_mine"] (defScope sTold) := ⟨rfl, rfl, rfl, by decide +kernel, rfl, by decide +kernel, by decide +kernel⟩
theorem ok_told {f : Addr} {fd : FuncData} (F : Fun K "_law_told_right" "_law_told_right" sTold f fd) (B : BltT mg) (R : Rt P w K mg base C CU) : FnG P w K mg base 5 f fd ["_law_world_here", "_law_mine"] (spTold C) := by
  refine F.okG scTold (fun vs H Q E h => ?_) (fun cdv A outer s H vs Q hgA hr h => ?_)
  · obtain ⟨p, x, am, ac, as, ap, W, rfl, _⟩ := h
    rfl
  · obtain ⟨p, x, am, ac, as, ap, W, rfl, sc, g, q⟩ := h
    have hgd : (A.deeper (PyProof.Rows.envOfC "_law_told_right" (defScope sTold) s.heap.objs.size f cdv)).guards = some [] := hgA
    have c := R.cls
    obtain ⟨fH, fdH, GH, mH, bH, gH, bHK⟩ := R.hold
    obtain ⟨fK, fdK, GK, mK, gK, bK⟩ := R.keep
    obtain ⟨fL, fdL, GL, mL, bL, gL, bLK⟩ := R.limit
    obtain ⟨fC, fdC, GC, mC, bC, gC, bCK⟩ := R.content
    obtain ⟨fD, fdD, GD, mD, bD⟩ := R.decl
    obtain ⟨p1, g1, fd1, P1, G1, b1⟩ := R.p1
    obtain ⟨p2, g2, fd2, P2, G2, b2⟩ := R.p2
    obtain ⟨p3, g3, fd3, P3, G3, b3⟩ := R.p3
    obtain ⟨p4, g4, fd4, P4, G4, b4⟩ := R.p4
    have hr4 : Room 4 (A.deeper (PyProof.Rows.envOfC "_law_told_right" (defScope sTold) s.heap.objs.size f cdv)) := hr
    have hr3 : Room 3 (A.deeper (PyProof.Rows.envOfC "_law_told_right" (defScope sTold) s.heap.objs.size f cdv)) := hr.mono (by decide)
    have hr2 : Room 2 (A.deeper (PyProof.Rows.envOfC "_law_told_right" (defScope sTold) s.heap.objs.size f cdv)) := hr.mono (by decide)
    have hu64 : (A.deeper (PyProof.Rows.envOfC "_law_told_right" (defScope sTold) s.heap.objs.size f cdv)).units + 64 < cLine := by
      have := hr4.un
      omega
    have hu150 : (A.deeper (PyProof.Rows.envOfC "_law_told_right" (defScope sTold) s.heap.objs.size f cdv)).units + 150 < cLine := by
      have := hr4.un
      omega
    refine ⟨_, pss_cons (ps_if (pt_cmpR op_ne (pe_callB (call_repr_data hgd hu150) (by rfl) B.repr (by decide +kernel) (pa_cons (pe_lst (pa_cons (pe_prop (pv 1) c.cl P1 G1 hr2 b1 .nil pass0 (by rfl)) (pa_cons (pe_prop (pv 1) c.cl P2 G2 hr2 b2 .nil pass0 (by rfl)) (pa_cons (pe_prop (pv 1) c.cl P3 G3 hr2 b3 .nil pass0 (by rfl)) (pa_cons (pe_prop (pv 1) c.cl P4 G4 hr2 b4 .nil pass0 (by rfl)) pa_nil))))) pa_nil)) (pe_callB (call_repr_data hgd hu150) (by rfl) B.repr (by decide +kernel) (pa_cons (pe_lc (own := [("_law_part", 3)]) (g := gName 3) (te := tThen (tVar 3) (kTup K)) (by rfl) scTold.nd (pi_list (pv 0)) (blkOk_by (own := [("_law_part", 3)]) (N := nTold) (sc := defScope sTold) (by decide +kernel)) (fun _ _ _ _ _ => pg_name (i := 3) scTold.nd rfl (Or.inl rfl)) (fun _ _ _ _ _ => pts_nil) (fun _ _ _ _ _ => pe_tupleOf (by rfl) B.tuple (pv 3))) pa_nil)) (nomark _)) (pss_one (ps_ret pe_bl)) pss_nil)
      (pss_cons (ps_if (pt_cmpR (op_neD hu64) (pe_lc (own := [("_law_row", 2)]) (g := gName 2) (te := tMeth C "hold" (spFld K CU C "_holds") [] E0 (tVar 1) (tCons (tOp (rIxT K) (tVar 2) (tC (.int 0))) tNil)) (by rfl) scTold.nd (pi_list (pe_ix ix_list (pv 0) pe_int (fun _ _ => rfl))) (blkOk_by (own := [("_law_row", 2)]) (N := nTold) (sc := defScope sTold) (by decide +kernel)) (fun _ _ _ _ _ => pg_name (i := 2) scTold.nd rfl (Or.inl rfl)) (fun _ _ _ _ _ => pts_nil) (fun _ _ _ _ _ => pe_meth (pv 1) c.cl mH GH hr3 bH .nil passE0 (pa_cons (pe_ix (show IxR _ (rIxT K) from ix_tup) (pv 2) pe_int (fun _ _ => rfl)) pa_nil))) (pe_lc (own := [("_law_row", 2)]) (g := gName 2) (te := teRest K) (by rfl) scTold.nd (pi_list (pe_ix ix_list (pv 0) pe_int (fun _ _ => rfl))) (blkOk_by (own := [("_law_row", 2)]) (N := nTold) (sc := defScope sTold) (by decide +kernel)) (fun _ _ _ _ _ => pg_name (i := 2) scTold.nd rfl (Or.inl rfl)) (fun _ _ _ _ _ => pts_nil) (fun _ _ _ _ _ => pe_slice (show SlR _ (rSlA K) from sl_tupA) (pv 2) (po_some pe_int) po_none)) (nomark _)) (pss_one (ps_ret pe_bl)) pss_nil)
      (pss_cons (ps_if (pt_cmpR (op_neD hu64) (pe_lc (own := [("_law_row", 2)]) (g := gName 2) (te := tMethK C "keep" (spFld K CU C "_keeps") ([("cleaning" : Str)]).length (fun vs zs => vs ++ zs) E0 (tVar 1) (tCons (tOp (rIxT K) (tVar 2) (tC (.int 0))) tNil)) (by rfl) scTold.nd (pi_list (pe_ix ix_list (pv 0) pe_int (fun _ _ => rfl))) (blkOk_by (own := [("_law_row", 2)]) (N := nTold) (sc := defScope sTold) (by decide +kernel)) (fun _ _ _ _ _ => pg_name (i := 2) scTold.nd rfl (Or.inl rfl)) (fun _ _ _ _ _ => pts_nil) (fun _ _ _ _ _ => pe_methK (pv 1) c.cl mK GK hr3 bK passE0 (pk_cons (pe_ix (show IxR _ (rIxT K) from ix_tup) (pv 2) pe_int (fun _ _ => rfl)) pk_nil))) (pe_lc (own := [("_law_row", 2)]) (g := gName 2) (te := teRest K) (by rfl) scTold.nd (pi_list (pe_ix ix_list (pv 0) pe_int (fun _ _ => rfl))) (blkOk_by (own := [("_law_row", 2)]) (N := nTold) (sc := defScope sTold) (by decide +kernel)) (fun _ _ _ _ _ => pg_name (i := 2) scTold.nd rfl (Or.inl rfl)) (fun _ _ _ _ _ => pts_nil) (fun _ _ _ _ _ => pe_slice (show SlR _ (rSlA K) from sl_tupA) (pv 2) (po_some pe_int) po_none)) (nomark _)) (pss_one (ps_ret pe_bl)) pss_nil)
      (pss_cons (ps_if (pt_cmpR (op_neD hu64) (pe_lc (own := [("_law_row", 2)]) (g := gName 2) (te := tMeth C "limit" (spFld K CU C "_limits") [] E0 (tVar 1) (tCons (tOp (rIxT K) (tVar 2) (tC (.int 0))) tNil)) (by rfl) scTold.nd (pi_list (pe_ix ix_list (pv 0) pe_int (fun _ _ => rfl))) (blkOk_by (own := [("_law_row", 2)]) (N := nTold) (sc := defScope sTold) (by decide +kernel)) (fun _ _ _ _ _ => pg_name (i := 2) scTold.nd rfl (Or.inl rfl)) (fun _ _ _ _ _ => pts_nil) (fun _ _ _ _ _ => pe_meth (pv 1) c.cl mL GL hr3 bL .nil passE0 (pa_cons (pe_ix (show IxR _ (rIxT K) from ix_tup) (pv 2) pe_int (fun _ _ => rfl)) pa_nil))) (pe_lc (own := [("_law_row", 2)]) (g := gName 2) (te := tOp (rIxT K) (tVar 2) (tC (.int 1))) (by rfl) scTold.nd (pi_list (pe_ix ix_list (pv 0) pe_int (fun _ _ => rfl))) (blkOk_by (own := [("_law_row", 2)]) (N := nTold) (sc := defScope sTold) (by decide +kernel)) (fun _ _ _ _ _ => pg_name (i := 2) scTold.nd rfl (Or.inl rfl)) (fun _ _ _ _ _ => pts_nil) (fun _ _ _ _ _ => pe_ix (show IxR _ (rIxT K) from ix_tup) (pv 2) pe_int (fun _ _ => rfl))) (nomark _)) (pss_one (ps_ret pe_bl)) pss_nil)
      (pss_cons (ps_for PassesOwn.never rfl (pi_list (pe_ix ix_list (pv 0) pe_int (fun _ _ => rfl))) (pg_tup (by rfl) (pgs_cons (pg_name (i := 4) scTold.nd rfl (Or.inl rfl)) (pgs_cons (pg_name (i := 5) scTold.nd rfl (Or.inl rfl)) pgs_nil)))
        (pss_one (ps_for PassesOwn.never rfl (pi_range1 (by rfl) B.range (pa_cons (pe_callB call_len_seq (by rfl) B.len (by decide +kernel) (pa_cons (pe_ix ix_list (pv 0) pe_int (fun _ _ => rfl)) pa_nil)) pa_nil)) (pg_name (i := 6) scTold.nd rfl (Or.inl rfl))
          (pss_cons (ps_set (i := 7) scTold.nd rfl (Or.inl rfl) (pe_ix ix_tup (pe_ix ix_list (pe_ix ix_list (pv 0) pe_int (fun _ _ => rfl)) (pv 6) (fun _ _ => rfl)) pe_int (fun _ _ => rfl)))
          (pss_cons (ps_set (i := 8) scTold.nd rfl (Or.inl rfl) (pe_lst (pa_cons (pe_meth (pv 1) c.cl mC GC hr3 bC .nil passE0 (pa_cons (pv 4) (pa_cons (pv 7) pa_nil))) (pa_cons (pe_methK (pv 1) c.cl mC GC hr3 bCK passE0 (pk_cons (pv 7) (pk_cons (pv 4) pk_nil))) pa_nil))))
          (pss_one (ps_if (PW.pt (pw_or (pt_cmpR (op_neD hu64) (pv 8) (pe_op op_rep (pe_lst (pa_cons (pe_ix ix_tup (pv 5) (pv 6) (fun _ _ => rfl)) pa_nil)) pe_int) (nomark _))
            (pw_or1 (pt_cmpR op_ne (pe_callB (call_repr_data hgd hu150) (by rfl) B.repr (by decide +kernel) (pa_cons (pe_meth (pv 1) c.cl mD GD hr4 bD .nil passE0 (pa_cons (pv 4) (pa_cons (pv 7) pa_nil))) pa_nil)) (pe_callB (call_repr_data hgd hu150) (by rfl) B.repr (by decide +kernel) (pa_cons (pe_cmpR op_gt (pe_ix ix_tup (pe_ix ix_tup (pv 5) (pv 6) (fun _ _ => rfl)) pe_int (fun _ _ => rfl)) pe_int (nomark _)) pa_nil)) (nomark _))))) (pss_one (ps_ret pe_bl)) pss_nil)))))))
      (pss_cons (ps_if (pt_cmpR (op_neD hu64) (pe_methK (pv 1) c.cl mH GH hr3 bHK passE0 (pk_cons (pe_ix ix_tup (pe_ix ix_list (pe_ix ix_list (pv 0) pe_int (fun _ _ => rfl)) pe_int (fun _ _ => rfl)) pe_int (fun _ _ => rfl)) pk_nil)) (pe_slice (show SlR _ (rSlA K) from sl_tupA) (pe_ix ix_list (pe_ix ix_list (pv 0) pe_int (fun _ _ => rfl)) pe_int (fun _ _ => rfl)) (po_some pe_int) po_none) (nomark _)) (pss_one (ps_ret pe_bl)) pss_nil)
      (pss_one (ps_ret (pe_cmpR op_eq (pe_methK (pv 1) c.cl mL GL hr3 bLK passE0 (pk_cons (pe_ix ix_tup (pe_ix ix_list (pe_ix ix_list (pv 0) pe_int (fun _ _ => rfl)) pe_int (fun _ _ => rfl)) pe_int (fun _ _ => rfl)) pk_nil)) (pe_ix ix_tup (pe_ix ix_list (pe_ix ix_list (pv 0) pe_int (fun _ _ => rfl)) pe_int (fun _ _ => rfl)) pe_int (fun _ _ => rfl)) (nomark _))))))))), ?_⟩
    have st : ∀ {z : Str}, isW z = true → ∀ {G : Hp}, St K G (.str z) := fun {z} h {G} => .str z (by have := isW_8 h; rw [sizeLine_eq]; omega)
    obtain ⟨a, b, cc, d, va, vb, vc, vd, hp, ha, pa, hb, pb, hc, pc, hd, pd⟩ := sc.wa
    obtain ⟨dx, D1, D2, D3, D4, bb1, bb2, v4, hx, ⟨k1, k2⟩, ⟨k3, k4⟩, k5, k6, k7⟩ := sc.wk
    have g1 := g.m2
    have g2 := g.c2
    have g3 := g.s2
    have g4 := g.p2
    have gs1 := g.s1
    have gm1 := g.m1
    have ndm : (W.ms.map (·.1)).Nodup := (List.nodup_append.mp g.nd).1
    have nd2 := (List.nodup_append.mp g.nd).2.1
    have ndc : (W.cs.map (·.1)).Nodup := (List.nodup_append.mp nd2).1
    have nd3 := (List.nodup_append.mp nd2).2.1
    have nds : (W.ss.map (·.1)).Nodup := (List.nodup_append.mp nd3).1
    have ndp : (W.ps.map (·.1)).Nodup := (List.nodup_append.mp nd3).2.1
    have l1 : bb1.length = W.ms.length := by
      have := Paired.size k2
      rw [List.length_map] at this
      exact this
    have l2 : bb2.length = W.cs.length := by
      have := Paired.size k4
      rw [List.length_map] at this
      exact this
    have l4 : v4.length = W.ps.length := Paired.size k7
    have at0 : atI [V.ref a, .ref b, .ref cc, .ref d] 0 = some (.ref a) := atI_nat (j := 0) rfl
    have at1 : atI [V.ref a, .ref b, .ref cc, .ref d] 1 = some (.ref b) := atI_nat (j := 1) rfl
    have at2 : atI [V.ref a, .ref b, .ref cc, .ref d] 2 = some (.ref cc) := atI_nat (j := 2) rfl
    have at3 : atI [V.ref a, .ref b, .ref cc, .ref d] 3 = some (.ref d) := atI_nat (j := 3) rfl
    have SW := shw_W g
    obtain ⟨⟨w1, m1, m2⟩, ⟨w2, m3, m4⟩, ⟨w3, m5, m6⟩, ⟨w4, m7, m8⟩⟩ := sc.dt
    -- repr of the four tuples
    refine ⟨_, rfl, x, dx, _, rfl, hx, x, dx, _, _, rfl, hx, rfl, _, rfl, x, dx, _, rfl, hx, x, dx, _, _, rfl, hx, rfl, _, rfl, x, dx, _, rfl, hx, x, dx, _, _, rfl, hx, rfl, _, rfl, x, dx, _, rfl, hx, x, dx, _, _, rfl, hx, rfl, (by rw [sizeLine_eq]; show 4 ≤ 16777216; decide), fun L nL => ?_⟩
    have xL : Ex H (upd H L (.lst [.ref am, .ref ac, .ref as, .ref ap])) := Ex.refl.new nL
    have eL : (upd H L (.lst [.ref am, .ref ac, .ref as, .ref ap])) L = some (.lst [.ref am, .ref ac, .ref as, .ref ap]) := upd_same
    generalize upd H L (.lst [.ref am, .ref ac, .ref as, .ref ap]) = H1 at xL eL ⊢
    have r1 : rp H1 (.list (dW W)) (.ref L) := by
      have t := Ex.tup xL
      unfold rp
      refine ⟨L, _, rfl, eL, ?_⟩
      unfold dW
      refine rpAll_pair (.cons (rp_tup (xL _ _ m1) (L2.Paired.mapP m2 fun _ _ z => rp_3 (z.seq t))) (.cons (rp_tup (xL _ _ m3) (L2.Paired.mapP m4 fun _ _ z => rp_3 (z.seq t))) (.cons (rp_tup (xL _ _ m5) (L2.Paired.mapP m6 fun _ _ z => rp_2 (z.seq t))) (.cons (rp_tup (xL _ _ m7) (L2.Paired.mapP m8 fun _ _ z => rp_P (z.seq t))) .nil))))
    refine ⟨_, .list (dW W), rfl, .inl r1, SW.sh, Nat.le_trans SW.dp (by decide), SW.len (by decide) (by decide), ?_⟩
    try dsimp only
    refine rd_cbU (rd_consU ?_)
    refine rd_tuples (sc.ex xL).wa fun L2 H2 x2 r2 => ?_
    refine ⟨_, .list (dW W), rfl, .inl r2, SW.sh, Nat.le_trans SW.dp (by decide), SW.len (by decide) (by decide), ?_⟩
    refine ⟨rfl, _, rfl, ?_⟩
    refine ite2 (fun z => by rw [decide_eq_true rfl] at z; cases z) (fun _ => ?_)
    have y2 := xL.trans x2
    -- the holds
    refine rd_nextU ?_
    try dsimp only
    refine rd_seqU (rd_ifU (rd_testU (rd_opU ?_)))
    have tt2 := Ex.tup y2
    refine rd_asked (b1 := bb1) (rs := W.ms) (y2 _ _ hp) at0 (y2 _ _ ha) (rows3 tt2 pa) (by omega) (bnds tt2 k2) (fun i v y r G Q xG hr hy row hq => ?_) fun E1 H3 x3 h3 => ?_
    · obtain ⟨ra, rfl, re⟩ := row
      have z := y2.trans xG
      refine ⟨_, rfl, x, dx, _, rfl, z _ _ hx, rfl, _, rfl, ra, _, _, _, rfl, rfl, SqT.of re, atI_nat (j := 0) rfl, x, dx, D1, _, _, .str r.1, rfl, z _ _ hx, rfl, z _ _ k1, st (g.wm (List.mem_of_getElem? hr)), ?_⟩
      unfold Tells
      rw [und_at ndm (by rw [List.length_map, l1]) (by rw [List.getElem?_map, hr]; rfl) hy]
      exact hq
    have y3 := y2.trans x3
    have tt3 := Ex.tup y3
    try dsimp only
    refine rd_rest (y3 _ _ hp) at0 (y3 _ _ ha) (rows3 tt3 pa) (by omega) fun E2 H4 x4 h4 => ?_
    have S1 := shw_Bs (rs := W.ms.map (·.2)) (fun r hr => by
      obtain ⟨y, hy, rfl⟩ := List.mem_map.mp hr
      have := g.mb y hy
      exact ⟨this.1, this.2.1, by have := this.2.2; omega⟩) (by rw [List.length_map]; omega)
    refine ⟨_, _, dp_bnds (h3.exx btB x4), dp_bnds h4, S1.shaped (by decide), S1.shaped (by decide), _, rfl, ?_⟩
    rw [SeqAt.eqv_refl _ S1.lay]
    refine ite2 (fun z => by cases z) (fun _ => ?_)
    have y4 := y3.trans x4
    -- the keeps
    refine rd_nextU ?_
    try dsimp only
    refine rd_seqU (rd_ifU (rd_testU (rd_opU ?_)))
    have tt4 := Ex.tup y4
    refine rd_asked (b1 := bb2) (rs := W.cs) (y4 _ _ hp) at1 (y4 _ _ hb) (rows3 tt4 pb) (by omega) (bnds tt4 k4) (fun i v y r G Q xG hr hy row hq => ?_) fun E3 H5 x5 h5 => ?_
    · obtain ⟨ra, rfl, re⟩ := row
      have z := y4.trans xG
      refine ⟨_, rfl, x, dx, _, rfl, z _ _ hx, rfl, _, rfl, ra, _, _, _, rfl, rfl, SqT.of re, atI_nat (j := 0) rfl, rfl, x, dx, D2, _, _, .str r.1, rfl, z _ _ hx, rfl, z _ _ k3, st (g.wc (List.mem_of_getElem? hr)), ?_⟩
      unfold Tells
      rw [und_at ndc (by rw [List.length_map, l2]) (by rw [List.getElem?_map, hr]; rfl) hy]
      exact hq
    have y5 := y4.trans x5
    have tt5 := Ex.tup y5
    try dsimp only
    refine rd_rest (y5 _ _ hp) at1 (y5 _ _ hb) (rows3 tt5 pb) (by omega) fun E4 H6 x6 h6 => ?_
    have S2 := shw_Bs (rs := W.cs.map (·.2)) (fun r hr => by
      obtain ⟨y, hy, rfl⟩ := List.mem_map.mp hr
      have := g.cb y hy
      exact ⟨this.1, this.2.1, by have := this.2.2; omega⟩) (by rw [List.length_map]; omega)
    refine ⟨_, _, dp_bnds (h5.exx btB x6), dp_bnds h6, S2.shaped (by decide), S2.shaped (by decide), _, rfl, ?_⟩
    rw [SeqAt.eqv_refl _ S2.lay]
    refine ite2 (fun z => by cases z) (fun _ => ?_)
    have y6 := y5.trans x6
    -- the limits
    refine rd_nextU ?_
    try dsimp only
    refine rd_seqU (rd_ifU (rd_testU (rd_opU ?_)))
    have tt6 := Ex.tup y6
    refine rd_ints (rs := W.ss) (y6 _ _ hp) at2 (y6 _ _ hc) (rows2 tt6 pc) (by omega) (fun i v r G Q xG hr row hq => ?_) fun E5 H7 x7 h7 => ?_
    · obtain ⟨ra, rfl, re⟩ := row
      have z := y6.trans xG
      refine ⟨_, rfl, x, dx, _, rfl, z _ _ hx, rfl, _, rfl, ra, _, _, _, rfl, rfl, SqT.of re, atI_nat (j := 0) rfl, x, dx, D3, _, _, .str r.1, rfl, z _ _ hx, rfl, z _ _ k5, st (g.ws (List.mem_of_getElem? hr)), ?_⟩
      unfold Tells
      rw [und_at nds (by rw [List.length_map, List.length_map]) (by rw [List.getElem?_map, hr]; rfl) (by rw [List.getElem?_map, hr]; rfl)]
      exact hq
    have y7 := y6.trans x7
    have tt7 := Ex.tup y7
    try dsimp only
    refine rd_ints (rs := W.ss) (y7 _ _ hp) at2 (y7 _ _ hc) (rows2 tt7 pc) (by omega) (fun i v r G Q xG hr row hq => ?_) fun E6 H8 x8 h8 => ?_
    · obtain ⟨ra, rfl, re⟩ := row
      exact ⟨_, rfl, ra, _, _, _, rfl, rfl, SqT.of re, atI_nat (j := 1) rfl, hq⟩
    have S3 := shw_ints (rs := W.ss.map (·.2)) (fun r hr => by
      obtain ⟨y, hy, rfl⟩ := List.mem_map.mp hr
      exact g.sb y hy) (by rw [List.length_map]; omega)
    refine ⟨_, _, dp_ints (h7.exx btI x8), dp_ints h8, S3.shaped (by decide), S3.shaped (by decide), _, rfl, ?_⟩
    rw [SeqAt.eqv_refl _ S3.lay]
    refine ite2 (fun z => by cases z) (fun _ => ?_)
    have y8 := y7.trans x8
    refine rd_nextU ?_
    try dsimp only
    refine rd_seqU ?_
    have lc : vc.length = W.ss.length := Paired.size pc
    have lvd : vd.length = W.ps.length := Paired.size pd
    refine ⟨_, rfl, p, _, _, _, rfl, rfl, SqL.of (y8 _ _ hp), at3, d, rfl, ⟨_, SqL.of (y8 _ _ hd)⟩, for_list (K := K) (a := d) (xs := vd) (fun i σ G => (∃ v2 v3 v4 v5 v6 v7 v8, σ = S9 p x v2 v3 v4 v5 v6 v7 v8) ∧ Ex H G) ⟨⟨_, _, _, _, _, _, _, rfl⟩, y8⟩ (fun i σ G _ h => SqL.of (h.2 _ _ hd)) ?_ ?_⟩
    · rintro i v σ G hv ⟨⟨v2, v3, u4, v5, v6, v7, v8, rfl⟩, xG⟩
      obtain ⟨⟨n, bs⟩, hr, a1, t1, ys, rfl, ea1, et1, pb1⟩ := Paired.spot pd hv
      have hm := List.mem_of_getElem? hr
      have ok := g.pb _ hm
      have lb : bs.length = W.ss.length := ok.1
      have lb2 : ys.length = bs.length := Paired.size pb1
      have stn : ∀ {G : Hp}, St K G (.str n) := st (g.wp hm)
      obtain ⟨vi, hvi⟩ : ∃ vi, v4[i]? = some vi := ⟨_, List.getElem?_eq_getElem (by rw [l4, ← lvd]; exact (List.getElem?_eq_some_iff.mp hv).1)⟩
      obtain ⟨r2, hr2, Dp, ys2, rfl, hDp, pb2⟩ := Paired.spot k7 hvi
      rw [hr] at hr2
      obtain rfl := Option.some.inj hr2
      have lb3 : ys2.length = bs.length := Paired.size pb2
      have u1 := und_at ndp (by rw [List.length_map, l4]) (show (W.ps.map (·.1))[i]? = some n by rw [List.getElem?_map, hr]; rfl) hvi
      refine ⟨a1, _, rfl, SqT.of (xG _ _ ea1), rfl, _, _, rfl, _, _, rfl, rfl, ?_⟩
      refine ⟨_, rfl, p, _, _, _, rfl, rfl, SqL.of (xG _ _ hp), at2, cc, vc, rfl, .inl (SqL.of (xG _ _ hc)), _, rfl, by omega, by omega, for_range (lo := 0) (n := vc.length) (fun k σ G2 => (∃ v2 v3 v6 v7 v8, σ = S9 p x v2 v3 (some (.str n)) (some (.ref t1)) v6 v7 v8) ∧ Ex H G2) ⟨⟨_, _, _, _, _, rfl⟩, xG⟩ ?_ ?_⟩
      · rintro k σ G2 hk ⟨⟨v2, v3, v6, v7, v8, rfl⟩, x2⟩
        have hk : k < vc.length := hk
        obtain ⟨vk, hvk⟩ : ∃ vk, vc[k]? = some vk := ⟨_, List.getElem?_eq_getElem hk⟩
        obtain ⟨⟨s1, lim⟩, hs, a2, rfl, ea2⟩ := Paired.spot pc hvk
        have hsm := List.mem_of_getElem? hs
        have sts : ∀ {G : Hp}, St K G (.str s1) := st (g.ws hsm)
        obtain ⟨yk, hyk⟩ : ∃ yk, ys[k]? = some yk := ⟨_, List.getElem?_eq_getElem (by omega)⟩
        obtain ⟨bk, hbk, t3, rfl, et3⟩ := Paired.spot pb1 hyk
        obtain ⟨zk, hzk⟩ : ∃ zk, ys2[k]? = some zk := ⟨_, List.getElem?_eq_getElem (by omega)⟩
        obtain ⟨bk2, hbk2, t4, rfl, et4⟩ := Paired.spot pb2 hzk
        rw [hbk] at hbk2
        obtain rfl := Option.some.inj hbk2
        have u2 := und_at nds (by rw [List.length_map]; omega) (show (W.ss.map (·.1))[k]? = some s1 by rw [List.getElem?_map, hs]; rfl) hzk
        refine ⟨_, rfl, p, _, _, _, rfl, rfl, SqL.of (x2 _ _ hp), at2, _, rfl, cc, _, _, _, rfl, rfl, SqL.of (x2 _ _ hc), (by rw [Int.zero_add]; exact atI_nat hvk), a2, _, _, _, rfl, rfl, SqT.of (x2 _ _ ea2), atI_nat (j := 0) rfl, ?_⟩
        have tc : ∀ {G3 : Hp} {Q3 : VK}, Ex H G3 → Q3 (.ref t4) G3 → TellsC CU G3 (dictOf (W.ps.map (·.1)) v4) (.str n) (.str s1) Q3 E0 := fun {G3 Q3} x3 h3 => by
          unfold TellsC
          rw [u1]
          refine ⟨Dp, _, rfl, x3 _ _ hDp, ?_⟩
          unfold Tells
          rw [u2]
          exact h3
        refine rd_nameU ?_
        try dsimp only
        refine rd_seqU (rd_asgU ?_)
        refine ⟨_, rfl, x, dx, _, rfl, x2 _ _ hx, rfl, _, rfl, _, rfl, x, dx, D4, _, _, .str n, .str s1, rfl, x2 _ _ hx, rfl, x2 _ _ k6, stn, sts, tc x2 ?_⟩
        refine ⟨_, rfl, x, dx, _, rfl, x2 _ _ hx, rfl, _, rfl, _, rfl, rfl, x, dx, D4, _, _, .str n, .str s1, rfl, x2 _ _ hx, rfl, x2 _ _ k6, stn, sts, tc x2 ?_⟩
        refine ⟨by rw [sizeLine_eq]; show 2 ≤ 16777216; decide, fun pt npt => ?_⟩
        have x3 : Ex G2 (upd G2 pt (.lst [.ref t4, .ref t4])) := Ex.refl.new npt
        have e3 : (upd G2 pt (.lst [.ref t4, .ref t4])) pt = some (.lst [.ref t4, .ref t4]) := upd_same
        generalize upd G2 pt (.lst [.ref t4, .ref t4]) = G3 at x3 e3 ⊢
        have z3 := x2.trans x3
        have sB : Small bk := ok.2 _ (List.mem_of_getElem? hbk)
        have bnd4 : ∀ {G4 : Hp}, Ex H G4 → Bnd G4 (.ref t4) bk := fun {G4} x4 => ⟨t4, rfl, x4 _ _ et4⟩
        have bnd3 : ∀ {G4 : Hp}, Ex H G4 → Bnd G4 (.ref t3) bk := fun {G4} x4 => ⟨t3, rfl, x4 _ _ et3⟩
        refine rd_nameU ?_
        try dsimp only
        refine ⟨_, rfl, _, rfl, _, rfl, t1, _, _, _, rfl, rfl, SqT.of (z3 _ _ et1), (by rw [Int.zero_add]; exact atI_nat hyk), by rw [sizeLine_eq]; show 1 ≤ 16777216; decide, fun pl npl => ?_⟩
        have x4 : Ex G3 (upd G3 pl (.lst [.ref t3])) := Ex.refl.new npl
        have e4 : (upd G3 pl (.lst [.ref t3])) pl = some (.lst [.ref t3]) := upd_same
        generalize upd G3 pl (.lst [.ref t3]) = G4 at x4 e4 ⊢
        have z4 := z3.trans x4
        refine ⟨pl, 2, _, rfl, rfl, e4, by decide, by decide, by rw [sizeLine_eq]; show 2 ≤ 16777216; decide, fun pr npr => ?_⟩
        have x5 : Ex G4 (upd G4 pr (.lst (List.replicate ((2 : Int)).toNat [V.ref t3]).flatten)) := Ex.refl.new npr
        have e5 : (upd G4 pr (.lst (List.replicate ((2 : Int)).toNat [V.ref t3]).flatten)) pr = some (.lst [.ref t3, .ref t3]) := upd_same
        generalize upd G4 pr (.lst (List.replicate ((2 : Int)).toNat [V.ref t3]).flatten) = G5 at x5 e5 ⊢
        have z5 := z4.trans x5
        have SBB : Shw 2 10000 (.list [dB bk, dB bk]) := shw_Bs (rs := [bk, bk]) (fun r hr => by
          simp only [List.mem_cons, List.not_mem_nil, or_false] at hr
          rcases hr with rfl | rfl <;> exact sB) (by show 2 ≤ 10; decide)
        refine ⟨.list [dB bk, dB bk], .list [dB bk, dB bk], .lst (SqL.of (x5 _ _ (x4 _ _ e3))) (.cons (dp_B (bnd4 z5)) (.cons (dp_B (bnd4 z5)) .nil)), .lst (SqL.of e5) (.cons (dp_B (bnd3 z5)) (.cons (dp_B (bnd3 z5)) .nil)), SBB.shaped (by decide), SBB.shaped (by decide), _, rfl, ?_⟩
        rw [SeqAt.eqv_refl _ SBB.lay]
        refine ite2 (fun z => by cases z) (fun _ => ?_)
        try dsimp only
        have bl : ∀ {G6 : Hp} (c : Bool), rp G6 (.bool c) (.bl c) := fun {G6} c => by
          unfold rp
          rfl
        have bs : ∀ c : Bool, (PyData.bool c).shown.length ≤ sizeLine := fun c => by
          rw [sizeLine_eq]
          cases c <;> decide +kernel
        refine rd_testU (rd_opU (rd_cbU (rd_consU ?_)))
        refine ⟨_, rfl, x, dx, _, rfl, z5 _ _ hx, rfl, _, rfl, _, rfl, x, dx, D4, _, _, .str n, .str s1, rfl, z5 _ _ hx, rfl, rfl, z5 _ _ k6, stn, sts, tc z5 ⟨t4, bk.1, bk.2, rfl, z5 _ _ et4, ?_⟩⟩
        refine ⟨_, .bool (decide (0 < bk.2)), rfl, .inl (bl _), rfl, Nat.zero_le _, bs _, ?_⟩
        refine ⟨_, rfl, _, rfl, t1, _, _, _, rfl, rfl, SqT.of (z5 _ _ et1), (by rw [Int.zero_add]; exact atI_nat hyk), t3, _, _, _, rfl, rfl, SqT.of (z5 _ _ et3), atI_nat (j := 1) rfl, _, _, rfl, rfl, ?_⟩
        refine ⟨_, .bool (decide (0 < bk.2)), rfl, .inl (bl _), rfl, Nat.zero_le _, bs _, rfl, _, rfl, ?_⟩
        refine ite2 (fun z => by rw [decide_eq_true rfl] at z; cases z) (fun _ => ?_)
        exact ⟨⟨_, _, _, _, _, rfl⟩, z5⟩
      · rintro σ G2 ⟨⟨v2, v3, v6, v7, v8, rfl⟩, x2⟩
        exact ⟨⟨_, _, _, _, _, _, _, rfl⟩, x2⟩
    · rintro σ G ⟨⟨v2, v3, u4, v5, v6, v7, v8, rfl⟩, xG⟩
      try dsimp only
      obtain ⟨v0, h0⟩ : ∃ v0, va[0]? = some v0 := ⟨_, List.getElem?_eq_getElem (by have := Paired.size pa; omega)⟩
      obtain ⟨⟨n0, lo, hi⟩, hr0, a0, rfl, ea0⟩ := Paired.spot pa h0
      obtain ⟨y0, hy0⟩ : ∃ y0, bb1[0]? = some y0 := ⟨_, List.getElem?_eq_getElem (by omega)⟩
      obtain ⟨q0, hq0, t0, rfl, et0⟩ := Paired.spot k2 hy0
      rw [List.getElem?_map, hr0] at hq0
      obtain rfl := Option.some.inj hq0
      have u1 := und_at ndm (by rw [List.length_map, l1]) (show (W.ms.map (·.1))[0]? = some n0 by rw [List.getElem?_map, hr0]; rfl) hy0
      have B0 := g.mb _ (List.mem_of_getElem? hr0)
      refine rd_seqU (rd_ifU (rd_testU (rd_opU ?_)))
      refine ⟨_, rfl, x, dx, _, rfl, xG _ _ hx, rfl, _, rfl, p, _, _, _, rfl, rfl, SqL.of (xG _ _ hp), at0, a, _, _, _, rfl, rfl, SqL.of (xG _ _ ha), atI_nat (j := 0) h0, a0, _, _, _, rfl, rfl, SqT.of (xG _ _ ea0), atI_nat (j := 0) rfl, rfl, x, dx, D1, _, _, .str n0, rfl, xG _ _ hx, rfl, xG _ _ k1, st (g.wm (List.mem_of_getElem? hr0)), ?_⟩
      unfold Tells
      rw [u1]
      refine ⟨_, rfl, p, _, _, _, rfl, rfl, SqL.of (xG _ _ hp), at0, a, _, _, _, rfl, rfl, SqL.of (xG _ _ ha), atI_nat (j := 0) h0, 1, rfl, a0, _, rfl, SqT.of (xG _ _ ea0), fun z => ?_, fun _ t nt => ?_⟩
      · obtain ⟨z1, _⟩ := z
        cases z1
      rw [cut_drop1]
      have e5 : (upd G t (.tup ([V.str n0, .int lo, .int hi].drop 1))) t = some (.tup [.int lo, .int hi]) := upd_same
      have x5 : Ex G (upd G t (.tup ([V.str n0, .int lo, .int hi].drop 1))) := Ex.refl.new nt
      generalize upd G t (.tup ([V.str n0, .int lo, .int hi].drop 1)) = G5 at x5 e5 ⊢
      have y5 := xG.trans x5
      have SB : Shw 1 122 (dB (lo, hi)) := shw_B ⟨B0.1, B0.2.1, by have := B0.2.2; show hi ≤ 1000000000000; have : hi ≤ 1000 := B0.2.2; omega⟩
      refine ⟨dB (lo, hi), dB (lo, hi), dp_B ⟨t0, rfl, y5 _ _ et0⟩, dp_B ⟨t, rfl, e5⟩, SB.shaped (by decide), SB.shaped (by decide), _, rfl, ?_⟩
      rw [SeqAt.eqv_refl _ SB.lay]
      refine ite2 (fun z => by cases z) (fun _ => ?_)
      obtain ⟨w0, h1⟩ : ∃ w0, vc[0]? = some w0 := ⟨_, List.getElem?_eq_getElem (by omega)⟩
      obtain ⟨⟨s0, lim⟩, hs0, a3, rfl, ea3⟩ := Paired.spot pc h1
      have u3 := und_at nds (by rw [List.length_map, List.length_map]) (show (W.ss.map (·.1))[0]? = some s0 by rw [List.getElem?_map, hs0]; rfl) (show (W.ss.map fun r => V.int r.2)[0]? = some (.int lim) by rw [List.getElem?_map, hs0]; rfl)
      refine rd_nextU ?_
      try dsimp only
      refine ⟨_, rfl, x, dx, _, rfl, y5 _ _ hx, rfl, _, rfl, p, _, _, _, rfl, rfl, SqL.of (y5 _ _ hp), at2, cc, _, _, _, rfl, rfl, SqL.of (y5 _ _ hc), atI_nat (j := 0) h1, a3, _, _, _, rfl, rfl, SqT.of (y5 _ _ ea3), atI_nat (j := 0) rfl, rfl, x, dx, D3, _, _, .str s0, rfl, y5 _ _ hx, rfl, y5 _ _ k5, st (g.ws (List.mem_of_getElem? hs0)), ?_⟩
      unfold Tells
      rw [u3]
      refine ⟨_, rfl, p, _, _, _, rfl, rfl, SqL.of (y5 _ _ hp), at2, cc, _, _, _, rfl, rfl, SqL.of (y5 _ _ hc), atI_nat (j := 0) h1, a3, _, _, _, rfl, rfl, SqT.of (y5 _ _ ea3), atI_nat (j := 1) rfl, rfl, ?_⟩
      rw [decide_eq_true rfl]
      exact q G5 y5

end
end LJ
set_option Elab.async false
set_option linter.all false
set_option maxRecDepth 100000
set_option maxHeartbeats 8000000
namespace LJ
open PySem PySem.Spec L2
open LamX (ExtN)
open NdefX (NTab TabsN)
abbrev sBuiltF : Stmt := top 44
def spBuiltF (C : Addr) (T : List NTab) : Sp := fun vs H Q _ => ∃ (p : Addr) (W : Wd), vs = [.ref p] ∧ WorldAt H p W ∧ GoodF W ∧ TabsN T H ∧
  ∀ (x am ac as ap : Addr) (H1 : Hp), ExtN H H1 → H x = none → TabsN T H1 → WorksAt C H1 x am ac as ap W → Data4 H1 am ac as ap W → Q (.ref x) H1
section
variable {P : Program} {w : World} {K : PySem.W.Frag} {mg : Str → Option Value} {base : Heap}
theorem scBuiltF : FnScope ["_law_world_here"] ["_law_world_here"] (defScope sBuiltF) := ⟨rfl, rfl, rfl, by decide +kernel, rfl, by decide +kernel, by decide +kernel⟩
theorem ok_builtF {f fI C : Addr} {fd fdI : FuncData} {T : List NTab} (F : Fun K "_law_built" "_law_built" sBuiltF f fd) (BT : mg "tuple" = none) (M : Mk K C fI) (mW : mg "Works" = some (.ref C))
    (GI : FnOk P w K mg base CX0 7 fI fdI pInit (spInit K C T)) (bI : Binds K fdI pInit []) :
    FnOk P w K mg base CX0 9 f fd ["_law_world_here"] (spBuiltF C T) := by
  refine F.ok scBuiltF (fun vs H Q E h => ?_) (fun cdv A outer s H vs Q E hr h => ?_)
  · obtain ⟨p, W, rfl, _⟩ := h
    rfl
  · obtain ⟨p, W, rfl, ⟨a, b, c, d, va, vb, vc, vd, hp, ha, pa, hb, pb, hc, pc, hd, pd⟩, g, tabs, q⟩ := h
    refine ⟨_, pss_one (ps_ret (pe_make M GI hr (by rfl) mW bI .nil pass0 (pa_cons (pe_tupleOf (by rfl) BT (pe_ix ix_list (pv 0) pe_int (fun _ _ => rfl))) (pa_cons (pe_tupleOf (by rfl) BT (pe_ix ix_list (pv 0) pe_int (fun _ _ => rfl)))
      (pa_cons (pe_tupleOf (by rfl) BT (pe_ix ix_list (pv 0) pe_int (fun _ _ => rfl))) (pa_cons (pe_tupleOf (by rfl) BT (pe_ix ix_list (pv 0) pe_int (fun _ _ => rfl))) pa_nil)))))), ?_⟩
    have at0 : atI [V.ref a, .ref b, .ref c, .ref d] 0 = some (.ref a) := atI_nat (j := 0) rfl
    have at1 : atI [V.ref a, .ref b, .ref c, .ref d] 1 = some (.ref b) := atI_nat (j := 1) rfl
    have at2 : atI [V.ref a, .ref b, .ref c, .ref d] 2 = some (.ref c) := atI_nat (j := 2) rfl
    have at3 : atI [V.ref a, .ref b, .ref c, .ref d] 3 = some (.ref d) := atI_nat (j := 3) rfl
    refine ⟨_, rfl, p, _, 0, _, rfl, rfl, SqL.of hp, at0, .inl ⟨a, va, rfl, SqL.of ha, fun am n1 => ?_⟩⟩
    have x1 : Ex H (upd H am (.tup va)) := Ex.refl.new n1
    have e1 : (upd H am (.tup va)) am = some (.tup va) := upd_same
    generalize upd H am (.tup va) = H1 at x1 e1 ⊢
    refine ⟨_, rfl, p, _, 1, _, rfl, rfl, SqL.of (x1 _ _ hp), at1, .inl ⟨b, vb, rfl, SqL.of (x1 _ _ hb), fun ac n2 => ?_⟩⟩
    have x2 : Ex H1 (upd H1 ac (.tup vb)) := Ex.refl.new n2
    have e2 : (upd H1 ac (.tup vb)) ac = some (.tup vb) := upd_same
    generalize upd H1 ac (.tup vb) = H2 at x2 e2 ⊢
    have y2 := x1.trans x2
    refine ⟨_, rfl, p, _, 2, _, rfl, rfl, SqL.of (y2 _ _ hp), at2, .inl ⟨c, vc, rfl, SqL.of (y2 _ _ hc), fun as n3 => ?_⟩⟩
    have x3 : Ex H2 (upd H2 as (.tup vc)) := Ex.refl.new n3
    have e3 : (upd H2 as (.tup vc)) as = some (.tup vc) := upd_same
    generalize upd H2 as (.tup vc) = H3 at x3 e3 ⊢
    have y3 := y2.trans x3
    refine ⟨_, rfl, p, _, 3, _, rfl, rfl, SqL.of (y3 _ _ hp), at3, .inl ⟨d, vd, rfl, SqL.of (y3 _ _ hd), fun ap n4 => ?_⟩⟩
    have x4 : Ex H3 (upd H3 ap (.tup vd)) := Ex.refl.new n4
    have e4 : (upd H3 ap (.tup vd)) ap = some (.tup vd) := upd_same
    generalize upd H3 ap (.tup vd) = H4 at x4 e4 ⊢
    have y4 := y3.trans x4
    intro x dx nx ndx ne
    have x5 : Ex H4 (upd (upd H4 dx (.own x)) x (.ins C dx [])) := (Ex.refl.new ndx).new (by rw [upd_ne ne.symm]; exact nx)
    have e5 : (upd (upd H4 dx (.own x)) x (.ins C dx [])) x = some (.ins C dx []) := upd_same
    generalize upd (upd H4 dx (.own x)) x (.ins C dx []) = H5 at x5 e5 ⊢
    have y5 := y4.trans x5
    have tt := Ex.tup y5
    have hm5 := x5 _ _ (x4 _ _ (x3 _ _ (x2 _ _ e1)))
    have hc5 := x5 _ _ (x4 _ _ (x3 _ _ e2))
    have hs5 := x5 _ _ (x4 _ _ e3)
    have hp5 := x5 _ _ e4
    refine ⟨x, dx, am, ac, as, ap, va, vb, vc, vd, W, rfl, e5, goodF_fit g (x5 _ _ (x4 _ _ (x3 _ _ (x2 _ _ e1)))) (x5 _ _ (x4 _ _ (x3 _ _ e2))) (x5 _ _ (x4 _ _ e3)) (x5 _ _ e4) (rows3 tt pa) (rows3 tt pb) (rows2 tt pc) (rowsP tt pd), rows3 tt pa, rows3 tt pb, rows2 tt pc, rowsP tt pd, goodF_told g, fun r hr => (g.pb r hr).1, TabsN.exs tabs y5, fun H6 keep t6 at6 => ⟨rfl, ?_⟩⟩
    have hxn : H x = none := y4.gone nx
    have far : ∀ {b : Addr} {xs : List V}, H5 b = some (.tup xs) → H6 b = some (.tup xs) := fun {b xs} e => keep b _ (ne_of e e5 fun z => nomatch z) e fun _ z => nomatch z
    have t56 : Tup H5 H6 := fun a xs e => far e
    refine q x am ac as ap H6 (fun b o e nt => keep b o (fun z => ?_) (y5 _ _ e) nt) hxn t6 at6 ⟨⟨va, far hm5, rows3 t56 (rows3 tt pa)⟩, ⟨vb, far hc5, rows3 t56 (rows3 tt pb)⟩, ⟨vc, far hs5, rows2 t56 (rows2 tt pc)⟩, ⟨vd, far hp5, rowsP t56 (rowsP tt pd)⟩⟩
    rw [z, hxn] at e
    cases e
end
end LJ
set_option Elab.async false
set_option linter.all false
set_option maxRecDepth 100000
set_option maxHeartbeats 8000000
namespace LJ
open PySem PySem.Spec L2 PySem.ErrV
open LamX (ExtN)
open NdefX (NTab TabsN)
open OwnX
/-! _law_right: what stands from turn to turn. -/
/-- all stays but the jar and tables of code -/
def Kp (j : Addr) (H H1 : Hp) : Prop := ∀ b o, b ≠ j → H b = some o → (∀ ps, o ≠ .tbl ps) → H1 b = some o
theorem Kp.refl {j : Addr} {H : Hp} : Kp j H H := fun _ _ _ e _ => e
theorem Kp.trans {j : Addr} {H H1 H2 : Hp} (a : Kp j H H1) (b : Kp j H1 H2) : Kp j H H2 := fun x o n e t => b x o n (a x o n e t) t
theorem Kp.of_n {j : Addr} {H H1 : Hp} (e : ExtN H H1) : Kp j H H1 := fun b o _ h t => e b o h t
theorem Kp.of_ex {j : Addr} {H H1 : Hp} (e : Ex H H1) : Kp j H H1 := fun b o _ h _ => e b o h
theorem Kp.of_but {j : Addr} {H H1 : Hp} (e : But j H H1) : Kp j H H1 := fun b o n h _ => e b o n h
theorem Kp.put {j p : Addr} {H H1 : Hp} {o : HO} (k : Kp j H H1) (n : H p = none) : Kp j H (upd H1 p o) := fun b u m e t => by
  rw [upd_ne (ne_of_none e n)]
  exact k b u m e t
theorem Kp.gone {j p : Addr} {H H1 : Hp} (k : Kp j H H1) (m : p ≠ j) (n : H1 p = none) : H p = none ∨ ∃ ps, H p = some (.tbl ps) := by
  cases e : H p with
  | none => exact .inl rfl
  | some o =>
    by_cases t : ∃ ps, o = .tbl ps
    · obtain ⟨ps, rfl⟩ := t
      exact .inr ⟨ps, rfl⟩
    · have := k p o m e fun ps z => t ⟨ps, z⟩
      rw [n] at this
      cases this
theorem JarAt.exN {j : Addr} {H H1 : Hp} (J : JarAt H j) (e : ExtN H H1) : JarAt H1 j := by
  obtain ⟨d, m, c, h, r⟩ := J
  exact ⟨d, m, c, e _ _ h (fun _ z => nomatch z), r⟩
theorem JarAt.exx {j : Addr} {H H1 : Hp} (J : JarAt H j) (e : Ex H H1) : JarAt H1 j := by
  obtain ⟨d, m, c, h, r⟩ := J
  exact ⟨d, m, c, e _ _ h, r⟩
theorem TabsN.butJ {T : List NTab} {j : Addr} {H H1 : Hp} (J : JarAt H j) (b : But j H H1) (t : TabsN T H) : TabsN T H1 := fun r hr => by
  obtain ⟨d, m, c, hj, _⟩ := J
  obtain ⟨ps, h1, h2, h3⟩ := t r hr
  refine ⟨ps, b _ _ (ne_of h1 hj fun z => nomatch z) h1, h2, fun pos v hv => ?_⟩
  obtain ⟨c, e1, e2⟩ := h3 pos v hv
  exact ⟨c, e1, b _ _ (ne_of e2 hj fun z => nomatch (show HO.ext _ = HO.lst _ from z)) e2⟩
theorem TabsN.putL {T : List NTab} {l : Addr} {H : Hp} {xs ys : List V} (h : H l = some (.lst xs)) (t : TabsN T H) : TabsN T (upd H l (.lst ys)) := fun r hr => by
  obtain ⟨ps, h1, h2, h3⟩ := t r hr
  refine ⟨ps, by rw [upd_ne (ne_of h1 h fun z => nomatch z)]; exact h1, h2, fun pos v hv => ?_⟩
  obtain ⟨c, e1, e2⟩ := h3 pos v hv
  exact ⟨c, e1, by rw [upd_ne (ne_of e2 h fun z => nomatch (show HO.ext _ = HO.lst _ from z))]; exact e2⟩
theorem TextOf.kp {C j m : Addr} {z : Str} {H H1 : Hp} (J : JarAt H j) (k : Kp j H H1) (h : TextOf C H m z) : TextOf C H1 m z := by
  obtain ⟨d, mm, c, hj, _⟩ := J
  obtain ⟨dx, fs, h1, h2⟩ := h
  exact ⟨dx, fs, k _ _ (ne_of h1 hj fun z => nomatch z) h1 (fun _ z => nomatch z), h2⟩
theorem TextOf.putL {C l m : Addr} {z : Str} {H : Hp} {xs ys : List V} (h : H l = some (.lst xs)) (t : TextOf C H m z) : TextOf C (upd H l (.lst ys)) m z := by
  obtain ⟨dx, fs, h1, h2⟩ := t
  exact ⟨dx, fs, by rw [upd_ne (ne_of h1 h fun z => nomatch z)]; exact h1, h2⟩
theorem WorldAt.exN2 {p : Addr} {W : Wd} {H H1 : Hp} (e : ExtN H H1) (h : WorldAt H p W) : WorldAt H1 p W := by
  obtain ⟨a, b, c, d, va, vb, vc, vd, hp, ha, pa, hb, pb, hc, pc, hd, pd⟩ := h
  have n : ∀ {b : Addr} {xs : List V}, H b = some (.lst xs) → H1 b = some (.lst xs) := fun h => e _ _ h fun _ z => nomatch z
  have t : Tup H H1 := fun a xs h => e _ _ h fun _ z => nomatch z
  exact ⟨a, b, c, d, va, vb, vc, vd, n hp, n ha, rows3 t pa, n hb, rows3 t pb, n hc, rows2 t pc, n hd, rowsP t pd⟩
theorem Sc.exN {C p x am ac as ap : Addr} {W : Wd} {H H1 : Hp} (e : ExtN H H1) (h : Sc C H p x am ac as ap W) : Sc C H1 p x am ac as ap W := by
  obtain ⟨⟨a, b, c, d, va, vb, vc, vd, hp, ha, pa, hb, pb, hc, pc, hd, pd⟩, ⟨dx, D1, D2, D3, D4, b1, b2, v4, hx, ⟨g1, g2⟩, ⟨g3, g4⟩, g5, g6, g7⟩, ⟨⟨v1, m1, m2⟩, ⟨v2, m3, m4⟩, ⟨v3, m5, m6⟩, ⟨v5, m7, m8⟩⟩⟩ := h
  have n : ∀ {b : Addr} {xs : List V}, H b = some (.lst xs) → H1 b = some (.lst xs) := fun h => e _ _ h fun _ z => nomatch z
  have u : ∀ {b : Addr} {xs : List V}, H b = some (.tup xs) → H1 b = some (.tup xs) := fun h => e _ _ h fun _ z => nomatch z
  have k : ∀ {b : Addr} {xs : List (Key × V)}, H b = some (.dK xs) → H1 b = some (.dK xs) := fun h => e _ _ h fun _ z => nomatch z
  have t : Tup H H1 := fun a xs h => u h
  refine ⟨⟨a, b, c, d, va, vb, vc, vd, n hp, n ha, rows3 t pa, n hb, rows3 t pb, n hc, rows2 t pc, n hd, rowsP t pd⟩, ⟨dx, D1, D2, D3, D4, b1, b2, v4, e _ _ hx (fun _ z => nomatch z), ⟨k g1, bnds t g2⟩, ⟨k g3, bnds t g4⟩, k g5, k g6, L2.Paired.mapP g7 fun v q z => ?_⟩, ⟨⟨v1, u m1, rows3 t m2⟩, ⟨v2, u m3, rows3 t m4⟩, ⟨v3, u m5, rows2 t m6⟩, ⟨v5, u m7, rowsP t m8⟩⟩⟩
  obtain ⟨Dp, ys, z1, z2, z3⟩ := z
  exact ⟨Dp, ys, z1, k z2, bnds t z3⟩
def Callee (K : PySem.W.Frag) (mg : Str → Option Value) (name : Str) (ps : List Str) (G : Addr → FuncData → Prop) : Prop := ∃ f fd, G f fd ∧ mg name = some (.ref f) ∧ PySem.W.keepIn K (.ref f) = true ∧ Binds K fd ps []
abbrev sRight : Stmt := top 49
abbrev nRight : List Str := ["_law_jar_here", "_law_kept", "_law_turn", "_law_world_here", "_law_mine", "_law_page_here", "_law_line", "_law_again", "_law_one", "_law_two"]
def spRight (T : List NTab) : Sp := fun vs H Q _ => ∃ j : Addr, vs = [.ref j] ∧ JarAt H j ∧ TabsN T H ∧ ∀ H1, Kp j H H1 → TabsN T H1 → Q (.bl true) H1
theorem scRight : FnScope nRight ["_law_jar_here"] (defScope sRight) := ⟨rfl, rfl, rfl, by decide +kernel, rfl, by decide +kernel, by decide +kernel⟩
end LJ
set_option Elab.async false
set_option linter.all false
set_option maxRecDepth 100000
set_option maxHeartbeats 8000000
namespace LJ
open PySem PySem.Spec L2 PySem.ErrV
open LamX (ExtN)
open NdefX (NTab TabsN)
open OwnX
structure BltR (mg : Str → Option Value) : Prop where
  str : mg "str" = none
  repr : mg "repr" = none
  len : mg "len" = none
  range : mg "range" = none
/-- all that _law_right calls -/
structure Rr (P : Program) (w : World) (K : PySem.W.Frag) (mg : Str → Option Value) (base : Heap) (C CU : Addr) (T : List NTab) : Prop where
  b : BltR mg
  rt : Rt P w K mg base C CU
  mw : mg "Works" = some (.ref C)
  dip : Callee K mg "_law_dip" ["_law_jar_here", "_law_top"] fun f fd => FnOk P w K mg base CX0 1 f fd ["_law_jar_here", "_law_top"] spDip
  full : Callee K mg "_law_full" ["_law_jar_here"] fun f fd => FnOk P w K mg base CX0 4 f fd ["_law_jar_here"] spFull
  world : Callee K mg "_law_world" ["_law_jar_here", "_law_most"] fun f fd => FnOk P w K mg base CX0 4 f fd ["_law_jar_here", "_law_most"] spWorld
  built : Callee K mg "_law_built" ["_law_world_here"] fun f fd => FnOk P w K mg base CX0 9 f fd ["_law_world_here"] (spBuiltF C T)
  page : Callee K mg "_law_page" ["_law_world_here"] fun f fd => FnOk P w K mg base CX0 1 f fd ["_law_world_here"] spPage
  told : Callee K mg "_law_told_right" ["_law_world_here", "_law_mine"] fun f fd => FnG P w K mg base 5 f fd ["_law_world_here", "_law_mine"] (spTold C)
  str : Method K C "__str__" (fun f fd => FnOk P w K mg base CX0 1 f fd ["self"] (spStrW C)) fun fd => Binds K fd ["self"] []
  repr : Method K C "__repr__" (fun f fd => FnOk P w K mg base CX0 1 f fd ["self"] (spReprW C)) fun fd => Binds K fd ["self"] []
  eq : Method K C "__eq__" (fun f fd => FnOk P w K mg base CX0 1 f fd ["self", "other"] (spEqW C)) fun fd => Binds K fd ["self", "other"] []
  ne : PySem.W.findIn K (.ref C) "__ne__" = some (some (.builtin "object.__ne__"))
  so : PySem.W.subIn K (.ref C) (.type "object") = some true
  ss : PySem.W.subIn K (.type "str") (.ref C) = some false
  bool : PySem.W.findIn K (.ref C) "__bool__" = some none
  len : PySem.W.findIn K (.ref C) "__len__" = some none
  cr : ∃ mc, ClX.CRead K C mc ∧ ∃ p g fd, SMet K C mc "read" p g ∧ FnOk P w K mg base CX0 10 g fd ["text"] (spRW C T) ∧ Binds K fd ["text"] [] ∧ ∃ gg, KBn K fd ["text"] 0 ["text"] gg (fun vs zs => vs ++ zs)
  init : ∃ fI fdI, Mk K C fI ∧ FnOk P w K mg base CX0 7 fI fdI pInit (spInit K C T) ∧ ∃ gg, KBn K fdI pInit 1 ["products", "stuffs", "cleanings", "machines"] gg (fun vs zs => vs ++ zs.reverse)
def teEq (K : PySem.W.Frag) (C : Addr) : TE := tOp rEq (tOp (rEqO K C (spEqW C) E0) (tVar 8) (tVar 9)) (tOp rEq (tCB (rTxtO C (spStrW C) E0) (tCons (tVar 8) tNil)) (tCB (rTxtO C (spStrW C) E0) (tCons (tVar 9) tNil)))
abbrev SR (j kl : Addr) (v2 v3 v4 v5 v6 v7 v8 v9 : Option V) : L2.St := [some (.ref j), some (.ref kl), v2, v3, v4, v5, v6, v7, v8, v9]
theorem two_worlds {b : Bool} {j : Addr} {σ : L2.St} {H : Hp} {Q : VK} (hs : σ[0]? = some (some (.ref j))) (J : JarAt H j) (q : ∀ (p : Addr) (W : Wd) (H1 : Hp), WorldAt H1 p W → GoodF W → JarAt H1 j → But j H H1 → Q (.ref p) H1) :
    if b = true then tCall spFull [] E0 (tCons (tVar 0) tNil) σ H Q else tCall spWorld [] E0 (tCons (tVar 0) (tCons (tC (.int 3)) tNil)) σ H Q := by
  refine ite2 (fun _ => ?_) (fun _ => ?_)
  · exact ⟨_, hs, j, rfl, J, fun p W H1 h g J1 b1 _ _ => q p W H1 h g J1 b1⟩
  · exact ⟨_, hs, j, 3, rfl, J, by decide, by decide, fun p W H1 h g J1 b1 _ _ => q p W H1 h g.F J1 b1⟩
theorem flat_one {α : Type} (x : α) : ∀ n : Nat, (List.replicate n [x]).flatten = List.replicate n x
  | 0 => rfl
  | n + 1 => by
    show x :: (List.replicate n [x]).flatten = x :: List.replicate n x
    rw [flat_one x n]
theorem shw_Ps {W : Wd} (g : GoodF W) : Shw 5 100000 (.tuple (W.ps.map dP)) :=
  (shw_tuple (a := 3) (n := 1000) (m := 10) (fun d hd => by
    obtain ⟨x, hx, rfl⟩ := List.mem_map.mp hd
    have ok := g.pb x hx
    have l : x.2.length ≤ 3 := by
      have := g.s2
      have := ok.1
      omega
    exact shw_P (g.wp hx) l ok.2) (by rw [List.length_map]; have := g.p2; omega)).mono (by decide) (by decide)

section
variable {P : Program} {w : World} {K : PySem.W.Frag} {mg : Str → Option Value} {base : Heap} {C CU : Addr} {T : List NTab}
theorem ok_right {f : Addr} {fd : FuncData} (F : Fun K "_law_right" "_law_right" sRight f fd) (R : Rr P w K mg base C CU T) : FnG P w K mg base 11 f fd ["_law_jar_here"] (spRight T) := by
  refine F.okG scRight (fun vs H Q E h => ?_) (fun cdv A outer s H vs Q hgA hr h => ?_)
  · obtain ⟨j, rfl, _⟩ := h
    rfl
  · obtain ⟨j, rfl, J, tabs, q⟩ := h
    have hgd : (A.deeper (PyProof.Rows.envOfC "_law_right" (defScope sRight) s.heap.objs.size f cdv)).guards = some [] := hgA
    have c := R.rt.cls
    have B := R.b
    have mW := R.mw
    obtain ⟨fD, fdD, GD, mD, kD, bD⟩ := R.dip
    obtain ⟨fF, fdF, GF, mF, kF, bF⟩ := R.full
    obtain ⟨fW, fdW, GW, mWd, kWd, bWd⟩ := R.world
    obtain ⟨fB, fdB, GB, mB, kB, bB⟩ := R.built
    obtain ⟨fP, fdP, GP, mP, kP, bP⟩ := R.page
    obtain ⟨fT, fdT, GT, mT, kT, bT⟩ := R.told
    obtain ⟨fS, fdS, GS, cS, bS⟩ := R.str
    obtain ⟨fR, fdR, GRp, cRp, bRp⟩ := R.repr
    obtain ⟨fE, fdE, GE, cE, bE⟩ := R.eq
    have hne := R.ne
    have hso := R.so
    have hss := R.ss
    have hbool := R.bool
    have hlen := R.len
    obtain ⟨mc, cr, pR, gR, fdRd, sm, GRd, bRd, gg, bRdK⟩ := R.cr
    obtain ⟨fI, fdI, M, GI, gI, bIK⟩ := R.init
    obtain ⟨p1, g1, fd1, P1, G1, b1⟩ := R.rt.p1
    obtain ⟨p2, g2, fd2, P2, G2, b2⟩ := R.rt.p2
    obtain ⟨p3, g3, fd3, P3, G3, b3⟩ := R.rt.p3
    obtain ⟨p4, g4, fd4, P4, G4, b4⟩ := R.rt.p4
    have hr9 : Room 9 (A.deeper (PyProof.Rows.envOfC "_law_right" (defScope sRight) s.heap.objs.size f cdv)) := hr.mono (by decide)
    have hr8 : Room 8 (A.deeper (PyProof.Rows.envOfC "_law_right" (defScope sRight) s.heap.objs.size f cdv)) := hr.mono (by decide)
    have hr5 : Room 5 (A.deeper (PyProof.Rows.envOfC "_law_right" (defScope sRight) s.heap.objs.size f cdv)) := hr.mono (by decide)
    have hr4 : Room 4 (A.deeper (PyProof.Rows.envOfC "_law_right" (defScope sRight) s.heap.objs.size f cdv)) := hr.mono (by decide)
    have hr3 : Room 3 (A.deeper (PyProof.Rows.envOfC "_law_right" (defScope sRight) s.heap.objs.size f cdv)) := hr.mono (by decide)
    have hr2 : Room 2 (A.deeper (PyProof.Rows.envOfC "_law_right" (defScope sRight) s.heap.objs.size f cdv)) := hr.mono (by decide)
    have hr1 : Room 1 (A.deeper (PyProof.Rows.envOfC "_law_right" (defScope sRight) s.heap.objs.size f cdv)) := hr.mono (by decide)
    have hu1 : (A.deeper (PyProof.Rows.envOfC "_law_right" (defScope sRight) s.heap.objs.size f cdv)).units + 1 < cLine := by
      have := hr1.un
      omega
    have hu64 : (A.deeper (PyProof.Rows.envOfC "_law_right" (defScope sRight) s.heap.objs.size f cdv)).units + 64 < cLine := by
      have := hr1.un
      omega
    have hu150 : (A.deeper (PyProof.Rows.envOfC "_law_right" (defScope sRight) s.heap.objs.size f cdv)).units + 150 < cLine := by
      have := hr1.un
      omega
    refine ⟨_, pss_cons (ps_set (i := 1) scRight.nd rfl (Or.inl rfl) (pe_lst pa_nil))
      (pss_cons (ps_for PassesOwn.never rfl (pi_range1 (by rfl) B.range (pa_cons pe_int pa_nil)) (pg_name (i := 2) scRight.nd rfl (Or.inl rfl)) (pss_cons (ps_set (i := 3) scRight.nd rfl (Or.inl rfl) (pe_ifExp (pt_cmpR op_eq (pe_call GD hr1 (by rfl) mD kD bD .nil pass0 (pa_cons (pv 0) (pa_cons pe_int pa_nil))) pe_int (nomark _)) (pe_call GF hr4 (by rfl) mF kF bF .nil pass0 (pa_cons (pv 0) pa_nil)) (pe_call GW hr4 (by rfl) mWd kWd bWd .nil pass0 (pa_cons (pv 0) (pa_cons pe_int pa_nil)))))
      (pss_cons (ps_par (i := 4) (j := 5) (by rfl) scRight.nd rfl rfl (by decide) rfl rfl (pa_cons (pe_call GB hr9 (by rfl) mB kB bB .nil pass0 (pa_cons (pv 3) pa_nil)) (pa_cons (pe_call GP hr1 (by rfl) mP kP bP .nil pass0 (pa_cons (pv 3) pa_nil)) pa_nil)) (by rfl))
      (pss_cons (ps_if (PW.pt (pw_or (pt_cmpR op_ne (pe_callTy (call_strO cS GS hr2 bS pass0) (by rfl) B.str (by decide +kernel) (pa_cons (pv 4) pa_nil)) (pv 5) (nomark _)) (pw_or (pt_not (pt_val (pe_callNG GT hgd hr5 (by rfl) mT kT bT (pa_cons (pv 3) (pa_cons (pv 4) pa_nil))))) (pw_or1 (pt_cmpR (op_neO cE hne hso GE hr2 bE pass0) (pe_smeth (pe_glob (v := .ref C) (by rfl) mW rfl) cr sm GRd hr bRd .nil pass0 (pa_cons (pv 5) pa_nil)) (pv 4) (nomark _)))))) (pss_one (ps_ret pe_bl)) pss_nil)
      (pss_cons (ps_set (i := 6) scRight.nd rfl (Or.inl rfl) (pe_op op_add_str (pe_op op_add_str (pe_op op_add_str (pe_op op_add_str pe_str (pe_callTy call_str_int (by rfl) B.str (by decide +kernel) (pa_cons (pe_callB call_len_seq (by rfl) B.len (by decide +kernel) (pa_cons (pe_ix ix_list (pv 3) pe_int (fun _ _ => rfl)) pa_nil)) pa_nil))) pe_str) (pe_callTy call_str_int (by rfl) B.str (by decide +kernel) (pa_cons (pe_callB call_len_seq (by rfl) B.len (by decide +kernel) (pa_cons (pe_ix ix_list (pv 3) pe_int (fun _ _ => rfl)) pa_nil)) pa_nil))) pe_str))
      (pss_cons (ps_if (PW.pt (pw_or (pt_cmpR op_ne (pe_callB (call_reprO cRp GRp hr2 bRp pass0) (by rfl) B.repr (by decide +kernel) (pa_cons (pv 4) pa_nil)) (pv 6) (nomark _)) (pw_or1 (pt_cmpR op_ne (pe_callB (call_repr_data hgd hu150) (by rfl) B.repr (by decide +kernel) (pa_cons (pe_prop (pe_smethK (pe_glob (v := .ref C) (by rfl) mW rfl) cr sm GRd hr bRdK pass0 (pk_cons (pv 5) pk_nil)) c.cl P4 G4 hr2 b4 .nil pass0 (by rfl)) pa_nil)) (pe_callB (call_repr_data hgd hu150) (by rfl) B.repr (by decide +kernel) (pa_cons (pe_prop (pv 4) c.cl P4 G4 hr2 b4 .nil pass0 (by rfl)) pa_nil)) (nomark _))))) (pss_one (ps_ret pe_bl)) pss_nil)
      (pss_cons (ps_if (PW.pt (pw_or (pt_cmpR (op_eqO cE GE hr1 hu1 bE pass0) (pv 4) (pv 5) (nomark _)) (pw_or1 (pt_not (pt_truthO (C := C) (pv 4) hbool hlen (fun _ => rfl)))))) (pss_one (ps_ret pe_bl)) pss_nil)
      (pss_cons (ps_set (i := 7) scRight.nd rfl (Or.inl rfl) (pe_makeK0 M GI hr8 (by rfl) mW bIK pass0 (pk_cons (pe_prop (pv 4) c.cl P4 G4 hr2 b4 .nil pass0 (by rfl)) (pk_cons (pe_prop (pv 4) c.cl P3 G3 hr2 b3 .nil pass0 (by rfl)) (pk_cons (pe_prop (pv 4) c.cl P2 G2 hr2 b2 .nil pass0 (by rfl)) (pk_cons (pe_prop (pv 4) c.cl P1 G1 hr2 b1 .nil pass0 (by rfl)) pk_nil))))))
      (pss_cons (ps_if (pt_cmpR (op_neO cE hne hso GE hr2 bE pass0) (pv 7) (pv 4) (nomark _)) (pss_one (ps_ret pe_bl)) pss_nil)
      (pss_one (ps_expr (pe_bm PySem.F.plainAttrs_list PySem.F.slot_list_append PySem.F.type_list_append mt_append (pv 1) (pa_cons (pv 4) pa_nil)))))))))))))
      (pss_cons (ps_for PassesOwn.never rfl (pi_list (pv 1)) (pg_name (i := 8) scRight.nd rfl (Or.inr rfl)) (pss_one (ps_if (pt_cmpR (op_neD hu64)
        (pe_lc (own := [("_law_two", 9)]) (g := gName 9) (te := teEq K C) (by rfl) scRight.nd (pi_list (pv 1)) (blkOk_by (own := [("_law_two", 9)]) (N := nRight) (sc := defScope sRight) (by decide +kernel)) (fun _ _ _ _ _ => pg_name (i := 9) scRight.nd rfl (Or.inl rfl)) (fun _ _ _ _ _ => pts_nil)
          (fun _ _ _ _ _ => pe_cmpR op_eq (pe_cmpR (show OpR _ _ (rEqO K C (spEqW C) E0) from op_eqO cE GE hr1 hu1 bE pass0) (pv 8) (pv 9) (nomark _)) (pe_cmpR op_eq (pe_callTy (call_strO cS GS hr2 bS pass0) (by rfl) B.str (by decide +kernel) (pa_cons (pv 8) pa_nil)) (pe_callTy (call_strO cS GS hr2 bS pass0) (by rfl) B.str (by decide +kernel) (pa_cons (pv 9) pa_nil)) (nomark _)) (nomark _)))
        (pe_op op_rep (pe_lst (pa_cons pe_bl pa_nil)) (pe_callB call_len_seq (by rfl) B.len (by decide +kernel) (pa_cons (pv 1) pa_nil))) (nomark _)) (pss_one (ps_ret pe_bl)) pss_nil)))
      (pss_one (ps_ret pe_bl)))), ?_⟩
    have sz := sizeLine_eq
    refine rd_seqU (rd_asgU ?_)
    refine ⟨by rw [sizeLine_eq]; exact Nat.zero_le _, fun kl nkl => ?_⟩
    have hjn : kl ≠ j := by
      obtain ⟨d, m, c, h, _⟩ := J
      rintro rfl
      rw [nkl] at h
      cases h
    have x0 : Ex H (upd H kl (.lst [])) := Ex.refl.new nkl
    have kb : Kp j H (upd H kl (.lst [])) := Kp.of_ex x0
    have ek : (upd H kl (.lst [])) kl = some (.lst []) := upd_same
    have J1 := J.exx x0
    have t1 : TabsN T (upd H kl (.lst [])) := TabsN.exs tabs x0
    generalize upd H kl (.lst []) = G0 at kb ek J1 t1 x0 ⊢
    refine rd_nameU ?_
    try dsimp only
    refine rd_seqU ?_
    refine ⟨4, rfl, by decide, by decide, for_range (lo := 0) (n := 4) (fun i σ G => (∃ v2 v3 v4 v5 v6 v7 v8 v9, σ = SR j kl v2 v3 v4 v5 v6 v7 v8 v9) ∧ Kp j H G ∧ JarAt G j ∧ TabsN T G ∧ ∃ xs : List Addr, G kl = some (.lst (xs.map V.ref)) ∧ xs.length = i ∧ ∀ x ∈ xs, ∃ z, TextOf C G x z) ⟨⟨_, _, _, _, _, _, _, _, rfl⟩, kb, J1, t1, [], ek, rfl, fun _ h => (List.not_mem_nil h).elim⟩ ?_ ?_⟩
    · rintro i σ G hi ⟨⟨v2, v3, v4, v5, v6, v7, v8, v9, rfl⟩, kG, JG, tG, xs, eG, lx, tx⟩
      refine rd_nameU ?_
      try dsimp only
      refine rd_seqU (rd_asgU ?_)
      refine ⟨_, rfl, j, 4, rfl, JG, by decide, by decide, fun r G1 r0 r4 JG1 b1 => ?_⟩
      refine ⟨rfl, _, rfl, ?_⟩
      refine two_worlds rfl JG1 fun p W G2 hw g JG2 b2 => ?_
      have k2 : Kp j G G2 := Kp.of_but (b1.trans b2)
      have t2 : TabsN T G2 := TabsN.butJ JG1 b2 (TabsN.butJ JG b1 tG)
      refine rd_nameU ?_
      try dsimp only
      refine rd_seqU ?_
      refine ⟨_, rfl, p, W, rfl, hw, g, t2, fun x am ac as ap G3 x3 nx t3 wk dt => ?_⟩
      refine ⟨_, rfl, p, W, rfl, hw.exN2 x3, g, fun G4 x4 => ⟨_, _, rfl, ?_⟩⟩
      have sc4 : Sc C G4 p x am ac as ap W := Sc.ex x4 ⟨WorldAt.exN2 x3 hw, wk, dt⟩
      have k4 : Kp j G G4 := (k2.trans (Kp.of_n x3)).trans (Kp.of_ex x4)
      have J4 := (JG2.exN x3).exx x4
      have t4 := TabsN.exs t3 x4
      try dsimp only
      refine rd_seqU (rd_ifU ?_)
      obtain ⟨dx, fs, hx4, f4⟩ := works_text sc4.wk
      refine ⟨_, rfl, x, dx, _, rfl, hx4, ⟨x, wtext W, rfl, ⟨dx, _, hx4, f4⟩, _, rfl, _, rfl, rfl, _, rfl, ?_⟩⟩
      refine ite2 (fun z => by rw [decide_eq_true rfl] at z; cases z) (fun _ => ?_)
      refine ⟨_, rfl, _, rfl, p, x, am, ac, as, ap, W, rfl, sc4, g, fun G5 x5 => ⟨_, rfl, ?_⟩⟩
      refine ite2 (fun z => by cases z) (fun _ => ?_)
      refine ⟨rfl, _, rfl, W, rfl, g, TabsN.exs t4 x5, fun x6 am6 ac6 as6 ap6 G6 xn6 nx6 t6 wk6 dt6 => ?_⟩
      have sc6 : Sc C G6 p x am ac as ap W := Sc.exN xn6 (Sc.ex x5 sc4)
      have k6 : Kp j G G6 := (k4.trans (Kp.of_ex x5)).trans (Kp.of_n xn6)
      have J6 := (J4.exx x5).exN xn6
      obtain ⟨dz, fz, hz6, fz6⟩ := works_text wk6
      obtain ⟨dx6, fx, hx6, fx6⟩ := works_text sc6.wk
      refine ⟨_, rfl, x6, dz, _, x, dx6, _, rfl, rfl, hz6, hx6, ⟨x6, wtext W, _, rfl, ⟨dz, _, hz6, fz6⟩, .inl ⟨x, wtext W, rfl, ⟨dx6, _, hx6, fx6⟩, ⟨_, rfl, _, rfl, ?_⟩⟩⟩⟩
      refine ite2 (fun z => by rw [decide_eq_true rfl] at z; cases z) (fun _ => ?_)
      refine rd_nextU ?_
      try dsimp only
      obtain ⟨wa, wb, wc, wd, va, vb, vc, vd, hp, ha, pa, hb, pb, hc, pc, hd, pd⟩ := sc6.wa
      obtain ⟨⟨vm, em, pm⟩, ⟨vcl, ec, pcl⟩, ⟨vst, es, pst⟩, ⟨vp, ep, pp⟩⟩ := sc6.dt
      have la : va.length = W.ms.length := Paired.size pa
      have ld : vd.length = W.ps.length := Paired.size pd
      have lm : vm.length = W.ms.length := Paired.size pm
      have lp : vp.length = W.ps.length := Paired.size pp
      have m2 := g.m2
      have p2 := g.p2
      have at0 : atI [V.ref wa, .ref wb, .ref wc, .ref wd] 0 = some (.ref wa) := atI_nat (j := 0) rfl
      have at3 : atI [V.ref wa, .ref wb, .ref wc, .ref wd] 3 = some (.ref wd) := atI_nat (j := 3) rfl
      have l1 := num_len (i := (va.length : Int)) (by omega) (by omega)
      have l2 := num_len (i := (vd.length : Int)) (by omega) (by omega)
      have q1 : (Str.ofString "Works of ").length = 9 := by decide +kernel
      have q3 : (Str.ofString " machines and ").length = 14 := by decide +kernel
      have q5 : (Str.ofString " products").length = 9 := by decide +kernel
      have big : ∀ {m : Nat}, m ≤ 80 → m ≤ sizeLine := fun h => by omega
      refine rd_seqU (rd_asgU ?_)
      refine ⟨_, rfl, p, _, _, _, rfl, rfl, SqL.of hp, at0, wa, va, rfl, .inl (SqL.of ha), _, rfl, num_log (by omega) (by omega), _, num va.length, rfl, rfl, big (by omega), _, _, rfl, rfl, big (by simp only [Str.length_append]; omega), ?_⟩
      refine ⟨_, rfl, p, _, _, _, rfl, rfl, SqL.of hp, at3, wd, vd, rfl, .inl (SqL.of hd), _, rfl, num_log (by omega) (by omega), _, num vd.length, rfl, rfl, big (by simp only [Str.length_append]; omega), _, _, rfl, rfl, big (by simp only [Str.length_append]; omega), ?_⟩
      have eqn : reprW vm.length vp.length = Str.ofString "Works of " ++ num va.length ++ Str.ofString " machines and " ++ num vd.length ++ Str.ofString " products" := by
        unfold reprW
        rw [show Str.empty ++ Str.ofString "Works of " = Str.ofString "Works of " by decide +kernel, la, ld, lm, lp]
      rw [← eqn]
      refine rd_nameU ?_
      try dsimp only
      refine rd_seqU (rd_ifU ?_)
      obtain ⟨dq, D1, D2, D3, D4, bb1, bb2, v4', hxq, _⟩ := sc6.wk
      refine ⟨_, rfl, x, dq, _, rfl, hxq, x, dq, _, am, ap, vm, vp, rfl, hxq, rfl, rfl, em, ep, by omega, by omega, _, rfl, _, rfl, rfl, _, rfl, ?_⟩
      refine ite2 (fun z => by rw [decide_eq_true rfl] at z; cases z) (fun _ => ?_)
      refine ⟨rfl, _, rfl, rfl, W, rfl, g, t6, fun x7 am7 ac7 as7 ap7 G7 xn7 nx7 t7 wk7 dt7 => ?_⟩
      have sc7 : Sc C G7 p x am ac as ap W := Sc.exN xn7 sc6
      have k7 : Kp j G G7 := k6.trans (Kp.of_n xn7)
      have J7 := J6.exN xn7
      obtain ⟨dy, E1, E2, E3, E4, cc1, cc2, w4', hx7, _⟩ := wk7
      obtain ⟨vp7, ep7, pp7⟩ := dt7.p
      obtain ⟨⟨vm8, em8, pm8⟩, ⟨vc8, ec8, pc8⟩, ⟨vs8, es8, ps8⟩, ⟨vp8, ep8, pp8⟩⟩ := sc7.dt
      obtain ⟨dw, F1, F2, F3, F4, dd1, dd2, x4', hxw, _⟩ := sc7.wk
      have SP := shw_Ps g
      refine ⟨x7, dy, _, rfl, hx7, x7, dy, _, _, rfl, hx7, rfl, ?_⟩
      refine ⟨_, .tuple (W.ps.map dP), rfl, .inl (rp_tup ep7 (L2.Paired.mapP pp7 fun _ _ z => rp_P z)), SP.sh, Nat.le_trans SP.dp (by decide), SP.len (by decide) (by decide), ?_⟩
      refine ⟨_, rfl, x, dw, _, rfl, hxw, x, dw, _, _, rfl, hxw, rfl, ?_⟩
      refine ⟨_, .tuple (W.ps.map dP), rfl, .inl (rp_tup ep8 (L2.Paired.mapP pp8 fun _ _ z => rp_P z)), SP.sh, Nat.le_trans SP.dp (by decide), SP.len (by decide) (by decide), rfl, _, rfl, ?_⟩
      refine ite2 (fun z => by rw [decide_eq_true rfl] at z; cases z) (fun _ => ?_)
      refine rd_nextU ?_
      try dsimp only
      refine rd_seqU (rd_ifU ?_)
      refine ⟨_, rfl, _, rfl, x, dw, _, rfl, hxw, .inr ⟨⟨_, rfl⟩, hss⟩, x, wtext W, _, rfl, ⟨dw, _, hxw, rfl⟩, .inr ⟨_, rfl, _, rfl, _, rfl, ?_⟩⟩
      refine ite2 (fun z => by cases z) (fun _ => ?_)
      refine ⟨_, rfl, x, dw, _, rfl, hxw, ?_⟩
      refine ite2 (fun z => by cases z) (fun _ => ?_)
      refine rd_nextU ?_
      try dsimp only
      refine rd_seqU (rd_asgU ?_)
      have gp : ∀ {n : Str} {v : V} {σ : L2.St} {Q : VK}, σ[4]? = some (some (.ref x)) → ([("_machines", .ref am), ("_cleanings", .ref ac), ("_stuffs", .ref as), ("_products", .ref ap), ("_holds", .ref F1), ("_keeps", .ref F2), ("_limits", .ref F3), ("_contents", .ref F4), ("_text", .str (wtext W))] : List (Str × V)).lookup n = some v → Q v G7 → tProp C (getSp C n) [] E0 (tVar 4) σ G7 Q := fun h1 h2 h3 => ⟨_, h1, x, dw, _, rfl, hxw, x, dw, _, _, rfl, hxw, h2, h3⟩
      refine gp rfl rfl (gp rfl rfl (gp rfl rfl (gp rfl rfl ⟨rfl, rfl, fun x8 d8 n8 nd8 ne8 => ?_⟩)))
      have x8x : Ex G7 (upd (upd G7 d8 (.own x8)) x8 (.ins C d8 [])) := (Ex.refl.new nd8).new (by rw [upd_ne ne8.symm]; exact n8)
      have e8 : (upd (upd G7 d8 (.own x8)) x8 (.ins C d8 [])) x8 = some (.ins C d8 []) := upd_same
      generalize upd (upd G7 d8 (.own x8)) x8 (.ins C d8 []) = G8 at x8x e8 ⊢
      have tt := Ex.tup x8x
      refine ⟨x8, d8, am, ac, as, ap, vm8, vc8, vs8, vp8, W, rfl, e8, goodF_fit g (x8x _ _ em8) (x8x _ _ ec8) (x8x _ _ es8) (x8x _ _ ep8) (rows3 tt pm8) (rows3 tt pc8) (rows2 tt ps8) (rowsP tt pp8), rows3 tt pm8, rows3 tt pc8, rows2 tt ps8, rowsP tt pp8, goodF_told g, fun r hr => (g.pb r hr).1, TabsN.exs t7 x8x, fun G9 keep t9 wk9 => ⟨rfl, ?_⟩⟩
      have xn9 : ExtN G7 G9 := fun b o e nt => keep b o (fun z => by rw [z, n8] at e; cases e) (x8x _ _ e) nt
      have k9 : Kp j G G9 := k7.trans (Kp.of_n xn9)
      have J9 := J7.exN xn9
      refine rd_nameU ?_
      try dsimp only
      refine rd_seqU (rd_ifU ?_)
      obtain ⟨dv, fv, hx9, fx9⟩ := works_text (Sc.exN xn9 sc7).wk
      obtain ⟨du, fu, hy9, fy9⟩ := works_text wk9
      refine ⟨_, rfl, _, rfl, x8, du, _, x, dv, _, rfl, rfl, hy9, hx9, ⟨x8, wtext W, _, rfl, ⟨du, _, hy9, fy9⟩, .inl ⟨x, wtext W, rfl, ⟨dv, _, hx9, fx9⟩, ⟨_, rfl, _, rfl, ?_⟩⟩⟩⟩
      refine ite2 (fun z => by rw [decide_eq_true rfl] at z; cases z) (fun _ => ?_)
      refine rd_nextU ?_
      try dsimp only
      have e9 : G9 kl = some (.lst (xs.map V.ref)) := k9 _ _ hjn eG fun _ z => nomatch z
      refine ⟨_, rfl, .inl ⟨rfl, _, SqL.of e9⟩, _, rfl, kl, xs.map V.ref, _, rfl, rfl, e9, by rw [List.length_map]; omega, ?_⟩
      obtain ⟨jd, jm, jc, jh, jr⟩ := id J9
      refine ⟨⟨_, _, _, _, _, _, _, _, rfl⟩, ?_, ?_, TabsN.putL e9 t9, xs ++ [x], by rw [upd_same, List.map_append]; rfl, by rw [List.length_append, lx]; rfl, fun y hy => ?_⟩
      · exact (kG.trans k9).put nkl
      · exact ⟨jd, jm, jc, by rw [upd_ne hjn.symm]; exact jh, jr⟩
      · rcases List.mem_append.mp hy with h | h
        · obtain ⟨z, h⟩ := tx y h
          exact ⟨z, TextOf.putL e9 (TextOf.kp JG k9 h)⟩
        · obtain rfl := List.mem_singleton.mp h
          exact ⟨_, TextOf.putL e9 ⟨dv, _, hx9, fx9⟩⟩
    · rintro σ G ⟨⟨v2, v3, v4, v5, v6, v7, v8, v9, rfl⟩, kG, JG, tG, xs, eG, lx, tx⟩
      try dsimp only
      refine rd_seqU ?_
      have at_ : ∀ {G1 : Hp} {i : Nat} {v : V}, Ex G G1 → (xs.map V.ref)[i]? = some v → ∃ (y : Addr) (z : Str) (dx : Addr) (fs : List (Str × V)), v = .ref y ∧ G1 y = some (.ins C dx fs) ∧ fs.lookup ("_text" : Str) = some (.str z) := fun {G1 i v} xG hv => by
        rw [List.getElem?_map] at hv
        obtain ⟨y, hy, rfl⟩ := Option.map_eq_some_iff.mp hv
        obtain ⟨z, dx, fs, h1, h2⟩ := tx y (List.mem_of_getElem? hy)
        exact ⟨y, z, dx, fs, rfl, xG _ _ h1, h2⟩
      have l4 : (xs.map V.ref).length = 4 := by rw [List.length_map, lx]
      refine ⟨_, rfl, kl, rfl, ⟨_, SqL.of eG⟩, for_list (K := K) (a := kl) (xs := xs.map V.ref) (fun i σ G1 => (∃ v2 v3 v4 v5 v6 v7 v8 v9, σ = SR j kl v2 v3 v4 v5 v6 v7 v8 v9) ∧ Ex G G1) ⟨⟨_, _, _, _, _, _, _, _, rfl⟩, Ex.refl⟩ (fun i σ G1 _ h => SqL.of (h.2 _ _ eG)) ?_ ?_⟩
      · rintro i v σ G1 hv ⟨⟨v2, v3, v4, v5, v6, v7, v8, v9, rfl⟩, x1⟩
        refine rd_nameU ?_
        try dsimp only
        refine rd_ifU (rd_testU (rd_opU ?_))
        refine ⟨_, rfl, kl, rfl, ⟨_, SqL.of (x1 _ _ eG)⟩, fun D hD => lc_list (K := K) (a := kl) (xs := xs.map V.ref) (fun k G2 => Ex G1 G2 ∧ G2 D = some (.lst (List.replicate k (.bl true)))) ⟨Ex.refl.new hD, upd_same⟩ (fun k G2 _ h => SqL.of (h.1 _ _ (x1 _ _ eG))) ?_ ?_⟩
        · rintro k v' G2 hv' ⟨x2, e2⟩
          obtain ⟨y1, z1, d1, f1, rfl, h1, g1'⟩ := at_ (x1.trans x2) hv
          obtain ⟨y2, z2, d2, f2, rfl, h2, g2'⟩ := at_ (x1.trans x2) hv'
          have kk : k < 4 := by
            have := (List.getElem?_eq_some_iff.mp hv').1
            omega
          refine ⟨rfl, ?_⟩
          refine ⟨_, rfl, _, rfl, y1, d1, _, rfl, h1, .inl ⟨y2, d2, _, rfl, h2⟩, ⟨y1, z1, _, rfl, ⟨d1, _, h1, g1'⟩, .inl ⟨y2, z2, rfl, ⟨d2, _, h2, g2'⟩, ⟨_, rfl, ?_⟩⟩⟩⟩
          refine ⟨_, rfl, y1, d1, _, rfl, h1, ⟨y1, z1, rfl, ⟨d1, _, h1, g1'⟩, ⟨_, rfl, _, rfl, y2, d2, _, rfl, h2, ⟨y2, z2, rfl, ⟨d2, _, h2, g2'⟩, ⟨_, rfl, rfl, rfl, ?_⟩⟩⟩⟩⟩
          have ev : (V.bl (decide (V.bl (decide (z1 = z2)) = V.bl (decide (V.str z1 = V.str z2))))) = V.bl true := by
            have : decide (V.str z1 = V.str z2) = decide (z1 = z2) := decide_eq_decide.mpr ⟨fun e => V.str.inj e, fun e => by rw [e]⟩
            rw [this, decide_eq_true rfl]
          rw [ev]
          refine ⟨_, e2, by rw [List.length_replicate]; omega, x2.put hD, ?_⟩
          rw [upd_same, List.replicate_succ']
        · rintro G2 ⟨x2, e2⟩
          rw [l4] at e2
          have y2 := x1.trans x2
          refine ⟨by rw [sizeLine_eq]; show 1 ≤ 16777216; decide, fun pl npl => ?_⟩
          have x3 : Ex G2 (upd G2 pl (.lst [.bl true])) := Ex.refl.new npl
          have e3 : (upd G2 pl (.lst [.bl true])) pl = some (.lst [.bl true]) := upd_same
          generalize upd G2 pl (.lst [.bl true]) = G3 at x3 e3 ⊢
          have y3 := y2.trans x3
          refine ⟨_, rfl, kl, _, rfl, .inl (SqL.of (y3 _ _ eG)), ?_⟩
          rw [l4]
          refine ⟨pl, 4, _, rfl, rfl, e3, by decide, by decide, by rw [sizeLine_eq]; show 4 ≤ 16777216; decide, fun pr npr => ?_⟩
          have x4 : Ex G3 (upd G3 pr (.lst (List.replicate ((4 : Int)).toNat [V.bl true]).flatten)) := Ex.refl.new npr
          have e4 : (upd G3 pr (.lst (List.replicate ((4 : Int)).toNat [V.bl true]).flatten)) pr = some (.lst (List.replicate 4 (.bl true))) := upd_same
          generalize upd G3 pr (.lst (List.replicate ((4 : Int)).toNat [V.bl true]).flatten) = G4 at x4 e4 ⊢
          have dt : ∀ {G : Hp}, DpAll K G (List.replicate 4 (.bl true)) (List.replicate 4 (.bool true)) := .cons (.bl _) (.cons (.bl _) (.cons (.bl _) (.cons (.bl _) .nil)))
          refine ⟨.list (List.replicate 4 (.bool true)), .list (List.replicate 4 (.bool true)), .lst (SqL.of (x4 _ _ (x3 _ _ e2))) dt, .lst (SqL.of e4) dt, by decide +kernel, by decide +kernel, _, rfl, ?_⟩
          rw [show (PyData.list (List.replicate 4 (.bool true))).eqv (.list (List.replicate 4 (.bool true))) = true by decide +kernel]
          refine ite2 (fun z => by cases z) (fun _ => ?_)
          exact ⟨⟨_, _, _, _, _, _, _, _, rfl⟩, (y3.trans x4)⟩
      · rintro σ G1 ⟨_, x1⟩
        exact q G1 (kG.trans (Kp.of_ex x1)) (TabsN.exs tG x1)

end
end LJ
set_option Elab.async false
set_option linter.all false
set_option maxRecDepth 100000
set_option maxHeartbeats 8000000
namespace LJ
open PySem PySem.Spec L2 PySem.ErrV PyProof.Rows
open LamX (ExtN TabB CodeO)
open NdefX (NTab TabsN)
abbrev sLaw : Stmt := top 50
abbrev nLaw : List Str := ["_law_cells", "_law_turn"]
theorem scLaw : FnScope nLaw ["_law_cells"] (defScope sLaw) := ⟨rfl, rfl, rfl, by decide +kernel, rfl, by decide +kernel, by decide +kernel⟩
theorem lstN {G G1 : Hp} (e : ExtN G G1) {a : Addr} {xs : List V} (h : G a = some (.lst xs)) : G1 a = some (.lst xs) := e _ _ h fun _ z => nomatch z
theorem small_line {n : Nat} (h : n ≤ 10000) : n ≤ sizeLine := by
  rw [sizeLine_eq]
  omega
structure BltM (mg : Str → Option Value) : Prop where
  all : mg "all" = none
  range : mg "range" = none
  max : mg "max" = none
  min : mg "min" = none
  len : mg "len" = none
def spLaw (T : List NTab) (K : PySem.W.Frag) : Sp := fun vs H Q _ => ∃ (a : Addr) (ns : List Int), vs = [.ref a] ∧ SqL K H a (ns.map V.int) ∧ ns.length ≤ 63 ∧ TabsN T H ∧ ∀ H1, Q (.bl true) H1
theorem sqN {K : PySem.W.Frag} {H H1 : Hp} {a : Addr} {xs : List V} (e : ExtN H H1) (h : SqL K H a xs) : SqL K H1 a xs := by
  rcases h with (h | ⟨o, h⟩) | h
  · exact .inl (.inl (e _ _ h fun _ z => nomatch z))
  · exact .inl (.inr ⟨o, e _ _ h fun _ z => nomatch z⟩)
  · exact .inr h
/-- the reading of _law_right(_law_jar(_law_cells, _law_turn)) -/
def tR (K : PySem.W.Frag) (T : List NTab) : TE := fun σ H Q => tCons (tCall (spJar K) [] E0 (tCons (tVar 0) (tCons (tVar 1) tNil))) tNil σ H fun vs H1 => spRight T vs H1 Q E0
section
variable {P : Program} {w : World} {K : PySem.W.Frag} {mg : Str → Option Value} {base : Heap} {T : List NTab}
theorem ok_law {f fR fJ : Addr} {fd fdR fdJ : FuncData} (F : Fun K "law" "law" sLaw f fd) (B : BltM mg)
    (GR : FnG P w K mg base 11 fR fdR ["_law_jar_here"] (spRight T)) (mR : mg "_law_right" = some (.ref fR)) (kR : PySem.W.keepIn K (.ref fR) = true) (bR : Binds K fdR ["_law_jar_here"] [])
    (GJ : FnOk P w K mg base CX0 1 fJ fdJ ["_law_cells", "_law_turn"] (spJar K)) (mJ : mg "_law_jar" = some (.ref fJ)) (kJ : PySem.W.keepIn K (.ref fJ) = true) (bJ : Binds K fdJ ["_law_cells", "_law_turn"] []) :
    FnG P w K mg base 12 f fd ["_law_cells"] (spLaw T K) := by
  refine F.okG scLaw (fun vs H Q E h => ?_) (fun cdv A outer s H vs Q hgA hr h => ?_)
  · obtain ⟨a, ns, rfl, _⟩ := h
    rfl
  · obtain ⟨a, ns, rfl, hS, hn, tabs, k⟩ := h
    have hgd : (A.deeper (PyProof.Rows.envOfC "law" (defScope sLaw) s.heap.objs.size f cdv)).guards = some [] := hgA
    have hr1 : Room 1 _ := hr.mono (by decide)
    refine ⟨_, pss_one (ps_ret (pe_callB (cr_all rfl) (by rfl) B.all (by decide +kernel) (pa_cons (pe_lc (own := [("_law_turn", 1)]) (g := gName 1) (te := tR K T) (by rfl) scLaw.nd (pi_range1 (by rfl) B.range (pa_cons (pe_callB (call_max2 rfl) (by rfl) B.max (by decide +kernel) (pa_cons pe_int (pa_cons (pe_callB (call_min2 rfl) (by rfl) B.min (by decide +kernel) (pa_cons (pe_callB call_len_seq (by rfl) B.len PySem.boot_len (pa_cons (pv 0) pa_nil)) (pa_cons pe_int pa_nil))) pa_nil))) pa_nil)) (blkOk_by (own := [("_law_turn", 1)]) (N := nLaw) (sc := defScope sLaw) (by decide +kernel)) (fun _ _ _ _ _ => pg_name (i := 1) scLaw.nd rfl (Or.inl rfl)) (fun _ _ _ _ _ => pts_nil) (fun _ _ _ _ _ => pe_callNG GR hgd hr (by rfl) mR kR bR (pa_cons (pe_call GJ hr1 (by rfl) mJ kJ bJ .nil pass0 (pa_cons (pv 0) (pa_cons (pv 1) pa_nil))) pa_nil))) pa_nil))), ?_⟩
    have six : (if (if (6 : Int) < ((ns.map V.int).length : Int) then (6 : Int) else ((ns.map V.int).length : Int)) > 2 then (if (6 : Int) < ((ns.map V.int).length : Int) then (6 : Int) else ((ns.map V.int).length : Int)) else 2) ≤ 6 := by
      split <;> split <;> omega
    have two : (2 : Int) ≤ (if (if (6 : Int) < ((ns.map V.int).length : Int) then (6 : Int) else ((ns.map V.int).length : Int)) > 2 then (if (6 : Int) < ((ns.map V.int).length : Int) then (6 : Int) else ((ns.map V.int).length : Int)) else 2) := by
      split <;> omega
    refine ⟨_, rfl, a, _, rfl, .inl hS, _, _, rfl, _, _, rfl, _, rfl, ?_⟩
    generalize (if (if (6 : Int) < ((ns.map V.int).length : Int) then (6 : Int) else ((ns.map V.int).length : Int)) > 2 then (if (6 : Int) < ((ns.map V.int).length : Int) then (6 : Int) else ((ns.map V.int).length : Int)) else 2) = n6 at six two ⊢
    refine ⟨by omega, by omega, fun D hD => lc_range (lo := 0) (n := n6.toNat) (fun n H2 => ExtN H H2 ∧ TabsN T H2 ∧ H2 D = some (.lst ((List.replicate n true).map V.bl))) ⟨(Ex.refl.new hD).n, TabsN.exs tabs (Ex.refl.new hD), upd_same⟩ ?_ ?_⟩
    · rintro n H2 hi ⟨h2, t2, hD2⟩
      refine ⟨rfl, ?_⟩
      refine ⟨_, rfl, _, rfl, a, ns, 0 + (n : Int), rfl, sqN h2 hS, hn, by omega, by omega, fun j H8 nj s8 J8 => ?_⟩
      have t8 : TabsN T H8 := TabsN.exs t2 s8
      refine ⟨j, rfl, J8, t8, fun H9 b9 t9 => ?_⟩
      have far : ∀ {b : Addr} {o : HO}, H2 b = some o → b ≠ j := fun {b o} e z => by
        rw [z, nj] at e
        cases e
      have s9 : ExtN H2 H9 := fun b o e nt => b9 b o (far e) (s8 b o e) nt
      have hD9 := lstN s9 hD2
      refine ⟨_, hD9, small_line (by rw [List.length_map, List.length_replicate]; omega), fun b o e nt => ?_, fun r hr => ?_, ?_⟩
      · have nb : b ≠ D := fun z => by
          rw [z, hD] at e
          cases e
        rw [upd_ne nb]
        exact s9 b o (h2 b o e nt) nt
      · obtain ⟨ps, h1, h2, h3⟩ := t9 r hr
        refine ⟨ps, by rw [upd_ne (ne_of h1 hD9 fun z => nomatch z)]; exact h1, h2, fun pos v hv => ?_⟩
        obtain ⟨c, e1, e2⟩ := h3 pos v hv
        exact ⟨c, e1, by rw [upd_ne (ne_of e2 hD9 fun z => nomatch (show HO.ext _ = HO.lst _ from z))]; exact e2⟩
      · rw [List.replicate_succ', List.map_append]
        exact upd_same
    · rintro H2 ⟨h2, t2, hD2⟩
      refine ⟨D, _, rfl, SqL.of hD2, ?_⟩
      have e : (List.replicate n6.toNat true).all id = true := by simp
      rw [e]
      exact k H2
end
end LJ
set_option Elab.async false
set_option linter.all false
set_option maxRecDepth 100000
set_option maxHeartbeats 4000000
namespace LJ
open PySem PySem.Spec L2
section
variable {P : Program} {w : World} {K : PySem.W.Frag} {mg : Str → Option Value} {base : Heap} {C : Addr}
theorem scG2 : FnScope ["self"] ["self"] (defScope (meth 2)) := ⟨rfl, rfl, rfl, by decide +kernel, rfl, by decide +kernel, by decide +kernel⟩
theorem scG3 : FnScope ["self"] ["self"] (defScope (meth 3)) := ⟨rfl, rfl, rfl, by decide +kernel, rfl, by decide +kernel, by decide +kernel⟩
theorem scG4 : FnScope ["self"] ["self"] (defScope (meth 4)) := ⟨rfl, rfl, rfl, by decide +kernel, rfl, by decide +kernel, by decide +kernel⟩
theorem scG5 : FnScope ["self"] ["self"] (defScope (meth 5)) := ⟨rfl, rfl, rfl, by decide +kernel, rfl, by decide +kernel, by decide +kernel⟩
theorem ok_get2 {f : Addr} {fd : FuncData} (F : Fun K "machines" "Works.machines" (meth 2) f fd) (c : WCls K C) : FnOk P w K mg base CX0 1 f fd ["self"] (getSp C "_machines") := by
  refine F.ok scG2 (fun vs H Q E h => ?_) (fun cdv A outer s H vs Q E hr h => ?_)
  · obtain ⟨x, dx, fs, v, rfl, _⟩ := h
    rfl
  · obtain ⟨x, dx, fs, v, rfl, hx, hf, q⟩ := h
    refine ⟨_, pss_one (ps_ret (pe_fld (pv 0) rfl)), ?_⟩
    exact ⟨_, rfl, x, C, dx, fs, _, rfl, hx, c.cl, c.n1, hf, q⟩
theorem ok_get3 {f : Addr} {fd : FuncData} (F : Fun K "cleanings" "Works.cleanings" (meth 3) f fd) (c : WCls K C) : FnOk P w K mg base CX0 1 f fd ["self"] (getSp C "_cleanings") := by
  refine F.ok scG3 (fun vs H Q E h => ?_) (fun cdv A outer s H vs Q E hr h => ?_)
  · obtain ⟨x, dx, fs, v, rfl, _⟩ := h
    rfl
  · obtain ⟨x, dx, fs, v, rfl, hx, hf, q⟩ := h
    refine ⟨_, pss_one (ps_ret (pe_fld (pv 0) rfl)), ?_⟩
    exact ⟨_, rfl, x, C, dx, fs, _, rfl, hx, c.cl, c.n2, hf, q⟩
theorem ok_get4 {f : Addr} {fd : FuncData} (F : Fun K "stuffs" "Works.stuffs" (meth 4) f fd) (c : WCls K C) : FnOk P w K mg base CX0 1 f fd ["self"] (getSp C "_stuffs") := by
  refine F.ok scG4 (fun vs H Q E h => ?_) (fun cdv A outer s H vs Q E hr h => ?_)
  · obtain ⟨x, dx, fs, v, rfl, _⟩ := h
    rfl
  · obtain ⟨x, dx, fs, v, rfl, hx, hf, q⟩ := h
    refine ⟨_, pss_one (ps_ret (pe_fld (pv 0) rfl)), ?_⟩
    exact ⟨_, rfl, x, C, dx, fs, _, rfl, hx, c.cl, c.n3, hf, q⟩
theorem ok_get5 {f : Addr} {fd : FuncData} (F : Fun K "products" "Works.products" (meth 5) f fd) (c : WCls K C) : FnOk P w K mg base CX0 1 f fd ["self"] (getSp C "_products") := by
  refine F.ok scG5 (fun vs H Q E h => ?_) (fun cdv A outer s H vs Q E hr h => ?_)
  · obtain ⟨x, dx, fs, v, rfl, _⟩ := h
    rfl
  · obtain ⟨x, dx, fs, v, rfl, hx, hf, q⟩ := h
    refine ⟨_, pss_one (ps_ret (pe_fld (pv 0) rfl)), ?_⟩
    exact ⟨_, rfl, x, C, dx, fs, _, rfl, hx, c.cl, c.n4, hf, q⟩
end
end LJ
set_option Elab.async false
set_option linter.all false
set_option maxRecDepth 100000
set_option maxHeartbeats 4000000
/-! The end of a row whose law asks for repr and makes lambdas: no guard stands, tables of code are empty at first. -/
namespace L2
open PySem PySem.Spec PyProof.Rows
/-- what is tracked when the law is called: the tables, and the script where it is not written -/
def Begun (cs : List (Addr × Addr)) (a : Addr) (H : Hp) : Prop := ∀ b, H b = none ∨ b ∈ cs.map (·.2) ∧ H b = some (.tbl #[]) ∨ b = a ∧ ∃ o xs, H b = some (.frz o (.lst xs))
section
variable {P : Program} {w : World} {K : PySem.W.Frag} {mg mb : Str → Option Value} {k : Nat} {fa a : Addr} {fd : FuncData} {x : Str} {sp : Sp} {s1 : Shared} {vs : List Value} {ns : List Int} {cs : List (Addr × Addr)}
/-- the tables of some code objects, all empty -/
structure Empty (K : PySem.W.Frag) (h : Heap) (cs : List (Addr × Addr)) : Prop where
  at_ : ∀ q ∈ cs, h.get? q.2 = some (PySem.W.tabObj #[])
  out : ∀ q ∈ cs, K.lookup q.2 = none
  head : ∀ q ∈ cs, PySem.W.CodeHd h q.1 q.2
theorem Empty.of {h : Heap} (E : Empty K h cs) {b : Addr} (m : b ∈ cs.map (·.2)) : h.get? b = some (PySem.W.tabObj #[]) := by
  obtain ⟨q, hq, rfl⟩ := List.mem_map.mp m
  exact E.at_ q hq
theorem Empty.no {h : Heap} (E : Empty K h cs) {b : Addr} (m : b ∈ cs.map (·.2)) : K.lookup b = none := by
  obtain ⟨q, hq, rfl⟩ := List.mem_map.mp m
  exact E.out q hq
theorem law_gt_at (KX : K.In s1.heap) (hns : s1.heap.Ns mainGlobals mg) (hb : s1.heap.Ns builtinsNs mb) (hbb : ∀ y : Str, y ≠ "__name__" → mb y = bootBuiltins y) (hlim : s1.heap.NoLimit) (hgn : s1.gens = #[]) (E : Empty K s1.heap cs)
    (bi : ∃ (m : Addr) (o : Obj), mg "__builtins__" = some (.ref m) ∧ m ≠ builtinsNs ∧ s1.heap.get? m = some o ∧ o.cls = .type "module" ∧ o.dict = some builtinsNs ∧ o.data = .plain)
    (ha : s1.heap.get? a = some { cls := .type "list", data := .seq vs.toArray }) (hr : Room k callerA)
    (F : ∀ base : Heap, K.In base → base.Ns mainGlobals mg → (∀ q ∈ cs, LamX.TabB base mg q.1 q.2) → FnG P w K mg base k fa fd [x] sp) (hbind : ∀ (s : Shared) (u : Value), BindsTo s fd ⟨[u], []⟩ [(x, u)])
    (H : Hp) (tb : ∀ q ∈ cs, H q.2 = some (.tbl #[])) (only : Begun cs a H) (hsp : sp [.ref a] H (fun v _ => v = .bl true) E0) (hok : HOk P w H s1.heap) (hK : H a ≠ none → K.lookup a = none) :
    codeAny (model P w) callerA (.call (.ref fa) ⟨[.ref a], []⟩) (fun r s2 => r = .ok (.ret (.bool true)) ∧ OldK s1.heap s2.heap ∧ s2.os = s1.os ∧ AllBare s2.gens) s1 := by
  have untracked : ∀ {b : Addr} {o : Obj}, s1.heap.get? b = some o → (∀ us n, o.data ≠ .seq us n) → (∀ us, o.data = .fields us → us ≠ #[]) → H b = none := fun {b o} e n1 n2 => by
    rcases only b with z | ⟨m, _⟩ | ⟨rfl, _⟩
    · exact z
    · rw [E.of m] at e
      cases e
      exact absurd rfl (n2 _ rfl)
    · rw [ha] at e
      cases e
      exact absurd rfl (n1 _ _)
  have ground : ∀ {b : Addr} {o : Obj}, s1.heap.get? b = some o → H b = none → (hidT s1.heap H).get? b = some o := fun e n => hidT_get e n
  have names : ∀ {b : Addr} {m : Str → Option Value}, s1.heap.Ns b m → (hidT s1.heap H).Ns b m := fun {b m} ⟨o, es, ep, e, d, r⟩ =>
    ⟨o, es, ep, ground e (untracked e (fun us n z => nomatch d.symm.trans z) fun us z => nomatch d.symm.trans z), d, r⟩
  have KB : K.In (hidT s1.heap H) := fun b o e => ground (KX b o e) (by
    rcases only b with z | ⟨m, _⟩ | ⟨rfl, o2, xs, z⟩
    · exact z
    · rw [E.no m] at e
      cases e
    · rw [hK (by rw [z]; exact Option.some_ne_none _)] at e
      cases e)
  have md : Mod K mg (hidT s1.heap H) := ⟨KB, names hns, ⟨mb, names hb, hbb⟩, let ⟨mc, h1, h2⟩ := hlim; ⟨mc, names h1, h2⟩⟩
  have TB : ∀ q ∈ cs, LamX.TabB (hidT s1.heap H) mg q.1 q.2 := fun q hq => by
    constructor
    · obtain ⟨o, us, file, tf, flags, tg, inF, text, tt, e1, r1, r2, r3, rest⟩ := E.head q hq
      refine ⟨o, us, file, tf, flags, tg, inF, text, tt, ground e1 (untracked e1 (fun vs n z => nomatch r2.symm.trans z) fun vs z e => ?_), r1, r2, r3, rest⟩
      have es : us = vs := Data.fields.inj (r2.symm.trans z)
      rw [es, e] at r3
      cases r3
    · obtain ⟨m, o, b1, b2, b3, b4, b5, b6⟩ := bi
      refine ⟨m, o, b1, b2, fun z => ?_, fun z => ?_, ground b3 (untracked b3 (fun vs n z => nomatch b6.symm.trans z) fun vs z => nomatch b6.symm.trans z), b4, b5, b6⟩
      · obtain ⟨og, es, ep, e, d, _⟩ := hns
        rw [z, e] at b3
        cases b3
        exact nomatch d.symm.trans b6
      · rw [z, E.at_ q hq] at b3
        cases b3
        cases b6
    · intro z
      obtain ⟨og, es, ep, e, d, _⟩ := hns
      rw [z, E.at_ q hq] at e
      cases e
      cases d
  have start0 : Env0 P w K mg (hidT s1.heap H) callerA [] s1 H :=
    ⟨rfl, md, fun b o e => of_hidT e, Nat.le_of_eq (hidT_size _ _), trivial, fun b hb => absurd (show b ∈ ([] : List Addr) from hb) (by simp), hok, .of_eq hgn⟩
  refine codeAny_mono ((F _ KB (names hns) TB).run callerA [] s1 H ⟨[.ref a], []⟩ [.ref a] [.ref a] _ rfl hr start0 (hbind s1 (.ref a)) (.cons rfl .nil) hsp) fun r s2 h => ?_
  cases r with
  | error e => exact False.elim h
  | ok fl =>
    cases fl with
    | next => exact False.elim h
    | brk => exact False.elim h
    | cont => exact False.elim h
    | ret u =>
      obtain ⟨v, H2, os, bare, un, ok2, rv, q⟩ := h
      obtain rfl : v = .bl true := q
      obtain rfl : u = Value.bool true := rv
      have nox : ∀ b : Addr, b ∉ ([] : List Addr) := fun b => by simp
      have same : ∀ b o, b ∉ cs.map (·.2) → s1.heap.get? b = some o → s2.heap.get? b = some o := fun b o m e => by
        rcases only b with z | ⟨m2, _⟩ | ⟨_, ob, xs, z⟩
        · exact un.keep b o e z (nox b) (nox b)
        · exact absurd m2 m
        · obtain ⟨e1, _⟩ := hok b _ z
          obtain ⟨e2, _⟩ := ok2 b _ (un.frzs b ob _ z)
          rw [e] at e1
          cases e1
          exact e2
      have more : ∀ q ∈ cs, ∃ us : Array Value, s2.heap.get? q.2 = some { cls := .none, data := .fields us } := fun q hq => by
        obtain ⟨us, z⟩ := un.tbls q.2 #[] (tb q hq)
        exact ⟨_, ok2 q.2 _ z⟩
      refine ⟨rfl, { old := fun b o e => ?_, there := fun b o e => ?_ }, os, bare⟩
      · by_cases m : b ∈ cs.map (·.2)
        · obtain ⟨q, hq, rfl⟩ := List.mem_map.mp m
          obtain ⟨us, hu⟩ := more q hq
          rw [E.at_ q hq] at e
          cases e
          exact .inr (.inl ⟨((E.head q hq).tab (E.at_ q hq)).isCodeTable, rfl, #[], us, rfl, by rw [Array.empty_append]; exact hu⟩)
        · exact .inl (same b o m e)
      · by_cases m : b ∈ cs.map (·.2)
        · obtain ⟨q, hq, rfl⟩ := List.mem_map.mp m
          obtain ⟨us, hu⟩ := more q hq
          exact ⟨_, hu⟩
        · exact ⟨o, same b o m e⟩
theorem law_gt (KX : K.In s1.heap) (hns : s1.heap.Ns mainGlobals mg) (hb : s1.heap.Ns builtinsNs mb) (hbb : ∀ y : Str, y ≠ "__name__" → mb y = bootBuiltins y) (hlim : s1.heap.NoLimit) (hgn : s1.gens = #[]) (E : Empty K s1.heap cs)
    (bi : ∃ (m : Addr) (o : Obj), mg "__builtins__" = some (.ref m) ∧ m ≠ builtinsNs ∧ s1.heap.get? m = some o ∧ o.cls = .type "module" ∧ o.dict = some builtinsNs ∧ o.data = .plain)
    (ha : s1.heap.get? a = some { cls := .type "list", data := .seq vs.toArray }) (hi : IntsAre vs ns) (hl : ns.length ≤ sizeLine) (hr : Room k callerA)
    (F : ∀ base : Heap, K.In base → base.Ns mainGlobals mg → (∀ q ∈ cs, LamX.TabB base mg q.1 q.2) → FnG P w K mg base k fa fd [x] sp) (hbind : ∀ (s : Shared) (u : Value), BindsTo s fd ⟨[u], []⟩ [(x, u)])
    (hsp : ∀ H : Hp, (∀ q ∈ cs, H q.2 = some (.tbl #[])) → SqL K H a (ns.map V.int) → sp [.ref a] H (fun v _ => v = .bl true) E0) :
    codeAny (model P w) callerA (.call (.ref fa) ⟨[.ref a], []⟩) (fun r s2 => r = .ok (.ret (.bool true)) ∧ OldK s1.heap s2.heap ∧ s2.os = s1.os ∧ AllBare s2.gens) s1 := by
  have rv := vals_ints hi
  have lenV := hi.length
  have far : a ∉ cs.map (·.2) := fun m => by
    have z := E.of m
    rw [ha] at z
    cases z
  cases hk : K.lookup a with
  | some o =>
    have e := KX a o hk
    rw [ha] at e
    cases e
    let H : Hp := fun b => if b ∈ cs.map (·.2) then some (.tbl #[]) else none
    have yes : ∀ {b : Addr}, b ∈ cs.map (·.2) → H b = some (.tbl #[]) := fun m => if_pos m
    have no : ∀ {b : Addr}, b ∉ cs.map (·.2) → H b = none := fun m => if_neg m
    have tb : ∀ q ∈ cs, H q.2 = some (.tbl #[]) := fun q hq => yes (List.mem_map.mpr ⟨q, hq, rfl⟩)
    refine law_gt_at KX hns hb hbb hlim hgn E bi ha hr F hbind H tb (fun b => ?_) (hsp H tb (.inr ⟨_, vs.toArray, _, hk, rfl, rfl, rfl, by rw [List.size_toArray, lenV]; exact hl, by simpa using rv⟩)) (fun b u z => ?_) fun z => absurd (no far) z
    · by_cases m : b ∈ cs.map (·.2)
      · exact .inr (.inl ⟨m, yes m⟩)
      · exact .inl (no m)
    · by_cases m : b ∈ cs.map (·.2)
      · rw [yes m] at z
        cases z
        exact E.of m
      · rw [no m] at z
        cases z
  | none =>
    let o1 : Obj := { cls := .type "list", data := .seq vs.toArray }
    let H : Hp := fun b => if b = a then some (.frz o1 (.lst (ns.map V.int))) else if b ∈ cs.map (·.2) then some (.tbl #[]) else none
    have hA : H a = some (.frz o1 (.lst (ns.map V.int))) := if_pos rfl
    have yes : ∀ {b : Addr}, b ∈ cs.map (·.2) → H b = some (.tbl #[]) := fun {b} m => (if_neg (show ¬ b = a from fun z => far (by rw [← z]; exact m))).trans (if_pos m)
    have no : ∀ {b : Addr}, b ≠ a → b ∉ cs.map (·.2) → H b = none := fun n m => (if_neg n).trans (if_neg m)
    have tb : ∀ q ∈ cs, H q.2 = some (.tbl #[]) := fun q hq => yes (List.mem_map.mpr ⟨q, hq, rfl⟩)
    refine law_gt_at KX hns hb hbb hlim hgn E bi ha hr F hbind H tb (fun b => ?_) (hsp H tb (.inl (.inr ⟨_, hA⟩))) (fun b u z => ?_) fun _ => hk
    · by_cases n : b = a
      · exact .inr (.inr ⟨n, o1, _, n ▸ hA⟩)
      · by_cases m : b ∈ cs.map (·.2)
        · exact .inr (.inl ⟨m, yes m⟩)
        · exact .inl (no n m)
    · by_cases n : b = a
      · subst n
        rw [hA] at z
        cases z
        exact ⟨ha, by rw [List.length_map]; exact hl, vs, _, rv, ha⟩
      · by_cases m : b ∈ cs.map (·.2)
        · rw [yes m] at z
          cases z
          exact E.of m
        · rw [no n m] at z
          cases z
end
/-- what the end has to show of the law at the head's heap -/
def EndsAt (l : PySem.W.OpenLaw) (w : World) (K : PySem.W.Frag) (k n : Nat) (x : Str) (mg : Str → Option Value) (fa : Addr) (h : Heap) : Prop := ∃ (fd : FuncData) (cs : List (Addr × Addr)) (sp : Sp), Empty K h cs ∧ (∀ (s : Shared) (u : Value), BindsTo s fd ⟨[u], []⟩ [(x, u)]) ∧
  (∀ (H : Hp) (a : Addr) (ns : List Int), ns.length ≤ n → (∀ q ∈ cs, H q.2 = some (.tbl #[])) → SqL K H a (ns.map V.int) → sp [.ref a] H (fun v _ => v = .bl true) E0) ∧
  ∀ base : Heap, K.In base → base.Ns mainGlobals mg → (∀ q ∈ cs, LamX.TabB base mg q.1 q.2) → FnG l.prog w K mg base k fa fd [x] sp
theorem walk_gt {l : PySem.W.OpenLaw} {n k : Nat} {q : Program} {loose : List Str} {XP : (Str → Option Value) → Heap → Prop} {YP : World → Heap → Prop} {d : DefRec} {x : Str} (hn : l.most = some n) (hn2 : n ≤ sizeLine) (hdf : d.params.defaults = []) (hr : Room k callerA)
    (F : ∀ (w : World) (mg : Str → Option Value) (fa : Addr) (h : Heap), YP w h → h.Ns mainGlobals mg → mg d.name = some (.ref fa) → ∃ K : PySem.W.Frag, K.In h ∧ EndsAt l w K k n x mg fa h) :
    PySem.W.WalkO q loose XP YP l.row.toRowW d [] (fun f vs => PySem.call f vs) := by
  refine Att.attach_callB hn hdf fun w s0 s1 mg mb fa o pm cd doc a vs ns G Y ho hd hcd hmg hobj hints hlen hbits hgn => ?_
  obtain ⟨K, KX, fd, cs, sp, E, hb, hsp, hF⟩ := F w mg fa _ Y G.T.g hmg
  exact law_gt KX G.T.g G.T.b G.T.builtins G.T.nolimit hgn E G.T.bmain hobj hints (Nat.le_trans hlen hn2) hr hF hb fun H hH hS => hsp H a ns hlen hH hS
end L2
set_option Elab.async false
set_option linter.all false
set_option maxRecDepth 100000
set_option maxHeartbeats 4000000
namespace LJ
open PySem PySem.Spec L2 PySem.ErrV
open LamX (ExtN TabB)
open NdefX (NTab TabsN)
abbrev leT : List Value := [.type "LookupError", .type "Exception", .type "BaseException", .type "object"]
theorem bo_le : BaseOk "LookupError" "LookupError.__new__" "LookupError.__init__" leT := ⟨PySem.F.excBase_LookupError, PySem.F.store_LookupError⟩
/-! ### what is asked of the written part, by one look -/
def clsLook (K : PySem.W.Frag) (C : Addr) (B : List Value) (nw : String) : Bool := match K.lookup C with
  | some ⟨.type "type", _, .cls cd, sl⟩ => (match cd.mro, sl.toList with
    | .ref D :: bm, [_, _, _, _, some (.builtin n), _] => D == C && n == nw && !cd.hasDel && cd.hasDict && rowOver B bm
    | _, _ => false)
  | _ => false
theorem clsLook_of {K : PySem.W.Frag} {C : Addr} {B : List Value} {nw : String} (h : clsLook K C B nw = true) : ∃ nm q N bs bm sn sub ab col dd k0 k1 k2 k3 k5,
    K.lookup C = some (excClassObj nm q C N bs bm true sn sub ab col dd k0 k1 k2 k3 k5 nw) ∧ rowOver B bm = true := by
  unfold clsLook at h
  split at h
  · rename_i dd cd sl ho
    split at h
    · rename_i D bm k0 k1 k2 k3 n k5 hm hs
      simp only [Bool.and_eq_true, beq_iff_eq, Bool.not_eq_true'] at h
      obtain ⟨⟨⟨⟨e1, e2⟩, e3⟩, e4⟩, e5⟩ := h
      obtain ⟨nm, bs, mro, ns, qn, hd, sn, sub, ab, col, del⟩ := cd
      dsimp only at hm e3 e4
      subst hm e1 e2 e3 e4
      have hl : sl = #[k0, k1, k2, k3, some (.builtin n), k5] := by
        obtain ⟨l⟩ := sl
        simp only at hs
        rw [hs]
      subst hl
      exact ⟨nm, qn, ns, bs, bm, sn, sub, ab, col, dd, k0, k1, k2, k3, k5, ho, e5⟩
    · cases h
  · cases h
def errLook (K : PySem.W.Frag) (C fI : Addr) (f : Str) (B : List Value) (nw : String) : Bool :=
  clsLook K C B nw && decide (PySem.W.findIn K (.ref C) "__setattr__" = some (some (.builtin "object.__setattr__"))) && decide (PySem.W.findIn K (.ref C) f = some none) &&
  decide (PySem.W.findIn K (.ref C) "__init__" = some (some (.ref fI))) && decide (PySem.W.typeIn K (.ref fI) = some (.type "function")) && PySem.W.keepIn K (.ref C)
theorem errLook_of {K : PySem.W.Frag} {mg : Str → Option Value} {x f : Str} {C fI : Addr} {B : List Value} {nw : String} (h : errLook K C fI f B nw = true) (g : mg x = some (.ref C))
    (fn : ∃ (qual : Str) (oc : Value) (od : Option Addr) (doc pm : Value) (an : Option Addr) (cdv ct : Value) (osl : Array (Option Value)) (p1 p2 q1 q2 q3 q4 : Pos),
      K.lookup fI = some ⟨oc, od, .func (PySem.W.fnOf "__init__" qual (eA f p1 p2) (eB f q1 q2 q3 q4) (eS f) .none .none doc pm an cdv ct), osl⟩ ∧ PySem.W.codeIn K cdv qual = true) : ErrC K mg x f C fI nw B := by
  unfold errLook at h
  simp only [Bool.and_eq_true, decide_eq_true_eq] at h
  obtain ⟨⟨⟨⟨⟨h1, h2⟩, h3⟩, h4⟩, h5⟩, h6⟩ := h
  exact ⟨g, clsLook_of h1, h2, h3, h4, h5, h6, fn⟩
def intLook (K : PySem.W.Frag) (x : Str) (n : Int) : Bool := match PySem.W.nsIn K mainGlobals x with
  | some (some (.int m _)) => m == n
  | _ => false
theorem intLook_of {K : PySem.W.Frag} {x : Str} {n : Int} {h0 : Heap} {mg : Str → Option Value} (X : K.In h0) (G : h0.Ns mainGlobals mg) (h : intLook K x n = true) : ∃ u, mg x = some u ∧ RelV (.int n) u := by
  unfold intLook at h
  split at h
  · rename_i m t e
    obtain rfl := beq_iff_eq.mp h
    exact ⟨_, PySem.W.mg_of X G e, ⟨t, rfl⟩⟩
  · cases h
def outer : List Str := ["divmod", "int", "len", "abs", "isinstance", "bool", "str", "tuple", "all", "enumerate", "range", "sorted", "zip", "dict", "repr", "max", "min"]
def outLook (K : PySem.W.Frag) : Bool := outer.all fun x => decide (PySem.W.nsIn K mainGlobals x = some none)
theorem outLook_of {K : PySem.W.Frag} {h0 : Heap} {mg : Str → Option Value} (X : K.In h0) (G : h0.Ns mainGlobals mg) (h : outLook K = true) (x : Str) (hx : x ∈ outer) : mg x = none :=
  PySem.W.mg_none_of X G (of_decide_eq_true (List.all_eq_true.mp h x hx))
def cLook (K : PySem.W.Frag) : Bool := intLook K "_MOST_LETTERS" 8 && intLook K "MOST_MACHINES" 6 && intLook K "MOST_CLEANINGS" 6 && intLook K "MOST_STUFFS" 3 && intLook K "MOST_PRODUCTS" 8 && intLook K "MOST_SHARE" 1000 && intLook K "MOST_AMOUNT" 1000000000000 && intLook K "_MOST_DIGITS" 4000
def fields : List Str := ["_machines", "_cleanings", "_stuffs", "_products", "_holds", "_keeps", "_limits", "_contents", "_text"]
/-- the class Works -/
def wLook (K : PySem.W.Frag) (C fI : Addr) : Bool := PySem.W.plainGet K C Str.empty && PySem.W.hasDictIn K C && PySem.W.plainOver K C && decide (PySem.W.findIn K (.ref C) "__setattr__" = some (some (.builtin "object.__setattr__"))) &&
  (fields.all fun f => decide (PySem.W.findIn K (.ref C) f = some none)) && PySem.W.makesIn K C && PySem.W.isFn K (.ref fI) && PySem.W.keepIn K (.ref C)
def mLook (K : PySem.W.Frag) (C : Addr) (ms : List (Str × Addr)) : Bool := ms.all fun q => decide (PySem.W.findIn K (.ref C) q.1 = some (some (.ref q.2))) && PySem.W.isFn K (.ref q.2) && PySem.W.keepIn K (.ref q.2)
theorem mLook_of {K : PySem.W.Frag} {C : Addr} {ms : List (Str × Addr)} (h : mLook K C ms = true) (n : Str) (g : Addr) (m : (n, g) ∈ ms) : Meth K C n g := by
  have z := List.all_eq_true.mp h _ m
  simp only [Bool.and_eq_true, decide_eq_true_eq] at z
  exact ⟨z.1.1, z.1.2, z.2⟩
/-- properties -/
def pLook (K : PySem.W.Frag) (ps : List Addr) : Bool := ps.all fun p => decide (PySem.W.specialIn K (.ref p) "__get__" = some (some (.builtin "property.__get__"))) && decide (PySem.W.takesIn K (.ref p) = some true)
theorem pLook_of {K : PySem.W.Frag} {C : Addr} {ps : List Addr} (h : pLook K ps = true) {n : Str} {p g : Addr} {rest : List Value} (m : p ∈ ps) (a : PySem.W.findIn K (.ref C) n = some (some (.ref p))) (r : PySem.W.recIn K p "property" = some (.ref g :: rest)) : PropOf K C n p g := by
  have z := List.all_eq_true.mp h _ m
  simp only [Bool.and_eq_true, decide_eq_true_eq] at z
  exact ⟨a, z.1, z.2, rest, r⟩
/-- what isinstance, ==, !=, truth ask of Works -/
def iLook (K : PySem.W.Frag) (C : Addr) : Bool := decide (PySem.W.findIn K (.ref C) "__class__" = some (some (.builtin "object.__class__"))) && decide (PySem.W.specialIn K (.builtin "object.__class__") "__get__" = some (some (.builtin "getset_descriptor.__get__"))) && decide (PySem.W.takesIn K (.builtin "object.__class__") = some true) &&
  decide (PySem.W.mroIn K C (.type "object") = some true) && decide (PySem.W.kitOne K (.ref C) (.ref C) = some true) && decide (PySem.W.kitOne K (.type "str") (.ref C) = some false) &&
  decide (PySem.W.findIn K (.ref C) "__ne__" = some (some (.builtin "object.__ne__"))) && decide (PySem.W.subIn K (.ref C) (.type "object") = some true) && decide (PySem.W.subIn K (.type "str") (.ref C) = some false) &&
  decide (PySem.W.findIn K (.ref C) "__bool__" = some none) && decide (PySem.W.findIn K (.ref C) "__len__" = some none)
/-- a static method of Works, by the class -/
def sLook (K : PySem.W.Frag) (C : Addr) : Bool := PySem.W.readsIn K C (.type "type") && decide (PySem.W.specialIn K (.ref C) "__getattribute__" = some (some (.builtin "type.__getattribute__"))) && decide (PySem.W.typeIn K (.ref C) = some (.type "type"))
/-- UnknownName -/
def uLook (K : PySem.W.Frag) (C fI : Addr) : Bool := errLook K C fI "given" leT "LookupError.__new__" && decide (PySem.W.findIn K (.ref C) "__getattribute__" = some (some (.builtin "BaseException.__getattribute__"))) && decide (PySem.W.findIn K (.ref C) "__getattr__" = some none) &&
  decide (PySem.W.subIn K (.ref C) (.type "BaseException") = some true) && PySem.W.hasDictIn K C && decide (PySem.W.typeIn K (.ref C) = some (.type "type")) && decide (PySem.W.exmOne K (.ref C) (.ref C) = some true)
/-- tables of code -/
def tLook (K : PySem.W.Frag) (cs : List (Addr × Addr)) : Bool := cs.all fun q => PySem.W.codeHdIn K q.1 q.2 && (K.lookup q.2).isNone
/-- a def's code -/
def codLook (K : PySem.W.Frag) (f c : Addr) : Bool := match K.lookup f with
  | some ⟨_, _, .func fd, _⟩ => (match fd.code with
    | .ref d => d == c
    | _ => false)
  | _ => false
theorem codLook_of {K : PySem.W.Frag} {f c : Addr} {oc : Value} {od : Option Addr} {fd : FuncData} {sl : Array (Option Value)} (h : codLook K f c = true) (l : K.lookup f = some ⟨oc, od, .func fd, sl⟩) : fd.code = .ref c := by
  unfold codLook at h
  rw [l] at h
  have h2 : (match fd.code with
    | .ref d => d == c
    | _ => false) = true := h
  split at h2
  · rename_i d e
    rw [e, beq_iff_eq.mp h2]
  · cases h2

def inClass : Stmt → Nat → Stmt
  | st, i => (clsBody st).getD i (.Pass ⟨0, 0, 0, 0⟩)
theorem all_mk {l : PySem.W.OpenLaw} {w : World} {K : PySem.W.Frag} {h : Heap} {mg : Str → Option Value} {fa C CU c1 P1 : Addr} (X : K.In h) (G : h.Ns mainGlobals mg) (hfa : mg "law" = some (.ref fa)) {ts : List Addr} (TS : ∀ p ∈ ts, h.get? p = some (PySem.W.tabObj #[]))
    {ocint kVint dcint pmint cdint ctint : Value} {odint anint : Option Addr} {slint : Array (Option Value)} {gint : Addr}
    {ocnam kVnam dcnam pmnam cdnam ctnam : Value} {odnam annam : Option Addr} {slnam : Array (Option Value)} {gnam : Addr}
    {ocnum kVnum dcnum pmnum cdnum ctnum : Value} {odnum annum : Option Addr} {slnum : Array (Option Value)} {gnum : Addr}
    {ocof kVof dcof pmof cdof ctof : Value} {odof anof : Option Addr} {slof : Array (Option Value)} {gof : Addr}
    {ocby kVby dcby pmby cdby ctby : Value} {odby anby : Option Addr} {slby : Array (Option Value)} {gby : Addr}
    {occhk kVchk dcchk pmchk ctchk : Value} {odchk anchk : Option Addr} {slchk : Array (Option Value)} {gchk : Addr}
    {ocfst kVfst dcfst pmfst cdfst ctfst : Value} {odfst anfst : Option Addr} {slfst : Array (Option Value)} {gfst : Addr}
    {ocshr kVshr dcshr pmshr cdshr ctshr : Value} {odshr anshr : Option Addr} {slshr : Array (Option Value)} {gshr : Addr}
    {oclim kVlim dclim pmlim cdlim ctlim : Value} {odlim anlim : Option Addr} {sllim : Array (Option Value)} {glim : Addr}
    {occon kVcon dccon pmcon cdcon ctcon : Value} {odcon ancon : Option Addr} {slcon : Array (Option Value)} {gcon : Addr}
    {ocnmd kVnmd dcnmd pmnmd cdnmd ctnmd : Value} {odnmd annmd : Option Addr} {slnmd : Array (Option Value)} {gnmd : Addr}
    {ocbnd kVbnd dcbnd pmbnd cdbnd ctbnd : Value} {odbnd anbnd : Option Addr} {slbnd : Array (Option Value)} {gbnd : Addr}
    {octxt kVtxt dctxt pmtxt cdtxt cttxt : Value} {odtxt antxt : Option Addr} {sltxt : Array (Option Value)} {gtxt : Addr}
    {oclin kVlin dclin pmlin cdlin ctlin : Value} {odlin anlin : Option Addr} {sllin : Array (Option Value)} {glin : Addr}
    {ocrwk kVrwk dcrwk pmrwk cdrwk ctrwk : Value} {odrwk anrwk : Option Addr} {slrwk : Array (Option Value)} {grwk : Addr}
    {ocrrw kVrrw dcrrw pmrrw cdrrw ctrrw : Value} {odrrw anrrw : Option Addr} {slrrw : Array (Option Value)} {grrw : Addr}
    {ocrpr kVrpr dcrpr pmrpr cdrpr ctrpr : Value} {odrpr anrpr : Option Addr} {slrpr : Array (Option Value)} {grpr : Addr}
    {ocdip kVdip dcdip pmdip cddip ctdip : Value} {oddip andip : Option Addr} {sldip : Array (Option Value)} {gdip : Addr}
    {ocone kVone dcone pmone cdone ctone : Value} {odone anone : Option Addr} {slone : Array (Option Value)} {gone : Addr}
    {oclsh kVlsh dclsh pmlsh cdlsh ctlsh : Value} {odlsh anlsh : Option Addr} {sllsh : Array (Option Value)} {glsh : Addr}
    {ocins kVins dcins pmins cdins ctins : Value} {odins anins : Option Addr} {slins : Array (Option Value)} {gins : Addr}
    {oclab kVlab dclab pmlab cdlab ctlab : Value} {odlab anlab : Option Addr} {sllab : Array (Option Value)} {glab : Addr}
    {ocwor kVwor dcwor pmwor cdwor ctwor : Value} {odwor anwor : Option Addr} {slwor : Array (Option Value)} {gwor : Addr}
    {ocblt kVblt dcblt pmblt cdblt ctblt : Value} {odblt anblt : Option Addr} {slblt : Array (Option Value)} {gblt : Addr}
    {ocjar kVjar dcjar pmjar cdjar ctjar : Value} {odjar anjar : Option Addr} {sljar : Array (Option Value)} {gjar : Addr}
    {ocpag kVpag dcpag pmpag cdpag ctpag : Value} {odpag anpag : Option Addr} {slpag : Array (Option Value)} {gpag : Addr}
    {ocful kVful dcful pmful cdful ctful : Value} {odful anful : Option Addr} {slful : Array (Option Value)} {gful : Addr}
    {octol kVtol dctol pmtol cdtol cttol : Value} {odtol antol : Option Addr} {sltol : Array (Option Value)} {gtol : Addr}
    {ocrig kVrig dcrig pmrig cdrig ctrig : Value} {odrig anrig : Option Addr} {slrig : Array (Option Value)} {grig : Addr}
    {oclaw kVlaw dclaw pmlaw cdlaw ctlaw : Value} {odlaw anlaw : Option Addr} {sllaw : Array (Option Value)} {glaw : Addr}
    {ocini kVini dcini pmini cdini ctini : Value} {odini anini : Option Addr} {slini : Array (Option Value)} {gini : Addr}
    {ochol kVhol dchol pmhol cdhol cthol : Value} {odhol anhol : Option Addr} {slhol : Array (Option Value)} {ghol : Addr}
    {ockee kVkee dckee pmkee cdkee ctkee : Value} {odkee ankee : Option Addr} {slkee : Array (Option Value)} {gkee : Addr}
    {occnt kVcnt dccnt pmcnt cdcnt ctcnt : Value} {odcnt ancnt : Option Addr} {slcnt : Array (Option Value)} {gcnt : Addr}
    {oclmt kVlmt dclmt pmlmt cdlmt ctlmt : Value} {odlmt anlmt : Option Addr} {sllmt : Array (Option Value)} {glmt : Addr}
    {ocdec kVdec dcdec pmdec cddec ctdec : Value} {oddec andec : Option Addr} {sldec : Array (Option Value)} {gdec : Addr}
    {oceql kVeql dceql pmeql cdeql cteql : Value} {odeql aneql : Option Addr} {sleql : Array (Option Value)} {geql : Addr}
    {ocstr kVstr dcstr pmstr cdstr ctstr : Value} {odstr anstr : Option Addr} {slstr : Array (Option Value)} {gstr : Addr}
    {ocrep kVrep dcrep pmrep cdrep ctrep : Value} {odrep anrep : Option Addr} {slrep : Array (Option Value)} {grep : Addr}
    {ocpm kVpm dcpm pmpm cdpm ctpm : Value} {odpm anpm : Option Addr} {slpm : Array (Option Value)} {gpm : Addr} {qpm : Addr} {restpm : List Value}
    {ocpc kVpc dcpc pmpc cdpc ctpc : Value} {odpc anpc : Option Addr} {slpc : Array (Option Value)} {gpc : Addr} {qpc : Addr} {restpc : List Value}
    {ocps kVps dcps pmps cdps ctps : Value} {odps anps : Option Addr} {slps : Array (Option Value)} {gps : Addr} {qps : Addr} {restps : List Value}
    {ocpp kVpp dcpp pmpp cdpp ctpp : Value} {odpp anpp : Option Addr} {slpp : Array (Option Value)} {gpp : Addr} {qpp : Addr} {restpp : List Value}
    {ocrd kVrd dcrd pmrd cdrd ctrd : Value} {odrd anrd : Option Addr} {slrd : Array (Option Value)} {grd : Addr} {qrd : Addr} {restrd : List Value}
    {ocu dcu pmu cdu ctu : Value} {odu anu : Option Addr} {slu : Array (Option Value)} {fU : Addr}
    (aint : PySem.W.nsIn K mainGlobals "is_integer" = some (some (.ref gint)))
    (lint : K.lookup gint = some ⟨ocint, odint, .func (PySem.W.fnOf "is_integer" "is_integer" (defArgs (top 3)) (defBody (top 3)) (defScope (top 3)) .none kVint dcint pmint anint cdint ctint), slint⟩)
    (dint : PySem.W.codeIn K cdint "is_integer" = true)
    (kint : PySem.W.keepIn K (.ref gint) = true)
    (anam : PySem.W.nsIn K mainGlobals "is_name" = some (some (.ref gnam)))
    (lnam : K.lookup gnam = some ⟨ocnam, odnam, .func (PySem.W.fnOf "is_name" "is_name" (defArgs (top 4)) (defBody (top 4)) (defScope (top 4)) .none kVnam dcnam pmnam annam cdnam ctnam), slnam⟩)
    (dnam : PySem.W.codeIn K cdnam "is_name" = true)
    (knam : PySem.W.keepIn K (.ref gnam) = true)
    (anum : PySem.W.nsIn K mainGlobals "read_number" = some (some (.ref gnum)))
    (lnum : K.lookup gnum = some ⟨ocnum, odnum, .func (PySem.W.fnOf "read_number" "read_number" (defArgs (top 5)) (defBody (top 5)) (defScope (top 5)) .none kVnum dcnum pmnum annum cdnum ctnum), slnum⟩)
    (dnum : PySem.W.codeIn K cdnum "read_number" = true)
    (knum : PySem.W.keepIn K (.ref gnum) = true)
    (aof : PySem.W.nsIn K mainGlobals "_of_name" = some (some (.ref gof)))
    (lof : K.lookup gof = some ⟨ocof, odof, .func (PySem.W.fnOf "_of_name" "_of_name" (defArgs (top 23)) (defBody (top 23)) (defScope (top 23)) .none kVof dcof pmof anof cdof ctof), slof⟩)
    (dof : PySem.W.codeIn K cdof "_of_name" = true)
    (kof : PySem.W.keepIn K (.ref gof) = true)
    (aby : PySem.W.nsIn K mainGlobals "_by_stuff" = some (some (.ref gby)))
    (lby : K.lookup gby = some ⟨ocby, odby, .func (PySem.W.fnOf "_by_stuff" "_by_stuff" (defArgs (top 24)) (defBody (top 24)) (defScope (top 24)) .none kVby dcby pmby anby cdby ctby), slby⟩)
    (dby : PySem.W.codeIn K cdby "_by_stuff" = true)
    (kby : PySem.W.keepIn K (.ref gby) = true)
    (achk : PySem.W.nsIn K mainGlobals "_check" = some (some (.ref gchk)))
    (lchk : K.lookup gchk = some ⟨occhk, odchk, .func (PySem.W.fnOf "_check" "_check" (defArgs (top 25)) (defBody (top 25)) (defScope (top 25)) .none kVchk dcchk pmchk anchk (.ref c1) ctchk), slchk⟩)
    (dchk : PySem.W.codeIn K (.ref c1) "_check" = true)
    (kchk : PySem.W.keepIn K (.ref gchk) = true)
    (afst : PySem.W.nsIn K mainGlobals "_first_wrong" = some (some (.ref gfst)))
    (lfst : K.lookup gfst = some ⟨ocfst, odfst, .func (PySem.W.fnOf "_first_wrong" "_first_wrong" (defArgs (top 26)) (defBody (top 26)) (defScope (top 26)) .none kVfst dcfst pmfst anfst cdfst ctfst), slfst⟩)
    (dfst : PySem.W.codeIn K cdfst "_first_wrong" = true)
    (kfst : PySem.W.keepIn K (.ref gfst) = true)
    (ashr : PySem.W.nsIn K mainGlobals "_has_shares" = some (some (.ref gshr)))
    (lshr : K.lookup gshr = some ⟨ocshr, odshr, .func (PySem.W.fnOf "_has_shares" "_has_shares" (defArgs (top 27)) (defBody (top 27)) (defScope (top 27)) .none kVshr dcshr pmshr anshr cdshr ctshr), slshr⟩)
    (dshr : PySem.W.codeIn K cdshr "_has_shares" = true)
    (kshr : PySem.W.keepIn K (.ref gshr) = true)
    (alim : PySem.W.nsIn K mainGlobals "_has_limit" = some (some (.ref glim)))
    (llim : K.lookup glim = some ⟨oclim, odlim, .func (PySem.W.fnOf "_has_limit" "_has_limit" (defArgs (top 28)) (defBody (top 28)) (defScope (top 28)) .none kVlim dclim pmlim anlim cdlim ctlim), sllim⟩)
    (dlim : PySem.W.codeIn K cdlim "_has_limit" = true)
    (klim : PySem.W.keepIn K (.ref glim) = true)
    (acon : PySem.W.nsIn K mainGlobals "_has_contents" = some (some (.ref gcon)))
    (lcon : K.lookup gcon = some ⟨occon, odcon, .func (PySem.W.fnOf "_has_contents" "_has_contents" (defArgs (top 29)) (defBody (top 29)) (defScope (top 29)) .none kVcon dccon pmcon ancon cdcon ctcon), slcon⟩)
    (dcon : PySem.W.codeIn K cdcon "_has_contents" = true)
    (kcon : PySem.W.keepIn K (.ref gcon) = true)
    (anmd : PySem.W.nsIn K mainGlobals "_is_named" = some (some (.ref gnmd)))
    (lnmd : K.lookup gnmd = some ⟨ocnmd, odnmd, .func (PySem.W.fnOf "_is_named" "_is_named" (defArgs (top 30)) (defBody (top 30)) (defScope (top 30)) .none kVnmd dcnmd pmnmd annmd cdnmd ctnmd), slnmd⟩)
    (dnmd : PySem.W.codeIn K cdnmd "_is_named" = true)
    (knmd : PySem.W.keepIn K (.ref gnmd) = true)
    (abnd : PySem.W.nsIn K mainGlobals "_are_bounds" = some (some (.ref gbnd)))
    (lbnd : K.lookup gbnd = some ⟨ocbnd, odbnd, .func (PySem.W.fnOf "_are_bounds" "_are_bounds" (defArgs (top 31)) (defBody (top 31)) (defScope (top 31)) .none kVbnd dcbnd pmbnd anbnd cdbnd ctbnd), slbnd⟩)
    (dbnd : PySem.W.codeIn K cdbnd "_are_bounds" = true)
    (kbnd : PySem.W.keepIn K (.ref gbnd) = true)
    (atxt : PySem.W.nsIn K mainGlobals "_text_of" = some (some (.ref gtxt)))
    (ltxt : K.lookup gtxt = some ⟨octxt, odtxt, .func (PySem.W.fnOf "_text_of" "_text_of" (defArgs (top 32)) (defBody (top 32)) (defScope (top 32)) .none kVtxt dctxt pmtxt antxt cdtxt cttxt), sltxt⟩)
    (dtxt : PySem.W.codeIn K cdtxt "_text_of" = true)
    (ktxt : PySem.W.keepIn K (.ref gtxt) = true)
    (alin : PySem.W.nsIn K mainGlobals "_product_line" = some (some (.ref glin)))
    (llin : K.lookup glin = some ⟨oclin, odlin, .func (PySem.W.fnOf "_product_line" "_product_line" (defArgs (top 33)) (defBody (top 33)) (defScope (top 33)) .none kVlin dclin pmlin anlin cdlin ctlin), sllin⟩)
    (dlin : PySem.W.codeIn K cdlin "_product_line" = true)
    (klin : PySem.W.keepIn K (.ref glin) = true)
    (arwk : PySem.W.nsIn K mainGlobals "_read_works" = some (some (.ref grwk)))
    (lrwk : K.lookup grwk = some ⟨ocrwk, odrwk, .func (PySem.W.fnOf "_read_works" "_read_works" (defArgs (top 34)) (defBody (top 34)) (defScope (top 34)) .none kVrwk dcrwk pmrwk anrwk cdrwk ctrwk), slrwk⟩)
    (drwk : PySem.W.codeIn K cdrwk "_read_works" = true)
    (krwk : PySem.W.keepIn K (.ref grwk) = true)
    (arrw : PySem.W.nsIn K mainGlobals "_read_row" = some (some (.ref grrw)))
    (lrrw : K.lookup grrw = some ⟨ocrrw, odrrw, .func (PySem.W.fnOf "_read_row" "_read_row" (defArgs (top 35)) (defBody (top 35)) (defScope (top 35)) .none kVrrw dcrrw pmrrw anrrw cdrrw ctrrw), slrrw⟩)
    (drrw : PySem.W.codeIn K cdrrw "_read_row" = true)
    (krrw : PySem.W.keepIn K (.ref grrw) = true)
    (arpr : PySem.W.nsIn K mainGlobals "_read_pair" = some (some (.ref grpr)))
    (lrpr : K.lookup grpr = some ⟨ocrpr, odrpr, .func (PySem.W.fnOf "_read_pair" "_read_pair" (defArgs (top 36)) (defBody (top 36)) (defScope (top 36)) .none kVrpr dcrpr pmrpr anrpr cdrpr ctrpr), slrpr⟩)
    (drpr : PySem.W.codeIn K cdrpr "_read_pair" = true)
    (krpr : PySem.W.keepIn K (.ref grpr) = true)
    (adip : PySem.W.nsIn K mainGlobals "_law_dip" = some (some (.ref gdip)))
    (ldip : K.lookup gdip = some ⟨ocdip, oddip, .func (PySem.W.fnOf "_law_dip" "_law_dip" (defArgs (top 38)) (defBody (top 38)) (defScope (top 38)) .none kVdip dcdip pmdip andip cddip ctdip), sldip⟩)
    (ddip : PySem.W.codeIn K cddip "_law_dip" = true)
    (kdip : PySem.W.keepIn K (.ref gdip) = true)
    (aone : PySem.W.nsIn K mainGlobals "_law_one_of" = some (some (.ref gone)))
    (lone : K.lookup gone = some ⟨ocone, odone, .func (PySem.W.fnOf "_law_one_of" "_law_one_of" (defArgs (top 39)) (defBody (top 39)) (defScope (top 39)) .none kVone dcone pmone anone cdone ctone), slone⟩)
    (done : PySem.W.codeIn K cdone "_law_one_of" = true)
    (kone : PySem.W.keepIn K (.ref gone) = true)
    (alsh : PySem.W.nsIn K mainGlobals "_law_shares" = some (some (.ref glsh)))
    (llsh : K.lookup glsh = some ⟨oclsh, odlsh, .func (PySem.W.fnOf "_law_shares" "_law_shares" (defArgs (top 40)) (defBody (top 40)) (defScope (top 40)) .none kVlsh dclsh pmlsh anlsh cdlsh ctlsh), sllsh⟩)
    (dlsh : PySem.W.codeIn K cdlsh "_law_shares" = true)
    (klsh : PySem.W.keepIn K (.ref glsh) = true)
    (ains : PySem.W.nsIn K mainGlobals "_law_inside" = some (some (.ref gins)))
    (lins : K.lookup gins = some ⟨ocins, odins, .func (PySem.W.fnOf "_law_inside" "_law_inside" (defArgs (top 41)) (defBody (top 41)) (defScope (top 41)) .none kVins dcins pmins anins cdins ctins), slins⟩)
    (dins : PySem.W.codeIn K cdins "_law_inside" = true)
    (kins : PySem.W.keepIn K (.ref gins) = true)
    (alab : PySem.W.nsIn K mainGlobals "_law_labels" = some (some (.ref glab)))
    (llab : K.lookup glab = some ⟨oclab, odlab, .func (PySem.W.fnOf "_law_labels" "_law_labels" (defArgs (top 42)) (defBody (top 42)) (defScope (top 42)) .none kVlab dclab pmlab anlab cdlab ctlab), sllab⟩)
    (dlab : PySem.W.codeIn K cdlab "_law_labels" = true)
    (klab : PySem.W.keepIn K (.ref glab) = true)
    (awor : PySem.W.nsIn K mainGlobals "_law_world" = some (some (.ref gwor)))
    (lwor : K.lookup gwor = some ⟨ocwor, odwor, .func (PySem.W.fnOf "_law_world" "_law_world" (defArgs (top 43)) (defBody (top 43)) (defScope (top 43)) .none kVwor dcwor pmwor anwor cdwor ctwor), slwor⟩)
    (dwor : PySem.W.codeIn K cdwor "_law_world" = true)
    (kwor : PySem.W.keepIn K (.ref gwor) = true)
    (ablt : PySem.W.nsIn K mainGlobals "_law_built" = some (some (.ref gblt)))
    (lblt : K.lookup gblt = some ⟨ocblt, odblt, .func (PySem.W.fnOf "_law_built" "_law_built" (defArgs (top 44)) (defBody (top 44)) (defScope (top 44)) .none kVblt dcblt pmblt anblt cdblt ctblt), slblt⟩)
    (dblt : PySem.W.codeIn K cdblt "_law_built" = true)
    (kblt : PySem.W.keepIn K (.ref gblt) = true)
    (ajar : PySem.W.nsIn K mainGlobals "_law_jar" = some (some (.ref gjar)))
    (ljar : K.lookup gjar = some ⟨ocjar, odjar, .func (PySem.W.fnOf "_law_jar" "_law_jar" (defArgs (top 45)) (defBody (top 45)) (defScope (top 45)) .none kVjar dcjar pmjar anjar cdjar ctjar), sljar⟩)
    (djar : PySem.W.codeIn K cdjar "_law_jar" = true)
    (kjar : PySem.W.keepIn K (.ref gjar) = true)
    (apag : PySem.W.nsIn K mainGlobals "_law_page" = some (some (.ref gpag)))
    (lpag : K.lookup gpag = some ⟨ocpag, odpag, .func (PySem.W.fnOf "_law_page" "_law_page" (defArgs (top 46)) (defBody (top 46)) (defScope (top 46)) .none kVpag dcpag pmpag anpag cdpag ctpag), slpag⟩)
    (dpag : PySem.W.codeIn K cdpag "_law_page" = true)
    (kpag : PySem.W.keepIn K (.ref gpag) = true)
    (aful : PySem.W.nsIn K mainGlobals "_law_full" = some (some (.ref gful)))
    (lful : K.lookup gful = some ⟨ocful, odful, .func (PySem.W.fnOf "_law_full" "_law_full" (defArgs (top 47)) (defBody (top 47)) (defScope (top 47)) .none kVful dcful pmful anful cdful ctful), slful⟩)
    (dful : PySem.W.codeIn K cdful "_law_full" = true)
    (kful : PySem.W.keepIn K (.ref gful) = true)
    (atol : PySem.W.nsIn K mainGlobals "_law_told_right" = some (some (.ref gtol)))
    (ltol : K.lookup gtol = some ⟨octol, odtol, .func (PySem.W.fnOf "_law_told_right" "_law_told_right" (defArgs (top 48)) (defBody (top 48)) (defScope (top 48)) .none kVtol dctol pmtol antol cdtol cttol), sltol⟩)
    (dtol : PySem.W.codeIn K cdtol "_law_told_right" = true)
    (ktol : PySem.W.keepIn K (.ref gtol) = true)
    (arig : PySem.W.nsIn K mainGlobals "_law_right" = some (some (.ref grig)))
    (lrig : K.lookup grig = some ⟨ocrig, odrig, .func (PySem.W.fnOf "_law_right" "_law_right" (defArgs (top 49)) (defBody (top 49)) (defScope (top 49)) .none kVrig dcrig pmrig anrig cdrig ctrig), slrig⟩)
    (drig : PySem.W.codeIn K cdrig "_law_right" = true)
    (krig : PySem.W.keepIn K (.ref grig) = true)
    (alaw : PySem.W.nsIn K mainGlobals "law" = some (some (.ref glaw)))
    (llaw : K.lookup glaw = some ⟨oclaw, odlaw, .func (PySem.W.fnOf "law" "law" (defArgs (top 50)) (defBody (top 50)) (defScope (top 50)) .none kVlaw dclaw pmlaw anlaw cdlaw ctlaw), sllaw⟩)
    (dlaw : PySem.W.codeIn K cdlaw "law" = true)
    (klaw : PySem.W.keepIn K (.ref glaw) = true)
    (aW : PySem.W.nsIn K mainGlobals "Works" = some (some (.ref C)))
    (aini : PySem.W.findIn K (.ref C) "__init__" = some (some (.ref gini)))
    (lini : K.lookup gini = some ⟨ocini, odini, .func (PySem.W.fnOf "__init__" "Works.__init__" (defArgs (meth 0)) (defBody (meth 0)) (defScope (meth 0)) .none kVini dcini pmini anini cdini ctini), slini⟩)
    (dini : PySem.W.codeIn K cdini "Works.__init__" = true)
    (kini : PySem.W.keepIn K (.ref gini) = true)
    (ahol : PySem.W.findIn K (.ref C) "hold" = some (some (.ref ghol)))
    (lhol : K.lookup ghol = some ⟨ochol, odhol, .func (PySem.W.fnOf "hold" "Works.hold" (defArgs (meth 6)) (defBody (meth 6)) (defScope (meth 6)) .none kVhol dchol pmhol anhol cdhol cthol), slhol⟩)
    (dhol : PySem.W.codeIn K cdhol "Works.hold" = true)
    (khol : PySem.W.keepIn K (.ref ghol) = true)
    (akee : PySem.W.findIn K (.ref C) "keep" = some (some (.ref gkee)))
    (lkee : K.lookup gkee = some ⟨ockee, odkee, .func (PySem.W.fnOf "keep" "Works.keep" (defArgs (meth 7)) (defBody (meth 7)) (defScope (meth 7)) .none kVkee dckee pmkee ankee cdkee ctkee), slkee⟩)
    (dkee : PySem.W.codeIn K cdkee "Works.keep" = true)
    (kkee : PySem.W.keepIn K (.ref gkee) = true)
    (acnt : PySem.W.findIn K (.ref C) "content" = some (some (.ref gcnt)))
    (lcnt : K.lookup gcnt = some ⟨occnt, odcnt, .func (PySem.W.fnOf "content" "Works.content" (defArgs (meth 8)) (defBody (meth 8)) (defScope (meth 8)) .none kVcnt dccnt pmcnt ancnt cdcnt ctcnt), slcnt⟩)
    (dcnt : PySem.W.codeIn K cdcnt "Works.content" = true)
    (kcnt : PySem.W.keepIn K (.ref gcnt) = true)
    (almt : PySem.W.findIn K (.ref C) "limit" = some (some (.ref glmt)))
    (llmt : K.lookup glmt = some ⟨oclmt, odlmt, .func (PySem.W.fnOf "limit" "Works.limit" (defArgs (meth 9)) (defBody (meth 9)) (defScope (meth 9)) .none kVlmt dclmt pmlmt anlmt cdlmt ctlmt), sllmt⟩)
    (dlmt : PySem.W.codeIn K cdlmt "Works.limit" = true)
    (klmt : PySem.W.keepIn K (.ref glmt) = true)
    (adec : PySem.W.findIn K (.ref C) "declares" = some (some (.ref gdec)))
    (ldec : K.lookup gdec = some ⟨ocdec, oddec, .func (PySem.W.fnOf "declares" "Works.declares" (defArgs (meth 10)) (defBody (meth 10)) (defScope (meth 10)) .none kVdec dcdec pmdec andec cddec ctdec), sldec⟩)
    (ddec : PySem.W.codeIn K cddec "Works.declares" = true)
    (kdec : PySem.W.keepIn K (.ref gdec) = true)
    (aeql : PySem.W.findIn K (.ref C) "__eq__" = some (some (.ref geql)))
    (leql : K.lookup geql = some ⟨oceql, odeql, .func (PySem.W.fnOf "__eq__" "Works.__eq__" (defArgs (meth 11)) (defBody (meth 11)) (defScope (meth 11)) .none kVeql dceql pmeql aneql cdeql cteql), sleql⟩)
    (deql : PySem.W.codeIn K cdeql "Works.__eq__" = true)
    (keql : PySem.W.keepIn K (.ref geql) = true)
    (astr : PySem.W.findIn K (.ref C) "__str__" = some (some (.ref gstr)))
    (lstr : K.lookup gstr = some ⟨ocstr, odstr, .func (PySem.W.fnOf "__str__" "Works.__str__" (defArgs (meth 12)) (defBody (meth 12)) (defScope (meth 12)) .none kVstr dcstr pmstr anstr cdstr ctstr), slstr⟩)
    (dstr : PySem.W.codeIn K cdstr "Works.__str__" = true)
    (kstr : PySem.W.keepIn K (.ref gstr) = true)
    (arep : PySem.W.findIn K (.ref C) "__repr__" = some (some (.ref grep)))
    (lrep : K.lookup grep = some ⟨ocrep, odrep, .func (PySem.W.fnOf "__repr__" "Works.__repr__" (defArgs (meth 13)) (defBody (meth 13)) (defScope (meth 13)) .none kVrep dcrep pmrep anrep cdrep ctrep), slrep⟩)
    (drep : PySem.W.codeIn K cdrep "Works.__repr__" = true)
    (krep : PySem.W.keepIn K (.ref grep) = true)
    (apm : PySem.W.findIn K (.ref C) "machines" = some (some (.ref qpm)))
    (rpm : PySem.W.recIn K qpm "property" = some (.ref gpm :: restpm))
    (lpm : K.lookup gpm = some ⟨ocpm, odpm, .func (PySem.W.fnOf "machines" "Works.machines" (defArgs (meth 2)) (defBody (meth 2)) (defScope (meth 2)) .none kVpm dcpm pmpm anpm cdpm ctpm), slpm⟩)
    (dpm : PySem.W.codeIn K cdpm "Works.machines" = true)
    (kpm : PySem.W.keepIn K (.ref gpm) = true)
    (apc : PySem.W.findIn K (.ref C) "cleanings" = some (some (.ref qpc)))
    (rpc : PySem.W.recIn K qpc "property" = some (.ref gpc :: restpc))
    (lpc : K.lookup gpc = some ⟨ocpc, odpc, .func (PySem.W.fnOf "cleanings" "Works.cleanings" (defArgs (meth 3)) (defBody (meth 3)) (defScope (meth 3)) .none kVpc dcpc pmpc anpc cdpc ctpc), slpc⟩)
    (dpc : PySem.W.codeIn K cdpc "Works.cleanings" = true)
    (kpc : PySem.W.keepIn K (.ref gpc) = true)
    (aps : PySem.W.findIn K (.ref C) "stuffs" = some (some (.ref qps)))
    (rps : PySem.W.recIn K qps "property" = some (.ref gps :: restps))
    (lps : K.lookup gps = some ⟨ocps, odps, .func (PySem.W.fnOf "stuffs" "Works.stuffs" (defArgs (meth 4)) (defBody (meth 4)) (defScope (meth 4)) .none kVps dcps pmps anps cdps ctps), slps⟩)
    (dps : PySem.W.codeIn K cdps "Works.stuffs" = true)
    (kps : PySem.W.keepIn K (.ref gps) = true)
    (app : PySem.W.findIn K (.ref C) "products" = some (some (.ref qpp)))
    (rpp : PySem.W.recIn K qpp "property" = some (.ref gpp :: restpp))
    (lpp : K.lookup gpp = some ⟨ocpp, odpp, .func (PySem.W.fnOf "products" "Works.products" (defArgs (meth 5)) (defBody (meth 5)) (defScope (meth 5)) .none kVpp dcpp pmpp anpp cdpp ctpp), slpp⟩)
    (dpp : PySem.W.codeIn K cdpp "Works.products" = true)
    (kpp : PySem.W.keepIn K (.ref gpp) = true)
    (ard : PySem.W.findCls K (.ref C) (.type "type") "read" = some (PySem.W.CFound.get (.builtin "staticmethod.__get__") (.ref qrd) .none (.ref C)))
    (rrd : PySem.W.recIn K qrd "staticmethod" = some (.ref grd :: restrd))
    (lrd : K.lookup grd = some ⟨ocrd, odrd, .func (PySem.W.fnOf "read" "Works.read" (defArgs (meth 1)) (defBody (meth 1)) (defScope (meth 1)) .none kVrd dcrd pmrd anrd cdrd ctrd), slrd⟩)
    (drd : PySem.W.codeIn K cdrd "Works.read" = true)
    (krd : PySem.W.keepIn K (.ref grd) = true)
    (aU : PySem.W.nsIn K mainGlobals "UnknownName" = some (some (.ref CU)))
    (iU : PySem.W.findIn K (.ref CU) "__init__" = some (some (.ref fU)))
    (lU : K.lookup fU = some ⟨ocu, odu, .func (PySem.W.fnOf "__init__" "UnknownName.__init__" (defArgs (inClass (top 14) 0)) (defBody (inClass (top 14) 0)) (defScope (inClass (top 14) 0)) .none .none dcu pmu anu cdu ctu), slu⟩)
    (dU : PySem.W.codeIn K cdu "UnknownName.__init__" = true)
    (outL : outLook K = true)
    (cL : cLook K = true)
    (wL : wLook K C gini = true)
    (mL : mLook K C [("hold", ghol), ("keep", gkee), ("content", gcnt), ("limit", glmt), ("declares", gdec), ("__eq__", geql), ("__str__", gstr), ("__repr__", grep)] = true)
    (pL : pLook K [qpm, qpc, qps, qpp] = true)
    (iL : iLook K C = true)
    (sL : sLook K C = true)
    (uL : uLook K CU fU = true)
    (tL : tLook K [(c1, P1)] = true)
    (inT : P1 ∈ ts) : EndsAt l w K 12 63 "_law_cells" mg fa h := by
  have e := hfa.symm.trans (PySem.W.mg_of X G alaw)
  cases e

  have out := outLook_of X G outL
  unfold cLook at cL
  unfold wLook at wL
  unfold uLook at uL
  unfold tLook at tL
  unfold iLook at iL
  unfold sLook at sL
  have MM := mLook_of mL
  simp only [Bool.and_eq_true, decide_eq_true_eq, List.all_cons, List.all_nil, Bool.and_true, Option.isNone_iff_eq_none] at cL wL uL tL iL sL
  obtain ⟨⟨⟨⟨⟨⟨⟨z0, z1⟩, z2⟩, z3⟩, z4⟩, z5⟩, z6⟩, z7⟩ := cL
  obtain ⟨v0, m0, r0⟩ := intLook_of X G z0
  obtain ⟨v1, m1, r1⟩ := intLook_of X G z1
  obtain ⟨v2, m2, r2⟩ := intLook_of X G z2
  obtain ⟨v3, m3, r3⟩ := intLook_of X G z3
  obtain ⟨v4, m4, r4⟩ := intLook_of X G z4
  obtain ⟨v5, m5, r5⟩ := intLook_of X G z5
  obtain ⟨v6, m6, r6⟩ := intLook_of X G z6
  obtain ⟨v7, m7, r7⟩ := intLook_of X G z7
  obtain ⟨⟨⟨⟨⟨⟨⟨w1, w2⟩, w3⟩, w4⟩, w5⟩, w6⟩, w7⟩, w8⟩ := wL
  have nf : ∀ f ∈ fields, PySem.W.findIn K (.ref C) f = some none := fun f hf => of_decide_eq_true (List.all_eq_true.mp w5 f hf)
  have WC : WCls K C := ⟨⟨w1, w2, w3, w4⟩, nf _ (by decide), nf _ (by decide), nf _ (by decide), nf _ (by decide), nf _ (by decide), nf _ (by decide), nf _ (by decide), nf _ (by decide), nf _ (by decide)⟩
  have MK : Mk K C gini := ⟨w6, aini, w7, w8⟩
  obtain ⟨⟨⟨⟨⟨⟨u1, u2⟩, u3⟩, u4⟩, u5⟩, u6⟩, u7⟩ := uL
  have U : Unk K mg CU fU := ⟨⟨leT, errLook_of u1 (PySem.W.mg_of X G aU) ⟨_, _, _, _, _, _, _, _, _, _, _, _, _, _, _, lU, dU⟩, bo_le⟩, u4, u6, ⟨u2, u3, u4, u5⟩, u7⟩
  obtain ⟨t1, t2⟩ := tL
  obtain ⟨⟨⟨⟨⟨⟨⟨⟨⟨⟨i1, i2⟩, i3⟩, i4⟩, i5⟩, i6⟩, i7⟩, i8⟩, i9⟩, i10⟩, i11⟩ := iL
  have WI : WIns K C := ⟨i1, i2, i3, i4, i5, i6⟩
  obtain ⟨⟨s1, s2⟩, s3⟩ := sL
  have Bl : Blt mg := ⟨out _ (by decide), out _ (by decide), out _ (by decide), out _ (by decide)⟩
  have BI : BltI mg := ⟨out _ (by decide), out _ (by decide), out _ (by decide), out _ (by decide), out _ (by decide), out _ (by decide), out _ (by decide), out _ (by decide)⟩
  have BD : BltD mg := ⟨out _ (by decide), out _ (by decide)⟩
  have BL : BltL mg := ⟨out _ (by decide), out _ (by decide)⟩
  have BW : BltW mg := ⟨out _ (by decide), out _ (by decide)⟩
  have BZ : BltZ mg := ⟨out _ (by decide)⟩
  have BS : BltS mg := ⟨out _ (by decide), out _ (by decide), out _ (by decide)⟩
  have BP : BltP mg := ⟨out _ (by decide)⟩
  have BF : BltF mg := ⟨out _ (by decide), out _ (by decide), out _ (by decide)⟩
  have BT : BltT mg := ⟨out _ (by decide), out _ (by decide), out _ (by decide), out _ (by decide)⟩
  have BR : BltR mg := ⟨out _ (by decide), out _ (by decide), out _ (by decide), out _ (by decide)⟩
  have BM : BltM mg := ⟨out _ (by decide), out _ (by decide), out _ (by decide), out _ (by decide), out _ (by decide)⟩
  have hT : mg "tuple" = none := out _ (by decide)

  have Fint := fun_mk (st := top 3) lint dint kint
  have bInt := Fint.binds (ps := ["value"]) fun _ _ _ _ _ _ us hl => match us, hl with | [_], _ => rfl
  have nint := PySem.W.mg_of X G aint
  have Fnam := fun_mk (st := top 4) lnam dnam knam
  have bnam := Fnam.binds (ps := ["value"]) fun _ _ _ _ _ _ us hl => match us, hl with | [_], _ => rfl
  have nnam := PySem.W.mg_of X G anam
  have Fnum := fun_mk (st := top 5) lnum dnum knum
  have bnum := Fnum.binds (ps := ["word"]) fun _ _ _ _ _ _ us hl => match us, hl with | [_], _ => rfl
  have nnum := PySem.W.mg_of X G anum
  have Fof := fun_mk (st := top 23) lof dof kof
  have bof := Fof.binds (ps := ["table", "name"]) fun _ _ _ _ _ _ us hl => match us, hl with | [_, _], _ => rfl
  have nof := PySem.W.mg_of X G aof
  have Fby := fun_mk (st := top 24) lby dby kby
  have bby := Fby.binds (ps := ["stuffs", "contents"]) fun _ _ _ _ _ _ us hl => match us, hl with | [_, _], _ => rfl
  have nby := PySem.W.mg_of X G aby
  have Fchk := fun_mk (st := top 25) lchk dchk kchk
  have bchk := Fchk.binds (ps := ["machines", "cleanings", "stuffs", "products"]) fun _ _ _ _ _ _ us hl => match us, hl with | [_, _, _, _], _ => rfl
  have nchk := PySem.W.mg_of X G achk
  have Ffst := fun_mk (st := top 26) lfst dfst kfst
  have bfst := Ffst.binds (ps := ["rows", "earlier", "fewest", "most", "is_right"]) fun _ _ _ _ _ _ us hl => match us, hl with | [_, _, _, _, _], _ => rfl
  have nfst := PySem.W.mg_of X G afst
  have Fshr := fun_mk (st := top 27) lshr dshr kshr
  have bshr := Fshr.binds (ps := ["row"]) fun _ _ _ _ _ _ us hl => match us, hl with | [_], _ => rfl
  have nshr := PySem.W.mg_of X G ashr
  have Flim := fun_mk (st := top 28) llim dlim klim
  have blim := Flim.binds (ps := ["row"]) fun _ _ _ _ _ _ us hl => match us, hl with | [_], _ => rfl
  have nlim := PySem.W.mg_of X G alim
  have Fcon := fun_mk (st := top 29) lcon dcon kcon
  have bcon := Fcon.binds (ps := ["row", "many"]) fun _ _ _ _ _ _ us hl => match us, hl with | [_, _], _ => rfl
  have ncon := PySem.W.mg_of X G acon
  have Fnmd := fun_mk (st := top 30) lnmd dnmd knmd
  have bnmd := Fnmd.binds (ps := ["row", "length"]) fun _ _ _ _ _ _ us hl => match us, hl with | [_, _], _ => rfl
  have nnmd := PySem.W.mg_of X G anmd
  have Fbnd := fun_mk (st := top 31) lbnd dbnd kbnd
  have bbnd := Fbnd.binds (ps := ["pair", "most"]) fun _ _ _ _ _ _ us hl => match us, hl with | [_, _], _ => rfl
  have nbnd := PySem.W.mg_of X G abnd
  have Ftxt := fun_mk (st := top 32) ltxt dtxt ktxt
  have btxt := Ftxt.binds (ps := ["machines", "cleanings", "stuffs", "products"]) fun _ _ _ _ _ _ us hl => match us, hl with | [_, _, _, _], _ => rfl
  have ntxt := PySem.W.mg_of X G atxt
  have Flin := fun_mk (st := top 33) llin dlin klin
  have blin := Flin.binds (ps := ["name", "contents"]) fun _ _ _ _ _ _ us hl => match us, hl with | [_, _], _ => rfl
  have nlin := PySem.W.mg_of X G alin
  have Frwk := fun_mk (st := top 34) lrwk drwk krwk
  have brwk := Frwk.binds (ps := ["text"]) fun _ _ _ _ _ _ us hl => match us, hl with | [_], _ => rfl
  have nrwk := PySem.W.mg_of X G arwk
  have Frrw := fun_mk (st := top 35) lrrw drrw krrw
  have brrw := Frrw.binds (ps := ["kind", "words"]) fun _ _ _ _ _ _ us hl => match us, hl with | [_, _], _ => rfl
  have nrrw := PySem.W.mg_of X G arrw
  have Frpr := fun_mk (st := top 36) lrpr drpr krpr
  have brpr := Frpr.binds (ps := ["word"]) fun _ _ _ _ _ _ us hl => match us, hl with | [_], _ => rfl
  have nrpr := PySem.W.mg_of X G arpr
  have Fdip := fun_mk (st := top 38) ldip ddip kdip
  have bdip := Fdip.binds (ps := ["_law_jar_here", "_law_top"]) fun _ _ _ _ _ _ us hl => match us, hl with | [_, _], _ => rfl
  have ndip := PySem.W.mg_of X G adip
  have Fone := fun_mk (st := top 39) lone done kone
  have bone := Fone.binds (ps := ["_law_jar_here", "_law_some"]) fun _ _ _ _ _ _ us hl => match us, hl with | [_, _], _ => rfl
  have nOne := PySem.W.mg_of X G aone
  have Flsh := fun_mk (st := top 40) llsh dlsh klsh
  have blsh := Flsh.binds (ps := ["_law_jar_here"]) fun _ _ _ _ _ _ us hl => match us, hl with | [_], _ => rfl
  have nlsh := PySem.W.mg_of X G alsh
  have Fins := fun_mk (st := top 41) lins dins kins
  have bins := Fins.binds (ps := ["_law_jar_here"]) fun _ _ _ _ _ _ us hl => match us, hl with | [_], _ => rfl
  have nins := PySem.W.mg_of X G ains
  have Flab := fun_mk (st := top 42) llab dlab klab
  have blab := Flab.binds (ps := ["_law_jar_here"]) fun _ _ _ _ _ _ us hl => match us, hl with | [_], _ => rfl
  have nlab := PySem.W.mg_of X G alab
  have Fwor := fun_mk (st := top 43) lwor dwor kwor
  have bwor := Fwor.binds (ps := ["_law_jar_here", "_law_most"]) fun _ _ _ _ _ _ us hl => match us, hl with | [_, _], _ => rfl
  have nwor := PySem.W.mg_of X G awor
  have Fblt := fun_mk (st := top 44) lblt dblt kblt
  have bblt := Fblt.binds (ps := ["_law_world_here"]) fun _ _ _ _ _ _ us hl => match us, hl with | [_], _ => rfl
  have nblt := PySem.W.mg_of X G ablt
  have Fjar := fun_mk (st := top 45) ljar djar kjar
  have bjar := Fjar.binds (ps := ["_law_cells", "_law_turn"]) fun _ _ _ _ _ _ us hl => match us, hl with | [_, _], _ => rfl
  have njar := PySem.W.mg_of X G ajar
  have Fpag := fun_mk (st := top 46) lpag dpag kpag
  have bpag := Fpag.binds (ps := ["_law_world_here"]) fun _ _ _ _ _ _ us hl => match us, hl with | [_], _ => rfl
  have npag := PySem.W.mg_of X G apag
  have Fful := fun_mk (st := top 47) lful dful kful
  have bful := Fful.binds (ps := ["_law_jar_here"]) fun _ _ _ _ _ _ us hl => match us, hl with | [_], _ => rfl
  have nful := PySem.W.mg_of X G aful
  have Ftol := fun_mk (st := top 48) ltol dtol ktol
  have btol := Ftol.binds (ps := ["_law_world_here", "_law_mine"]) fun _ _ _ _ _ _ us hl => match us, hl with | [_, _], _ => rfl
  have ntol := PySem.W.mg_of X G atol
  have Frig := fun_mk (st := top 49) lrig drig krig
  have brig := Frig.binds (ps := ["_law_jar_here"]) fun _ _ _ _ _ _ us hl => match us, hl with | [_], _ => rfl
  have nrig := PySem.W.mg_of X G arig
  have Flaw := fun_mk (st := top 50) llaw dlaw klaw
  have Fini := fun_mk (st := meth 0) lini dini kini
  have bini := Fini.binds (ps := ["self", "machines", "cleanings", "stuffs", "products"]) fun _ _ _ _ _ _ us hl => match us, hl with | [_, _, _, _, _], _ => rfl
  have Fhol := fun_mk (st := meth 6) lhol dhol khol
  have bhol := Fhol.binds (ps := ["self", "machine"]) fun _ _ _ _ _ _ us hl => match us, hl with | [_, _], _ => rfl
  have Fkee := fun_mk (st := meth 7) lkee dkee kkee
  have bkee := Fkee.binds (ps := ["self", "cleaning"]) fun _ _ _ _ _ _ us hl => match us, hl with | [_, _], _ => rfl
  have Fcnt := fun_mk (st := meth 8) lcnt dcnt kcnt
  have bcnt := Fcnt.binds (ps := ["self", "product", "stuff"]) fun _ _ _ _ _ _ us hl => match us, hl with | [_, _, _], _ => rfl
  have Flmt := fun_mk (st := meth 9) llmt dlmt klmt
  have blmt := Flmt.binds (ps := ["self", "stuff"]) fun _ _ _ _ _ _ us hl => match us, hl with | [_, _], _ => rfl
  have Fdec := fun_mk (st := meth 10) ldec ddec kdec
  have bdec := Fdec.binds (ps := ["self", "product", "stuff"]) fun _ _ _ _ _ _ us hl => match us, hl with | [_, _, _], _ => rfl
  have Feql := fun_mk (st := meth 11) leql deql keql
  have beql := Feql.binds (ps := ["self", "other"]) fun _ _ _ _ _ _ us hl => match us, hl with | [_, _], _ => rfl
  have Fstr := fun_mk (st := meth 12) lstr dstr kstr
  have bstr := Fstr.binds (ps := ["self"]) fun _ _ _ _ _ _ us hl => match us, hl with | [_], _ => rfl
  have Frep := fun_mk (st := meth 13) lrep drep krep
  have brep := Frep.binds (ps := ["self"]) fun _ _ _ _ _ _ us hl => match us, hl with | [_], _ => rfl
  have Fpm := fun_mk (st := meth 2) lpm dpm kpm
  have bpm := Fpm.binds (ps := ["self"]) fun _ _ _ _ _ _ us hl => match us, hl with | [_], _ => rfl
  have Fpc := fun_mk (st := meth 3) lpc dpc kpc
  have bpc := Fpc.binds (ps := ["self"]) fun _ _ _ _ _ _ us hl => match us, hl with | [_], _ => rfl
  have Fps := fun_mk (st := meth 4) lps dps kps
  have bps := Fps.binds (ps := ["self"]) fun _ _ _ _ _ _ us hl => match us, hl with | [_], _ => rfl
  have Fpp := fun_mk (st := meth 5) lpp dpp kpp
  have bpp := Fpp.binds (ps := ["self"]) fun _ _ _ _ _ _ us hl => match us, hl with | [_], _ => rfl
  have Frd := fun_mk (st := meth 1) lrd drd krd
  have brd := Frd.binds (ps := ["text"]) fun _ _ _ _ _ _ us hl => match us, hl with | [_], _ => rfl
  have nW := PySem.W.mg_of X G aW
  have kbI : KBn K (PySem.W.fnOf "__init__" "Works.__init__" (defArgs (meth 0)) (defBody (meth 0)) (defScope (meth 0)) .none kVini dcini pmini anini cdini ctini) ["self", "machines", "cleanings", "stuffs", "products"] 1 ["products", "stuffs", "cleanings", "machines"] (fun us ws => us ++ ws.reverse) (fun vs zs => vs ++ zs.reverse) :=
    ⟨fun s us ws X l1 l2 => match us, l1, ws, l2 with | [_], _, [_, _, _, _], _ => .of_eq rfl, fun r1 r2 => r1.append (by
      have rev : ∀ {vs : List V} {us : List Value}, Vals vs us → Vals vs.reverse us.reverse := by
        intro vs us r
        induction r with
        | nil => exact .nil
        | cons h t ih =>
          rw [List.reverse_cons, List.reverse_cons]
          exact ih.append (.cons h .nil)
      exact rev r2)⟩
  have kbH : KBn K (PySem.W.fnOf "hold" "Works.hold" (defArgs (meth 6)) (defBody (meth 6)) (defScope (meth 6)) .none kVhol dchol pmhol anhol cdhol cthol) ["self", "machine"] 1 ["machine"] (fun us ws => us ++ ws) (fun vs zs => vs ++ zs) :=
    ⟨fun s us ws X l1 l2 => match us, l1, ws, l2 with | [_], _, [_], _ => .of_eq rfl, fun r1 r2 => r1.append r2⟩
  have kbK : KBn K (PySem.W.fnOf "keep" "Works.keep" (defArgs (meth 7)) (defBody (meth 7)) (defScope (meth 7)) .none kVkee dckee pmkee ankee cdkee ctkee) ["self", "cleaning"] 1 ["cleaning"] (fun us ws => us ++ ws) (fun vs zs => vs ++ zs) :=
    ⟨fun s us ws X l1 l2 => match us, l1, ws, l2 with | [_], _, [_], _ => .of_eq rfl, fun r1 r2 => r1.append r2⟩
  have kbL : KBn K (PySem.W.fnOf "limit" "Works.limit" (defArgs (meth 9)) (defBody (meth 9)) (defScope (meth 9)) .none kVlmt dclmt pmlmt anlmt cdlmt ctlmt) ["self", "stuff"] 1 ["stuff"] (fun us ws => us ++ ws) (fun vs zs => vs ++ zs) :=
    ⟨fun s us ws X l1 l2 => match us, l1, ws, l2 with | [_], _, [_], _ => .of_eq rfl, fun r1 r2 => r1.append r2⟩
  have kbC : KBn K (PySem.W.fnOf "content" "Works.content" (defArgs (meth 8)) (defBody (meth 8)) (defScope (meth 8)) .none kVcnt dccnt pmcnt ancnt cdcnt ctcnt) ["self", "product", "stuff"] 1 ["stuff", "product"] (fun us ws => us ++ ws.reverse) (fun vs zs => vs ++ zs.reverse) :=
    ⟨fun s us ws X l1 l2 => match us, l1, ws, l2 with | [_], _, [_, _], _ => .of_eq rfl, fun r1 r2 => r1.append (by
      have rev : ∀ {vs : List V} {us : List Value}, Vals vs us → Vals vs.reverse us.reverse := by
        intro vs us r
        induction r with
        | nil => exact .nil
        | cons h t ih =>
          rw [List.reverse_cons, List.reverse_cons]
          exact ih.append (.cons h .nil)
      exact rev r2)⟩
  have kbR : KBn K (PySem.W.fnOf "read" "Works.read" (defArgs (meth 1)) (defBody (meth 1)) (defScope (meth 1)) .none kVrd dcrd pmrd anrd cdrd ctrd) ["text"] 0 ["text"] (fun us ws => us ++ ws) (fun vs zs => vs ++ zs) :=
    ⟨fun s us ws X l1 l2 => match us, l1, ws, l2 with | [], _, [_], _ => .of_eq rfl, fun r1 r2 => r1.append r2⟩
  let T : List NTab := [(P1, lamName)]
  have only1 : ∀ r ∈ T, r.1 = P1 → r.2 = lamName := fun r hr e => by
    obtain rfl := List.mem_singleton.mp hr
    rfl
  have E : Empty K h [(c1, P1)] := by
    constructor
    · intro q hq
      obtain rfl := List.mem_singleton.mp hq
      exact TS _ inT
    · intro q hq
      obtain rfl := List.mem_singleton.mp hq
      exact t2
    · intro q hq
      obtain rfl := List.mem_singleton.mp hq
      exact PySem.W.codeHd_of_K X t1
  refine ⟨PySem.W.fnOf "law" "law" (defArgs (top 50)) (defBody (top 50)) (defScope (top 50)) .none kVlaw dclaw pmlaw anlaw cdlaw ctlaw, [(c1, P1)], spLaw T K, E, fun s v => .of_eq rfl, fun H a ns hl ht hS => ⟨a, ns, rfl, hS, hl, fun r hr => ?_, fun _ => rfl⟩, fun base XB GB TB => ?_⟩
  · obtain rfl := List.mem_singleton.mp hr
    exact ⟨#[], ht (c1, P1) (List.mem_cons_self ..), trivial, fun pos v hv => nomatch hv⟩
  · have TB1 := TB (c1, P1) (List.mem_cons_self ..)
    have GI := ok_int (P := l.prog) (w := w) (base := base) (mg := mg) Fint BI
    have GN := ok_name (P := l.prog) (w := w) (base := base) (mg := mg) Fnam BI m0 r0
    have GNu := ok_num (P := l.prog) (w := w) (base := base) (mg := mg) Fnum BI m7 r7
    have GNd := ok_named (P := l.prog) (w := w) (base := base) (mg := mg) Fnmd BI GN nnam knam bnam
    have GB := ok_bnds (P := l.prog) (w := w) (base := base) (mg := mg) Fbnd BI GI nint kint bInt
    have GS := ok_shar (P := l.prog) (w := w) (base := base) (mg := mg) Fshr GNd nnmd knmd bnmd GB nbnd kbnd bbnd m5 r5
    have GL := ok_lim (P := l.prog) (w := w) (base := base) (mg := mg) Flim GNd nnmd knmd bnmd GI nint kint bInt m6 r6
    have GC := ok_cont (P := l.prog) (w := w) (base := base) (mg := mg) Fcon BI GNd nnmd knmd bnmd GB nbnd kbnd bbnd m6 r6
    have GF := ok_first (P := l.prog) (w := w) (base := base) (mg := mg) Ffst BI GS kshr bshr GL klim blim
    have GK := ok_check (P := l.prog) (w := w) (base := base) (mg := mg) (T := T) Fchk rfl TB1 (List.mem_cons_self ..) only1 BI Ffst GF nfst kfst bfst GC ncon kcon bcon nshr nlim m1 r1 m2 r2 m3 r3 m4 r4
    have GBy := ok_by (P := l.prog) (w := w) (base := base) (mg := mg) Fby BZ
    have GLi := ok_line (P := l.prog) (w := w) (base := base) (mg := mg) Flin 
    have GT := ok_text (P := l.prog) (w := w) (base := base) (mg := mg) Ftxt GLi nlin klin blin
    have GIn := ok_init (P := l.prog) (w := w) (base := base) (mg := mg) Fini WC GK nchk kchk bchk GBy nby kby bby GT ntxt ktxt btxt
    have GBt := ok_builtF (P := l.prog) (w := w) (base := base) (mg := mg) Fblt hT MK nW GIn bini
    have GD := ok_dip (P := l.prog) (w := w) (base := base) (mg := mg) Fdip Bl
    have GO := ok_one (P := l.prog) (w := w) (base := base) (mg := mg) Fone Bl Fdip bdip ndip
    have GLb := ok_labels (P := l.prog) (w := w) (base := base) (mg := mg) Flab BL GD ndip kdip bdip GO nOne kone bone
    have GSh := ok_shares (P := l.prog) (w := w) (base := base) (mg := mg) Flsh BD GD ndip kdip bdip GO nOne kone bone
    have GNs := ok_inside (P := l.prog) (w := w) (base := base) (mg := mg) Fins BD GD ndip kdip bdip GO nOne kone bone
    have GW := ok_world (P := l.prog) (w := w) (base := base) (mg := mg) Fwor BW GD ndip kdip bdip GO nOne kone bone GLb nlab klab blab GSh nlsh klsh blsh GNs nins kins bins
    have GJ := ok_jar (P := l.prog) (w := w) (base := base) (mg := mg) Fjar Bl
    have GOf := ok_of (P := l.prog) (w := w) (base := base) (mg := mg) Fof BI U
    have GH := ok_hold (P := l.prog) (w := w) (base := base) (mg := mg) Fhol WC GOf nof kof bof
    have GKe := ok_keep (P := l.prog) (w := w) (base := base) (mg := mg) Fkee WC GOf nof kof bof
    have GLm := ok_limit (P := l.prog) (w := w) (base := base) (mg := mg) Flmt WC GOf nof kof bof
    have GCn := ok_content (P := l.prog) (w := w) (base := base) (mg := mg) Fcnt WC GOf nof kof bof
    have GDc := ok_decl (P := l.prog) (w := w) (base := base) (mg := mg) Fdec WC GCn (MM "content" gcnt (by repeat (first | exact List.mem_cons_self .. | apply List.mem_cons_of_mem))) bcnt
    have GSt := ok_str (P := l.prog) (w := w) (base := base) (mg := mg) Fstr WC BS
    have GRe := ok_repr (P := l.prog) (w := w) (base := base) (mg := mg) Frep WC BS
    have GEq := ok_eq (P := l.prog) (w := w) (base := base) (mg := mg) Feql WC BS nW WI
    have GPr := ok_pair (P := l.prog) (w := w) (base := base) (mg := mg) Frpr hT GNu nnum knum bnum
    have GRr := ok_row (P := l.prog) (w := w) (base := base) (mg := mg) Frrw hT GNu nnum knum bnum GPr nrpr krpr brpr
    have GRw := ok_rw (P := l.prog) (w := w) (base := base) (mg := mg) Frwk hT GRr nrrw krrw brrw MK nW GIn bini
    have GRd := ok_read (P := l.prog) (w := w) (base := base) (mg := mg) Frd BS GRw nrwk krwk brwk (MM "__str__" gstr (by repeat (first | exact List.mem_cons_self .. | apply List.mem_cons_of_mem))) GSt bstr
    have GFu := ok_full (P := l.prog) (w := w) (base := base) (mg := mg) Fful BF GD ndip kdip bdip GSh nlsh klsh blsh GNs nins kins bins
    have GPg := ok_page (P := l.prog) (w := w) (base := base) (mg := mg) Fpag BP
    have GPm := ok_get2 (P := l.prog) (w := w) (base := base) (mg := mg) Fpm WC
    have GPc := ok_get3 (P := l.prog) (w := w) (base := base) (mg := mg) Fpc WC
    have GPs := ok_get4 (P := l.prog) (w := w) (base := base) (mg := mg) Fps WC
    have GPp := ok_get5 (P := l.prog) (w := w) (base := base) (mg := mg) Fpp WC
    have PM : ∀ p ∈ [qpm, qpc, qps, qpp], p ∈ [qpm, qpc, qps, qpp] := fun _ h => h
    have RT : Rt l.prog w K mg base C CU := ⟨WC, ⟨_, _, GH, (MM "hold" ghol (by repeat (first | exact List.mem_cons_self .. | apply List.mem_cons_of_mem))), bhol, _, kbH⟩, ⟨_, _, GKe, (MM "keep" gkee (by repeat (first | exact List.mem_cons_self .. | apply List.mem_cons_of_mem))), _, kbK⟩, ⟨_, _, GLm, (MM "limit" glmt (by repeat (first | exact List.mem_cons_self .. | apply List.mem_cons_of_mem))), blmt, _, kbL⟩, ⟨_, _, GCn, (MM "content" gcnt (by repeat (first | exact List.mem_cons_self .. | apply List.mem_cons_of_mem))), bcnt, _, kbC⟩, ⟨_, _, GDc, (MM "declares" gdec (by repeat (first | exact List.mem_cons_self .. | apply List.mem_cons_of_mem))), bdec⟩, ⟨_, _, _, pLook_of pL (by repeat (first | exact List.mem_cons_self .. | apply List.mem_cons_of_mem)) apm rpm, GPm, bpm⟩, ⟨_, _, _, pLook_of pL (by repeat (first | exact List.mem_cons_self .. | apply List.mem_cons_of_mem)) apc rpc, GPc, bpc⟩, ⟨_, _, _, pLook_of pL (by repeat (first | exact List.mem_cons_self .. | apply List.mem_cons_of_mem)) aps rps, GPs, bps⟩, ⟨_, _, _, pLook_of pL (by repeat (first | exact List.mem_cons_self .. | apply List.mem_cons_of_mem)) app rpp, GPp, bpp⟩⟩
    have GTo := ok_told (P := l.prog) (w := w) (base := base) (mg := mg) Ftol BT RT
    have R : Rr l.prog w K mg base C CU T := ⟨BR, RT, nW, ⟨_, _, GD, ndip, kdip, bdip⟩, ⟨_, _, GFu, nful, kful, bful⟩, ⟨_, _, GW, nwor, kwor, bwor⟩, ⟨_, _, GBt, nblt, kblt, bblt⟩, ⟨_, _, GPg, npag, kpag, bpag⟩, ⟨_, _, GTo, ntol, ktol, btol⟩, ⟨_, _, GSt, (MM "__str__" gstr (by repeat (first | exact List.mem_cons_self .. | apply List.mem_cons_of_mem))), bstr⟩, ⟨_, _, GRe, (MM "__repr__" grep (by repeat (first | exact List.mem_cons_self .. | apply List.mem_cons_of_mem))), brep⟩, ⟨_, _, GEq, (MM "__eq__" geql (by repeat (first | exact List.mem_cons_self .. | apply List.mem_cons_of_mem))), beql⟩, i7, i8, i9, i10, i11, ⟨.type "type", ⟨s1, s2⟩, _, _, _, ⟨s3, ard, ⟨_, rrd⟩, krd⟩, GRd, brd, _, kbR⟩, ⟨_, _, MK, GIn, _, kbI⟩⟩
    have GR := ok_right Frig R
    exact ok_law Flaw BM GR nrig krig brig GJ njar kjar bjar
end LJ
set_option Elab.async false
open PySem PySem.W PyProof.Rows
set_option maxRecDepth 100000 in
set_option maxHeartbeats 0 in
theorem PySem.Challenge.cw_tracebounds_k02_works_made_and_told_holds : PySem.Challenge.rw_tracebounds_k02_works_made_and_told.Holds := by
  w_on; o_law; k_head; (case hw => w_witness2)
  k_fill
  refine L2.walk_gt (l := PySem.Challenge.rw_tracebounds_k02_works_made_and_told) (n := 63) (k := 12) (x := "_law_cells") rfl (by decide) rfl ⟨rfl, by decide, by decide⟩ ?F
  intro w mg fa h Y G hmg
  refine ⟨_, PySem.W.km_in_of Y, ?_⟩
  have TS := PySem.W.km_tabs_of Y
  refine' LJ.all_mk (P1 := 302) (PySem.W.km_in_of Y) G hmg TS ?aint ?lint ?dint ?kint ?anam ?lnam ?dnam ?knam ?anum ?lnum ?dnum ?knum ?aof ?lof ?dof ?kof ?aby ?lby ?dby ?kby ?achk ?lchk ?dchk ?kchk ?afst ?lfst ?dfst ?kfst ?ashr ?lshr ?dshr ?kshr ?alim ?llim ?dlim ?klim ?acon ?lcon ?dcon ?kcon ?anmd ?lnmd ?dnmd ?knmd ?abnd ?lbnd ?dbnd ?kbnd ?atxt ?ltxt ?dtxt ?ktxt ?alin ?llin ?dlin ?klin ?arwk ?lrwk ?drwk ?krwk ?arrw ?lrrw ?drrw ?krrw ?arpr ?lrpr ?drpr ?krpr ?adip ?ldip ?ddip ?kdip ?aone ?lone ?done ?kone ?alsh ?llsh ?dlsh ?klsh ?ains ?lins ?dins ?kins ?alab ?llab ?dlab ?klab ?awor ?lwor ?dwor ?kwor ?ablt ?lblt ?dblt ?kblt ?ajar ?ljar ?djar ?kjar ?apag ?lpag ?dpag ?kpag ?aful ?lful ?dful ?kful ?atol ?ltol ?dtol ?ktol ?arig ?lrig ?drig ?krig ?alaw ?llaw ?dlaw ?klaw ?aW ?aini ?lini ?dini ?kini ?ahol ?lhol ?dhol ?khol ?akee ?lkee ?dkee ?kkee ?acnt ?lcnt ?dcnt ?kcnt ?almt ?llmt ?dlmt ?klmt ?adec ?ldec ?ddec ?kdec ?aeql ?leql ?deql ?keql ?astr ?lstr ?dstr ?kstr ?arep ?lrep ?drep ?krep ?apm ?rpm ?lpm ?dpm ?kpm ?apc ?rpc ?lpc ?dpc ?kpc ?aps ?rps ?lps ?dps ?kps ?app ?rpp ?lpp ?dpp ?kpp ?ard ?rrd ?lrd ?drd ?krd ?aU ?iU ?lU ?dU ?outL ?cL ?wL ?mL ?pL ?iL ?sL ?uL ?tL ?inT
  (case aint => k_is)
  (case lint => k_is)
  (case dint => k_is)
  (case kint => k_is)
  (case anam => k_is)
  (case lnam => k_is)
  (case dnam => k_is)
  (case knam => k_is)
  (case anum => k_is)
  (case lnum => k_is)
  (case dnum => k_is)
  (case knum => k_is)
  (case aof => k_is)
  (case lof => k_is)
  (case dof => k_is)
  (case kof => k_is)
  (case aby => k_is)
  (case lby => k_is)
  (case dby => k_is)
  (case kby => k_is)
  (case achk => k_is)
  (case lchk => k_is)
  (case dchk => k_is)
  (case kchk => k_is)
  (case afst => k_is)
  (case lfst => k_is)
  (case dfst => k_is)
  (case kfst => k_is)
  (case ashr => k_is)
  (case lshr => k_is)
  (case dshr => k_is)
  (case kshr => k_is)
  (case alim => k_is)
  (case llim => k_is)
  (case dlim => k_is)
  (case klim => k_is)
  (case acon => k_is)
  (case lcon => k_is)
  (case dcon => k_is)
  (case kcon => k_is)
  (case anmd => k_is)
  (case lnmd => k_is)
  (case dnmd => k_is)
  (case knmd => k_is)
  (case abnd => k_is)
  (case lbnd => k_is)
  (case dbnd => k_is)
  (case kbnd => k_is)
  (case atxt => k_is)
  (case ltxt => k_is)
  (case dtxt => k_is)
  (case ktxt => k_is)
  (case alin => k_is)
  (case llin => k_is)
  (case dlin => k_is)
  (case klin => k_is)
  (case arwk => k_is)
  (case lrwk => k_is)
  (case drwk => k_is)
  (case krwk => k_is)
  (case arrw => k_is)
  (case lrrw => k_is)
  (case drrw => k_is)
  (case krrw => k_is)
  (case arpr => k_is)
  (case lrpr => k_is)
  (case drpr => k_is)
  (case krpr => k_is)
  (case adip => k_is)
  (case ldip => k_is)
  (case ddip => k_is)
  (case kdip => k_is)
  (case aone => k_is)
  (case lone => k_is)
  (case done => k_is)
  (case kone => k_is)
  (case alsh => k_is)
  (case llsh => k_is)
  (case dlsh => k_is)
  (case klsh => k_is)
  (case ains => k_is)
  (case lins => k_is)
  (case dins => k_is)
  (case kins => k_is)
  (case alab => k_is)
  (case llab => k_is)
  (case dlab => k_is)
  (case klab => k_is)
  (case awor => k_is)
  (case lwor => k_is)
  (case dwor => k_is)
  (case kwor => k_is)
  (case ablt => k_is)
  (case lblt => k_is)
  (case dblt => k_is)
  (case kblt => k_is)
  (case ajar => k_is)
  (case ljar => k_is)
  (case djar => k_is)
  (case kjar => k_is)
  (case apag => k_is)
  (case lpag => k_is)
  (case dpag => k_is)
  (case kpag => k_is)
  (case aful => k_is)
  (case lful => k_is)
  (case dful => k_is)
  (case kful => k_is)
  (case atol => k_is)
  (case ltol => k_is)
  (case dtol => k_is)
  (case ktol => k_is)
  (case arig => k_is)
  (case lrig => k_is)
  (case drig => k_is)
  (case krig => k_is)
  (case alaw => k_is)
  (case llaw => k_is)
  (case dlaw => k_is)
  (case klaw => k_is)
  (case aW => k_is)
  (case aini => k_is)
  (case lini => k_is)
  (case dini => k_is)
  (case kini => k_is)
  (case ahol => k_is)
  (case lhol => k_is)
  (case dhol => k_is)
  (case khol => k_is)
  (case akee => k_is)
  (case lkee => k_is)
  (case dkee => k_is)
  (case kkee => k_is)
  (case acnt => k_is)
  (case lcnt => k_is)
  (case dcnt => k_is)
  (case kcnt => k_is)
  (case almt => k_is)
  (case llmt => k_is)
  (case dlmt => k_is)
  (case klmt => k_is)
  (case adec => k_is)
  (case ldec => k_is)
  (case ddec => k_is)
  (case kdec => k_is)
  (case aeql => k_is)
  (case leql => k_is)
  (case deql => k_is)
  (case keql => k_is)
  (case astr => k_is)
  (case lstr => k_is)
  (case dstr => k_is)
  (case kstr => k_is)
  (case arep => k_is)
  (case lrep => k_is)
  (case drep => k_is)
  (case krep => k_is)
  (case apm => k_is)
  (case rpm => k_is)
  (case lpm => k_is)
  (case dpm => k_is)
  (case kpm => k_is)
  (case apc => k_is)
  (case rpc => k_is)
  (case lpc => k_is)
  (case dpc => k_is)
  (case kpc => k_is)
  (case aps => k_is)
  (case rps => k_is)
  (case lps => k_is)
  (case dps => k_is)
  (case kps => k_is)
  (case app => k_is)
  (case rpp => k_is)
  (case lpp => k_is)
  (case dpp => k_is)
  (case kpp => k_is)
  (case ard => k_is)
  (case rrd => k_is)
  (case lrd => k_is)
  (case drd => k_is)
  (case krd => k_is)
  (case aU => k_is)
  (case iU => k_is)
  (case lU => k_is)
  (case dU => k_is)
  (case outL => kernel_rfl)
  (case cL => kernel_rfl)
  (case wL => kernel_rfl)
  (case mL => kernel_rfl)
  (case pL => kernel_rfl)
  (case iL => kernel_rfl)
  (case sL => kernel_rfl)
  (case uL => kernel_rfl)
  (case tL => kernel_rfl)
  (case inT => decide)
