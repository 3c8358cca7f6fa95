import PyProof.Rows.All
import Wide.All
import OpenK.AllK
import Wide.FinOn
import HandS.ForMost
import HandS.Codes
import HandS.Flow
import HandS.Zip
import HandS.Conv
import HandS.IsInst
import HandS.Property
import HandS.Defaults
import HandS.Walk
import HandS.MakeKw
import HandS.ExcInit
import HandS.ExcField
import KE.KExcIs
import HandS.TupAny
import HandS.Wide
import HandS.NoneIn
import HandS.Star
import HandS.SlotsOwn
import HandS.OwnEq
import HandS.FStr
import KE.KOpsOwn
import HandS.Style
import HandS.Deep
import HandS.Text
import HandS.SetFor
import HandS.Strs
import HandS.SortInts
import HandS.TupMul
import KE.GoesMore
import HandS.HeadHook3
import HandS.MapJoin
import HandS.Iter
import KE.GoesEnum
import KE.DataMinMax
import HandS.SortKw
import KE.KDictZip
import KE.KItemsList
import KE.KTupSum
import HandS.ReplaceLit
import HandS.SortRule
import KE.SortData
import HandS.ExcOwn
import HandS.WordsExc
import HandS.Exc
import KE.IntTextLaws
import HandS.TryMany
import PySem.Challenge.RW_boundedlevels_k02_wrong_texts_of_rows
set_option Elab.async false
set_option linter.all false
set_option maxRecDepth 100000
set_option maxHeartbeats 4000000
namespace BL
open PySem PySem.Spec PyProof.Rows L2
/-! what is the same in all these laws, no text -/
def But (b : Addr) (H H' : Hp) : Prop := ∀ p o, p ≠ b → H p = some o → H' p = some o
theorem But.refl (b : Addr) (H : Hp) : But b H H := fun _ _ _ h => h
theorem But.trans {b : Addr} {H H1 H2 : Hp} (x : But b H H1) (y : But b H1 H2) : But b H H2 := fun p o e h => y p o e (x p o e h)
theorem But.same {b : Addr} {H H1 H2 : Hp} (x : But b H H1) (y : Same H1 H2) : But b H H2 := fun p o e h => y p o (x p o e h)
theorem But.of {b : Addr} {H H1 : Hp} (x : Same H H1) : But b H H1 := fun p o _ h => x p o h
theorem But.off {b : Addr} {H H1 : Hp} (x : But b H H1) (n : H b = none) : Same H H1 := fun p o h => x p o (ne_of_none h n) h
theorem same_upd {H : Hp} {p : Addr} {o : HO} (h : H p = none) : Same H (upd H p o) := fun b x e => by
  rw [upd_ne (ne_of_none e h)]
  exact e
theorem but_upd {H : Hp} {p : Addr} {o : HO} : But p H (upd H p o) := fun b x n e => by
  rw [upd_ne n]
  exact e
def Box (H : Hp) (b : Addr) (n : Nat) : Prop := ∃ x y z : Int, H b = some (.lst [.int x, .int y, .int z]) ∧ 0 ≤ z ∧ z ≤ n
theorem Box.same {H H' : Hp} {b : Addr} {n : Nat} (h : Box H b n) (s : Same H H') : Box H' b n := by
  obtain ⟨x, y, z, e, r⟩ := h
  exact ⟨x, y, z, s _ _ e, r⟩
theorem Box.le {H : Hp} {b : Addr} {n m : Nat} (h : Box H b n) (l : n ≤ m) : Box H b m := by
  obtain ⟨x, y, z, e, r, q⟩ := h
  exact ⟨x, y, z, e, r, by omega⟩
theorem Box.ne {H : Hp} {b p : Addr} {n : Nat} {o : HO} (h : Box H b n) (e : H p = some o) (k : ∀ xs, o ≠ .lst xs) : p ≠ b := by
  obtain ⟨x, y, z, f, _⟩ := h
  intro q
  rw [q, f] at e
  exact k _ (Option.some.inj e).symm
/-- the built-in names that these texts use are still built in -/
structure Bt (mg : Str → Option Value) : Prop where
  len : mg "len" = none
  abs : mg "abs" = none
  int : mg "int" = none
  list : mg "list" = none
  enumerate : mg "enumerate" = none
  range : mg "range" = none
  all : mg "all" = none
  zip : mg "zip" = none
  tuple : mg "tuple" = none
  isinstance : mg "isinstance" = none
  bool : mg "bool" = none
  str : mg "str" = none
/-! ### the draws -/
def spTake : Sp := fun vs H Q _ => ∃ (b : Addr) (m : Int) (n : Nat), vs = [.ref b, .int m] ∧ 0 < m ∧ m < 1073741824 ∧ Box H b n ∧ n ≤ 1000000000 ∧
  ∀ (r : Int) (H' : Hp), 0 ≤ r → r < m → But b H H' → Box H' b (n + 1) → Q (.int r) H'
def spBox (K : PySem.W.Frag) : Sp := fun vs H Q _ => ∃ (a : Addr) (cs : List Int) (k : Nat), vs = [.ref a, .int k] ∧ SqL K H a (cs.map V.int) ∧ k < cs.length ∧ cs.length ≤ 3 ∧
  ∀ (b : Addr) (H' : Hp), Same H H' → H b = none → Box H' b 0 → Q (.ref b) H'
def spCells (K : PySem.W.Frag) : Sp := fun vs H Q _ => ∃ (a : Addr) (ns : List Int), vs = [.ref a, .int 3] ∧ SqL K H a (ns.map V.int) ∧ ns.length ≤ 63 ∧
  ∀ (p : Addr) (cs : List Int) (H' : Hp), Same H H' → H p = none → H' p = some (.lst (cs.map V.int)) → cs.length ≤ 3 → Q (.ref p) H'
def spOf (K : PySem.W.Frag) : Sp := fun vs H Q _ => ∃ (b a : Addr) (xs : List V) (n : Nat), vs = [.ref b, .ref a] ∧ H a = some (.lst xs) ∧ a ≠ b ∧ xs ≠ [] ∧ xs.length ≤ 1000 ∧ Box H b n ∧ n ≤ 1000000000 ∧
  ∀ (i : Nat) (v : V) (H' : Hp), xs[i]? = some v → But b H H' → Box H' b (n + 1) → Q v H'
/-- law's: a list of at most 63 ints is handed in, True comes out -/
def spLaw (K : PySem.W.Frag) : Sp := fun vs H Q _ => ∃ (a : Addr) (ns : List Int), vs = [.ref a] ∧ SqL K H a (ns.map V.int) ∧ ns.length ≤ 63 ∧ ∀ H', Q (.bl true) H'
theorem atI3 {xs : List V} {i : Nat} {v : V} (h : xs[i]? = some v) : atI xs (i : Int) = some v := atI_nat h
theorem emod_le {a b : Int} (h : 0 < b) : 0 ≤ a % b ∧ a % b < b := ⟨Int.emod_nonneg _ (by omega), Int.emod_lt_of_pos _ h⟩
theorem ps_dead {X : Cx} {st : Stmt} : PS X st (fun _ _ _ => False) := ⟨fun _ _ _ _ _ _ h => h.elim⟩
theorem iteD0 {c A B : Prop} [Decidable c] (h : ¬ c) (b : B) : if decide c = true then A else B := by
  rw [if_neg (by simpa using h)]
  exact b
theorem iteD1 {c A B : Prop} [Decidable c] (h : c) (a : A) : if decide c = true then A else B := by
  rw [if_pos (by simpa using h)]
  exact a
theorem iteN1 {c A B : Prop} [Decidable c] (h : ¬ c) (a : A) : if (!decide c) = true then A else B := by
  rw [if_pos (by simpa using h)]
  exact a
theorem iteN0 {c A B : Prop} [Decidable c] (h : c) (b : B) : if (!decide c) = true then A else B := by
  rw [if_neg (by simpa using h)]
  exact b
theorem iteB1 {c : Bool} {A B : Prop} (h : c = true) (a : A) : if c = true then A else B := by
  rw [if_pos h]
  exact a
theorem iteB0 {c : Bool} {A B : Prop} (h : c = false) (b : B) : if c = true then A else B := by
  rw [h]
  exact iteF b
theorem iN (i : Int) : ¬ (V.int i = V.non) := fun h => by cases h
theorem rN (a : Addr) : ¬ (V.ref a = V.non) := fun h => by cases h
/-! ### a number or None -/
def oV : Option Int → V
  | none => .non
  | some i => .int i
def bnd (l : Int) (lo hi : Option Int) : Int :=
  let l1 := match lo with
    | none => l
    | some a => if l < a then a else l
  match hi with
    | none => l1
    | some b => if b < l1 then b else l1
def btw (l : Int) (lo hi : Option Int) : Bool :=
  (match lo with
    | none => true
    | some a => decide (a ≤ l)) && (match hi with
    | none => true
    | some b => decide (l ≤ b))
theorem _root_.L2.Same.seT {K : PySem.W.Frag} {H H' : Hp} {a : Addr} {xs : List V} (e : Same H H') (h : SqT K H a xs) : SqT K H' a xs := by
  rcases h with (h | ⟨o, h⟩) | h
  · exact .inl (.inl (e _ _ h))
  · exact .inl (.inr ⟨o, e _ _ h⟩)
  · exact .inr h
/-- two values that read alike, at most so deep -/
inductive Eqs (K : PySem.W.Frag) (H : Hp) : Nat → V → V → Prop
  | non (n : Nat) : Eqs K H n .non .non
  | bl (n : Nat) (b : Bool) : Eqs K H n (.bl b) (.bl b)
  | int (n : Nat) (i : Int) : Eqs K H n (.int i) (.int i)
  | str (n : Nat) (x : Str) : Eqs K H n (.str x) (.str x)
  | lst {n : Nat} {a b : Addr} {xs ys : List V} : SqL K H a xs → SqL K H b ys → xs.length = ys.length → xs.length ≤ 1000 → (∀ (i : Nat) (x y : V), xs[i]? = some x → ys[i]? = some y → Eqs K H n x y) → Eqs K H (n + 1) (.ref a) (.ref b)
  | tup {n : Nat} {a b : Addr} {xs ys : List V} : SqT K H a xs → SqT K H b ys → xs.length = ys.length → xs.length ≤ 1000 → (∀ (i : Nat) (x y : V), xs[i]? = some x → ys[i]? = some y → Eqs K H n x y) → Eqs K H (n + 1) (.ref a) (.ref b)
theorem Eqs.same {K : PySem.W.Frag} {H H' : Hp} {n : Nat} {x y : V} (h : Eqs K H n x y) (s : Same H H') : Eqs K H' n x y := by
  induction h with
  | non n => exact .non n
  | bl n b => exact .bl n b
  | int n i => exact .int n i
  | str n x => exact .str n x
  | lst h1 h2 l m _ ih => exact .lst (s.seq h1) (s.seq h2) l m ih
  | tup h1 h2 l m _ ih => exact .tup (s.seT h1) (s.seT h2) l m ih
theorem Eqs.oV {K : PySem.W.Frag} {H : Hp} (n : Nat) (o : Option Int) : Eqs K H n (oV o) (oV o) := by
  cases o with
  | none => exact .non n
  | some i => exact .int n i
theorem a2_nil {E : V → V → Prop} : ∀ (i : Nat) (x y : V), ([] : List V)[i]? = some x → ([] : List V)[i]? = some y → E x y := fun i x y h => by simp at h
theorem a2_cons {E : V → V → Prop} {v u : V} {vs us : List V} (h : E v u) (r : ∀ (i : Nat) (x y : V), vs[i]? = some x → us[i]? = some y → E x y) : ∀ (i : Nat) (x y : V), (v :: vs)[i]? = some x → (u :: us)[i]? = some y → E x y
  | 0, x, y, h1, h2 => by
    have e1 : v = x := Option.some.inj h1
    have e2 : u = y := Option.some.inj h2
    rw [← e1, ← e2]
    exact h
  | i + 1, x, y, h1, h2 => r i x y h1 h2
def spSame (K : PySem.W.Frag) : Nat → Sp
  | 0 => fun _ _ _ _ => False
  | n + 1 => fun vs H Q _ => ∃ x y, vs = [x, y] ∧ Eqs K H n x y ∧ ∀ H', Same H H' → Q (.bl true) H'
theorem ty_l {K : PySem.W.Frag} {H : Hp} {a : Addr} {xs : List V} (h : SqL K H a xs) : TyX K H (.ref a) (.type "list") := by
  rcases h with (h | ⟨o, h⟩) | ⟨o, its, n, l, c, _⟩
  · exact .base (.lst h)
  · exact .base (.frz h)
  · exact .kList l c
theorem ty_t {K : PySem.W.Frag} {H : Hp} {a : Addr} {xs : List V} (h : SqT K H a xs) : TyX K H (.ref a) (.type "tuple") := by
  rcases h with (h | ⟨o, h⟩) | ⟨o, its, n, l, c, _⟩
  · exact .base (.tup h)
  · exact .fTuple h
  · exact .kTuple l c
theorem any_of {K : PySem.W.Frag} {t a b : String} {r : Bool} (h : (match kitB t a with
    | some true => some true
    | some false => (match kitB t b with
      | some true => some true
      | some false => some false
      | none => none)
    | none => none) = some r) : PySem.W.kitAny K (.type t) [.type a, .type b] = some r := by
  unfold PySem.W.kitAny
  cases e : kitB t a with
  | none => rw [e] at h; cases h
  | some c =>
    rw [e] at h
    rw [kit_ty e]
    cases c with
    | true => exact h
    | false =>
      show PySem.W.kitAny K (.type t) [.type b] = some r
      unfold PySem.W.kitAny
      cases e2 : kitB t b with
      | none => rw [e2] at h; cases h
      | some c2 =>
        rw [e2] at h
        rw [kit_ty e2]
        cases c2 with
        | true => exact h
        | false => exact h
theorem walk_zipT {K : PySem.W.Frag} {a b : Addr} {xs ys : List V} {n : Nat} (hn : n = min xs.length ys.length) : Walk (RZ.ItzT K a b) n (fun H => SqT K H a xs ∧ SqT K H b ys) (YPair (fun i => xs[i]?) (fun i => ys[i]?)) := by
  refine ⟨fun i _ hi q => ?_, fun _ q => ⟨xs, ys, q.1, q.2, by omega⟩, fun i H v H' _ q y => ?_⟩
  · have h1 : i < xs.length := by omega
    have h2 : i < ys.length := by omega
    exact ⟨xs, ys, xs[i], ys[i], q.1, q.2, by simp [h1], by simp [h2]⟩
  · obtain ⟨T, x, z, h1, h2, h3, h4, h5⟩ := y
    exact ⟨T, x, z, h1, h2, h3, h4 xs q.1, h5 ys q.2⟩
/-! ### ways -/
def wF (s f c : Option Int) : List (Str × V) := putF "_cap" (oV c) (putF "_floor" (oV f) (putF "_shift" (oV s) []))
theorem k1 : ¬ (("_floor" : Str) = "_cap") := by decide +kernel
theorem k2 : ¬ (("_shift" : Str) = "_cap") := by decide +kernel
theorem k3 : ¬ (("_shift" : Str) = "_floor") := by decide +kernel
theorem wF_c (s f c : Option Int) : (wF s f c).lookup ("_cap" : Str) = some (oV c) := by
  unfold wF
  rw [lookup_putF, if_pos rfl]
theorem wF_f (s f c : Option Int) : (wF s f c).lookup ("_floor" : Str) = some (oV f) := by
  unfold wF
  rw [lookup_putF, if_neg k1, lookup_putF, if_pos rfl]
theorem wF_s (s f c : Option Int) : (wF s f c).lookup ("_shift" : Str) = some (oV s) := by
  unfold wF
  rw [lookup_putF, if_neg k2, lookup_putF, if_neg k3, lookup_putF, if_pos rfl]
def WayAt (C : Addr) (H : Hp) (p : Addr) (s f c : Option Int) : Prop := ∃ dx, H p = some (.ins C dx (wF s f c))
theorem WayAt.same {C : Addr} {H H' : Hp} {p : Addr} {s f c : Option Int} (h : WayAt C H p s f c) (e : Same H H') : WayAt C H' p s f c := by
  obtain ⟨dx, h⟩ := h
  exact ⟨dx, e _ _ h⟩
def nrm (s f c : Option Int) : Option Int :=
  match f, c with
  | some a, some b => if a = b then none else s
  | _, _ => s
def okW (s f c : Option Int) : Prop :=
  match f, c with
  | some a, some b => a ≤ b ∧ (s = none → a = b)
  | _, _ => s ≠ none
def spInitW (C : Addr) : Sp := fun vs H Q _ => ∃ (p dx : Addr) (s f c : Option Int), vs = [.ref p, oV s, oV f, oV c] ∧ H p = some (.ins C dx []) ∧ okW s f c ∧
  ∀ H', WayAt C H' p (nrm s f c) f c → (∀ b o, H b = some o → b ≠ p → H' b = some o) → Q .non H'
structure Prp (P : Program) (w : World) (K : PySem.W.Frag) (mg : Str → Option Value) (base : Heap) (C : Addr) (f h : Str) : Prop where
  ex : ∃ (p g : Addr) (fd : FuncData), PropOf K C f p g ∧ FnOk P w K mg base CX0 1 g fd ["self"] (getSp C h) ∧ Binds K fd ["self"] []
theorem PE.weak {X : Cx} {e : Expr} {t t' : TE} (h : PE X e t) (i : ∀ σ H Q, t' σ H Q → t σ H Q) : PE X e t' := ⟨fun pins s σ H Q I q => h.run pins s σ H Q I (i σ H Q q)⟩
/-- way.shift, way.floor, way.cap -/
def tWF (C : Addr) (sel : Option Int → Option Int → Option Int → Option Int) (ta : TE) : TE := fun σ H Q => ta σ H fun x H1 => ∃ a s f c, x = .ref a ∧ WayAt C H1 a s f c ∧ Q (oV (sel s f c)) H1
def tGet (C : Addr) (h : Str) (ta : TE) : TE := fun σ H Q => ta σ H fun x H1 => ∃ a dx fs v, x = .ref a ∧ H1 a = some (.ins C dx fs) ∧ fs.lookup h = some v ∧ Q v H1
section
variable {X : Cx} {j : Nat} {C : Addr} {e : Expr} {pos : Pos} {ta : TE} {f h : Str}
/-- how a reading grows with what is wanted -/
def Mono (t : TE) : Prop := ∀ (σ : L2.St) (H : Hp) (Q Q' : VK), (∀ v H', Q v H' → Q' v H') → t σ H Q → t σ H Q'
theorem mono_var (i : Nat) : Mono (tVar i) := fun σ H Q Q' m ⟨v, e, q⟩ => ⟨v, e, m _ _ q⟩
theorem pe_get (m : Mono ta) (he : PE X e ta) (c : Cls X.K C) (pr : Prp X.prog X.w X.K X.mg X.base C f h) (hr : Room j X.A) (hj : 2 ≤ j)
    (hab : attributeBase e f X.env (eval e X.env) = eval e X.env := by rfl) : PE X (.Attribute e f pos) (tGet C h ta) := by
  obtain ⟨p, g, fd, po, F, b⟩ := pr.ex
  refine PE.weak (pe_prop (sp := getSp C h) he c po F (hr.mono hj) b .nil pass0 hab) fun σ H Q q => ?_
  refine m σ H _ _ (fun v H' z => ?_) q
  obtain ⟨a, dx, fs, u, rfl, ha, hl, k⟩ := z
  exact ⟨a, dx, fs, rfl, ha, a, dx, fs, u, rfl, ha, hl, k⟩
theorem pe_sel {sel : Option Int → Option Int → Option Int → Option Int} (hs : ∀ s f c, (wF s f c).lookup h = some (oV (sel s f c))) (m : Mono ta) (he : PE X e ta) (c : Cls X.K C) (pr : Prp X.prog X.w X.K X.mg X.base C f h) (hr : Room j X.A) (hj : 2 ≤ j)
    (hab : attributeBase e f X.env (eval e X.env) = eval e X.env := by rfl) : PE X (.Attribute e f pos) (tWF C sel ta) := by
  refine PE.weak (pe_get m he c pr hr hj hab) fun σ H Q q => m σ H _ _ (fun v H' z => ?_) q
  obtain ⟨a, s, f, c, rfl, ⟨dx, ha⟩, k⟩ := z
  exact ⟨a, dx, _, _, rfl, ha, hs s f c, k⟩
end
/-- THE RULE for a def with defaults that lets nothing out -/
theorem okD {P : Program} {w : World} {K : PySem.W.Frag} {mg : Str → Option Value} {base : Heap} {x qual : Str} {params : Arguments} {body : List Stmt} {scope : Scope} {dvs : List V} {kws : List (Str × V)} {f : Addr} {fd : FuncData} {N ps : List Str} {k : Nat} {sp : Sp} (F : FunD K x qual params body scope dvs kws f fd) (S : FnScope N ps scope) (len : ∀ vs H Q E, sp vs H Q E → vs.length = ps.length)
    (hb : ∀ (cdv : Value) (A : Around) (outer : List Env) (s : Shared) (H : Hp) (vs : List V) (Q : VK) (E : XK), Room k (A.deeper (envOfC qual scope s.heap.objs.size f cdv)) → sp vs H Q E →
      ∃ t, PSs (cxOf CX0 P w K mg base N qual scope f cdv A outer s H E).nox body t ∧ t { nx := fun _ H' => Q .non H', rt := Q } (start N vs) H) : FnOk P w K mg base CX0 (k + 1) f fd ps sp :=
  F.ok S len fun cdv A outer s H vs Q E hr h => by
    obtain ⟨t, p, q⟩ := hb cdv A outer s H vs Q E hr h
    exact ⟨t, p.nox, q⟩
theorem pe_c0 {X : Cx} {k j : Nat} {x : Str} {sp : Sp} {dvs : List V} {p pos : Pos} (c : C8.Cal X.prog X.w X.K X.mg X.base k x sp dvs) (hr : Room j X.A) (hk : k ≤ j) (hg : Gl X x) (hdb : (x == ("__debug__" : Str)) = false := by decide) : PE X (.Call (.Name x p) [] [] pos) (tCall sp dvs C8.E0 tNil) := by
  obtain ⟨f, fd, ps, ds, F, hm, kp, b, d⟩ := c.ex
  exact pe_call0 F (hr.mono hk) hg hm kp b d pass0 hdb
end BL

namespace BL
open PySem PySem.Spec PyProof.Rows L2
/-! a caught exception that is kept beyond its except suite -/
/-- at a: an exception of the class at C, its dict at d -/
def ExK (C d a : Addr) : HO := .ext fun g => ∃ ob fl, g.get? a = some ob ∧ Zc (.ref C) (some d) ob ∧ ob.data = .fields fl
theorem exk_ok {P : Program} {w : World} {H : Hp} {g : Heap} {a C d : Addr} {ob : Obj} {fl : Array Value} (e : g.get? a = some ob) (z : Zc (.ref C) (some d) ob) (q : ob.data = .fields fl) : ObjOk P w H g a (ExK C d a) :=
  ⟨⟨ob, fl, e, z, q⟩, ⟨ob, e⟩, fun _ _ ⟨o, f, x, y⟩ k => ⟨o, f, k o x, y⟩⟩
theorem exk_at {P : Program} {w : World} {H : Hp} {g : Heap} {a C d : Addr} (ok : HOk P w H g) (e : H a = some (ExK C d a)) : ∃ ob fl, g.get? a = some ob ∧ Zc (.ref C) (some d) ob ∧ ob.data = .fields fl := by
  have z : ObjOk P w H g a (.ext fun g => ∃ ob fl, g.get? a = some ob ∧ Zc (.ref C) (some d) ob ∧ ob.data = .fields fl) := ok a _ e
  exact z.1
section
variable {X : Cx} {pins : List (Addr × Obj)} {σ : L2.St} {H : Hp} {s : Shared}
theorem adopt {a C d : Addr} {ob : Obj} {fl : Array Value} (I : Inv X ((a, ob) :: pins) σ H s) (z : Zc (.ref C) (some d) ob) (q : ob.data = .fields fl) (new : a ∉ X.ex → X.s_0.heap.get? a = none) (ne : ∀ p ∈ X.pn ++ pins, p.1 ≠ a) :
    Inv X pins σ (upd H a (ExK C d a)) s := by
  obtain ⟨ea, na, nl, nf, nc⟩ := I.pin (a, ob) (List.mem_append_right _ (List.mem_cons_self ..))
  have up : ∀ {b : Addr}, b ≠ a → upd H a (ExK C d a) b = H b := fun n => upd_ne n
  have st : ∀ {b : Addr} {o : HO}, H b = some o → upd H a (ExK C d a) b = some o := fun {b o} e => by
    rw [up (ne_of_none e na)]
    exact e
  have ok : HOk X.prog X.w (upd H a (ExK C d a)) s.heap := fun b o e => by
    by_cases c : b = a
    · subst c
      rw [upd_same] at e
      cases e
      exact exk_ok ea z q
    · rw [up c] at e
      exact (I.hok b o e).stay (fun _ _ _ x => x) (fun _ x => st x) (fun _ _ x => st x)
  refine ⟨I.ok, I.os, I.bare, ⟨I.base.keep, I.base.slot, fun b o e n x => ?_, I.base.there, fun b xs e => st (I.base.tups b xs e), fun b o u e => st (I.base.frzs b o u e), fun b ps e => ?_⟩, I.loc, I.cell, ?_, fun x c e => ?_, fun p hp => ?_, ok, I.len⟩
  · rw [up fun c => by rw [c, new (c ▸ x)] at e; cases e]
    exact I.base.free b o e n x
  · obtain ⟨m, e'⟩ := I.base.tbls b ps e
    exact ⟨m, st e'⟩
  · rw [up (Ne.symm nl)]
    exact I.free
  · rw [up fun y => ?_]
    · exact I.freeC x c e
    · obtain ⟨v, cv⟩ := I.cell x c e
      obtain ⟨o', e1, e2⟩ := cv
      rw [y, ea] at e1
      cases e1
      exact nc _ e2
  · obtain ⟨p1, p2, p3⟩ := I.pin p (by
      rcases List.mem_append.mp hp with h | h
      · exact List.mem_append_left _ h
      · exact List.mem_append_right _ (List.mem_cons_of_mem _ h))
    exact ⟨p1, by rw [up (ne p hp)]; exact p2, p3⟩

/-- out of the suite, the exception held fast among the pins -/
theorem outOf {a : Addr} {ob : Obj} (I : Inv (X.suite a ((a, ob) :: (X.pn ++ pins))) [] σ H s) (ok : X.Ok) : Inv X ((a, ob) :: pins) σ H s := by
  refine ⟨ok, I.os, I.bare, I.base, I.loc, I.cell, I.free, I.freeC, fun p hp => I.pin p ?_, I.hok, I.len⟩
  show p ∈ ((a, ob) :: (X.pn ++ pins)) ++ []
  rw [List.append_nil]
  rcases List.mem_append.mp hp with h | h
  · exact List.mem_cons_of_mem _ (List.mem_append_left _ h)
  · rcases List.mem_cons.mp h with h | h
    · rw [h]
      exact List.mem_cons_self ..
    · exact List.mem_cons_of_mem _ (List.mem_append_right _ h)
theorem Sky_none {B g : Heap} {l : List Env} {a L : Addr} {Z : Obj → Prop} (k : L2.Sky B l a Z L g) : B.get? a = none := by
  rcases k with k | k | k
  · exact k.2.1
  · exact k.2.1
  · exact k.2.1
/-- what such a try wishes of the error in its body: it is one of the class named; the suite ts runs with it in slot i; behind it stands kept, and the slot is empty -/
def wKeep (K : PySem.W.Frag) (c : Value) (i : Nat) (ts : Addr → TS) (D : Ends) : WX := fun cls d τ G => ∃ C dd : Addr, cls = .ref C ∧ d = some dd ∧ PySem.W.exmOne K cls c = some true ∧ ∀ a, G a = none →
  ts a { nx := fun τ' G' => G' a = none → D.nx (τ'.set i none) (upd G' a (ExK C dd a)), rt := fun _ _ => False, bk := fun _ _ => False, ct := fun _ _ => False } (τ.set i (some (.ref a))) G
end
section
variable {X : Cx} {x n : Str} {c : Value} {i : Nat} {bd su : List Stmt} {b1 : Stmt} {q1 q2 pos : Pos} {tb : WX → TS} {ts : Addr → TS}
theorem ps_try_keep (st : X.stack = X.env :: X.outer) (fr : X.env.frame = some X.env.locals) (nd : X.N.Nodup) (at_ : X.N[i]? = some n) (lo : X.env.kindOf n = some .local) (nm : Names X x c)
    (body : ∀ (W : WX) (pn : List (Addr × Obj)) (E' : Value → Shared → Prop), Takes (X.tr pn E') W → PassesOwn (model X.prog X.w) X.A X.env E' → PSs (X.tr pn E') bd (tb W))
    (suite : ∀ (a : Addr) (ob : Obj) (pn : List (Addr × Obj)), PSs (X.suite a ((a, ob) :: pn)) (b1 :: su) (ts a)) :
    PS X (.Try bd [.ExceptHandler (some (.Name x q1)) (some n) (b1 :: su) q2] [] [] pos) (fun D τ G => tb (wKeep X.K c i ts D) D τ G) := by
  constructor
  intro pins s τ G D I wish
  have ok := I.ok
  have frames : X.A.frames = some (X.env :: X.outer) := by
    rw [ok.frames, st]
  apply wpAny_Try_except
  have run := (body (wKeep X.K c i ts D) (X.pn ++ pins) (fun e s₁ => wpAny (model X.prog X.w) X.A (noteFrame e X.env) (fun _ s₂ => wpAny (model X.prog X.w) X.A (setFlight e none)
    (fun _ s₃ => wpAny (model X.prog X.w) X.A (handleBy e X.env [.ExceptHandler (some (.Name x q1)) (some n) (b1 :: su) q2]) (SP X pins D) X.xe s₃) X.xe s₂) X.xe s₁) ?tk PassesOwn.looking).run [] s τ G D (I.toTry _) wish
  case tk =>
    rintro u s' ⟨a, B, sI, pins', τ', G', cls, d, rfl, J', nb, up, sky, na, os, ag, C, dd, rfl, rfl, yes, go⟩
    have J : Inv X pins τ' G' sI := J'.ofTry ok
    have sky2 : L2.Sky B (X.env :: X.outer) a (Zc (.ref C) (some dd)) X.env.locals s'.heap := st ▸ sky
    have bn := Sky_none sky2
    show wpAny _ X.A (noteFrame (.ref a) X.env) _ _ _
    refine L2.Sky.land Zc.steady frames fr sky2 fun g3 f3 u3 => ?_
    obtain ⟨o3, v3, e3, z3, d3⟩ := f3.there
    have off : ∀ {g : Heap} {o : Obj} {vs : Array Value}, g.FunFrames B (X.env :: X.outer) → g.get? a = some o → o.data = .fields vs → a ∉ frs (X.env :: X.outer) := by
      intro g o vs ff e dt m
      obtain ⟨_, o', e', no⟩ := ff.mem m
      rw [e] at e'
      cases e'
      exact no _ dt
    have out := off f3.2.2.1 e3 d3
    have notL : a ≠ X.env.locals := by
      intro z
      refine out (List.mem_filterMap.mpr ⟨X.env, List.mem_cons_self .., ?_⟩)
      rw [fr, z]
    have notF : a ∉ X.fs := by
      intro m
      obtain ⟨e, me, q⟩ := List.mem_filterMap.mp m
      exact out (List.mem_filterMap.mpr ⟨e, List.mem_cons_of_mem _ me, q⟩)
    -- the exception is new: it was not there when it was made
    have young : sI.heap.get? a = none := by
      cases e : sI.heap.get? a with
      | none => rfl
      | some o =>
        have := nb a o e (by rw [st]; exact out)
        rw [bn] at this
        cases this
    have new : a ∉ X.ex → X.s_0.heap.get? a = none := by
      intro nx
      cases e : X.s_0.heap.get? a with
      | none => rfl
      | some o =>
        obtain ⟨o', e'⟩ := J.base.there a o e nx
        rw [young] at e'
        cases e'
    have apart : ∀ p ∈ X.pn ++ pins, p.1 ≠ a := by
      intro p hp z
      have := (J.pin p hp).1
      rw [z, young] at this
      cases this
    have J3 : Inv X pins τ' G' { s' with heap := g3 } := J.landed nb f3.1 (up.trans u3) os ag
    have S3 := J3.suite e3 d3 na notL notF
    refine wpAny_handleBy_cons (codeAny_handlers_test ?_) (fun q => by cases q)
    have ty : PySem.W.Looks (model X.prog X.w) g3 (typeOf (.ref a)) (.ref C) := fun A Q E s k q => wpAny_typeOf_ref (k _ _ e3) (by
      rw [z3.1]
      exact q)
    have mt := PySem.W.exm_one (M := model X.prog X.w) J3.kIn ty yes
    have load : ∀ {Q : Value → Shared → Prop} {E : Value → Shared → Prop}, Q c { s' with heap := g3 } → wpAny (model X.prog X.w) (X.A.mark (some (.ref a))) (eval (.Name x q1) X.env) Q E { s' with heap := g3 } := by
      intro Q E q
      obtain ⟨gl, dbg, m | ⟨m, v, nn⟩⟩ := nm
      · exact ld_glob (X := X.suite a ((a, o3) :: (X.pn ++ pins))) S3 gl m q dbg
      · exact ld_blt (X := X.suite a ((a, o3) :: (X.pn ++ pins))) S3 gl m v q nn dbg
    refine load (mt.here (codeAny_handlers_suite_as ?_))
    refine HandSPX.lands_againZ f3 fun g4 f4 u4 => ?_
    obtain ⟨o4, v4, e4, z4, d4⟩ := f4.there
    have J4 : Inv X pins τ' G' { s' with heap := g4 } := J.landed nb f4.1 ((up.trans u3).trans u4) os ag
    have S4 := J4.suite e4 d4 na notL notF
    refine store_ok (X := X.suite a ((a, o4) :: (X.pn ++ pins))) (v := .ref a) S4 nd at_ (.inl lo) rfl (fun s5 S5 => ?_) (.inr lo)
    refine wpAny_mono ((suite a o4 (X.pn ++ pins)).run [] s5 _ G' _ S5 (go a na)) (fun f s6 sp => ?_) (fun _ _ z => z.elim)
    cases f with
    | next =>
      obtain ⟨τ6, G6, S6, q6⟩ := sp
      refine gone_ok (outOf S6 ok) nd at_ lo fun s7 J7 => ?_
      exact ⟨_, _, adopt J7 z4 d4 new apart, q6 (S6.pin (a, o4) (by show _ ∈ ((a, o4) :: (X.pn ++ pins)) ++ []; simp)).2.1⟩
    | brk =>
      obtain ⟨_, _, _, z⟩ := sp
      exact z.elim
    | cont =>
      obtain ⟨_, _, _, z⟩ := sp
      exact z.elim
    | ret u =>
      obtain ⟨_, _, _, _, _, z⟩ := sp
      exact z.elim
  refine wpAny_mono run (fun f s1 sp => ?_) (fun _ _ z => z)
  cases f with
  | next =>
    obtain ⟨τ', G', J', q⟩ := sp
    exact wpAny_execs_nil ⟨τ', G', J'.ofTry ok, q⟩
  | brk =>
    obtain ⟨τ', G', J', q⟩ := sp
    exact ⟨τ', G', J'.ofTry ok, q⟩
  | cont =>
    obtain ⟨τ', G', J', q⟩ := sp
    exact ⟨τ', G', J'.ofTry ok, q⟩
  | ret u =>
    obtain ⟨v, τ', G', J', r, q⟩ := sp
    exact ⟨v, τ', G', J'.ofTry ok, r, q⟩
end
section
variable {X : Cx} {e : Expr} {te : TE} {pos : Pos} {C : Addr} {f : Str}
/-- e.f, e a kept exception of the class at C -/
def tXk (C : Addr) (f : Str) (te : TE) : TE := fun σ H Q => te σ H fun x H1 => ∃ (a d : Addr) (fs : List (Str × V)) (v : V), x = .ref a ∧ H1 a = some (ExK C d a) ∧ H1 d = some (.xd fs) ∧ fs.lookup f = some v ∧ Q v H1
theorem pe_xk (T : XfC X.K C) (no : PySem.W.findIn X.K (.ref C) f = some none) (he : PE X e te) (hb : attributeBase e f X.env (eval e X.env) = eval e X.env := by rfl) : PE X (.Attribute e f pos) (tXk C f te) := by
  constructor
  intro pins s σ H Q I h
  refine attr_of hb (thn (he.run pins s σ H _ I h) fun u s1 hh => ?_)
  obtain ⟨x, H1, I1, rx, a, d, fs, v, rfl, ea, ed, l, q⟩ := hh
  obtain rfl : u = Value.ref a := rx
  obtain ⟨ob, fl, ha, hz, dt⟩ := exk_at I1.hok ea
  have dk : ObjOk X.prog X.w H1 s1.heap d (.xd fs) := I1.hok d _ ed
  obtain ⟨mA, ns, rel⟩ := dk
  obtain ⟨od, ho, look⟩ := lookIn_ns ns
  obtain ⟨u, hu, ru⟩ := RelO.some_of (v := v) (o := mA f) (by rw [← l]; exact rel f)
  have J : PySem.W.InstAt s1.heap a ob C (some od) := ⟨ha, hz.1, by unfold PySem.W.notCls; rw [dt] <;> rfl, by rw [hz.2]; exact ho⟩
  exact HandSPX.exc_get I1.kIn J T.ga T.gg T.exC (PySem.W.findObj_own T.hdC no rfl (by rw [look, hu])) (handed_of ru) ⟨v, H1, I1.tok _, ru, q⟩
/-- what the written part tells of a class of exceptions, for isinstance -/
structure XiC (K : PySem.W.Frag) (C : Addr) : Prop where
  cl : (PySem.W.clsIn K C).isSome = true
  ga : PySem.W.findIn K (.ref C) "__getattribute__" = some (some (.builtin "BaseException.__getattribute__"))
  gg : PySem.W.findIn K (.ref C) "__getattr__" = some none
  ex : PySem.W.subIn K (.ref C) (.type "BaseException") = some true
  ca : PySem.W.findIn K (.ref C) "__class__" = some (some (.builtin "object.__class__"))
  sp : PySem.W.specialIn K (.builtin "object.__class__") "__get__" = some (some (.builtin "getset_descriptor.__get__"))
  tk : PySem.W.takesIn K (.builtin "object.__class__") = some true
  ob : PySem.W.mroIn K C (.type "object") = some true
/-- isinstance(x, D): x a kept exception of the class at C -/
def rIsK (K : PySem.W.Frag) : List V → Hp → VK → Prop := fun xs H Q => ∃ (a d C : Addr) (D : V) (u : Value) (b : Bool), xs = [.ref a, D] ∧ ClsV D u ∧ H a = some (ExK C d a) ∧ (∃ fs, H d = some (.xd fs)) ∧ XiC K C ∧ PySem.W.kitOne K (.ref C) u = some b ∧ Q (.bl b) H
theorem call_isK : CallR X (.builtin "isinstance") (rIsK X.K) := by
  intro pins s σ H xs us Q I r h
  obtain ⟨a, d, C, D, w, b, rfl, k, ea, ⟨fs, ed⟩, T, yes, q⟩ := h
  obtain ⟨u1, u2, rfl, r1, r2⟩ := vals2 r
  obtain rfl : u1 = Value.ref a := r1
  obtain rfl := k.eq r2
  obtain ⟨ob, fl, ha, hz, dt⟩ := exk_at I.hok ea
  have dk : ObjOk X.prog X.w H s.heap d (.xd fs) := I.hok d _ ed
  obtain ⟨mA, ns, rel⟩ := dk
  obtain ⟨od, ho, look⟩ := lookIn_ns ns
  have J : PySem.W.InstAt s.heap a ob C (some od) := ⟨ha, hz.1, by unfold PySem.W.notCls; rw [dt] <;> rfl, by rw [hz.2]; exact ho⟩
  exact PySem.W.kia_one (PySem.W.kitx_exc T.cl T.ga T.gg T.ex T.ca T.sp T.tk T.ob) I.kIn J yes (fun z => by cases z) fun tk => ⟨.bl b, H, I.tok tk, rfl, q⟩
end
end BL

namespace BL
open PySem PySem.Spec PyProof.Rows L2
/-! values as trees; what stands for them in the heap -/
inductive PV where
  | non | bl (b : Bool) | int (i : Int) | str (x : Str) | lst (xs : List PV) | tup (xs : List PV)
  | way (s f c : Option Int) | mref (n : Nat) | dic (kvs : List (PV × PV))
/-- F: what never changes any more; H: the heap; θ: where the changing things stand -/
structure Wd where
  F : Hp
  H : Hp
  θ : List Addr
/-- the class of errors of this name -/
def ErrN (K : PySem.W.Frag) (x : Str) (Ce : Addr) : Prop := PySem.W.nsIn K mainGlobals x = some (some (.ref Ce))
/-- an error that was caught: its class and its fields -/
def excK (x : Str) (fs : List Str) (ys : List PV) : List (PV × PV) := (.str x, .non) :: fs.zipWith (fun f y => (.str f, y)) ys
mutual
inductive Rep (K : PySem.W.Frag) (C : Addr) (F : Hp) (θ : List Addr) : V → PV → Prop
  | non : Rep K C F θ .non .non
  | bl (b : Bool) : Rep K C F θ (.bl b) (.bl b)
  | int (i : Int) : Rep K C F θ (.int i) (.int i)
  | str (x : Str) : Rep K C F θ (.str x) (.str x)
  | lst {a : Addr} {vs : List V} {xs : List PV} : F a = some (.lst vs) → RepAll K C F θ vs xs → Rep K C F θ (.ref a) (.lst xs)
  | tup {a : Addr} {vs : List V} {xs : List PV} : SqT K F a vs → RepAll K C F θ vs xs → Rep K C F θ (.ref a) (.tup xs)
  | way {a : Addr} {s f c : Option Int} : WayAt C F a s f c → Rep K C F θ (.ref a) (.way s f c)
  | mref {a : Addr} {n : Nat} : θ[n]? = some a → Rep K C F θ (.ref a) (.mref n)
  | exc {a d Ce : Addr} {x : Str} {fs : List Str} {us : List V} {ys : List PV} {kvs : List (PV × PV)} : kvs = excK x fs ys → ErrN K x Ce → F a = some (ExK Ce d a) → F d = some (.xd (fs.zip us).reverse) → us.length = fs.length → RepAll K C F θ us ys → Rep K C F θ (.ref a) (.dic kvs)
inductive RepAll (K : PySem.W.Frag) (C : Addr) (F : Hp) (θ : List Addr) : List V → List PV → Prop
  | nil : RepAll K C F θ [] []
  | cons {v : V} {vs : List V} {x : PV} {xs : List PV} : Rep K C F θ v x → RepAll K C F θ vs xs → RepAll K C F θ (v :: vs) (x :: xs)
end
section
variable {K : PySem.W.Frag} {C : Addr}
mutual
theorem Rep.mono {F F' : Hp} {θ r : List Addr} (s : Same F F') : ∀ {v : V} {x : PV}, Rep K C F θ v x → Rep K C F' (θ ++ r) v x
  | _, _, .non => .non
  | _, _, .bl b => .bl b
  | _, _, .int i => .int i
  | _, _, .str x => .str x
  | _, _, .lst h a => .lst (s _ _ h) (RepAll.mono s a)
  | _, _, .tup h a => .tup (s.seT h) (RepAll.mono s a)
  | _, _, .way h => .way (h.same s)
  | _, _, .mref h => .mref (by
      rw [List.getElem?_append_left (List.getElem?_eq_some_iff.mp h).1]
      exact h)
  | _, _, .exc e n h1 h2 l a => .exc e n (s _ _ h1) (s _ _ h2) l (RepAll.mono s a)
theorem RepAll.mono {F F' : Hp} {θ r : List Addr} (s : Same F F') : ∀ {vs : List V} {xs : List PV}, RepAll K C F θ vs xs → RepAll K C F' (θ ++ r) vs xs
  | _, _, .nil => .nil
  | _, _, .cons h a => .cons (Rep.mono s h) (RepAll.mono s a)
end
theorem RepAll.len {F : Hp} {θ : List Addr} : ∀ {vs : List V} {xs : List PV}, RepAll K C F θ vs xs → vs.length = xs.length
  | _, _, .nil => rfl
  | _, _, .cons _ a => congrArg Nat.succ (RepAll.len a)
theorem RepAll.app {F : Hp} {θ : List Addr} : ∀ {vs us : List V} {xs ys : List PV}, RepAll K C F θ vs xs → RepAll K C F θ us ys → RepAll K C F θ (vs ++ us) (xs ++ ys)
  | _, _, _, _, .nil, b => b
  | _, _, _, _, .cons h a, b => .cons h (RepAll.app a b)
theorem RepAll.at {F : Hp} {θ : List Addr} : ∀ {vs : List V} {xs : List PV} {i : Nat} {x : PV}, RepAll K C F θ vs xs → xs[i]? = some x → ∃ v, vs[i]? = some v ∧ Rep K C F θ v x
  | _, _, 0, _, .cons h _, e => ⟨_, rfl, by cases Option.some.inj e; exact h⟩
  | _, _, i + 1, _, .cons _ a, e => RepAll.at (i := i) a e
theorem RepAll.atV {F : Hp} {θ : List Addr} : ∀ {vs : List V} {xs : List PV} {i : Nat} {v : V}, RepAll K C F θ vs xs → vs[i]? = some v → ∃ x, xs[i]? = some x ∧ Rep K C F θ v x
  | _, _, 0, _, .cons h _, e => ⟨_, rfl, by cases Option.some.inj e; exact h⟩
  | _, _, i + 1, _, .cons _ a, e => RepAll.atV (i := i) a e
theorem RepAll.drop {F : Hp} {θ : List Addr} : ∀ (n : Nat) {vs : List V} {xs : List PV}, RepAll K C F θ vs xs → RepAll K C F θ (vs.drop n) (xs.drop n)
  | 0, _, _, a => a
  | n + 1, _, _, .nil => .nil
  | n + 1, _, _, .cons _ a => RepAll.drop n a
theorem RepAll.take {F : Hp} {θ : List Addr} : ∀ (n : Nat) {vs : List V} {xs : List PV}, RepAll K C F θ vs xs → RepAll K C F θ (vs.take n) (xs.take n)
  | 0, _, _, a => .nil
  | n + 1, _, _, .nil => .nil
  | n + 1, _, _, .cons h a => .cons h (RepAll.take n a)
theorem RepAll.rev {F : Hp} {θ : List Addr} : ∀ {vs : List V} {xs : List PV}, RepAll K C F θ vs xs → RepAll K C F θ vs.reverse xs.reverse
  | _, _, .nil => .nil
  | _, _, .cons h a => by
    rw [List.reverse_cons, List.reverse_cons]
    exact (RepAll.rev a).app (.cons h .nil)
theorem RepAll.set {F : Hp} {θ : List Addr} : ∀ {vs : List V} {xs : List PV} (i : Nat) {v : V} {x : PV}, RepAll K C F θ vs xs → Rep K C F θ v x → RepAll K C F θ (vs.set i v) (xs.set i x)
  | _, _, _, _, _, .nil, _ => .nil
  | _, _, 0, _, _, .cons _ a, r => .cons r a
  | _, _, i + 1, _, _, .cons h a, r => .cons h (RepAll.set i a r)
end
/-- what a changing thing at a holds -/
def Mut (K : PySem.W.Frag) (C : Addr) (W : Wd) (a : Addr) : PV → Prop
  | .lst xs => ∃ vs, W.H a = some (.lst vs) ∧ RepAll K C W.F W.θ vs xs
  | _ => False
structure Inv1 (K : PySem.W.Frag) (C : Addr) (W : Wd) (S : List PV) : Prop where
  s : Same W.F W.H
  len : W.θ.length = S.length
  nd : W.θ.Nodup
  m : ∀ (n : Nat) (a : Addr) (x : PV), W.θ[n]? = some a → S[n]? = some x → W.F a = none ∧ Mut K C W a x
structure Gro (W W' : Wd) : Prop where
  f : Same W.F W'.F
  t : ∃ r, W'.θ = W.θ ++ r ∧ ∀ p ∈ r, W.H p = none
  h : ∀ p o, W.H p = some o → p ∉ W.θ → W'.H p = some o
  k : ∀ p o, W.H p = some o → ∃ o', W'.H p = some o'
  n : ∀ p o, W.H p = some o → W.F p = none → W'.F p = none
theorem Gro.refl (W : Wd) : Gro W W := ⟨Same.refl _, ⟨[], (List.append_nil _).symm, fun _ h => by cases h⟩, fun _ _ h _ => h, fun _ o h => ⟨o, h⟩, fun _ _ _ h => h⟩
theorem Gro.trans {W W1 W2 : Wd} (a : Gro W W1) (b : Gro W1 W2) : Gro W W2 := by
  obtain ⟨r, er, fr⟩ := a.t
  obtain ⟨q, eq, fq⟩ := b.t
  refine ⟨a.f.trans b.f, ⟨r ++ q, by rw [eq, er, List.append_assoc], fun p hp => ?_⟩, fun p o e ni => ?_, fun p o e => ?_, fun p o e z => ?_⟩
  · rcases List.mem_append.mp hp with hp | hp
    · exact fr p hp
    · cases e : W.H p with
      | none => rfl
      | some o =>
        obtain ⟨o', e'⟩ := a.k p o e
        rw [fq p hp] at e'
        cases e'
  · refine b.h p o (a.h p o e ni) fun m => ?_
    rw [er] at m
    rcases List.mem_append.mp m with m | m
    · exact ni m
    · rw [fr p m] at e
      cases e
  · obtain ⟨o', e'⟩ := a.k p o e
    exact b.k p o' e'
  · obtain ⟨o', e'⟩ := a.k p o e
    exact b.n p o' e' (a.n p o e z)
section
variable {K : PySem.W.Frag} {C : Addr}
abbrev RepW (K : PySem.W.Frag) (C : Addr) (W : Wd) (v : V) (x : PV) : Prop := Rep K C W.F W.θ v x
theorem Rep.ext {W W' : Wd} {v : V} {x : PV} (r : Rep K C W.F W.θ v x) (e : Gro W W') : Rep K C W'.F W'.θ v x := by
  obtain ⟨q, eq, _⟩ := e.t
  rw [eq]
  exact r.mono e.f
theorem RepAll.ext {W W' : Wd} {vs : List V} {xs : List PV} (r : RepAll K C W.F W.θ vs xs) (e : Gro W W') : RepAll K C W'.F W'.θ vs xs := by
  obtain ⟨q, eq, _⟩ := e.t
  rw [eq]
  exact r.mono e.f
theorem Mut.laid {W : Wd} {a : Addr} {x : PV} (m : Mut K C W a x) : ∃ o, W.H a = some o := by
  cases x with
  | lst xs => obtain ⟨vs, e, _⟩ := m; exact ⟨_, e⟩
  | _ => exact m.elim
theorem Mut.ext {W W' : Wd} {a : Addr} {x : PV} (m : Mut K C W a x) (e : Gro W W') (n : a ∉ W.θ) : Mut K C W' a x := by
  cases x with
  | lst xs => obtain ⟨vs, h, r⟩ := m; exact ⟨vs, e.h _ _ h n, r.ext e⟩
  | _ => exact m.elim
inductive SlV where
  | un | val (x : PV) | own (x : PV)
def OwnAt (K : PySem.W.Frag) (C : Addr) (W0 W : Wd) (a : Addr) (x : PV) : Prop := W0.H a = none ∧ W.F a = none ∧ a ∉ W.θ ∧ Mut K C W a x
def SlotOk (K : PySem.W.Frag) (C : Addr) (W0 W : Wd) (v : Option (Option V)) : SlV → Prop
  | .un => True
  | .val x => ∃ u, v = some (some u) ∧ RepW K C W u x
  | .own x => ∃ a, v = some (some (.ref a)) ∧ OwnAt K C W0 W a x
structure Rel (K : PySem.W.Frag) (C : Addr) (W0 W : Wd) (σ : L2.St) (ρ : List SlV) (S : List PV) : Prop where
  e : Gro W0 W
  i : Inv1 K C W S
  l : σ.length = ρ.length
  s : ∀ (j : Nat) (sl : SlV), ρ[j]? = some sl → SlotOk K C W0 W σ[j]? sl
  d : ∀ (j k : Nat) (x y : PV) (a : Addr), ρ[j]? = some (.own x) → ρ[k]? = some (.own y) → σ[j]? = some (some (.ref a)) → σ[k]? = some (some (.ref a)) → j = k
theorem OwnAt.ext {W0 W W' : Wd} {a : Addr} {x : PV} (m : OwnAt K C W0 W a x) (e : Gro W W') : OwnAt K C W0 W' a x := by
  obtain ⟨h1, h2, h3, h4⟩ := m
  obtain ⟨o, ho⟩ := h4.laid
  refine ⟨h1, e.n _ _ ho h2, ?_, h4.ext e h3⟩
  obtain ⟨r, er, fr⟩ := e.t
  rw [er]
  intro z
  rcases List.mem_append.mp z with z | z
  · exact h3 z
  · rw [fr _ z] at ho
    cases ho
theorem SlotOk.ext {W0 W W' : Wd} {v : Option (Option V)} {sl : SlV} (m : SlotOk K C W0 W v sl) (e : Gro W W') : SlotOk K C W0 W' v sl := by
  cases sl with
  | un => trivial
  | val x => obtain ⟨u, h, r⟩ := m; exact ⟨u, h, r.ext e⟩
  | own x => obtain ⟨a, h, r⟩ := m; exact ⟨a, h, r.ext e⟩
theorem Rel.ext {W0 W W' : Wd} {σ : L2.St} {ρ : List SlV} {S S' : List PV} (r : Rel K C W0 W σ ρ S) (e : Gro W W') (i : Inv1 K C W' S') : Rel K C W0 W' σ ρ S' :=
  ⟨r.e.trans e, i, r.l, fun j sl h => (r.s j sl h).ext e, r.d⟩
end
/-! ### what an expression, a test, arguments, a statement do, by trees -/
abbrev ME := List SlV → List PV → Option (PV × List PV)
abbrev MT := List SlV → List PV → Option (Bool × List PV)
abbrev MA := List SlV → List PV → Option (List PV × List PV)
inductive Ou where
  | nx (ρ : List SlV) (S : List PV) | rt (x : PV) (S : List PV) | bk (ρ : List SlV) (S : List PV) | ct (ρ : List SlV) (S : List PV)
abbrev MS := List SlV → List PV → Option Ou
section
variable (K : PySem.W.Frag) (C : Addr)
def tM (m : ME) : TE := fun σ H Q => ∃ W0 W ρ S x S', H = W.H ∧ Rel K C W0 W σ ρ S ∧ m ρ S = some (x, S') ∧ ∀ v W', Rel K C W0 W' σ ρ S' → Gro W W' → RepW K C W' v x → Q v W'.H
def tMT (m : MT) : TT := fun σ H Q => ∃ W0 W ρ S x S', H = W.H ∧ Rel K C W0 W σ ρ S ∧ m ρ S = some (x, S') ∧ ∀ W', Rel K C W0 W' σ ρ S' → Gro W W' → Q x W'.H
def tMA (m : MA) : TA := fun σ H Q => ∃ W0 W ρ S xs S', H = W.H ∧ Rel K C W0 W σ ρ S ∧ m ρ S = some (xs, S') ∧ ∀ vs W', Rel K C W0 W' σ ρ S' → Gro W W' → RepAll K C W'.F W'.θ vs xs → Q vs W'.H
/-- what is never lost from statement to statement -/
structure GroF (W W' : Wd) : Prop where
  f : Same W.F W'.F
  t : ∃ r, W'.θ = W.θ ++ r
theorem GroF.refl (W : Wd) : GroF W W := ⟨Same.refl _, [], (List.append_nil _).symm⟩
theorem GroF.trans {W W1 W2 : Wd} (a : GroF W W1) (b : GroF W1 W2) : GroF W W2 := by
  obtain ⟨r, er⟩ := a.t
  obtain ⟨q, eq⟩ := b.t
  exact ⟨a.f.trans b.f, r ++ q, by rw [eq, er, List.append_assoc]⟩
theorem Gro.groF {W W' : Wd} (e : Gro W W') : GroF W W' := by
  obtain ⟨r, er, _⟩ := e.t
  exact ⟨e.f, r, er⟩
def Pst (W0 W : Wd) (D : Ends) : Ou → Prop
  | .nx ρ S => ∀ σ W', GroF W W' → Rel K C W0 W' σ ρ S → D.nx σ W'.H
  | .rt x S => ∀ v W', Gro W0 W' → Inv1 K C W' S → RepW K C W' v x → D.rt v W'.H
  | .bk ρ S => ∀ σ W', GroF W W' → Rel K C W0 W' σ ρ S → D.bk σ W'.H
  | .ct ρ S => ∀ σ W', GroF W W' → Rel K C W0 W' σ ρ S → D.ct σ W'.H
def tMS (m : MS) : TS := fun D σ H => ∃ W0 W ρ S out, H = W.H ∧ Rel K C W0 W σ ρ S ∧ m ρ S = some out ∧ Pst K C W0 W D out
/-- a def's promise by its mirror -/
def spM (m : List PV → List PV → Option (PV × List PV)) : Sp := fun vs H Q _ => ∃ W S xs x S', H = W.H ∧ Inv1 K C W S ∧ RepAll K C W.F W.θ vs xs ∧ m xs S = some (x, S') ∧ ∀ v W', Gro W W' → Inv1 K C W' S' → RepW K C W' v x → Q v W'.H
end
theorem GroF.rep {K : PySem.W.Frag} {C : Addr} {W W' : Wd} {v : V} {x : PV} (e : GroF W W') (r : Rep K C W.F W.θ v x) : Rep K C W'.F W'.θ v x := by
  obtain ⟨q, eq⟩ := e.t
  rw [eq]
  exact r.mono e.f
theorem PT.weak {X : Cx} {e : Expr} {t t' : TT} (h : PT X e t) (i : ∀ σ H Q, t' σ H Q → t σ H Q) : PT X e t' := ⟨fun pins s σ H Q I q => h.run pins s σ H Q I (i σ H Q q)⟩
theorem PW.weak {X : Cx} {e : Expr} {t t' : TT} (h : PW X e t) (i : ∀ σ H Q, t' σ H Q → t σ H Q) : PW X e t' := ⟨fun wh pins s σ H Q I q => h.run wh pins s σ H Q I (i σ H Q q)⟩
theorem PA.weak {X : Cx} {e : List Expr} {t t' : TA} (h : PA X e t) (i : ∀ σ H Q, t' σ H Q → t σ H Q) : PA X e t' := ⟨fun pos pins s σ H Q I q => h.run pos pins s σ H Q I (i σ H Q q)⟩
theorem PS.weak {X : Cx} {e : Stmt} {t t' : TS} (h : PS X e t) (i : ∀ D σ H, t' D σ H → t D σ H) : PS X e t' := ⟨fun pins s σ H D I q => h.run pins s σ H D I (i D σ H q)⟩
theorem PSs.weak {X : Cx} {e : List Stmt} {t t' : TS} (h : PSs X e t) (i : ∀ D σ H, t' D σ H → t D σ H) : PSs X e t' := ⟨fun pins s σ H D I q => h.run pins s σ H D I (i D σ H q)⟩
end BL

namespace BL
open PySem PySem.Spec PyProof.Rows L2
/-! expressions by trees -/
theorem OpR.or {X : Cx} {f : Value → Value → Sem Value} {r r' : R2} (h : OpR X f r) (h' : OpR X f r') : OpR X f (fun x y H Q => r x y H Q ∨ r' x y H Q) := by
  intro pins s σ H x y v u Q I rx ry q
  rcases q with q | q
  · exact h pins s σ H x y v u Q I rx ry q
  · exact h' pins s σ H x y v u Q I rx ry q
theorem CallR.or {X : Cx} {f : Value} {r r' : List V → Hp → VK → Prop} (h : CallR X f r) (h' : CallR X f r') : CallR X f (fun xs H Q => r xs H Q ∨ r' xs H Q) := by
  intro pins s σ H xs us Q I rx q
  rcases q with q | q
  · exact h pins s σ H xs us Q I rx q
  · exact h' pins s σ H xs us Q I rx q
theorem PI.or {X : Cx} {tg e : Expr} {w w' : TI} (h : PI X tg e w) (h' : PI X tg e w') : PI X tg e (fun σ H R => w σ H R ∨ w' σ H R) := by
  refine ⟨fun pins s σ H R I q => ?_⟩
  rcases q with q | q
  · exact h.run pins s σ H R I q
  · exact h'.run pins s σ H R I q
theorem laid {K : PySem.W.Frag} {C : Addr} {W : Wd} {S : List PV} {p : Addr} (o : HO) (i : Inv1 K C W S) (n : W.H p = none) : Gro W ⟨upd W.F p o, upd W.H p o, W.θ⟩ ∧ Inv1 K C ⟨upd W.F p o, upd W.H p o, W.θ⟩ S := by
  have fn : W.F p = none := i.s.free n
  have g : Gro W ⟨upd W.F p o, upd W.H p o, W.θ⟩ := by
    refine ⟨same_upd fn, ⟨[], (List.append_nil _).symm, fun _ h => by cases h⟩, fun q o' e _ => ?_, fun q o' e => ?_, fun q o' e z => ?_⟩
    · show upd W.H p o q = _
      rw [upd_ne (ne_of_none e n)]
      exact e
    · exact ⟨o', by show upd W.H p o q = _; rw [upd_ne (ne_of_none e n)]; exact e⟩
    · show upd W.F p o q = _
      rw [upd_ne (ne_of_none e n)]
      exact z
  refine ⟨g, ⟨fun q o' e => ?_, i.len, i.nd, fun k a x h1 h2 => ?_⟩⟩
  · change upd W.F p o q = some o' at e
    show upd W.H p o q = some o'
    by_cases c : q = p
    · subst c
      rw [upd_same] at e ⊢
      exact e
    · rw [upd_ne c] at e ⊢
      exact i.s _ _ e
  · obtain ⟨z, m⟩ := i.m k a x h1 h2
    obtain ⟨o', ho⟩ := m.laid
    refine ⟨g.n _ _ ho z, ?_⟩
    cases x with
    | lst xs =>
      obtain ⟨vs, e, r⟩ := m
      refine ⟨vs, ?_, r.ext g⟩
      show upd W.H p o a = _
      rw [upd_ne (ne_of_none e n)]
      exact e
    | _ => exact m.elim
section
variable {X : Cx} {C : Addr} {e a b : Expr} {es : List Expr} {pos : Pos} {m ma mb : ME} {mt : MT} {mes : MA}
/-- reading a name -/
def mVar (i : Nat) : ME := fun ρ S => match ρ[i]? with
  | some (.val x) => some (x, S)
  | _ => none
theorem xv {i : Nat} (h : PE X e (tVar i)) : PE X e (tM X.K C (mVar i)) := PE.weak h fun σ H Q ⟨W0, W, ρ, S, x, S', eH, R, em, q⟩ => by
  subst eH
  unfold mVar at em
  split at em
  · rename_i y hy
    cases em
    obtain ⟨u, eu, ru⟩ := R.s i _ hy
    exact ⟨u, eu, q u W R (Gro.refl _) ru⟩
  · cases em
def mC (x : PV) : ME := fun _ S => some (x, S)
def cst : V → PV
  | .non => .non
  | .bl b => .bl b
  | .int i => .int i
  | .str x => .str x
  | _ => .non
def isCst : V → Bool
  | .non => true
  | .bl b => true
  | .int i => true
  | .str x => true
  | _ => false
theorem xc {v : V} (h : PE X e (tC v)) (c : isCst v = true := by rfl) : PE X e (tM X.K C (mC (cst v))) := PE.weak h fun σ H Q ⟨W0, W, ρ, S, x, S', eH, R, em, q⟩ => by
  subst eH
  cases em
  refine q v W R (Gro.refl _) ?_
  cases v with
  | non => exact .non
  | bl b => exact .bl b
  | int i => exact .int i
  | str x => exact .str x
  | _ => cases c
/-- two values in, one out -/
def LR2 (K : PySem.W.Frag) (C : Addr) (r : R2) (f : List PV → PV → PV → Option PV) : Prop := ∀ (W : Wd) (S : List PV) (v u : V) (x y z : PV) (Q : VK), Inv1 K C W S → RepW K C W v x → RepW K C W u y → f S x y = some z →
  (∀ w W', Gro W W' → Inv1 K C W' S → RepW K C W' w z → Q w W'.H) → r v u W.H Q
def mOp (f : List PV → PV → PV → Option PV) (ma mb : ME) : ME := fun ρ S => match ma ρ S with
  | some (x, S1) => match mb ρ S1 with
    | some (y, S2) => match f S2 x y with
      | some z => some (z, S2)
      | none => none
    | none => none
  | none => none
theorem mOp_inv {f : List PV → PV → PV → Option PV} {ρ : List SlV} {S S' : List PV} {z : PV} (h : mOp f ma mb ρ S = some (z, S')) : ∃ x S1 y, ma ρ S = some (x, S1) ∧ mb ρ S1 = some (y, S') ∧ f S' x y = some z := by
  unfold mOp at h
  split at h
  · rename_i x S1 e1
    split at h
    · rename_i y S2 e2
      split at h
      · rename_i w e3
        cases h
        exact ⟨x, S1, y, e1, e2, e3⟩
      · cases h
    · cases h
  · cases h
theorem xop {r : R2} {f : List PV → PV → PV → Option PV} (l : LR2 X.K C r f) (h : PE X e (tOp r (tM X.K C ma) (tM X.K C mb))) : PE X e (tM X.K C (mOp f ma mb)) := PE.weak h fun σ H Q ⟨W0, W, ρ, S, z, S', eH, R, em, q⟩ => by
  subst eH
  obtain ⟨x, S1, y, e1, e2, e3⟩ := mOp_inv em
  exact ⟨W0, W, ρ, S, x, S1, rfl, R, e1, fun v W1 R1 g1 r1 => ⟨W0, W1, ρ, S1, y, S', rfl, R1, e2, fun u W2 R2 g2 r2 => l W2 S' v u x y z Q R2.i (r1.ext g2) r2 e3 fun w W3 g3 i3 r3 => q w W3 (R2.ext g3 i3) ((g1.trans g2).trans g3) r3⟩⟩
theorem LR2.or {r r' : R2} {f : List PV → PV → PV → Option PV} {K : PySem.W.Frag} (h : ∀ (W : Wd) (S : List PV) (v u : V) (x y z : PV) (Q : VK), Inv1 K C W S → RepW K C W v x → RepW K C W u y → f S x y = some z →
  (∀ w W', Gro W W' → Inv1 K C W' S → RepW K C W' w z → Q w W'.H) → r v u W.H Q ∨ r' v u W.H Q) : LR2 K C (fun x y H Q => r x y H Q ∨ r' x y H Q) f := h
/-- one value in, one out -/
def LR1 (K : PySem.W.Frag) (C : Addr) (r : V → Hp → VK → Prop) (f : List PV → PV → Option PV) : Prop := ∀ (W : Wd) (S : List PV) (v : V) (x z : PV) (Q : VK), Inv1 K C W S → RepW K C W v x → f S x = some z →
  (∀ w W', Gro W W' → Inv1 K C W' S → RepW K C W' w z → Q w W'.H) → r v W.H Q
def mUn (f : List PV → PV → Option PV) (ma : ME) : ME := fun ρ S => match ma ρ S with
  | some (x, S1) => match f S1 x with
    | some z => some (z, S1)
    | none => none
  | none => none
theorem mUn_inv {f : List PV → PV → Option PV} {ρ : List SlV} {S S' : List PV} {z : PV} (h : mUn f ma ρ S = some (z, S')) : ∃ x, ma ρ S = some (x, S') ∧ f S' x = some z := by
  unfold mUn at h
  split at h
  · rename_i x S1 e1
    split at h
    · rename_i w e3
      cases h
      exact ⟨x, e1, e3⟩
    · cases h
  · cases h
theorem xun {r : V → Hp → VK → Prop} {f : List PV → PV → Option PV} (l : LR1 X.K C r f) (h : PE X e (tUn r (tM X.K C ma))) : PE X e (tM X.K C (mUn f ma)) := PE.weak h fun σ H Q ⟨W0, W, ρ, S, z, S', eH, R, em, q⟩ => by
  subst eH
  obtain ⟨x, e1, e3⟩ := mUn_inv em
  exact ⟨W0, W, ρ, S, x, S', rfl, R, e1, fun v W1 R1 g1 r1 => l W1 S' v x z Q R1.i r1 e3 fun w W3 g3 i3 r3 => q w W3 (R1.ext g3 i3) (g1.trans g3) r3⟩
/-! the arguments -/
def mNil : MA := fun _ S => some ([], S)
def mCons (ma : ME) (mr : MA) : MA := fun ρ S => match ma ρ S with
  | some (x, S1) => match mr ρ S1 with
    | some (xs, S2) => some (x :: xs, S2)
    | none => none
  | none => none
theorem mCons_inv {mr : MA} {ρ : List SlV} {S S' : List PV} {z : List PV} (h : mCons ma mr ρ S = some (z, S')) : ∃ x S1 xs, ma ρ S = some (x, S1) ∧ mr ρ S1 = some (xs, S') ∧ z = x :: xs := by
  unfold mCons at h
  split at h
  · rename_i x S1 e1
    split at h
    · rename_i y S2 e2
      cases h
      exact ⟨x, S1, y, e1, e2, rfl⟩
    · cases h
  · cases h
theorem xnil : PA X [] (tMA X.K C mNil) := PA.weak pa_nil fun σ H Q ⟨W0, W, ρ, S, z, S', eH, R, em, q⟩ => by
  subst eH
  cases em
  exact q [] W R (Gro.refl _) .nil
theorem xcons (ha : PE X e (tM X.K C ma)) (hr : PA X es (tMA X.K C mes)) (hs : starEach (e :: es) X.env = (false, eval e X.env) :: starEach es X.env := by rfl) : PA X (e :: es) (tMA X.K C (mCons ma mes)) := PA.weak (pa_cons ha hr hs) fun σ H Q ⟨W0, W, ρ, S, z, S', eH, R, em, q⟩ => by
  subst eH
  obtain ⟨x, S1, xs, e1, e2, rfl⟩ := mCons_inv em
  exact ⟨W0, W, ρ, S, x, S1, rfl, R, e1, fun v W1 R1 g1 r1 => ⟨W0, W1, ρ, S1, xs, S', rfl, R1, e2, fun us W2 R2 g2 r2 => q _ _ R2 (g1.trans g2) (.cons (r1.ext g2) r2)⟩⟩
/-- values in, one out -/
def LRn (K : PySem.W.Frag) (C : Addr) (r : List V → Hp → VK → Prop) (f : List PV → List PV → Option PV) : Prop := ∀ (W : Wd) (S : List PV) (vs : List V) (xs : List PV) (z : PV) (Q : VK), Inv1 K C W S → RepAll K C W.F W.θ vs xs → f S xs = some z →
  (∀ w W', Gro W W' → Inv1 K C W' S → RepW K C W' w z → Q w W'.H) → r vs W.H Q
def mFn (f : List PV → List PV → Option PV) (ma : MA) : ME := fun ρ S => match ma ρ S with
  | some (xs, S1) => match f S1 xs with
    | some z => some (z, S1)
    | none => none
  | none => none
theorem mFn_inv {f : List PV → List PV → Option PV} {ρ : List SlV} {S S' : List PV} {z : PV} (h : mFn f mes ρ S = some (z, S')) : ∃ xs, mes ρ S = some (xs, S') ∧ f S' xs = some z := by
  unfold mFn at h
  split at h
  · rename_i x S1 e1
    split at h
    · rename_i w e3
      cases h
      exact ⟨x, e1, e3⟩
    · cases h
  · cases h
theorem xfn {r : List V → Hp → VK → Prop} {f : List PV → List PV → Option PV} (l : LRn X.K C r f) (h : PE X e (tCB r (tMA X.K C mes))) : PE X e (tM X.K C (mFn f mes)) := PE.weak h fun σ H Q ⟨W0, W, ρ, S, z, S', eH, R, em, q⟩ => by
  subst eH
  obtain ⟨x, e1, e3⟩ := mFn_inv em
  exact ⟨W0, W, ρ, S, x, S', rfl, R, e1, fun v W1 R1 g1 r1 => l W1 S' v x z Q R1.i r1 e3 fun w W3 g3 i3 r3 => q w W3 (R1.ext g3 i3) (g1.trans g3) r3⟩
/-- tuples, lists -/
def mTup (ma : MA) : ME := fun ρ S => match ma ρ S with
  | some (xs, S1) => if xs.length ≤ 100000 then some (.tup xs, S1) else none
  | none => none
def mLst (ma : MA) : ME := fun ρ S => match ma ρ S with
  | some (xs, S1) => if xs.length ≤ 100000 then some (.lst xs, S1) else none
  | none => none
theorem lim : 100000 ≤ sizeLine := by decide
theorem xtup {x1} (h : PA X es (tMA X.K C mes)) : PE X (.Tuple es x1 pos) (tM X.K C (mTup mes)) := PE.weak (pe_tup h) fun σ H Q ⟨W0, W, ρ, S, z, S', eH, R, em, q⟩ => by
  subst eH
  unfold mTup at em
  split at em
  · rename_i xs S1 e1
    split at em
    · rename_i hl
      cases em
      refine ⟨W0, W, ρ, S, xs, S', rfl, R, e1, fun vs W1 R1 g1 r1 => ⟨by rw [r1.len]; exact Nat.le_trans hl lim, fun p np => ?_⟩⟩
      obtain ⟨g2, i2⟩ := laid (.tup vs) R1.i np
      exact q _ _ (R1.ext g2 i2) (g1.trans g2) (.tup (SqT.of upd_same) (r1.ext g2))
    · cases em
  · cases em
theorem xlst (h : PA X es (tMA X.K C mes)) : PE X (.List es pos) (tM X.K C (mLst mes)) := PE.weak (pe_lst h) fun σ H Q ⟨W0, W, ρ, S, z, S', eH, R, em, q⟩ => by
  subst eH
  unfold mLst at em
  split at em
  · rename_i xs S1 e1
    split at em
    · rename_i hl
      cases em
      refine ⟨W0, W, ρ, S, xs, S', rfl, R, e1, fun vs W1 R1 g1 r1 => ⟨by rw [r1.len]; exact Nat.le_trans hl lim, fun p np => ?_⟩⟩
      obtain ⟨g2, i2⟩ := laid (.lst vs) R1.i np
      exact q _ _ (R1.ext g2 i2) (g1.trans g2) (.lst upd_same (r1.ext g2))
    · cases em
  · cases em
/-- a call of a def by its mirror -/
def mCall (f : List PV → List PV → Option (PV × List PV)) (ma : MA) : ME := fun ρ S => match ma ρ S with
  | some (xs, S1) => f xs S1
  | none => none
theorem xcall {f : List PV → List PV → Option (PV × List PV)} {E : XK} (h : PE X e (tCall (spM X.K C f) [] E (tMA X.K C mes))) : PE X e (tM X.K C (mCall f mes)) := PE.weak h fun σ H Q ⟨W0, W, ρ, S, z, S', eH, R, em, q⟩ => by
  subst eH
  unfold mCall at em
  split at em
  · rename_i xs S1 e1
    exact ⟨W0, W, ρ, S, xs, S1, rfl, R, e1, fun vs W1 R1 g1 r1 => ⟨W1, S1, xs, z, S', rfl, R1.i, by rw [List.append_nil]; exact r1, em, fun v W2 g2 i2 r2 => q v W2 (R1.ext g2 i2) (g1.trans g2) r2⟩⟩
  · cases em
/-- tests -/
def mTru (ma : ME) : MT := fun ρ S => match ma ρ S with
  | some (.bl b, S1) => some (b, S1)
  | _ => none
theorem mTru_inv {ρ : List SlV} {S S' : List PV} {b : Bool} (h : mTru ma ρ S = some (b, S')) : ma ρ S = some (.bl b, S') := by
  unfold mTru at h
  split at h
  · cases h
    assumption
  · cases h
theorem xtB (h : PT X e (tB (tM X.K C ma))) : PT X e (tMT X.K C (mTru ma)) := PT.weak h fun σ H Q ⟨W0, W, ρ, S, z, S', eH, R, em, q⟩ => by
  subst eH
  exact ⟨W0, W, ρ, S, .bl z, S', rfl, R, mTru_inv em, fun v W1 R1 g1 r1 => by cases r1; exact ⟨z, rfl, q W1 R1 g1⟩⟩
theorem xtC {r : R2} {f : List PV → PV → PV → Option PV} (l : LR2 X.K C r f) (h : PT X e (tTest (tOp r (tM X.K C ma) (tM X.K C mb)))) : PT X e (tMT X.K C (mTru (mOp f ma mb))) := PT.weak h fun σ H Q ⟨W0, W, ρ, S, z, S', eH, R, em, q⟩ => by
  subst eH
  obtain ⟨x, S1, y, e1, e2, e3⟩ := mOp_inv (mTru_inv em)
  exact ⟨W0, W, ρ, S, x, S1, rfl, R, e1, fun v W1 R1 g1 r1 => ⟨W0, W1, ρ, S1, y, S', rfl, R1, e2, fun u W2 R2 g2 r2 => l W2 S' v u x y (.bl z) _ R2.i (r1.ext g2) r2 e3 fun w W3 g3 i3 r3 => by cases r3; exact ⟨z, rfl, q W3 (R2.ext g3 i3) ((g1.trans g2).trans g3)⟩⟩⟩
def mNotT (mt : MT) : MT := fun ρ S => match mt ρ S with
  | some (b, S1) => some (!b, S1)
  | none => none
theorem xnotT (h : PT X a (tMT X.K C mt)) : PT X (.UnaryOp .Not a pos) (tMT X.K C (mNotT mt)) := PT.weak (pt_not h) fun σ H Q ⟨W0, W, ρ, S, z, S', eH, R, em, q⟩ => by
  subst eH
  unfold mNotT at em
  split at em
  · rename_i b' S1 e1
    cases em
    exact ⟨W0, W, ρ, S, b', S', rfl, R, e1, fun W1 R1 g1 => q W1 R1 g1⟩
  · cases em
def mAndT (mt mu : MT) : MT := fun ρ S => match mt ρ S with
  | some (true, S1) => mu ρ S1
  | some (false, S1) => some (false, S1)
  | none => none
def mOrT (mt mu : MT) : MT := fun ρ S => match mt ρ S with
  | some (true, S1) => some (true, S1)
  | some (false, S1) => mu ρ S1
  | none => none
variable {mu : MT} {rest : List Expr}
theorem xw1 (h : PW X e mt') : PW X e mt' := h
theorem xandW1 (h : PT X a (tMT X.K C mt)) : PW X (.BoolOp .And [a] pos) (tMT X.K C mt) := pw_and1 h
theorem xorW1 (h : PT X a (tMT X.K C mt)) : PW X (.BoolOp .Or [a] pos) (tMT X.K C mt) := pw_or1 h
theorem xandW (ha : PT X a (tMT X.K C mt)) (hb : PW X (.BoolOp .And (b :: rest) pos) (tMT X.K C mu)) : PW X (.BoolOp .And (a :: b :: rest) pos) (tMT X.K C (mAndT mt mu)) := PW.weak (pw_and ha hb) fun σ H Q ⟨W0, W, ρ, S, z, S', eH, R, em, q⟩ => by
  subst eH
  unfold mAndT at em
  split at em
  · rename_i S1 e1
    exact ⟨W0, W, ρ, S, true, S1, rfl, R, e1, fun W1 R1 g1 => by refine iteT ?_; exact ⟨W0, W1, ρ, S1, z, S', rfl, R1, em, fun W2 R2 g2 => q W2 R2 (g1.trans g2)⟩⟩
  · rename_i S1 e1
    cases em
    exact ⟨W0, W, ρ, S, false, S', rfl, R, e1, fun W1 R1 g1 => by refine iteF ?_; exact q W1 R1 g1⟩
  · cases em
theorem xorW (ha : PT X a (tMT X.K C mt)) (hb : PW X (.BoolOp .Or (b :: rest) pos) (tMT X.K C mu)) : PW X (.BoolOp .Or (a :: b :: rest) pos) (tMT X.K C (mOrT mt mu)) := PW.weak (pw_or ha hb) fun σ H Q ⟨W0, W, ρ, S, z, S', eH, R, em, q⟩ => by
  subst eH
  unfold mOrT at em
  split at em
  · rename_i S1 e1
    cases em
    exact ⟨W0, W, ρ, S, true, S', rfl, R, e1, fun W1 R1 g1 => by refine iteT ?_; exact q W1 R1 g1⟩
  · rename_i S1 e1
    exact ⟨W0, W, ρ, S, false, S1, rfl, R, e1, fun W1 R1 g1 => by refine iteF ?_; exact ⟨W0, W1, ρ, S1, z, S', rfl, R1, em, fun W2 R2 g2 => q W2 R2 (g1.trans g2)⟩⟩
  · cases em
/-- and, or of bools as values -/
def mAndV (ma mb : ME) : ME := fun ρ S => match ma ρ S with
  | some (.bl true, S1) => mb ρ S1
  | some (.bl false, S1) => some (.bl false, S1)
  | _ => none
def mOrV (ma mb : ME) : ME := fun ρ S => match ma ρ S with
  | some (.bl true, S1) => some (.bl true, S1)
  | some (.bl false, S1) => mb ρ S1
  | _ => none
theorem xand (ha : PE X a (tM X.K C ma)) (hb : PE X (.BoolOp .And (b :: rest) pos) (tM X.K C mb)) : PE X (.BoolOp .And (a :: b :: rest) pos) (tM X.K C (mAndV ma mb)) := PE.weak (pe_and ha hb) fun σ H Q ⟨W0, W, ρ, S, z, S', eH, R, em, q⟩ => by
  subst eH
  unfold mAndV at em
  split at em
  · rename_i S1 e1
    exact ⟨W0, W, ρ, S, _, S1, rfl, R, e1, fun v W1 R1 g1 r1 => by cases r1; exact ⟨true, rfl, by refine iteT ?_; exact ⟨W0, W1, ρ, S1, z, S', rfl, R1, em, fun v W2 R2 g2 r2 => q v W2 R2 (g1.trans g2) r2⟩⟩⟩
  · rename_i S1 e1
    cases em
    exact ⟨W0, W, ρ, S, _, S', rfl, R, e1, fun v W1 R1 g1 r1 => by cases r1; exact ⟨false, rfl, by refine iteF ?_; exact q _ W1 R1 g1 (.bl false)⟩⟩
  · cases em
theorem xor' (ha : PE X a (tM X.K C ma)) (hb : PE X (.BoolOp .Or (b :: rest) pos) (tM X.K C mb)) : PE X (.BoolOp .Or (a :: b :: rest) pos) (tM X.K C (mOrV ma mb)) := PE.weak (pe_or ha hb) fun σ H Q ⟨W0, W, ρ, S, z, S', eH, R, em, q⟩ => by
  subst eH
  unfold mOrV at em
  split at em
  · rename_i S1 e1
    cases em
    exact ⟨W0, W, ρ, S, _, S', rfl, R, e1, fun v W1 R1 g1 r1 => by cases r1; exact ⟨true, rfl, by refine iteT ?_; exact q _ W1 R1 g1 (.bl true)⟩⟩
  · rename_i S1 e1
    exact ⟨W0, W, ρ, S, _, S1, rfl, R, e1, fun v W1 R1 g1 r1 => by cases r1; exact ⟨false, rfl, by refine iteF ?_; exact ⟨W0, W1, ρ, S1, z, S', rfl, R1, em, fun v W2 R2 g2 r2 => q v W2 R2 (g1.trans g2) r2⟩⟩⟩
  · cases em
def mNotV (ma : ME) : ME := fun ρ S => match ma ρ S with
  | some (.bl b, S1) => some (.bl (!b), S1)
  | _ => none
theorem xnot (ha : PE X a (tM X.K C ma)) : PE X (.UnaryOp .Not a pos) (tM X.K C (mNotV ma)) := PE.weak (pe_not ha) fun σ H Q ⟨W0, W, ρ, S, z, S', eH, R, em, q⟩ => by
  subst eH
  unfold mNotV at em
  split at em
  · rename_i b' S1 e1
    cases em
    exact ⟨W0, W, ρ, S, _, S', rfl, R, e1, fun v W1 R1 g1 r1 => by cases r1; exact ⟨b', rfl, q _ W1 R1 g1 (.bl _)⟩⟩
  · cases em
def mIfE (mt : MT) (ma mb : ME) : ME := fun ρ S => match mt ρ S with
  | some (true, S1) => ma ρ S1
  | some (false, S1) => mb ρ S1
  | none => none
theorem xif {c : Expr} (hc : PT X c (tMT X.K C mt)) (ha : PE X a (tM X.K C ma)) (hb : PE X b (tM X.K C mb)) : PE X (.IfExp c a b pos) (tM X.K C (mIfE mt ma mb)) := PE.weak (pe_ifExp hc ha hb) fun σ H Q ⟨W0, W, ρ, S, z, S', eH, R, em, q⟩ => by
  subst eH
  unfold mIfE at em
  split at em
  · rename_i S1 e1
    exact ⟨W0, W, ρ, S, true, S1, rfl, R, e1, fun W1 R1 g1 => by refine iteT ?_; exact ⟨W0, W1, ρ, S1, z, S', rfl, R1, em, fun v W2 R2 g2 r2 => q v W2 R2 (g1.trans g2) r2⟩⟩
  · rename_i S1 e1
    exact ⟨W0, W, ρ, S, false, S1, rfl, R, e1, fun W1 R1 g1 => by refine iteF ?_; exact ⟨W0, W1, ρ, S1, z, S', rfl, R1, em, fun v W2 R2 g2 r2 => q v W2 R2 (g1.trans g2) r2⟩⟩
  · cases em
end
end BL

namespace BL
open PySem PySem.Spec PyProof.Rows L2
/-! slots and own things -/
section
variable {K : PySem.W.Frag} {C : Addr} {W0 W : Wd} {σ : L2.St} {ρ : List SlV} {S : List PV}
theorem Rel.setv (R : Rel K C W0 W σ ρ S) (i : Nat) {v : V} {x : PV} (r : RepW K C W v x) (hi : i < ρ.length) : Rel K C W0 W (σ.set i (some v)) (ρ.set i (.val x)) S := by
  refine ⟨R.e, R.i, by rw [List.length_set, List.length_set]; exact R.l, fun j sl h => ?_, fun j k y z a h1 h2 g1 g2 => ?_⟩
  · by_cases c : i = j
    · subst c
      rw [List.getElem?_set_self hi] at h
      cases h
      exact ⟨v, by rw [List.getElem?_set_self (by rw [R.l]; exact hi)], r⟩
    · rw [List.getElem?_set_ne c] at h ⊢
      exact R.s j sl h
  · have n : ∀ (j : Nat) (y : PV), (ρ.set i (.val x))[j]? = some (.own y) → i ≠ j := fun j y h e => by
      subst e
      rw [List.getElem?_set_self hi] at h
      cases h
    have c1 := n j y h1
    have c2 := n k z h2
    rw [List.getElem?_set_ne c1] at h1 g1
    rw [List.getElem?_set_ne c2] at h2 g2
    exact R.d j k y z a h1 h2 g1 g2
theorem Rel.seto (R : Rel K C W0 W σ ρ S) (i : Nat) {a : Addr} {x : PV} (r : OwnAt K C W0 W a x) (hi : i < ρ.length) (hd : ∀ (j : Nat) (y : PV), ρ[j]? = some (.own y) → σ[j]? = some (some (.ref a)) → False) : Rel K C W0 W (σ.set i (some (.ref a))) (ρ.set i (.own x)) S := by
  refine ⟨R.e, R.i, by rw [List.length_set, List.length_set]; exact R.l, fun j sl h => ?_, fun j k y z b h1 h2 g1 g2 => ?_⟩
  · by_cases c : i = j
    · subst c
      rw [List.getElem?_set_self hi] at h
      cases h
      exact ⟨a, by rw [List.getElem?_set_self (by rw [R.l]; exact hi)], r⟩
    · rw [List.getElem?_set_ne c] at h ⊢
      exact R.s j sl h
  · have hi' : i < σ.length := by rw [R.l]; exact hi
    by_cases c1 : i = j
    · by_cases c2 : i = k
      · rw [← c1, ← c2]
      · subst c1
        rw [List.getElem?_set_self hi'] at g1
        cases Option.some.inj (Option.some.inj g1)
        rw [List.getElem?_set_ne c2] at h2 g2
        exact (hd k z h2 g2).elim
    · rw [List.getElem?_set_ne c1] at h1 g1
      by_cases c2 : i = k
      · subst c2
        rw [List.getElem?_set_self hi'] at g2
        cases Option.some.inj (Option.some.inj g2)
        exact (hd j y h1 g1).elim
      · rw [List.getElem?_set_ne c2] at h2 g2
        exact R.d j k y z b h1 h2 g1 g2
theorem Rel.setu (R : Rel K C W0 W σ ρ S) (i : Nat) (w : Option V) : Rel K C W0 W (σ.set i w) (ρ.set i .un) S := by
  refine ⟨R.e, R.i, by rw [List.length_set, List.length_set]; exact R.l, fun j sl h => ?_, fun j k y z a h1 h2 g1 g2 => ?_⟩
  · by_cases c : i = j
    · subst c
      by_cases hi : i < ρ.length
      · rw [List.getElem?_set_self hi] at h
        cases h
        trivial
      · rw [List.getElem?_eq_none (by rw [List.length_set]; omega)] at h
        cases h
    · rw [List.getElem?_set_ne c] at h ⊢
      exact R.s j sl h
  · have n : ∀ (j : Nat) (y : PV), (ρ.set i .un)[j]? = some (.own y) → i ≠ j := fun j y h e => by
      subst e
      by_cases hi : i < ρ.length
      · rw [List.getElem?_set_self hi] at h
        cases h
      · rw [List.getElem?_eq_none (by rw [List.length_set]; omega)] at h
        cases h
    have c1 := n j y h1
    have c2 := n k z h2
    rw [List.getElem?_set_ne c1] at h1 g1
    rw [List.getElem?_set_ne c2] at h2 g2
    exact R.d j k y z a h1 h2 g1 g2
/-- an own list becomes one that never changes -/
theorem Rel.frz (R : Rel K C W0 W σ ρ S) {i : Nat} {x : PV} (h : ρ[i]? = some (.own x)) : ∃ W', W'.H = W.H ∧ GroF W W' ∧ Rel K C W0 W' σ (ρ.set i (.val x)) S ∧ ∀ W1, Gro W1 W → (∀ a, σ[i]? = some (some (.ref a)) → W1.H a = none) → Gro W1 W' := by
  obtain ⟨a, ea, o1, o2, o3, o4⟩ := R.s i _ h
  have hi : i < ρ.length := (List.getElem?_eq_some_iff.mp h).1
  cases x with
  | lst xs =>
    obtain ⟨vs, eh, r⟩ := o4
    have sF : Same W.F (upd W.F a (.lst vs)) := same_upd o2
    refine ⟨⟨upd W.F a (.lst vs), W.H, W.θ⟩, rfl, ⟨sF, [], (List.append_nil _).symm⟩, ?_, fun W1 g1 nn => ⟨g1.f.trans sF, g1.t, g1.h, g1.k, fun p o e z => by
      show upd W.F a _ p = none
      rw [upd_ne (ne_of_none e (nn a ea))]
      exact g1.n p o e z⟩⟩
    have m : ∀ {v : V} {x : PV}, RepW K C W v x → Rep K C (upd W.F a (.lst vs)) W.θ v x := fun r => by
      have := r.mono (r := []) sF
      rwa [List.append_nil] at this
    have ma : ∀ {v : List V} {x : List PV}, RepAll K C W.F W.θ v x → RepAll K C (upd W.F a (.lst vs)) W.θ v x := fun r => by
      have := r.mono (r := []) sF
      rwa [List.append_nil] at this
    have mm : ∀ {b : Addr} {x : PV}, Mut K C W b x → Mut K C ⟨upd W.F a (.lst vs), W.H, W.θ⟩ b x := fun {b x} r => by
      cases x with
      | lst ys => obtain ⟨us, e, r⟩ := r; exact ⟨us, e, ma r⟩
      | _ => exact r.elim
    refine ⟨⟨R.e.f.trans sF, R.e.t, R.e.h, R.e.k, fun p o e z => ?_⟩, ⟨fun b o e => ?_, R.i.len, R.i.nd, fun n b x e1 e2 => ?_⟩, by rw [List.length_set]; exact R.l, fun j sl hj => ?_, fun j k y z b h1 h2 g1 g2 => ?_⟩
    · show upd W.F a _ p = none
      rw [upd_ne (ne_of_none e o1)]
      exact R.e.n p o e z
    · change upd W.F a _ b = some o at e
      show W.H b = some o
      by_cases c : b = a
      · subst c
        rw [upd_same] at e
        rw [← e]
        exact eh
      · rw [upd_ne c] at e
        exact R.i.s _ _ e
    · obtain ⟨z, m⟩ := R.i.m n b x e1 e2
      refine ⟨?_, mm m⟩
      show upd W.F a _ b = none
      rw [upd_ne (fun c => o3 (by rw [← c]; exact List.mem_of_getElem? e1))]
      exact z
    · by_cases c : i = j
      · subst c
        rw [List.getElem?_set_self hi] at hj
        cases hj
        exact ⟨_, ea, .lst upd_same (ma r)⟩
      · rw [List.getElem?_set_ne c] at hj
        have sl' := R.s j sl hj
        cases sl with
        | un => trivial
        | val y => obtain ⟨u, e, r⟩ := sl'; exact ⟨u, e, m r⟩
        | own y =>
          obtain ⟨b, eb, p1, p2, p3, p4⟩ := sl'
          refine ⟨b, eb, p1, ?_, p3, mm p4⟩
          show upd W.F a _ b = none
          rw [upd_ne (fun z => by
            subst z
            exact c (R.d i j _ _ _ h hj ea eb))]
          exact p2
    · have n : ∀ (j : Nat) (y : PV), (ρ.set i (.val (.lst xs)))[j]? = some (.own y) → i ≠ j := fun j y h e => by
        subst e
        rw [List.getElem?_set_self hi] at h
        cases h
      rw [List.getElem?_set_ne (n j y h1)] at h1
      rw [List.getElem?_set_ne (n k z h2)] at h2
      exact R.d j k y z b h1 h2 g1 g2
  | _ => exact o4.elim
/-- an own list gets other things -/
theorem Rel.ownUpd (R : Rel K C W0 W σ ρ S) {i : Nat} {x : PV} {a : Addr} {ys : List PV} {us : List V} (h : ρ[i]? = some (.own x)) (ea : σ[i]? = some (some (.ref a))) (r : RepAll K C W.F W.θ us ys) :
    Rel K C W0 ⟨W.F, upd W.H a (.lst us), W.θ⟩ σ (ρ.set i (.own (.lst ys))) S := by
  obtain ⟨a', ea', o1, o2, o3, o4⟩ := R.s i _ h
  rw [ea] at ea'
  cases Option.some.inj (Option.some.inj ea')
  have hi : i < ρ.length := (List.getElem?_eq_some_iff.mp h).1
  have mm : ∀ {b : Addr} {x : PV}, b ≠ a → Mut K C W b x → Mut K C ⟨W.F, upd W.H a (.lst us), W.θ⟩ b x := fun {b x} n r => by
    cases x with
    | lst ys =>
      obtain ⟨us', e, r⟩ := r
      refine ⟨us', ?_, r⟩
      show upd W.H a _ b = _
      rw [upd_ne n]
      exact e
    | _ => exact r.elim
  refine ⟨⟨R.e.f, R.e.t, fun p o e n => ?_, fun p o e => ?_, R.e.n⟩, ⟨fun b o e => ?_, R.i.len, R.i.nd, fun n b x e1 e2 => ?_⟩, by rw [List.length_set]; exact R.l, fun j sl hj => ?_, fun j k y z b h1 h2 g1 g2 => ?_⟩
  · show upd W.H a _ p = _
    rw [upd_ne (ne_of_none e o1)]
    exact R.e.h p o e n
  · obtain ⟨o', e'⟩ := R.e.k p o e
    exact ⟨o', by show upd W.H a _ p = _; rw [upd_ne (ne_of_none e o1)]; exact e'⟩
  · change W.F b = some o at e
    show upd W.H a _ b = some o
    rw [upd_ne (ne_of_none e o2)]
    exact R.i.s _ _ e
  · obtain ⟨z, m⟩ := R.i.m n b x e1 e2
    exact ⟨z, mm (fun c => o3 (by rw [← c]; exact List.mem_of_getElem? e1)) m⟩
  · by_cases c : i = j
    · subst c
      rw [List.getElem?_set_self hi] at hj
      cases hj
      exact ⟨_, ea, o1, o2, o3, us, upd_same, r⟩
    · rw [List.getElem?_set_ne c] at hj
      have sl' := R.s j sl hj
      cases sl with
      | un => trivial
      | val y => exact sl'
      | own y =>
        obtain ⟨b, eb, p1, p2, p3, p4⟩ := sl'
        exact ⟨b, eb, p1, p2, p3, mm (fun z => by subst z; exact c (R.d i j _ _ _ h hj ea eb)) p4⟩
  · have q : ∀ (j : Nat) (y : PV), (ρ.set i (.own (.lst ys)))[j]? = some (.own y) → ∃ y', ρ[j]? = some (.own y') := fun j y hj => by
      by_cases c : i = j
      · subst c
        exact ⟨_, h⟩
      · rw [List.getElem?_set_ne c] at hj
        exact ⟨_, hj⟩
    obtain ⟨y', h1⟩ := q j y h1
    obtain ⟨z', h2⟩ := q k z h2
    exact R.d j k y' z' b h1 h2 g1 g2
/-- a new own list -/
theorem laidO {p : Addr} {us : List V} {ys : List PV} (R : Rel K C W0 W σ ρ S) (r : RepAll K C W.F W.θ us ys) (n : W.H p = none) :
    Gro W ⟨W.F, upd W.H p (.lst us), W.θ⟩ ∧ Rel K C W0 ⟨W.F, upd W.H p (.lst us), W.θ⟩ σ ρ S ∧ OwnAt K C W0 ⟨W.F, upd W.H p (.lst us), W.θ⟩ p (.lst ys) ∧ (∀ (j : Nat) (y : PV), ρ[j]? = some (.own y) → σ[j]? = some (some (.ref p)) → False) := by
  have fn : W.F p = none := R.i.s.free n
  have g : Gro W ⟨W.F, upd W.H p (.lst us), W.θ⟩ := by
    refine ⟨Same.refl _, ⟨[], (List.append_nil _).symm, fun _ h => by cases h⟩, fun q o' e _ => ?_, fun q o' e => ?_, fun q o' e z => z⟩
    · show upd W.H p _ q = _
      rw [upd_ne (ne_of_none e n)]
      exact e
    · exact ⟨o', by show upd W.H p _ q = _; rw [upd_ne (ne_of_none e n)]; exact e⟩
  have i' : Inv1 K C ⟨W.F, upd W.H p (.lst us), W.θ⟩ S := by
    refine ⟨fun q o' e => ?_, R.i.len, R.i.nd, fun k a x h1 h2 => ?_⟩
    · show upd W.H p _ q = some o'
      rw [upd_ne (ne_of_none e fn)]
      exact R.i.s _ _ e
    · obtain ⟨z, m⟩ := R.i.m k a x h1 h2
      refine ⟨z, ?_⟩
      cases x with
      | lst xs =>
        obtain ⟨vs, e, r⟩ := m
        refine ⟨vs, ?_, r⟩
        show upd W.H p _ a = _
        rw [upd_ne (ne_of_none e n)]
        exact e
      | _ => exact m.elim
  refine ⟨g, R.ext g i', ⟨?_, fn, fun m => ?_, us, upd_same, r⟩, fun j y h1 h2 => ?_⟩
  · cases e : W0.H p with
    | none => rfl
    | some o =>
      obtain ⟨o', e'⟩ := R.e.k p o e
      rw [n] at e'
      cases e'
  · change p ∈ W.θ at m
    obtain ⟨k, hk⟩ := List.getElem?_of_mem m
    have hk' : k < S.length := by rw [← R.i.len]; exact (List.getElem?_eq_some_iff.mp hk).1
    obtain ⟨_, m⟩ := R.i.m k p _ hk (List.getElem?_eq_getElem hk')
    obtain ⟨o, ho⟩ := m.laid
    rw [n] at ho
    cases ho
  · obtain ⟨a, ea, _, _, _, m⟩ := R.s j _ h1
    rw [h2] at ea
    cases Option.some.inj (Option.some.inj ea)
    obtain ⟨o, ho⟩ := m.laid
    rw [n] at ho
    cases ho
end
/-! statements -/
section
variable {X : Cx} {C : Addr} {e a b : Expr} {es : List Expr} {st : Stmt} {sts rest : List Stmt} {pos : Pos} {m ma mb : ME} {mt : MT} {ms mr ms' : MS} {mes : MA}
theorem Pst.gro {K : PySem.W.Frag} {W0 W W' : Wd} {D : Ends} {out : Ou} (p : Pst K C W0 W D out) (g : GroF W W') : Pst K C W0 W' D out := by
  cases out with
  | nx ρ S => exact fun σ W2 g2 R => p σ W2 (g.trans g2) R
  | rt x S => exact p
  | bk ρ S => exact fun σ W2 g2 R => p σ W2 (g.trans g2) R
  | ct ρ S => exact fun σ W2 g2 R => p σ W2 (g.trans g2) R
def mSkip : MS := fun ρ S => some (.nx ρ S)
def mSeq (ms mr : MS) : MS := fun ρ S => match ms ρ S with
  | some (.nx ρ1 S1) => mr ρ1 S1
  | o => o
theorem xsnil : PSs X [] (tMS X.K C mSkip) := PSs.weak pss_nil fun D σ H ⟨W0, W, ρ, S, out, eH, R, em, p⟩ => by
  subst eH
  cases em
  exact p σ W (GroF.refl _) R
theorem xscons (h : PS X st (tMS X.K C ms)) (hr : PSs X rest (tMS X.K C mr)) : PSs X (st :: rest) (tMS X.K C (mSeq ms mr)) := PSs.weak (pss_cons h hr) fun D σ H ⟨W0, W, ρ, S, out, eH, R, em, p⟩ => by
  subst eH
  unfold mSeq at em
  split at em
  · rename_i ρ1 S1 e1
    refine ⟨W0, W, ρ, S, _, rfl, R, e1, fun σ' W' g R' => ⟨W0, W', ρ1, S1, out, rfl, R', em, p.gro g⟩⟩
  · rename_i o hn
    refine ⟨W0, W, ρ, S, out, rfl, R, em, ?_⟩
    cases out with
    | nx ρ1 S1 => exact (hn ρ1 S1 em).elim
    | rt x S1 => exact p
    | bk ρ1 S1 => exact p
    | ct ρ1 S1 => exact p
theorem xsone (h : PS X st (tMS X.K C ms)) : PSs X [st] (tMS X.K C ms) := pss_one h
/-- an own thing is fixed ahead of a statement -/
def mFrz (i : Nat) (ms : MS) : MS := fun ρ S => match ρ[i]? with
  | some (.own x) => ms (ρ.set i (.val x)) S
  | _ => ms ρ S
theorem frz_lift {K : PySem.W.Frag} {i : Nat} {D : Ends} {σ : L2.St} {H : Hp} (h : tMS K C (mFrz i ms) D σ H) : tMS K C ms D σ H := by
  obtain ⟨W0, W, ρ, S, out, eH, R, em, p⟩ := h
  subst eH
  unfold mFrz at em
  split at em
  · rename_i x hx
    obtain ⟨W', e1, g, R', _⟩ := R.frz hx
    exact ⟨W0, W', _, S, out, e1.symm, R', em, p.gro g⟩
  · exact ⟨W0, W, ρ, S, out, rfl, R, em, p⟩
theorem xfrz (i : Nat) (h : PS X st (tMS X.K C ms)) : PS X st (tMS X.K C (mFrz i ms)) := PS.weak h fun D σ H h => frz_lift h
theorem xfrzs (i : Nat) (h : PSs X sts (tMS X.K C ms)) : PSs X sts (tMS X.K C (mFrz i ms)) := PSs.weak h fun D σ H h => frz_lift h
def mRet (ma : ME) : MS := fun ρ S => match ma ρ S with
  | some (x, S1) => some (.rt x S1)
  | none => none
theorem xret (h : PE X e (tM X.K C ma)) : PS X (.Return (some e) pos) (tMS X.K C (mRet ma)) := PS.weak (ps_ret h) fun D σ H ⟨W0, W, ρ, S, out, eH, R, em, p⟩ => by
  subst eH
  unfold mRet at em
  split at em
  · rename_i x S1 e1
    cases em
    exact ⟨W0, W, ρ, S, x, S1, rfl, R, e1, fun v W1 R1 g1 r1 => p v W1 R1.e R1.i r1⟩
  · cases em
def mRetN : MS := fun _ S => some (.rt .non S)
theorem xretN : PS X (.Return none pos) (tMS X.K C mRetN) := PS.weak ps_retN fun D σ H ⟨W0, W, ρ, S, out, eH, R, em, p⟩ => by
  subst eH
  cases em
  exact p _ W R.e R.i .non
def mDrop (ma : ME) : MS := fun ρ S => match ma ρ S with
  | some (_, S1) => some (.nx ρ S1)
  | none => none
theorem xdrop (h : PE X e (tM X.K C ma)) (hs : swapsWith e none pos.line X.env = pure false := by rfl) : PS X (.Expr e pos) (tMS X.K C (mDrop ma)) := PS.weak (ps_expr h hs) fun D σ H ⟨W0, W, ρ, S, out, eH, R, em, p⟩ => by
  subst eH
  unfold mDrop at em
  split at em
  · rename_i x S1 e1
    cases em
    exact ⟨W0, W, ρ, S, x, S1, rfl, R, e1, fun v W1 R1 g1 r1 => p σ W1 g1.groF R1⟩
  · cases em
def mIf (mt : MT) (ms mr : MS) : MS := fun ρ S => match mt ρ S with
  | some (true, S1) => ms ρ S1
  | some (false, S1) => mr ρ S1
  | none => none
theorem xifs {c : Expr} {sa sb : List Stmt} (hc : PT X c (tMT X.K C mt)) (ha : PSs X sa (tMS X.K C ms)) (hb : PSs X sb (tMS X.K C mr)) : PS X (.If c sa sb pos) (tMS X.K C (mIf mt ms mr)) := PS.weak (ps_if hc ha hb) fun D σ H ⟨W0, W, ρ, S, out, eH, R, em, p⟩ => by
  subst eH
  unfold mIf at em
  split at em
  · rename_i S1 e1
    exact ⟨W0, W, ρ, S, true, S1, rfl, R, e1, fun W1 R1 g1 => by refine iteT ?_; exact ⟨W0, W1, ρ, S1, out, rfl, R1, em, p.gro g1.groF⟩⟩
  · rename_i S1 e1
    exact ⟨W0, W, ρ, S, false, S1, rfl, R, e1, fun W1 R1 g1 => by refine iteF ?_; exact ⟨W0, W1, ρ, S1, out, rfl, R1, em, p.gro g1.groF⟩⟩
  · cases em
/-! targets -/
inductive Tg where
  | nm (i : Nat) | tp (is : List Nat) | tq (gs : List (Nat ⊕ List Nat))
def putAll : List Nat → List PV → List SlV → Option (List SlV)
  | [], [], ρ => some ρ
  | i :: is, x :: xs, ρ => if i < ρ.length then putAll is xs (ρ.set i (.val x)) else none
  | _, _, _ => none
def putAllQ : List (Nat ⊕ List Nat) → List PV → List SlV → Option (List SlV)
  | [], [], ρ => some ρ
  | .inl i :: gs, x :: xs, ρ => if i < ρ.length then putAllQ gs xs (ρ.set i (.val x)) else none
  | .inr is :: gs, .tup ys :: xs, ρ => match putAll is ys ρ with
    | some ρ1 => putAllQ gs xs ρ1
    | none => none
  | .inr is :: gs, .lst ys :: xs, ρ => match putAll is ys ρ with
    | some ρ1 => putAllQ gs xs ρ1
    | none => none
  | _, _, _ => none
def Tg.put : Tg → PV → List SlV → Option (List SlV)
  | .nm i, x, ρ => if i < ρ.length then some (ρ.set i (.val x)) else none
  | .tp is, .tup xs, ρ => putAll is xs ρ
  | .tp is, .lst xs, ρ => putAll is xs ρ
  | .tp _, _, _ => none
  | .tq gs, .tup xs, ρ => putAllQ gs xs ρ
  | .tq gs, .lst xs, ρ => putAllQ gs xs ρ
  | .tq _, _, _ => none
def idsQ : List (Nat ⊕ List Nat) → List Nat
  | [] => []
  | .inl i :: gs => i :: idsQ gs
  | .inr is :: gs => is ++ idsQ gs
def Tg.ids : Tg → List Nat
  | .nm i => [i]
  | .tp is => is
  | .tq gs => idsQ gs
def tgs : List Nat → TGs
  | [] => gNil
  | i :: is => gCons (gName i) (tgs is)
def gTp (K : PySem.W.Frag) (is : List Nat) : TG := fun v σ H Q => gTup K is.length (tgs is) v σ H Q ∨ gUnl K is.length (tgs is) v σ H Q
def tgsQ (K : PySem.W.Frag) : List (Nat ⊕ List Nat) → TGs
  | [] => gNil
  | .inl i :: gs => gCons (gName i) (tgsQ K gs)
  | .inr is :: gs => gCons (gTp K is) (tgsQ K gs)
def Tg.g (K : PySem.W.Frag) : Tg → TG
  | .nm i => gName i
  | .tp is => gTp K is
  | .tq gs => fun v σ H Q => gTup K gs.length (tgsQ K gs) v σ H Q ∨ gUnl K gs.length (tgsQ K gs) v σ H Q
theorem putAll_ok {K : PySem.W.Frag} {W0 W : Wd} {S : List PV} {Q : L2.St → Hp → Prop} : ∀ {is : List Nat} {σ : L2.St} {vs : List V} {xs : List PV} {ρ ρ' : List SlV}, Rel K C W0 W σ ρ S → RepAll K C W.F W.θ vs xs → putAll is xs ρ = some ρ' →
    (∀ σ', Rel K C W0 W σ' ρ' S → (∀ ws, (∀ i ∈ is, i ∈ ws) → wipe σ' ws = wipe σ ws) → Q σ' W.H) → tgs is vs σ W.H Q
  | [], σ, vs, [], ρ, ρ', R, r, e, q => by
    cases e
    cases r
    exact ⟨rfl, q σ R fun _ _ => rfl⟩
  | i :: is, σ, vs, x :: xs, ρ, ρ', R, r, e, q => by
    cases r with
    | cons r rr =>
      rename_i v vs
      unfold putAll at e
      split at e
      · rename_i hi
        refine ⟨v, vs, rfl, putAll_ok (R.setv i r hi) rr e fun σ' R' w => q σ' R' fun ws hw => ?_⟩
        rw [w ws fun j hj => hw j (List.mem_cons_of_mem _ hj)]
        exact wipe_set (hw i List.mem_cons_self)
      · cases e
  | [], _, _, _ :: _, _, _, _, _, e, _ => by cases e
  | _ :: _, _, _, [], _, _, _, _, e, _ => by cases e
where
  wipe_set {σ : L2.St} {i : Nat} {o : Option V} : ∀ {ws : List Nat}, i ∈ ws → wipe (σ.set i o) ws = wipe σ ws
  | w :: ws, h => by
    show (wipe (σ.set i o) ws).set w none = (wipe σ ws).set w none
    by_cases c : i ∈ ws
    · rw [wipe_set c]
    · have e : i = w := by
        rcases List.mem_cons.mp h with e | h
        · exact e
        · exact (c h).elim
      subst e
      have : ∀ {us : List Nat}, i ∉ us → wipe (σ.set i o) us = (wipe σ us).set i o := fun {us} hn => by
        induction us with
        | nil => rfl
        | cons u us ih =>
          show (wipe (σ.set i o) us).set u none = ((wipe σ us).set u none).set i o
          rw [ih fun z => hn (List.mem_cons_of_mem _ z)]
          exact List.set_comm _ _ fun z => hn (by rw [z]; exact List.mem_cons_self)
      rw [this c, List.set_set]
theorem putAll_len : ∀ {is : List Nat} {xs : List PV} {ρ ρ' : List SlV}, putAll is xs ρ = some ρ' → xs.length = is.length := fun {is} => by
  induction is with
  | nil => intro xs ρ ρ' e; cases xs with | nil => rfl | cons _ _ => cases e
  | cons i is ih =>
    intro xs ρ ρ' e
    cases xs with
    | nil => cases e
    | cons x xs =>
      unfold putAll at e
      split at e
      · exact congrArg Nat.succ (ih e)
      · cases e
theorem tp_ok {K : PySem.W.Frag} {W0 W : Wd} {S : List PV} {Q : L2.St → Hp → Prop} {is : List Nat} {σ : L2.St} {v : V} {x : PV} {ρ ρ' : List SlV} (R : Rel K C W0 W σ ρ S) (r : RepW K C W v x) (e : (Tg.tp is).put x ρ = some ρ')
    (q : ∀ σ', Rel K C W0 W σ' ρ' S → (∀ ws, (∀ i ∈ is, i ∈ ws) → wipe σ' ws = wipe σ ws) → Q σ' W.H) : gTp K is v σ W.H Q := by
  cases x with
  | tup xs =>
    cases r with
    | tup h a =>
      rename_i p vs
      exact .inl ⟨p, vs, rfl, R.i.s.seT h, by rw [a.len]; exact putAll_len e, putAll_ok R a e q⟩
  | lst xs =>
    cases r with
    | lst h a =>
      rename_i p vs
      exact .inr ⟨p, vs, rfl, R.i.s.seq (SqL.of h), by rw [a.len]; exact putAll_len e, putAll_ok R a e q⟩
  | _ => cases e
theorem putAllQ_len : ∀ {gs : List (Nat ⊕ List Nat)} {xs : List PV} {ρ ρ' : List SlV}, putAllQ gs xs ρ = some ρ' → xs.length = gs.length := fun {gs} => by
  induction gs with
  | nil => intro xs ρ ρ' e; cases xs with | nil => rfl | cons _ _ => cases e
  | cons g gs ih =>
    intro xs ρ ρ' e
    cases g with
    | inl i =>
      cases xs with
      | nil => cases e
      | cons x xs =>
        unfold putAllQ at e
        split at e
        · exact congrArg Nat.succ (ih e)
        · cases e
    | inr is =>
      cases xs with
      | nil => cases e
      | cons x xs =>
        cases x with
        | tup ys =>
          unfold putAllQ at e
          split at e
          · exact congrArg Nat.succ (ih e)
          · cases e
        | lst ys =>
          unfold putAllQ at e
          split at e
          · exact congrArg Nat.succ (ih e)
          · cases e
        | _ => cases e
theorem putAllQ_ok {K : PySem.W.Frag} {W0 W : Wd} {S : List PV} {Q : L2.St → Hp → Prop} : ∀ {gs : List (Nat ⊕ List Nat)} {σ : L2.St} {vs : List V} {xs : List PV} {ρ ρ' : List SlV}, Rel K C W0 W σ ρ S → RepAll K C W.F W.θ vs xs → putAllQ gs xs ρ = some ρ' →
    (∀ σ', Rel K C W0 W σ' ρ' S → (∀ ws, (∀ i ∈ idsQ gs, i ∈ ws) → wipe σ' ws = wipe σ ws) → Q σ' W.H) → tgsQ K gs vs σ W.H Q := fun {gs} => by
  induction gs with
  | nil =>
    intro σ vs xs ρ ρ' R r e q
    cases xs with
    | nil =>
      cases e
      cases r
      exact ⟨rfl, q σ R fun _ _ => rfl⟩
    | cons _ _ => cases e
  | cons g gs ih =>
    intro σ vs xs ρ ρ' R r e q
    cases xs with
    | nil => cases g <;> cases e
    | cons x xs =>
      cases r with
      | cons r rr =>
        rename_i v vs
        cases g with
        | inl i =>
          unfold putAllQ at e
          split at e
          · rename_i hi
            refine ⟨v, vs, rfl, ih (R.setv i r hi) rr e fun σ' R' w => q σ' R' fun ws hw => ?_⟩
            rw [w ws fun j hj => hw j (List.mem_cons_of_mem _ hj)]
            exact putAll_ok.wipe_set (hw i List.mem_cons_self)
          · cases e
        | inr is =>
          have key : ∀ ρ1, (Tg.tp is).put x ρ = some ρ1 → putAllQ gs xs ρ1 = some ρ' → tgsQ K (.inr is :: gs) (v :: vs) σ W.H Q := fun ρ1 e1 e2 => by
            refine ⟨v, vs, rfl, tp_ok R r e1 fun σ1 R1 w1 => ih R1 rr e2 fun σ' R' w => q σ' R' fun ws hw => ?_⟩
            rw [w ws fun j hj => hw j (List.mem_append_right _ hj)]
            exact w1 ws fun j hj => hw j (List.mem_append_left _ hj)
          cases x with
          | tup ys =>
            unfold putAllQ at e
            split at e
            · rename_i ρ1 e1
              exact key ρ1 e1 e
            · cases e
          | lst ys =>
            unfold putAllQ at e
            split at e
            · rename_i ρ1 e1
              exact key ρ1 e1 e
            · cases e
          | _ => cases e
theorem Tg.ok {K : PySem.W.Frag} {W0 W : Wd} {S : List PV} {Q : L2.St → Hp → Prop} (t : Tg) {σ : L2.St} {v : V} {x : PV} {ρ ρ' : List SlV} (R : Rel K C W0 W σ ρ S) (r : RepW K C W v x) (e : t.put x ρ = some ρ')
    (q : ∀ σ', Rel K C W0 W σ' ρ' S → (∀ ws, (∀ i ∈ t.ids, i ∈ ws) → wipe σ' ws = wipe σ ws) → Q σ' W.H) : t.g K v σ W.H Q := by
  cases t with
  | nm i =>
    simp only [Tg.put] at e
    split at e
    · rename_i hi
      cases e
      exact q _ (R.setv i r hi) fun ws hw => putAll_ok.wipe_set (hw i (List.mem_cons_self))
    · cases e
  | tp is => exact tp_ok R r e q
  | tq gs =>
    cases x with
    | tup xs =>
      cases r with
      | tup h a =>
        rename_i p vs
        exact .inl ⟨p, vs, rfl, R.i.s.seT h, by rw [a.len]; exact putAllQ_len e, putAllQ_ok R a e q⟩
    | lst xs =>
      cases r with
      | lst h a =>
        rename_i p vs
        exact .inr ⟨p, vs, rfl, R.i.s.seq (SqL.of h), by rw [a.len]; exact putAllQ_len e, putAllQ_ok R a e q⟩
    | _ => cases e
/-- name, .. = e -/
def mAsg (t : Tg) (ma : ME) : MS := fun ρ S => match ma ρ S with
  | some (x, S1) => match t.put x ρ with
    | some ρ1 => some (.nx ρ1 S1)
    | none => none
  | none => none
theorem xasgT (t : Tg) (h : PS X st (tAsg (tM X.K C ma) (t.g X.K))) : PS X st (tMS X.K C (mAsg t ma)) := PS.weak h fun D σ H ⟨W0, W, ρ, S, out, eH, R, em, p⟩ => by
  subst eH
  unfold mAsg at em
  split at em
  · rename_i x S1 e1
    split at em
    · rename_i ρ1 e2
      cases em
      exact ⟨W0, W, ρ, S, x, S1, rfl, R, e1, fun v W1 R1 g1 r1 => t.ok R1 r1 e2 fun σ' R' _ => p σ' W1 g1.groF R'⟩
    · cases em
  · cases em
/-- a, b = x, y -/
def mPar (i j : Nat) (ma : MA) : MS := fun ρ S => match ma ρ S with
  | some ([x, y], S1) => if i < ρ.length ∧ j < ρ.length then some (.nx ((ρ.set i (.val x)).set j (.val y)) S1) else none
  | _ => none
theorem xpar {i j : Nat} (h : PS X st (tPar i j (tMA X.K C mes))) : PS X st (tMS X.K C (mPar i j mes)) := PS.weak h fun D σ H ⟨W0, W, ρ, S, out, eH, R, em, p⟩ => by
  subst eH
  unfold mPar at em
  split at em
  · rename_i x y S1 e1
    split at em
    · rename_i hl
      cases em
      refine ⟨W0, W, ρ, S, _, S1, rfl, R, e1, fun vs W1 R1 g1 r1 => ?_⟩
      cases r1 with
      | cons r1 rr =>
        cases rr with
        | cons r2 rr =>
          cases rr
          exact ⟨_, _, rfl, p _ W1 g1.groF ((R1.setv i r1 hl.1).setv j r2 (by rw [List.length_set]; exact hl.2))⟩
    · cases em
  · cases em
/-! own lists -/
def mNewO (i : Nat) (mes : MA) : MS := fun ρ S => match mes ρ S with
  | some (xs, S1) => if xs.length ≤ 100000 ∧ i < ρ.length then some (.nx (ρ.set i (.own (.lst xs))) S1) else none
  | none => none
theorem xnewO {i : Nat} (h : PS X st (tAsg (tLst (tMA X.K C mes)) (gName i))) : PS X st (tMS X.K C (mNewO i mes)) := PS.weak h fun D σ H ⟨W0, W, ρ, S, out, eH, R, em, p⟩ => by
  subst eH
  unfold mNewO at em
  split at em
  · rename_i xs S1 e1
    split at em
    · rename_i hl
      cases em
      refine ⟨W0, W, ρ, S, xs, S1, rfl, R, e1, fun vs W1 R1 g1 r1 => ⟨by rw [r1.len]; exact Nat.le_trans hl.1 lim, fun q nq => ?_⟩⟩
      obtain ⟨g2, R2, o2, d2⟩ := laidO R1 r1 nq
      exact p _ _ (g1.trans g2).groF (R2.seto i o2 hl.2 d2)
    · cases em
  · cases em
/-- x.append(e), x an own list -/
def mApp (i : Nat) (ma : ME) : MS := fun ρ S => match ma ρ S with
  | some (y, S1) => match ρ[i]? with
    | some (.own (.lst xs)) => if xs.length ≤ 100000 then some (.nx (ρ.set i (.own (.lst (xs ++ [y])))) S1) else none
    | _ => none
  | none => none
theorem xapp {i : Nat} (h : PS X st (tDrop (tBM X.K "list" rAppend (tVar i) (tCons (tM X.K C ma) tNil)))) : PS X st (tMS X.K C (mApp i ma)) := PS.weak h fun D σ H ⟨W0, W, ρ, S, out, eH, R, em, p⟩ => by
  subst eH
  unfold mApp at em
  split at em
  · rename_i y S1 e1
    split at em
    · rename_i xs hx
      split at em
      · rename_i hl
        cases em
        obtain ⟨a, ea, o1, o2, o3, us, eh, ru⟩ := R.s i _ hx
        refine ⟨_, ea, .inl ⟨rfl, us, SqL.of eh⟩, W0, W, ρ, S, y, S1, rfl, R, e1, fun v W1 R1 g1 r1 => ?_⟩
        obtain ⟨a', ea', _, _, _, us', eh', ru'⟩ := R1.s i _ hx
        rw [ea] at ea'
        cases Option.some.inj (Option.some.inj ea')
        refine ⟨a, us', v, rfl, rfl, eh', by rw [ru'.len]; exact Nat.lt_of_le_of_lt hl (by decide), ?_⟩
        refine p σ ⟨W1.F, upd W1.H a (.lst (us' ++ [v])), W1.θ⟩ ⟨g1.groF.f, g1.groF.t⟩ (R1.ownUpd hx ea (ru'.app (.cons r1 .nil)))
      · cases em
    · cases em
  · cases em
def ixP (n : Nat) (i : Int) : Option Nat := if 0 ≤ i then (if i < n then some i.toNat else none) else if -(n : Int) ≤ i then some (i + n).toNat else none
theorem ixP_eq (n : Nat) (i : Int) : ixP n i = ixN n i := rfl
theorem ixP_lt {n : Nat} {i : Int} {k : Nat} (h : ixP n i = some k) : k < n := (ixN_seq (by rw [← ixP_eq]; exact h)).2.1
/-- x[i] = e, x an own list -/
def mPutO (i : Nat) (mi ma : ME) : MS := fun ρ S => match ma ρ S with
  | some (y, S1) => match mi ρ S1 with
    | some (.int k, S2) => match ρ[i]? with
      | some (.own (.lst xs)) => match ixP xs.length k with
        | some j => some (.nx (ρ.set i (.own (.lst (xs.set j y)))) S2)
        | none => none
      | _ => none
    | _ => none
  | none => none
theorem xputO {i : Nat} {mi : ME} (h : PS X st (tAsg (tM X.K C ma) (gSub (tVar i) (tM X.K C mi) rSetL))) : PS X st (tMS X.K C (mPutO i mi ma)) := PS.weak h fun D σ H ⟨W0, W, ρ, S, out, eH, R, em, p⟩ => by
  subst eH
  unfold mPutO at em
  split at em
  · rename_i y S1 e1
    split at em
    · rename_i k S2 e2
      split at em
      · rename_i xs hx
        split at em
        · rename_i j hj
          cases em
          refine ⟨W0, W, ρ, S, y, S1, rfl, R, e1, fun v W1 R1 g1 r1 => ?_⟩
          obtain ⟨a, ea, _⟩ := R1.s i _ hx
          refine ⟨_, ea, W0, W1, ρ, S1, _, S2, rfl, R1, e2, fun w W2 R2 g2 r2 => ?_⟩
          cases r2
          obtain ⟨a', ea', o1, o2, o3, us', eh', ru'⟩ := R2.s i _ hx
          rw [ea] at ea'
          cases Option.some.inj (Option.some.inj ea')
          exact ⟨a, us', k, j, rfl, rfl, eh', by rw [ru'.len, ← ixP_eq]; exact hj, p σ ⟨W2.F, upd W2.H a (.lst (us'.set j v)), W2.θ⟩ ⟨(g1.trans g2).groF.f, (g1.trans g2).groF.t⟩ (R2.ownUpd hx ea (ru'.set j (r1.ext g2)))⟩
        · cases em
      · cases em
    · cases em
  · cases em
/-- x[i] of an own list -/
def mIxO (i : Nat) (mi : ME) : ME := fun ρ S => match mi ρ S with
  | some (.int k, S1) => match ρ[i]? with
    | some (.own (.lst xs)) => match ixP xs.length k with
      | some j => match xs[j]? with
        | some y => some (y, S1)
        | none => none
      | none => none
    | _ => none
  | _ => none
theorem xixO {i : Nat} {mi : ME} (h : PE X e (tOp (rIxL X.K) (tVar i) (tM X.K C mi))) : PE X e (tM X.K C (mIxO i mi)) := PE.weak h fun σ H Q ⟨W0, W, ρ, S, z, S', eH, R, em, q⟩ => by
  subst eH
  unfold mIxO at em
  split at em
  · rename_i k S1 e1
    split at em
    · rename_i xs hx
      split at em
      · rename_i j hj
        split at em
        · rename_i y hy
          cases em
          obtain ⟨a, ea, o1, o2, o3, us, eh, ru⟩ := R.s i _ hx
          refine ⟨_, ea, W0, W, ρ, S, _, S', rfl, R, e1, fun w W1 R1 g1 r1 => ?_⟩
          cases r1
          obtain ⟨a', ea', _, _, _, us', eh', ru'⟩ := R1.s i _ hx
          rw [ea] at ea'
          cases Option.some.inj (Option.some.inj ea')
          obtain ⟨v, ev, rv⟩ := ru'.at hy
          refine ⟨a, us', k, v, rfl, rfl, SqL.of eh', ?_, q v W1 R1 g1 rv⟩
          unfold atI
          rw [ru'.len, ← ixP_eq, hj]
          exact ev
        · cases em
      · cases em
    · cases em
  · cases em
/-- len(x) of an own list -/
def mLenO (i : Nat) : ME := fun ρ S => match ρ[i]? with
  | some (.own (.lst xs)) => some (.int xs.length, S)
  | _ => none
end
end BL

namespace BL
open PySem PySem.Spec PyProof.Rows L2
/-! loops -/
abbrev MI := List SlV → List PV → Option (List PV × List PV)
structure ItOk (K : PySem.W.Frag) (C : Addr) (W : Wd) (J : It) (xs : List PV) : Prop where
  go : ∀ i W1 S, GroF W W1 → Inv1 K C W1 S → i < xs.length → J.go i W1.H
  stop : ∀ W1 S, GroF W W1 → Inv1 K C W1 S → J.stop xs.length W1.H
  yld : ∀ i W1 S v H' x, GroF W W1 → Inv1 K C W1 S → xs[i]? = some x → J.yld i W1.H v H' → ∃ W2, W2.H = H' ∧ Gro W1 W2 ∧ Inv1 K C W2 S ∧ RepW K C W2 v x
def tMI (K : PySem.W.Frag) (C : Addr) (mi : MI) : TI := fun σ H R => ∃ W0 W ρ S xs S', H = W.H ∧ Rel K C W0 W σ ρ S ∧ mi ρ S = some (xs, S') ∧ ∀ J W', Rel K C W0 W' σ ρ S' → Gro W W' → ItOk K C W' J xs → R J W'.H
theorem PI.weak {X : Cx} {tg e : Expr} {t t' : TI} (h : PI X tg e t) (i : ∀ σ H Q, t' σ H Q → t σ H Q) : PI X tg e t' := ⟨fun pins s σ H Q I q => h.run pins s σ H Q I (i σ H Q q)⟩
def forL (t : Tg) (mb : MS) : List PV → List SlV → List PV → Option Ou
  | [], ρ, S => some (.nx ρ S)
  | x :: xs, ρ, S => match t.put x ρ with
    | some ρ1 => match mb ρ1 S with
      | some (.nx ρ2 S2) => forL t mb xs ρ2 S2
      | some (.ct ρ2 S2) => forL t mb xs ρ2 S2
      | some (.bk ρ2 S2) => some (.nx ρ2 S2)
      | some (.rt x S2) => some (.rt x S2)
      | none => none
    | none => none
def mFor (t : Tg) (mi : MI) (mb : MS) : MS := fun ρ S => match mi ρ S with
  | some (xs, S1) => forL t mb xs ρ S1
  | none => none
section
variable {X : Cx} {C : Addr} {e a b : Expr} {es : List Expr} {st : Stmt} {sts rest : List Stmt} {pos : Pos} {m ma mb : ME} {mt : MT} {ms mr ms' : MS} {mes : MA} {mi : MI}
theorem xforT (t : Tg) (h : PS X st (tFor (tMI X.K C mi) (t.g X.K) (tMS X.K C ms))) : PS X st (tMS X.K C (mFor t mi ms)) := PS.weak h fun D σ H ⟨W0, W, ρ, S, out, eH, R, em, p⟩ => by
  subst eH
  unfold mFor at em
  split at em
  · rename_i xs S1 e1
    refine ⟨W0, W, ρ, S, xs, S1, rfl, R, e1, fun J W1 R1 g1 ok => ?_⟩
    refine ⟨fun i m σ H => m = xs.length - i ∧ i ≤ xs.length ∧ ∃ W2 ρ2 S2, H = W2.H ∧ GroF W1 W2 ∧ Rel X.K C W0 W2 σ ρ2 S2 ∧ forL t ms (xs.drop i) ρ2 S2 = some out ∧ Pst X.K C W0 W2 D out, ⟨xs.length, (Nat.sub_zero _).symm, Nat.zero_le _, W1, ρ, S1, rfl, GroF.refl _, R1, em, p.gro g1.groF⟩, ?_⟩
    rintro i m σ H ⟨rfl, hi, W2, ρ2, S2, rfl, g2, R2, e2, p2⟩
    by_cases hlt : i < xs.length
    · refine .inr ⟨ok.go i W2 S2 g2 R2.i hlt, fun σ' H' => ∃ W3 ρ3 S3, H' = W3.H ∧ GroF W1 W3 ∧ Rel X.K C W0 W3 σ' ρ3 S3 ∧ forL t ms (xs.drop (i + 1)) ρ3 S3 = some out ∧ Pst X.K C W0 W3 D out, fun σ' H' n => ⟨xs.length - (i + 1), by omega, rfl, hlt, n⟩, fun v H' y => ?_⟩
      rw [List.drop_eq_getElem_cons hlt] at e2
      obtain ⟨W3, rfl, g3, i3, r3⟩ := ok.yld i W2 S2 v H' xs[i] g2 R2.i (List.getElem?_eq_getElem hlt) y
      have R3 := R2.ext g3 i3
      unfold forL at e2
      split at e2
      · rename_i ρ3 e3
        refine t.ok R3 r3 e3 fun σ' R' _ => ?_
        have p3 := p2.gro g3.groF
        have g3' := g2.trans g3.groF
        split at e2
        · rename_i ρ4 S4 e4
          exact ⟨W0, W3, ρ3, S2, _, rfl, R', e4, fun σ2 W4 g4 R4 => ⟨W4, ρ4, S4, rfl, g3'.trans g4, R4, e2, p3.gro g4⟩⟩
        · rename_i ρ4 S4 e4
          exact ⟨W0, W3, ρ3, S2, _, rfl, R', e4, fun σ2 W4 g4 R4 => ⟨W4, ρ4, S4, rfl, g3'.trans g4, R4, e2, p3.gro g4⟩⟩
        · rename_i ρ4 S4 e4
          cases e2
          exact ⟨W0, W3, ρ3, S2, _, rfl, R', e4, fun σ2 W4 g4 R4 => p3 σ2 W4 g4 R4⟩
        · rename_i x4 S4 e4
          cases e2
          exact ⟨W0, W3, ρ3, S2, _, rfl, R', e4, fun v W4 g4 i4 r4 => p3 v W4 g4 i4 r4⟩
        · cases e2
      · cases e2
    · have e : i = xs.length := by omega
      subst e
      rw [List.drop_length] at e2
      cases e2
      exact .inl ⟨ok.stop W2 S2 g2 R2.i, p2 σ W2 (GroF.refl _) R2⟩
  · cases em
/-- while, at most so many turns -/
def whiL (mt : MT) (ms : MS) : Nat → List SlV → List PV → Option Ou
  | 0, _, _ => none
  | n + 1, ρ, S => match mt ρ S with
    | some (true, S1) => match ms ρ S1 with
      | some (.nx ρ2 S2) => whiL mt ms n ρ2 S2
      | some (.ct ρ2 S2) => whiL mt ms n ρ2 S2
      | some (.bk ρ2 S2) => some (.nx ρ2 S2)
      | some (.rt x S2) => some (.rt x S2)
      | none => none
    | some (false, S1) => some (.nx ρ S1)
    | none => none
theorem xwhi (n : Nat) (h : PS X st (tWhile (tMT X.K C mt) (tMS X.K C ms))) : PS X st (tMS X.K C (whiL mt ms n)) := PS.weak h fun D σ H ⟨W0, W, ρ, S, out, eH, R, em, p⟩ => by
  subst eH
  refine ⟨fun n σ H => ∃ W2 ρ2 S2, H = W2.H ∧ GroF W W2 ∧ Rel X.K C W0 W2 σ ρ2 S2 ∧ whiL mt ms n ρ2 S2 = some out ∧ Pst X.K C W0 W2 D out, ⟨n, W, ρ, S, rfl, GroF.refl _, R, em, p⟩, ?_⟩
  rintro m σ H ⟨W2, ρ2, S2, rfl, g2, R2, e2, p2⟩
  cases m with
  | zero => cases e2
  | succ m =>
    unfold whiL at e2
    split at e2
    · rename_i S3 e3
      refine ⟨W0, W2, ρ2, S2, true, S3, rfl, R2, e3, fun W3 R3 g3 => ?_⟩
      refine iteT ⟨fun σ' H' => ∃ W4 ρ4 S4, H' = W4.H ∧ GroF W W4 ∧ Rel X.K C W0 W4 σ' ρ4 S4 ∧ whiL mt ms m ρ4 S4 = some out ∧ Pst X.K C W0 W4 D out, fun σ' H' n => ⟨m, Nat.lt_succ_self _, n⟩, ?_⟩
      have p3 := p2.gro g3.groF
      have g3' := g2.trans g3.groF
      split at e2
      · rename_i ρ4 S4 e4
        exact ⟨W0, W3, ρ2, S3, _, rfl, R3, e4, fun σ2 W4 g4 R4 => ⟨W4, ρ4, S4, rfl, g3'.trans g4, R4, e2, p3.gro g4⟩⟩
      · rename_i ρ4 S4 e4
        exact ⟨W0, W3, ρ2, S3, _, rfl, R3, e4, fun σ2 W4 g4 R4 => ⟨W4, ρ4, S4, rfl, g3'.trans g4, R4, e2, p3.gro g4⟩⟩
      · rename_i ρ4 S4 e4
        cases e2
        exact ⟨W0, W3, ρ2, S3, _, rfl, R3, e4, fun σ2 W4 g4 R4 => p3 σ2 W4 g4 R4⟩
      · rename_i x4 S4 e4
        cases e2
        exact ⟨W0, W3, ρ2, S3, _, rfl, R3, e4, fun v W4 g4 i4 r4 => p3 v W4 g4 i4 r4⟩
      · cases e2
    · rename_i S3 e3
      cases e2
      exact ⟨W0, W2, ρ2, S2, false, S3, rfl, R2, e3, fun W3 R3 g3 => iteF (p2 σ W3 g3.groF R3)⟩
    · cases e2
/-! comprehensions -/
def wipM (ρ : List SlV) : List Nat → List SlV
  | [] => ρ
  | v :: vs => (wipM ρ vs).set v .un
def lcL (t : Tg) (mt : MT) (me : ME) (ρ : List SlV) : List PV → List PV → Option (List PV × List PV)
  | [], S => some ([], S)
  | x :: xs, S => match t.put x ρ with
    | some ρ1 => match mt ρ1 S with
      | some (true, S1) => match me ρ1 S1 with
        | some (y, S2) => match lcL t mt me ρ xs S2 with
          | some (ys, S3) => some (y :: ys, S3)
          | none => none
        | none => none
      | some (false, S1) => lcL t mt me ρ xs S1
      | none => none
    | none => none
def mLc (t : Tg) (mi : MI) (mt : MT) (me : ME) (vs : List Nat) : ME := fun ρ S => match mi ρ S with
  | some (xs, S1) => match lcL t mt me (wipM ρ vs) xs S1 with
    | some (ys, S2) => if ys.length ≤ 100000 then some (.lst ys, S2) else none
    | none => none
  | none => none
def mYes : MT := fun _ S => some (true, S)
theorem xyes : PTs X [] (tMT X.K C mYes) := ⟨fun pins s σ H Q I ⟨W0, W, ρ, S, b, S', eH, R, em, q⟩ => by
  subst eH
  cases em
  exact pts_nil.run pins s σ W.H Q I (q W R (Gro.refl _))⟩
theorem wip_rel {K : PySem.W.Frag} {W0 W : Wd} {σ : L2.St} {ρ : List SlV} {S : List PV} (R : Rel K C W0 W σ ρ S) : ∀ vs : List Nat, Rel K C W0 W (wipe σ vs) (wipM ρ vs) S
  | [] => R
  | v :: vs => (wip_rel R vs).setu v none
theorem Rel.unapp {K : PySem.W.Frag} {W0 W : Wd} {σ τ : L2.St} {ρ π : List SlV} {S : List PV} (R : Rel K C W0 W (σ ++ τ) (ρ ++ π) S) (l : σ.length = ρ.length) : Rel K C W0 W σ ρ S := by
  refine ⟨R.e, R.i, l, fun j sl h => ?_, fun j k x y a h1 h2 g1 g2 => ?_⟩
  · have hj : j < ρ.length := (List.getElem?_eq_some_iff.mp h).1
    have := R.s j sl (by rw [List.getElem?_append_left hj]; exact h)
    rwa [List.getElem?_append_left (by rw [l]; exact hj)] at this
  · have hj : j < ρ.length := (List.getElem?_eq_some_iff.mp h1).1
    have hk : k < ρ.length := (List.getElem?_eq_some_iff.mp h2).1
    exact R.d j k x y a (by rw [List.getElem?_append_left hj]; exact h1) (by rw [List.getElem?_append_left hk]; exact h2) (by rw [List.getElem?_append_left (by rw [l]; exact hj)]; exact g1) (by rw [List.getElem?_append_left (by rw [l]; exact hk)]; exact g2)
theorem Rel.snoc {K : PySem.W.Frag} {W0 W : Wd} {σ : L2.St} {ρ : List SlV} {S : List PV} {p : Addr} {x : PV} (R : Rel K C W0 W σ ρ S) (o : OwnAt K C W0 W p x) (hd : ∀ (j : Nat) (y : PV), ρ[j]? = some (.own y) → σ[j]? = some (some (.ref p)) → False) : Rel K C W0 W (σ ++ [some (.ref p)]) (ρ ++ [.own x]) S := by
  have g : ∀ (j : Nat) (sl : SlV), (ρ ++ [.own x])[j]? = some sl → (ρ[j]? = some sl ∧ (σ ++ [some (V.ref p)])[j]? = σ[j]?) ∨ (j = ρ.length ∧ sl = .own x ∧ (σ ++ [some (V.ref p)])[j]? = some (some (.ref p))) := fun j sl h => by
    by_cases c : j < ρ.length
    · rw [List.getElem?_append_left c] at h
      exact .inl ⟨h, List.getElem?_append_left (by rw [R.l]; exact c)⟩
    · rw [List.getElem?_append_right (by omega)] at h
      have e : j = ρ.length := by
        have := (List.getElem?_eq_some_iff.mp h).1
        simp at this
        omega
      subst e
      rw [Nat.sub_self] at h
      cases h
      refine .inr ⟨rfl, rfl, ?_⟩
      rw [← R.l, List.getElem?_append_right (Nat.le_refl _), Nat.sub_self]
      rfl
  refine ⟨R.e, R.i, by rw [List.length_append, List.length_append, R.l]; rfl, fun j sl h => ?_, fun j k y z a h1 h2 g1 g2 => ?_⟩
  · rcases g j sl h with ⟨h1, h2⟩ | ⟨_, h1, h2⟩
    · rw [h2]
      exact R.s j sl h1
    · rw [h2, h1]
      exact ⟨p, rfl, o⟩
  · rcases g j _ h1 with ⟨a1, b1⟩ | ⟨a1, _, b1⟩ <;> rcases g k _ h2 with ⟨a2, b2⟩ | ⟨a2, _, b2⟩
    · rw [b1] at g1
      rw [b2] at g2
      exact R.d j k y z a a1 a2 g1 g2
    · rw [b1] at g1
      rw [b2] at g2
      cases Option.some.inj (Option.some.inj g2)
      exact (hd j y a1 g1).elim
    · rw [b1] at g1
      rw [b2] at g2
      cases Option.some.inj (Option.some.inj g1)
      exact (hd k z a2 g2).elim
    · rw [a1, a2]
theorem Rel.snocD {K : PySem.W.Frag} {W0 W : Wd} {σ : L2.St} {ρ : List SlV} {S : List PV} {p : Addr} {x : PV} (R : Rel K C W0 W (σ ++ [some (.ref p)]) (ρ ++ [.own x]) S) (l : σ.length = ρ.length) : OwnAt K C W0 W p x ∧ ∀ (j : Nat) (y : PV), ρ[j]? = some (.own y) → σ[j]? = some (some (.ref p)) → False := by
  have e1 : (ρ ++ [SlV.own x])[ρ.length]? = some (.own x) := by rw [List.getElem?_append_right (Nat.le_refl _), Nat.sub_self]; rfl
  have e2 : (σ ++ [some (V.ref p)])[ρ.length]? = some (some (.ref p)) := by rw [← l, List.getElem?_append_right (Nat.le_refl _), Nat.sub_self]; rfl
  constructor
  · obtain ⟨a, ea, o⟩ := R.s _ _ e1
    rw [e2] at ea
    cases Option.some.inj (Option.some.inj ea)
    exact o
  · intro j y h1 h2
    have hj : j < ρ.length := (List.getElem?_eq_some_iff.mp h1).1
    have := R.d j ρ.length y x p (by rw [List.getElem?_append_left hj]; exact h1) e1 (by rw [List.getElem?_append_left (by rw [l]; exact hj)]; exact h2) e2
    omega
/-- a comprehension's reading, from the trees -/
theorem lc_lift {K : PySem.W.Frag} {t : Tg} {vs : List Nat} {σ : L2.St} {H : Hp} {Q : VK} (hv : ∀ i ∈ t.ids, i ∈ vs) (h : tM K C (mLc t mi mt ma vs) σ H Q) : tLc (tMI K C mi) (t.g K) (tMT K C mt) (tM K C ma) vs σ H Q := by
  obtain ⟨W0, W, ρ, S, z, S', eH, R, em, q⟩ := h
  subst eH
  unfold mLc at em
  split at em
  · rename_i xs S1 e1
    split at em
    · rename_i ys S2 e2
      split at em
      · rename_i hl
        cases em
        refine ⟨W0, W, ρ, S, xs, S1, rfl, R, e1, fun J W1 R1 g1 ok D nD => ?_⟩
        have lw : (wipe σ vs).length = (wipM ρ vs).length := (wip_rel R1 vs).l
        -- what holds ahead of turn i
        refine ⟨fun i m H => m = xs.length - i ∧ i ≤ xs.length ∧ ∃ W2 S3 acc zs, H = W2.H ∧ Gro W1 W2 ∧ Rel K C W0 W2 (σ ++ [some (.ref D)]) (ρ ++ [.own (.lst acc)]) S3 ∧ lcL t mt ma (wipM ρ vs) (xs.drop i) S3 = some (zs, S') ∧ acc ++ zs = ys, ⟨xs.length, (Nat.sub_zero _).symm, Nat.zero_le _, ?_⟩, ?_⟩
        · obtain ⟨g2, R2, o2, d2⟩ := laidO (us := []) (ys := []) R1 .nil nD
          exact ⟨_, S1, [], ys, rfl, g2, R2.snoc o2 d2, e2, rfl⟩
        rintro i m H ⟨rfl, hi, W2, S3, acc, zs, rfl, g2, R2, e3, ez⟩
        have R2' := R2.unapp R.l
        obtain ⟨o2, d2⟩ := R2.snocD R.l
        have back : ∀ {W3 : Wd} {S4 : List PV}, Gro W2 W3 → Inv1 K C W3 S4 → Rel K C W0 W3 (σ ++ [some (.ref D)]) (ρ ++ [.own (.lst acc)]) S4 := fun g i => R2.ext g i
        by_cases hlt : i < xs.length
        · refine .inr ⟨ok.go i W2 S3 g2.groF R2.i hlt, fun H' => ∃ W2 S3 acc zs, H' = W2.H ∧ Gro W1 W2 ∧ Rel K C W0 W2 (σ ++ [some (.ref D)]) (ρ ++ [.own (.lst acc)]) S3 ∧ lcL t mt ma (wipM ρ vs) (xs.drop (i + 1)) S3 = some (zs, S') ∧ acc ++ zs = ys, fun H' n => ⟨xs.length - (i + 1), by omega, rfl, hlt, n⟩, fun v H' y => ?_⟩
          rw [List.drop_eq_getElem_cons hlt] at e3
          obtain ⟨W3, rfl, g3, i3, r3⟩ := ok.yld i W2 S3 v H' xs[i] g2.groF R2.i (List.getElem?_eq_getElem hlt) y
          have R3 := (wip_rel R2' vs).ext g3 i3
          unfold lcL at e3
          split at e3
          · rename_i ρ3 e4
            refine t.ok R3 r3 e4 fun σ' R' w => ⟨by rw [w vs hv]; exact wipe_wipe σ vs, ?_⟩
            split at e3
            · rename_i S4 e5
              split at e3
              · rename_i y4 S5 e6
                split at e3
                · rename_i ys5 S6 e7
                  cases e3
                  refine ⟨W0, W3, ρ3, S3, true, S4, rfl, R', e5, fun W4 R4 g4 => iteT ?_⟩
                  refine ⟨W0, W4, ρ3, S4, y4, S5, rfl, R4, e6, fun u W5 R5 g5 r5 => ?_⟩
                  have g25 := (g3.trans g4).trans g5
                  obtain ⟨a', ea', o1, o2', o3, us, eh, ru⟩ := (back g25 R5.i).s ρ.length (.own (.lst acc)) (by rw [List.getElem?_append_right (Nat.le_refl _), Nat.sub_self]; rfl)
                  have e2' : (σ ++ [some (V.ref D)])[ρ.length]? = some (some (.ref D)) := by rw [← R.l, List.getElem?_append_right (Nat.le_refl _), Nat.sub_self]; rfl
                  rw [e2'] at ea'
                  cases Option.some.inj (Option.some.inj ea')
                  have hlen : acc.length < sizeLine := by
                    have : ys.length ≤ 100000 := hl
                    rw [← ez, List.length_append] at this
                    exact Nat.lt_of_le_of_lt (Nat.le_trans (Nat.le_add_right _ _) this) (by decide)
                  refine ⟨us, eh, by rw [ru.len]; exact hlen, ⟨W5.F, upd W5.H D (.lst (us ++ [u])), W5.θ⟩, S5, acc ++ [y4], ys5, rfl, ?_, ?_, e7, by rw [List.append_assoc]; exact ez⟩
                  · have gg := g2.trans g25
                    refine ⟨gg.f, gg.t, fun p o e n => ?_, fun p o e => ?_, gg.n⟩
                    · show upd W5.H D _ p = _
                      rw [upd_ne (ne_of_none e nD)]
                      exact gg.h p o e n
                    · obtain ⟨o', e'⟩ := gg.k p o e
                      exact ⟨o', by show upd W5.H D _ p = _; rw [upd_ne (ne_of_none e nD)]; exact e'⟩
                  · have := (back g25 R5.i).ownUpd (i := ρ.length) (a := D) (us := us ++ [u]) (ys := acc ++ [y4]) (by rw [List.getElem?_append_right (Nat.le_refl _), Nat.sub_self]; rfl) e2' (ru.app (.cons r5 .nil))
                    rw [List.set_append_right _ _ (Nat.le_refl _), Nat.sub_self] at this
                    exact this
                · cases e3
              · cases e3
            · rename_i S4 e5
              refine ⟨W0, W3, ρ3, S3, false, S4, rfl, R', e5, fun W4 R4 g4 => iteF ?_⟩
              have g24 := g3.trans g4
              exact ⟨W4, S4, acc, zs, rfl, g2.trans g24, back g24 R4.i, e3, ez⟩
            · cases e3
          · cases e3
        · have e : i = xs.length := by omega
          subst e
          rw [List.drop_length] at e3
          cases e3
          rw [List.append_nil] at ez
          subst ez
          refine .inl ⟨ok.stop W2 S' g2.groF R2.i, ?_⟩
          have h' : (ρ ++ [SlV.own (.lst acc)])[ρ.length]? = some (.own (.lst acc)) := by rw [List.getElem?_append_right (Nat.le_refl _), Nat.sub_self]; rfl
          obtain ⟨W3, eH3, g3, R3, gF⟩ := R2.frz h'
          rw [List.set_append_right _ _ (Nat.le_refl _), Nat.sub_self] at R3
          obtain ⟨u, eu, ru⟩ := R3.s ρ.length (.val (.lst acc)) (by rw [List.getElem?_append_right (Nat.le_refl _), Nat.sub_self]; rfl)
          have e2' : (σ ++ [some (V.ref D)])[ρ.length]? = some (some (.ref D)) := by rw [← R.l, List.getElem?_append_right (Nat.le_refl _), Nat.sub_self]; rfl
          rw [e2'] at eu
          cases Option.some.inj (Option.some.inj eu)
          have gg : Gro W1 W3 := gF W1 g2 fun a ea => by
            rw [e2'] at ea
            cases Option.some.inj (Option.some.inj ea)
            exact nD
          rw [← eH3]
          exact q _ W3 (R3.unapp R.l) (g1.trans gg) ru
      · cases em
    · cases em
  · cases em
where
  wipe_wipe (σ : L2.St) : ∀ vs : List Nat, wipe (wipe σ vs) vs = wipe σ vs := fun vs => by
    have h : ∀ (us : List Nat) (τ : L2.St), (∀ v ∈ us, τ[v]? = some none ∨ τ[v]? = none) → wipe τ us = τ := fun us => by
      induction us with
      | nil => intro τ _; rfl
      | cons u us ih =>
        intro τ hτ
        show (wipe τ us).set u none = τ
        rw [ih τ fun v hv => hτ v (List.mem_cons_of_mem _ hv)]
        rcases hτ u List.mem_cons_self with h | h
        · apply List.ext_getElem?
          intro j
          by_cases c : u = j
          · subst c
            rw [List.getElem?_set_self (List.getElem?_eq_some_iff.mp h).1, h]
          · rw [List.getElem?_set_ne c]
        · exact List.set_eq_of_length_le (by simpa using h)
    refine h vs _ fun v hv => ?_
    have : ∀ (us : List Nat) (v : Nat), v ∈ us → (wipe σ us)[v]? = some none ∨ (wipe σ us)[v]? = none := fun us => by
      induction us with
      | nil => intro v h; cases h
      | cons u us ih =>
        intro v hv
        show ((wipe σ us).set u none)[v]? = _ ∨ ((wipe σ us).set u none)[v]? = _
        by_cases c : u = v
        · subst c
          by_cases hl : u < (wipe σ us).length
          · exact .inl (List.getElem?_set_self hl)
          · exact .inr (List.getElem?_eq_none (by rw [List.length_set]; omega))
        · rw [List.getElem?_set_ne c]
          rcases List.mem_cons.mp hv with e | hv
          · exact (c e.symm).elim
          · exact ih v hv
    exact this vs v hv
end
end BL

namespace BL
open PySem PySem.Spec PyProof.Rows L2
/-! ### what written expressions give, by data -/
section
variable {K : PySem.W.Frag}
mutual
theorem dpm {H H' : Hp} (s : Same H H') : ∀ {v : V} {d : PyData}, Dp K H v d → Dp K H' v d
  | _, _, .non => .non
  | _, _, .bl b => .bl b
  | _, _, .int i => .int i
  | _, _, .str x => .str x
  | _, _, .lst h a => .lst (s.seq h) (dpam s a)
  | _, _, .tup h a => .tup (s.seT h) (dpam s a)
theorem dpam {H H' : Hp} (s : Same H H') : ∀ {vs : List V} {ds : List PyData}, DpAll K H vs ds → DpAll K H' vs ds
  | _, _, .nil => .nil
  | _, _, .cons h a => .cons (dpm s h) (dpam s a)
end
theorem dpa_len {H : Hp} : ∀ {vs : List V} {ds : List PyData}, DpAll K H vs ds → vs.length = ds.length
  | _, _, .nil => rfl
  | _, _, .cons h a => congrArg Nat.succ (dpa_len a)
theorem dpa_app {H : Hp} {us : List V} {es : List PyData} : ∀ {vs : List V} {ds : List PyData}, DpAll K H vs ds → DpAll K H us es → DpAll K H (vs ++ us) (ds ++ es)
  | _, _, .nil, b => b
  | _, _, .cons h a, b => .cons h (dpa_app a b)
def okd : Nat → PyData → Bool
  | 0, .list _ => false
  | 0, .tuple _ => false
  | n + 1, .list ds => decide (ds.length ≤ 1000) && ds.all (okd n)
  | n + 1, .tuple ds => decide (ds.length ≤ 1000) && ds.all (okd n)
  | _, _ => true
theorem dpa_at {H : Hp} {R : V → V → Prop} : ∀ {vs us : List V} {ds : List PyData}, DpAll K H vs ds → DpAll K H us ds → (∀ d ∈ ds, ∀ x y, Dp K H x d → Dp K H y d → R x y) → ∀ (i : Nat) (x y : V), vs[i]? = some x → us[i]? = some y → R x y
  | _, _, _, .nil, .nil, _, _, _, _, h, _ => by simp at h
  | _, _, _, .cons h a, .cons g b, r, 0, x, y, e1, e2 => by
    have e1 := Option.some.inj e1
    have e2 := Option.some.inj e2
    subst e1
    subst e2
    exact r _ (List.mem_cons_self) _ _ h g
  | _, _, _, .cons h a, .cons g b, r, i + 1, x, y, e1, e2 => dpa_at a b (fun d m => r d (List.mem_cons_of_mem _ m)) i x y e1 e2
theorem eqs_dp {H : Hp} : ∀ (n : Nat) (d : PyData) (x y : V), okd n d = true → Dp K H x d → Dp K H y d → Eqs K H n x y := by
  intro n
  induction n with
  | zero =>
    intro d x y h a b
    cases a with
    | non => cases b; exact .non 0
    | bl c => cases b; exact .bl 0 c
    | int c => cases b; exact .int 0 c
    | str c => cases b; exact .str 0 c
    | lst _ _ => cases h
    | tup _ _ => cases h
  | succ n ih =>
    intro d x y h a b
    cases a with
    | non => cases b; exact .non _
    | bl c => cases b; exact .bl _ c
    | int c => cases b; exact .int _ c
    | str c => cases b; exact .str _ c
    | lst s1 a1 =>
      cases b with
      | lst s2 a2 =>
        unfold okd at h
        rw [Bool.and_eq_true, decide_eq_true_eq, List.all_eq_true] at h
        exact .lst s1 s2 (by rw [dpa_len a1, dpa_len a2]) (by rw [dpa_len a1]; exact h.1) (dpa_at a1 a2 fun d m x y p q => ih d x y (h.2 d m) p q)
    | tup s1 a1 =>
      cases b with
      | tup s2 a2 =>
        unfold okd at h
        rw [Bool.and_eq_true, decide_eq_true_eq, List.all_eq_true] at h
        exact .tup s1 s2 (by rw [dpa_len a1, dpa_len a2]) (by rw [dpa_len a1]; exact h.1) (dpa_at a1 a2 fun d m x y p q => ih d x y (h.2 d m) p q)
abbrev RT := Hp → V → Prop
/-- te gives a value of which R holds, whatever is laid beside; what stood stands -/
def GV (te : TE) (σ : L2.St) (H : Hp) (R : RT) : Prop := ∀ H1, Same H H1 → ∀ Q : VK, (∀ v H', Same H1 H' → R H' v → Q v H') → te σ H1 Q
def GA (K : PySem.W.Frag) (ta : TA) (σ : L2.St) (H : Hp) (ds : List PyData) : Prop := ∀ H1, Same H H1 → ∀ Q : List V → Hp → Prop, (∀ vs H', Same H1 H' → DpAll K H' vs ds → Q vs H') → ta σ H1 Q
abbrev RD (K : PySem.W.Frag) (d : PyData) : RT := fun H v => Dp K H v d
abbrev RL (K : PySem.W.Frag) (ds : List PyData) : RT := fun H v => ∃ l xs, v = .ref l ∧ H l = some (.lst xs) ∧ DpAll K H xs ds
theorem rl_mono {ds : List PyData} {H H' : Hp} {v : V} (s : Same H H') (h : RL K ds H v) : RL K ds H' v := by
  obtain ⟨l, xs, e, f, g⟩ := h
  exact ⟨l, xs, e, s _ _ f, dpam s g⟩
theorem rl_rd {ds : List PyData} {H : Hp} {v : V} (h : RL K ds H v) : Dp K H v (.list ds) := by
  obtain ⟨l, xs, rfl, f, g⟩ := h
  exact .lst (SqL.of f) g
variable {σ : L2.St} {H : Hp} {te ta tb : TE}
theorem gv_imp {R R' : RT} (g : GV te σ H R) (i : ∀ H v, R H v → R' H v) : GV te σ H R' := fun H1 s Q q => g H1 s Q fun v H' s' r => q v H' s' (i _ _ r)
theorem gv_int (i : Int) : GV (tC (.int i)) σ H (RD K (.int i)) := fun H1 _ Q q => q _ H1 (Same.refl _) (.int i)
theorem gv_non : GV (tC .non) σ H (RD K .none) := fun H1 _ Q q => q _ H1 (Same.refl _) .non
theorem gv_bl (b : Bool) : GV (tC (.bl b)) σ H (RD K (.bool b)) := fun H1 _ Q q => q _ H1 (Same.refl _) (.bl b)
theorem gv_str (x : Str) : GV (tC (.str x)) σ H (RD K (.str x)) := fun H1 _ Q q => q _ H1 (Same.refl _) (.str x)
theorem gv_var {i : Nat} {v : V} {R : RT} (e : σ[i]? = some (some v)) (r : ∀ H', Same H H' → R H' v) : GV (tVar i) σ H R := fun H1 s Q q => ⟨v, e, q v H1 (Same.refl _) (r H1 s)⟩
theorem gv_neg {i : Int} (g : GV te σ H (RD K (.int i))) : GV (tUn (rU fun i => .int (-i)) te) σ H (RD K (.int (-i))) := fun H1 s Q q => g H1 s _ fun v H' s' r => by
  cases r
  exact ⟨_, rfl, q _ _ s' (.int _)⟩
theorem gv_sub {i j : Int} (g : GV ta σ H (RD K (.int i))) (f : GV tb σ H (RD K (.int j))) : GV (tOp (rI0 fun i j => .int (i - j)) ta tb) σ H (RD K (.int (i - j))) := fun H1 s Q q => g H1 s _ fun v H2 s2 r => f H2 (s.trans s2) _ fun u H3 s3 t => by
  cases r
  cases t
  exact ⟨_, _, rfl, rfl, q _ _ (s2.trans s3) (.int _)⟩
theorem gv_add {i j : Int} (g : GV ta σ H (RD K (.int i))) (f : GV tb σ H (RD K (.int j))) : GV (tOp (rI0 fun i j => .int (i + j)) ta tb) σ H (RD K (.int (i + j))) := fun H1 s Q q => g H1 s _ fun v H2 s2 r => f H2 (s.trans s2) _ fun u H3 s3 t => by
  cases r
  cases t
  exact ⟨_, _, rfl, rfl, q _ _ (s2.trans s3) (.int _)⟩
theorem gv_pow {i j : Int} (g : GV ta σ H (RD K (.int i))) (f : GV tb σ H (RD K (.int j))) (c : CPow i j) : GV (tOp (rI CPow fun i j => .int (i ^ j.toNat)) ta tb) σ H (RD K (.int (i ^ j.toNat))) := fun H1 s Q q => g H1 s _ fun v H2 s2 r => f H2 (s.trans s2) _ fun u H3 s3 t => by
  cases r
  cases t
  exact ⟨_, _, rfl, rfl, c, q _ _ (s2.trans s3) (.int _)⟩
theorem gv_mul {i j : Int} (g : GV ta σ H (RD K (.int i))) (f : GV tb σ H (RD K (.int j))) (c : CMul i j) : GV (tOp (rI CMul fun i j => .int (i * j)) ta tb) σ H (RD K (.int (i * j))) := fun H1 s Q q => g H1 s _ fun v H2 s2 r => f H2 (s.trans s2) _ fun u H3 s3 t => by
  cases r
  cases t
  exact ⟨_, _, rfl, rfl, c, q _ _ (s2.trans s3) (.int _)⟩
theorem ga_nil : GA K tNil σ H [] := fun H1 _ Q q => q [] H1 (Same.refl _) .nil
theorem ga_cons {d : PyData} {ds : List PyData} {t : TA} (g : GV te σ H (RD K d)) (f : GA K t σ H ds) : GA K (tCons te t) σ H (d :: ds) := fun H1 s Q q => g H1 s _ fun v H2 s2 r => f H2 (s.trans s2) _ fun us H3 s3 t => q _ _ (s2.trans s3) (.cons (dpm s3 r) t)
theorem gv_tup {ds : List PyData} {t : TA} (f : GA K t σ H ds) (hl : ds.length ≤ sizeLine) : GV (tTup t) σ H (RD K (.tuple ds)) := fun H1 s Q q => f H1 s _ fun vs H2 s2 r => ⟨by rw [dpa_len r]; exact hl, fun p np => q _ _ (s2.trans (same_upd np)) (.tup (SqT.of upd_same) (dpam (same_upd np) r))⟩
theorem gv_lst {ds : List PyData} {t : TA} (f : GA K t σ H ds) (hl : ds.length ≤ sizeLine) : GV (tLst t) σ H (RL K ds) := fun H1 s Q q => f H1 s _ fun vs H2 s2 r => ⟨by rw [dpa_len r]; exact hl, fun p np => q _ _ (s2.trans (same_upd np)) ⟨p, vs, rfl, upd_same, dpam (same_upd np) r⟩⟩
theorem gv_cat {ds es : List PyData} (g : GV ta σ H (RL K ds)) (f : GV tb σ H (RL K es)) (hl : ds.length + es.length ≤ sizeLine) : GV (tOp rCat ta tb) σ H (RL K (ds ++ es)) := fun H1 s Q q => g H1 s _ fun v H2 s2 r => f H2 (s.trans s2) _ fun u H3 s3 t => by
  obtain ⟨l, xs, rfl, e1, a1⟩ := rl_mono s3 r
  obtain ⟨m, ys, rfl, e2, a2⟩ := t
  exact ⟨l, m, xs, ys, rfl, rfl, e1, e2, by rw [dpa_len a1, dpa_len a2]; exact hl, fun p np => q _ _ ((s2.trans s3).trans (same_upd np)) ⟨p, _, rfl, upd_same, dpam (same_upd np) (dpa_app a1 a2)⟩⟩
theorem gv_rl {ds : List PyData} (g : GV te σ H (RL K ds)) : GV te σ H (RD K (.list ds)) := gv_imp g fun _ _ => rl_rd
/-- x = e; S: the slots behind it -/
theorem asg {R : RT} {i : Nat} {D : Ends} (S : V → L2.St) (e : ∀ v, σ.set i (some v) = S v) (g : GV te σ H R) (k : ∀ v H', Same H H' → R H' v → D.nx (S v) H') : tAsg te (gName i) D σ H := g H (Same.refl _) _ fun v H' s r => by
  show D.nx (σ.set i (some v)) H'
  rw [e]
  exact k v H' s r
theorem par {R R' : RT} {i j : Nat} {D : Ends} (S : V → V → L2.St) (e : ∀ v w, (σ.set i (some v)).set j (some w) = S v w) (g : GV ta σ H R) (h : GV tb σ H R') (m : ∀ H H' v, Same H H' → R H v → R H' v) (k : ∀ v w H', Same H H' → R H' v → R' H' w → D.nx (S v w) H') : tPar i j (tCons ta (tCons tb tNil)) D σ H := g H (Same.refl _) _ fun v H1 s1 r => h H1 s1 _ fun w H2 s2 r2 => ⟨v, w, rfl, by
  rw [e]
  exact k v w H2 (s1.trans s2) (m _ _ _ s2 r) r2⟩
/-- the two sides read alike -/
theorem gv_same {d : PyData} {n : Nat} (g : GV ta σ H (RD K d)) (f : GV tb σ H (RD K d)) (ok : okd n d = true) : GV (tCall (spSame K (n + 1)) [] C8.E0 (tCons ta (tCons tb tNil))) σ H (RD K (.bool true)) := fun H1 s Q q => g H1 s _ fun v H2 s2 r => f H2 (s.trans s2) _ fun u H3 s3 t =>
  ⟨v, u, rfl, eqs_dp n d v u ok (dpm s3 r) t, fun H4 s4 => q _ _ ((s2.trans s3).trans s4) (.bl true)⟩
end
end BL

namespace BL
open PySem PySem.Spec PyProof.Rows L2
/-! values -/
section
variable {K : PySem.W.Frag} {C : Addr}
def fAdd (_ : List PV) : PV → PV → Option PV
  | .int i, .int j => some (.int (i + j))
  | .lst a, .lst b => if a.length + b.length ≤ 100000 then some (.lst (a ++ b)) else none
  | .tup a, .tup b => if a.length + b.length ≤ 100000 then some (.tup (a ++ b)) else none
  | .str a, .str b => if a.length + b.length ≤ 100000 then some (.str (a ++ b)) else none
  | _, _ => none
abbrev rAddS : R2 := fun x y H Q => ∃ i j, x = .str i ∧ y = .str j ∧ i.length + j.length ≤ sizeLine ∧ Q (.str (i ++ j)) H
abbrev rAddP (K : PySem.W.Frag) : R2 := fun x y H Q => (rI0 fun i j => .int (i + j)) x y H Q ∨ (fun x y H Q => rCat x y H Q ∨ (fun x y H Q => rCatA K x y H Q ∨ rAddS x y H Q) x y H Q) x y H Q
theorem op_addP {X : Cx} : OpR X (binaryOp .Add) (rAddP X.K) := op_add.or (op_cat.or (op_catA.or op_add_str))
theorem l_add : LR2 K C (rAddP K) fAdd := fun W S v u x y z Q i rx ry e q => by
  unfold fAdd at e
  split at e
  · cases e
    cases rx
    cases ry
    exact .inl ⟨_, _, rfl, rfl, q _ W (Gro.refl _) i (.int _)⟩
  · split at e
    · rename_i a b hl
      cases e
      cases rx with
      | lst h1 a1 =>
        cases ry with
        | lst h2 a2 =>
          refine .inr (.inl ⟨_, _, _, _, rfl, rfl, i.s _ _ h1, i.s _ _ h2, by rw [a1.len, a2.len]; exact Nat.le_trans hl lim, fun p np => ?_⟩)
          obtain ⟨g, i2⟩ := laid (.lst (_ ++ _)) i np
          exact q _ _ g i2 (.lst upd_same ((a1.app a2).ext g))
    · cases e
  · split at e
    · rename_i a b hl
      cases e
      cases rx with
      | tup h1 a1 =>
        cases ry with
        | tup h2 a2 =>
          refine .inr (.inr (.inl ?_))
          refine ⟨_, _, _, _, rfl, rfl, i.s.seT h1, i.s.seT h2, by rw [a1.len, a2.len]; exact Nat.le_trans hl lim, ?_⟩
          refine ⟨fun hn => ?_, fun hn hm => ?_, fun hn hm p np => ?_⟩
          · subst hn
            cases a1
            exact q _ W (Gro.refl _) i (.tup h2 a2)
          · subst hm
            cases a2
            rw [List.append_nil] at q
            exact q _ W (Gro.refl _) i (.tup h1 a1)
          · obtain ⟨g, i2⟩ := laid (.tup (_ ++ _)) i np
            exact q _ _ g i2 (.tup (SqT.of upd_same) ((a1.app a2).ext g))
    · cases e
  · split at e
    · rename_i a b hl
      cases e
      cases rx
      cases ry
      exact .inr (.inr (.inr ⟨_, _, rfl, rfl, Nat.le_trans hl lim, q _ W (Gro.refl _) i (.str _)⟩))
    · cases e
  · cases e
def fSub (_ : List PV) : PV → PV → Option PV
  | .int i, .int j => some (.int (i - j))
  | _, _ => none
theorem l_sub : LR2 K C (rI0 fun i j => .int (i - j)) fSub := fun W S v u x y z Q i rx ry e q => by
  unfold fSub at e
  split at e
  · cases e
    cases rx
    cases ry
    exact ⟨_, _, rfl, rfl, q _ W (Gro.refl _) i (.int _)⟩
  · cases e
theorem log2_lt {i : Int} {k : Nat} (h : i.natAbs < 2 ^ k) : i.natAbs.log2 ≤ k := by
  by_cases z : i.natAbs = 0
  · rw [z]
    exact Nat.zero_le _
  · exact Nat.le_of_lt ((Nat.log2_lt z).mpr h)
def fMul (_ : List PV) : PV → PV → Option PV
  | .int i, .int j => if i.natAbs < 2 ^ 64 ∨ j.natAbs < 2 ^ 64 ∨ (i.natAbs < 2 ^ 4000 ∧ j.natAbs < 2 ^ 4000) then some (.int (i * j)) else none
  | _, _ => none
abbrev rMulP : R2 := fun x y H Q => (rI CMul fun i j => .int (i * j)) x y H Q ∨ (rI CMulW fun i j => .int (i * j)) x y H Q
theorem op_mulP {X : Cx} : OpR X (binaryOp .Mult) rMulP := BL.OpR.or op_mul op_mulW
theorem l_mul : LR2 K C rMulP fMul := fun W S v u x y z Q i rx ry e q => by
  unfold fMul at e
  split at e
  · split at e
    · rename_i h
      cases e
      cases rx
      cases ry
      rcases h with h | h | h
      · exact .inl ⟨_, _, rfl, rfl, .inl ⟨by omega, by omega⟩, q _ W (Gro.refl _) i (.int _)⟩
      · exact .inl ⟨_, _, rfl, rfl, .inr ⟨by omega, by omega⟩, q _ W (Gro.refl _) i (.int _)⟩
      · refine .inr ⟨_, _, rfl, rfl, ?_, q _ W (Gro.refl _) i (.int _)⟩
        have h1 := log2_lt h.1
        have h2 := log2_lt h.2
        unfold CMulW
        omega
    · cases e
  · cases e
def fDiv (_ : List PV) : PV → PV → Option PV
  | .int i, .int j => if 0 < j ∧ j.natAbs < 2 ^ 4000 then some (.int (i / j)) else none
  | _, _ => none
theorem l_div : LR2 K C (rI CDivW fun i j => .int (i / j)) fDiv := fun W S v u x y z Q i rx ry e q => by
  unfold fDiv at e
  split at e
  · split at e
    · rename_i h
      cases e
      cases rx
      cases ry
      refine ⟨_, _, rfl, rfl, ⟨h.1, ?_⟩, q _ W (Gro.refl _) i (.int _)⟩
      have h2 := log2_lt h.2
      omega
    · cases e
  · cases e
def fMod (_ : List PV) : PV → PV → Option PV
  | .int i, .int j => if 0 < j then some (.int (i % j)) else none
  | _, _ => none
theorem l_mod : LR2 K C (rI (fun _ j => 0 < j) fun i j => .int (i % j)) fMod := fun W S v u x y z Q i rx ry e q => by
  unfold fMod at e
  split at e
  · split at e
    · rename_i h
      cases e
      cases rx
      cases ry
      exact ⟨_, _, rfl, rfl, h, q _ W (Gro.refl _) i (.int _)⟩
    · cases e
  · cases e
def fPow (_ : List PV) : PV → PV → Option PV
  | .int i, .int j => if 0 ≤ j ∧ j ≤ 1000000 ∧ i.natAbs < 2 ^ 64 then some (.int (i ^ j.toNat)) else none
  | _, _ => none
theorem l_pow : LR2 K C (rI CPow fun i j => .int (i ^ j.toNat)) fPow := fun W S v u x y z Q i rx ry e q => by
  unfold fPow at e
  split at e
  · split at e
    · rename_i h
      cases e
      cases rx
      cases ry
      exact ⟨_, _, rfl, rfl, h, q _ W (Gro.refl _) i (.int _)⟩
    · cases e
  · cases e
def fNeg (_ : List PV) : PV → Option PV
  | .int i => some (.int (-i))
  | _ => none
theorem l_neg : LR1 K C (rU fun i => .int (-i)) fNeg := fun W S v x z Q i rx e q => by
  unfold fNeg at e
  split at e
  · cases e
    cases rx
    exact ⟨_, rfl, q _ W (Gro.refl _) i (.int _)⟩
  · cases e
/-! comparing -/
def fCmp (p : Int → Int → Bool) (_ : List PV) : PV → PV → Option PV
  | .int i, .int j => some (.bl (p i j))
  | _, _ => none
theorem l_cmp {p : Int → Int → Bool} : LR2 K C (rI0 fun i j => .bl (p i j)) (fCmp p) := fun W S v u x y z Q i rx ry e q => by
  unfold fCmp at e
  split at e
  · cases e
    cases rx
    cases ry
    exact ⟨_, _, rfl, rfl, q _ W (Gro.refl _) i (.bl _)⟩
  · cases e
abbrev fLt := fCmp fun i j => decide (i < j)
abbrev fLe := fCmp fun i j => decide (i ≤ j)
abbrev fGt := fCmp fun i j => decide (j < i)
abbrev fGe := fCmp fun i j => decide (j ≤ i)
def PV.isNon : PV → Bool
  | .non => true
  | _ => false
theorem Rep.isNon {F : Hp} {θ : List Addr} {v : V} {x : PV} (r : Rep K C F θ v x) : decide (v = .non) = x.isNon := by
  cases r <;> rfl
def fIs (_ : List PV) : PV → PV → Option PV
  | x, .non => some (.bl x.isNon)
  | _, _ => none
def fNot (_ : List PV) : PV → PV → Option PV
  | x, .non => some (.bl (!x.isNon))
  | _, _ => none
theorem l_is : LR2 K C (fun x y H Q => y = .non ∧ Q (.bl (decide (x = .non))) H) fIs := fun W S v u x y z Q i rx ry e q => by
  unfold fIs at e
  split at e
  · cases e
    cases ry
    refine ⟨rfl, ?_⟩
    rw [rx.isNon]
    exact q _ W (Gro.refl _) i (.bl _)
  · cases e
theorem l_not : LR2 K C (fun x y H Q => y = .non ∧ Q (.bl (!decide (x = .non))) H) fNot := fun W S v u x y z Q i rx ry e q => by
  unfold fNot at e
  split at e
  · cases e
    cases ry
    refine ⟨rfl, ?_⟩
    rw [rx.isNon]
    exact q _ W (Gro.refl _) i (.bl _)
  · cases e
/-- plain data in a tree -/
def PV.toD : PV → Option PyData
  | .non => some .none
  | .bl b => some (.bool b)
  | .int i => some (.int i)
  | .str x => some (.str x)
  | .lst xs => match toDs xs with
    | some ds => some (.list ds)
    | none => none
  | .tup xs => match toDs xs with
    | some ds => some (.tuple ds)
    | none => none
  | _ => none
where toDs : List PV → Option (List PyData)
  | [] => some []
  | x :: xs => match PV.toD x, toDs xs with
    | some d, some ds => some (d :: ds)
    | _, _ => none
mutual
theorem Rep.dp {F : Hp} {θ : List Addr} : ∀ {v : V} {x : PV} {d : PyData}, Rep K C F θ v x → x.toD = some d → Dp K F v d
  | _, _, _, .non, e => by unfold PV.toD at e; cases e; exact .non
  | _, _, _, .bl b, e => by unfold PV.toD at e; cases e; exact .bl b
  | _, _, _, .int b, e => by unfold PV.toD at e; cases e; exact .int b
  | _, _, _, .str b, e => by unfold PV.toD at e; cases e; exact .str b
  | _, _, _, .lst h a, e => by
    unfold PV.toD at e
    split at e
    · rename_i ds ed
      cases e
      exact .lst (SqL.of h) (RepAll.dp a ed)
    · cases e
  | _, _, _, .tup h a, e => by
    unfold PV.toD at e
    split at e
    · rename_i ds ed
      cases e
      exact .tup h (RepAll.dp a ed)
    · cases e
  | _, _, _, .way _, e => by unfold PV.toD at e; cases e
  | _, _, _, .mref _, e => by unfold PV.toD at e; cases e
theorem RepAll.dp {F : Hp} {θ : List Addr} : ∀ {vs : List V} {xs : List PV} {ds : List PyData}, RepAll K C F θ vs xs → PV.toD.toDs xs = some ds → DpAll K F vs ds
  | _, _, _, .nil, e => by unfold PV.toD.toDs at e; cases e; exact .nil
  | _, _, _, .cons h a, e => by
    unfold PV.toD.toDs at e
    split at e
    · rename_i d ds e1 e2
      cases e
      exact .cons (Rep.dp h e1) (RepAll.dp a e2)
    · cases e
end
def PV.scal : PV → PV → Option Bool
  | .non, .non => some true
  | .non, .int _ => some false | .int _, .non => some false
  | .non, .bl _ => some false | .bl _, .non => some false
  | .non, .str _ => some false | .str _, .non => some false
  | .int i, .int j => some (decide (i = j))
  | .bl i, .bl j => some (decide (i = j))
  | .str i, .str j => some (decide (i = j))
  | .int _, .str _ => some false | .str _, .int _ => some false
  | .bl _, .str _ => some false | .str _, .bl _ => some false
  | _, _ => none
theorem Rep.scal {F : Hp} {θ : List Addr} {v u : V} {x y : PV} {b : Bool} (r : Rep K C F θ v x) (t : Rep K C F θ u y) (e : x.scal y = some b) : L2.scal v u = true ∧ decide (v = u) = b := by
  unfold PV.scal at e
  split at e
  all_goals first
    | (cases e; cases r; cases t; exact ⟨rfl, by simp⟩)
    | cases e
def eqP (x y : PV) : Option Bool := match x.scal y with
  | some b => some b
  | none => match x.toD, y.toD with
    | some d, some e => if SeqAt.shaped d && SeqAt.shaped e then some (PyData.eqv d e) else none
    | _, _ => none
def fEq (_ : List PV) (x y : PV) : Option PV := match eqP x y with
  | some b => some (.bl b)
  | none => none
def fNe (_ : List PV) (x y : PV) : Option PV := match eqP x y with
  | some b => some (.bl (!b))
  | none => none
abbrev rEqP (K : PySem.W.Frag) : R2 := fun x y H Q => rEq x y H Q ∨ rEqD K x y H Q
abbrev rNeP (K : PySem.W.Frag) : R2 := fun x y H Q => rNe x y H Q ∨ rNeD K x y H Q
theorem Dp.monoS {H H' : Hp} (s : Same H H') {v : V} {d : PyData} (h : Dp K H v d) : Dp K H' v d := dpm s h
theorem l_eq : LR2 K C (rEqP K) fEq := fun W S v u x y z Q i rx ry e q => by
  unfold fEq eqP at e
  split at e
  · rename_i b hb
    cases e
    split at hb
    · rename_i b' hs
      cases hb
      obtain ⟨h1, h2⟩ := rx.scal ry hs
      exact .inl ⟨h1, by rw [h2]; exact q _ W (Gro.refl _) i (.bl _)⟩
    · split at hb
      · rename_i d d' e1 e2
        split at hb
        · rename_i hc
          cases hb
          rw [Bool.and_eq_true] at hc
          exact .inr ⟨d, d', dpm i.s (rx.dp e1), dpm i.s (ry.dp e2), hc.1, hc.2, q _ W (Gro.refl _) i (.bl _)⟩
        · cases hb
      · cases hb
  · cases e
theorem l_ne : LR2 K C (rNeP K) fNe := fun W S v u x y z Q i rx ry e q => by
  unfold fNe eqP at e
  split at e
  · rename_i b hb
    cases e
    split at hb
    · rename_i b' hs
      cases hb
      obtain ⟨h1, h2⟩ := rx.scal ry hs
      exact .inl ⟨h1, by rw [h2]; exact q _ W (Gro.refl _) i (.bl _)⟩
    · split at hb
      · rename_i d d' e1 e2
        split at hb
        · rename_i hc
          cases hb
          rw [Bool.and_eq_true] at hc
          exact .inr ⟨d, d', dpm i.s (rx.dp e1), dpm i.s (ry.dp e2), hc.1, hc.2, q _ W (Gro.refl _) i (.bl _)⟩
        · cases hb
      · cases hb
  · cases e
/-! x in xs -/
def PV.flat : PV → Bool
  | .non => true | .bl _ => true | .int _ => true | .str _ => true
  | _ => false
def inP (x : PV) : List PV → Option Bool
  | [] => some false
  | y :: ys => match eqS x y, inP x ys with
    | some a, some b => some (a || b)
    | _, _ => none
where eqS : PV → PV → Option Bool
  | .int i, .int j => some (decide (i = j))
  | .str i, .str j => some (decide (i = j))
  | .non, .non => some true
  | .int _, .str _ => some false | .str _, .int _ => some false
  | .int _, .non => some false | .non, .int _ => some false
  | .str _, .non => some false | .non, .str _ => some false
  | _, _ => none
def items : PV → Option (List PV)
  | .lst xs => some xs
  | .tup xs => some xs
  | _ => none
def fIn (_ : List PV) (x y : PV) : Option PV := match items y with
  | some ys => match inP x ys with
    | some b => some (.bl b)
    | none => none
  | none => none
def fNin (_ : List PV) (x y : PV) : Option PV := match items y with
  | some ys => match inP x ys with
    | some b => some (.bl (!b))
    | none => none
  | none => none
/-! x[i] -/
def fIx (S : List PV) (x y : PV) : Option PV := match y with
  | .int k => match (match x with
      | .lst xs => some xs
      | .tup xs => some xs
      | .mref n => match S[n]? with
        | some (.lst xs) => some xs
        | _ => none
      | _ => none) with
    | some xs => match ixP xs.length k with
      | some j => xs[j]?
      | none => none
    | none => none
  | _ => none
abbrev rIxP (K : PySem.W.Frag) : R2 := fun x y H Q => rIxL K x y H Q ∨ rIxT K x y H Q
theorem ix_P {X : Cx} : IxR X (rIxP X.K) := ix_list.or ix_tup
theorem at_ok {F : Hp} {θ : List Addr} {vs : List V} {xs : List PV} {k : Int} {j : Nat} {y : PV} (a : RepAll K C F θ vs xs) (hj : ixP xs.length k = some j) (hy : xs[j]? = some y) : ∃ v, atI vs k = some v ∧ Rep K C F θ v y := by
  obtain ⟨v, ev, rv⟩ := a.at hy
  refine ⟨v, ?_, rv⟩
  unfold atI
  rw [a.len, ← ixP_eq, hj]
  exact ev
theorem l_ix : LR2 K C (rIxP K) fIx := fun W S v u x y z Q i rx ry e q => by
  unfold fIx at e
  split at e
  · rename_i k
    cases ry
    cases x with
    | lst xs =>
      simp only [] at e
      split at e
      · rename_i j hj
        cases rx with
        | lst h a =>
          obtain ⟨w, ew, rw⟩ := at_ok a hj e
          exact .inl ⟨_, _, _, _, rfl, rfl, i.s.seq (SqL.of h), ew, q w W (Gro.refl _) i rw⟩
      · cases e
    | tup xs =>
      simp only [] at e
      split at e
      · rename_i j hj
        cases rx with
        | tup h a =>
          obtain ⟨w, ew, rw⟩ := at_ok a hj e
          exact .inr ⟨_, _, _, _, rfl, rfl, i.s.seT h, ew, q w W (Gro.refl _) i rw⟩
      · cases e
    | mref n =>
      simp only [] at e
      split at e
      · rename_i xs hx
        split at hx
        · rename_i ys hs
          cases hx
          split at e
          · rename_i j hj
            cases rx with
            | mref hn =>
              obtain ⟨_, vs, eh, a⟩ := i.m n _ _ hn hs
              obtain ⟨w, ew, rw⟩ := at_ok a hj e
              exact .inl ⟨_, _, _, _, rfl, rfl, SqL.of eh, ew, q w W (Gro.refl _) i rw⟩
          · cases e
        · cases hx
      · cases e
    | _ => cases e
  · cases e
/-! built-in functions -/
def fLen (S : List PV) : List PV → Option PV
  | [.lst xs] => some (.int xs.length)
  | [.tup xs] => some (.int xs.length)
  | [.mref n] => match S[n]? with
    | some (.lst xs) => some (.int xs.length)
    | _ => none
  | _ => none
theorem l_len : LRn K C (fun xs H Q => ∃ p ys, xs = [.ref p] ∧ (SqL K H p ys ∨ SqT K H p ys) ∧ Q (.int ys.length) H) fLen := fun W S vs xs z Q i r e q => by
  unfold fLen at e
  split at e
  · cases e
    cases r with
    | cons r rr =>
      cases rr
      cases r with
      | lst h a => exact ⟨_, _, rfl, .inl (i.s.seq (SqL.of h)), by rw [a.len]; exact q _ W (Gro.refl _) i (.int _)⟩
  · cases e
    cases r with
    | cons r rr =>
      cases rr
      cases r with
      | tup h a => exact ⟨_, _, rfl, .inr (i.s.seT h), by rw [a.len]; exact q _ W (Gro.refl _) i (.int _)⟩
  · split at e
    · rename_i n xs hs
      cases e
      cases r with
      | cons r rr =>
        cases rr
        cases r with
        | mref hn =>
          obtain ⟨_, vs, eh, a⟩ := i.m _ _ _ hn hs
          exact ⟨_, _, rfl, .inl (SqL.of eh), by rw [a.len]; exact q _ W (Gro.refl _) i (.int _)⟩
    · cases e
  · cases e
def fAbs (_ : List PV) : List PV → Option PV
  | [.int i] => some (.int (if i < 0 then -i else i))
  | _ => none
theorem l_abs : LRn K C (fun xs H Q => ∃ i, xs = [.int i] ∧ Q (.int (if i < 0 then -i else i)) H) fAbs := fun W S vs xs z Q i r e q => by
  unfold fAbs at e
  split at e
  · cases e
    cases r with
    | cons r rr =>
      cases rr
      cases r
      exact ⟨_, rfl, q _ W (Gro.refl _) i (.int _)⟩
  · cases e
def fInt (_ : List PV) : List PV → Option PV
  | [.int i] => some (.int i)
  | [.bl b] => some (.int (if b then 1 else 0))
  | _ => none
theorem l_int : LRn K C (fun xs H Q => (∃ i, xs = [.int i] ∧ Q (.int i) H) ∨ ∃ k, xs = [.bl k] ∧ Q (.int (if k then 1 else 0)) H) fInt := fun W S vs xs z Q i r e q => by
  unfold fInt at e
  split at e
  · cases e
    cases r with
    | cons r rr =>
      cases rr
      cases r
      exact .inl ⟨_, rfl, q _ W (Gro.refl _) i (.int _)⟩
  · cases e
    cases r with
    | cons r rr =>
      cases rr
      cases r
      exact .inr ⟨_, rfl, q _ W (Gro.refl _) i (.int _)⟩
  · cases e
def bls : List PV → Option (List Bool)
  | [] => some []
  | .bl b :: xs => match bls xs with
    | some bs => some (b :: bs)
    | none => none
  | _ => none
theorem bls_ok {F : Hp} {θ : List Addr} : ∀ {vs : List V} {xs : List PV} {bs : List Bool}, RepAll K C F θ vs xs → bls xs = some bs → vs = bs.map V.bl
  | _, [], bs, r, e => by
    cases e
    cases r
    rfl
  | _, x :: xs, bs, r, e => by
    cases r with
    | cons r rr =>
      cases x with
      | bl b =>
        unfold bls at e
        split at e
        · rename_i bs' e'
          cases e
          cases r
          rw [bls_ok rr e']
          rfl
        · cases e
      | _ => cases e
def intsP : List PV → Option (List Int)
  | [] => some []
  | .int b :: xs => match intsP xs with
    | some bs => some (b :: bs)
    | none => none
  | _ => none
theorem intsP_ok {F : Hp} {θ : List Addr} : ∀ {vs : List V} {xs : List PV} {bs : List Int}, RepAll K C F θ vs xs → intsP xs = some bs → vs = bs.map V.int
  | _, [], bs, r, e => by
    cases e
    cases r
    rfl
  | _, x :: xs, bs, r, e => by
    cases r with
    | cons r rr =>
      cases x with
      | int b =>
        unfold intsP at e
        split at e
        · rename_i bs' e'
          cases e
          cases r
          rw [intsP_ok rr e']
          rfl
        · cases e
      | _ => cases e
def fAll (_ : List PV) : List PV → Option PV
  | [.lst xs] => match bls xs with
    | some bs => some (.bl (bs.all id))
    | none => none
  | _ => none
def fAny (_ : List PV) : List PV → Option PV
  | [.lst xs] => match bls xs with
    | some bs => some (.bl (bs.any id))
    | none => none
  | _ => none
def fSum (_ : List PV) : List PV → Option PV
  | [.lst xs] => match intsP xs with
    | some bs => some (.int bs.sum)
    | none => none
  | _ => none
theorem l_all : LRn K C (rAll K) fAll := fun W S vs xs z Q i r e q => by
  unfold fAll at e
  split at e
  · split at e
    · rename_i bs hb
      cases e
      cases r with
      | cons r rr =>
        cases rr
        cases r with
        | lst h a => exact ⟨_, bs, rfl, by rw [← bls_ok a hb]; exact i.s.seq (SqL.of h), q _ W (Gro.refl _) i (.bl _)⟩
    · cases e
  · cases e
theorem l_any : LRn K C (rAny K) fAny := fun W S vs xs z Q i r e q => by
  unfold fAny at e
  split at e
  · split at e
    · rename_i bs hb
      cases e
      cases r with
      | cons r rr =>
        cases rr
        cases r with
        | lst h a => exact ⟨_, bs, rfl, by rw [← bls_ok a hb]; exact i.s.seq (SqL.of h), q _ W (Gro.refl _) i (.bl _)⟩
    · cases e
  · cases e
theorem l_sum : LRn K C (rSum K) fSum := fun W S vs xs z Q i r e q => by
  unfold fSum at e
  split at e
  · split at e
    · rename_i bs hb
      cases e
      cases r with
      | cons r rr =>
        cases rr
        cases r with
        | lst h a => exact ⟨_, bs, rfl, by rw [← intsP_ok a hb]; exact i.s.seq (SqL.of h), q _ W (Gro.refl _) i (.int _)⟩
    · cases e
  · cases e
def maxI : List Int → Int
  | [] => 0
  | [x] => x
  | x :: xs => max x (maxI xs)
def minI : List Int → Int
  | [] => 0
  | [x] => x
  | x :: xs => min x (minI xs)
theorem maxI_spec : ∀ {xs : List Int}, xs ≠ [] → maxI xs ∈ xs ∧ ∀ y ∈ xs, y ≤ maxI xs
  | [x], _ => ⟨List.mem_cons_self, fun y h => by simp at h; rw [h]; exact Int.le_refl _⟩
  | x :: z :: xs, _ => by
    obtain ⟨h1, h2⟩ := maxI_spec (xs := z :: xs) (by simp)
    have e : maxI (x :: z :: xs) = max x (maxI (z :: xs)) := rfl
    rw [e]
    refine ⟨?_, fun y hy => ?_⟩
    · by_cases c : x ≤ maxI (z :: xs)
      · rw [Int.max_eq_right c]
        exact List.mem_cons_of_mem _ h1
      · rw [Int.max_eq_left (by omega)]
        exact List.mem_cons_self
    · rcases List.mem_cons.mp hy with h | h
      · rw [h]; omega
      · have := h2 y h; omega
theorem minI_spec : ∀ {xs : List Int}, xs ≠ [] → minI xs ∈ xs ∧ ∀ y ∈ xs, minI xs ≤ y
  | [x], _ => ⟨List.mem_cons_self, fun y h => by simp at h; rw [h]; exact Int.le_refl _⟩
  | x :: z :: xs, _ => by
    obtain ⟨h1, h2⟩ := minI_spec (xs := z :: xs) (by simp)
    have e : minI (x :: z :: xs) = min x (minI (z :: xs)) := rfl
    rw [e]
    refine ⟨?_, fun y hy => ?_⟩
    · by_cases c : x ≤ minI (z :: xs)
      · rw [Int.min_eq_left c]
        exact List.mem_cons_self
      · rw [Int.min_eq_right (by omega)]
        exact List.mem_cons_of_mem _ h1
    · rcases List.mem_cons.mp hy with h | h
      · rw [h]; omega
      · have := h2 y h; omega
def fMax (_ : List PV) : List PV → Option PV
  | [.lst xs] => match intsP xs with
    | some [] => none
    | some bs => some (.int (maxI bs))
    | none => none
  | _ => none
def fMin (_ : List PV) : List PV → Option PV
  | [.lst xs] => match intsP xs with
    | some [] => none
    | some bs => some (.int (minI bs))
    | none => none
  | _ => none
theorem l_max : LRn K C (rMax K) fMax := fun W S vs xs z Q i r e q => by
  unfold fMax at e
  split at e
  · split at e
    · cases e
    · rename_i bs hne hb
      cases e
      cases r with
      | cons r rr =>
        cases rr
        cases r with
        | lst h a =>
          have hn : bs ≠ [] := hne
          obtain ⟨h1, h2⟩ := maxI_spec hn
          refine ⟨_, bs, rfl, by rw [← intsP_ok a hb]; exact i.s.seq (SqL.of h), List.length_pos_iff.mpr hn, fun m hm hy => ?_⟩
          have e : m = maxI bs := Int.le_antisymm (h2 m hm) (hy _ h1)
          rw [e]
          exact q _ W (Gro.refl _) i (.int _)
    · cases e
  · cases e
theorem l_min : LRn K C (rMin K) fMin := fun W S vs xs z Q i r e q => by
  unfold fMin at e
  split at e
  · split at e
    · cases e
    · rename_i bs hne hb
      cases e
      cases r with
      | cons r rr =>
        cases rr
        cases r with
        | lst h a =>
          have hn : bs ≠ [] := hne
          obtain ⟨h1, h2⟩ := minI_spec hn
          refine ⟨_, bs, rfl, by rw [← intsP_ok a hb]; exact i.s.seq (SqL.of h), List.length_pos_iff.mpr hn, fun m hm hy => ?_⟩
          have e : m = minI bs := Int.le_antisymm (hy _ h1) (h2 m hm)
          rw [e]
          exact q _ W (Gro.refl _) i (.int _)
    · cases e
  · cases e
def fList (_ : List PV) : List PV → Option PV
  | [.lst xs] => some (.lst xs)
  | [.tup xs] => some (.lst xs)
  | _ => none
theorem l_list : LRn K C (fun xs H Q => ∃ p ys, xs = [.ref p] ∧ (SqL K H p ys ∨ SqT K H p ys) ∧ ∀ l, H l = none → Q (.ref l) (upd H l (.lst ys))) fList := fun W S vs xs z Q i r e q => by
  unfold fList at e
  split at e
  · cases e
    cases r with
    | cons r rr =>
      cases rr
      cases r with
      | lst h a =>
        refine ⟨_, _, rfl, .inl (i.s.seq (SqL.of h)), fun p np => ?_⟩
        obtain ⟨g, i2⟩ := laid (.lst _) i np
        exact q _ _ g i2 (.lst upd_same (a.ext g))
  · cases e
    cases r with
    | cons r rr =>
      cases rr
      cases r with
      | tup h a =>
        refine ⟨_, _, rfl, .inr (i.s.seT h), fun p np => ?_⟩
        obtain ⟨g, i2⟩ := laid (.lst _) i np
        exact q _ _ g i2 (.lst upd_same (a.ext g))
  · cases e
def fTuple (_ : List PV) : List PV → Option PV
  | [.lst xs] => some (.tup xs)
  | [.tup xs] => some (.tup xs)
  | _ => none
theorem l_tuple : LRn K C (fun xs H Q => ∃ p ys, xs = [.ref p] ∧ ((SqL K H p ys ∧ ∀ l, H l = none → Q (.ref l) (upd H l (.tup ys))) ∨ (SqT K H p ys ∧ Q (.ref p) H))) fTuple := fun W S vs xs z Q i r e q => by
  unfold fTuple at e
  split at e
  · cases e
    cases r with
    | cons r rr =>
      cases rr
      cases r with
      | lst h a =>
        refine ⟨_, _, rfl, .inl ⟨i.s.seq (SqL.of h), fun p np => ?_⟩⟩
        obtain ⟨g, i2⟩ := laid (.tup _) i np
        exact q _ _ g i2 (.tup (SqT.of upd_same) (a.ext g))
  · cases e
    cases r with
    | cons r rr =>
      cases rr
      cases r with
      | tup h a => exact ⟨_, _, rfl, .inr ⟨i.s.seT h, q _ W (Gro.refl _) i (.tup h a)⟩⟩
  · cases e
end
end BL

namespace BL
open PySem PySem.Spec PyProof.Rows L2
/-! ### operators that a class defines -/
/-- an own def by its address, found at the class -/
structure Own (P : Program) (w : World) (K : PySem.W.Frag) (mg : Str → Option Value) (base : Heap) (k : Nat) (C : Addr) (nm : Str) (sp : Sp) : Prop where
  ex : ∃ (f : Addr) (fd : FuncData) (ps : List Str), PySem.W.findIn K (.ref C) nm = some (some (.ref f)) ∧ PySem.W.isFn K (.ref f) = true ∧ PySem.W.fnIn K f = true ∧ FnOk P w K mg base CX0 k f fd ps sp ∧ Binds K fd ps []
def rBin (C : Addr) (sp : Sp) : R2 := fun x y H Q => ∃ a b dx dy fs gs, x = .ref a ∧ y = .ref b ∧ H a = some (.ins C dx fs) ∧ H b = some (.ins C dy gs) ∧ sp [x, y] H Q C8.E0
def rBinI (C : Addr) (sp : Sp) : R2 := fun x y H Q => ∃ a i dx fs, x = .ref a ∧ y = .int i ∧ H a = some (.ins C dx fs) ∧ sp [x, y] H Q C8.E0
section
variable {X : Cx} {n j : Nat} {C : Addr} {sp : Sp}
theorem op_rsh (o : Own X.prog X.w X.K X.mg X.base n C "__rshift__" sp) (hc : PySem.W.selfFirst X.K C = true) (hr : Room j X.A) (hj : n ≤ j) : OpR X (binaryOp .RShift) (rBin C sp) := by
  obtain ⟨f, fd, ps, hs, hf, _, F, hb⟩ := o.ex
  intro pins s σ H x y v u Q I rx ry h
  obtain ⟨a, b, dx, dy, fs, gs, rfl, rfl, ha, hb', q⟩ := h
  cases (show v = Value.ref a from rx)
  cases (show u = Value.ref b from ry)
  obtain ⟨mA, O, _⟩ := ins_get I.hok ha
  obtain ⟨od, J, _⟩ := O.look
  obtain ⟨mB, O', _⟩ := ins_get I.hok hb'
  obtain ⟨od', J', _⟩ := O'.look
  obtain ⟨m, hF⟩ := I.fr
  refine PySem.W.binop_K (op := .RShift) hF I.ok.mod.kin J J'.type hc hs hf ?_
  refine wpAny_mono (run_fn (us := [.ref a, .ref b]) (vs := [.ref a, .ref b]) F (hr.mono hj) hb .nil pass0 I (.cons rfl (.cons rfl .nil)) q) (fun w s' z => ?_) fun _ _ x => x
  obtain ⟨z', H', I', rz, qz⟩ := z
  exact SlX.cmpback rz ⟨z', H', I', rz, qz⟩
/-- way * number -/
theorem op_times (o : Own X.prog X.w X.K X.mg X.base n C "__mul__" sp) (hc : PySem.W.selfFirst X.K C = true) (hm : PySem.W.findIn X.K (.ref C) "__rmul__" = some none) (h1 : PySem.W.findIn X.K (.type "int") "__mul__" = some (some (.builtin "int.__mul__"))) (h2 : PySem.W.findIn X.K (.type "int") "__rmul__" = some (some (.builtin "int.__rmul__")))
    (hsub : PySem.W.subIn X.K (.type "int") (.ref C) = some false) (hr : Room j X.A) (hj : n ≤ j) : OpR X (binaryOp .Mult) (rBinI C sp) := by
  obtain ⟨f, fd, ps, hs, hf, _, F, hb⟩ := o.ex
  intro pins s σ H x y v u Q I rx ry h
  obtain ⟨a, i, dx, fs, rfl, rfl, ha, q⟩ := h
  cases (show v = Value.ref a from rx)
  obtain ⟨t, rfl⟩ := (show ∃ t, u = Value.int i t from ry)
  obtain ⟨mA, O, _⟩ := ins_get I.hok ha
  obtain ⟨od, J, _⟩ := O.look
  obtain ⟨m, hF⟩ := I.fr
  refine PySem.W.ksp_binT (op := .Mult) (T := "int") hF I.ok.mod.kin J rfl hc hs hf hm (.inl rfl) h1 h2 hsub ?_
  refine wpAny_mono (run_fn (us := [.ref a, .int i t]) (vs := [.ref a, .int i]) F (hr.mono hj) hb .nil pass0 I (.cons rfl (.cons ⟨t, rfl⟩ .nil)) q) (fun w s' z => ?_) fun _ _ x => x
  obtain ⟨z', H', I', rz, qz⟩ := z
  exact SlX.cmpback rz ⟨z', H', I', rz, qz⟩
/-- way == way -/
theorem op_eqO (o : Own X.prog X.w X.K X.mg X.base n C "__eq__" sp) (hr : Room j X.A) (hj : n ≤ j) : OpR X (compareOp .Eq) (rBin C sp) := by
  obtain ⟨f, fd, ps, hs, hf, _, F, hb⟩ := o.ex
  intro pins s σ H x y v u Q I rx ry h
  obtain ⟨a, b, dx, dy, fs, gs, rfl, rfl, ha, hb', q⟩ := h
  cases (show v = Value.ref a from rx)
  cases (show u = Value.ref b from ry)
  obtain ⟨mA, O, _⟩ := ins_get I.hok ha
  obtain ⟨od, J, _⟩ := O.look
  obtain ⟨mB, O', _⟩ := ins_get I.hok hb'
  obtain ⟨od', J', _⟩ := O'.look
  obtain ⟨m, hF⟩ := I.fr
  show wpAny (model X.prog X.w) X.A (richCompare .Eq (.ref a) (.ref b)) (EP X pins σ Q) X.xe s
  refine PySem.W.cmp_K (op := .Eq) (tb := .ref C) hr.units0 hF I.ok.mod.kin J J'.type (by simp [PySem.W.notFirst]) hs hf ?_
  refine wpAny_mono (run_fn (us := [.ref a, .ref b]) (vs := [.ref a, .ref b]) F (hr.mono hj) hb .nil pass0 I (.cons rfl (.cons rfl .nil)) q) (fun w s' z => ?_) fun _ _ x => x
  obtain ⟨z', H', I', rz, qz⟩ := z
  exact SlX.cmpback rz ⟨z', H', I', rz, qz⟩
/-- way(e) -/
def tCalled (C : Addr) (sp : Sp) (tf : TE) (t : TA) : TE := fun σ H Q => tf σ H fun y H1 => ∃ a, y = V.ref a ∧ t σ H1 fun vs H2 => (∃ dx fs, H2 a = some (.ins C dx fs)) ∧ sp (V.ref a :: vs) H2 Q C8.E0
def MonoA (t : TA) : Prop := ∀ (σ : L2.St) (H : Hp) (Q Q' : List V → Hp → Prop), (∀ v H', Q v H' → Q' v H') → t σ H Q → t σ H Q'
theorem PE.of {X : Cx} {e : Expr} {t t' : TE} (h : PE X e t) (i : ∀ σ H Q, t' σ H Q → t σ H Q) : PE X e t' := ⟨fun pins s σ H Q I q => h.run pins s σ H Q I (i σ H Q q)⟩
theorem pe_called {fe e : Expr} {es : List Expr} {tf : TE} {t : TA} {pos : Pos} (o : Own X.prog X.w X.K X.mg X.base n C "__call__" sp) (hr : Room j X.A) (hj : n ≤ j) (hf : PE X fe tf) (mf : Mono tf) (ha : PA X (e :: es) t) (ma : MonoA t)
    (ht : eval (.Call fe (e :: es) [] pos) X.env = (do callWith pos (← eval fe X.env) [] (backTo pos (starEach (e :: es) X.env)) (backToKw pos (keywordEach [] X.env))) := by rfl)
    (he : starEach (e :: es) X.env = (false, eval e X.env) :: starEach es X.env := by rfl) (hpl : (backTo pos (starEach es X.env)).any (·.1) = false := by rfl) : PE X (.Call fe (e :: es) [] pos) (tCalled C sp tf t) := by
  obtain ⟨f, fd, ps, hs, hfn, hfi, F, hb⟩ := o.ex
  have G : FnR X.prog X.w X.K X.mg X.base CX0 n f sp := fun A outer s H us vs Q E hr e0 r hs => by
    have hl := F.len _ _ _ _ hs
    have hl2 : (us ++ []).length = ps.length := by rw [List.append_nil, ← r.length, hl]
    have hb' := hb s us (fun a o h => (e0.bs a o (e0.mod.kin a o h)).1) hl2
    rw [List.append_nil] at hb'
    exact F.run A outer s H ⟨us, []⟩ us vs Q E hr e0 hb' r hs
  refine PE.of (StX.pe_callO hf ⟨hs, hfn, hfi⟩ G (hr.mono hj) pass0 ha ht he hpl) fun σ H Q q => ?_
  refine mf σ H _ _ (fun y H1 z => ?_) q
  obtain ⟨a, ey, k⟩ := z
  exact ⟨a, ey, ma σ H1 _ _ (fun vs H2 z => ⟨.inr z.1, z.2⟩) k⟩
/-- way._floor and so on: the same reading as that of the properties -/
theorem pe_hid {e : Expr} {h : Str} {pos : Pos} {ta : TE} {sel : Option Int → Option Int → Option Int → Option Int} (hs : ∀ s f c, (wF s f c).lookup h = some (oV (sel s f c))) (m : Mono ta) (he : PE X e ta) (c : Cls X.K C) (na : NoAttr X.K C h)
    (hb : attributeBase e h X.env (eval e X.env) = eval e X.env := by rfl) : PE X (.Attribute e h pos) (tWF C sel ta) := by
  refine PE.of (pe_fld he hb) fun σ H Q q => m σ H _ _ (fun v H' z => ?_) q
  obtain ⟨a, s, f, c', rfl, ⟨dx, ha⟩, k⟩ := z
  exact ⟨a, C, dx, _, _, rfl, ha, c, na, hs s f c', k⟩
/-- a property whatever it gives -/
structure Pr2 (P : Program) (w : World) (K : PySem.W.Frag) (mg : Str → Option Value) (base : Heap) (k : Nat) (C : Addr) (f : Str) (sp : Sp) : Prop where
  ex : ∃ (p g : Addr) (fd : FuncData), PropOf K C f p g ∧ FnOk P w K mg base CX0 k g fd ["self"] sp ∧ Binds K fd ["self"] []
theorem pe_pr2 {e : Expr} {f : Str} {pos : Pos} {ta : TE} (he : PE X e ta) (c : Cls X.K C) (pr : Pr2 X.prog X.w X.K X.mg X.base n C f sp) (hr : Room j X.A) (hj : n + 1 ≤ j)
    (hab : attributeBase e f X.env (eval e X.env) = eval e X.env := by rfl) : PE X (.Attribute e f pos) (tProp C sp [] C8.E0 ta) := by
  obtain ⟨p, g, fd, po, F, b⟩ := pr.ex
  exact pe_prop he c po F (hr.mono hj) b .nil pass0 hab
end
/-! ### ways, purely -/
def ld (s f c : Option Int) (x : Int) : Int := match s with
  | none => f.getD 0
  | some s => bnd (x + s) f c
def leO (f c : Option Int) : Prop := ∀ x y, f = some x → c = some y → x ≤ y
def wfW (s f c : Option Int) : Prop := leO f c ∧ (s = none → ∃ a, f = some a ∧ c = some a) ∧ (∀ a, f = some a → c = some a → s = none)
def rsS (s1 s2 : Option Int) : Option Int := match s1, s2 with
  | some a, some b => some (a + b)
  | _, _ => none
def rsB (s2 f2 c2 o o2 : Option Int) : Option Int := match o with
  | none => o2
  | some z => some (ld s2 f2 c2 z)
theorem bnd_none (l : Int) : bnd l none none = l := by
  have h : bnd l none none = l := rfl
  exact h.trans (Int.add_zero l ▸ (by simp))
theorem bnd_lo (l a : Int) : bnd l (some a) none = max l a := by unfold bnd; simp only []; omega
theorem bnd_hi (l b : Int) : bnd l none (some b) = min l b := by unfold bnd; simp only []; omega
theorem bnd_two (l a b : Int) : bnd l (some a) (some b) = min (max l a) b := by unfold bnd; simp only []; omega
theorem bnd_le {l m : Int} (f c : Option Int) (h : l ≤ m) : bnd l f c ≤ bnd m f c := by
  cases f <;> cases c <;> simp only [bnd_none, bnd_lo, bnd_hi, bnd_two] <;> omega
theorem ld_le {l m : Int} (s f c : Option Int) (h : l ≤ m) : ld s f c l ≤ ld s f c m := by
  unfold ld
  cases s with
  | none => exact Int.le_refl _
  | some s => exact bnd_le f c (by omega)
theorem rs_ok {s1 f1 c1 s2 f2 c2 : Option Int} (h1 : wfW s1 f1 c1) (h2 : wfW s2 f2 c2) : okW (rsS s1 s2) (rsB s2 f2 c2 f1 f2) (rsB s2 f2 c2 c1 c2) := by
  obtain ⟨l1, n1, _⟩ := h1
  obtain ⟨l2, n2, _⟩ := h2
  cases s1 with
  | none =>
    obtain ⟨a, rfl, rfl⟩ := n1 rfl
    exact ⟨Int.le_refl _, fun _ => rfl⟩
  | some a1 =>
    cases s2 with
    | none =>
      obtain ⟨b, rfl, rfl⟩ := n2 rfl
      cases f1 <;> cases c1 <;> exact ⟨Int.le_refl _, fun _ => rfl⟩
    | some a2 =>
      cases f1 with
      | none =>
        cases c1 with
        | none => exact (by
            unfold okW rsB
            cases f2 with
            | none => exact fun z => by cases z
            | some x => cases c2 with
              | none => exact fun z => by cases z
              | some y => exact ⟨l2 x y rfl rfl, fun z => by cases z⟩)
        | some y1 =>
          unfold okW rsB
          cases f2 with
          | none => exact fun z => by cases z
          | some x =>
            refine ⟨?_, fun z => by cases z⟩
            unfold ld
            cases c2 with
            | none => simp only [bnd_lo]; omega
            | some y => have := l2 x y rfl rfl; simp only [bnd_two]; omega
      | some x1 =>
        cases c1 with
        | none =>
          unfold okW rsB
          cases c2 with
          | none => exact fun z => by cases z
          | some y =>
            refine ⟨?_, fun z => by cases z⟩
            unfold ld
            cases f2 with
            | none => simp only [bnd_hi]; omega
            | some x => have := l2 x y rfl rfl; simp only [bnd_two]; omega
        | some y1 => exact ⟨ld_le _ _ _ (l1 x1 y1 rfl rfl), fun z => by cases z⟩
theorem nrm_wf {s f c : Option Int} (h : okW s f c) : wfW (nrm s f c) f c := by
  unfold okW at h
  cases f with
  | none =>
    refine ⟨fun x y z => (by cases z), fun e => ?_, fun a z => (by cases z)⟩
    exact absurd e h
  | some a =>
    cases c with
    | none =>
      refine ⟨fun x y _ z => (by cases z), fun e => ?_, fun b _ z => (by cases z)⟩
      exact absurd e h
    | some b =>
      refine ⟨fun x y z w => (by cases z; cases w; exact h.1), fun e => ?_, fun d z w => ?_⟩
      · by_cases q : a = b
        · exact ⟨a, rfl, by rw [q]⟩
        · simp only [nrm, if_neg q] at e
          exact absurd (h.2 e) q
      · cases z
        cases w
        unfold nrm
        exact if_pos rfl
/-- a way made of such parts leads as they say -/
theorem ld_nrm {s f c : Option Int} (h : okW s f c) (x : Int) (z : Int) (hz : ∀ a, s = some a → bnd (x + a) f c = z) (h0 : s = none → f = some z) : ld (nrm s f c) f c x = z := by
  unfold okW at h
  cases s with
  | none =>
    have e := h0 rfl
    subst e
    cases c with
    | none => exact absurd rfl h
    | some b =>
      have q := h.2 rfl
      subst q
      unfold nrm ld
      simp
  | some a =>
    have e := hz a rfl
    cases f with
    | none => exact e
    | some p =>
      cases c with
      | none => exact e
      | some q =>
        unfold nrm
        by_cases r : p = q
        · subst r
          simp only [if_true]
          unfold ld
          simp only [Option.getD]
          rw [bnd_two] at e
          omega
        · simp only [if_neg r]
          exact e
theorem ld_rs {s1 f1 c1 s2 f2 c2 : Option Int} (h1 : wfW s1 f1 c1) (h2 : wfW s2 f2 c2) (x : Int) : ld (nrm (rsS s1 s2) (rsB s2 f2 c2 f1 f2) (rsB s2 f2 c2 c1 c2)) (rsB s2 f2 c2 f1 f2) (rsB s2 f2 c2 c1 c2) x = ld s2 f2 c2 (ld s1 f1 c1 x) := by
  refine ld_nrm (rs_ok h1 h2) x _ (fun a ha => ?_) (fun hn => ?_)
  · cases s1 with
    | none => cases ha
    | some a1 =>
      cases s2 with
      | none => cases ha
      | some a2 =>
        have l1 := h1.1
        have l2 := h2.1
        cases ha
        unfold ld rsB
        cases f1 <;> cases c1 <;> cases f2 <;> cases c2 <;> simp only [ld, bnd_none, bnd_lo, bnd_hi, bnd_two] <;> (try have l1 := l1 _ _ rfl rfl) <;> (try have l2 := l2 _ _ rfl rfl) <;> omega
  · cases s1 with
    | none =>
      obtain ⟨a, rfl, rfl⟩ := h1.2.1 rfl
      rfl
    | some a1 =>
      cases s2 with
      | some a2 => cases hn
      | none =>
        obtain ⟨b, rfl, rfl⟩ := h2.2.1 rfl
        cases f1 <;> rfl
theorem ld_hi {s x : Int} {f c : Option Int} (l : leO f c) (hf : f.getD 0 ≤ x + s) (hc : c.getD 0 ≤ x + s) : ld (some s) f c x = c.getD (x + s) := by
  cases f <;> cases c <;> simp only [ld, bnd_none, bnd_lo, bnd_hi, bnd_two, Option.getD] at hf hc ⊢ <;> (try have l := l _ _ rfl rfl) <;> omega
theorem ld_lo {s x : Int} {f c : Option Int} (l : leO f c) (hf : x + s ≤ f.getD 0) (hc : x + s ≤ c.getD 0) : ld (some s) f c x = f.getD (x + s) := by
  cases f <;> cases c <;> simp only [ld, bnd_none, bnd_lo, bnd_hi, bnd_two, Option.getD] at hf hc ⊢ <;> (try have l := l _ _ rfl rfl) <;> omega
def big (a b c d e g : Int) : Int := (a.natAbs + b.natAbs + c.natAbs + d.natAbs + e.natAbs + g.natAbs : Nat)
theorem big_ge (a b c d e g : Int) : a + b ≤ big a b c d e g ∧ a + c ≤ big a b c d e g ∧ d + e ≤ big a b c d e g ∧ d + g ≤ big a b c d e g ∧ -a - b ≤ big a b c d e g ∧ -a - c ≤ big a b c d e g ∧ -d - e ≤ big a b c d e g ∧ -d - g ≤ big a b c d e g ∧ b - a ≤ big a b c d e g ∧ c - a ≤ big a b c d e g ∧ e - d ≤ big a b c d e g ∧ g - d ≤ big a b c d e g ∧ a - b ≤ big a b c d e g ∧ a - c ≤ big a b c d e g ∧ d - e ≤ big a b c d e g ∧ d - g ≤ big a b c d e g := by
  unfold big
  omega
theorem strict {s : Int} {f c : Option Int} (h : wfW (some s) f c) (x y : Int) (p : f = some x) (q : c = some y) : x < y := by
  have := h.1 x y p q
  by_cases z : x = y
  · have k := h.2.2 x p (by rw [q, z])
    cases k
  · omega
/-- ways that lead alike are one: both with a shift -/
theorem way_ext0 {s1 s2 : Int} {f1 c1 f2 c2 : Option Int} (h1 : wfW (some s1) f1 c1) (h2 : wfW (some s2) f2 c2) (h : ∀ x, ld (some s1) f1 c1 x = ld (some s2) f2 c2 x) : s1 = s2 ∧ f1 = f2 ∧ c1 = c2 := by
  have B := big_ge s1 (f1.getD 0) (c1.getD 0) s2 (f2.getD 0) (c2.getD 0)
  generalize big s1 (f1.getD 0) (c1.getD 0) s2 (f2.getD 0) (c2.getD 0) = M at B
  have a1 := h M
  have a2 := h (M + 1)
  have b1 := h (-M)
  have b2 := h (-M - 1)
  rw [ld_hi h1.1 (by omega) (by omega), ld_hi h2.1 (by omega) (by omega)] at a1 a2
  rw [ld_lo h1.1 (by omega) (by omega), ld_lo h2.1 (by omega) (by omega)] at b1 b2
  have ec : c1 = c2 := by
    cases c1 <;> cases c2 <;> simp only [Option.getD] at a1 a2
    · rfl
    · omega
    · omega
    · rw [a1]
  have ef : f1 = f2 := by
    cases f1 <;> cases f2 <;> simp only [Option.getD] at b1 b2
    · rfl
    · omega
    · omega
    · rw [b1]
  subst ec
  subst ef
  refine ⟨?_, rfl, rfl⟩
  cases c1 with
  | none => simp only [Option.getD] at a1; omega
  | some c =>
    cases f1 with
    | none => simp only [Option.getD] at b1; omega
    | some f =>
      have d := strict h1 f c rfl rfl
      have e3 := h (f - s1)
      have e4 := h (f - s1 + 1)
      simp only [ld, bnd_two] at e3 e4
      omega
theorem no_const {s : Int} {f c : Option Int} {a : Int} (h : wfW (some s) f c) (e : ∀ x, ld (some s) f c x = a) : False := by
  have B := big_ge s (f.getD 0) (c.getD 0) 0 0 0
  generalize big s (f.getD 0) (c.getD 0) 0 0 0 = M at B
  have a1 := e M
  have a2 := e (M + 1)
  have b1 := e (-M)
  have b2 := e (-M - 1)
  rw [ld_hi h.1 (by omega) (by omega)] at a1 a2
  rw [ld_lo h.1 (by omega) (by omega)] at b1 b2
  cases c with
  | none => simp only [Option.getD] at a1 a2; omega
  | some c =>
    cases f with
    | none => simp only [Option.getD] at b1 b2; omega
    | some f =>
      have d := strict h f c rfl rfl
      simp only [Option.getD] at a1 b1
      omega
theorem way_ext {s1 f1 c1 s2 f2 c2 : Option Int} (h1 : wfW s1 f1 c1) (h2 : wfW s2 f2 c2) (h : ∀ x, ld s1 f1 c1 x = ld s2 f2 c2 x) : s1 = s2 ∧ f1 = f2 ∧ c1 = c2 := by
  cases s1 with
  | none =>
    obtain ⟨a, rfl, rfl⟩ := h1.2.1 rfl
    cases s2 with
    | none =>
      obtain ⟨b, rfl, rfl⟩ := h2.2.1 rfl
      have e : a = b := h 0
      rw [e]
      exact ⟨rfl, rfl, rfl⟩
    | some s => exact (no_const h2 (a := a) fun x => (h x).symm).elim
  | some s1 =>
    cases s2 with
    | none =>
      obtain ⟨b, rfl, rfl⟩ := h2.2.1 rfl
      exact (no_const h1 (a := b) fun x => h x).elim
    | some s2 =>
      obtain ⟨e, g⟩ := way_ext0 h1 h2 h
      rw [e]
      exact ⟨rfl, g⟩
end BL

namespace BL
open PySem PySem.Spec PyProof.Rows L2
/-! ### a way done so many times -/
def itr (s f c : Option Int) : Nat → Int → Int
  | 0, x => x
  | n + 1, x => ld s f c (itr s f c n x)
theorem itr_add (s f c : Option Int) (m : Nat) : ∀ (n : Nat) (x : Int), itr s f c (m + n) x = itr s f c n (itr s f c m x)
  | 0, x => rfl
  | n + 1, x => by
    show ld s f c (itr s f c (m + n) x) = ld s f c (itr s f c n (itr s f c m x))
    rw [itr_add s f c m n x]
def muB (f c o : Option Int) (m : Int) : Option Int := match o with
  | none => none
  | some z => some (bnd (z + m) f c)
theorem sgn (s : Int) (k : Nat) : (0 ≤ s → 0 ≤ s * k) ∧ (s ≤ 0 → s * k ≤ 0) := by
  constructor
  · intro h
    exact Int.mul_nonneg h (by omega)
  · intro h
    have := Int.mul_nonneg (show 0 ≤ -s by omega) (show (0 : Int) ≤ k by omega)
    rw [Int.neg_mul] at this
    omega
theorem mu_step {f c : Option Int} (l : leO f c) (s t x : Int) (h : (0 ≤ s → 0 ≤ t) ∧ (s ≤ 0 → t ≤ 0)) :
    bnd (x + (s + (t + s))) (muB f c f (t + s)) (muB f c c (t + s)) = bnd (bnd (x + (s + t)) (muB f c f t) (muB f c c t) + s) f c := by
  cases f with
  | none =>
    cases c with
    | none => simp only [muB, bnd_none]; omega
    | some c =>
      simp only [muB, bnd_hi]
      by_cases q : 0 ≤ s
      · have := h.1 q
        omega
      · have := h.2 (by omega)
        omega
  | some f =>
    cases c with
    | none =>
      simp only [muB, bnd_lo]
      by_cases q : 0 ≤ s
      · have := h.1 q
        omega
      · have := h.2 (by omega)
        omega
    | some c =>
      have l := l f c rfl rfl
      simp only [muB, bnd_two]
      by_cases q : 0 ≤ s
      · have := h.1 q
        have e1 : min (max (c + t) f) c = c := by omega
        have e2 : min (max (c + (t + s)) f) c = c := by omega
        have e3 : max (f + t) f = f + t := by omega
        have e4 : max (f + (t + s)) f = f + (t + s) := by omega
        rw [e1, e2, e3, e4]
        omega
      · have := h.2 (by omega)
        have e1 : min (max (f + t) f) c = f := by omega
        have e2 : min (max (f + (t + s)) f) c = f := by omega
        have e3 : min (max (c + t) f) c = max (c + t) f := by omega
        have e4 : min (max (c + (t + s)) f) c = max (c + (t + s)) f := by omega
        rw [e1, e2, e3, e4]
        omega
theorem mu_bnd {s : Int} {f c : Option Int} (l : leO f c) : ∀ (k : Nat) (x : Int), bnd (x + (s + s * k)) (muB f c f (s * k)) (muB f c c (s * k)) = itr (some s) f c (k + 1) x
  | 0, x => by
    show bnd (x + (s + s * ((0 : Nat) : Int))) (muB f c f (s * ((0 : Nat) : Int))) (muB f c c (s * ((0 : Nat) : Int))) = bnd (x + s) f c
    rw [show s * ((0 : Nat) : Int) = 0 from Int.mul_zero s]
    cases f <;> cases c <;> simp only [muB, bnd_none, bnd_lo, bnd_hi, bnd_two] <;> (try have l := l _ _ rfl rfl) <;> omega
  | k + 1, x => by
    show _ = ld (some s) f c (itr (some s) f c (k + 1) x)
    rw [← mu_bnd l k x]
    have e : s * ((k + 1 : Nat) : Int) = s * k + s := by
      rw [show ((k + 1 : Nat) : Int) = (k : Int) + 1 by omega, Int.mul_add, Int.mul_one]
    rw [e]
    exact mu_step l s (s * k) x (sgn s k)
theorem mu_ok {s : Int} {f c : Option Int} (l : leO f c) (m t : Int) : okW (some t) (muB f c f m) (muB f c c m) := by
  unfold okW
  cases f with
  | none => cases c <;> exact fun z => by cases z
  | some a =>
    cases c with
    | none => exact fun z => by cases z
    | some b => exact ⟨bnd_le _ _ (by have := l a b rfl rfl; omega), fun z => by cases z⟩
/-- so many times, at least once -/
def muS (s f c : Option Int) (k : Nat) : Option Int × Option Int × Option Int := match s with
  | none => (none, f, c)
  | some s => (nrm (some (s + s * k)) (muB f c f (s * k)) (muB f c c (s * k)), muB f c f (s * k), muB f c c (s * k))
theorem const_itr {a : Int} : ∀ (k : Nat) (x : Int), itr none (some a) (some a) (k + 1) x = a
  | 0, _ => rfl
  | k + 1, x => rfl
theorem mu_wf {s f c : Option Int} (h : wfW s f c) (k : Nat) : wfW (muS s f c k).1 (muS s f c k).2.1 (muS s f c k).2.2 := by
  cases s with
  | none => exact h
  | some s => exact nrm_wf (mu_ok (s := s) h.1 _ _)
theorem mu_ld {s f c : Option Int} (h : wfW s f c) (k : Nat) (x : Int) : ld (muS s f c k).1 (muS s f c k).2.1 (muS s f c k).2.2 x = itr s f c (k + 1) x := by
  cases s with
  | none =>
    obtain ⟨a, rfl, rfl⟩ := h.2.1 rfl
    rw [const_itr]
    rfl
  | some s => exact ld_nrm (mu_ok (s := s) h.1 _ _) x _ (fun a e => by cases e; exact mu_bnd h.1 k x) (fun e => by cases e)
/-- the way of so many times -/
def mul (s f c : Option Int) : Nat → Option Int × Option Int × Option Int
  | 0 => (some 0, none, none)
  | k + 1 => muS s f c k
theorem mul_wf {s f c : Option Int} (h : wfW s f c) : ∀ n, wfW (mul s f c n).1 (mul s f c n).2.1 (mul s f c n).2.2
  | 0 => ⟨fun x y z => (by cases z), fun z => (by cases z), fun a z => (by cases z)⟩
  | k + 1 => mu_wf h k
theorem mul_ld {s f c : Option Int} (h : wfW s f c) : ∀ (n : Nat) (x : Int), ld (mul s f c n).1 (mul s f c n).2.1 (mul s f c n).2.2 x = itr s f c n x
  | 0, x => by
    show bnd (x + 0) none none = x
    rw [bnd_none, Int.add_zero]
  | k + 1, x => mu_ld h k x
/-! ### the promises -/
def spHeld : Sp := fun vs H Q _ => ∃ (l : Int) (lo hi : Option Int), vs = [.int l, oV lo, oV hi] ∧ leO lo hi ∧ Q (.int (bnd l lo hi)) H
def spLed (C : Addr) : Sp := fun vs H Q _ => ∃ (p : Addr) (s f c : Option Int) (x : Int), vs = [.ref p, .int x] ∧ WayAt C H p s f c ∧ wfW s f c ∧ Q (.int (ld s f c x)) H
def spRsh (C : Addr) : Sp := fun vs H Q _ => ∃ (p q : Addr) (s1 f1 c1 s2 f2 c2 : Option Int), vs = [.ref p, .ref q] ∧ WayAt C H p s1 f1 c1 ∧ WayAt C H q s2 f2 c2 ∧ wfW s1 f1 c1 ∧ wfW s2 f2 c2 ∧
  ∀ r H', Same H H' → WayAt C H' r (nrm (rsS s1 s2) (rsB s2 f2 c2 f1 f2) (rsB s2 f2 c2 c1 c2)) (rsB s2 f2 c2 f1 f2) (rsB s2 f2 c2 c1 c2) → Q (.ref r) H'
def spMul (C : Addr) : Sp := fun vs H Q _ => ∃ (p : Addr) (s f c : Option Int) (n : Nat), vs = [.ref p, .int n] ∧ WayAt C H p s f c ∧ wfW s f c ∧ (∀ a, s = some a → -(2 ^ 64) < a ∧ a < 2 ^ 64) ∧
  ∀ r H', Same H H' → WayAt C H' r (mul s f c n).1 (mul s f c n).2.1 (mul s f c n).2.2 → Q (.ref r) H'
def weq (s1 f1 c1 s2 f2 c2 : Option Int) : Bool := decide (s1 = s2) && (decide (f1 = f2) && decide (c1 = c2))
def spEqW (C : Addr) : Sp := fun vs H Q _ => ∃ (p q : Addr) (s1 f1 c1 s2 f2 c2 : Option Int), vs = [.ref p, .ref q] ∧ WayAt C H p s1 f1 c1 ∧ WayAt C H q s2 f2 c2 ∧ Q (.bl (weq s1 f1 c1 s2 f2 c2)) H
def bt : Option Int → Str
  | none => "-"
  | some i => Str.ofString (toString i)
def spBT : Sp := fun vs H Q _ => ∃ o : Option Int, vs = [oV o] ∧ (∀ i, o = some i → i.natAbs.log2 < 1920) ∧ Q (.str (bt o)) H
def spText (C : Addr) : Sp := fun vs H Q _ => ∃ (p : Addr) (s f c : Option Int), vs = [.ref p] ∧ WayAt C H p s f c ∧ (∀ i, s = some i ∨ f = some i ∨ c = some i → i.natAbs.log2 < 1920) ∧ Q (.str (((((Str.empty ++ bt s) ++ (" " : Str)) ++ bt f) ++ (" " : Str)) ++ bt c)) H
theorem dec_oV (a b : Option Int) : decide (oV a = oV b) = decide (a = b) := by
  cases a <;> cases b <;> simp [oV]
theorem scal_oV (a b : Option Int) : scal (oV a) (oV b) = true := by
  cases a <;> cases b <;> rfl
end BL

namespace BL
open PySem PySem.Spec PyProof.Rows L2
open C8 (Cal Mak pe_c pe_mk)
/-! what a loop walks -/
section
variable {X : Cx} {C : Addr} {e a b tg : Expr} {es : List Expr} {pos : Pos} {m ma mb : ME} {mt : MT} {ms mr : MS} {mes : MA} {mi : MI}
def mSeqI (ma : ME) : MI := fun ρ S => match ma ρ S with
  | some (.lst xs, S1) => some (xs, S1)
  | some (.tup xs, S1) => some (xs, S1)
  | _ => none
theorem it_list {K : PySem.W.Frag} {W : Wd} {a : Addr} {vs : List V} {xs : List PV} (h : W.F a = some (.lst vs)) (r : RepAll K C W.F W.θ vs xs) : ItOk K C W (Itl K a) xs := by
  have h1 : ∀ W1 S, GroF W W1 → Inv1 K C W1 S → SqL K W1.H a vs := fun W1 S g i => i.s.seq (SqL.of (g.f _ _ h))
  have hr : ∀ W1, GroF W W1 → RepAll K C W1.F W1.θ vs xs := fun W1 g => by
    obtain ⟨q, eq⟩ := g.t
    rw [eq]
    exact r.mono g.f
  refine ⟨fun i W1 S g i1 hi => ?_, fun W1 S g i1 => ⟨vs, h1 W1 S g i1, by rw [r.len]; exact Nat.le_refl _⟩, fun i W1 S v H' x g i1 hx y => ?_⟩
  · obtain ⟨v, ev, _⟩ := r.at (List.getElem?_eq_getElem hi)
    exact ⟨vs, v, h1 W1 S g i1, ev⟩
  · obtain ⟨rfl, hv⟩ := y
    obtain ⟨u, eu, ru⟩ := (hr W1 g).at hx
    have := hv vs (h1 W1 S g i1)
    rw [eu] at this
    cases Option.some.inj this
    exact ⟨W1, rfl, Gro.refl _, i1, ru⟩
theorem it_tup {K : PySem.W.Frag} {W : Wd} {a : Addr} {vs : List V} {xs : List PV} (h : SqT K W.F a vs) (r : RepAll K C W.F W.θ vs xs) : ItOk K C W (Itt K a) xs := by
  have h1 : ∀ W1 S, GroF W W1 → Inv1 K C W1 S → SqT K W1.H a vs := fun W1 S g i => i.s.seT (g.f.seT h)
  have hr : ∀ W1, GroF W W1 → RepAll K C W1.F W1.θ vs xs := fun W1 g => by
    obtain ⟨q, eq⟩ := g.t
    rw [eq]
    exact r.mono g.f
  refine ⟨fun i W1 S g i1 hi => ?_, fun W1 S g i1 => ⟨vs, h1 W1 S g i1, by rw [r.len]; exact Nat.le_refl _⟩, fun i W1 S v H' x g i1 hx y => ?_⟩
  · obtain ⟨v, ev, _⟩ := r.at (List.getElem?_eq_getElem hi)
    exact ⟨vs, v, h1 W1 S g i1, ev⟩
  · obtain ⟨rfl, hv⟩ := y
    obtain ⟨u, eu, ru⟩ := (hr W1 g).at hx
    have := hv vs (h1 W1 S g i1)
    rw [eu] at this
    cases Option.some.inj this
    exact ⟨W1, rfl, Gro.refl _, i1, ru⟩
theorem iseq (h : PE X e (tM X.K C ma)) : PI X tg e (tMI X.K C (mSeqI ma)) := PI.weak (BL.PI.or (pi_list h) (pi_tup h)) fun σ H R0 ⟨W0, W, ρ, S, xs, S', eH, R, em, q⟩ => by
  subst eH
  unfold mSeqI at em
  split at em
  · rename_i ys S1 e1
    cases em
    refine .inl ⟨W0, W, ρ, S, _, S', rfl, R, e1, fun v W1 R1 g1 r1 => ?_⟩
    cases r1 with
    | lst h a => exact ⟨_, rfl, ⟨_, R1.i.s.seq (SqL.of h)⟩, q _ W1 R1 g1 (it_list h a)⟩
  · rename_i ys S1 e1
    cases em
    refine .inr ⟨W0, W, ρ, S, _, S', rfl, R, e1, fun v W1 R1 g1 r1 => ?_⟩
    cases r1 with
    | tup h a => exact ⟨_, rfl, ⟨_, R1.i.s.seT h⟩, q _ W1 R1 g1 (it_tup h a)⟩
  · cases em
/-- the ints from lo on, so many -/
def rngP (lo : Int) : Nat → List PV
  | 0 => []
  | n + 1 => .int lo :: rngP (lo + 1) n
theorem rngP_len (lo : Int) (n : Nat) : (rngP lo n).length = n := by
  induction n generalizing lo with
  | zero => rfl
  | succ n ih => exact congrArg Nat.succ (ih _)
theorem rngP_at : ∀ (n : Nat) (lo : Int) (i : Nat), i < n → (rngP lo n)[i]? = some (.int (lo + i))
  | n + 1, lo, 0, _ => by
    show some (PV.int lo) = some (PV.int (lo + ((0 : Nat) : Int)))
    rw [show lo + ((0 : Nat) : Int) = lo by omega]
  | n + 1, lo, i + 1, h => by
    show (rngP (lo + 1) n)[i]? = _
    rw [rngP_at n (lo + 1) i (by omega), show lo + 1 + (i : Int) = lo + ((i + 1 : Nat) : Int) by omega]
theorem it_rng {K : PySem.W.Frag} {W : Wd} (lo : Int) (n : Nat) : ItOk K C W (Itr lo n) (rngP lo n) := by
  refine ⟨fun i W1 S g i1 hi => by rw [rngP_len] at hi; exact hi, fun W1 S g i1 => by rw [rngP_len]; exact Nat.le_refl n, fun i W1 S v H' x g i1 hx y => ?_⟩
  obtain ⟨rfl, rfl⟩ := y
  have hi : i < n := by
    have := (List.getElem?_eq_some_iff.mp hx).1
    rwa [rngP_len] at this
  rw [rngP_at n lo i hi] at hx
  cases hx
  exact ⟨W1, rfl, Gro.refl _, i1, .int _⟩
def mRng1 (ma : ME) : MI := fun ρ S => match ma ρ S with
  | some (.int j, S1) => if -(2 ^ 62) ≤ j ∧ j < 2 ^ 62 then some (rngP 0 j.toNat, S1) else none
  | _ => none
def mRng2 (ma mb : ME) : MI := fun ρ S => match ma ρ S with
  | some (.int i, S1) => match mb ρ S1 with
    | some (.int j, S2) => if -(2 ^ 62) ≤ i ∧ i < 2 ^ 62 ∧ -(2 ^ 62) ≤ j ∧ j < 2 ^ 62 then some (rngP i (j - i).toNat, S2) else none
    | _ => none
  | _ => none
theorem irng1 {p : Pos} (hg : Gl X "range") (hm : X.mg "range" = none) (ha : PE X a (tM X.K C ma)) (hst : starEach (a :: []) X.env = (false, eval a X.env) :: starEach [] X.env := by rfl) (hs : starEach [a] X.env = [(false, eval a X.env)] := by rfl) : PI X tg (.Call (.Name "range" p) [a] [] pos) (tMI X.K C (mRng1 ma)) := PI.weak (pi_range1 hg hm (pa_cons ha pa_nil hst) hs) fun σ H R0 ⟨W0, W, ρ, S, xs, S', eH, R, em, q⟩ => by
  subst eH
  unfold mRng1 at em
  split at em
  · rename_i j S1 e1
    split at em
    · rename_i hj
      cases em
      refine ⟨W0, W, ρ, S, _, S', rfl, R, e1, fun v W1 R1 g1 r1 => ?_⟩
      cases r1
      exact ⟨j, rfl, hj.1, hj.2, q _ W1 R1 g1 (it_rng 0 _)⟩
    · cases em
  · cases em
theorem irng2 {p : Pos} (hg : Gl X "range") (hm : X.mg "range" = none) (ha : PE X a (tM X.K C ma)) (hb : PE X b (tM X.K C mb)) (hst : starEach (a :: [b]) X.env = (false, eval a X.env) :: starEach [b] X.env := by rfl) (hst2 : starEach (b :: []) X.env = (false, eval b X.env) :: starEach [] X.env := by rfl)
    (hs : starEach [a, b] X.env = [(false, eval a X.env), (false, eval b X.env)] := by rfl) (hs2 : starEach [b] X.env = [(false, eval b X.env)] := by rfl) : PI X tg (.Call (.Name "range" p) [a, b] [] pos) (tMI X.K C (mRng2 ma mb)) := PI.weak (pi_range2 hg hm (pa_cons ha (pa_cons hb pa_nil hst2) hst) hs hs2) fun σ H R0 ⟨W0, W, ρ, S, xs, S', eH, R, em, q⟩ => by
  subst eH
  unfold mRng2 at em
  split at em
  · rename_i i S1 e1
    split at em
    · rename_i j S2 e2
      split at em
      · rename_i hj
        cases em
        refine ⟨W0, W, ρ, S, _, S1, rfl, R, e1, fun v W1 R1 g1 r1 => ⟨W0, W1, ρ, S1, _, S', rfl, R1, e2, fun u W2 R2 g2 r2 => ?_⟩⟩
        cases r1
        cases r2
        exact ⟨i, j, rfl, hj, q _ W2 R2 (g1.trans g2) (it_rng i _)⟩
      · cases em
    · cases em
  · cases em
/-- enumerate, zip -/
def enuP : Int → List PV → List PV
  | _, [] => []
  | k, x :: xs => .tup [.int k, x] :: enuP (k + 1) xs
theorem enuP_len : ∀ (k : Int) (xs : List PV), (enuP k xs).length = xs.length
  | _, [] => rfl
  | k, _ :: xs => congrArg Nat.succ (enuP_len (k + 1) xs)
theorem enuP_at : ∀ {xs : List PV} {k : Int} {i : Nat} {x : PV}, (enuP k xs)[i]? = some x → ∃ y, xs[i]? = some y ∧ x = .tup [.int (k + i), y]
  | y :: ys, k, 0, x, h => ⟨y, rfl, by
    cases Option.some.inj h
    rw [show k + ((0 : Nat) : Int) = k by omega]⟩
  | y :: ys, k, i + 1, x, h => by
    obtain ⟨z, h1, h2⟩ := enuP_at (xs := ys) (k := k + 1) (i := i) h
    exact ⟨z, h1, by rw [h2, show k + 1 + (i : Int) = k + ((i + 1 : Nat) : Int) by omega]⟩
def mEnu (ma : ME) : MI := fun ρ S => match ma ρ S with
  | some (.lst xs, S1) => some (enuP 0 xs, S1)
  | _ => none
theorem it_enu {K : PySem.W.Frag} {W : Wd} {a : Addr} {vs : List V} {xs : List PV} (h : W.F a = some (.lst vs)) (r : RepAll K C W.F W.θ vs xs) : ItOk K C W (Ite K a) (enuP 0 xs) := by
  have h1 : ∀ W1 S, GroF W W1 → Inv1 K C W1 S → SqL K W1.H a vs := fun W1 S g i => i.s.seq (SqL.of (g.f _ _ h))
  have hr : ∀ W1, GroF W W1 → RepAll K C W1.F W1.θ vs xs := fun W1 g => by
    obtain ⟨q, eq⟩ := g.t
    rw [eq]
    exact r.mono g.f
  refine ⟨fun i W1 S g i1 hi => ?_, fun W1 S g i1 => ⟨vs, h1 W1 S g i1, by rw [r.len, enuP_len]; exact Nat.le_refl _⟩, fun i W1 S v H' x g i1 hx y => ?_⟩
  · rw [enuP_len] at hi
    obtain ⟨v, ev, _⟩ := r.at (List.getElem?_eq_getElem hi)
    exact ⟨vs, v, h1 W1 S g i1, ev⟩
  · obtain ⟨T, u, rfl, nT, rfl, hv⟩ := y
    obtain ⟨z, hz, rfl⟩ := enuP_at hx
    obtain ⟨u', eu, ru⟩ := (hr W1 g).at hz
    have := hv vs (h1 W1 S g i1)
    rw [eu] at this
    cases Option.some.inj this
    obtain ⟨g2, i2⟩ := laid (.tup [.int (i : Nat), u]) i1 nT
    refine ⟨_, rfl, g2, i2, .tup (SqT.of upd_same) (.cons ?_ (.cons (ru.ext g2) .nil))⟩
    rw [Int.zero_add]
    exact .int _
theorem ienu {p tpos : Pos} {elts : List Expr} {kk : Nat} (hg : Gl X "enumerate") (hm : X.mg "enumerate" = none) (ha : PE X e (tM X.K C ma)) (hst : starEach (e :: []) X.env = (false, eval e X.env) :: starEach [] X.env := by rfl) (hs : starEach [e] X.env = [(false, eval e X.env)] := by rfl) :
    PI X (.Tuple elts kk tpos) (.Call (.Name "enumerate" p) [e] [] pos) (tMI X.K C (mEnu ma)) := PI.weak (pi_enum hg hm (pa_cons ha pa_nil hst) hs) fun σ H R0 ⟨W0, W, ρ, S, xs, S', eH, R, em, q⟩ => by
  subst eH
  unfold mEnu at em
  split at em
  · rename_i ys S1 e1
    cases em
    refine ⟨W0, W, ρ, S, _, S', rfl, R, e1, fun v W1 R1 g1 r1 => ?_⟩
    cases r1 with
    | lst h a => exact ⟨_, _, rfl, R1.i.s.seq (SqL.of h), q _ W1 R1 g1 (it_enu h a)⟩
  · cases em
end
end BL

namespace BL
open PySem PySem.Spec PyProof.Rows L2
open C8 (Cal Mak pe_c pe_mk)
theorem nd_inj {a : Addr} : ∀ {l : List Addr} {m n : Nat}, l.Nodup → l[m]? = some a → l[n]? = some a → m = n
  | _ :: _, 0, 0, _, _, _ => rfl
  | x :: l, 0, n + 1, nd, h1, h2 => by
    cases Option.some.inj h1
    exact ((List.nodup_cons.mp nd).1 (List.mem_of_getElem? (i := n) h2)).elim
  | x :: l, m + 1, 0, nd, h1, h2 => by
    cases Option.some.inj h2
    exact ((List.nodup_cons.mp nd).1 (List.mem_of_getElem? (i := m) h1)).elim
  | x :: l, m + 1, n + 1, nd, h1, h2 => congrArg Nat.succ (nd_inj (List.nodup_cons.mp nd).2 h1 h2)
/-! comprehensions -/
section
variable {X : Cx} {C : Addr} {e a b tg : Expr} {es : List Expr} {st : Stmt} {pos : Pos} {m ma mb me : ME} {mt : MT} {ms mr : MS} {mes : MA} {mi : MI}
theorem xlc (t : Tg) {own : List (Str × Nat)} (hv : ∀ i ∈ t.ids, i ∈ own.map (·.2)) (h : PE X e (tLc (tMI X.K C mi) (t.g X.K) (tMT X.K C mt) (tM X.K C me) (own.map (·.2)))) : PE X e (tM X.K C (mLc t mi mt me (own.map (·.2)))) := PE.weak h fun σ H Q q => lc_lift hv q
theorem xsetLc (t : Tg) {i : Nat} {own : List (Str × Nat)} (hv : ∀ i ∈ t.ids, i ∈ own.map (·.2)) (h : PS X st (tAsg (tLc (tMI X.K C mi) (t.g X.K) (tMT X.K C mt) (tM X.K C me) (own.map (·.2))) (gName i))) : PS X st (tMS X.K C (mAsg (.nm i) (mLc t mi mt me (own.map (·.2))))) :=
  xasgT (.nm i) (PS.weak h fun D σ H q => by
    show tLc _ _ _ _ _ σ H _
    exact lc_lift hv q)
theorem gtp {is : List Nat} {k : Nat} (hc : X.calm = true) (h : PGs X es (tgs is)) (hn : (assignEach es X.env).length = is.length := by rfl) (hst : (assignEach es X.env).findIdx? (·.1) = none := by rfl) : PG X (.Tuple es k pos) ((Tg.tp is).g X.K) := ⟨fun pins s σ H v u Q I r q => q.elim ((pg_tup hc h hn hst).run pins s σ H v u Q I r) ((pg_unl hc h hn hst).run pins s σ H v u Q I r)⟩
theorem gtq {gs : List (Nat ⊕ List Nat)} {k : Nat} (hc : X.calm = true) (h : PGs X es (tgsQ X.K gs)) (hn : (assignEach es X.env).length = gs.length := by rfl) (hst : (assignEach es X.env).findIdx? (·.1) = none := by rfl) : PG X (.Tuple es k pos) ((Tg.tq gs).g X.K) := ⟨fun pins s σ H v u Q I r q => q.elim ((pg_tup hc h hn hst).run pins s σ H v u Q I r) ((pg_unl hc h hn hst).run pins s σ H v u Q I r)⟩
/-! calls -/
theorem xcall0 {f : List PV → List PV → Option (PV × List PV)} {E : XK} (h : PE X e (tCall (spM X.K C f) [] E tNil)) : PE X e (tM X.K C (mCall f mNil)) := PE.weak h fun σ H Q ⟨W0, W, ρ, S, z, S', eH, R, em, q⟩ => by
  subst eH
  exact ⟨W, S, [], z, S', rfl, R.i, .nil, em, fun v W2 g2 i2 r2 => q v W2 (R.ext g2 i2) g2 r2⟩
/-- all by names: ps tells in which order the names' values stand among the parameters -/
def getAll (ps : List Nat) (xs : List PV) : Option (List PV) := ps.mapM fun i => xs[i]?
end
/-- new things beside what stood -/
theorem laidS {K : PySem.W.Frag} {C : Addr} {W : Wd} {S : List PV} {p : Addr} {o : HO} {H' : Hp} (i : Inv1 K C W S) (n : W.H p = none) (s : Same W.H H') (e : H' p = some o) : Gro W ⟨upd W.F p o, H', W.θ⟩ ∧ Inv1 K C ⟨upd W.F p o, H', W.θ⟩ S := by
  have fn : W.F p = none := i.s.free n
  have g : Gro W ⟨upd W.F p o, H', W.θ⟩ := by
    refine ⟨same_upd fn, ⟨[], (List.append_nil _).symm, fun _ h => by cases h⟩, fun q o' e _ => s _ _ e, fun q o' e => ⟨o', s _ _ e⟩, fun q o' e z => ?_⟩
    show upd W.F p o q = _
    rw [upd_ne (ne_of_none e n)]
    exact z
  refine ⟨g, ⟨fun q o' h => ?_, i.len, i.nd, fun k a x h1 h2 => ?_⟩⟩
  · change upd W.F p o q = some o' at h
    show H' q = some o'
    by_cases c : q = p
    · subst c
      rw [upd_same] at h
      rw [← h]
      exact e
    · rw [upd_ne c] at h
      exact s _ _ (i.s _ _ h)
  · obtain ⟨z, m⟩ := i.m k a x h1 h2
    obtain ⟨o', ho⟩ := m.laid
    refine ⟨g.n _ _ ho z, ?_⟩
    cases x with
    | lst xs =>
      obtain ⟨vs, e, r⟩ := m
      exact ⟨vs, s _ _ e, r.ext g⟩
    | _ => exact m.elim
/-! ways -/
def oP : PV → Option (Option Int)
  | .non => some none
  | .int i => some (some i)
  | _ => none
def PO' : Option Int → PV
  | none => .non
  | some i => .int i
theorem oP_PO (o : Option Int) : oP (PO' o) = some o := by cases o <;> rfl
def okWb (s f c : Option Int) : Bool := match f, c with
  | some a, some b => decide (a ≤ b) && (match s with | none => decide (a = b) | some _ => true)
  | _, _ => match s with | none => false | some _ => true
theorem okWb_ok {s f c : Option Int} (h : okWb s f c = true) : okW s f c := by
  unfold okWb at h
  unfold okW
  cases f with
  | none => cases s with | none => cases h | some x => exact fun z => by cases z
  | some a =>
    cases c with
    | none => cases s with | none => cases h | some x => exact fun z => by cases z
    | some b =>
      cases s with
      | none => simp only [Bool.and_eq_true, decide_eq_true_eq] at h; exact ⟨h.1, fun _ => h.2⟩
      | some x => simp only [Bool.and_true, decide_eq_true_eq] at h; exact ⟨h, fun z => by cases z⟩
def way3 (x y z : PV) : Option PV := match oP x, oP y, oP z with
  | some s, some f, some c => if okWb s f c then some (.way (nrm s f c) f c) else none
  | _, _, _ => none
def fWay (_ : List PV) : List PV → Option PV
  | [x] => way3 x .non .non
  | [x, y] => way3 x y .non
  | [x, y, z] => way3 x y z
  | _ => none
section
variable {X : Cx} {C : Addr} {e a b tg : Expr} {es : List Expr} {st : Stmt} {pos : Pos} {m ma mb me mf : ME} {mt : MT} {ms mr : MS} {mes : MA} {mi : MI}
theorem Rep.oV {K : PySem.W.Frag} {F : Hp} {θ : List Addr} {v : V} {x : PV} {o : Option Int} (r : Rep K C F θ v x) (h : oP x = some o) : v = oV o := by
  unfold oP at h
  split at h
  · cases h; cases r; rfl
  · cases h; cases r; rfl
  · cases h
theorem Rep.po {K : PySem.W.Frag} {F : Hp} {θ : List Addr} (o : Option Int) : Rep K C F θ (BL.oV o) (PO' o) := by
  cases o with
  | none => exact .non
  | some i => exact .int i
theorem xway {dvs : List V} {n : Nat} {E : XK} (hd : (n = 1 ∧ dvs = [.non, .non]) ∨ (n = 2 ∧ dvs = [.non]) ∨ (n = 3 ∧ dvs = [])) (hn : ∀ ρ S xs S', mes ρ S = some (xs, S') → xs.length = n) (h : PE X e (tMake C (spInitW C) dvs E (tMA X.K C mes))) : PE X e (tM X.K C (mFn fWay mes)) := PE.weak h fun σ H Q ⟨W0, W, ρ, S, z, S', eH, R, em, q⟩ => by
  subst eH
  obtain ⟨xs, e1, e3⟩ := mFn_inv em
  have hl := hn _ _ _ _ e1
  refine ⟨W0, W, ρ, S, xs, S', rfl, R, e1, fun vs W1 R1 g1 r1 => fun x dx nx ndx nex => ?_⟩
  have key : ∀ (s f c : Option Int), .ref x :: (vs ++ dvs) = [V.ref x, oV s, oV f, oV c] → okW s f c → z = .way (nrm s f c) f c → spInitW C (.ref x :: (vs ++ dvs)) (upd (upd W1.H dx (.own x)) x (.ins C dx [])) (fun v H2 => v = .non ∧ Q (.ref x) H2) E := by
    intro s f c ev ok ez
    subst ez
    refine ⟨x, dx, s, f, c, ev, upd_same, ok, fun H' hw hk => ⟨rfl, ?_⟩⟩
    obtain ⟨dx', hx⟩ := hw
    have sm : Same W1.H H' := fun p o e => hk p o (by rw [upd_ne (ne_of_none e nx), upd_ne (ne_of_none e ndx)]; exact e) (ne_of_none e nx)
    obtain ⟨g2, i2⟩ := laidS R1.i nx sm hx
    exact q _ _ (R1.ext g2 i2) (g1.trans g2) (.way ⟨dx', upd_same⟩)
  have un : ∀ {x y z' : PV}, way3 x y z' = some z → ∃ s f c, oP x = some s ∧ oP y = some f ∧ oP z' = some c ∧ okW s f c ∧ z = .way (nrm s f c) f c := by
    intro x y z' h
    unfold way3 at h
    split at h
    · rename_i s f c h1 h2 h3
      split at h
      · rename_i ok
        cases h
        exact ⟨s, f, c, h1, h2, h3, okWb_ok ok, rfl⟩
      · cases h
    · cases h
  unfold fWay at e3
  split at e3
  · obtain ⟨s, f, c, h1, h2, h3, ok, ez⟩ := un e3
    cases r1 with
    | cons r rr =>
      cases rr
      rcases hd with ⟨_, hd⟩ | ⟨hn, _⟩ | ⟨hn, _⟩
      · subst hd
        cases h2
        cases h3
        exact key s none none (by rw [r.oV h1]; rfl) ok ez
      · rw [hn] at hl; cases hl
      · rw [hn] at hl; cases hl
  · obtain ⟨s, f, c, h1, h2, h3, ok, ez⟩ := un e3
    cases r1 with
    | cons r rr =>
      cases rr with
      | cons r' rr =>
        cases rr
        rcases hd with ⟨hn, hd⟩ | ⟨_, hd⟩ | ⟨hn, _⟩
        · rw [hn] at hl; cases hl
        · subst hd
          cases h3
          exact key s f none (by rw [r.oV h1, r'.oV h2]; rfl) ok ez
        · rw [hn] at hl; cases hl
  · obtain ⟨s, f, c, h1, h2, h3, ok, ez⟩ := un e3
    cases r1 with
    | cons r rr =>
      cases rr with
      | cons r' rr =>
        cases rr with
        | cons r'' rr =>
          cases rr
          rcases hd with ⟨hn, hd⟩ | ⟨hn, hd⟩ | ⟨_, hd⟩
          · rw [hn] at hl; cases hl
          · rw [hn] at hl; cases hl
          · subst hd
            exact key s f c (by rw [r.oV h1, r'.oV h2, r''.oV h3]; rfl) ok ez
  · cases e3
def MLen (mes : MA) (n : Nat) : Prop := ∀ ρ S xs S', mes ρ S = some (xs, S') → xs.length = n
theorem mlen_nil : MLen mNil 0 := fun _ _ _ _ h => by cases h; rfl
theorem mlen_cons {n : Nat} (h : MLen mes n) : MLen (mCons ma mes) (n + 1) := fun _ _ _ _ e => by
  obtain ⟨x, S1, xs, _, e2, rfl⟩ := mCons_inv e
  exact congrArg Nat.succ (h _ _ _ _ e2)
theorem mono_tM {K : PySem.W.Frag} : Mono (tM K C m) := fun σ H Q Q' i ⟨W0, W, ρ, S, z, S', eH, R, em, q⟩ => ⟨W0, W, ρ, S, z, S', eH, R, em, fun v W' a b c => i _ _ (q v W' a b c)⟩
theorem mono_tMA {K : PySem.W.Frag} : MonoA (tMA K C mes) := fun σ H Q Q' i ⟨W0, W, ρ, S, z, S', eH, R, em, q⟩ => ⟨W0, W, ρ, S, z, S', eH, R, em, fun v W' a b c => i _ _ (q v W' a b c)⟩
/-- way.shift and so on -/
def mSel (sel : Option Int → Option Int → Option Int → Option Int) (ma : ME) : ME := fun ρ S => match ma ρ S with
  | some (.way s f c, S1) => some (PO' (sel s f c), S1)
  | _ => none
theorem xsel {sel : Option Int → Option Int → Option Int → Option Int} (h : PE X e (tWF C sel (tM X.K C ma))) : PE X e (tM X.K C (mSel sel ma)) := PE.weak h fun σ H Q ⟨W0, W, ρ, S, z, S', eH, R, em, q⟩ => by
  subst eH
  unfold mSel at em
  split at em
  · rename_i s f c S1 e1
    cases em
    refine ⟨W0, W, ρ, S, _, S', rfl, R, e1, fun v W1 R1 g1 r1 => ?_⟩
    cases r1 with
    | way h => exact ⟨_, s, f, c, rfl, h.same R1.i.s, q _ W1 R1 g1 (.po _)⟩
  · cases em
/-- way(e) -/
def mCalled (f : List PV → List PV → Option (PV × List PV)) (mf : ME) (mes : MA) : ME := fun ρ S => match mf ρ S with
  | some (.way s g c, S1) => match mes ρ S1 with
    | some (xs, S2) => f (.way s g c :: xs) S2
    | none => none
  | _ => none
theorem xcalled {f : List PV → List PV → Option (PV × List PV)} (h : PE X e (tCalled C (spM X.K C f) (tM X.K C mf) (tMA X.K C mes))) : PE X e (tM X.K C (mCalled f mf mes)) := PE.weak h fun σ H Q ⟨W0, W, ρ, S, z, S', eH, R, em, q⟩ => by
  subst eH
  unfold mCalled at em
  split at em
  · rename_i s g c S1 e1
    split at em
    · rename_i xs S2 e2
      refine ⟨W0, W, ρ, S, _, S1, rfl, R, e1, fun v W1 R1 g1 r1 => ?_⟩
      have r1' := r1
      cases r1 with
      | way h =>
        refine ⟨_, rfl, W0, W1, ρ, S1, xs, S2, rfl, R1, e2, fun vs W2 R2 g2 r2 => ⟨?_, ?_⟩⟩
        · obtain ⟨dx, hx⟩ := h.same g2.f
          exact ⟨dx, _, R2.i.s _ _ hx⟩
        · exact ⟨W2, S2, _, z, S', rfl, R2.i, .cons (r1'.ext g2) r2, em, fun v W3 g3 i3 r3 => q v W3 (R2.ext g3 i3) ((g1.trans g2).trans g3) r3⟩
    · cases em
  · cases em
/-- two ways by the class's own operator -/
def mBin (f : List PV → List PV → Option (PV × List PV)) (ma mb : ME) : ME := fun ρ S => match ma ρ S with
  | some (.way s g c, S1) => match mb ρ S1 with
    | some (.way s' g' c', S2) => f [.way s g c, .way s' g' c'] S2
    | _ => none
  | _ => none
theorem bin_lift {K : PySem.W.Frag} {f : List PV → List PV → Option (PV × List PV)} {σ : L2.St} {H : Hp} {Q : VK} (h : tM K C (mBin f ma mb) σ H Q) : tOp (rBin C (spM K C f)) (tM K C ma) (tM K C mb) σ H Q := by
  obtain ⟨W0, W, ρ, S, z, S', eH, R, em, q⟩ := h
  subst eH
  unfold mBin at em
  split at em
  · rename_i s g c S1 e1
    split at em
    · rename_i s' g' c' S2 e2
      refine ⟨W0, W, ρ, S, _, S1, rfl, R, e1, fun v W1 R1 g1 r1 => ⟨W0, W1, ρ, S1, _, S2, rfl, R1, e2, fun u W2 R2 g2 r2 => ?_⟩⟩
      have r1' := r1.ext g2
      have r2' := r2
      cases r1 with
      | way h =>
        cases r2 with
        | way h2 =>
          obtain ⟨dx, hx⟩ := h.same g2.f
          obtain ⟨dy, hy⟩ := h2
          exact ⟨_, _, dx, dy, _, _, rfl, rfl, R2.i.s _ _ hx, R2.i.s _ _ hy, W2, S2, _, z, S', rfl, R2.i, .cons r1' (.cons r2' .nil), em, fun v W3 g3 i3 r3 => q v W3 (R2.ext g3 i3) ((g1.trans g2).trans g3) r3⟩
    · cases em
  · cases em
theorem xbin {f : List PV → List PV → Option (PV × List PV)} (h : PE X e (tOp (rBin C (spM X.K C f)) (tM X.K C ma) (tM X.K C mb))) : PE X e (tM X.K C (mBin f ma mb)) := PE.weak h fun σ H Q q => bin_lift q
theorem xbinT {f : List PV → List PV → Option (PV × List PV)} (h : PT X e (tTest (tOp (rBin C (spM X.K C f)) (tM X.K C ma) (tM X.K C mb)))) : PT X e (tMT X.K C (mTru (mBin f ma mb))) := PT.weak h fun σ H Q ⟨W0, W, ρ, S, z, S', eH, R, em, q⟩ => by
  subst eH
  exact bin_lift ⟨W0, W, ρ, S, .bl z, S', rfl, R, mTru_inv em, fun v W1 R1 g1 r1 => by cases r1; exact ⟨z, rfl, q W1 R1 g1⟩⟩
/-- way * number -/
def mBinI (f : List PV → List PV → Option (PV × List PV)) (ma mb : ME) : ME := fun ρ S => match ma ρ S with
  | some (.way s g c, S1) => match mb ρ S1 with
    | some (.int i, S2) => f [.way s g c, .int i] S2
    | _ => none
  | _ => none
theorem xbinI {f : List PV → List PV → Option (PV × List PV)} (h : PE X e (tOp (rBinI C (spM X.K C f)) (tM X.K C ma) (tM X.K C mb))) : PE X e (tM X.K C (mBinI f ma mb)) := PE.weak h fun σ H Q ⟨W0, W, ρ, S, z, S', eH, R, em, q⟩ => by
  subst eH
  unfold mBinI at em
  split at em
  · rename_i s g c S1 e1
    split at em
    · rename_i i S2 e2
      refine ⟨W0, W, ρ, S, _, S1, rfl, R, e1, fun v W1 R1 g1 r1 => ⟨W0, W1, ρ, S1, _, S2, rfl, R1, e2, fun u W2 R2 g2 r2 => ?_⟩⟩
      have r1' := r1.ext g2
      have r2' := r2
      cases r1 with
      | way h =>
        cases r2
        obtain ⟨dx, hx⟩ := h.same g2.f
        exact ⟨_, i, dx, _, rfl, rfl, R2.i.s _ _ hx, W2, S2, _, z, S', rfl, R2.i, .cons r1' (.cons r2' .nil), em, fun v W3 g3 i3 r3 => q v W3 (R2.ext g3 i3) ((g1.trans g2).trans g3) r3⟩
    · cases em
  · cases em
/-- isinstance(x, Way) of a way -/
def mIsW (ma : ME) : ME := fun ρ S => match ma ρ S with
  | some (.way _ _ _, S1) => some (.bl true, S1)
  | _ => none
theorem xisW (h : PE X e (tCB (fun xs H Q => ∃ a dx fs, xs = [.ref a, .ref C] ∧ H a = some (.ins C dx fs) ∧ Q (.bl true) H) (tCons (tM X.K C ma) (tCons (tC (.ref C)) tNil)))) : PE X e (tM X.K C (mIsW ma)) := PE.weak h fun σ H Q ⟨W0, W, ρ, S, z, S', eH, R, em, q⟩ => by
  subst eH
  unfold mIsW at em
  split at em
  · rename_i s g c S1 e1
    cases em
    refine ⟨W0, W, ρ, S, _, S', rfl, R, e1, fun v W1 R1 g1 r1 => ?_⟩
    cases r1 with
    | way h =>
      obtain ⟨dx, hx⟩ := h
      exact ⟨_, dx, _, rfl, R1.i.s _ _ hx, q _ W1 R1 g1 (.bl true)⟩
  · cases em
/-- what must never be reached -/
def mDead : MS := fun _ _ => none
theorem xdead : PS X st (tMS X.K C mDead) := ⟨fun _ _ _ _ _ _ ⟨_, _, _, _, _, _, _, em, _⟩ => by cases em⟩
/-- isinstance(x, T), T a built-in class -/
def tyN : PV → Option String
  | .non => some "NoneType" | .bl _ => some "bool" | .int _ => some "int" | .str _ => some "str" | .lst _ => some "list" | .tup _ => some "tuple"
  | _ => none
def mIsT (T : String) (ma : ME) : ME := fun ρ S => match ma ρ S with
  | some (x, S1) => match tyN x with
    | some t => match kitB t T with
      | some b => some (.bl b, S1)
      | none => none
    | none => none
  | none => none
theorem xisT {T : String} (h : PE X e (tCB (rIsi X.K) (tCons (tM X.K C ma) (tCons (tC (.ty T)) tNil)))) : PE X e (tM X.K C (mIsT T ma)) := PE.weak h fun σ H Q ⟨W0, W, ρ, S, z, S', eH, R, em, q⟩ => by
  subst eH
  unfold mIsT at em
  split at em
  · rename_i x S1 e1
    split at em
    · rename_i t e2
      split at em
      · rename_i b' e3
        cases em
        refine ⟨W0, W, ρ, S, x, S', rfl, R, e1, fun v W1 R1 g1 r1 => ?_⟩
        refine ⟨v, _, .type t, _, b', rfl, .ty _, ?_, kit_ty e3, q _ W1 R1 g1 (.bl _)⟩
        cases r1 with
        | non => cases e2; exact .base .non
        | bl b => cases e2; exact .base (.bl b)
        | int b => cases e2; exact .base (.int b)
        | str b => cases e2; exact .base (.str b)
        | lst h a => cases e2; exact ty_l (SqL.of (R1.i.s _ _ h))
        | tup h a => cases e2; exact ty_t (R1.i.s.seT h)
        | way h => cases e2
        | mref h => cases e2
        | exc _ _ _ _ _ _ => cases e2
      · cases em
    · cases em
  · cases em
/-- len of an own list -/
theorem xlenO {i : Nat} (h : PE X e (tCB (fun xs H Q => ∃ p ys, xs = [.ref p] ∧ (SqL X.K H p ys ∨ SqT X.K H p ys) ∧ Q (.int ys.length) H) (tCons (tVar i) tNil))) : PE X e (tM X.K C (mLenO i)) := PE.weak h fun σ H Q ⟨W0, W, ρ, S, z, S', eH, R, em, q⟩ => by
  subst eH
  unfold mLenO at em
  split at em
  · rename_i xs hx
    cases em
    obtain ⟨a, ea, o1, o2, o3, us, eh, ru⟩ := R.s i _ hx
    exact ⟨_, ea, a, us, rfl, .inl (SqL.of eh), by rw [ru.len]; exact q _ W R (Gro.refl _) (.int _)⟩
  · cases em
/-- a list that will be changed by others: laid where the changing things are -/
def mNewM (mes : MA) : ME := fun ρ S => match mes ρ S with
  | some (xs, S1) => if xs.length ≤ 100000 then some (.mref S1.length, S1 ++ [.lst xs]) else none
  | none => none
theorem xnewM (h : PE X e (tLst (tMA X.K C mes))) : PE X e (tM X.K C (mNewM mes)) := PE.weak h fun σ H Q ⟨W0, W, ρ, S, z, S', eH, R, em, q⟩ => by
  subst eH
  unfold mNewM at em
  split at em
  · rename_i xs S1 e1
    split at em
    · rename_i hl
      cases em
      refine ⟨W0, W, ρ, S, xs, S1, rfl, R, e1, fun vs W1 R1 g1 r1 => ⟨by rw [r1.len]; exact Nat.le_trans hl lim, fun p np => ?_⟩⟩
      have fn : W1.F p = none := R1.i.s.free np
      have hp : p ∉ W1.θ := fun m => by
        obtain ⟨k, hk⟩ := List.getElem?_of_mem m
        have hk' : k < S1.length := by rw [← R1.i.len]; exact (List.getElem?_eq_some_iff.mp hk).1
        obtain ⟨_, m⟩ := R1.i.m k p _ hk (List.getElem?_eq_getElem hk')
        obtain ⟨o, ho⟩ := m.laid
        rw [np] at ho
        cases ho
      have g2 : Gro W1 ⟨W1.F, upd W1.H p (.lst vs), W1.θ ++ [p]⟩ := by
        refine ⟨Same.refl _, ⟨[p], rfl, fun q hq => by simp at hq; rw [hq]; exact np⟩, fun q o' e _ => ?_, fun q o' e => ?_, fun q o' e z => z⟩
        · show upd W1.H p _ q = _
          rw [upd_ne (ne_of_none e np)]
          exact e
        · exact ⟨o', by show upd W1.H p _ q = _; rw [upd_ne (ne_of_none e np)]; exact e⟩
      have i2 : Inv1 X.K C ⟨W1.F, upd W1.H p (.lst vs), W1.θ ++ [p]⟩ (S1 ++ [.lst xs]) := by
        refine ⟨fun q o' e => ?_, by rw [List.length_append, List.length_append, R1.i.len]; rfl, ?_, fun k a x h1 h2 => ?_⟩
        · show upd W1.H p _ q = some o'
          rw [upd_ne (ne_of_none e fn)]
          exact R1.i.s _ _ e
        · exact List.nodup_append.mpr ⟨R1.i.nd, by simp, fun a ha b hb => by simp at hb; rw [hb]; exact fun z => hp (by rw [← z]; exact ha)⟩
        · by_cases hk : k < W1.θ.length
          · have h1' : W1.θ[k]? = some a := by
              have : (W1.θ ++ [p])[k]? = some a := h1
              rwa [List.getElem?_append_left hk] at this
            rw [List.getElem?_append_left (by rw [← R1.i.len]; exact hk)] at h2
            obtain ⟨z, m⟩ := R1.i.m k a x h1' h2
            refine ⟨z, ?_⟩
            cases x with
            | lst ys =>
              obtain ⟨us, e, r⟩ := m
              refine ⟨us, ?_, r.ext g2⟩
              show upd W1.H p _ a = _
              rw [upd_ne (ne_of_none e np)]
              exact e
            | _ => exact m.elim
          · have h1' : (W1.θ ++ [p])[k]? = some a := h1
            rw [List.getElem?_append_right (by omega)] at h1'
            have ek : k = W1.θ.length := by
              have := (List.getElem?_eq_some_iff.mp h1').1
              simp at this
              omega
            subst ek
            rw [Nat.sub_self] at h1'
            cases h1'
            rw [R1.i.len, List.getElem?_append_right (Nat.le_refl _), Nat.sub_self] at h2
            cases h2
            exact ⟨fn, vs, upd_same, r1.ext g2⟩
      refine q _ _ (R1.ext g2 i2) (g1.trans g2) (.mref ?_)
      show (W1.θ ++ [p])[S1.length]? = some p
      rw [← R1.i.len, List.getElem?_append_right (Nat.le_refl _), Nat.sub_self]
      rfl
    · cases em
  · cases em
/-- o[i] = e, o a thing that others may change -/
def mPutM (mo mi ma : ME) : MS := fun ρ S => match ma ρ S with
  | some (y, S1) => match mo ρ S1 with
    | some (.mref n, S2) => match mi ρ S2 with
      | some (.int k, S3) => match S3[n]? with
        | some (.lst xs) => match ixP xs.length k with
          | some j => some (.nx ρ (S3.set n (.lst (xs.set j y))))
          | none => none
        | _ => none
      | _ => none
    | _ => none
  | none => none
theorem xputM {mo mi : ME} (h : PS X st (tAsg (tM X.K C ma) (gSub (tM X.K C mo) (tM X.K C mi) rSetL))) : PS X st (tMS X.K C (mPutM mo mi ma)) := PS.weak h fun D σ H ⟨W0, W, ρ, S, out, eH, R, em, p⟩ => by
  subst eH
  unfold mPutM at em
  split at em
  · rename_i y S1 e1
    split at em
    · rename_i n S2 e2
      split at em
      · rename_i k S3 e3
        split at em
        · rename_i xs hx
          split at em
          · rename_i j hj
            cases em
            refine ⟨W0, W, ρ, S, y, S1, rfl, R, e1, fun v W1 R1 g1 r1 => ⟨W0, W1, ρ, S1, _, S2, rfl, R1, e2, fun o W2 R2 g2 r2 => ⟨W0, W2, ρ, S2, _, S3, rfl, R2, e3, fun w W3 R3 g3 r3 => ?_⟩⟩⟩
            cases r3
            have r2' := r2.ext g3
            cases r2' with
            | mref hn =>
              rename_i a
              obtain ⟨fz, us, eh, ru⟩ := R3.i.m n a _ hn hx
              have ma : a ∈ W3.θ := List.mem_of_getElem? hn
              have rv := (r1.ext g2).ext g3
              refine ⟨a, us, k, j, rfl, rfl, eh, by rw [ru.len, ← ixP_eq]; exact hj, p σ ⟨W3.F, upd W3.H a (.lst (us.set j v)), W3.θ⟩ ⟨((g1.trans g2).trans g3).groF.f, ((g1.trans g2).trans g3).groF.t⟩ ?_⟩
              have mm : ∀ {b : Addr} {x : PV}, b ≠ a → Mut X.K C W3 b x → Mut X.K C ⟨W3.F, upd W3.H a (.lst (us.set j v)), W3.θ⟩ b x := fun {b x} n r => by
                cases x with
                | lst ys =>
                  obtain ⟨us', e, r⟩ := r
                  refine ⟨us', ?_, r⟩
                  show upd W3.H a _ b = _
                  rw [upd_ne n]
                  exact e
                | _ => exact r.elim
              refine ⟨⟨R3.e.f, R3.e.t, fun q o e nq => ?_, fun q o e => ?_, R3.e.n⟩, ⟨fun b o e => ?_, by rw [List.length_set]; exact R3.i.len, R3.i.nd, fun m b x h1 h2 => ?_⟩, R3.l, fun i sl hi => ?_, R3.d⟩
              · have e' := R3.e.h q o e nq
                show upd W3.H a _ q = _
                rw [upd_ne ?_]
                · exact e'
                · intro z
                  subst z
                  obtain ⟨r, er, fr⟩ := R3.e.t
                  rw [er] at ma
                  rcases List.mem_append.mp ma with ma | ma
                  · exact nq ma
                  · rw [fr _ ma] at e
                    cases e
              · obtain ⟨o', e'⟩ := R3.e.k q o e
                by_cases c : q = a
                · exact ⟨.lst (us.set j v), by rw [c]; exact upd_same⟩
                · exact ⟨o', by show upd W3.H a _ q = _; rw [upd_ne c]; exact e'⟩
              · show upd W3.H a _ b = some o
                rw [upd_ne (fun z => by
                  rw [z] at e
                  have e : W3.F a = some o := e
                  rw [fz] at e
                  cases e)]
                exact R3.i.s _ _ e
              · by_cases c : n = m
                · subst c
                  have hl : n < S3.length := (List.getElem?_eq_some_iff.mp hx).1
                  rw [List.getElem?_set_self hl] at h2
                  cases h2
                  have h1 : W3.θ[n]? = some b := h1
                  rw [hn] at h1
                  cases h1
                  exact ⟨fz, _, upd_same, ru.set j rv⟩
                · rw [List.getElem?_set_ne c] at h2
                  obtain ⟨z, m'⟩ := R3.i.m m b x h1 h2
                  refine ⟨z, mm (fun hz => ?_) m'⟩
                  subst hz
                  have h1 : W3.θ[m]? = some b := h1
                  exact c (nd_inj R3.i.nd hn h1)
              · have sl' := R3.s i sl hi
                cases sl with
                | un => trivial
                | val y => exact sl'
                | own y =>
                  obtain ⟨b, eb, p1, p2, p3, p4⟩ := sl'
                  exact ⟨b, eb, p1, p2, p3, mm (fun z => p3 (by rw [z]; exact ma)) p4⟩
          · cases em
        · cases em
      · cases em
    · cases em
  · cases em
end
/-! defs -/
def mDef (np nN : Nat) (m : MS) : List PV → List PV → Option (PV × List PV) := fun xs S => if xs.length = np then match m (xs.map .val ++ List.replicate (nN - np) .un) S with
    | some (.rt x S') => some (x, S')
    | some (.nx _ S') => some (.non, S')
    | _ => none
  else none
theorem okM {P : Program} {w : World} {K : PySem.W.Frag} {mg : Str → Option Value} {base : Heap} {C : Addr} {x qual : Str} {st : Stmt} {f : Addr} {fd : FuncData} {N ps : List Str} {k : Nat} {m : MS} (F : Fun K x qual st f fd) (Sc : FnScope N ps (defScope st))
    (hb : ∀ (cdv : Value) (A : Around) (outer : List Env) (s : Shared) (H : Hp) (E : XK), Room k (A.deeper (envOfC qual (defScope st) s.heap.objs.size f cdv)) → PSs (cxOf CX0 P w K mg base N qual (defScope st) f cdv A outer s H E).nox (defBody st) (tMS K C m)) :
    FnOk P w K mg base CX0 (k + 1) f fd ps (spM K C (mDef ps.length N.length m)) := by
  refine F.ok Sc (fun vs H Q E h => ?_) (fun cdv A outer s H vs Q E hr h => ?_)
  · obtain ⟨W, S, xs, x, S', eH, i, r, em, q⟩ := h
    unfold mDef at em
    split at em
    · rename_i hl
      rw [r.len, hl]
    · cases em
  · refine ⟨_, hb cdv A outer s H E hr, ?_⟩
    obtain ⟨W, S, xs, x, S', eH, i, r, em, q⟩ := h
    subst eH
    unfold mDef at em
    split at em
    · rename_i hl
      have hl2 : vs.length = ps.length := by rw [r.len, hl]
      have R : Rel K C W W (L2.start N vs) (xs.map .val ++ List.replicate (N.length - ps.length) .un) S := by
        refine ⟨Gro.refl _, i, ?_, fun j sl hj => ?_, fun j k y z a h1 _ _ _ => ?_⟩
        · unfold L2.start
          rw [List.length_append, List.length_append, List.length_map, List.length_map, List.length_replicate, List.length_replicate, r.len, hl]
        · by_cases c : j < xs.length
          · rw [List.getElem?_append_left (by rw [List.length_map]; exact c), List.getElem?_map, List.getElem?_eq_getElem c] at hj
            cases hj
            obtain ⟨v, ev, rv⟩ := r.at (List.getElem?_eq_getElem c)
            refine ⟨v, ?_, rv⟩
            unfold L2.start
            rw [List.getElem?_append_left (by rw [List.length_map, r.len]; exact c), List.getElem?_map, ev]
            rfl
          · rw [List.getElem?_append_right (by rw [List.length_map]; omega), List.getElem?_replicate] at hj
            split at hj
            · cases hj
              trivial
            · cases hj
        · by_cases c : j < xs.length
          · rw [List.getElem?_append_left (by rw [List.length_map]; exact c), List.getElem?_map, List.getElem?_eq_getElem c] at h1
            cases h1
          · rw [List.getElem?_append_right (by rw [List.length_map]; omega), List.getElem?_replicate] at h1
            split at h1
            · cases h1
            · cases h1
      split at em
      · rename_i y S1 e1
        cases em
        exact ⟨W, W, _, S, _, rfl, R, e1, fun v W' g i r => q v W' g i r⟩
      · rename_i ρ1 S1 e1
        cases em
        exact ⟨W, W, _, S, _, rfl, R, e1, fun σ W' g R' => q _ W' R'.e R'.i .non⟩
      · cases em
    · cases em
end BL

namespace BL
open PySem PySem.Spec PyProof.Rows L2
open C8 (Cal Mak pe_c pe_mk)
theorem op_eqP {X : Cx} (hu : X.A.units + 64 < cLine) : OpR X (compareOp .Eq) (rEqP X.K) := BL.OpR.or op_eq (op_eqD hu)
theorem op_neP {X : Cx} (hu : X.A.units + 64 < cLine) : OpR X (compareOp .NotEq) (rNeP X.K) := BL.OpR.or op_ne (op_neD hu)
/-! x in xs -/
def PV.toV : PV → Option V
  | .non => some .non | .bl b => some (.bl b) | .int i => some (.int i) | .str x => some (.str x)
  | _ => none
def toVs : List PV → Option (List V)
  | [] => some []
  | x :: xs => match x.toV, toVs xs with
    | some v, some vs => some (v :: vs)
    | _, _ => none
theorem Rep.toV {K : PySem.W.Frag} {C : Addr} {F : Hp} {θ : List Addr} {v u : V} {x : PV} (r : Rep K C F θ v x) (h : x.toV = some u) : v = u ∧ flatV u = true := by
  cases r <;> (try cases h) <;> exact ⟨rfl, rfl⟩
theorem RepAll.toVs {K : PySem.W.Frag} {C : Addr} {F : Hp} {θ : List Addr} : ∀ {vs us : List V} {xs : List PV}, RepAll K C F θ vs xs → BL.toVs xs = some us → vs = us ∧ us.all flatV = true
  | _, _, [], .nil, h => by cases h; exact ⟨rfl, rfl⟩
  | _, _, x :: xs, .cons r rr, h => by
    unfold BL.toVs at h
    split at h
    · rename_i v vs h1 h2
      cases h
      obtain ⟨e1, f1⟩ := r.toV h1
      obtain ⟨e2, f2⟩ := RepAll.toVs rr h2
      rw [e1, e2]
      exact ⟨rfl, by rw [List.all_cons, f1, f2]; rfl⟩
    · cases h
def fInB (neg : Bool) (_ : List PV) (x y : PV) : Option PV := match x.toV, (match items y with | some ys => toVs ys | none => none) with
  | some v, some vs => some (.bl (if neg then !inV v vs else inV v vs))
  | _, _ => none
theorem l_inB {K : PySem.W.Frag} {C : Addr} {neg : Bool} : LR2 K C (rIn K neg) (fInB neg) := fun W S v u x y z Q i rx ry e q => by
  unfold fInB at e
  split at e
  · rename_i v' vs' h1 h2
    cases e
    obtain ⟨ev, fv⟩ := rx.toV h1
    subst ev
    cases ry with
    | lst h a =>
      obtain ⟨e2, f2⟩ := a.toVs h2
      subst e2
      exact ⟨_, _, rfl, .inl (i.s.seq (SqL.of h)), fv, f2, q _ W (Gro.refl _) i (.bl _)⟩
    | tup h a =>
      obtain ⟨e2, f2⟩ := a.toVs h2
      subst e2
      exact ⟨_, _, rfl, .inr (i.s.seT h), fv, f2, q _ W (Gro.refl _) i (.bl _)⟩
    | _ => cases h2
  · cases e
section
variable {X : Cx} {C : Addr} {e a b tg : Expr} {es : List Expr} {st : Stmt} {pos : Pos} {m ma mb me mf : ME} {mt : MT} {ms mr : MS} {mes : MA} {mi : MI}
/-! slices -/
abbrev MO := List SlV → List PV → Option (Option Int × List PV)
def tMO (K : PySem.W.Frag) (C : Addr) (m : MO) : TO := fun σ H Q => ∃ W0 W ρ S x S', H = W.H ∧ Rel K C W0 W σ ρ S ∧ m ρ S = some (x, S') ∧ ∀ W', Rel K C W0 W' σ ρ S' → Gro W W' → Q x W'.H
theorem PO.weak {X : Cx} {e : Option Expr} {t t' : TO} (h : PO X e t) (i : ∀ σ H Q, t' σ H Q → t σ H Q) : PO X e t' := ⟨fun pins s σ H Q I q => h.run pins s σ H Q I (i σ H Q q)⟩
def mP0 : MO := fun _ S => some (none, S)
def mP1 (ma : ME) : MO := fun ρ S => match ma ρ S with
  | some (.int i, S1) => some (some i, S1)
  | _ => none
theorem xpo0 : PO X none (tMO X.K C mP0) := PO.weak po_none fun σ H Q ⟨W0, W, ρ, S, z, S', eH, R, em, q⟩ => by
  subst eH
  cases em
  exact q W R (Gro.refl _)
theorem xpo (h : PE X e (tM X.K C ma)) : PO X (some e) (tMO X.K C (mP1 ma)) := PO.weak (po_some h) fun σ H Q ⟨W0, W, ρ, S, z, S', eH, R, em, q⟩ => by
  subst eH
  unfold mP1 at em
  split at em
  · rename_i i S1 e1
    cases em
    exact ⟨W0, W, ρ, S, _, S', rfl, R, e1, fun v W1 R1 g1 r1 => by cases r1; exact ⟨i, rfl, q W1 R1 g1⟩⟩
  · cases em
def cutP (xs : List PV) (lo hi : Option Int) : List PV := (xs.drop (HT.sIx xs.length 0 lo)).take (HT.sIx xs.length xs.length hi - HT.sIx xs.length 0 lo)
theorem cut_rep {K : PySem.W.Frag} {F : Hp} {θ : List Addr} {vs : List V} {xs : List PV} (r : RepAll K C F θ vs xs) (lo hi : Option Int) : RepAll K C F θ (cutV vs lo hi) (cutP xs lo hi) := by
  unfold cutV cutP
  rw [r.len]
  exact (r.drop _).take _
def fSl (x : PV) (lo hi : Option Int) : Option PV := match x with
  | .lst xs => some (.lst (cutP xs lo hi))
  | .tup xs => some (.tup (cutP xs lo hi))
  | _ => none
def mSl (ma : ME) (ml mh : MO) : ME := fun ρ S => match ma ρ S with
  | some (x, S1) => match ml ρ S1 with
    | some (l, S2) => match mh ρ S2 with
      | some (h, S3) => match fSl x l h with
        | some z => some (z, S3)
        | none => none
      | none => none
    | none => none
  | none => none
abbrev rSlP (K : PySem.W.Frag) : V → Option Int → Option Int → Hp → VK → Prop := fun x lo hi H Q => rSlL K x lo hi H Q ∨ rSlA K x lo hi H Q
theorem sl_P : SlR X (rSlP X.K) := sl_list.or sl_tupA
theorem xsl {ml mh : MO} (h : PE X e (tSl (rSlP X.K) (tM X.K C ma) (tMO X.K C ml) (tMO X.K C mh))) : PE X e (tM X.K C (mSl ma ml mh)) := PE.weak h fun σ H Q ⟨W0, W, ρ, S, z, S', eH, R, em, q⟩ => by
  subst eH
  unfold mSl at em
  split at em
  · rename_i x S1 e1
    split at em
    · rename_i l S2 e2
      split at em
      · rename_i h S3 e3
        split at em
        · rename_i z' e4
          cases em
          refine ⟨W0, W, ρ, S, x, S1, rfl, R, e1, fun v W1 R1 g1 r1 => ⟨W0, W1, ρ, S1, l, S2, rfl, R1, e2, fun W2 R2 g2 => ⟨W0, W2, ρ, S2, h, S', rfl, R2, e3, fun W3 R3 g3 => ?_⟩⟩⟩
          have g := (g1.trans g2).trans g3
          have r3 := (r1.ext g2).ext g3
          cases r3 with
          | lst hh a =>
            cases e4
            refine .inl ⟨_, _, rfl, R3.i.s.seq (SqL.of hh), fun p np => ?_⟩
            obtain ⟨g4, i4⟩ := laid (.lst (cutV _ l h)) R3.i np
            exact q _ _ (R3.ext g4 i4) (g.trans g4) (.lst upd_same (cut_rep (a.ext g4) l h))
          | tup hh a =>
            cases e4
            refine .inr ⟨_, _, rfl, R3.i.s.seT hh, fun hw => ?_, fun hw p np => ?_⟩
            · rename_i vs xs
              have ec : cutP xs l h = xs := by
                unfold cutP
                rw [a.len] at hw
                rw [hw.1, hw.2, List.drop_zero, Nat.sub_zero, List.take_length]
              rw [ec] at q
              exact q _ _ R3 g (.tup hh a)
            · obtain ⟨g4, i4⟩ := laid (.tup (cutV _ l h)) R3.i np
              exact q _ _ (R3.ext g4 i4) (g.trans g4) (.tup (SqT.of upd_same) (cut_rep (a.ext g4) l h))
          | _ => cases e4
        · cases em
      · cases em
    · cases em
  · cases em
/-- xs[::-1] of a list -/
def fRev (_ : List PV) : PV → Option PV
  | .lst xs => some (.lst xs.reverse)
  | _ => none
theorem xrev (h : PE X e (tRevL X.K (tM X.K C ma))) : PE X e (tM X.K C (mUn fRev ma)) := PE.weak h fun σ H Q ⟨W0, W, ρ, S, z, S', eH, R, em, q⟩ => by
  subst eH
  obtain ⟨x, e1, e3⟩ := mUn_inv em
  refine ⟨W0, W, ρ, S, x, S', rfl, R, e1, fun v W1 R1 g1 r1 => ?_⟩
  unfold fRev at e3
  split at e3
  · cases e3
    cases r1 with
    | lst hh a =>
      refine ⟨_, _, rfl, R1.i.s.seq (SqL.of hh), fun p np => ?_⟩
      obtain ⟨g4, i4⟩ := laid (.lst (List.reverse _)) R1.i np
      exact q _ _ (R1.ext g4 i4) (g1.trans g4) (.lst upd_same ((a.ext g4).rev))
  · cases e3
/-! keywords -/
theorem PK.weak {X : Cx} {e : List Keyword} {t t' : TA} (h : PK X e t) (i : ∀ σ H Q, t' σ H Q → t σ H Q) : PK X e t' := ⟨fun pos pins s σ H Q I q => h.run pos pins s σ H Q I (i σ H Q q)⟩
theorem xknil : PK X [] (tMA X.K C mNil) := PK.weak pk_nil fun σ H Q ⟨W0, W, ρ, S, z, S', eH, R, em, q⟩ => by
  subst eH
  cases em
  exact q [] W R (Gro.refl _) .nil
theorem xkcons {nm : Option Str} {kpos : Pos} {kws : List Keyword} (ha : PE X e (tM X.K C ma)) (hr : PK X kws (tMA X.K C mes)) : PK X (⟨nm, e, kpos⟩ :: kws) (tMA X.K C (mCons ma mes)) := PK.weak (pk_cons ha hr) fun σ H Q ⟨W0, W, ρ, S, z, S', eH, R, em, q⟩ => by
  subst eH
  obtain ⟨x, S1, xs, e1, e2, rfl⟩ := mCons_inv em
  exact ⟨W0, W, ρ, S, x, S1, rfl, R, e1, fun v W1 R1 g1 r1 => ⟨W0, W1, ρ, S1, xs, S', rfl, R1, e2, fun us W2 R2 g2 r2 => q _ _ R2 (g1.trans g2) (.cons (r1.ext g2) r2)⟩⟩
end
/-- a def called by keywords alone -/
structure CalK (P : Program) (w : World) (K : PySem.W.Frag) (mg : Str → Option Value) (base : Heap) (k : Nat) (x : Str) (ks : List Str) (sp : Sp) (gV : List V → List V → List V) : Prop where
  ex : ∃ (f : Addr) (fd : FuncData) (ps : List Str) (g : List Value → List Value → List Value), FnOk P w K mg base CX0 k f fd ps sp ∧ mg x = some (.ref f) ∧ PySem.W.keepIn K (.ref f) = true ∧ KBn K fd ps 0 ks g gV
def tCK (m : Nat) (sp : Sp) (gV : List V → List V → List V) (tk : TA) : TE := fun σ H Q => tk σ H fun zs H2 => zs.length = m ∧ sp (gV [] zs) H2 Q C8.E0
theorem pe_ck0 {X : Cx} {k j : Nat} {x : Str} {ks : List Str} {sp : Sp} {gV : List V → List V → List V} {kws : List Keyword} {tk : TA} {p pos : Pos} (c : CalK X.prog X.w X.K X.mg X.base k x ks sp gV) (hr : Room j X.A) (hk : k ≤ j) (hg : Gl X x) (hkw : PK X kws tk)
    (hall : (backToKw pos (keywordEach kws X.env)).all (·.1.isSome) = true := by rfl) (hks : (backToKw pos (keywordEach kws X.env)).filterMap (·.1) = ks := by rfl) (hdb : (x == ("__debug__" : Str)) = false := by decide)
    (hpl : ((backTo pos (starEach [] X.env)).any (·.1) || (backToKw pos (keywordEach kws X.env)).any (·.1.isNone)) = false := by rfl) : PE X (.Call (.Name x p) [] kws pos) (tCK ks.length sp gV tk) := by
  obtain ⟨f, fd, ps, g, F, hm, kp, hb⟩ := c.ex
  refine ⟨fun pins s σ H Q I h => ?_⟩
  refine wpAny_Call_Name_kw (ld_glob I hg hm ?_ hdb)
  refine PySem.W.callWith_KW0 (h₀ := X.base) I.ok.mod.kin kp hall (thn (hkw.run pos pins s σ H _ I h) fun ws s2 ⟨zs, H2, I2, rz, l2, q2⟩ => ⟨I2.kIn, ?_⟩) hpl
  rw [hks]
  exact run_fnN (us := []) (vs := []) F (hr.mono hk) hb pass0 I2 .nil rz rfl l2 q2
/-- the values in the parameters' order -/
def permP (is : List Nat) (xs : List PV) : List PV := is.map fun i => xs.getD i .non
def mCallK (f : List PV → List PV → Option (PV × List PV)) (is : List Nat) (ma : MA) : ME := fun ρ S => match ma ρ S with
  | some (xs, S1) => if xs.length = is.length then f (permP is xs) S1 else none
  | none => none
theorem perm_rep {K : PySem.W.Frag} {C : Addr} {F : Hp} {θ : List Addr} {vs : List V} {xs : List PV} (r : RepAll K C F θ vs xs) : ∀ (is : List Nat), (∀ i ∈ is, i < xs.length) → RepAll K C F θ (is.map fun i => vs.getD i .non) (permP is xs)
  | [], _ => .nil
  | i :: is, h => by
    have hi := h i List.mem_cons_self
    obtain ⟨v, ev, rv⟩ := r.at (List.getElem?_eq_getElem hi)
    refine .cons ?_ (perm_rep r is fun j hj => h j (List.mem_cons_of_mem _ hj))
    show Rep K C F θ (vs.getD i .non) (xs.getD i .non)
    rw [List.getD_eq_getElem?_getD, ev, List.getD_eq_getElem?_getD, List.getElem?_eq_getElem hi]
    exact rv
theorem xck {X : Cx} {C : Addr} {e : Expr} {mes : MA} {f : List PV → List PV → Option (PV × List PV)} {n : Nat} {gV : List V → List V → List V} {is : List Nat} (h : PE X e (tCK n (spM X.K C f) gV (tMA X.K C mes))) (hl : n = is.length := by rfl) (hi : ∀ i ∈ is, i < is.length := by decide) (hg : ∀ zs, gV [] zs = is.map fun i => zs.getD i .non := by intro _; rfl) : PE X e (tM X.K C (mCallK f is mes)) := PE.weak h fun σ H Q ⟨W0, W, ρ, S, z, S', eH, R, em, q⟩ => by
  subst eH
  unfold mCallK at em
  split at em
  · rename_i xs S1 e1
    split at em
    · rename_i hx
      refine ⟨W0, W, ρ, S, xs, S1, rfl, R, e1, fun vs W1 R1 g1 r1 => ⟨by rw [r1.len, hx, hl], ?_⟩⟩
      rw [hg]
      exact ⟨W1, S1, permP is xs, z, S', rfl, R1.i, perm_rep r1 is fun i h => by rw [hx]; exact hi i h, em, fun v W2 g2 i2 r2 => q v W2 (R1.ext g2 i2) (g1.trans g2) r2⟩
    · cases em
  · cases em
section
variable {X : Cx} {C : Addr} {e a b tg : Expr} {es : List Expr} {st : Stmt} {pos : Pos} {m ma mb me mf : ME} {mt : MT} {ms mr : MS} {mes : MA} {mi : MI}
/-! list(range(..)) -/
theorem rgV_rep {K : PySem.W.Frag} {F : Hp} {θ : List Addr} (a b : Int) : RepAll K C F θ (rgV a b) (rngP a (b - a).toNat) := by
  unfold rgV
  generalize (b - a).toNat = n
  have : ∀ (n : Nat) (a : Int) (f : Nat → V), (∀ i, f i = V.int (a + (i : Nat))) → RepAll K C F θ ((List.range n).map f) (rngP a n) := fun n => by
    induction n with
    | zero => intro a f _; exact .nil
    | succ n ih =>
      intro a f hf
      rw [List.range_succ_eq_map, List.map_cons, List.map_map]
      refine .cons ?_ (ih (a + 1) _ fun i => ?_)
      · rw [hf 0, show a + ((0 : Nat) : Int) = a by omega]
        exact .int a
      · show f (i + 1) = _
        rw [hf (i + 1), show a + ((i + 1 : Nat) : Int) = a + 1 + (i : Int) by omega]
  exact this n a _ fun i => rfl
def okRg (a b : Int) : Bool := decide (-(2 ^ 62) ≤ a) && decide (a < 2 ^ 62) && decide (-(2 ^ 62) ≤ b) && decide (b < 2 ^ 62) && decide ((b - a).toNat ≤ 100000)
theorem okRg_ok {a b : Int} (h : okRg a b = true) : RgOk a b := by
  unfold okRg at h
  simp only [Bool.and_eq_true, decide_eq_true_eq] at h
  obtain ⟨⟨⟨⟨h1, h2⟩, h3⟩, h4⟩, h5⟩ := h
  exact ⟨h1, h2, h3, h4, Nat.le_trans h5 (by decide)⟩
def mLrg1 (ma : ME) : ME := fun ρ S => match ma ρ S with
  | some (.int j, S1) => if okRg 0 j then some (.lst (rngP 0 (j - 0).toNat), S1) else none
  | _ => none
def mLrg2 (ma mb : ME) : ME := fun ρ S => match ma ρ S with
  | some (.int i, S1) => match mb ρ S1 with
    | some (.int j, S2) => if okRg i j then some (.lst (rngP i (j - i).toNat), S2) else none
    | _ => none
  | _ => none
theorem xlrg1 (h : PE X e (tLstRg (tRg1 (tM X.K C ma)))) : PE X e (tM X.K C (mLrg1 ma)) := PE.weak h fun σ H Q ⟨W0, W, ρ, S, z, S', eH, R, em, q⟩ => by
  subst eH
  unfold mLrg1 at em
  split at em
  · rename_i j S1 e1
    split at em
    · rename_i ok
      cases em
      refine ⟨W0, W, ρ, S, _, S', rfl, R, e1, fun v W1 R1 g1 r1 => ?_⟩
      cases r1
      refine ⟨j, rfl, okRg_ok ok, fun p np => ?_⟩
      obtain ⟨g4, i4⟩ := laid (.lst (rgV 0 j)) R1.i np
      exact q _ _ (R1.ext g4 i4) (g1.trans g4) (.lst upd_same (rgV_rep 0 j))
    · cases em
  · cases em
theorem xlrg2 (h : PE X e (tLstRg (tRg2 (tM X.K C ma) (tM X.K C mb)))) : PE X e (tM X.K C (mLrg2 ma mb)) := PE.weak h fun σ H Q ⟨W0, W, ρ, S, z, S', eH, R, em, q⟩ => by
  subst eH
  unfold mLrg2 at em
  split at em
  · rename_i i S1 e1
    split at em
    · rename_i j S2 e2
      split at em
      · rename_i ok
        cases em
        refine ⟨W0, W, ρ, S, _, S1, rfl, R, e1, fun v W1 R1 g1 r1 => ⟨W0, W1, ρ, S1, _, S', rfl, R1, e2, fun u W2 R2 g2 r2 => ?_⟩⟩
        cases r1
        cases r2
        refine ⟨i, j, rfl, rfl, okRg_ok ok, fun p np => ?_⟩
        obtain ⟨g4, i4⟩ := laid (.lst (rgV i j)) R2.i np
        exact q _ _ (R2.ext g4 i4) ((g1.trans g2).trans g4) (.lst upd_same (rgV_rep i j))
      · cases em
    · cases em
  · cases em
/-! zip -/
def zipP : List PV → List PV → List PV
  | x :: xs, y :: ys => .tup [x, y] :: zipP xs ys
  | _, _ => []
theorem zipP_len : ∀ (xs ys : List PV), (zipP xs ys).length = min xs.length ys.length
  | [], _ => by simp [zipP]
  | _ :: _, [] => by simp [zipP]
  | x :: xs, y :: ys => by simp [zipP, zipP_len xs ys]
theorem zipP_at : ∀ {xs ys : List PV} {i : Nat} {z : PV}, (zipP xs ys)[i]? = some z → ∃ x y, xs[i]? = some x ∧ ys[i]? = some y ∧ z = .tup [x, y]
  | [], _, _, _, h => by simp [zipP] at h
  | _ :: _, [], _, _, h => by simp [zipP] at h
  | x :: xs, y :: ys, 0, z, h => by cases Option.some.inj h; exact ⟨x, y, rfl, rfl, rfl⟩
  | x :: xs, y :: ys, i + 1, z, h => zipP_at (xs := xs) (ys := ys) (i := i) h
def mZip (ma mb : ME) : MI := fun ρ S => match ma ρ S with
  | some (.lst xs, S1) => match mb ρ S1 with
    | some (.lst ys, S2) => some (zipP xs ys, S2)
    | _ => none
  | some (.tup xs, S1) => match mb ρ S1 with
    | some (.tup ys, S2) => some (zipP xs ys, S2)
    | _ => none
  | _ => none
theorem grow_all {K : PySem.W.Frag} {W W1 : Wd} {vs : List V} {xs : List PV} (r : RepAll K C W.F W.θ vs xs) (g : GroF W W1) : RepAll K C W1.F W1.θ vs xs := by
  obtain ⟨q, eq⟩ := g.t
  rw [eq]
  exact r.mono g.f
theorem it_zipL {K : PySem.W.Frag} {W : Wd} {a b : Addr} {vs us : List V} {xs ys : List PV} (h : W.F a = some (.lst vs)) (r : RepAll K C W.F W.θ vs xs) (h' : W.F b = some (.lst us)) (r' : RepAll K C W.F W.θ us ys) : ItOk K C W (Itz K a b) (zipP xs ys) := by
  have h1 : ∀ W1 S, GroF W W1 → Inv1 K C W1 S → SqL K W1.H a vs ∧ SqL K W1.H b us := fun W1 S g i => ⟨i.s.seq (SqL.of (g.f _ _ h)), i.s.seq (SqL.of (g.f _ _ h'))⟩
  refine ⟨fun i W1 S g i1 hi => ?_, fun W1 S g i1 => ⟨vs, us, (h1 W1 S g i1).1, (h1 W1 S g i1).2, by rw [r.len, r'.len, zipP_len]; omega⟩, fun i W1 S v H' x g i1 hx y => ?_⟩
  · rw [zipP_len] at hi
    obtain ⟨v, ev, _⟩ := r.at (i := i) (List.getElem?_eq_getElem (by omega))
    obtain ⟨u, eu, _⟩ := r'.at (i := i) (List.getElem?_eq_getElem (by omega))
    exact ⟨vs, us, v, u, (h1 W1 S g i1).1, (h1 W1 S g i1).2, ev, eu⟩
  · obtain ⟨T, u, w, rfl, nT, rfl, hv, hw⟩ := y
    obtain ⟨p, q, hp, hq, rfl⟩ := zipP_at hx
    obtain ⟨u', eu, ru⟩ := (grow_all r g).at hp
    obtain ⟨w', ew, rw'⟩ := (grow_all r' g).at hq
    have e1 := hv vs (h1 W1 S g i1).1
    have e2 := hw us (h1 W1 S g i1).2
    rw [eu] at e1
    rw [ew] at e2
    cases Option.some.inj e1
    cases Option.some.inj e2
    obtain ⟨g2, i2⟩ := laid (.tup [u, w]) i1 nT
    exact ⟨_, rfl, g2, i2, .tup (SqT.of upd_same) (.cons (ru.ext g2) (.cons (rw'.ext g2) .nil))⟩
theorem it_zipT {K : PySem.W.Frag} {W : Wd} {a b : Addr} {vs us : List V} {xs ys : List PV} (h : SqT K W.F a vs) (r : RepAll K C W.F W.θ vs xs) (h' : SqT K W.F b us) (r' : RepAll K C W.F W.θ us ys) : ItOk K C W (RZ.ItzT K a b) (zipP xs ys) := by
  have h1 : ∀ W1 S, GroF W W1 → Inv1 K C W1 S → SqT K W1.H a vs ∧ SqT K W1.H b us := fun W1 S g i => ⟨i.s.seT (g.f.seT h), i.s.seT (g.f.seT h')⟩
  refine ⟨fun i W1 S g i1 hi => ?_, fun W1 S g i1 => ⟨vs, us, (h1 W1 S g i1).1, (h1 W1 S g i1).2, by rw [r.len, r'.len, zipP_len]; omega⟩, fun i W1 S v H' x g i1 hx y => ?_⟩
  · rw [zipP_len] at hi
    obtain ⟨v, ev, _⟩ := r.at (i := i) (List.getElem?_eq_getElem (by omega))
    obtain ⟨u, eu, _⟩ := r'.at (i := i) (List.getElem?_eq_getElem (by omega))
    exact ⟨vs, us, v, u, (h1 W1 S g i1).1, (h1 W1 S g i1).2, ev, eu⟩
  · obtain ⟨T, u, w, rfl, nT, rfl, hv, hw⟩ := y
    obtain ⟨p, q, hp, hq, rfl⟩ := zipP_at hx
    obtain ⟨u', eu, ru⟩ := (grow_all r g).at hp
    obtain ⟨w', ew, rw'⟩ := (grow_all r' g).at hq
    have e1 := hv vs (h1 W1 S g i1).1
    have e2 := hw us (h1 W1 S g i1).2
    rw [eu] at e1
    rw [ew] at e2
    cases Option.some.inj e1
    cases Option.some.inj e2
    obtain ⟨g2, i2⟩ := laid (.tup [u, w]) i1 nT
    exact ⟨_, rfl, g2, i2, .tup (SqT.of upd_same) (.cons (ru.ext g2) (.cons (rw'.ext g2) .nil))⟩
theorem izip {p tpos : Pos} {elts : List Expr} {kk : Nat} (hg : Gl X "zip") (hm : X.mg "zip" = none) (ha : PE X a (tM X.K C ma)) (hb : PE X b (tM X.K C mb)) (hst2 : starEach (b :: []) X.env = (false, eval b X.env) :: starEach [] X.env := by rfl)
    (hs : starEach [a, b] X.env = (false, eval a X.env) :: starEach [b] X.env := by rfl) (hpl : (backTo pos (starEach [b] X.env)).any (·.1) = false := by rfl) :
    PI X (.Tuple elts kk tpos) (.Call (.Name "zip" p) [a, b] [] pos) (tMI X.K C (mZip ma mb)) := PI.weak (RZ.pi_zipA hg hm (pa_cons ha (pa_cons hb pa_nil hst2) hs) hs hpl) fun σ H R0 ⟨W0, W, ρ, S, xs, S', eH, R, em, q⟩ => by
  subst eH
  unfold mZip at em
  split at em
  · rename_i ys S1 e1
    split at em
    · rename_i zs S2 e2
      cases em
      refine ⟨W0, W, ρ, S, _, S1, rfl, R, e1, fun v W1 R1 g1 r1 => ⟨W0, W1, ρ, S1, _, S', rfl, R1, e2, fun u W2 R2 g2 r2 => ?_⟩⟩
      have r1' := r1.ext g2
      cases r1' with
      | lst h a1 =>
        cases r2 with
        | lst h' a2 => exact ⟨_, _, _, _, rfl, .inl ⟨R2.i.s.seq (SqL.of h), R2.i.s.seq (SqL.of h'), q _ W2 R2 (g1.trans g2) (it_zipL h a1 h' a2)⟩⟩
    · cases em
  · rename_i ys S1 e1
    split at em
    · rename_i zs S2 e2
      cases em
      refine ⟨W0, W, ρ, S, _, S1, rfl, R, e1, fun v W1 R1 g1 r1 => ⟨W0, W1, ρ, S1, _, S', rfl, R1, e2, fun u W2 R2 g2 r2 => ?_⟩⟩
      have r1' := r1.ext g2
      cases r1' with
      | tup h a1 =>
        cases r2 with
        | tup h' a2 => exact ⟨_, _, _, _, rfl, .inr ⟨R2.i.s.seT h, R2.i.s.seT h', q _ W2 R2 (g1.trans g2) (it_zipT h a1 h' a2)⟩⟩
    · cases em
  · cases em
/-! truth of any value -/
def truP : PV → Option Bool
  | .non => some false | .bl b => some b | .int i => some (i != 0)
  | .str y => if y.length ≤ 100000 then some ((y.length : Int) != 0) else none
  | .lst xs => some (!xs.isEmpty) | .tup xs => some (!xs.isEmpty)
  | _ => none
def mTruL (ma : ME) : MT := fun ρ S => match ma ρ S with
  | some (x, S1) => match truP x with
    | some b => some (b, S1)
    | none => none
  | none => none
theorem emp_rep {K : PySem.W.Frag} {F : Hp} {θ : List Addr} {vs : List V} {xs : List PV} (r : RepAll K C F θ vs xs) : (!xs.isEmpty) = !vs.isEmpty := by cases r <;> rfl
theorem xtTru (h : PT X e (fun σ H Q => (tM X.K C ma) σ H fun x H' => ∃ k, TruV X.K x H' k ∧ Q k H')) : PT X e (tMT X.K C (mTruL ma)) := PT.weak h fun σ H Q ⟨W0, W, ρ, S, z, S', eH, R, em, q⟩ => by
  subst eH
  unfold mTruL at em
  split at em
  · rename_i x S1 e1
    split at em
    · rename_i b' e2
      cases em
      refine ⟨W0, W, ρ, S, x, S', rfl, R, e1, fun v W1 R1 g1 r1 => ⟨z, ?_, q W1 R1 g1⟩⟩
      cases r1 with
      | non => cases e2; rfl
      | bl b => cases e2; rfl
      | int b => cases e2; rfl
      | str b =>
        unfold truP at e2
        simp only [] at e2
        split at e2
        · rename_i hl
          cases e2
          exact ⟨Nat.le_trans hl lim, rfl⟩
        · cases e2
      | lst h a => cases e2; exact .inl ⟨_, R1.i.s.seq (SqL.of h), emp_rep a⟩
      | tup h a => cases e2; exact .inr (.inl ⟨_, R1.i.s.seT h, emp_rep a⟩)
      | way h => cases e2
      | mref h => cases e2
      | exc _ _ _ _ _ _ => cases e2
    · cases em
  · cases em
/-! max, min of two -/
def fMax2 (_ : List PV) : List PV → Option PV
  | [.int i, .int j] => some (.int (if j > i then j else i))
  | _ => none
def fMin2 (_ : List PV) : List PV → Option PV
  | [.int i, .int j] => some (.int (if j < i then j else i))
  | _ => none
theorem l_max2 {K : PySem.W.Frag} : LRn K C (fun xs H Q => ∃ i j, xs = [.int i, .int j] ∧ Q (.int (if j > i then j else i)) H) fMax2 := fun W S vs xs z Q i r e q => by
  unfold fMax2 at e
  split at e
  · cases e
    cases r with
    | cons r rr =>
      cases rr with
      | cons r' rr =>
        cases rr
        cases r
        cases r'
        exact ⟨_, _, rfl, q _ W (Gro.refl _) i (.int _)⟩
  · cases e
theorem l_min2 {K : PySem.W.Frag} : LRn K C (fun xs H Q => ∃ i j, xs = [.int i, .int j] ∧ Q (.int (if j < i then j else i)) H) fMin2 := fun W S vs xs z Q i r e q => by
  unfold fMin2 at e
  split at e
  · cases e
    cases r with
    | cons r rr =>
      cases rr with
      | cons r' rr =>
        cases rr
        cases r
        cases r'
        exact ⟨_, _, rfl, q _ W (Gro.refl _) i (.int _)⟩
  · cases e
/-! what reads alike -/
mutual
def PV.same : PV → PV → Bool
  | .non, .non => true
  | .bl a, .bl b => a == b
  | .int a, .int b => decide (a = b)
  | .str a, .str b => decide (a = b)
  | .lst a, .lst b => sameL a b
  | .tup a, .tup b => sameL a b
  | _, _ => false
def sameL : List PV → List PV → Bool
  | [], [] => true
  | x :: xs, y :: ys => PV.same x y && sameL xs ys
  | _, _ => false
end
mutual
def PV.deep : Nat → PV → Bool
  | 0, .lst _ => false
  | 0, .tup _ => false
  | n + 1, .lst xs => decide (xs.length ≤ 1000) && deepL n xs
  | n + 1, .tup xs => decide (xs.length ≤ 1000) && deepL n xs
  | _, _ => true
def deepL : Nat → List PV → Bool
  | _, [] => true
  | n, x :: xs => PV.deep n x && deepL n xs
end
mutual
theorem same_eqs {K : PySem.W.Frag} {F : Hp} {θ : List Addr} : ∀ (n : Nat) (x y : PV) (v u : V), x.same y = true → x.deep n = true → Rep K C F θ v x → Rep K C F θ u y → Eqs K F n v u
  | n, .non, y, v, u, e, d, r, t => by
    cases y <;> first | (cases r; cases t; exact .non n) | (unfold PV.same at e; cases e)
  | n, .bl a, y, v, u, e, d, r, t => by
    cases y <;> unfold PV.same at e <;> first | (cases e; done) | (cases r; cases t; rw [show _ = _ from of_decide_eq_true e]; exact .bl n _) | (cases r; cases t; have := eq_of_beq e; subst this; exact .bl n _)
  | n, .int a, y, v, u, e, d, r, t => by
    cases y <;> unfold PV.same at e <;> first | (cases e; done) | (cases r; cases t; have := of_decide_eq_true e; subst this; exact .int n _)
  | n, .str a, y, v, u, e, d, r, t => by
    cases y <;> unfold PV.same at e <;> first | (cases e; done) | (cases r; cases t; have := of_decide_eq_true e; subst this; exact .str n _)
  | n, .lst a, y, v, u, e, d, r, t => by
    cases y <;> unfold PV.same at e <;> first
      | (cases e; done)
      | (cases n with
         | zero => unfold PV.deep at d; cases d
         | succ n =>
           unfold PV.deep at d
           rw [Bool.and_eq_true, decide_eq_true_eq] at d
           cases r with
           | lst h1 a1 =>
             cases t with
             | lst h2 a2 =>
               obtain ⟨hl, hx⟩ := sameL_eqs n a _ _ _ e d.2 a1 a2
               exact .lst (SqL.of h1) (SqL.of h2) hl (by rw [a1.len]; exact d.1) hx)
  | n, .tup a, y, v, u, e, d, r, t => by
    cases y <;> unfold PV.same at e <;> first
      | (cases e; done)
      | (cases n with
         | zero => unfold PV.deep at d; cases d
         | succ n =>
           unfold PV.deep at d
           rw [Bool.and_eq_true, decide_eq_true_eq] at d
           cases r with
           | tup h1 a1 =>
             cases t with
             | tup h2 a2 =>
               obtain ⟨hl, hx⟩ := sameL_eqs n a _ _ _ e d.2 a1 a2
               exact .tup h1 h2 hl (by rw [a1.len]; exact d.1) hx)
  | n, .way _ _ _, y, v, u, e, d, r, t => by cases y <;> (unfold PV.same at e; cases e)
  | n, .mref _, y, v, u, e, d, r, t => by cases y <;> (unfold PV.same at e; cases e)
  | n, .dic _, y, v, u, e, d, r, t => by cases y <;> (unfold PV.same at e; cases e)
theorem sameL_eqs {K : PySem.W.Frag} {F : Hp} {θ : List Addr} : ∀ (n : Nat) (xs ys : List PV) (vs us : List V), sameL xs ys = true → deepL n xs = true → RepAll K C F θ vs xs → RepAll K C F θ us ys → vs.length = us.length ∧ ∀ (i : Nat) (x y : V), vs[i]? = some x → us[i]? = some y → Eqs K F n x y
  | n, [], ys, vs, us, e, d, r, t => by
    cases ys with
    | nil => cases r; cases t; exact ⟨rfl, fun i x y h => by simp at h⟩
    | cons y ys => unfold sameL at e; cases e
  | n, x :: xs, ys, vs, us, e, d, r, t => by
    cases ys with
    | nil => unfold sameL at e; cases e
    | cons y ys =>
      unfold sameL at e
      unfold deepL at d
      rw [Bool.and_eq_true] at e d
      cases r with
      | cons r rr =>
        cases t with
        | cons t tt =>
          obtain ⟨hl, hx⟩ := sameL_eqs n xs ys _ _ e.2 d.2 rr tt
          refine ⟨congrArg Nat.succ hl, fun i p q hp hq => ?_⟩
          cases i with
          | zero =>
            cases Option.some.inj hp
            cases Option.some.inj hq
            exact same_eqs n x y _ _ e.1 d.1 r t
          | succ i => exact hx i p q hp hq
end
def fSame (n : Nat) (_ : List PV) : List PV → Option PV
  | [x, y] => if x.same y && x.deep n then some (.bl true) else none
  | _ => none
theorem xsame {n : Nat} (h : PE X e (tCall (spSame X.K (n + 1)) [] C8.E0 (tMA X.K C mes))) : PE X e (tM X.K C (mFn (fSame n) mes)) := PE.weak h fun σ H Q ⟨W0, W, ρ, S, z, S', eH, R, em, q⟩ => by
  subst eH
  obtain ⟨xs, e1, e3⟩ := mFn_inv em
  refine ⟨W0, W, ρ, S, xs, S', rfl, R, e1, fun vs W1 R1 g1 r1 => ?_⟩
  unfold fSame at e3
  split at e3
  · split at e3
    · rename_i hs
      cases e3
      rw [Bool.and_eq_true] at hs
      cases r1 with
      | cons r rr =>
        cases rr with
        | cons r' rr =>
          cases rr
          refine ⟨_, _, rfl, (same_eqs n _ _ _ _ hs.1 hs.2 r r').same R1.i.s, fun H' sm => ?_⟩
          have g : Gro W1 ⟨W1.F, H', W1.θ⟩ := ⟨Same.refl _, ⟨[], (List.append_nil _).symm, fun _ h => by cases h⟩, fun p o e _ => sm _ _ e, fun p o e => ⟨o, sm _ _ e⟩, fun p o e z => z⟩
          have i2 : Inv1 X.K C ⟨W1.F, H', W1.θ⟩ S' := by
            refine ⟨R1.i.s.trans sm, R1.i.len, R1.i.nd, fun k a x h1 h2 => ?_⟩
            obtain ⟨z, m⟩ := R1.i.m k a x h1 h2
            refine ⟨z, ?_⟩
            cases x with
            | lst xs =>
              obtain ⟨vs, e, r⟩ := m
              exact ⟨vs, sm _ _ e, r⟩
            | _ => exact m.elim
          exact q _ _ (R1.ext g i2) (g1.trans g) (.bl true)
    · cases e3
  · cases e3
end
/-- what the class of ways must have -/
structure WT (K : PySem.W.Frag) (C : Addr) : Prop where
  cl : Cls K C
  nS : NoAttr K C "_shift"
  nF : NoAttr K C "_floor"
  nC : NoAttr K C "_cap"
/-- more built-in names -/
structure Bt2 (mg : Str → Option Value) : Prop where
  sum : mg "sum" = none
  max : mg "max" = none
  min : mg "min" = none
  any : mg "any" = none
  sorted : mg "sorted" = none
  set : mg "set" = none
theorem getD_rel : ∀ {zs : List V} {ws : List Value} (r : Vals zs ws) (i : Nat), RelV (zs.getD i .non) (ws.getD i .none)
  | [], _, .nil, _ => rfl
  | _ :: _, _, .cons r rr, 0 => r
  | _ :: _, _, .cons r rr, i + 1 => getD_rel rr i
end BL

namespace BL
open PySem PySem.Spec PyProof.Rows L2
/-! the readings unfolded -/
section
variable {ρ : List SlV} {S : List PV} {ma mb mf : ME} {mt mu : MT} {ms mr : MS} {mes : MA} {mi : MI}
@[simp] theorem e_var (i : Nat) : mVar i ρ S = match ρ[i]? with | some (.val x) => some (x, S) | _ => none := rfl
@[simp] theorem e_c (x : PV) : mC x ρ S = some (x, S) := rfl
@[simp] theorem e_op (f : List PV → PV → PV → Option PV) : mOp f ma mb ρ S = match ma ρ S with | some (x, S1) => (match mb ρ S1 with | some (y, S2) => (match f S2 x y with | some z => some (z, S2) | none => none) | none => none) | none => none := rfl
@[simp] theorem e_un (f : List PV → PV → Option PV) : mUn f ma ρ S = match ma ρ S with | some (x, S1) => (match f S1 x with | some z => some (z, S1) | none => none) | none => none := rfl
@[simp] theorem e_nil : mNil ρ S = some ([], S) := rfl
@[simp] theorem e_cons : mCons ma mes ρ S = match ma ρ S with | some (x, S1) => (match mes ρ S1 with | some (xs, S2) => some (x :: xs, S2) | none => none) | none => none := rfl
@[simp] theorem e_fn (f : List PV → List PV → Option PV) : mFn f mes ρ S = match mes ρ S with | some (xs, S1) => (match f S1 xs with | some z => some (z, S1) | none => none) | none => none := rfl
@[simp] theorem e_tup : mTup mes ρ S = match mes ρ S with | some (xs, S1) => if xs.length ≤ 100000 then some (.tup xs, S1) else none | none => none := rfl
@[simp] theorem e_lst : mLst mes ρ S = match mes ρ S with | some (xs, S1) => if xs.length ≤ 100000 then some (.lst xs, S1) else none | none => none := rfl
@[simp] theorem e_newM : mNewM mes ρ S = match mes ρ S with | some (xs, S1) => if xs.length ≤ 100000 then some (.mref S1.length, S1 ++ [.lst xs]) else none | none => none := rfl
@[simp] theorem e_call (f : List PV → List PV → Option (PV × List PV)) : mCall f mes ρ S = match mes ρ S with | some (xs, S1) => f xs S1 | none => none := rfl
@[simp] theorem e_callK (f : List PV → List PV → Option (PV × List PV)) (is : List Nat) : mCallK f is mes ρ S = match mes ρ S with | some (xs, S1) => if xs.length = is.length then f (permP is xs) S1 else none | none => none := rfl
@[simp] theorem e_called (f : List PV → List PV → Option (PV × List PV)) : mCalled f mf mes ρ S = match mf ρ S with | some (.way s g c, S1) => (match mes ρ S1 with | some (xs, S2) => f (.way s g c :: xs) S2 | none => none) | _ => none := rfl
@[simp] theorem e_bin (f : List PV → List PV → Option (PV × List PV)) : mBin f ma mb ρ S = match ma ρ S with | some (.way s g c, S1) => (match mb ρ S1 with | some (.way s' g' c', S2) => f [.way s g c, .way s' g' c'] S2 | _ => none) | _ => none := rfl
@[simp] theorem e_binI (f : List PV → List PV → Option (PV × List PV)) : mBinI f ma mb ρ S = match ma ρ S with | some (.way s g c, S1) => (match mb ρ S1 with | some (.int i, S2) => f [.way s g c, .int i] S2 | _ => none) | _ => none := rfl
@[simp] theorem e_sel (sel : Option Int → Option Int → Option Int → Option Int) : mSel sel ma ρ S = match ma ρ S with | some (.way s f c, S1) => some (PO' (sel s f c), S1) | _ => none := rfl
@[simp] theorem e_isW : mIsW ma ρ S = match ma ρ S with | some (.way _ _ _, S1) => some (.bl true, S1) | _ => none := rfl
@[simp] theorem e_tru : mTru ma ρ S = match ma ρ S with | some (.bl b, S1) => some (b, S1) | _ => none := rfl
@[simp] theorem e_truL : mTruL ma ρ S = match ma ρ S with | some (x, S1) => (match truP x with | some b => some (b, S1) | none => none) | none => none := rfl
@[simp] theorem e_notT : mNotT mt ρ S = match mt ρ S with | some (b, S1) => some (!b, S1) | none => none := rfl
@[simp] theorem e_andT : mAndT mt mu ρ S = match mt ρ S with | some (true, S1) => mu ρ S1 | some (false, S1) => some (false, S1) | none => none := rfl
@[simp] theorem e_orT : mOrT mt mu ρ S = match mt ρ S with | some (true, S1) => some (true, S1) | some (false, S1) => mu ρ S1 | none => none := rfl
@[simp] theorem e_andV : mAndV ma mb ρ S = match ma ρ S with | some (.bl true, S1) => mb ρ S1 | some (.bl false, S1) => some (.bl false, S1) | _ => none := rfl
@[simp] theorem e_orV : mOrV ma mb ρ S = match ma ρ S with | some (.bl true, S1) => some (.bl true, S1) | some (.bl false, S1) => mb ρ S1 | _ => none := rfl
@[simp] theorem e_notV : mNotV ma ρ S = match ma ρ S with | some (.bl b, S1) => some (.bl (!b), S1) | _ => none := rfl
@[simp] theorem e_ifE : mIfE mt ma mb ρ S = match mt ρ S with | some (true, S1) => ma ρ S1 | some (false, S1) => mb ρ S1 | none => none := rfl
@[simp] theorem e_skip : mSkip ρ S = some (.nx ρ S) := rfl
def thenO (o : Option Ou) (mr : MS) : Option Ou := match o with | some (.nx ρ1 S1) => mr ρ1 S1 | o => o
@[simp] theorem then_nx (ρ1 : List SlV) (S1 : List PV) : thenO (some (.nx ρ1 S1)) mr = mr ρ1 S1 := rfl
@[simp] theorem then_rt (x : PV) (S1 : List PV) : thenO (some (.rt x S1)) mr = some (.rt x S1) := rfl
@[simp] theorem then_no : thenO none mr = none := rfl
@[simp] theorem then_bk (ρ1 : List SlV) (S1 : List PV) : thenO (some (.bk ρ1 S1)) mr = some (.bk ρ1 S1) := rfl
@[simp] theorem then_ct (ρ1 : List SlV) (S1 : List PV) : thenO (some (.ct ρ1 S1)) mr = some (.ct ρ1 S1) := rfl
@[simp] theorem e_seq : mSeq ms mr ρ S = thenO (ms ρ S) mr := rfl
@[simp] theorem e_frz (i : Nat) : mFrz i ms ρ S = match ρ[i]? with | some (.own x) => ms (ρ.set i (.val x)) S | _ => ms ρ S := rfl
@[simp] theorem e_ret : mRet ma ρ S = match ma ρ S with | some (x, S1) => some (.rt x S1) | none => none := rfl
@[simp] theorem e_retN : mRetN ρ S = some (.rt .non S) := rfl
@[simp] theorem e_drop : mDrop ma ρ S = match ma ρ S with | some (_, S1) => some (.nx ρ S1) | none => none := rfl
@[simp] theorem e_if : mIf mt ms mr ρ S = match mt ρ S with | some (true, S1) => ms ρ S1 | some (false, S1) => mr ρ S1 | none => none := rfl
@[simp] theorem e_asg (t : Tg) : mAsg t ma ρ S = match ma ρ S with | some (x, S1) => (match t.put x ρ with | some ρ1 => some (.nx ρ1 S1) | none => none) | none => none := rfl
@[simp] theorem e_par (i j : Nat) : mPar i j mes ρ S = match mes ρ S with | some ([x, y], S1) => if i < ρ.length ∧ j < ρ.length then some (.nx ((ρ.set i (.val x)).set j (.val y)) S1) else none | _ => none := rfl
@[simp] theorem e_newO (i : Nat) : mNewO i mes ρ S = match mes ρ S with | some (xs, S1) => if xs.length ≤ 100000 ∧ i < ρ.length then some (.nx (ρ.set i (.own (.lst xs))) S1) else none | none => none := rfl
@[simp] theorem e_app (i : Nat) : mApp i ma ρ S = match ma ρ S with | some (y, S1) => (match ρ[i]? with | some (.own (.lst xs)) => if xs.length ≤ 100000 then some (.nx (ρ.set i (.own (.lst (xs ++ [y])))) S1) else none | _ => none) | none => none := rfl
@[simp] theorem e_putM {mo mi : ME} : mPutM mo mi ma ρ S = match ma ρ S with
  | some (y, S1) => (match mo ρ S1 with
    | some (.mref n, S2) => (match mi ρ S2 with
      | some (.int k, S3) => (match S3[n]? with
        | some (.lst xs) => (match ixP xs.length k with
          | some j => some (.nx ρ (S3.set n (.lst (xs.set j y))))
          | none => none)
        | _ => none)
      | _ => none)
    | _ => none)
  | none => none := rfl
@[simp] theorem e_ixO (i : Nat) : mIxO i ma ρ S = match ma ρ S with
  | some (.int k, S1) => (match ρ[i]? with
    | some (.own (.lst xs)) => (match ixP xs.length k with
      | some j => (match xs[j]? with
        | some y => some (y, S1)
        | none => none)
      | none => none)
    | _ => none)
  | _ => none := rfl
@[simp] theorem e_lenO (i : Nat) : mLenO i ρ S = match ρ[i]? with | some (.own (.lst xs)) => some (.int xs.length, S) | _ => none := rfl
@[simp] theorem e_for (t : Tg) : mFor t mi ms ρ S = match mi ρ S with | some (xs, S1) => forL t ms xs ρ S1 | none => none := rfl
@[simp] theorem e_lc (t : Tg) (vs : List Nat) : mLc t mi mt ma vs ρ S = match mi ρ S with
  | some (xs, S1) => (match lcL t mt ma (wipM ρ vs) xs S1 with
    | some (ys, S2) => if ys.length ≤ 100000 then some (.lst ys, S2) else none
    | none => none)
  | none => none := rfl
@[simp] theorem e_yes : mYes ρ S = some (true, S) := rfl
@[simp] theorem e_seqI : mSeqI ma ρ S = match ma ρ S with | some (.lst xs, S1) => some (xs, S1) | some (.tup xs, S1) => some (xs, S1) | _ => none := rfl
@[simp] theorem e_rng1 : mRng1 ma ρ S = match ma ρ S with | some (.int j, S1) => if -(2 ^ 62) ≤ j ∧ j < 2 ^ 62 then some (rngP 0 j.toNat, S1) else none | _ => none := rfl
@[simp] theorem e_rng2 : mRng2 ma mb ρ S = match ma ρ S with
  | some (.int i, S1) => (match mb ρ S1 with
    | some (.int j, S2) => if -(2 ^ 62) ≤ i ∧ i < 2 ^ 62 ∧ -(2 ^ 62) ≤ j ∧ j < 2 ^ 62 then some (rngP i (j - i).toNat, S2) else none
    | _ => none)
  | _ => none := rfl
@[simp] theorem e_lrg1 : mLrg1 ma ρ S = match ma ρ S with | some (.int j, S1) => if okRg 0 j then some (.lst (rngP 0 (j - 0).toNat), S1) else none | _ => none := rfl
@[simp] theorem e_lrg2 : mLrg2 ma mb ρ S = match ma ρ S with
  | some (.int i, S1) => (match mb ρ S1 with
    | some (.int j, S2) => if okRg i j then some (.lst (rngP i (j - i).toNat), S2) else none
    | _ => none)
  | _ => none := rfl
@[simp] theorem e_enu : mEnu ma ρ S = match ma ρ S with | some (.lst xs, S1) => some (enuP 0 xs, S1) | _ => none := rfl
@[simp] theorem e_sl {ml mh : MO} : mSl ma ml mh ρ S = match ma ρ S with
  | some (x, S1) => (match ml ρ S1 with
    | some (l, S2) => (match mh ρ S2 with
      | some (h, S3) => (match fSl x l h with
        | some z => some (z, S3)
        | none => none)
      | none => none)
    | none => none)
  | none => none := rfl
@[simp] theorem e_p0 : mP0 ρ S = some (none, S) := rfl
@[simp] theorem e_p1 : mP1 ma ρ S = match ma ρ S with | some (.int i, S1) => some (some i, S1) | _ => none := rfl
@[simp] theorem e_isT (T : String) : mIsT T ma ρ S = match ma ρ S with
  | some (x, S1) => (match tyN x with
    | some t => (match kitB t T with
      | some b => some (.bl b, S1)
      | none => none)
    | none => none)
  | none => none := rfl
@[simp] theorem e_zip : mZip ma mb ρ S = match ma ρ S with
  | some (.lst xs, S1) => (match mb ρ S1 with
    | some (.lst ys, S2) => some (zipP xs ys, S2)
    | _ => none)
  | some (.tup xs, S1) => (match mb ρ S1 with
    | some (.tup ys, S2) => some (zipP xs ys, S2)
    | _ => none)
  | _ => none := rfl
@[simp] theorem e_put_nm (i : Nat) (x : PV) : (Tg.nm i).put x ρ = if i < ρ.length then some (ρ.set i (.val x)) else none := rfl
@[simp] theorem e_put_tp (is : List Nat) (xs : List PV) : (Tg.tp is).put (.tup xs) ρ = putAll is xs ρ := rfl
@[simp] theorem e_put_tpl (is : List Nat) (xs : List PV) : (Tg.tp is).put (.lst xs) ρ = putAll is xs ρ := rfl
@[simp] theorem e_pa0 : putAll [] [] ρ = some ρ := rfl
@[simp] theorem e_pa1 (i : Nat) (is : List Nat) (x : PV) (xs : List PV) : putAll (i :: is) (x :: xs) ρ = if i < ρ.length then putAll is xs (ρ.set i (.val x)) else none := rfl
def retO (o : Option Ou) : Option (PV × List PV) := match o with
  | some (.rt x S') => some (x, S')
  | some (.nx _ S') => some (.non, S')
  | _ => none
@[simp] theorem ret_rt (x : PV) (S1 : List PV) : retO (some (.rt x S1)) = some (x, S1) := rfl
@[simp] theorem ret_nx (ρ1 : List SlV) (S1 : List PV) : retO (some (.nx ρ1 S1)) = some (.non, S1) := rfl
theorem e_def {np nN : Nat} {m : MS} {xs : List PV} : mDef np nN m xs S = if xs.length = np then retO (m (xs.map .val ++ List.replicate (nN - np) .un) S) else none := rfl
@[simp] theorem f_addI (i j : Int) : fAdd S (.int i) (.int j) = some (.int (i + j)) := rfl
@[simp] theorem f_addL (a b : List PV) : fAdd S (.lst a) (.lst b) = if a.length + b.length ≤ 100000 then some (.lst (a ++ b)) else none := rfl
@[simp] theorem f_addT (a b : List PV) : fAdd S (.tup a) (.tup b) = if a.length + b.length ≤ 100000 then some (.tup (a ++ b)) else none := rfl
@[simp] theorem f_sub (i j : Int) : fSub S (.int i) (.int j) = some (.int (i - j)) := rfl
@[simp] theorem f_mul (i j : Int) : fMul S (.int i) (.int j) = if i.natAbs < 2 ^ 64 ∨ j.natAbs < 2 ^ 64 ∨ (i.natAbs < 2 ^ 4000 ∧ j.natAbs < 2 ^ 4000) then some (.int (i * j)) else none := rfl
@[simp] theorem f_div (i j : Int) : fDiv S (.int i) (.int j) = if 0 < j ∧ j.natAbs < 2 ^ 4000 then some (.int (i / j)) else none := rfl
@[simp] theorem f_mod (i j : Int) : fMod S (.int i) (.int j) = if 0 < j then some (.int (i % j)) else none := rfl
@[simp] theorem f_neg (i : Int) : fNeg S (.int i) = some (.int (-i)) := rfl
@[simp] theorem f_cmp (p : Int → Int → Bool) (i j : Int) : fCmp p S (.int i) (.int j) = some (.bl (p i j)) := rfl
@[simp] theorem f_is (x : PV) : fIs S x .non = some (.bl x.isNon) := rfl
@[simp] theorem f_not (x : PV) : fNot S x .non = some (.bl (!x.isNon)) := rfl
@[simp] theorem n_int (i : Int) : (PV.int i).isNon = false := rfl
@[simp] theorem n_non : PV.non.isNon = true := rfl
@[simp] theorem n_tup (xs : List PV) : (PV.tup xs).isNon = false := rfl
@[simp] theorem n_lst (xs : List PV) : (PV.lst xs).isNon = false := rfl
@[simp] theorem n_way (s f c : Option Int) : (PV.way s f c).isNon = false := rfl
@[simp] theorem f_eqI (i j : Int) : fEq S (.int i) (.int j) = some (.bl (decide (i = j))) := rfl
@[simp] theorem f_neI (i j : Int) : fNe S (.int i) (.int j) = some (.bl (!decide (i = j))) := rfl
@[simp] theorem p_non : PO' none = .non := rfl
@[simp] theorem p_int (i : Int) : PO' (some i) = .int i := rfl
@[simp] theorem f_lenL (xs : List PV) : fLen S [.lst xs] = some (.int xs.length) := rfl
@[simp] theorem f_lenT (xs : List PV) : fLen S [.tup xs] = some (.int xs.length) := rfl
@[simp] theorem f_abs (i : Int) : fAbs S [.int i] = some (.int (if i < 0 then -i else i)) := rfl
@[simp] theorem f_int (i : Int) : fInt S [.int i] = some (.int i) := rfl
@[simp] theorem f_intb (b : Bool) : fInt S [.bl b] = some (.int (if b then 1 else 0)) := rfl
@[simp] theorem f_tupL (xs : List PV) : fTuple S [.lst xs] = some (.tup xs) := rfl
@[simp] theorem f_lstT (xs : List PV) : fList S [.tup xs] = some (.lst xs) := rfl
@[simp] theorem f_lstL (xs : List PV) : fList S [.lst xs] = some (.lst xs) := rfl
@[simp] theorem f_max2 (i j : Int) : fMax2 S [.int i, .int j] = some (.int (if j > i then j else i)) := rfl
@[simp] theorem f_min2 (i j : Int) : fMin2 S [.int i, .int j] = some (.int (if j < i then j else i)) := rfl
end
theorem ix_at {S xs : List PV} {k : Nat} (h : k < xs.length) : fIx S (.tup xs) (.int (k : Int)) = xs[k]? ∧ fIx S (.lst xs) (.int (k : Int)) = xs[k]? := by
  have e : ixP xs.length (k : Int) = some k := by
    unfold ixP
    rw [if_pos (by omega), if_pos (by omega), Int.toNat_natCast]
  constructor
  · show (match ixP xs.length (k : Int) with | some j => xs[j]? | none => none) = _
    rw [e]
  · show (match ixP xs.length (k : Int) with | some j => xs[j]? | none => none) = _
    rw [e]
/-- the box of draws -/
def BoxAt (S : List PV) (n : Nat) (z : Int) : Prop := ∃ x y z', S[n]? = some (.lst [.int x, .int y, .int z']) ∧ 0 ≤ z' ∧ z' ≤ z
theorem BoxAt.le {S : List PV} {n : Nat} {z w : Int} (h : BoxAt S n z) (l : z ≤ w) : BoxAt S n w := by
  obtain ⟨x, y, z', e, a, b⟩ := h
  exact ⟨x, y, z', e, a, by omega⟩
end BL

namespace BL
open PySem PySem.Spec PyProof.Rows L2
/-! ### what written expressions of ways give -/
abbrev RW (C : Addr) (s f c : Option Int) : RT := fun H v => ∃ p, v = .ref p ∧ WayAt C H p s f c
theorem rw_mono {C : Addr} {s f c : Option Int} {H H' : Hp} {v : V} (e : Same H H') (h : RW C s f c H v) : RW C s f c H' v := by
  obtain ⟨p, rfl, w⟩ := h
  exact ⟨p, rfl, w.same e⟩
def dO : Option Int → PyData
  | none => .none
  | some i => .int i
def okB : Option Int → Option Int → Option Int → Bool
  | s, some a, some b => decide (a ≤ b) && (s.isSome || decide (a = b))
  | s, _, _ => s.isSome
theorem dp_cast {K : PySem.W.Frag} {H : Hp} {v : V} {d d' : PyData} (e : d = d') (h : Dp K H v d) : Dp K H v d' := e ▸ h
theorem made_same {C x dx : Addr} {H H' : Hp} (nx : H x = none) (ndx : H dx = none) (k : ∀ b o, (upd (upd H dx (.own x)) x (.ins C dx [])) b = some o → b ≠ x → H' b = some o) : Same H H' := fun p o e =>
  k p o (by rw [upd_ne (ne_of_none e nx), upd_ne (ne_of_none e ndx)]; exact e) (ne_of_none e nx)

section
variable {K : PySem.W.Frag} {C : Addr} {σ : L2.St} {H : Hp} {te ta tb : TE} {t : TA} {s f c lo hi : Option Int} {e : Int}
theorem okB_of (h : okB s f c = true) : okW s f c := by
  unfold okB at h
  unfold okW
  cases f with
  | none => cases s with
    | none => cases h
    | some z => exact fun z => by cases z
  | some a =>
    cases c with
    | none => cases s with
      | none => cases h
      | some z => exact fun z => by cases z
    | some b =>
      simp only [Bool.and_eq_true, decide_eq_true_eq, Bool.or_eq_true] at h
      refine ⟨h.1, fun z => ?_⟩
      subst z
      rcases h.2 with g | g
      · cases g
      · exact g
theorem dp_o {v : V} {o : Option Int} (h : Dp K H v (dO o)) : v = oV o := by
  cases o with
  | none => cases h; rfl
  | some i => cases h; rfl
theorem gv_way3 (g : GA K t σ H [dO s, dO f, dO c]) (ok : okB s f c = true) : GV (tMake C (spInitW C) [] C8.E0 t) σ H (RW C (nrm s f c) f c) := fun H1 s1 Q q => g H1 s1 _ fun vs H2 s2 r x dx nx ndx nex => by
  cases r with
  | cons r1 r =>
    cases r with
    | cons r2 r =>
      cases r with
      | cons r3 r =>
        cases r
        rw [dp_o r1, dp_o r2, dp_o r3]
        exact ⟨x, dx, s, f, c, rfl, upd_same, okB_of ok, fun H3 W k => ⟨rfl, q _ _ (s2.trans (made_same nx ndx k)) ⟨x, rfl, W⟩⟩⟩
theorem gv_way2 (g : GA K t σ H [dO s, dO f]) (ok : okB s f none = true) : GV (tMake C (spInitW C) [.non] C8.E0 t) σ H (RW C (nrm s f none) f none) := fun H1 s1 Q q => g H1 s1 _ fun vs H2 s2 r x dx nx ndx nex => by
  cases r with
  | cons r1 r =>
    cases r with
    | cons r2 r =>
      cases r
      rw [dp_o r1, dp_o r2]
      exact ⟨x, dx, s, f, none, rfl, upd_same, okB_of ok, fun H3 W k => ⟨rfl, q _ _ (s2.trans (made_same nx ndx k)) ⟨x, rfl, W⟩⟩⟩
theorem gv_way1 (g : GA K t σ H [dO s]) (ok : okB s none none = true) : GV (tMake C (spInitW C) [.non, .non] C8.E0 t) σ H (RW C (nrm s none none) none none) := fun H1 s1 Q q => g H1 s1 _ fun vs H2 s2 r x dx nx ndx nex => by
  cases r with
  | cons r1 r =>
    cases r
    rw [dp_o r1]
    exact ⟨x, dx, s, none, none, rfl, upd_same, okB_of ok, fun H3 W k => ⟨rfl, q _ _ (s2.trans (made_same nx ndx k)) ⟨x, rfl, W⟩⟩⟩

theorem okw_wf {s f c : Option Int} (h : okB s f c = true) : wfW (nrm s f c) f c := nrm_wf (okB_of h)
/-- a check that such parts are a way's -/
def wfB : Option Int → Option Int → Option Int → Bool
  | none, some a, some b => decide (a = b)
  | none, _, _ => false
  | some _, some a, some b => decide (a < b)
  | some _, _, _ => true
theorem wfB_of {s f c : Option Int} (h : wfB s f c = true) : wfW s f c := by
  cases s with
  | none =>
    cases f with
    | none => cases h
    | some a =>
      cases c with
      | none => cases h
      | some b =>
        have e : a = b := of_decide_eq_true h
        subst e
        exact ⟨fun x y p q => (by cases p; cases q; exact Int.le_refl _), fun _ => ⟨a, rfl, rfl⟩, fun _ _ _ => rfl⟩
  | some z =>
    cases f with
    | none => exact ⟨fun x y p => (by cases p), fun p => (by cases p), fun x p => (by cases p)⟩
    | some a =>
      cases c with
      | none => exact ⟨fun x y _ p => (by cases p), fun p => (by cases p), fun x _ p => (by cases p)⟩
      | some b =>
        have e : a < b := of_decide_eq_true h
        exact ⟨fun x y p q => (by cases p; cases q; omega), fun p => (by cases p), fun x p q => (by cases p; cases q; omega)⟩
def smB : Option Int → Bool
  | none => true
  | some a => decide (-(2 ^ 64) < a) && decide (a < 2 ^ 64)
def lgB : Option Int → Bool
  | none => true
  | some a => decide (a.natAbs.log2 < 1920)
theorem gv_cast {s f c s' f' c' : Option Int} (g : GV te σ H (RW C s f c)) (e : (s, f, c) = (s', f', c')) : GV te σ H (RW C s' f' c') := by
  cases e
  exact g
theorem gv_rsh {s1 f1 c1 s2 f2 c2 : Option Int} (g : GV ta σ H (RW C s1 f1 c1)) (h : GV tb σ H (RW C s2 f2 c2)) (w1 : wfB s1 f1 c1 = true) (w2 : wfB s2 f2 c2 = true) : GV (tOp (rBin C (spRsh C)) ta tb) σ H (RW C (nrm (rsS s1 s2) (rsB s2 f2 c2 f1 f2) (rsB s2 f2 c2 c1 c2)) (rsB s2 f2 c2 f1 f2) (rsB s2 f2 c2 c1 c2)) :=
  fun H1 s1' Q q => g H1 s1' _ fun v H2 s2' r => h H2 (s1'.trans s2') _ fun u H3 s3' d => by
    obtain ⟨p, rfl, w⟩ := rw_mono s3' r
    obtain ⟨p2, rfl, w'⟩ := d
    obtain ⟨d1, h1⟩ := id w
    obtain ⟨d2, h2⟩ := id w'
    exact ⟨p, p2, d1, d2, _, _, rfl, rfl, h1, h2, p, p2, _, _, _, _, _, _, rfl, w, w', wfB_of w1, wfB_of w2, fun r H4 s4 z => q _ _ ((s2'.trans s3').trans s4) ⟨r, rfl, z⟩⟩
theorem gv_times {s f c : Option Int} {i : Int} (n : Nat) (g : GV ta σ H (RW C s f c)) (h : GV tb σ H (RD K (.int i))) (e : i = (n : Int)) (w1 : wfB s f c = true) (sm : smB s = true) : GV (tOp (rBinI C (spMul C)) ta tb) σ H (RW C (mul s f c n).1 (mul s f c n).2.1 (mul s f c n).2.2) :=
  fun H1 s1' Q q => g H1 s1' _ fun v H2 s2' r => h H2 (s1'.trans s2') _ fun u H3 s3' d => by
    obtain ⟨p, rfl, w⟩ := rw_mono s3' r
    cases d
    obtain ⟨d1, h1⟩ := id w
    refine ⟨p, _, d1, _, rfl, rfl, h1, p, _, _, _, n, by rw [e], w, wfB_of w1, fun a ha => ?_, fun r H4 s4 z => q _ _ ((s2'.trans s3').trans s4) ⟨r, rfl, z⟩⟩
    subst ha
    unfold smB at sm
    rw [Bool.and_eq_true, decide_eq_true_eq, decide_eq_true_eq] at sm
    exact sm
theorem gv_sel {s f c : Option Int} (sel : Option Int → Option Int → Option Int → Option Int) (g : GV te σ H (RW C s f c)) : GV (tWF C sel te) σ H (RD K (dO (sel s f c))) := fun H1 s1 Q q => g H1 s1 _ fun v H2 s2 r => by
  obtain ⟨p, rfl, w⟩ := r
  refine ⟨p, s, f, c, rfl, w, q _ _ s2 ?_⟩
  cases sel s f c with
  | none => exact .non
  | some i => exact .int i
theorem gv_eqw {s1 f1 c1 s2 f2 c2 : Option Int} (g : GV ta σ H (RW C s1 f1 c1)) (h : GV tb σ H (RW C s2 f2 c2)) : GV (tOp (rBin C (spEqW C)) ta tb) σ H (RD K (.bool (weq s1 f1 c1 s2 f2 c2))) :=
  fun H1 s1' Q q => g H1 s1' _ fun v H2 s2' r => h H2 (s1'.trans s2') _ fun u H3 s3' d => by
    obtain ⟨p, rfl, w⟩ := rw_mono s3' r
    obtain ⟨p2, rfl, w'⟩ := d
    obtain ⟨d1, h1⟩ := id w
    obtain ⟨d2, h2⟩ := id w'
    exact ⟨p, p2, d1, d2, _, _, rfl, rfl, h1, h2, p, p2, _, _, _, _, _, _, rfl, w, w', q _ _ (s2'.trans s3') (.bl _)⟩
def txt (s f c : Option Int) : Str := (((((Str.empty ++ bt s) ++ (" " : Str)) ++ bt f) ++ (" " : Str)) ++ bt c)
theorem gv_text {s f c : Option Int} (g : GV te σ H (RW C s f c)) (l : (lgB s && (lgB f && lgB c)) = true) : GV (tProp C (spText C) [] C8.E0 te) σ H (RD K (.str (txt s f c))) := fun H1 s1 Q q => g H1 s1 _ fun v H2 s2 r => by
  obtain ⟨p, rfl, w⟩ := r
  obtain ⟨d1, h1⟩ := id w
  rw [Bool.and_eq_true, Bool.and_eq_true] at l
  refine ⟨p, d1, _, rfl, h1, p, s, f, c, rfl, w, fun i hi => ?_, q _ _ s2 (.str _)⟩
  rcases hi with rfl | rfl | rfl
  · exact of_decide_eq_true l.1
  · exact of_decide_eq_true l.2.1
  · exact of_decide_eq_true l.2.2
theorem gv_cats {x y : Str} (g : GV ta σ H (RD K (.str x))) (h : GV tb σ H (RD K (.str y))) (l : x.length + y.length ≤ sizeLine) : GV (tOp (fun x y H Q => ∃ i j, x = .str i ∧ y = .str j ∧ i.length + j.length ≤ sizeLine ∧ Q (.str (i ++ j)) H) ta tb) σ H (RD K (.str (x ++ y))) :=
  fun H1 s1' Q q => g H1 s1' _ fun v H2 s2' r => h H2 (s1'.trans s2') _ fun u H3 s3' d => by
    cases r
    cases d
    exact ⟨_, _, rfl, rfl, l, q _ _ (s2'.trans s3') (.str _)⟩
def rMulS : R2 := fun x y H Q => ∃ a i, x = .str a ∧ y = .int i ∧ MulOk a i ∧ Q (.str (Txt.mul a i)) H
theorem op_mulS {X : Cx} : OpR X (binaryOp .Mult) rMulS := by
  intro pins s σ H x y v u Q I rx ry h
  obtain ⟨a, i, rfl, rfl, hk, q⟩ := h
  obtain ⟨t, rfl⟩ := rx
  obtain ⟨t', rfl⟩ := ry
  exact SB.mul hk fun t' tk => ⟨.str _, H, I.tok _, ⟨_, rfl⟩, q⟩
theorem gv_muls {x : Str} {i : Int} (g : GV ta σ H (RD K (.str x))) (h : GV tb σ H (RD K (.int i))) (l : MulOk x i) : GV (tOp rMulS ta tb) σ H (RD K (.str (Txt.mul x i))) :=
  fun H1 s1' Q q => g H1 s1' _ fun v H2 s2' r => h H2 (s1'.trans s2') _ fun u H3 s3' d => by
    cases r
    cases d
    exact ⟨_, _, rfl, rfl, l, q _ _ (s2'.trans s3') (.str _)⟩
end
end BL

namespace L2
open PySem PySem.Spec PyProof.Rows
theorem Room.units1 {k : Nat} {A : Around} (r : Room k A) : A.units + 65 < cLine := by have := r.un; omega
end L2
namespace BL
open PySem PySem.Spec PyProof.Rows L2
open C8 (Cal Mak pe_c pe_mk)
/-! more operators by trees -/
section
variable {X : Cx} {C : Addr} {e a b tg : Expr} {es : List Expr} {st : Stmt} {pos : Pos} {m ma mb me mf : ME} {mt : MT} {ms mr : MS} {mes : MA} {mi : MI}
theorem CallR.or' {X : Cx} {f : Value} {r r' : List V → Hp → VK → Prop} (h : CallR X f r) (h' : CallR X f r') : CallR X f (fun xs H Q => r xs H Q ∨ r' xs H Q) := BL.CallR.or h h'
theorem rep_flat {K : PySem.W.Frag} {F : Hp} {θ : List Addr} {vs : List V} {xs : List PV} (r : RepAll K C F θ vs xs) : ∀ n : Nat, RepAll K C F θ (List.replicate n vs).flatten (List.replicate n xs).flatten
  | 0 => .nil
  | n + 1 => by
    rw [List.replicate_succ, List.replicate_succ, List.flatten_cons, List.flatten_cons]
    exact r.app (rep_flat r n)
theorem flat_len {α : Type} (xs : List α) : ∀ n : Nat, (List.replicate n xs).flatten.length = n * xs.length
  | 0 => by simp
  | n + 1 => by rw [List.replicate_succ, List.flatten_cons, List.length_append, flat_len xs n, Nat.succ_mul, Nat.add_comm]
/-- times: numbers, lists, texts -/
def fMulQ (S : List PV) : PV → PV → Option PV
  | .lst xs, .int k => if -(2 ^ 63) ≤ k ∧ k < 2 ^ 63 ∧ xs.length * k.toNat ≤ 100000 then some (.lst (List.replicate k.toNat xs).flatten) else none
  | .str x, .int k => if decide (x.length ≤ 100) && decide (0 ≤ k) && decide (k ≤ 1000) then some (.str (Txt.mul x k)) else none
  | x, y => fMul S x y
abbrev rMulQ : R2 := fun x y H Q => (rMulP x y H Q ∨ rRep x y H Q) ∨ rMulS x y H Q
theorem op_mulQ {X : Cx} : OpR X (binaryOp .Mult) rMulQ := BL.OpR.or (BL.OpR.or op_mulP op_rep) op_mulS
theorem mulOk_small {x : Str} {k : Int} (h1 : x.length ≤ 100) (h2 : 0 ≤ k) (h3 : k ≤ 1000) : MulOk x k := by
  refine ⟨by simp; omega, fun p _ => ?_, fun p _ => ?_⟩
  · have : (9223372036854775807 : Int) / 1000 ≤ (2 ^ 63 - 1) / k := by
      have e : ((2 : Int) ^ 63 - 1) = 9223372036854775807 := by decide
      rw [e]
      refine (Int.le_ediv_iff_mul_le (by omega)).mpr ?_
      have : (9223372036854775807 : Int) / 1000 = 9223372036854775 := by decide
      rw [this]
      omega
    have e2 : (9223372036854775807 : Int) / 1000 = 9223372036854775 := by decide
    omega
  · have : x.length * k.toNat ≤ 100 * 1000 := Nat.mul_le_mul h1 (by omega)
    unfold PySem.Builtin.Str.tooLong
    simp
    have := lim
    omega
theorem l_mulQ {K : PySem.W.Frag} : LR2 K C rMulQ fMulQ := fun W S v u x y z Q i rx ry e q => by
  unfold fMulQ at e
  split at e
  · rename_i xs k
    split at e
    · rename_i h
      cases e
      cases rx with
      | lst hF ra =>
      cases ry
      refine .inl (.inr ⟨_, k, _, rfl, rfl, i.s _ _ hF, h.1, h.2.1, by rw [ra.len]; exact Nat.le_trans h.2.2 lim, fun p np => ?_⟩)
      obtain ⟨g, i2⟩ := laid (.lst (List.replicate k.toNat _).flatten) i np
      exact q _ _ g i2 (.lst upd_same ((rep_flat ra _).ext g))
    · cases e
  · rename_i t k
    split at e
    · rename_i h
      cases e
      cases rx
      cases ry
      simp only [Bool.and_eq_true, decide_eq_true_eq] at h
      exact .inr ⟨t, k, rfl, rfl, mulOk_small h.1.1 h.1.2 h.2, q _ W (Gro.refl _) i (.str _)⟩
    · cases e
  · exact .inl (.inl (l_mul W S v u x y z Q i rx ry e q))
/-- int(..) of a number, a bool, a text -/
def fIntQ (S : List PV) : List PV → Option PV
  | [.str a] => if a.length ≤ 640 then (match PySem.intText? a with
    | some n => some (.int n)
    | none => none) else none
  | xs => fInt S xs
theorem call_intQ {X : Cx} : CallR X (.type "int") (fun xs H Q => ((∃ i, xs = [.int i] ∧ Q (.int i) H) ∨ ∃ k, xs = [.bl k] ∧ Q (.int (if k then 1 else 0)) H) ∨ (∃ a n, xs = [.str a] ∧ PySem.intText? a = some n ∧ a.length ≤ 640 ∧ Q (.int n) H)) := BL.CallR.or call_int1 call_int_str
theorem l_intQ {K : PySem.W.Frag} : LRn K C (fun xs H Q => ((∃ i, xs = [.int i] ∧ Q (.int i) H) ∨ ∃ k, xs = [.bl k] ∧ Q (.int (if k then 1 else 0)) H) ∨ (∃ a n, xs = [.str a] ∧ PySem.intText? a = some n ∧ a.length ≤ 640 ∧ Q (.int n) H)) fIntQ := fun W S vs xs z Q i r e q => by
  unfold fIntQ at e
  split at e
  · rename_i a
    split at e
    · rename_i hl
      split at e
      · rename_i n hn
        cases e
        cases r with
        | cons r rr =>
          cases rr
          cases r
          exact .inr ⟨_, _, rfl, hn, hl, q _ W (Gro.refl _) i (.int _)⟩
      · cases e
    · cases e
  · exact .inl (l_int W S vs xs z Q i r e q)
/-- x in xs by what is equal, at any depth -/
def fInD (neg : Bool) (_ : List PV) (x y : PV) : Option PV := match x.toD, (match y with | .lst ys => PV.toD.toDs ys | _ => none) with
  | some d, some ds => if SeqAt.shaped d && SeqAt.shaped (.list ds) then some (.bl (if neg then !(ds.any fun z => PyData.eqv z d) else ds.any fun z => PyData.eqv z d)) else none
  | _, _ => none
theorem l_inD {K : PySem.W.Frag} : LR2 K C (rInD K) (fInD false) := fun W S v u x y z Q i rx ry e q => by
  unfold fInD at e
  split at e
  · rename_i d ds h1 h2
    split at e
    · rename_i h
      cases e
      rw [Bool.and_eq_true] at h
      cases ry with
      | lst hF ra => exact ⟨d, ds, Dp.monoS i.s (rx.dp h1), Dp.monoS i.s (.lst (SqL.of hF) (RepAll.dp ra h2)), h.1, h.2, q _ W (Gro.refl _) i (.bl _)⟩
      | _ => cases h2
    · cases e
  · cases e
theorem l_notInD {K : PySem.W.Frag} : LR2 K C (rNotInD K) (fInD true) := fun W S v u x y z Q i rx ry e q => by
  unfold fInD at e
  split at e
  · rename_i d ds h1 h2
    split at e
    · rename_i h
      cases e
      rw [Bool.and_eq_true] at h
      cases ry with
      | lst hF ra => exact ⟨d, ds, Dp.monoS i.s (rx.dp h1), Dp.monoS i.s (.lst (SqL.of hF) (RepAll.dp ra h2)), h.1, h.2, q _ W (Gro.refl _) i (.bl _)⟩
      | _ => cases h2
    · cases e
  · cases e
end
section
variable {ρ : List SlV} {S : List PV}
@[simp] theorem fq_mulI (i j : Int) : fMulQ S (.int i) (.int j) = if i.natAbs < 2 ^ 64 ∨ j.natAbs < 2 ^ 64 ∨ (i.natAbs < 2 ^ 4000 ∧ j.natAbs < 2 ^ 4000) then some (.int (i * j)) else none := rfl
@[simp] theorem fq_mulL (xs : List PV) (k : Int) : fMulQ S (.lst xs) (.int k) = if -(2 ^ 63) ≤ k ∧ k < 2 ^ 63 ∧ xs.length * k.toNat ≤ 100000 then some (.lst (List.replicate k.toNat xs).flatten) else none := rfl
@[simp] theorem fq_intI (i : Int) : fIntQ S [.int i] = some (.int i) := rfl
@[simp] theorem fq_intb (b : Bool) : fIntQ S [.bl b] = some (.int (if b then 1 else 0)) := rfl
end
end BL

namespace L2
open PySem PySem.Spec PyProof.Rows
/-! a set of the numbers of a list, in order -/
section
variable {P : Program} {w : World} {A : Around} {E : Value → Shared → Prop} {s : Shared}
/-- a set as it is born -/
abbrev born (w : World) : Obj := ⟨.type "set", none, .set #[] 0 (.fresh 0 0 (!w.params.followText "set-order")), #[]⟩
/-- the heap with it -/
abbrev bornH (w : World) (s : Shared) : Heap := s.heap.push (born w)
abbrev Filled (w : World) (s : Shared) (ns : List Int) (s₂ : Shared) : Prop := ∃ g tk c, s₂ = { s with heap := g, toks := tk } ∧ SetR w g s.heap.objs.size (fun j => decide (j ∈ ns)) c ∧ c ≤ ns.length ∧ ∀ b o, s.heap.get? b = some o → g.get? b = some o
set_option maxHeartbeats 8000000 in
theorem set_of_ints {l : Addr} {vs : Array Value} (ns : List Int) {Q : Value → Shared → Prop} (calm : A.handled = none) (hl : s.heap.IsList l vs) (hi : IntsAre vs.toList ns) (room : ns.length + 1 < scanBound)
    (k : ∀ s₂, Filled w s ns s₂ → Q (.ref s.heap.objs.size) s₂) : wpAny (model P w) A (call (.type "set") [.ref l]) Q E s := by
  have len : vs.size = ns.length := by have q := IntsAre.length hi; rwa [Array.length_toList] at q
  obtain ⟨mc, mt, mro⟩ := F.called_set.mro
  have a1 := F.called_set.made
  have a2 := F.called_set.sub
  refine wpAny_call (codeAny_of_tree ?_)
  show wpAny _ _ (callAny (.type "set") _) _ _ _
  refine wpAny_pure ⟨Code.quiet_builtin _ (by decide +kernel), codeAny_builtin F.entry_type_call ?_⟩
  rw [Around.under_plain (weight_type_call_type "set" [.ref l] []) rfl]
  have a3 := F.called_set.notType
  have a4 := F.called_set.canCreate
  have a5 := F.typeCall_set_1 (.ref l)
  repeat (any_goals (first | assumption | wp_step))
  refine codeAny_mono (code_set_led1 (.ref l) (E := E) (Q₁ := fun x t => x = .ref s.heap.objs.size ∧ t = { s with heap := bornH w s }) ⟨rfl, rfl⟩) fun r t hr => ?_
  cases r with
  | error e => exact hr
  | ok fl =>
    cases fl with
    | ret x =>
      obtain ⟨rfl, rfl⟩ := hr
      have at0 : (bornH w s).get? s.heap.objs.size = some (born w) := Heap.get?_push_size _ rfl
      have ty0 : Shared.TypeIs { s with heap := bornH w s } (.ref s.heap.objs.size) "set" := ⟨_, at0, rfl⟩
      have b1 := F.called_set.init.lookup
      have b2 := F.called_set.init.bind (.ref s.heap.objs.size)
      repeat (any_goals (first | assumption | wp_step))
      refine codeAny_mono (codeAny_call_builtin (R := wants (fun r t => r = .none ∧ Filled w s ns t) E) F.called_set.init.plain F.entry_set_init (check_set_init_1 ty0 ?_)) fun r t hr => ?_
      · obtain ⟨⟨lc, ld, lx, ls⟩, hol, hcl, nl, hdl⟩ := hl
        simp only at hcl hdl
        subst hcl
        subst hdl
        have at1 : (bornH w s).get? l = some { cls := .type "list", dict := ld, data := .seq vs nl, slots := ls } := Heap.get?_push_of_some _ hol
        have c1 := F.sub_list_set
        have c2 := F.sub_list_frozenset
        have c3 : (Value.type "list" == Value.type "dict") = false := by decide
        have isl : (bornH w s).IsList l vs := ⟨_, at1, rfl, nl, rfl⟩
        unfold Builtin.«set.__init__» noKeywords Builtin.Frozenset.updateFrom
        generalize hPI : pyIter = PI
        wp_walk
        subst hPI
        refine wpAny_pyIter_list isl ?_
        refine wpAny_bind (wpAny_runValue ?_)
        have lt : l < s.heap.objs.size := Heap.lt_size hol
        have cal : A.in1.in1.in1.handled = none := by simp [calm]
        have sz : (bornH w s).objs.size = s.heap.objs.size + 1 := Heap.size_push ..
        have ne1 : l ≠ (bornH w s).objs.size := by rw [sz]; exact Nat.ne_of_lt (Nat.lt_succ_of_lt lt)
        have out : s.heap.objs.size ∉ [(bornH w s).objs.size, l] := by
          rw [sz]
          intro m
          rcases List.mem_cons.mp m with m | m
          · exact absurd m (Nat.ne_of_lt (Nat.lt_succ_self _))
          · exact absurd (List.mem_singleton.mp m) (Nat.ne_of_gt lt)
        have each : ∀ (i : Nat) (v : Value), vs[i]? = some v → ∃ j t, ns[i]? = some j ∧ v = .int j t := fun i v hv => by
          have il : i < ns.length := by rw [← len]; exact (Array.getElem?_eq_some_iff.mp hv).1
          obtain ⟨t, e⟩ := PyProof.Rows.IntsAre.int_at hi i v (by rw [Array.getElem?_toList]; exact hv)
          refine ⟨ns[i], t, List.getElem?_eq_getElem il, ?_⟩
          rw [e, List.getD_eq_getElem?_getD, List.getElem?_eq_getElem il]
          rfl
        refine set_update_ints ((Walks.list cal _ l ne1 vs).toS) s.heap.objs.size out ns len room each (vs.size - 0) 0 _ (by omega) (Nat.zero_le _) ⟨⟨_, Heap.get?_push_size _ rfl, rfl, rfl⟩, isl.push _⟩ ?start ?fin
        case start => exact ⟨0, Nat.le_refl 0, setR_new_at (Heap.get?_push_of_some _ at0)⟩
        case fin =>
          intro t' c' mv hc hS
          obtain ⟨g, tg, td, tt, to⟩ := t'
          have e1 : tg = s.gens := mv.gens
          have e2 : td = s.drawn := mv.drawn
          have e3 : to = s.os := mv.os
          subst e1
          subst e2
          subst e3
          show wpAny _ _ _ _ _ _
          refine wpAny_pure ?_
          show wpAny _ _ (ret Value.none) _ _ _
          rw [len] at hc
          refine wpAny_pure ⟨rfl, g, tt, c', rfl, hS, hc, fun b o e => ?_⟩
          have lb : b < s.heap.objs.size := Heap.lt_size e
          refine mv.heap b o (fun m => ?_) (Heap.get?_push_of_some _ (Heap.get?_push_of_some _ e))
          rcases List.mem_cons.mp m with m | m
          · exact absurd m (Nat.ne_of_lt lb)
          · exact absurd ((List.mem_singleton.mp m).trans sz) (Nat.ne_of_lt (Nat.lt_succ_of_lt lb))
      · cases r with
        | error e => exact hr
        | ok f2 =>
          cases f2 with
          | ret y =>
            obtain ⟨rfl, g, tk, c, rfl, q1, q2, q3⟩ := hr
            repeat (any_goals (first | assumption | wp_step))
            exact k _ ⟨g, tk, c, rfl, q1, q2, q3⟩
          | _ => exact hr.elim
    | _ => exact hr.elim
end
section
variable {X : Cx}
def rSetLi (K : PySem.W.Frag) (w : World) : List V → Hp → VK → Prop := fun xs H Q => ∃ (a : Addr) (ns : List Int), xs = [.ref a] ∧ SqL K H a (ns.map V.int) ∧ ns.length ≤ 1000 ∧ ∀ p c, H p = none → c ≤ ns.length → Q (.ref p) (upd H p (SetO w p (fun j => decide (j ∈ ns)) c))
theorem cr_setL (hc : X.calm = true) : CallR X (.type "set") (rSetLi X.K X.w) := by
  intro pins s σ H xs us Q I r h
  obtain ⟨a, ns, rfl, hq, hl, q⟩ := h
  rw [Vals.ref1 r]
  obtain ⟨its, rv, pl, _⟩ := I.list hq
  refine set_of_ints ns (I.ok.hd hc) pl.isList (by simpa using ints_of_vals rv) (by unfold scanBound; omega) fun t ht => ?_
  obtain ⟨g, tk, c, rfl, q1, q2, q3⟩ := ht
  exact ⟨.ref s.heap.objs.size, upd H s.heap.objs.size (SetO X.w s.heap.objs.size (fun j => decide (j ∈ ns)) c), I.laid (t' := tk) q3 (Nat.le_refl _) (setO_new q1), rfl, q _ c (I.hok.fresh (Nat.le_refl _)) q2⟩
end
end L2

namespace BL
open PySem PySem.Spec PyProof.Rows L2
open C8 (Cal Mak pe_c pe_mk)
section
variable {X : Cx} {C : Addr} {e a b tg : Expr} {es : List Expr} {st : Stmt} {pos : Pos} {m ma mb mc me mf : ME} {mt : MT} {ms mr : MS} {mes : MA} {mi : MI}
/-! isinstance with two classes -/
def kit2 (t a b : String) : Option Bool := match kitB t a with
  | some true => some true
  | some false => (match kitB t b with
    | some true => some true
    | some false => some false
    | none => none)
  | none => none
def mIsT2 (T U : String) (ma : ME) : ME := fun ρ S => match ma ρ S with
  | some (x, S1) => match tyN x with
    | some t => match kit2 t T U with
      | some b => some (.bl b, S1)
      | none => none
    | none => none
  | none => none
theorem tyx_of {K : PySem.W.Frag} {W : Wd} {S : List PV} {v : V} {x : PV} {t : String} (i : Inv1 K C W S) (r : RepW K C W v x) (e : tyN x = some t) : TyX K W.H v (.type t) := by
  cases r with
  | non => cases e; exact .base .non
  | bl b => cases e; exact .base (.bl b)
  | int b => cases e; exact .base (.int b)
  | str b => cases e; exact .base (.str b)
  | lst h a => cases e; exact ty_l (SqL.of (i.s _ _ h))
  | tup h a => cases e; exact ty_t (i.s.seT h)
  | way h => cases e
  | mref h => cases e
  | exc _ _ _ _ _ _ => cases e
theorem xisT2 {T U : String} (h : PE X e (tCB (rIsiT X.K) (tCons (tM X.K C ma) (tCons (tTup (tCons (tC (.ty T)) (tCons (tC (.ty U)) tNil))) tNil)))) : PE X e (tM X.K C (mIsT2 T U ma)) := PE.weak h fun σ H Q ⟨W0, W, ρ, S, z, S', eH, R, em, q⟩ => by
  subst eH
  unfold mIsT2 at em
  split at em
  · rename_i x S1 e1
    split at em
    · rename_i t e2
      split at em
      · rename_i b' e3
        cases em
        refine ⟨W0, W, ρ, S, x, S', rfl, R, e1, fun v W1 R1 g1 r1 => ?_⟩
        refine ⟨(by show 2 ≤ sizeLine; decide), fun p np => ?_⟩
        obtain ⟨g2, i2⟩ := laid (.tup [.ty T, .ty U]) R1.i np
        exact ⟨v, p, _, _, _, b', rfl, upd_same, .cons (.ty _) (.cons (.ty _) .nil), tyx_of i2 (r1.ext g2) e2, any_of e3, q _ _ (R1.ext g2 i2) (g1.trans g2) (.bl _)⟩
      · cases em
    · cases em
  · cases em
/-! numbers in order -/
def insI (x : Int) : List Int → List Int
  | [] => [x]
  | y :: ys => if x < y then x :: y :: ys else if x = y then y :: ys else y :: insI x ys
def srtI : List Int → List Int
  | [] => []
  | x :: xs => insI x (srtI xs)
theorem insI_mem (x : Int) : ∀ (ys : List Int) (z : Int), z ∈ insI x ys ↔ z = x ∨ z ∈ ys
  | [], z => by simp [insI]
  | y :: ys, z => by
    unfold insI
    split
    · simp
    · split
      · rename_i h; subst h; simp
      · simp [insI_mem x ys z]
        constructor
        · rintro (h | h | h) <;> simp [h]
        · rintro (h | h | h) <;> simp [h]
theorem srtI_mem : ∀ (xs : List Int) (z : Int), z ∈ srtI xs ↔ z ∈ xs
  | [], z => by simp [srtI]
  | x :: xs, z => by simp [srtI, insI_mem, srtI_mem xs z]
theorem insI_asc (x : Int) : ∀ (ys : List Int), ys.Pairwise (· < ·) → (insI x ys).Pairwise (· < ·)
  | [], _ => by simp [insI]
  | y :: ys, h => by
    obtain ⟨h1, h2⟩ := List.pairwise_cons.mp h
    unfold insI
    split
    · rename_i c
      refine List.pairwise_cons.mpr ⟨fun z hz => ?_, h⟩
      rcases List.mem_cons.mp hz with e | hz
      · omega
      · have := h1 z hz; omega
    · split
      · exact h
      · refine List.pairwise_cons.mpr ⟨fun z hz => ?_, insI_asc x ys h2⟩
        rcases (insI_mem x ys z).mp hz with e | hz
        · omega
        · exact h1 z hz
theorem srtI_asc : ∀ (xs : List Int), (srtI xs).Pairwise (· < ·)
  | [] => .nil
  | x :: xs => insI_asc x _ (srtI_asc xs)
theorem asc_eq : ∀ {xs ys : List Int}, xs.Pairwise (· < ·) → ys.Pairwise (· < ·) → (∀ z, z ∈ xs ↔ z ∈ ys) → xs = ys
  | [], [], _, _, _ => rfl
  | [], y :: ys, _, _, h => absurd ((h y).mpr List.mem_cons_self) (by simp)
  | x :: xs, [], _, _, h => absurd ((h x).mp List.mem_cons_self) (by simp)
  | x :: xs, y :: ys, h1, h2, h => by
    obtain ⟨a1, a2⟩ := List.pairwise_cons.mp h1
    obtain ⟨b1, b2⟩ := List.pairwise_cons.mp h2
    have e : x = y := by
      rcases List.mem_cons.mp ((h x).mp List.mem_cons_self) with e | e
      · exact e
      · rcases List.mem_cons.mp ((h y).mpr List.mem_cons_self) with f | f
        · exact f.symm
        · have := b1 x e; have := a1 y f; omega
    subst e
    congr 1
    refine asc_eq a2 b2 fun z => ⟨fun hz => ?_, fun hz => ?_⟩
    · rcases List.mem_cons.mp ((h z).mp (List.mem_cons_of_mem _ hz)) with e | e
      · have := a1 z hz; omega
      · exact e
    · rcases List.mem_cons.mp ((h z).mpr (List.mem_cons_of_mem _ hz)) with e | e
      · have := b1 z hz; omega
      · exact e
theorem rep_ints {K : PySem.W.Frag} {F : Hp} {θ : List Addr} : ∀ ns : List Int, RepAll K C F θ (ns.map V.int) (ns.map PV.int)
  | [] => .nil
  | n :: ns => .cons (.int n) (rep_ints ns)
/-- sorted(set(..)) of numbers -/
def fSset (_ : List PV) : PV → Option PV
  | .lst xs => match intsP xs with
    | some ns => if ns.length < 64 then some (.lst ((srtI ns).map .int)) else none
    | none => none
  | _ => none
theorem xsset (h : PE X e (tCB (rSortedSet X.w) (tCons (tCB (rSetLi X.K X.w) (tCons (tM X.K C ma) tNil)) tNil))) : PE X e (tM X.K C (mUn fSset ma)) := PE.weak h fun σ H Q ⟨W0, W, ρ, S, z, S', eH, R, em, q⟩ => by
  subst eH
  obtain ⟨x, e1, e2⟩ := mUn_inv em
  unfold fSset at e2
  split at e2
  · rename_i xs
    split at e2
    · rename_i ns hn
      split at e2
      · rename_i hl
        cases e2
        refine ⟨W0, W, ρ, S, _, S', rfl, R, e1, fun v W1 R1 g1 r1 => ?_⟩
        cases r1 with
        | lst hF ra =>
          refine ⟨_, ns, rfl, by rw [← intsP_ok ra hn]; exact R1.i.s.seq (SqL.of hF), by omega, fun p c np hc => ?_⟩
          obtain ⟨g2, i2⟩ := laid (SetO X.w p (fun j => decide (j ∈ ns)) c) R1.i np
          refine ⟨p, _, c, rfl, upd_same, by omega, fun ns' p' h1 h2 h3 np' => ?_⟩
          have e : ns' = srtI ns := asc_eq h1 (srtI_asc ns) fun z => by rw [h2, srtI_mem]; simp
          subst e
          obtain ⟨g3, i3⟩ := laid (.lst ((srtI ns).map V.int)) i2 np'
          exact q _ _ ((R1.ext g2 i2).ext g3 i3) ((g1.trans g2).trans g3) (.lst upd_same (rep_ints _))
      · cases e2
    · cases e2
  · cases e2
/-- sorted(..) of a list of numbers -/
def insL (x : Int) : List Int → List Int
  | [] => [x]
  | y :: ys => if x ≤ y then x :: y :: ys else y :: insL x ys
def srtL : List Int → List Int
  | [] => []
  | x :: xs => insL x (srtL xs)
theorem insL_perm (x : Int) : ∀ ys : List Int, (insL x ys).Perm (x :: ys)
  | [] => .refl _
  | y :: ys => by
    unfold insL
    split
    · exact .refl _
    · exact ((insL_perm x ys).cons y).trans (.swap x y ys)
theorem srtL_perm : ∀ xs : List Int, (srtL xs).Perm xs
  | [] => .refl _
  | x :: xs => (insL_perm x _).trans ((srtL_perm xs).cons x)
theorem insL_asc (x : Int) : ∀ (ys : List Int), ys.Pairwise (· ≤ ·) → (insL x ys).Pairwise (· ≤ ·)
  | [], _ => by simp [insL]
  | y :: ys, h => by
    obtain ⟨h1, h2⟩ := List.pairwise_cons.mp h
    unfold insL
    split
    · refine List.pairwise_cons.mpr ⟨fun z hz => ?_, h⟩
      rcases List.mem_cons.mp hz with e | hz
      · omega
      · have := h1 z hz; omega
    · refine List.pairwise_cons.mpr ⟨fun z hz => ?_, insL_asc x ys h2⟩
      rcases List.mem_cons.mp ((insL_perm x ys).mem_iff.mp hz) with e | hz
      · omega
      · exact h1 z hz
theorem srtL_asc : ∀ (xs : List Int), (srtL xs).Pairwise (· ≤ ·)
  | [] => .nil
  | x :: xs => insL_asc x _ (srtL_asc xs)
theorem le_eq : ∀ {xs ys : List Int}, xs.Pairwise (· ≤ ·) → ys.Pairwise (· ≤ ·) → xs.Perm ys → xs = ys
  | [], ys, _, _, h => (List.nil_perm.mp h).symm
  | x :: xs, [], _, _, h => absurd h.length_eq (by simp)
  | x :: xs, y :: ys, h1, h2, h => by
    obtain ⟨a1, a2⟩ := List.pairwise_cons.mp h1
    obtain ⟨b1, b2⟩ := List.pairwise_cons.mp h2
    have e : x = y := by
      have k1 : y ≤ x := by
        rcases List.mem_cons.mp (h.mem_iff.mp List.mem_cons_self) with e | e
        · omega
        · exact b1 x e
      have k2 : x ≤ y := by
        rcases List.mem_cons.mp (h.mem_iff.mpr List.mem_cons_self) with e | e
        · omega
        · exact a1 y e
      omega
    subst e
    congr 1
    exact le_eq a2 b2 (List.Perm.cons_inv h)
def fSorted (_ : List PV) : List PV → Option PV
  | [.lst xs] => match intsP xs with
    | some ns => some (.lst ((srtL ns).map .int))
    | none => none
  | _ => none
theorem l_sorted {K : PySem.W.Frag} : LRn K C (rSortedI K) fSorted := fun W S vs xs z Q i r e q => by
  unfold fSorted at e
  split at e
  · split at e
    · rename_i ns hn
      cases e
      cases r with
      | cons r rr =>
        cases rr
        cases r with
        | lst h a =>
          refine ⟨_, ns, rfl, by rw [← intsP_ok a hn]; exact i.s.seq (SqL.of h), fun ns' p h1 h2 np => ?_⟩
          have e : ns' = srtL ns := le_eq h2 (srtL_asc ns) (h1.trans (srtL_perm ns).symm)
          subst e
          obtain ⟨g3, i3⟩ := laid (.lst ((srtL ns).map V.int)) i np
          exact q _ _ g3 i3 (.lst upd_same (rep_ints _))
    · cases e
  · cases e
/-! a star among the items of a display -/
def mStar (ma : ME) (mr : MA) : MA := fun ρ S => match ma ρ S with
  | some (x, S1) => match items x with
    | some xs => match mr ρ S1 with
      | some (ys, S2) => some (xs ++ ys, S2)
      | none => none
    | none => none
  | none => none
theorem xstar {p : Pos} (ha : PE X e (tM X.K C ma)) (hr : PA X es (tMA X.K C mes)) (hs : starEach (.Starred e p :: es) X.env = (true, eval e X.env) :: starEach es X.env := by rfl) : PA X (.Starred e p :: es) (tMA X.K C (mStar ma mes)) := PA.weak (StX.pa_star ha hr hs) fun σ H Q ⟨W0, W, ρ, S, z, S', eH, R, em, q⟩ => by
  subst eH
  unfold mStar at em
  split at em
  · rename_i x S1 e1
    split at em
    · rename_i xs e2
      split at em
      · rename_i ys S2 e3
        cases em
        refine ⟨W0, W, ρ, S, x, S1, rfl, R, e1, fun v W1 R1 g1 r1 => ?_⟩
        cases r1 with
        | lst h a =>
          cases e2
          exact ⟨_, _, rfl, .inr (R1.i.s.seq (SqL.of h)), W0, W1, ρ, S1, ys, S', rfl, R1, e3, fun us W2 R2 g2 r2 => q _ W2 R2 (g1.trans g2) ((a.ext g2).app r2)⟩
        | tup h a =>
          cases e2
          exact ⟨_, _, rfl, .inl (R1.i.s.seT h), W0, W1, ρ, S1, ys, S', rfl, R1, e3, fun us W2 R2 g2 r2 => q _ W2 R2 (g1.trans g2) ((a.ext g2).app r2)⟩
        | _ => cases e2
      · cases em
    · cases em
  · cases em
/-! a chain of two comparisons of numbers -/
def mChain (p r : Int → Int → Bool) (ma mb mc : ME) : ME := fun ρ S => match ma ρ S with
  | some (.int i, S1) => match mb ρ S1 with
    | some (.int j, S2) => if p i j then (match mc ρ S2 with
      | some (.int k, S3) => some (.bl (r j k), S3)
      | _ => none) else some (.bl false, S2)
    | _ => none
  | _ => none
theorem chain_lift {K : PySem.W.Frag} {p r : Int → Int → Bool} {σ : L2.St} {H : Hp} {Q : VK} (h : tM K C (mChain p r ma mb mc) σ H Q) : tChain (rI0 fun i j => .bl (p i j)) (rI0 fun i j => .bl (r i j)) (tM K C ma) (tM K C mb) (tM K C mc) σ H Q := by
  obtain ⟨W0, W, ρ, S, z, S', eH, R, em, q⟩ := h
  subst eH
  unfold mChain at em
  split at em
  · rename_i i S1 e1
    split at em
    · rename_i j S2 e2
      refine ⟨W0, W, ρ, S, _, S1, rfl, R, e1, fun v W1 R1 g1 r1 => ⟨W0, W1, ρ, S1, _, S2, rfl, R1, e2, fun u W2 R2 g2 r2 => ?_⟩⟩
      cases r1
      cases r2
      refine ⟨i, j, rfl, rfl, p i j, rfl, ?_⟩
      split at em
      · rename_i hp
        split at em
        · rename_i k S3 e3
          cases em
          rw [hp]
          refine iteT ⟨W0, W2, ρ, S2, _, S', rfl, R2, e3, fun w W3 R3 g3 r3 => ?_⟩
          cases r3
          exact ⟨j, k, rfl, rfl, q _ W3 R3 ((g1.trans g2).trans g3) (.bl _)⟩
        · cases em
      · rename_i hp
        cases em
        rw [Bool.not_eq_true] at hp
        rw [hp]
        exact iteF (q _ W2 R2 (g1.trans g2) (.bl _))
    · cases em
  · cases em
theorem xchain {p r : Int → Int → Bool} (h : PE X e (tChain (rI0 fun i j => .bl (p i j)) (rI0 fun i j => .bl (r i j)) (tM X.K C ma) (tM X.K C mb) (tM X.K C mc))) : PE X e (tM X.K C (mChain p r ma mb mc)) := PE.weak h fun σ H Q q => chain_lift q
theorem xchainT {p r : Int → Int → Bool} (h : PT X e (tTest (tChain (rI0 fun i j => .bl (p i j)) (rI0 fun i j => .bl (r i j)) (tM X.K C ma) (tM X.K C mb) (tM X.K C mc)))) : PT X e (tMT X.K C (mTru (mChain p r ma mb mc))) := PT.weak h fun σ H Q ⟨W0, W, ρ, S, z, S', eH, R, em, q⟩ => by
  subst eH
  exact chain_lift ⟨W0, W, ρ, S, _, S', rfl, R, mTru_inv em, fun v W1 R1 g1 r1 => by cases r1; exact ⟨z, rfl, q W1 R1 g1⟩⟩
/-! own lists by a sum of lists -/
def mNewA (i : Nat) (ma mb : ME) : MS := fun ρ S => match ma ρ S with
  | some (.lst xs, S1) => match mb ρ S1 with
    | some (.lst ys, S2) => if xs.length + ys.length ≤ 100000 ∧ i < ρ.length then some (.nx (ρ.set i (.own (.lst (xs ++ ys)))) S2) else none
    | _ => none
  | _ => none
theorem xnewA {i : Nat} (h : PS X st (tAsg (tOp rCat (tM X.K C ma) (tM X.K C mb)) (gName i))) : PS X st (tMS X.K C (mNewA i ma mb)) := PS.weak h fun D σ H ⟨W0, W, ρ, S, out, eH, R, em, p⟩ => by
  subst eH
  unfold mNewA at em
  split at em
  · rename_i xs S1 e1
    split at em
    · rename_i ys S2 e2
      split at em
      · rename_i hl
        cases em
        refine ⟨W0, W, ρ, S, _, S1, rfl, R, e1, fun v W1 R1 g1 r1 => ⟨W0, W1, ρ, S1, _, S2, rfl, R1, e2, fun u W2 R2 g2 r2 => ?_⟩⟩
        cases r1 with
        | lst h1 a1 =>
          cases r2 with
          | lst h2 a2 =>
            refine ⟨_, _, _, _, rfl, rfl, R2.i.s _ _ (g2.f _ _ h1), R2.i.s _ _ h2, by rw [a1.len, a2.len]; exact Nat.le_trans hl.1 lim, fun q nq => ?_⟩
            obtain ⟨g3, R3, o3, d3⟩ := laidO R2 ((a1.ext g2).app a2) nq
            exact p _ _ ((g1.trans g2).trans g3).groF (R3.seto i o3 hl.2 d3)
      · cases em
    · cases em
  · cases em
end
section
variable {ρ : List SlV} {S : List PV} {ma mb mc : ME} {mes : MA}
@[simp] theorem e_isT2 (T U : String) : mIsT2 T U ma ρ S = match ma ρ S with
  | some (x, S1) => (match tyN x with
    | some t => (match kit2 t T U with
      | some b => some (.bl b, S1)
      | none => none)
    | none => none)
  | none => none := rfl
@[simp] theorem e_star : mStar ma mes ρ S = match ma ρ S with
  | some (x, S1) => (match items x with
    | some xs => (match mes ρ S1 with
      | some (ys, S2) => some (xs ++ ys, S2)
      | none => none)
    | none => none)
  | none => none := rfl
end
end BL

namespace BL
open PySem PySem.Spec PyProof.Rows L2
/-! comprehensions whose list is kept as an own one; two clauses -/
theorem put_own {i : Nat} {y : PV} : ∀ {is : List Nat} {xs : List PV} {ρ ρ' : List SlV}, putAll is xs ρ = some ρ' → ρ'[i]? = some (.own y) → ρ[i]? = some (.own y)
  | [], [], ρ, ρ', e, h => by cases e; exact h
  | [], _ :: _, _, _, e, _ => by cases e
  | j :: is, [], _, _, e, _ => by cases e
  | j :: is, x :: xs, ρ, ρ', e, h => by
    unfold putAll at e
    split at e
    · rename_i hj
      have := put_own e h
      by_cases c : j = i
      · subst c
        rw [List.getElem?_set_self hj] at this
        cases this
      · rwa [List.getElem?_set_ne c] at this
    · cases e
theorem put_ownQ {i : Nat} {y : PV} : ∀ {gs : List (Nat ⊕ List Nat)} {xs : List PV} {ρ ρ' : List SlV}, putAllQ gs xs ρ = some ρ' → ρ'[i]? = some (.own y) → ρ[i]? = some (.own y) := fun {gs} => by
  induction gs with
  | nil => intro xs ρ ρ' e h; cases xs with | nil => cases e; exact h | cons _ _ => cases e
  | cons g gs ih =>
    intro xs ρ ρ' e h
    cases xs with
    | nil => cases g <;> cases e
    | cons x xs =>
      cases g with
      | inl j =>
        unfold putAllQ at e
        split at e
        · rename_i hj
          have := ih e h
          by_cases c : j = i
          · subst c
            rw [List.getElem?_set_self hj] at this
            cases this
          · rwa [List.getElem?_set_ne c] at this
        · cases e
      | inr is =>
        cases x with
        | tup ys =>
          unfold putAllQ at e
          split at e
          · rename_i e1
            exact put_own e1 (ih e h)
          · cases e
        | lst ys =>
          unfold putAllQ at e
          split at e
          · rename_i e1
            exact put_own e1 (ih e h)
          · cases e
        | _ => cases e
theorem Tg.put_own {t : Tg} {i : Nat} {x y : PV} {ρ ρ' : List SlV} (e : t.put x ρ = some ρ') (h : ρ'[i]? = some (.own y)) : ρ[i]? = some (.own y) := by
  cases t with
  | nm j =>
    simp only [Tg.put] at e
    split at e
    · rename_i hj
      cases e
      by_cases c : j = i
      · subst c
        rw [List.getElem?_set_self hj] at h
        cases h
      · rwa [List.getElem?_set_ne c] at h
    · cases e
  | tp is =>
    cases x with
    | tup xs => exact BL.put_own e h
    | lst xs => exact BL.put_own e h
    | _ => cases e
  | tq gs =>
    cases x with
    | tup xs => exact put_ownQ e h
    | lst xs => exact put_ownQ e h
    | _ => cases e
theorem wipM_own {i : Nat} {y : PV} {ρ : List SlV} : ∀ {vs : List Nat}, (wipM ρ vs)[i]? = some (.own y) → ρ[i]? = some (.own y) ∧ i ∉ vs
  | [], h => ⟨h, (fun m => by cases m)⟩
  | v :: vs, h => by
    change ((wipM ρ vs).set v .un)[i]? = _ at h
    by_cases c : v = i
    · subst c
      by_cases l : v < (wipM ρ vs).length
      · rw [List.getElem?_set_self l] at h
        cases h
      · rw [List.getElem?_eq_none (by rw [List.length_set]; omega)] at h
        cases h
    · rw [List.getElem?_set_ne c] at h
      obtain ⟨a, b⟩ := wipM_own h
      exact ⟨a, fun m => (List.mem_cons.mp m).elim (fun e => c e.symm) b⟩
theorem wipe_at {i : Nat} {σ : L2.St} : ∀ {vs : List Nat}, i ∉ vs → (wipe σ vs)[i]? = σ[i]?
  | [], _ => rfl
  | v :: vs, h => by
    show ((wipe σ vs).set v none)[i]? = _
    rw [List.getElem?_set_ne (fun e => h (by rw [e]; exact List.mem_cons_self))]
    exact wipe_at fun m => h (List.mem_cons_of_mem _ m)
theorem wipe_two (σ : L2.St) (vs : List Nat) : wipe (wipe σ vs) vs = wipe σ vs := lc_lift.wipe_wipe σ vs
section
variable {K : PySem.W.Frag} {C : Addr} {W0 W : Wd} {σ : L2.St} {ρ : List SlV} {S : List PV} {ma mb : ME} {mt mt1 : MT} {mi mi1 : MI}
/-- the slots behind a target keep their own things apart from D -/
theorem apart {t : Tg} {vs : List Nat} {x : PV} {ρ3 : List SlV} {σ' : L2.St} {D : Addr} (e : t.put x (wipM ρ vs) = some ρ3) (w : wipe σ' vs = wipe (wipe σ vs) vs) (hd : ∀ (j : Nat) (y : PV), ρ[j]? = some (.own y) → σ[j]? = some (some (.ref D)) → False) :
    ∀ (j : Nat) (y : PV), ρ3[j]? = some (.own y) → σ'[j]? = some (some (.ref D)) → False := fun j y h1 h2 => by
  obtain ⟨h3, h4⟩ := wipM_own (t.put_own e h1)
  refine hd j y h3 ?_
  rw [wipe_two] at w
  rw [← wipe_at h4, ← w, wipe_at h4]
  exact h2
theorem last_ref {D : Addr} (l : σ.length = ρ.length) : (σ ++ [some (V.ref D)])[ρ.length]? = some (some (.ref D)) := by rw [← l, List.getElem?_append_right (Nat.le_refl _), Nat.sub_self]; rfl
theorem last_own {x : PV} : (ρ ++ [SlV.own x])[ρ.length]? = some (.own x) := by rw [List.getElem?_append_right (Nat.le_refl _), Nat.sub_self]; rfl
theorem set_last {x y : PV} : (ρ ++ [SlV.own x]).set ρ.length (.own y) = ρ ++ [.own y] := by rw [List.set_append_right _ _ (Nat.le_refl _), Nat.sub_self]; rfl
/-- one more item in the list at D -/
theorem more {D : Addr} {acc : List PV} {y : PV} {u : V} (l : σ.length = ρ.length) (R : Rel K C W0 W (σ ++ [some (.ref D)]) (ρ ++ [.own (.lst acc)]) S) (r : RepW K C W u y) : ∃ us, W.H D = some (.lst us) ∧ us.length = acc.length ∧ Rel K C W0 ⟨W.F, upd W.H D (.lst (us ++ [u])), W.θ⟩ (σ ++ [some (.ref D)]) (ρ ++ [.own (.lst (acc ++ [y]))]) S := by
  obtain ⟨a', ea', o1, o2, o3, us, eh, ru⟩ := R.s ρ.length _ last_own
  rw [last_ref l] at ea'
  cases Option.some.inj (Option.some.inj ea')
  have := R.ownUpd (us := us ++ [u]) (ys := acc ++ [y]) last_own (last_ref l) (ru.app (.cons r .nil))
  rw [set_last] at this
  exact ⟨us, eh, ru.len, this⟩
theorem gro_new {W1 W2 : Wd} {D : Addr} {o : HO} (g : Gro W1 W2) (nD : W1.H D = none) : Gro W1 ⟨W2.F, upd W2.H D o, W2.θ⟩ := by
  refine ⟨g.f, g.t, fun p o e n => ?_, fun p o e => ?_, g.n⟩
  · show upd W2.H D _ p = _
    rw [upd_ne (ne_of_none e nD)]
    exact g.h p o e n
  · obtain ⟨o', e'⟩ := g.k p o e
    exact ⟨o', by show upd W2.H D _ p = _; rw [upd_ne (ne_of_none e nD)]; exact e'⟩
/-- a list of one clause, its end left open -/
theorem lc_gen {t : Tg} {vs : List Nat} {Q : VK} {xs ys S1 S' : List PV} (hv : ∀ i ∈ t.ids, i ∈ vs) (R : Rel K C W0 W σ ρ S) (e1 : mi ρ S = some (xs, S1)) (e2 : lcL t mt ma (wipM ρ vs) xs S1 = some (ys, S')) (hl : ys.length ≤ 100000)
    (fin : ∀ D W1 W2, W1.H D = none → Gro W W1 → Gro W1 W2 → Rel K C W0 W2 (σ ++ [some (.ref D)]) (ρ ++ [.own (.lst ys)]) S' → Q (.ref D) W2.H) : tLc (tMI K C mi) (t.g K) (tMT K C mt) (tM K C ma) vs σ W.H Q := by
  refine ⟨W0, W, ρ, S, xs, S1, rfl, R, e1, fun J W1 R1 g1 ok D nD => ?_⟩
  refine ⟨fun i m H => m = xs.length - i ∧ i ≤ xs.length ∧ ∃ W2 S3 acc zs, H = W2.H ∧ Gro W1 W2 ∧ Rel K C W0 W2 (σ ++ [some (.ref D)]) (ρ ++ [.own (.lst acc)]) S3 ∧ lcL t mt ma (wipM ρ vs) (xs.drop i) S3 = some (zs, S') ∧ acc ++ zs = ys, ⟨xs.length, (Nat.sub_zero _).symm, Nat.zero_le _, ?_⟩, ?_⟩
  · obtain ⟨g2, R2, o2, d2⟩ := laidO (us := []) (ys := []) R1 .nil nD
    exact ⟨_, S1, [], ys, rfl, g2, R2.snoc o2 d2, e2, rfl⟩
  rintro i m H ⟨rfl, hi, W2, S3, acc, zs, rfl, g2, R2, e3, ez⟩
  have R2' := R2.unapp R.l
  by_cases hlt : i < xs.length
  · refine .inr ⟨ok.go i W2 S3 g2.groF R2.i hlt, fun H' => ∃ W2 S3 acc zs, H' = W2.H ∧ Gro W1 W2 ∧ Rel K C W0 W2 (σ ++ [some (.ref D)]) (ρ ++ [.own (.lst acc)]) S3 ∧ lcL t mt ma (wipM ρ vs) (xs.drop (i + 1)) S3 = some (zs, S') ∧ acc ++ zs = ys, fun H' n => ⟨xs.length - (i + 1), by omega, rfl, hlt, n⟩, fun v H' y => ?_⟩
    rw [List.drop_eq_getElem_cons hlt] at e3
    obtain ⟨W3, rfl, g3, i3, r3⟩ := ok.yld i W2 S3 v H' xs[i] g2.groF R2.i (List.getElem?_eq_getElem hlt) y
    have R3 := (wip_rel R2' vs).ext g3 i3
    unfold lcL at e3
    split at e3
    · rename_i ρ3 e4
      refine t.ok R3 r3 e4 fun σ' R' w => ⟨by rw [w vs hv]; exact wipe_two σ vs, ?_⟩
      split at e3
      · rename_i S4 e5
        split at e3
        · rename_i y4 S5 e6
          split at e3
          · rename_i ys5 S6 e7
            cases e3
            refine ⟨W0, W3, ρ3, S3, true, S4, rfl, R', e5, fun W4 R4 g4 => iteT ?_⟩
            refine ⟨W0, W4, ρ3, S4, y4, S5, rfl, R4, e6, fun u W5 R5 g5 r5 => ?_⟩
            have g25 := (g3.trans g4).trans g5
            obtain ⟨us, eh, lu, R6⟩ := more R.l (R2.ext g25 R5.i) r5
            have hlen : acc.length < sizeLine := by
              rw [← ez, List.length_append] at hl
              exact Nat.lt_of_le_of_lt (Nat.le_trans (Nat.le_add_right _ _) hl) (by decide)
            exact ⟨us, eh, by rw [lu]; exact hlen, _, S5, acc ++ [y4], ys5, rfl, gro_new (g2.trans g25) nD, R6, e7, by rw [List.append_assoc]; exact ez⟩
          · cases e3
        · cases e3
      · rename_i S4 e5
        refine ⟨W0, W3, ρ3, S3, false, S4, rfl, R', e5, fun W4 R4 g4 => iteF ?_⟩
        have g24 := g3.trans g4
        exact ⟨W4, S4, acc, zs, rfl, g2.trans g24, R2.ext g24 R4.i, e3, ez⟩
      · cases e3
    · cases e3
  · have e : i = xs.length := by omega
    subst e
    rw [List.drop_length] at e3
    cases e3
    rw [List.append_nil] at ez
    subst ez
    exact .inl ⟨ok.stop W2 S' g2.groF R2.i, fin D W1 W2 nD g1 g2 R2⟩
/-- two clauses -/
def lc2L (t : Tg) (mt : MT) (t1 : Tg) (mi1 : MI) (mt1 : MT) (me : ME) (vs1 : List Nat) (ρ : List SlV) : List PV → List PV → Option (List PV × List PV)
  | [], S => some ([], S)
  | x :: xs, S => match t.put x ρ with
    | some ρ1 => match mt ρ1 S with
      | some (true, S1) => match mi1 ρ1 S1 with
        | some (xs1, S2) => match lcL t1 mt1 me (wipM ρ1 vs1) xs1 S2 with
          | some (ys, S3) => match lc2L t mt t1 mi1 mt1 me vs1 ρ xs S3 with
            | some (zs, S4) => some (ys ++ zs, S4)
            | none => none
          | none => none
        | none => none
      | some (false, S1) => lc2L t mt t1 mi1 mt1 me vs1 ρ xs S1
      | none => none
    | none => none
theorem lc2_gen {t t1 : Tg} {vs vs1 : List Nat} {Q : VK} {xs ys S1 S' : List PV} (hv : ∀ i ∈ t.ids, i ∈ vs) (hv1 : ∀ i ∈ t1.ids, i ∈ vs1) (R : Rel K C W0 W σ ρ S) (e1 : mi ρ S = some (xs, S1)) (e2 : lc2L t mt t1 mi1 mt1 ma vs1 (wipM ρ vs) xs S1 = some (ys, S')) (hl : ys.length ≤ 100000)
    (fin : ∀ D W1 W2, W1.H D = none → Gro W W1 → Gro W1 W2 → Rel K C W0 W2 (σ ++ [some (.ref D)]) (ρ ++ [.own (.lst ys)]) S' → Q (.ref D) W2.H) : tLc2 (tMI K C mi) (t.g K) (tMT K C mt) (tMI K C mi1) (t1.g K) (tMT K C mt1) (tM K C ma) vs vs1 σ W.H Q := by
  refine ⟨W0, W, ρ, S, xs, S1, rfl, R, e1, fun J W1 R1 g1 ok D nD => ?_⟩
  refine ⟨fun i m H => m = xs.length - i ∧ i ≤ xs.length ∧ ∃ W2 S3 acc zs, H = W2.H ∧ Gro W1 W2 ∧ Rel K C W0 W2 (σ ++ [some (.ref D)]) (ρ ++ [.own (.lst acc)]) S3 ∧ lc2L t mt t1 mi1 mt1 ma vs1 (wipM ρ vs) (xs.drop i) S3 = some (zs, S') ∧ acc ++ zs = ys, ⟨xs.length, (Nat.sub_zero _).symm, Nat.zero_le _, ?_⟩, ?_⟩
  · obtain ⟨g2, R2, o2, d2⟩ := laidO (us := []) (ys := []) R1 .nil nD
    exact ⟨_, S1, [], ys, rfl, g2, R2.snoc o2 d2, e2, rfl⟩
  rintro i m H ⟨rfl, hi, W2, S3, acc, zs, rfl, g2, R2, e3, ez⟩
  have R2' := R2.unapp R.l
  by_cases hlt : i < xs.length
  · refine .inr ⟨ok.go i W2 S3 g2.groF R2.i hlt, fun H' => ∃ W2 S3 acc zs, H' = W2.H ∧ Gro W1 W2 ∧ Rel K C W0 W2 (σ ++ [some (.ref D)]) (ρ ++ [.own (.lst acc)]) S3 ∧ lc2L t mt t1 mi1 mt1 ma vs1 (wipM ρ vs) (xs.drop (i + 1)) S3 = some (zs, S') ∧ acc ++ zs = ys, fun H' n => ⟨xs.length - (i + 1), by omega, rfl, hlt, n⟩, fun v H' y => ?_⟩
    rw [List.drop_eq_getElem_cons hlt] at e3
    obtain ⟨W3, rfl, g3, i3, r3⟩ := ok.yld i W2 S3 v H' xs[i] g2.groF R2.i (List.getElem?_eq_getElem hlt) y
    have R3 := (wip_rel R2' vs).ext g3 i3
    obtain ⟨o2, d2⟩ := R2.snocD R.l
    unfold lc2L at e3
    split at e3
    · rename_i ρ3 e4
      refine t.ok R3 r3 e4 fun σ' R' w => ⟨by rw [w vs hv]; exact wipe_two σ vs, ?_⟩
      have ap := apart e4 (w vs hv) d2
      split at e3
      · rename_i S4 e5
        split at e3
        · rename_i xs1 S5 e6
          split at e3
          · rename_i ys1 S6 e7
            split at e3
            · rename_i zs1 S7 e8
              cases e3
              refine ⟨W0, W3, ρ3, S3, true, S4, rfl, R', e5, fun W4 R4 g4 => iteT ?_⟩
              refine ⟨W0, W4, ρ3, S4, xs1, S5, rfl, R4, e6, fun J1 W5 R5 g5 ok1 => ?_⟩
              have g25 := (g3.trans g4).trans g5
              have g35 := g4.trans g5
              have RA := R2.ext g25 R5.i
              have RB := R5.snoc (o2.ext g25) ap
              refine ⟨fun j k H => k = xs1.length - j ∧ j ≤ xs1.length ∧ ∃ W6 S8 ac yr, H = W6.H ∧ Gro W1 W6 ∧ GroF W5 W6 ∧ Rel K C W0 W6 (σ ++ [some (.ref D)]) (ρ ++ [.own (.lst ac)]) S8 ∧ Rel K C W0 W6 (σ' ++ [some (.ref D)]) (ρ3 ++ [.own (.lst ac)]) S8 ∧ lcL t1 mt1 ma (wipM ρ3 vs1) (xs1.drop j) S8 = some (yr, S6) ∧ ac ++ yr = acc ++ ys1, ⟨xs1.length, (Nat.sub_zero _).symm, Nat.zero_le _, W5, S5, acc, ys1, rfl, g2.trans g25, GroF.refl _, RA, RB, e7, rfl⟩, ?_⟩
              rintro j k H ⟨rfl, hj, W6, S8, ac, yr, rfl, g6, gF, RA6, RB6, e9, ey⟩
              by_cases hlt1 : j < xs1.length
              · refine .inr ⟨ok1.go j W6 S8 gF RB6.i hlt1, fun H' => ∃ W6 S8 ac yr, H' = W6.H ∧ Gro W1 W6 ∧ GroF W5 W6 ∧ Rel K C W0 W6 (σ ++ [some (.ref D)]) (ρ ++ [.own (.lst ac)]) S8 ∧ Rel K C W0 W6 (σ' ++ [some (.ref D)]) (ρ3 ++ [.own (.lst ac)]) S8 ∧ lcL t1 mt1 ma (wipM ρ3 vs1) (xs1.drop (j + 1)) S8 = some (yr, S6) ∧ ac ++ yr = acc ++ ys1, fun H' n => ⟨xs1.length - (j + 1), by omega, rfl, hlt1, n⟩, fun v1 H' y1 => ?_⟩
                rw [List.drop_eq_getElem_cons hlt1] at e9
                obtain ⟨W7, rfl, g7, i7, r7⟩ := ok1.yld j W6 S8 v1 H' xs1[j] gF RB6.i (List.getElem?_eq_getElem hlt1) y1
                have R7 := (wip_rel (RB6.unapp R5.l) vs1).ext g7 i7
                unfold lcL at e9
                split at e9
                · rename_i ρ7 e10
                  refine t1.ok R7 r7 e10 fun σ7 R8 w1 => ⟨by rw [w1 vs1 hv1]; exact wipe_two σ' vs1, ?_⟩
                  split at e9
                  · rename_i S9 e11
                    split at e9
                    · rename_i y11 S10 e12
                      split at e9
                      · rename_i yr' S11 e13
                        cases e9
                        refine ⟨W0, W7, ρ7, S8, true, S9, rfl, R8, e11, fun W8 R9 g8 => iteT ?_⟩
                        refine ⟨W0, W8, ρ7, S9, y11, S10, rfl, R9, e12, fun u W9 R10 g9 r10 => ?_⟩
                        have g69 := (g7.trans g8).trans g9
                        obtain ⟨us, eh, lu, RA9⟩ := more R.l (RA6.ext g69 R10.i) r10
                        obtain ⟨us', eh', lu', RB9⟩ := more R5.l (RB6.ext g69 R10.i) r10
                        rw [eh] at eh'
                        cases HO.lst.inj (Option.some.inj eh')
                        have hlen : ac.length < sizeLine := by
                          have : (ac ++ y11 :: yr').length ≤ 100000 := by
                            rw [ey]
                            rw [← ez] at hl
                            simp only [List.length_append] at hl ⊢
                            omega
                          rw [List.length_append] at this
                          exact Nat.lt_of_le_of_lt (Nat.le_trans (Nat.le_add_right _ _) this) (by decide)
                        exact ⟨us, eh, by rw [lu]; exact hlen, _, S10, ac ++ [y11], yr', rfl, gro_new (g6.trans g69) nD, gF.trans ⟨g69.groF.f, g69.groF.t⟩, RA9, RB9, e13, by rw [List.append_assoc]; exact ey⟩
                      · cases e9
                    · cases e9
                  · rename_i S9 e11
                    refine ⟨W0, W7, ρ7, S8, false, S9, rfl, R8, e11, fun W8 R9 g8 => iteF ?_⟩
                    have g68 := g7.trans g8
                    exact ⟨W8, S9, ac, yr, rfl, g6.trans g68, gF.trans g68.groF, RA6.ext g68 R9.i, RB6.ext g68 R9.i, e9, ey⟩
                  · cases e9
                · cases e9
              · have e : j = xs1.length := by omega
                subst e
                rw [List.drop_length] at e9
                cases e9
                rw [List.append_nil] at ey
                subst ey
                exact .inl ⟨ok1.stop W6 S6 gF RB6.i, W6, S6, acc ++ ys1, zs1, rfl, g6, RA6, e8, by rw [List.append_assoc]; exact ez⟩
            · cases e3
          · cases e3
        · cases e3
      · rename_i S4 e5
        refine ⟨W0, W3, ρ3, S3, false, S4, rfl, R', e5, fun W4 R4 g4 => iteF ?_⟩
        have g24 := g3.trans g4
        exact ⟨W4, S4, acc, zs, rfl, g2.trans g24, R2.ext g24 R4.i, e3, ez⟩
      · cases e3
    · cases e3
  · have e : i = xs.length := by omega
    subst e
    rw [List.drop_length] at e3
    cases e3
    rw [List.append_nil] at ez
    subst ez
    exact .inl ⟨ok.stop W2 S' g2.groF R2.i, fin D W1 W2 nD g1 g2 R2⟩
/-- the list at D never changes any more -/
theorem froze {D : Addr} {W1 W2 : Wd} {ys S' : List PV} {Q : VK} (l : σ.length = ρ.length) (nD : W1.H D = none) (g1 : Gro W W1) (g2 : Gro W1 W2) (R2 : Rel K C W0 W2 (σ ++ [some (.ref D)]) (ρ ++ [.own (.lst ys)]) S') (q : ∀ v W', Rel K C W0 W' σ ρ S' → Gro W W' → RepW K C W' v (.lst ys) → Q v W'.H) : Q (.ref D) W2.H := by
  obtain ⟨W3, eH3, g3, R3, gF⟩ := R2.frz last_own
  rw [List.set_append_right _ _ (Nat.le_refl _), Nat.sub_self] at R3
  obtain ⟨u, eu, ru⟩ := R3.s ρ.length (.val (.lst ys)) (by rw [List.getElem?_append_right (Nat.le_refl _), Nat.sub_self]; rfl)
  rw [last_ref l] at eu
  cases Option.some.inj (Option.some.inj eu)
  have gg : Gro W1 W3 := gF W1 g2 fun a ea => by
    rw [last_ref l] at ea
    cases Option.some.inj (Option.some.inj ea)
    exact nD
  rw [← eH3]
  exact q _ W3 (R3.unapp l) (g1.trans gg) ru
def mLc2 (t : Tg) (mi : MI) (mt : MT) (t1 : Tg) (mi1 : MI) (mt1 : MT) (me : ME) (vs vs1 : List Nat) : ME := fun ρ S => match mi ρ S with
  | some (xs, S1) => match lc2L t mt t1 mi1 mt1 me vs1 (wipM ρ vs) xs S1 with
    | some (ys, S2) => if ys.length ≤ 100000 then some (.lst ys, S2) else none
    | none => none
  | none => none
theorem lc2_lift {t t1 : Tg} {vs vs1 : List Nat} {H : Hp} {Q : VK} (hv : ∀ i ∈ t.ids, i ∈ vs) (hv1 : ∀ i ∈ t1.ids, i ∈ vs1) (h : tM K C (mLc2 t mi mt t1 mi1 mt1 ma vs vs1) σ H Q) : tLc2 (tMI K C mi) (t.g K) (tMT K C mt) (tMI K C mi1) (t1.g K) (tMT K C mt1) (tM K C ma) vs vs1 σ H Q := by
  obtain ⟨W0, W, ρ, S, z, S', eH, R, em, q⟩ := h
  subst eH
  unfold mLc2 at em
  split at em
  · rename_i xs S1 e1
    split at em
    · rename_i ys S2 e2
      split at em
      · rename_i hl
        cases em
        exact lc2_gen hv hv1 R e1 e2 hl fun D W1 W2 nD g1 g2 R2 => froze R.l nD g1 g2 R2 q
      · cases em
    · cases em
  · cases em
end
section
variable {X : Cx} {C : Addr} {e : Expr} {st : Stmt} {ma : ME} {mt mt1 : MT} {mi mi1 : MI}
theorem xlc2 {t t1 : Tg} {vs vs1 : List Nat} (hv : ∀ i ∈ t.ids, i ∈ vs) (hv1 : ∀ i ∈ t1.ids, i ∈ vs1) (h : PE X e (tLc2 (tMI X.K C mi) (t.g X.K) (tMT X.K C mt) (tMI X.K C mi1) (t1.g X.K) (tMT X.K C mt1) (tM X.K C ma) vs vs1)) : PE X e (tM X.K C (mLc2 t mi mt t1 mi1 mt1 ma vs vs1)) := PE.weak h fun σ H Q q => lc2_lift hv hv1 q
theorem xsetLc2 {t t1 : Tg} {vs vs1 : List Nat} {i : Nat} (hv : ∀ i ∈ t.ids, i ∈ vs) (hv1 : ∀ i ∈ t1.ids, i ∈ vs1) (h : PS X st (tAsg (tLc2 (tMI X.K C mi) (t.g X.K) (tMT X.K C mt) (tMI X.K C mi1) (t1.g X.K) (tMT X.K C mt1) (tM X.K C ma) vs vs1) (gName i))) : PS X st (tMS X.K C (mAsg (.nm i) (mLc2 t mi mt t1 mi1 mt1 ma vs vs1))) := PS.weak h fun D σ H ⟨W0, W, ρ, S, out, eH, R, em, p⟩ => by
  subst eH
  unfold mAsg at em
  split at em
  · rename_i x S1 e1
    split at em
    · rename_i ρ1 e2
      cases em
      refine lc2_lift hv hv1 ⟨W0, W, ρ, S, x, S1, rfl, R, e1, fun v W1 R1 g1 r1 => ?_⟩
      refine Tg.ok (.nm i) R1 r1 e2 fun σ' R' w => p σ' W1 g1.groF R'
    · cases em
  · cases em
/-- name = [..], the list an own one -/
def mNewLc (i : Nat) (t : Tg) (mi : MI) (mt : MT) (me : ME) (vs : List Nat) : MS := fun ρ S => match mi ρ S with
  | some (xs, S1) => match lcL t mt me (wipM ρ vs) xs S1 with
    | some (ys, S2) => if ys.length ≤ 100000 ∧ i < ρ.length then some (.nx (ρ.set i (.own (.lst ys))) S2) else none
    | none => none
  | none => none
theorem xnewLc {t : Tg} {vs : List Nat} {i : Nat} (hv : ∀ i ∈ t.ids, i ∈ vs) (h : PS X st (tAsg (tLc (tMI X.K C mi) (t.g X.K) (tMT X.K C mt) (tM X.K C ma) vs) (gName i))) : PS X st (tMS X.K C (mNewLc i t mi mt ma vs)) := PS.weak h fun D σ H ⟨W0, W, ρ, S, out, eH, R, em, p⟩ => by
  subst eH
  unfold mNewLc at em
  split at em
  · rename_i xs S1 e1
    split at em
    · rename_i ys S2 e2
      split at em
      · rename_i hl
        cases em
        refine lc_gen hv R e1 e2 hl.1 fun D W1 W2 nD g1 g2 R2 => ?_
        obtain ⟨o2, d2⟩ := R2.snocD R.l
        exact p _ W2 (g1.trans g2).groF ((R2.unapp R.l).seto i o2 hl.2 d2)
      · cases em
    · cases em
  · cases em
end
section
variable {ρ : List SlV} {S : List PV} {ma mb : ME} {mt mt1 : MT} {mi mi1 : MI}
@[simp] theorem e_lc2 (t t1 : Tg) (vs vs1 : List Nat) : mLc2 t mi mt t1 mi1 mt1 ma vs vs1 ρ S = match mi ρ S with
  | some (xs, S1) => (match lc2L t mt t1 mi1 mt1 ma vs1 (wipM ρ vs) xs S1 with
    | some (ys, S2) => if ys.length ≤ 100000 then some (.lst ys, S2) else none
    | none => none)
  | none => none := rfl
@[simp] theorem e_newLc (i : Nat) (t : Tg) (vs : List Nat) : mNewLc i t mi mt ma vs ρ S = match mi ρ S with
  | some (xs, S1) => (match lcL t mt ma (wipM ρ vs) xs S1 with
    | some (ys, S2) => if ys.length ≤ 100000 ∧ i < ρ.length then some (.nx (ρ.set i (.own (.lst ys))) S2) else none
    | none => none)
  | none => none := rfl
@[simp] theorem e_newA (i : Nat) : mNewA i ma mb ρ S = match ma ρ S with
  | some (.lst xs, S1) => (match mb ρ S1 with
    | some (.lst ys, S2) => if xs.length + ys.length ≤ 100000 ∧ i < ρ.length then some (.nx (ρ.set i (.own (.lst (xs ++ ys)))) S2) else none
    | _ => none)
  | _ => none := rfl
@[simp] theorem e_chain (p r : Int → Int → Bool) (mc : ME) : mChain p r ma mb mc ρ S = match ma ρ S with
  | some (.int i, S1) => (match mb ρ S1 with
    | some (.int j, S2) => if p i j then (match mc ρ S2 with
      | some (.int k, S3) => some (.bl (r j k), S3)
      | _ => none) else some (.bl false, S2)
    | _ => none)
  | _ => none := rfl
@[simp] theorem f_sorted (ns : List Int) : fSorted S [.lst (ns.map .int)] = some (.lst ((srtL ns).map .int)) := by
  have : ∀ ns : List Int, intsP (ns.map .int) = some ns := fun ns => by
    induction ns with
    | nil => rfl
    | cons n ns ih => simp [intsP, ih]
  simp [fSorted, this]
end
end BL

namespace L2
open PySem PySem.Spec PyProof.Rows HT
/-! a tuple from its end to its front -/
section
variable {prog : Program} {w : World} {A : Around} {E : Value → Shared → Prop} {s : Shared}
theorem back_places (n : Nat) : Builtin.Slice.sliceAdjust none none (-1) (n : Int) = ((n : Int) - 1, -1) ∧ Builtin.Slice.slicePlaces ((n : Int) - 1) (-1) (-1) = n := by
  constructor
  · rfl
  · unfold Builtin.Slice.slicePlaces
    simp
    omega
theorem applied_back {sl : Addr} {vk : Value} {n : Nat} {Q : Int × Int × Nat → Shared → Prop} (hs : s.heap.IsSliceOf sl .none .none vk) (pk : IsPart vk (some (-1)))
    (h : Q ((n : Int) - 1, -1, n) s) : wpAny (model prog w) A (Builtin.Slice.sliceApplied (.ref sl) (pure (n : Int))) Q E s := by
  obtain ⟨so, h1, h2, h3⟩ := id hs
  unfold Builtin.Slice.sliceApplied Builtin.Slice.sliceFields
  refine wpAny_bind (wpAny_bind (wpAny_field h1 h3 (x := .none) rfl (wpAny_bind (wpAny_field h1 h3 (x := .none) rfl (wpAny_bind (wpAny_field h1 h3 (x := vk) rfl (wpAny_pure ?_)))))))
  refine wpAny_bind (slicePart_ pk ?_)
  show wpAny _ _ (if ((-1 : Int) == 0) = true then _ else _) _ _ s
  rw [if_neg (by decide)]
  refine wpAny_bind (slicePart_none (wpAny_bind (slicePart_none (wpAny_bind (wpAny_pure ?_)))))
  show wpAny _ _ (match Builtin.Slice.sliceAdjust none none (-1) (n : Int) with | (l, u) => pure (l, (-1 : Int), Builtin.Slice.slicePlaces l u (-1))) _ _ s
  rw [(back_places n).1]
  show wpAny _ _ (pure ((n : Int) - 1, (-1 : Int), Builtin.Slice.slicePlaces ((n : Int) - 1) (-1) (-1))) _ _ s
  rw [(back_places n).2]
  exact wpAny_pure h
theorem pick_back (vs : List Value) : ((List.range vs.length).filterMap fun (m : Nat) => vs.toArray[((vs.length : Int) - 1 + (m : Int) * (-1)).toNat]?) = vs.reverse := by
  have key : ∀ k, k ≤ vs.length → ((List.range k).filterMap fun (m : Nat) => vs.toArray[((vs.length : Int) - 1 + (m : Int) * (-1)).toNat]?) = vs.reverse.take k := by
    intro k
    induction k with
    | zero => intro _; simp
    | succ k ih =>
      intro hk
      have e : (((vs.length : Int) - 1 + (k : Int) * (-1)).toNat) = vs.length - 1 - k := by omega
      have hr : vs.reverse[k]? = some vs[vs.length - 1 - k] := by
        rw [List.getElem?_reverse (by omega)]
        exact List.getElem?_eq_getElem (by omega)
      rw [List.range_succ, List.filterMap_append, ih (by omega), List.take_add_one, hr]
      congr 1
      simp only [List.filterMap_cons, List.filterMap_nil, e]
      have : vs.toArray[vs.length - 1 - k]? = some vs[vs.length - 1 - k] := by
        rw [List.getElem?_toArray]
        exact List.getElem?_eq_getElem (by omega)
      rw [this]
      rfl
  rw [key _ (Nat.le_refl _)]
  exact List.take_of_length_le (by simp)
theorem tuple_back {t sl : Addr} {vs : List Value} {vk : Value} {Q : Value → Shared → Prop} (tt : IsTup s.heap t vs.toArray) (hs : s.heap.IsSliceOf sl .none .none vk) (pk : IsPart vk (some (-1))) (hz : vs.length ≤ sizeLine)
    (h : Q (.ref s.heap.objs.size) { s with heap := s.heap.push { cls := .type "tuple", data := .seq vs.reverse.toArray } }) : wpAny (model prog w) A (getItem (.ref t) (.ref sl)) Q E s := by
  have room : sizeOk (.seq vs.reverse.toArray) := by
    show vs.reverse.toArray.size ≤ sizeLine
    rw [List.size_toArray, List.length_reverse]
    exact hz
  obtain ⟨so, h1, h2, h3⟩ := id hs
  have kind : s.TypeIs (.ref sl) "slice" := ⟨so, h1, h2⟩
  have no : ¬ ((((vs.length : Int) - 1) == 0 && (-1 : Int) == 1 && vs.length == vs.toArray.size) = true) := by simp
  unfold getItem
  try with_reducible refine wpAny_holding ?_
  first | refine wpAny_bind (wpAny_pure ?_) | skip
  refine wpAny_bind (wpAny_sequenceKey tt.typeIs (by decide) ?_)
  refine wpAny_bind (wpAny_callSpecial?_slot (name := Str.ofString "__getitem__") tt.typeIs PyProof.Rows.slot_tuple_getitem (wpAny_call_entry PyProof.Rows.slot_tuple_getitem tt.typeIs entry_tuple_getitem ?_ (args_tuple_getitem _ _)))
  show wpAny _ _ (Builtin.Tuple.tupleItemsOf (.ref t) >>= _) _ _ s
  refine wpAny_bind (tupleItemsOf_ tt (wpAny_bind (wpAny_typeOf kind ?_)))
  rw [if_pos (by decide)]
  have sz : vs.toArray.size = vs.length := List.size_toArray
  rw [sz]
  refine wpAny_bind (applied_back hs pk ?_)
  show wpAny _ _ (if (((vs.length : Int) - 1) == 0 && (-1 : Int) == 1 && vs.length == vs.toArray.size) = true then _ else _) _ _ s
  rw [if_neg no, pick_back]
  first
    | exact wpAny_bind (m := Builtin.Tuple.tupleExact _) (wpAny_newObj_type (wpAny_pure ⟨_, rfl, wpAny_pure h⟩) room)
    | exact wpAny_bind (m := Builtin.Tuple.tupleExact _) (wpAny_newObj_type (wpAny_bind (wpAny_pure (wpAny_pure ⟨_, rfl, wpAny_pure h⟩))) room)
    | exact wpAny_bind (wpAny_bind (m := Builtin.Tuple.tupleExact _) (wpAny_newObj_type (wpAny_pure (wpAny_pure ⟨_, rfl, wpAny_pure h⟩)) room))
    | exact wpAny_bind (wpAny_bind (m := Builtin.Tuple.tupleExact _) (wpAny_newObj_type (wpAny_pure ⟨_, rfl, wpAny_pure h⟩) room))
end
end L2

namespace L2
open PySem PySem.Spec PyProof.Rows
section
variable {X : Cx}
/-- t[::-1], a tuple or a list -/
def tRevT (K : PySem.W.Frag) (te : TE) : TE := fun σ H Q => te σ H fun x H1 => ∃ a xs, x = .ref a ∧ SqT K H1 a xs ∧ ∀ p, H1 p = none → Q (.ref p) (upd H1 p (.tup xs.reverse))
theorem pe_revT {e : Expr} {te : TE} {k : Nat} {p1 p2 p3 pos : Pos} (he : PE X e te) : PE X (.Subscript e (.Slice none none (some (.UnaryOp .USub (.Constant (.int 1) k p1) p2)) p3) pos) (tRevT X.K te) := by
  refine ⟨fun pins s σ H Q I h => ?_⟩
  refine Subscript_ (thn (he.run pins s σ H _ I h) fun v s1 ⟨x, H1, I1, r1, a, xs, ex, hx, q⟩ => ?_)
  subst ex
  cases r1
  have mk : PO X (some (.UnaryOp .USub (.Constant (.int 1) k p1) p2)) (tPart (tUn (rU fun i => .int (-i)) (tC (.int 1)))) := po_some (pe_un un_neg pe_int)
  refine wpAny_Slice (thn (po_none.run pins s1 σ H1 (fun o K => o = none ∧ K = H1) I1 ⟨rfl, rfl⟩) fun vl s2 ⟨l, H2, I2, pl, el, e2⟩ => ?_)
  subst el
  subst e2
  refine thn (po_none.run pins s2 σ H2 (fun o K => o = none ∧ K = H2) I2 ⟨rfl, rfl⟩) fun vu s3 ⟨u, H3, I3, pu, eu, e3⟩ => ?_
  subst eu
  subst e3
  refine thn (mk.run pins s3 σ H3 (fun o K => o = some (-1) ∧ K = H3) I3 ⟨1, rfl, -1, rfl, rfl, rfl⟩) fun vk s4 ⟨o, H4, I4, pk, eo, e4⟩ => ?_
  subst eo
  subst e4
  cases pl
  cases pu
  have I5 : Inv X pins σ H4 { s4 with heap := s4.heap.push { cls := .type "slice", data := .fields #[.none, .none, vk] } } := I4.kept (t' := s4.toks) fun b ob z => Heap.get?_push_of_some _ z
  obtain ⟨its, r, ht, hz⟩ := I5.tuple hx
  have hlen := r.length
  show wpAny (model X.prog X.w) X.A (subscriptTail e (.Slice none none (some (.UnaryOp .USub (.Constant (.int 1) k p1) p2)) p3) (.ref a) (.ref s4.heap.objs.size)) (EP X pins σ Q) X.xe _
  refine tail_any (ops := [.ref a, .ref s4.heap.objs.size]) ht.typeIs (PyProof.Rows.slot_tuple_getitem.lookup) ?_ (by with_unfolding_all rfl)
  refine tuple_back (vs := its) ht (Heap.IsSliceOf.new _ .none .none vk) pk (by omega) ?_
  refine ⟨.ref _, _, I5.laid (t' := s4.toks) (o := .tup xs.reverse) (fun b ob z => Heap.get?_push_of_some _ z) (Nat.le_refl _) ?_, rfl, q _ (I5.hok.fresh (Nat.le_refl _))⟩
  exact ⟨by rw [List.length_reverse]; exact hz, its.reverse, r.reverse, ⟨_, Heap.get?_push_size _ rfl, rfl, _, rfl⟩⟩
end
end L2
namespace BL
open PySem PySem.Spec PyProof.Rows L2
theorem PE.or {X : Cx} {e : Expr} {t t' : TE} (h : PE X e t) (h' : PE X e t') : PE X e (fun σ H Q => t σ H Q ∨ t' σ H Q) := ⟨fun pins s σ H Q I q => q.elim (h.run pins s σ H Q I) (h'.run pins s σ H Q I)⟩
def fRevQ (_ : List PV) : PV → Option PV
  | .lst xs => some (.lst xs.reverse)
  | .tup xs => some (.tup xs.reverse)
  | _ => none
section
variable {X : Cx} {C : Addr} {e : Expr} {ma : ME}
theorem xrevQ (h : PE X e (fun σ H Q => tRevL X.K (tM X.K C ma) σ H Q ∨ tRevT X.K (tM X.K C ma) σ H Q)) : PE X e (tM X.K C (mUn fRevQ ma)) := PE.weak h fun σ H Q ⟨W0, W, ρ, S, z, S', eH, R, em, q⟩ => by
  subst eH
  obtain ⟨x, e1, e2⟩ := mUn_inv em
  unfold fRevQ at e2
  split at e2
  · cases e2
    refine .inl ⟨W0, W, ρ, S, _, S', rfl, R, e1, fun v W1 R1 g1 r1 => ?_⟩
    cases r1 with
    | lst h a =>
      refine ⟨_, _, rfl, R1.i.s.seq (SqL.of h), fun p np => ?_⟩
      obtain ⟨g2, i2⟩ := laid (.lst _) R1.i np
      exact q _ _ (R1.ext g2 i2) (g1.trans g2) (.lst upd_same (a.rev.ext g2))
  · cases e2
    refine .inr ⟨W0, W, ρ, S, _, S', rfl, R, e1, fun v W1 R1 g1 r1 => ?_⟩
    cases r1 with
    | tup h a =>
      refine ⟨_, _, rfl, R1.i.s.seT h, fun p np => ?_⟩
      obtain ⟨g2, i2⟩ := laid (.tup _) R1.i np
      exact q _ _ (R1.ext g2 i2) (g1.trans g2) (.tup (SqT.of upd_same) (a.rev.ext g2))
  · cases e2
end
@[simp] theorem f_revL (S xs : List PV) : fRevQ S (.lst xs) = some (.lst xs.reverse) := rfl
@[simp] theorem f_revT (S xs : List PV) : fRevQ S (.tup xs) = some (.tup xs.reverse) := rfl
/-- a def that is called too deep: no promise -/
theorem okNone {P : Program} {w : World} {K : PySem.W.Frag} {mg : Str → Option Value} {base : Heap} {C : Addr} {f : Addr} {fd : FuncData} {ps : List Str} {k : Nat} : FnOk P w K mg base CX0 k f fd ps (spM K C (fun _ _ => none)) :=
  ⟨(fun _ _ _ _ h => by obtain ⟨_, _, _, _, _, _, _, _, e, _⟩ := h; cases e), (fun _ _ _ _ _ _ _ _ _ _ _ _ _ h => by obtain ⟨_, _, _, _, _, _, _, _, e, _⟩ := h; cases e)⟩
end BL

namespace BL
open PySem PySem.Spec PyProof.Rows L2
open C8 (Cal Mak pe_c pe_mk)
def m_law_boxCB (cc : Int) : MS := (mSeq (mAsg (.nm 2) (mIfE (mTru (mOp fLt (mVar 1) (mFn fLen (mCons (mVar 0) mNil)))) (mOp fIx (mVar 0) (mVar 1)) (mC (.int 0))))
  (mRet (mNewM (mCons (mOp fMulQ (mFn fAbs (mCons (mVar 2) mNil)) (mFn fIntQ (mCons (mOp fGe (mFn fAbs (mCons (mVar 2) mNil)) (mOp fPow (mC (.int 10)) (mC (.int 18)))) mNil))) (mCons (mOp fAdd (mOp fAdd (mOp fMod (mFn fIntQ (mCons (mVar 2) mNil)) (mC (.int 2305843009213693951))) (mOp fMulQ (mC (.int 39373)) (mVar 1))) (mC (.int cc))) (mCons (mC (.int 0)) mNil))))))
def m_law_boxC (cc : Int) : List PV → List PV → Option (PV × List PV) := mDef 2 3 (m_law_boxCB cc)
def m_law_takeB : MS := (mSeq (mIf (mTru (mOp fGt (mOp fIx (mVar 0) (mC (.int 0))) (mC (.int 0)))) (mSeq (mAsg (.nm 2) (mOp fMod (mFn fIntQ (mCons (mOp fIx (mVar 0) (mC (.int 0))) mNil)) (mVar 1)))
  (mSeq (mPutM (mVar 0) (mC (.int 0)) (mOp fDiv (mOp fIx (mVar 0) (mC (.int 0))) (mVar 1)))
  (mRet (mVar 2)))) mSkip)
  (mSeq (mPutM (mVar 0) (mC (.int 2)) (mOp fAdd (mOp fIx (mVar 0) (mC (.int 2))) (mC (.int 1))))
  (mSeq (mAsg (.nm 3) (mOp fMod (mFn fIntQ (mCons (mOp fMulQ (mOp fAdd (mOp fIx (mVar 0) (mC (.int 1))) (mOp fMulQ (mC (.int 48271)) (mOp fIx (mVar 0) (mC (.int 2))))) (mOp fAdd (mC (.int 39373)) (mOp fIx (mVar 0) (mC (.int 2))))) mNil)) (mC (.int 2147483647))))
  (mSeq (mAsg (.nm 4) (mOp fAdd (mOp fMod (mFn fIntQ (mCons (mVar 3) mNil)) (mC (.int 40009))) (mC (.int 7))))
  (mSeq (mAsg (.nm 5) (mOp fMod (mFn fIntQ (mCons (mOp fMulQ (mOp fAdd (mOp fAdd (mVar 3) (mOp fIx (mVar 0) (mC (.int 2)))) (mOp fDiv (mOp fIx (mVar 0) (mC (.int 1))) (mC (.int 1000003)))) (mVar 4)) mNil)) (mC (.int 2147483629))))
  (mRet (mOp fMod (mFn fIntQ (mCons (mOp fDiv (mOp fMod (mFn fIntQ (mCons (mOp fAdd (mOp fMulQ (mVar 5) (mC (.int 48271))) (mVar 3)) mNil)) (mC (.int 2147483587))) (mC (.int 64))) mNil)) (mVar 1))))))))
def m_law_take : List PV → List PV → Option (PV × List PV) := mDef 2 6 m_law_takeB
def m_law_ofB : MS := (mRet (mOp fIx (mVar 1) (mCall m_law_take (mCons (mVar 0) (mCons (mFn fLen (mCons (mVar 1) mNil)) mNil)))))
def m_law_of : List PV → List PV → Option (PV × List PV) := mDef 2 2 m_law_ofB
def m_heldB : MS := (mSeq (mIf (mAndT (mTru (mOp fNot (mVar 1) (mC .non))) (mTru (mOp fLt (mVar 0) (mVar 1)))) (mRet (mVar 1)) mSkip)
  (mSeq (mIf (mAndT (mTru (mOp fNot (mVar 2) (mC .non))) (mTru (mOp fGt (mVar 0) (mVar 2)))) (mRet (mVar 2)) mSkip)
  (mRet (mVar 0))))
def m_held : List PV → List PV → Option (PV × List PV) := mDef 3 3 m_heldB
def m_ledB : MS := (mSeq (mIf (mTru (mOp fIs (mSel (fun s _ _ => s) (mVar 0)) (mC .non))) (mRet (mSel (fun _ f _ => f) (mVar 0))) mSkip)
  (mRet (mCall m_held (mCons (mOp fAdd (mVar 1) (mSel (fun s _ _ => s) (mVar 0))) (mCons (mSel (fun _ f _ => f) (mVar 0)) (mCons (mSel (fun _ _ c => c) (mVar 0)) mNil))))))
def m_led : List PV → List PV → Option (PV × List PV) := mDef 2 2 m_ledB
def m_callB : MS := (mRet (mCall m_led (mCons (mVar 0) (mCons (mVar 1) mNil))))
def m_call : List PV → List PV → Option (PV × List PV) := mDef 2 2 m_callB
def m_rshB : MS := (mSeq (mIf (mNotT (mTru (mIsW (mVar 1)))) mDead mSkip)
  (mSeq (mAsg (.nm 2) (mOrV (mOp fIs (mSel (fun s _ _ => s) (mVar 0)) (mC .non)) (mOp fIs (mSel (fun s _ _ => s) (mVar 1)) (mC .non))))
  (mSeq (mAsg (.nm 3) (mIfE (mTru (mVar 2)) (mC .non) (mOp fAdd (mSel (fun s _ _ => s) (mVar 0)) (mSel (fun s _ _ => s) (mVar 1)))))
  (mSeq (mAsg (.nm 4) (mIfE (mTru (mOp fIs (mSel (fun _ f _ => f) (mVar 0)) (mC .non))) (mSel (fun _ f _ => f) (mVar 1)) (mCall m_led (mCons (mVar 1) (mCons (mSel (fun _ f _ => f) (mVar 0)) mNil)))))
  (mSeq (mAsg (.nm 5) (mIfE (mTru (mOp fIs (mSel (fun _ _ c => c) (mVar 0)) (mC .non))) (mSel (fun _ _ c => c) (mVar 1)) (mCall m_led (mCons (mVar 1) (mCons (mSel (fun _ _ c => c) (mVar 0)) mNil)))))
  (mRet (mFn fWay (mCons (mVar 3) (mCons (mVar 4) (mCons (mVar 5) mNil))))))))))
def m_rsh : List PV → List PV → Option (PV × List PV) := mDef 2 6 m_rshB
def m_mulB : MS := (mSeq (mIf (mNotT (mTru (mIsT "int" (mVar 1)))) mDead mSkip)
  (mSeq (mIf (mTru (mOp fEq (mVar 1) (mC (.int 0)))) (mRet (mFn fWay (mCons (mC (.int 0)) mNil))) mSkip)
  (mSeq (mIf (mTru (mOp fIs (mSel (fun s _ _ => s) (mVar 0)) (mC .non))) (mRet (mFn fWay (mCons (mC .non) (mCons (mSel (fun _ f _ => f) (mVar 0)) (mCons (mSel (fun _ _ c => c) (mVar 0)) mNil))))) mSkip)
  (mSeq (mAsg (.nm 2) (mOp fMulQ (mSel (fun s _ _ => s) (mVar 0)) (mOp fSub (mVar 1) (mC (.int 1)))))
  (mSeq (mAsg (.nm 3) (mIfE (mTru (mOp fIs (mSel (fun _ f _ => f) (mVar 0)) (mC .non))) (mC .non) (mCall m_held (mCons (mOp fAdd (mSel (fun _ f _ => f) (mVar 0)) (mVar 2)) (mCons (mSel (fun _ f _ => f) (mVar 0)) (mCons (mSel (fun _ _ c => c) (mVar 0)) mNil))))))
  (mSeq (mAsg (.nm 4) (mIfE (mTru (mOp fIs (mSel (fun _ _ c => c) (mVar 0)) (mC .non))) (mC .non) (mCall m_held (mCons (mOp fAdd (mSel (fun _ _ c => c) (mVar 0)) (mVar 2)) (mCons (mSel (fun _ f _ => f) (mVar 0)) (mCons (mSel (fun _ _ c => c) (mVar 0)) mNil))))))
  (mRet (mFn fWay (mCons (mOp fAdd (mSel (fun s _ _ => s) (mVar 0)) (mVar 2)) (mCons (mVar 3) (mCons (mVar 4) mNil)))))))))))
def m_mul : List PV → List PV → Option (PV × List PV) := mDef 2 5 m_mulB
def m_eqB : MS := (mRet (mAndV (mIsW (mVar 1)) (mAndV (mOp fEq (mSel (fun s _ _ => s) (mVar 0)) (mSel (fun s _ _ => s) (mVar 1))) (mAndV (mOp fEq (mSel (fun _ f _ => f) (mVar 0)) (mSel (fun _ f _ => f) (mVar 1))) (mOp fEq (mSel (fun _ _ c => c) (mVar 0)) (mSel (fun _ _ c => c) (mVar 1)))))))
def m_eq : List PV → List PV → Option (PV × List PV) := mDef 2 2 m_eqB
def m_is_numberB : MS := (mRet (mAndV (mIsT "int" (mVar 0)) (mNotV (mIsT "bool" (mVar 0)))))
def m_is_number : List PV → List PV → Option (PV × List PV) := mDef 1 1 m_is_numberB
def m_level_behindB : MS := (mSeq (mAsg (.tp [2, 3]) (mVar 0))
  (mSeq (mIf (mTru (mOp fEq (mVar 2) (mC (.str "add")))) (mRet (mOp fAdd (mVar 1) (mVar 3))) mSkip)
  (mSeq (mIf (mTru (mOp fEq (mVar 2) (mC (.str "floor")))) (mRet (mFn fMax2 (mCons (mVar 1) (mCons (mVar 3) mNil)))) mSkip)
  (mRet (mFn fMin2 (mCons (mVar 1) (mCons (mVar 3) mNil)))))))
def m_level_behind : List PV → List PV → Option (PV × List PV) := mDef 2 4 m_level_behindB
def m_end_ofF1 : MS := (mAsg (.nm 2) (mCall m_level_behind (mCons (mVar 3) (mCons (mVar 2) mNil))))
def m_end_ofB : MS := (mSeq (mAsg (.nm 2) (mVar 1))
  (mSeq (mFor (.nm 3) (mSeqI (mVar 0)) m_end_ofF1)
  (mRet (mVar 2))))
def m_end_of : List PV → List PV → Option (PV × List PV) := mDef 2 4 m_end_ofB
def m_event_wayB : MS := (mSeq (mAsg (.tp [1, 2]) (mVar 0))
  (mSeq (mIf (mTru (mOp fEq (mVar 1) (mC (.str "add")))) (mRet (mFn fWay (mCons (mVar 2) mNil))) mSkip)
  (mSeq (mIf (mTru (mOp fEq (mVar 1) (mC (.str "floor")))) (mRet (mFn fWay (mCons (mC (.int 0)) (mCons (mVar 2) mNil)))) mSkip)
  (mRet (mFn fWay (mCons (mC (.int 0)) (mCons (mC .non) (mCons (mVar 2) mNil))))))))
def m_event_way : List PV → List PV → Option (PV × List PV) := mDef 1 3 m_event_wayB
def m_way_ofF1 : MS := (mAsg (.nm 1) (mBin m_rsh (mVar 1) (mCall m_event_way (mCons (mVar 2) mNil))))
def m_way_ofB : MS := (mSeq (mAsg (.nm 1) (mFn fWay (mCons (mC (.int 0)) mNil)))
  (mSeq (mFor (.nm 2) (mSeqI (mVar 0)) m_way_ofF1)
  (mRet (mVar 1))))
def m_way_of : List PV → List PV → Option (PV × List PV) := mDef 1 3 m_way_ofB
def m_telling_startsB : MS := (mSeq (mAsg (.nm 2) (mLc (.nm 5) (mSeqI (mTup (mCons (mVar 0) (mCons (mVar 1) mNil)))) (mTru (mOp fNot (mSel (fun s _ _ => s) (mVar 5)) (mC .non))) (mSel (fun s _ _ => s) (mVar 5)) [5]))
  (mSeq (mAsg (.nm 3) (mLc2 (.nm 5) (mSeqI (mTup (mCons (mVar 0) (mCons (mVar 1) mNil)))) mYes (.nm 6) (mSeqI (mTup (mCons (mSel (fun _ f _ => f) (mVar 5)) (mCons (mSel (fun _ _ c => c) (mVar 5)) mNil)))) (mTru (mOp fNot (mVar 6) (mC .non))) (mVar 6) [5, 6] [6]))
  (mSeq (mAsg (.nm 4) (mUn fSset (mOp fAdd (mLst (mCons (mC (.int 0)) mNil)) (mLc2 (.nm 6) (mSeqI (mVar 3)) mYes (.nm 7) (mSeqI (mVar 2)) mYes (mOp fSub (mVar 6) (mVar 7)) [6, 7] [7]))))
  (mRet (mLst (mCons (mOp fSub (mOp fIx (mVar 4) (mC (.int 0))) (mC (.int 1))) (mStar (mVar 4) (mCons (mOp fAdd (mOp fIx (mVar 4) (mUn fNeg (mC (.int 1)))) (mC (.int 1))) mNil))))))))
def m_telling_starts : List PV → List PV → Option (PV × List PV) := mDef 2 8 m_telling_startsB
def m_first_partingF1 : MS := (mIf (mTru (mOp fNe (mCalled m_call (mVar 0) (mCons (mVar 3) mNil)) (mCalled m_call (mVar 1) (mCons (mVar 3) mNil)))) (mRet (mVar 3)) mSkip)
def m_first_partingB : MS := (mSeq (mFor (.nm 3) (mSeqI (mVar 2)) m_first_partingF1)
  (mRet (mC .non)))
def m_first_parting : List PV → List PV → Option (PV × List PV) := mDef 3 4 m_first_partingB
def m_parting_startB : MS := (mSeq (mPar 2 3 (mCons (mCall m_way_of (mCons (mVar 0) mNil)) (mCons (mCall m_way_of (mCons (mVar 1) mNil)) mNil)))
  (mRet (mCall m_first_parting (mCons (mVar 2) (mCons (mVar 3) (mCons (mCall m_telling_starts (mCons (mVar 2) (mCons (mVar 3) mNil))) mNil))))))
def m_parting_start : List PV → List PV → Option (PV × List PV) := mDef 2 4 m_parting_startB
def m_alikeB : MS := (mRet (mBin m_eq (mCall m_way_of (mCons (mVar 0) mNil)) (mCall m_way_of (mCons (mVar 1) mNil))))
def m_alike : List PV → List PV → Option (PV × List PV) := mDef 2 2 m_alikeB
def m_is_partingB : MS := (mRet (mAndV (mCall m_is_number (mCons (mVar 2) mNil)) (mOp fNe (mCall m_end_of (mCons (mVar 0) (mCons (mVar 2) mNil))) (mCall m_end_of (mCons (mVar 1) (mCons (mVar 2) mNil))))))
def m_is_parting : List PV → List PV → Option (PV × List PV) := mDef 3 3 m_is_partingB
def m_law_listsB (rc : List PV → List PV → Option (PV × List PV)) : MS := (mRet (mIfE (mTru (mIsT2 "list" "tuple" (mVar 0))) (mLc (.nm 1) (mSeqI (mVar 0)) mYes (mCall rc (mCons (mVar 1) mNil)) [1]) (mVar 0)))
def m_law_lists : Nat → List PV → List PV → Option (PV × List PV)
  | 0 => fun _ _ => none
  | n + 1 => mDef 1 2 (m_law_listsB (m_law_lists n))
def m_law_doneB : MS := (mSeq (mIf (mTru (mOp fEq (mOp fIx (mVar 1) (mC (.int 0))) (mC (.str "add")))) (mRet (mOp fAdd (mVar 0) (mOp fIx (mVar 1) (mC (.int 1))))) mSkip)
  (mRet (mIfE (mTru (mOp fEq (mOp fIx (mVar 1) (mC (.int 0))) (mC (.str "floor")))) (mFn fMax2 (mCons (mVar 0) (mCons (mOp fIx (mVar 1) (mC (.int 1))) mNil))) (mFn fMin2 (mCons (mVar 0) (mCons (mOp fIx (mVar 1) (mC (.int 1))) mNil))))))
def m_law_done : List PV → List PV → Option (PV × List PV) := mDef 2 2 m_law_doneB
def m_law_endedF1 : MS := (mAsg (.nm 1) (mCall m_law_done (mCons (mVar 1) (mCons (mVar 2) mNil))))
def m_law_endedB : MS := (mSeq (mFor (.nm 2) (mSeqI (mVar 0)) m_law_endedF1)
  (mRet (mVar 1)))
def m_law_ended : List PV → List PV → Option (PV × List PV) := mDef 2 3 m_law_endedB
def m_law_sizeB : MS := (mRet (mCall m_law_of (mCons (mVar 0) (mCons (mLst (mCons (mC (.int 1)) (mCons (mC (.int 1)) (mCons (mC (.int 1)) (mCons (mC (.int 7)) (mCons (mOp fPow (mC (.int 10)) (mC (.int 28))) mNil)))))) mNil))))
def m_law_size : List PV → List PV → Option (PV × List PV) := mDef 1 1 m_law_sizeB
def m_law_rungF1 : MS := (mSeq (mAsg (.nm 5) (mCall m_law_of (mCons (mVar 0) (mCons (mLst (mCons (mC (.str "add")) (mCons (mC (.str "add")) (mCons (mC (.str "floor")) (mCons (mC (.str "cap")) mNil))))) mNil))))
  (mApp 3 (mTup (mCons (mVar 5) (mCons (mOp fMulQ (mOp fSub (mCall m_law_take (mCons (mVar 0) (mCons (mC (.int 13)) mNil))) (mC (.int 6))) (mVar 2)) mNil)))))
def m_law_rungB : MS := (mSeq (mNewO 3 mNil)
  (mSeq (mFor (.nm 4) (mRng1 (mCall m_law_take (mCons (mVar 0) (mCons (mOp fAdd (mVar 1) (mC (.int 1))) mNil)))) m_law_rungF1)
  (mFrz 3 (mRet (mFn fTuple (mCons (mVar 3) mNil))))))
def m_law_rung : List PV → List PV → Option (PV × List PV) := mDef 3 6 m_law_rungB
def m_law_nearB : MS := (mSeq (mPar 3 4 (mCons (mCall m_law_take (mCons (mVar 0) (mCons (mOp fAdd (mFn fLen (mCons (mVar 1) mNil)) (mC (.int 1))) mNil))) (mCons (mCall m_law_take (mCons (mVar 0) (mCons (mC (.int 6)) mNil))) mNil)))
  (mSeq (mPar 5 6 (mCons (mSl (mVar 1) mP0 (mP1 (mVar 3))) (mCons (mSl (mVar 1) (mP1 (mVar 3)) mP0) mNil)))
  (mSeq (mIf (mOrT (mTru (mOp fEq (mVar 4) (mC (.int 0)))) (mTru (mOp fEq (mVar 6) (mTup mNil)))) (mRet (mOp fAdd (mOp fAdd (mVar 5) (mTup (mCons (mTup (mCons (mC (.str "add")) (mCons (mC (.int 0)) mNil))) mNil))) (mVar 6))) mSkip)
  (mSeq (mIf (mTru (mOp fEq (mVar 4) (mC (.int 1)))) (mRet (mOp fAdd (mOp fAdd (mVar 5) (mSl (mVar 6) mP0 (mP1 (mC (.int 1))))) (mVar 6))) mSkip)
  (mSeq (mIf (mTru (mOp fEq (mVar 4) (mC (.int 2)))) (mRet (mOp fAdd (mVar 5) (mSl (mVar 6) (mP1 (mC (.int 1))) mP0))) mSkip)
  (mSeq (mIf (mTru (mOp fEq (mVar 4) (mC (.int 3)))) (mRet (mOp fAdd (mOp fAdd (mOp fAdd (mVar 5) (mSl (mVar 6) (mP1 (mC (.int 1))) (mP1 (mC (.int 2))))) (mSl (mVar 6) mP0 (mP1 (mC (.int 1))))) (mSl (mVar 6) (mP1 (mC (.int 2))) mP0))) mSkip)
  (mSeq (mIf (mTru (mOp fEq (mVar 4) (mC (.int 4)))) (mSeq (mAsg (.tp [7, 8]) (mOp fIx (mVar 6) (mC (.int 0))))
  (mRet (mOp fAdd (mOp fAdd (mVar 5) (mTup (mCons (mTup (mCons (mVar 7) (mCons (mOp fAdd (mVar 8) (mOp fMulQ (mCall m_law_of (mCons (mVar 0) (mCons (mLst (mCons (mUn fNeg (mC (.int 1))) (mCons (mC (.int 1)) mNil))) mNil))) (mVar 2))) mNil))) mNil))) (mSl (mVar 6) (mP1 (mC (.int 1))) mP0)))) mSkip)
  (mRet (mVar 1)))))))))
def m_law_near : List PV → List PV → Option (PV × List PV) := mDef 3 9 m_law_nearB
def m_law_parts_themB : MS := (mRet (mAndV (mIsT "int" (mVar 2)) (mAndV (mNotV (mIsT "bool" (mVar 2))) (mOp fNe (mCall m_law_ended (mCons (mVar 0) (mCons (mVar 2) mNil))) (mCall m_law_ended (mCons (mVar 1) (mCons (mVar 2) mNil)))))))
def m_law_parts_them : List PV → List PV → Option (PV × List PV) := mDef 3 3 m_law_parts_themB
def m_law_startsF1 : MS := (mApp 1 (mOp fAdd (mOp fMulQ (mVar 2) (mVar 0)) (mVar 3)))
def m_law_startsF2 : MS := (mFor (.nm 3) (mSeqI (mIfE (mTru (mOp fGt (mVar 0) (mC (.int 1)))) (mTup (mCons (mUn fNeg (mC (.int 1))) (mCons (mC (.int 0)) (mCons (mC (.int 1)) mNil)))) (mTup (mCons (mC (.int 0)) mNil)))) m_law_startsF1)
def m_law_startsB : MS := (mSeq (mNewO 1 mNil)
  (mSeq (mFor (.nm 2) (mRng2 (mUn fNeg (mC (.int 90))) (mC (.int 91))) m_law_startsF2)
  (mFrz 1 (mRet (mVar 1)))))
def m_law_starts : List PV → List PV → Option (PV × List PV) := mDef 1 4 m_law_startsB
end BL

namespace BL
open PySem PySem.Spec PyProof.Rows L2
/-- the scope of a comprehension, the value of an assignment -/
def scopeOf : Expr → PySem.Scope
  | .ListComp _ _ sc _ => sc
  | _ => defScope (.Pass ⟨0, 0, 0, 0⟩)
def eltOf : Expr → Expr
  | .ListComp e _ _ _ => e
  | e => e
def argOf : Expr → Expr
  | .Call _ (a :: _) _ _ => a
  | e => e
def stVal : Stmt → Expr
  | .Assign _ e _ => e
  | _ => .Constant .none 0 ⟨0, 0, 0, 0⟩
/-! a module's constant tuple; x in it; lists that a def makes and hands over -/
section
variable {X : Cx} {C : Addr} {pos : Pos} {st : Stmt} {rest : List Stmt} {e : Expr} {ms mr : MS} {ma : ME} {mes : MA}
theorem xgtup {x : Str} {a : Addr} {vs : List V} {xs : List PV} (hg : Gl X x) (hm : X.mg x = some (.ref a)) (hk : ∀ F : Hp, SqT X.K F a vs) (hr : ∀ (F : Hp) (θ : List Addr), RepAll X.K C F θ vs xs) (hd : (x == ("__debug__" : Str)) = false := by decide) : PE X (.Name x pos) (tM X.K C (mC (.tup xs))) := PE.weak (pe_glob (v := .ref a) hg hm rfl hd) fun σ H Q ⟨W0, W, ρ, S, z, S', eH, R, em, q⟩ => by
  subst eH
  cases em
  exact q _ W R (Gro.refl _) (.tup (hk W.F) (hr _ _))
def rInDT (K : PySem.W.Frag) : R2 := fun x y H Q => ∃ d ds, Dp K H x d ∧ Dp K H y (.tuple ds) ∧ SeqAt.shaped d = true ∧ SeqAt.shaped (.tuple ds) = true ∧ Q (.bl (ds.any fun z => PyData.eqv z d)) H
theorem room_in_shapedT {A : Around} {ds : List PyData} {d : PyData} (h : SeqAt.shaped d = true) (hu : A.units + 65 < cLine) : A.units + 1 + min (PyData.depthAll ds) d.depth < cLine := by
  have h1 := SeqAt.depth_of_shaped h
  have h2 : min (PyData.depthAll ds) d.depth ≤ d.depth := Nat.min_le_right _ _
  omega
theorem op_inDT (hu : X.A.units + 65 < cLine) : OpR X (compareOp .In) (rInDT X.K) := by
  intro pins s σ H x y v u Q I rx ry h
  obtain ⟨d, ds, hd, he, sd, se, q⟩ := h
  obtain ⟨as, r1⟩ := Dp.reads I d x v hd rx
  obtain ⟨bs, r2⟩ := Dp.reads I (.tuple ds) y u he ry
  exact SeqAt.in_tuple_reads r2 r1 (SeqAt.canLay_of_shaped se) (SeqAt.canLay_of_shaped sd) (room_in_shapedT sd hu) ⟨.bl _, H, I, rfl, q⟩
def fInDT (_ : List PV) (x y : PV) : Option PV := match x.toD, (match y with | .tup ys => PV.toD.toDs ys | _ => none) with
  | some d, some ds => if SeqAt.shaped d && SeqAt.shaped (.tuple ds) then some (.bl (ds.any fun z => PyData.eqv z d)) else none
  | _, _ => none
theorem l_inDT {K : PySem.W.Frag} : LR2 K C (rInDT K) fInDT := fun W S v u x y z Q i rx ry e q => by
  unfold fInDT at e
  split at e
  · rename_i d ds h1 h2
    split at e
    · rename_i h
      cases e
      rw [Bool.and_eq_true] at h
      cases ry with
      | tup hF ra => exact ⟨d, ds, Dp.monoS i.s (rx.dp h1), Dp.monoS i.s (.tup hF (RepAll.dp ra h2)), h.1, h.2, q _ W (Gro.refl _) i (.bl _)⟩
      | _ => cases h2
    · cases e
  · cases e
def fMulT (_ : List PV) : PV → PV → Option PV
  | .tup xs, .int k => if xs.length ≠ 0 ∧ 2 ≤ k ∧ k ≤ 1000 ∧ xs.length ≤ 1000 then some (.tup (List.replicate k.toNat xs).flatten) else none
  | _, _ => none
theorem l_mulT {K : PySem.W.Frag} : LR2 K C (rRepT K) fMulT := fun W S v u x y z Q i rx ry e q => by
  unfold fMulT at e
  split at e
  · rename_i xs k
    split at e
    · rename_i h
      cases e
      cases rx with
      | tup hF ra =>
      cases ry
      refine ⟨_, k, _, rfl, rfl, i.s.seT hF, fun z => h.1 (by rw [← ra.len, z]; rfl), h.2.1, h.2.2.1, by rw [ra.len]; exact h.2.2.2, fun p np => ?_⟩
      obtain ⟨g, i2⟩ := laid (.tup (List.replicate k.toNat _).flatten) i np
      exact q _ _ g i2 (.tup (SqT.of upd_same) ((rep_flat ra _).ext g))
    · cases e
  · cases e
/-! -/
/-- what a block does that ends with an own list handed over -/
def tMSO (K : PySem.W.Frag) (C : Addr) (m : MS) : TS := fun D σ H => ∃ W0 W ρ S x S', H = W.H ∧ Rel K C W0 W σ ρ S ∧ m ρ S = some (.rt x S') ∧ ∀ a W', Gro W0 W' → Inv1 K C W' S' → OwnAt K C W0 W' a x → D.rt (.ref a) W'.H
def spO (K : PySem.W.Frag) (C : Addr) (m : List PV → List PV → Option (PV × List PV)) : Sp := fun vs H Q _ => ∃ W S xs x S', H = W.H ∧ Inv1 K C W S ∧ RepAll K C W.F W.θ vs xs ∧ m xs S = some (x, S') ∧ ∀ a W', Gro W W' → Inv1 K C W' S' → OwnAt K C W W' a x → Q (.ref a) W'.H
def mSeqN (ms mr : MS) : MS := fun ρ S => match ms ρ S with
  | some (.nx ρ1 S1) => mr ρ1 S1
  | _ => none
theorem xsconsO (h : PS X st (tMS X.K C ms)) (hr : PSs X rest (tMSO X.K C mr)) : PSs X (st :: rest) (tMSO X.K C (mSeqN ms mr)) := PSs.weak (pss_cons h hr) fun D σ H ⟨W0, W, ρ, S, x, S', eH, R, em, p⟩ => by
  subst eH
  unfold mSeqN at em
  split at em
  · rename_i ρ1 S1 e1
    exact ⟨W0, W, ρ, S, _, rfl, R, e1, fun σ' W' g R' => ⟨W0, W', ρ1, S1, x, S', rfl, R', em, p⟩⟩
  · cases em
def mRetO (i : Nat) : MS := fun ρ S => match ρ[i]? with
  | some (.own x) => some (.rt x S)
  | _ => none
theorem xretO {i : Nat} (h : PE X e (tVar i)) : PSs X [.Return (some e) pos] (tMSO X.K C (mRetO i)) := PSs.weak (pss_one (ps_ret h)) fun D σ H ⟨W0, W, ρ, S, x, S', eH, R, em, p⟩ => by
  subst eH
  unfold mRetO at em
  split at em
  · rename_i y hy
    cases em
    obtain ⟨a, ea, o⟩ := R.s i _ hy
    exact ⟨_, ea, p a W R.e R.i o⟩
  · cases em
def mDefO (np nN : Nat) (m : MS) : List PV → List PV → Option (PV × List PV) := fun xs S => if xs.length = np then match m (xs.map .val ++ List.replicate (nN - np) .un) S with
    | some (.rt x S') => some (x, S')
    | _ => none
  else none
theorem start_rel {K : PySem.W.Frag} {N ps : List Str} {vs : List V} {xs : List PV} {W : Wd} {S : List PV} (i : Inv1 K C W S) (r : RepAll K C W.F W.θ vs xs) (hl : xs.length = ps.length) : Rel K C W W (L2.start N vs) (xs.map .val ++ List.replicate (N.length - ps.length) .un) S := by
  refine ⟨Gro.refl _, i, ?_, fun j sl hj => ?_, fun j k y z a h1 _ _ _ => ?_⟩
  · unfold L2.start
    rw [List.length_append, List.length_append, List.length_map, List.length_map, List.length_replicate, List.length_replicate, r.len, hl]
  · by_cases c : j < xs.length
    · rw [List.getElem?_append_left (by rw [List.length_map]; exact c), List.getElem?_map, List.getElem?_eq_getElem c] at hj
      cases hj
      obtain ⟨v, ev, rv⟩ := r.at (List.getElem?_eq_getElem c)
      refine ⟨v, ?_, rv⟩
      unfold L2.start
      rw [List.getElem?_append_left (by rw [List.length_map, r.len]; exact c), List.getElem?_map, ev]
      rfl
    · rw [List.getElem?_append_right (by rw [List.length_map]; omega), List.getElem?_replicate] at hj
      split at hj
      · cases hj
        trivial
      · cases hj
  · by_cases c : j < xs.length
    · rw [List.getElem?_append_left (by rw [List.length_map]; exact c), List.getElem?_map, List.getElem?_eq_getElem c] at h1
      cases h1
    · rw [List.getElem?_append_right (by rw [List.length_map]; omega), List.getElem?_replicate] at h1
      split at h1
      · cases h1
      · cases h1
theorem okMO {P : Program} {w : World} {K : PySem.W.Frag} {mg : Str → Option Value} {base : Heap} {C : Addr} {x qual : Str} {st : Stmt} {f : Addr} {fd : FuncData} {N ps : List Str} {k : Nat} {m : MS} (F : Fun K x qual st f fd) (Sc : FnScope N ps (defScope st))
    (hb : ∀ (cdv : Value) (A : Around) (outer : List Env) (s : Shared) (H : Hp) (E : XK), Room k (A.deeper (envOfC qual (defScope st) s.heap.objs.size f cdv)) → PSs (cxOf CX0 P w K mg base N qual (defScope st) f cdv A outer s H E).nox (defBody st) (tMSO K C m)) :
    FnOk P w K mg base CX0 (k + 1) f fd ps (spO K C (mDefO ps.length N.length m)) := by
  refine F.ok Sc (fun vs H Q E h => ?_) (fun cdv A outer s H vs Q E hr h => ?_)
  · obtain ⟨W, S, xs, x, S', eH, i, r, em, q⟩ := h
    unfold mDefO at em
    split at em
    · rename_i hl
      rw [r.len, hl]
    · cases em
  · refine ⟨_, hb cdv A outer s H E hr, ?_⟩
    obtain ⟨W, S, xs, x, S', eH, i, r, em, q⟩ := h
    subst eH
    unfold mDefO at em
    split at em
    · rename_i hl
      have hl2 : vs.length = ps.length := by rw [r.len, hl]
      have R := start_rel (N := N) i r hl
      split at em
      · rename_i y S1 e1
        cases em
        exact ⟨W, W, _, S, _, _, rfl, R, e1, fun a W' g i o => q a W' g i o⟩
      · cases em
    · cases em
theorem spO_of {K : PySem.W.Frag} {C : Addr} {m : List PV → List PV → Option (PV × List PV)} {vs : List V} {H : Hp} {Q : VK} {E : XK} (h : spM K C m vs H Q E) : spO K C m vs H Q E := by
  obtain ⟨W, S, xs, x, S', eH, i, r, em, q⟩ := h
  refine ⟨W, S, xs, x, S', eH, i, r, em, fun a W' g i' o => ?_⟩
  have R : Rel K C W W' [some (.ref a)] [.own x] S' := by
    refine ⟨g, i', rfl, fun j sl hj => ?_, fun j k y z b h1 h2 _ _ => ?_⟩
    · cases j with
      | zero => cases hj; exact ⟨a, rfl, o⟩
      | succ j => cases hj
    · cases j with
      | zero => cases k with
        | zero => rfl
        | succ k => cases h2
      | succ j => cases h1
  obtain ⟨W2, e2, g2, R2, _⟩ := R.frz (i := 0) rfl
  obtain ⟨u, eu, ru⟩ := R2.s 0 _ rfl
  cases eu
  rw [← e2]
  exact q _ W2 R2.e R2.i ru
def mNewC (i : Nat) (f : List PV → List PV → Option (PV × List PV)) (ma : MA) : MS := fun ρ S => match ma ρ S with
  | some (xs, S1) => match f xs S1 with
    | some (y, S2) => if i < ρ.length then some (.nx (ρ.set i (.own y)) S2) else none
    | none => none
  | none => none
theorem xnewC {i : Nat} {f : List PV → List PV → Option (PV × List PV)} {E : XK} (h : PS X st (tAsg (tCall (spO X.K C f) [] E (tMA X.K C mes)) (gName i))) : PS X st (tMS X.K C (mNewC i f mes)) := PS.weak h fun D σ H ⟨W0, W, ρ, S, out, eH, R, em, p⟩ => by
  subst eH
  unfold mNewC at em
  split at em
  · rename_i xs S1 e1
    split at em
    · rename_i y S2 e2
      split at em
      · rename_i hl
        cases em
        refine ⟨W0, W, ρ, S, xs, S1, rfl, R, e1, fun vs W1 R1 g1 r1 => ⟨W1, S1, xs, y, S2, rfl, R1.i, by rw [List.append_nil]; exact r1, e2, fun a W2 g2 i2 o => ?_⟩⟩
        have R2 := R1.ext g2 i2
        obtain ⟨o1, o2, o3, o4⟩ := o
        refine p _ W2 (g1.trans g2).groF (R2.seto i ⟨?_, o2, o3, o4⟩ hl fun j z hj hs => ?_)
        · cases c : W0.H a with
          | none => rfl
          | some ob =>
            obtain ⟨o', e'⟩ := R1.e.k a ob c
            rw [o1] at e'
            cases e'
        · obtain ⟨b, eb, p1, p2, p3, p4⟩ := R1.s j _ hj
          rw [hs] at eb
          cases eb
          obtain ⟨ob, eo⟩ := p4.laid
          rw [o1] at eo
          cases eo
      · cases em
    · cases em
  · cases em
/-- an own list lent to a list that is compared and thrown away -/
def flatL : PV → Bool
  | .lst xs => xs.all PV.flat
  | _ => false
def mLoan (i j : Nat) (mb : ME) (mt : MT) : MS := fun ρ S => match ρ[i]? with
  | some (.own x) => match mb (ρ.set i (.val x)) S with
    | some (y, S1) => match mt ((ρ.set i (.val x)).set j (.val y)) S1 with
      | some (false, S2) => if S2.all flatL = true ∧ j < ρ.length ∧ j ≠ i then some (.nx (ρ.set j .un) S2) else none
      | _ => none
    | none => none
  | _ => none
theorem flat_all {K : PySem.W.Frag} {F F' : Hp} {θ : List Addr} : ∀ {vs : List V} {xs : List PV}, xs.all PV.flat = true → RepAll K C F θ vs xs → RepAll K C F' θ vs xs
  | _, _, _, .nil => .nil
  | _, x :: xs, h, .cons r a => by
    rw [List.all_cons, Bool.and_eq_true] at h
    refine .cons ?_ (flat_all h.2 a)
    have h1 := h.1
    cases r with
    | non => exact .non
    | bl b => exact .bl b
    | int i => exact .int i
    | str y => exact .str y
    | exc _ _ _ _ _ _ => cases h1
    | lst _ _ => cases h1
    | tup _ _ => cases h1
    | way _ => cases h1
    | mref _ => cases h1
theorem xloan {stB stC : Stmt} {i j : Nat} {mt : MT} {tb : TS} (hB : PS X stB (tAsg (tM X.K C ma) (gName j))) (hC : PS X stC (tIfS (tMT X.K C mt) tb tNext)) (hr : PSs X rest (tMS X.K C mr)) : PSs X (stB :: stC :: rest) (tMS X.K C (mSeq (mLoan i j ma mt) mr)) := PSs.weak (pss_cons hB (pss_cons hC hr)) fun D σ H ⟨W0, W, ρ, S, out, eH, R, em, p⟩ => by
  subst eH
  unfold mSeq at em
  unfold mLoan at em
  cases hx : ρ[i]? with
  | none => rw [hx] at em; cases em; 
  | some sl =>
  rw [hx] at em
  cases sl with
  | un => cases em
  | val _ => cases em
  | own x =>
  simp only at em
  obtain ⟨W', eH', gF, R', _⟩ := R.frz hx
  cases h1 : ma (ρ.set i (.val x)) S with
  | none => rw [h1] at em; cases em
  | some y1 =>
  obtain ⟨y, S1⟩ := y1
  rw [h1] at em
  simp only at em
  cases h2 : mt ((ρ.set i (.val x)).set j (.val y)) S1 with
  | none => rw [h2] at em; cases em
  | some b2 =>
  obtain ⟨b, S2⟩ := b2
  rw [h2] at em
  cases b with
  | true => cases em
  | false =>
  simp only at em
  split at em
  · rename_i e0
    split at e0
    · rename_i hc
      cases e0
      refine ⟨W0, W', _, S, y, S1, eH'.symm, R', h1, fun v W1 R1 g1 r1 => ?_⟩
      refine ⟨W0, W1, _, S1, false, S2, rfl, R1.setv j r1 (by rw [List.length_set]; exact hc.2.1), h2, fun W2 R2 g2 => ?_⟩
      have g := g1.trans g2
      have eθ : W'.θ = W.θ := by
        obtain ⟨r, er⟩ := gF.t
        have l1 := R.i.len
        have l2 := R'.i.len
        rw [er, List.length_append] at l2
        have : r = [] := List.length_eq_zero_iff.mp (by omega)
        rw [er, this, List.append_nil]
      have sF : Same W.F W2.F := gF.f.trans g.f
      have G : Gro W ⟨W.F, W2.H, W2.θ⟩ := by
        refine ⟨Same.refl _, ?_, fun q o e ni => ?_, fun q o e => ?_, fun q o e z => z⟩
        · obtain ⟨r, er, fr⟩ := g.t
          refine ⟨r, by rw [← eθ]; exact er, fun q hq => ?_⟩
          rw [← eH']; exact fr q hq
        · exact g.h q o (by rw [eH']; exact e) (by rw [eθ]; exact ni)
        · exact g.k q o (by rw [eH']; exact e)
      have I : Inv1 X.K C ⟨W.F, W2.H, W2.θ⟩ S2 := by
        refine ⟨sF.trans R2.i.s, R2.i.len, R2.i.nd, fun n a z e1 e2 => ?_⟩
        obtain ⟨m1, m2⟩ := R2.i.m n a z e1 e2
        refine ⟨?_, ?_⟩
        · cases c : W.F a with
          | none => rfl
          | some o =>
            have := sF _ _ c
            rw [m1] at this
            cases this
        · have fl := List.all_eq_true.mp hc.1 z (List.mem_of_getElem? e2)
          cases z with
          | lst xs =>
            obtain ⟨vs, h3, h4⟩ := m2
            exact ⟨vs, h3, flat_all fl h4⟩
          | _ => exact m2.elim
      exact ⟨W0, ⟨W.F, W2.H, W2.θ⟩, _, S2, out, rfl, (R.ext G I).setu j (some v), em, p.gro G.groF⟩
    · cases e0
  · rename_i o hn
    exfalso
    split at em
    · rename_i hc; exact hn _ _ (if_pos hc)
    · cases em
theorem e_defO {np nN : Nat} {m : MS} {xs : List PV} {S : List PV} : mDefO np nN m xs S = if xs.length = np then (match m (xs.map .val ++ List.replicate (nN - np) .un) S with | some (.rt x S') => some (x, S') | _ => none) else none := rfl
end
end BL

/-! enumerate over a tuple, tuple(range(n)) -/
namespace BL
open PySem
set_option maxHeartbeats 1000000 in
theorem enumT_new {v : Value} {o : Obj} {H : Heap → Prop} (B : Begins v o H) :
    Meets (Builtin.«enumerate.__new__» ⟨[.type "enumerate", v], []⟩) (fun _ R s => H s.heap ∧
      R (.ok (.ret (.ref (s.heap.push o).objs.size))) { s with heap := (s.heap.push o).push { cls := .type "enumerate", data := .fields #[.none, .bool false, .ref s.heap.objs.size, rawInt 0, .none, .none] } }) :=
  .of_wp fun prog w A R s h => by
    obtain ⟨hp, g, d, tk, os⟩ := s; obtain ⟨h1, h⟩ := h
    have hsub := sub_enumerate
    have q1 : ∀ {A' : Around} {E : Value → Shared → Prop} {Q : Value → Shared → Prop}, Q (.ref hp.objs.size) ⟨hp.push o, g, d, tk, os⟩ → wpAny (model prog w) A' (pyIter v) Q E ⟨hp, g, d, tk, os⟩ :=
      fun q => B.iter prog w _ _ ⟨hp, g, d, tk, os⟩ _ h1 q
    wp_walk using q1
    refine wpAny_stack_any fun st => wpAny_pure ?_
    split
    · rename_i c _ _ _ _ _
      cases (c == Value.type "enumerate")
      · wp_walk using q1
        exact ⟨_, rfl, h⟩
      · wp_walk using q1
        exact ⟨_, rfl, h⟩
    · wp_walk using q1
      exact ⟨_, rfl, h⟩
theorem enumT_begins {prog : Program} {w : World} {A : Around} {E : Value → Shared → Prop} {s : Shared} {v : Value} {o : Obj} {H : Heap → Prop} {Q : Value → Shared → Prop} (B : Begins v o H) (h1 : H s.heap)
    (h : ∀ h', IsEnum h' (s.heap.objs.size + 1) s.heap.objs.size 0 .none → h'.get? s.heap.objs.size = some o → h'.objs.size = s.heap.objs.size + 2 →
      (∀ b o, s.heap.get? b = some o → h'.get? b = some o) → Q (.ref (s.heap.objs.size + 1)) { s with heap := h' }) :
    wpAny (model prog w) A (call (.type "enumerate") [v]) Q E s := by
  refine callType_new F.called_enumerate (by decide) (F.typeCall_enumerate_1 _) (F.newCall_enumerate_1 _) (fun obj => F.args_object_init_2 obj _) F.entry_enumerate_new
    (enumT_new B) ⟨h1, ?_⟩
  have hz : (s.heap.push o).objs.size = s.heap.objs.size + 1 := Heap.size_push ..
  show _ ∧ _
  rw [hz]
  have he : IsEnum ((s.heap.push o).push { cls := .type "enumerate", data := .fields #[.none, .bool false, .ref s.heap.objs.size, rawInt 0, .none, .none] }) (s.heap.objs.size + 1) s.heap.objs.size 0 .none := by
    have := Heap.get?_push_size (s.heap.push o) (o := { cls := .type "enumerate", data := .fields #[.none, .bool false, .ref s.heap.objs.size, rawInt 0, .none, .none] }) rfl
    rw [hz] at this; exact this
  refine ⟨⟨_, he, rfl⟩, h _ he (Heap.get?_push_of_some _ (Heap.get?_push_size _ B.free)) (by rw [Heap.size_push, hz]) fun b o x => Heap.get?_push_of_some _ (Heap.get?_push_of_some _ x)⟩
end BL
namespace BL
open PySem PySem.Spec PyProof.Rows L2
/-- the tuple at a, each item in a new pair -/
def IteT (K : PySem.W.Frag) (a : Addr) : It :=
  ⟨fun i H => ∃ (xs : List V) (x : V), SqT K H a xs ∧ xs[i]? = some x, fun i H v H' => ∃ T x, v = .ref T ∧ H T = none ∧ H' = upd H T (.tup [.int (i : Nat), x]) ∧ ∀ xs, SqT K H a xs → xs[i]? = some x, fun i H => ∃ xs : List V, SqT K H a xs ∧ xs.length ≤ i⟩
theorem turn_enumT {P : Program} {w : World} {K : PySem.W.Frag} {elts : List Expr} {kk : Nat} {tpos : Pos} (a e it : Addr) :
    Turn P w K (.Tuple elts kk tpos) (IteT K a) [e, it] e (fun i h => (∃ old, IsEnum h e it ((i : Nat) : Int) old) ∧ h.IsTupleIter it a i ∧ e ≠ it) where
  mem := by simp
  obj := fun i h st b hb => by
    obtain ⟨⟨old, he⟩, ⟨o, ho, hc, hd⟩, _⟩ := st
    have e' : b = e ∨ b = it := by simpa using hb
    rcases e' with z | z
    · rw [z]; exact ⟨_, he, fun v q => nomatch q⟩
    · rw [z]; exact ⟨o, ho, fun v q => by rw [hd] at q; cases q⟩
  keep := fun i h h' st k => let ⟨⟨old, he⟩, hi, hne⟩ := st; ⟨⟨old, k e (by simp) _ he⟩, hi.at fun o q => k it (by simp) o q, hne⟩
  item := by
    intro X hP hw hK hc i pins s σ H E I hf st hg
    subst hP hw hK
    obtain ⟨⟨old, he⟩, hit, hne⟩ := st
    obtain ⟨xs, x, hq, hx⟩ := hg
    obtain ⟨its, rv, p, hz⟩ := I.tuple hq
    obtain ⟨u, hu, ru⟩ := rv.get hx
    have hel : e < s.heap.objs.size := Heap.lt_size he
    have hil : it < s.heap.objs.size := by obtain ⟨_, q, _⟩ := hit; exact Heap.lt_size q
    have hlt : i < its.toArray.size := by
      have := (List.getElem?_eq_some_iff.mp hu).1
      simpa using this
    have hai : a ≠ it := fun z => by
      obtain ⟨o1, q1, c1, _⟩ := p
      obtain ⟨o2, q2, c2, _⟩ := hit
      rw [z] at q1
      rw [q1] at q2
      cases q2
      rw [c1] at c2
      exact absurd c2 (by decide)
    have hae : a ≠ e := fun z => by
      obtain ⟨o1, q1, c1, _⟩ := p
      rw [z] at q1
      have q2 : s.heap.get? e = some _ := he
      rw [q1] at q2
      cases q2
      exact absurd (show Value.type "enumerate" = Value.type "tuple" from c1) (by decide)
    have hd : X.A.in1.handled = none := I.ok.hd hc
    refine wpAny_pyNext_enum_itemD (Draws.tuple hd it a hai its.toArray) he ⟨hit, p⟩ hlt hne (by simp [hne, Ne.symm hae]) fun x' h' tk hx' ho hit' hT hsz hk => ?_
    have hu' : its.toArray[i]? = some u := by simpa using hu
    rw [hu'] at hx'
    cases Option.some.inj hx'
    refine ⟨_, rfl, wpAny_letOwnedTupleGo_enum (s := { s with heap := h', toks := tk + 1 }) ho fun h'' he' sb => ?_⟩
    have hT2 : h''.get? s.heap.objs.size = some { cls := .type "tuple", data := .seq #[.int i tk, u] } := (sb.2 _ (Nat.ne_of_gt hel)).trans hT
    have new : ObjOk X.prog X.w (upd H s.heap.objs.size (.tup [.int (i : Nat), x])) h'' s.heap.objs.size (.tup [.int (i : Nat), x]) :=
      ⟨by show 2 ≤ sizeLine; decide, [.int i tk, u], .cons ⟨_, rfl⟩ (.cons ru .nil), ⟨_, hT2, rfl, _, rfl⟩⟩
    have I1 : Inv X pins σ (upd H s.heap.objs.size (.tup [.int (i : Nat), x])) { s with heap := h'', toks := tk + 1 } :=
      I.turnedNew (ch := [e, it]) (fun b ob hb q => (sb.2 b (fun z => hb (by simp [z]))).trans (hk b ob (fun z => hb (by simp [z])) (fun z => hb (by simp [z])) q)) hf (Nat.le_refl _) new
    refine ⟨.ref s.heap.objs.size, _, I1, rfl, ⟨_, x, rfl, I.hok.fresh (Nat.le_refl _), rfl, fun ys hy => by rw [I.tuple_inj hy hq]; exact hx⟩, ⟨⟨u, ?_⟩, hit'.1.at fun o q => (sb.2 it (Ne.symm hne)).trans q, hne⟩, fun b hb => ?_⟩
    · have e1 : ((i + 1 : Nat) : Int) = (i : Int) + 1 := by omega
      rw [e1]; exact he'
    · have hb' : b < s.heap.objs.size := by
        have e' : b = e ∨ b = it := by simpa using hb
        rcases e' with z | z
        · rw [z]; exact hel
        · rw [z]; exact hil
      rw [upd_ne (Nat.ne_of_lt hb')]
      exact (hf b hb).1
  done := by
    intro X hP hw hK hc i pins s σ H E I hf st hg
    subst hP hw hK
    obtain ⟨⟨old, he⟩, hit, hne⟩ := st
    obtain ⟨xs, hq, hx⟩ := hg
    obtain ⟨its, rv, p, hz⟩ := I.tuple hq
    obtain ⟨f0, f1, f2, f3, f4, f5⟩ := hf it (by simp)
    have hl := rv.length
    have hT : s.TypeIs (.ref e) "enumerate" := ⟨_, he, rfl⟩
    unfold pyNext
    refine wpAny_bind (wpAny_attempt (wpAny_callSpecial?_slot (name := Str.ofString "__next__") hT F.slot_enumerate_next
      (wpAny_call_entry F.slot_enumerate_next hT F.entry_enumerate_next ?_ (F.args_enumerate_next_1 _))))
    show wpAny _ _ (field (.ref e) 2 >>= _) _ _ _
    refine wpAny_bind (wpAny_field he rfl (x := .ref it) rfl ?_)
    refine wpAny_bind (wpAny_nextOf_tuple_end (I.ok.hd hc) hit p (by simp; omega) fun h' x he' hx' => ?_)
    obtain ⟨o, ho, hc'⟩ := hx'
    refine wpAny_bind (wpAny_isInstance (T := "StopIteration") (b := true) ⟨o, ho, hc'⟩ isSubtype_stop ?_)
    exact wpAny_pure ⟨rfl, I.turned (t' := s.toks) (fun b o hb q => he' b o hb q) f0 f1 f3 f4 f5⟩
  self := fun A i s Q E st h => let ⟨⟨_, he⟩, _⟩ := st; wpAny_pyIter_enum he h
def iEnumT (K : PySem.W.Frag) (ta : TA) : TI := fun σ H R => ta σ H fun vs H1 => ∃ a xs, vs = [.ref a] ∧ SqT K H1 a xs ∧ R (IteT K a) H1
theorem pi_enumT {X : Cx} {e : Expr} {ta : TA} {p pos tpos : Pos} {elts : List Expr} {kk : Nat} (hg : Gl X "enumerate") (hm : X.mg "enumerate" = none) (ha : PA X [e] ta) (hs : starEach [e] X.env = [(false, eval e X.env)] := by rfl) :
    PI X (.Tuple elts kk tpos) (.Call (.Name "enumerate" p) [e] [] pos) (iEnumT X.K ta) := by
  refine ⟨fun pins s σ H R I h => ?_⟩
  refine Call_ (ld_blt I hg hm boot_enumerate (PyProof.Rows.callWith_type1 (thn (ha.run pos pins s σ H _ I h) fun us s1 ⟨vs, H1, I1, r1, q1⟩ => ?_) hs rfl))
  obtain ⟨a, xs, ex, hq, q⟩ := q1
  subst ex
  cases r1 with
  | cons r rr =>
    cases rr
    cases r
    obtain ⟨its, rv, p', hz⟩ := I1.tuple hq
    refine enumT_begins (begins_tuple a its.toArray) p' fun h' he hit hsz hk => wpAny_pyIter_enum he ?_
    have I2 : Inv X pins σ H1 { s1 with heap := h' } := I1.kept (t' := s1.toks) hk
    refine ⟨s1.heap.objs.size + 1, [s1.heap.objs.size + 1, s1.heap.objs.size], _, _, H1, rfl, I2, turn_enumT a (s1.heap.objs.size + 1) s1.heap.objs.size, ⟨⟨.none, he⟩, ⟨_, hit, rfl, rfl⟩, Nat.succ_ne_self _⟩, fun b hb => ?_, q⟩
    have e' : b = s1.heap.objs.size + 1 ∨ b = s1.heap.objs.size := by simpa using hb
    have hle : s1.heap.objs.size ≤ b := by
      rcases e' with z | z
      · rw [z]; exact Nat.le_add_right _ _
      · rw [z]; exact Nat.le_refl _
    exact I1.fpOk hle (I1.hok.fresh hle)
def mEnuT (ma : ME) : MI := fun ρ S => match ma ρ S with
  | some (.tup xs, S1) => some (enuP 0 xs, S1)
  | _ => none
theorem it_enuT {K : PySem.W.Frag} {C : Addr} {W : Wd} {a : Addr} {vs : List V} {xs : List PV} (h : SqT K W.F a vs) (r : RepAll K C W.F W.θ vs xs) : ItOk K C W (IteT K a) (enuP 0 xs) := by
  have h1 : ∀ W1 S, GroF W W1 → Inv1 K C W1 S → SqT K W1.H a vs := fun W1 S g i => i.s.seT (SqT.ext h g.f)
  have hr : ∀ W1, GroF W W1 → RepAll K C W1.F W1.θ vs xs := fun W1 g => by
    obtain ⟨q, eq⟩ := g.t
    rw [eq]
    exact r.mono g.f
  refine ⟨fun i W1 S g i1 hi => ?_, fun W1 S g i1 => ⟨vs, h1 W1 S g i1, by rw [r.len, enuP_len]; exact Nat.le_refl _⟩, fun i W1 S v H' x g i1 hx y => ?_⟩
  · rw [enuP_len] at hi
    obtain ⟨v, ev, _⟩ := r.at (List.getElem?_eq_getElem hi)
    exact ⟨vs, v, h1 W1 S g i1, ev⟩
  · obtain ⟨T, u, rfl, nT, rfl, hv⟩ := y
    obtain ⟨z, hz, rfl⟩ := enuP_at hx
    obtain ⟨u', eu, ru⟩ := (hr W1 g).at hz
    have := hv vs (h1 W1 S g i1)
    rw [eu] at this
    cases Option.some.inj this
    obtain ⟨g2, i2⟩ := laid (.tup [.int (i : Nat), u]) i1 nT
    refine ⟨_, rfl, g2, i2, .tup (SqT.of upd_same) (.cons ?_ (.cons (ru.ext g2) .nil))⟩
    rw [Int.zero_add]
    exact .int _
section
variable {X : Cx} {C : Addr} {e : Expr} {ma : ME} {pos : Pos}
theorem ienuT {p tpos : Pos} {elts : List Expr} {kk : Nat} (hg : Gl X "enumerate") (hm : X.mg "enumerate" = none) (ha : PE X e (tM X.K C ma)) (hst : starEach (e :: []) X.env = (false, eval e X.env) :: starEach [] X.env := by rfl) (hs : starEach [e] X.env = [(false, eval e X.env)] := by rfl) :
    PI X (.Tuple elts kk tpos) (.Call (.Name "enumerate" p) [e] [] pos) (tMI X.K C (mEnuT ma)) := PI.weak (pi_enumT hg hm (pa_cons ha pa_nil hst) hs) fun σ H R0 ⟨W0, W, ρ, S, xs, S', eH, R, em, q⟩ => by
  subst eH
  unfold mEnuT at em
  split at em
  · rename_i ys S1 e1
    cases em
    refine ⟨W0, W, ρ, S, _, S', rfl, R, e1, fun v W1 R1 g1 r1 => ?_⟩
    cases r1 with
    | tup h a => exact ⟨_, _, rfl, R1.i.s.seT h, q _ W1 R1 g1 (it_enuT h a)⟩
  · cases em
def mTrg1 (ma : ME) : ME := fun ρ S => match ma ρ S with
  | some (.int j, S1) => if okRg 0 j then some (.tup (rngP 0 (j - 0).toNat), S1) else none
  | _ => none
theorem xtrg1 (h : PE X e (tTupRg (tRg1 (tM X.K C ma)))) : PE X e (tM X.K C (mTrg1 ma)) := PE.weak h fun σ H Q ⟨W0, W, ρ, S, z, S', eH, R, em, q⟩ => by
  subst eH
  unfold mTrg1 at em
  split at em
  · rename_i j S1 e1
    split at em
    · rename_i ok
      cases em
      refine ⟨W0, W, ρ, S, _, S', rfl, R, e1, fun v W1 R1 g1 r1 => ?_⟩
      cases r1
      refine ⟨j, rfl, okRg_ok ok, fun p np => ?_⟩
      obtain ⟨g4, i4⟩ := laid (.tup (rgV 0 j)) R1.i np
      exact q _ _ (R1.ext g4 i4) (g1.trans g4) (.tup (SqT.of upd_same) (rgV_rep 0 j))
    · cases em
  · cases em
end
section
variable {ρ : List SlV} {S : List PV} {ma : ME}
@[simp] theorem e_enuT : mEnuT ma ρ S = match ma ρ S with | some (.tup xs, S1) => some (enuP 0 xs, S1) | _ => none := rfl
@[simp] theorem e_trg1 : mTrg1 ma ρ S = match ma ρ S with | some (.int j, S1) => if okRg 0 j then some (.tup (rngP 0 (j - 0).toNat), S1) else none | _ => none := rfl
end
end BL

/-! a written table of texts; range downwards -/
namespace BL
open PySem PySem.Spec PyProof.Rows L2
def tabP (t : List (Str × Str)) (_ : List PV) : PV → Option PV
  | .str z => match t.lookup z with
    | some v => some (.str v)
    | none => none
  | _ => none
def TabK (K : PySem.W.Frag) (w : World) (a : Addr) (t : List (Str × Str)) : Prop := ∀ z v, t.lookup z = some v → KDct K w a z (.str v)
def rngD (hi : Int) : Nat → List PV
  | 0 => []
  | n + 1 => .int hi :: rngD (hi - 1) n
theorem rngD_len : ∀ (n : Nat) (hi : Int), (rngD hi n).length = n
  | 0, _ => rfl
  | n + 1, hi => congrArg Nat.succ (rngD_len n _)
theorem rngD_at : ∀ (n : Nat) (hi : Int) (i : Nat), i < n → (rngD hi n)[i]? = some (.int (hi + i * (-1)))
  | n + 1, hi, 0, _ => by
    show some (PV.int hi) = some (PV.int (hi + ((0 : Nat) : Int) * (-1)))
    rw [show hi + ((0 : Nat) : Int) * (-1) = hi by omega]
  | n + 1, hi, i + 1, h => by
    show (rngD (hi - 1) n)[i]? = _
    rw [rngD_at n (hi - 1) i (by omega), show hi - 1 + (i : Int) * (-1) = hi + ((i + 1 : Nat) : Int) * (-1) by omega]
theorem it_rngD {K : PySem.W.Frag} {C : Addr} {W : Wd} (hi : Int) (n : Nat) : ItOk K C W (Itc hi (-1) n) (rngD hi n) := by
  refine ⟨fun i W1 S g i1 h => by rw [rngD_len] at h; exact h, fun W1 S g i1 => by rw [rngD_len]; exact Nat.le_refl n, fun i W1 S v H' x g i1 hx y => ?_⟩
  obtain ⟨rfl, rfl⟩ := y
  have h : i < n := by
    have := (List.getElem?_eq_some_iff.mp hx).1
    rwa [rngD_len] at this
  rw [rngD_at n hi i h] at hx
  cases hx
  exact ⟨W1, rfl, Gro.refl _, i1, .int _⟩
def mRng3 (ma mb mc : ME) : MI := fun ρ S => match ma ρ S with
  | some (.int i, S1) => match mb ρ S1 with
    | some (.int j, S2) => match mc ρ S2 with
      | some (.int k, S3) => if k = -1 ∧ -(2 ^ 62) ≤ i ∧ i < 2 ^ 62 ∧ -(2 ^ 62) ≤ j ∧ j < 2 ^ 62 then some (rngD i (i - j).toNat, S3) else none
      | _ => none
    | _ => none
  | _ => none
section
variable {X : Cx} {C : Addr} {e a b c tg : Expr} {ma mb mc : ME} {pos : Pos}
theorem xtab {x : Str} {d : Addr} {t : List (Str × Str)} {p : Pos} (hg : Gl X x) (hm : X.mg x = some (.ref d)) (hk : TabK X.K X.w d t) (hi : PE X e (tM X.K C ma)) (hs : PlainIx e) (hd : (x == ("__debug__" : Str)) = false := by decide) : PE X (.Subscript (.Name x p) e pos) (tM X.K C (mUn (tabP t) ma)) :=
  PE.weak (pe_ix ix_kdict (pe_glob (v := .ref d) hg hm rfl hd) hi hs) fun σ H Q ⟨W0, W, ρ, S, z, S', eH, R, em, q⟩ => by
    subst eH
    obtain ⟨y, e1, e2⟩ := mUn_inv em
    unfold tabP at e2
    split at e2
    · rename_i s
      split at e2
      · rename_i v hv
        cases e2
        refine ⟨W0, W, ρ, S, _, S', rfl, R, e1, fun u W1 R1 g1 r1 => ?_⟩
        cases r1
        exact ⟨d, s, .str v, rfl, rfl, hk s v hv, q _ W1 R1 g1 (.str _)⟩
      · cases e2
    · cases e2
theorem irng3 {p : Pos} (hg : Gl X "range") (hm : X.mg "range" = none) (ha : PE X a (tM X.K C ma)) (hb : PE X b (tM X.K C mb)) (hc : PE X c (tM X.K C mc))
    (h1 : starEach (a :: [b, c]) X.env = (false, eval a X.env) :: starEach [b, c] X.env := by rfl) (h2 : starEach (b :: [c]) X.env = (false, eval b X.env) :: starEach [c] X.env := by rfl) (h3 : starEach (c :: []) X.env = (false, eval c X.env) :: starEach [] X.env := by rfl)
    (hpl : (backTo pos (starEach [b, c] X.env)).any (·.1) = false := by rfl) : PI X tg (.Call (.Name "range" p) [a, b, c] [] pos) (tMI X.K C (mRng3 ma mb mc)) :=
  PI.weak (pi_range3 hg hm (pa_cons ha (pa_cons hb (pa_cons hc pa_nil h3) h2) h1) h1 hpl) fun σ H R0 ⟨W0, W, ρ, S, xs, S', eH, R, em, q⟩ => by
  subst eH
  unfold mRng3 at em
  split at em
  · rename_i i S1 e1
    split at em
    · rename_i j S2 e2
      split at em
      · rename_i k S3 e3
        split at em
        · rename_i hj
          cases em
          obtain ⟨rfl, b1, b2, b3, b4⟩ := hj
          refine ⟨W0, W, ρ, S, _, S1, rfl, R, e1, fun v W1 R1 g1 r1 => ⟨W0, W1, ρ, S1, _, S2, rfl, R1, e2, fun u W2 R2 g2 r2 => ⟨W0, W2, ρ, S2, _, S', rfl, R2, e3, fun t W3 R3 g3 r3 => ?_⟩⟩⟩
          cases r1
          cases r2
          cases r3
          exact ⟨i, j, -1, _, rfl, RgC.neg b1 b2 b3 b4, q _ W3 R3 ((g1.trans g2).trans g3) (it_rngD i _)⟩
        · cases em
      · cases em
    · cases em
  · cases em
end
section
variable {ρ : List SlV} {S : List PV} {ma mb mc : ME}
@[simp] theorem e_rng3 : mRng3 ma mb mc ρ S = match ma ρ S with
  | some (.int i, S1) => (match mb ρ S1 with
    | some (.int j, S2) => (match mc ρ S2 with
      | some (.int k, S3) => if k = -1 ∧ -(2 ^ 62) ≤ i ∧ i < 2 ^ 62 ∧ -(2 ^ 62) ≤ j ∧ j < 2 ^ 62 then some (rngD i (i - j).toNat, S3) else none
      | _ => none)
    | _ => none)
  | _ => none := rfl
end
end BL

namespace BL
open PySem PySem.Spec PyProof.Rows L2
/-! enumerate over a list or a tuple -/
section
variable {X : Cx} {C : Addr} {ma : ME} {e : Expr}
def mEnuQ (ma : ME) : MI := fun ρ S => match ma ρ S with
  | some (.lst xs, S1) => some (enuP 0 xs, S1)
  | some (.tup xs, S1) => some (enuP 0 xs, S1)
  | _ => none
theorem ienuQ {p tpos : Pos} {elts : List Expr} {kk : Nat} (hg : Gl X "enumerate") (hm : X.mg "enumerate" = none) (ha : PE X e (tM X.K C ma)) (hst : starEach (e :: []) X.env = (false, eval e X.env) :: starEach [] X.env := by rfl) (hs : starEach [e] X.env = [(false, eval e X.env)] := by rfl) :
    PI X (.Tuple elts kk tpos) (.Call (.Name "enumerate" p) [e] [] pos) (tMI X.K C (mEnuQ ma)) := PI.weak (PI.or (ienu hg hm ha hst hs) (ienuT hg hm ha hst hs)) fun σ H R0 ⟨W0, W, ρ, S, xs, S', eH, R, em, q⟩ => by
  subst eH
  unfold mEnuQ at em
  split at em
  · rename_i ys S1 e1
    cases em
    exact .inl ⟨W0, W, ρ, S, _, S', rfl, R, by unfold mEnu; rw [e1], q⟩
  · rename_i ys S1 e1
    cases em
    exact .inr ⟨W0, W, ρ, S, _, S', rfl, R, by unfold mEnuT; rw [e1], q⟩
  · cases em
@[simp] theorem e_enuQ {ρ : List SlV} {S : List PV} : mEnuQ ma ρ S = match ma ρ S with | some (.lst xs, S1) => some (enuP 0 xs, S1) | some (.tup xs, S1) => some (enuP 0 xs, S1) | _ => none := rfl
end
end BL

/-! f"{number:+d}" -/
namespace PySem
open Sem (wp)
open Builtin Builtin.Str Builtin.Int Builtin.Float
def plusS (a : Int) : Str := ⟨((if a < 0 then [45] else [43]) ++ (Nat.toDigits 10 a.natAbs).map Char.toNat).toArray⟩
def plusF : FormatSpec := { fill := 32, align := 62, sign := some 43, type := some 100 }
theorem spec_plus (name : String) : parseFormatSpec (Str.ofString "+d").cps.toList name 62 = .ok plusF := by rfl
theorem plus_key (a : Int) : PyProof.Rows.intSpecText plusF a = plusS a := by
  unfold PyProof.Rows.intSpecText PyProof.Rows.intField' plusS
  have e1 : ((Nat.toDigits 10 a.natAbs).map fun c => (if (100 : Nat) == 88 then c.toUpper else c).toNat) = (Nat.toDigits 10 a.natAbs).map Char.toNat := rfl
  rw [e1]
  generalize (Nat.toDigits 10 a.natAbs).map Char.toNat = ds
  have e : (if ds.isEmpty then ([] : List Nat) else List.replicate ((0 : Int).toNat - ds.length) 48 ++ ds) = ds := by
    cases ds with
    | nil => rfl
    | cons d ds => simp
  have sg : (if decide (a < 0) = true then [45] else match plusF.sign with | some 43 => [43] | some 32 => [32] | _ => []) = (if a < 0 then [45] else [43]) := by
    by_cases h : a < 0
    · simp [h]
    · simp [h]; rfl
  have p : ∀ n m : Nat, ((-1 : Int) - ((n : Int) + (([] : List Nat).length : Int) + (([] : List Nat).length : Int)) - (m : Int)).toNat = 0 := fun n m => by
    simp only [List.length_nil]
    omega
  by_cases h : a < 0
  · simp [h, plusF, e, p]
  · simp [h, plusF, e, p]
theorem gives_int_plus (a : Int) (t u : Tok) (h : a.natAbs.log2 < 1920) : Gives (Builtin.«int.__format__» ⟨[.int a t, .str (Str.ofString "+d") u], []⟩) (.str (plusS a)) := fun prog w A R s hq => by
  have hne : ((Str.ofString "+d").length == 0) = false := by decide +kernel
  have hasc : (((Str.ofString "+d").cps.toList.drop 1).any (· ≥ 128) || ((Str.ofString "+d").cps.getD 0 0 ≥ 128 && !([60, 62, 61, 94] : List Nat).contains ((Str.ofString "+d").cps.getD 1 0))) = false := by decide +kernel
  obtain ⟨f, hp, hty, hpr, hz, hw, ek⟩ : ∃ f : FormatSpec, parseFormatSpec (Str.ofString "+d").cps.toList "int" 62 = .ok f ∧ f.type.getD (if (Str.ofString "+d").cps.back? == some 0 then 0 else 100) = 100 ∧ f.precision = none ∧ f.noNeg0 = false ∧ f.width.getD 0 ≤ 100000 ∧ f = plusF := ⟨plusF, spec_plus "int", rfl, rfl, rfl, Nat.zero_le _, rfl⟩
  unfold Builtin.«int.__format__»
  simp only [selfAndOne, noKeywords, Int.intOfSelf, asInt?, asStr?, List.isEmpty_nil, if_true, pure_bind, bind_pure, bind_assoc, hne, hasc, Bool.false_eq_true, if_false,
    show (Value.str (Str.ofString "+d") u == Value.none) = false from rfl]
  refine wpAny_bind (wpAny_typeNameOf (T := "str") (typeIs_str _ _ _) (by decide) fun _ => ?_)
  refine wpAny_bind (PyProof.Rows.wpAny_typeNameOfCut_int ?_)
  simp only [hp, hty]
  rw [if_pos (by decide)]
  show wpAny _ _ (if _ then _ else _) _ _ _
  rw [if_neg (by simp [hpr])]
  show wpAny _ _ (if _ then _ else _) _ _ _
  rw [if_neg (by simp [hz])]
  show wpAny _ _ (if _ then _ else _) _ _ _
  rw [if_neg (by decide)]
  show wpAny _ _ (do let r ← Builtin.overDigitLimit? a; _) _ _ _
  rw [overDigitLimit_small h]
  show wpAny _ _ (if _ then _ else _) _ _ _
  have hw' : ¬ (f.width.getD 0 > 100000) := by omega
  rw [if_neg (by simpa using hw')]
  have hal : f.alt = false := by rw [ek]; rfl
  have hgr : f.grouping = none := by rw [ek]; rfl
  have hq2 : (PyProof.Rows.intSpecText f a).length ≤ sizeLine ∧ R (.ok (.ret (.str (PyProof.Rows.intSpecText f a) s.toks))) { s with toks := s.toks + 1 } := by
    rw [ek, plus_key]
    exact hq
  obtain ⟨hlen, h⟩ := hq2
  show wpAny _ _ (retStr _) _ _ _
  unfold retStr
  refine wpAny_bind (wpAny_mkStr (wpAny_pure ?_) ?hs2)
  case hs2 =>
    simp only [hal, Bool.false_eq_true, if_false, show ((10 : Nat) == 10) = true by decide, if_true]
    conv => lhs; arg 1; whnf
    simp only [PyProof.Rows.intSpecText, PyProof.Rows.intField', hgr, hal, Bool.false_eq_true, if_false, show ((10 : Nat) == 10) = true by decide, if_true] at hlen ⊢
    exact hlen
  show R _ _
  simp only [hal, Bool.false_eq_true, if_false, show ((10 : Nat) == 10) = true by decide, if_true]
  simp only [PyProof.Rows.intSpecText, PyProof.Rows.intField', hgr, hal, Bool.false_eq_true, if_false, show ((10 : Nat) == 10) = true by decide, if_true] at h
  conv => arg 1; arg 1; arg 1; arg 1; whnf
  simp only [hgr, hal, Bool.false_eq_true, if_false, show ((10 : Nat) == 10) = true by decide, if_true]
  exact h
end PySem

set_option exponentiation.threshold 3000
namespace BL
open PySem PySem.Spec PyProof.Rows L2
/-! numbers as texts, f-strings -/
/-- a number as a text -/
def itxt (i : Int) : Str := ⟨((if i < 0 then [45] else []) ++ (Nat.toDigits 10 i.natAbs).map Char.toNat).toArray⟩
theorem itxt_eq (i : Int) : Str.ofString (toString i) = itxt i := by
  unfold itxt
  cases i with
  | ofNat m =>
    rw [if_neg (by simp)]
    exact PyProof.Rows.text_ofNat m
  | negSucc m =>
    show Str.ofString ("-" ++ Nat.repr (m + 1)) = _
    rw [Str.ofString_eq_toList]
    unfold Nat.repr
    simp
section
variable {K : PySem.W.Frag} {C : Addr}
def fStrI (_ : List PV) : List PV → Option PV
  | [.int i] => if i.natAbs < 2 ^ 1900 then some (.str (itxt i)) else none
  | _ => none
theorem log2_small {i : Int} (h : i.natAbs < 2 ^ 1900) : i.natAbs.log2 < 1920 := Nat.lt_of_le_of_lt (log2_lt h) (by decide)
theorem l_strI : LRn K C (fun xs H Q => ∃ i, xs = [.int i] ∧ i.natAbs.log2 < 1920 ∧ Q (.str (toString i)) H) fStrI := fun W S vs xs z Q i r e q => by
  unfold fStrI at e
  split at e
  · rename_i k
    split at e
    · rename_i hl
      cases e
      cases r with
      | cons r rr =>
        cases rr
        cases r
        refine ⟨k, rfl, log2_small hl, ?_⟩
        show Q (.str (Str.ofString (toString k))) W.H
        rw [itxt_eq]
        exact q _ W (Gro.refl _) i (.str _)
    · cases e
  · cases e
/-- {x} -/
def fFmt (_ : List PV) : PV → Option PV
  | .str y => if y.length ≤ 100000 then some (.str y) else none
  | .int i => if i.natAbs < 2 ^ 1900 then some (.str (itxt i)) else none
  | _ => none
/-- {x:+d} -/
def fFmtP (_ : List PV) : PV → Option PV
  | .int i => if i.natAbs < 2 ^ 1900 then some (.str (plusS i)) else none
  | _ => none
end
section
variable {X : Cx} {C : Addr} {e : Expr} {ma : ME} {pos : Pos}
theorem xfmt (h : PE X e (tM X.K C ma)) : PE X (.FormattedValue e (-1) none pos) (tM X.K C (mUn fFmt ma)) := PE.weak (pe_fmt h) fun σ H Q ⟨W0, W, ρ, S, z, S', eH, R, em, q⟩ => by
  subst eH
  obtain ⟨x, e1, e2⟩ := mUn_inv em
  refine ⟨W0, W, ρ, S, x, S', rfl, R, e1, fun v W1 R1 g1 r1 => ?_⟩
  unfold fFmt at e2
  split at e2
  · split at e2
    · rename_i hl
      cases e2
      cases r1
      exact .inl ⟨_, rfl, Nat.le_trans hl lim, q _ W1 R1 g1 (.str _)⟩
    · cases e2
  · rename_i k
    split at e2
    · rename_i hl
      cases e2
      cases r1
      refine .inr ⟨k, rfl, log2_small hl, ?_⟩
      show Q (.str (Str.ofString (toString k))) W1.H
      rw [itxt_eq]
      exact q _ W1 R1 g1 (.str _)
    · cases e2
  · cases e2
theorem plus_len {i : Int} (h : i.natAbs.log2 < 1920) : (plusS i).length ≤ sizeLine := by
  have h1 : (Str.ofString (toString i)).length ≤ sizeLine := int_text_fits h
  have hl : 2000 ≤ sizeLine := Nat.le_trans (by decide) lim
  have h2 : i.natAbs < 2 ^ 1920 := by
    by_cases z : i.natAbs = 0
    · rw [z]; exact Nat.pos_of_ne_zero (by decide)
    · exact (Nat.log2_lt z).mp h
  have h3 : (Nat.toDigits 10 i.natAbs).length ≤ 1920 := PyProof.Rows.digits10_le (by decide) (Nat.lt_of_lt_of_le h2 (Nat.pow_le_pow_left (by decide) 1920))
  unfold plusS Str.length
  simp only [List.size_toArray, List.length_append, List.length_map]
  have : (if i < 0 then [45] else [43] : List Nat).length = 1 := by split <;> rfl
  omega
theorem xfmtP {p1 p2 : Pos} {k : Nat} (h : PE X e (tM X.K C ma)) : PE X (.FormattedValue e (-1) (some (.JoinedStr [.Constant (.str "+d") k p1] p2)) pos) (tM X.K C (mUn fFmtP ma)) := by
  refine ⟨fun pins s σ H Q I hh => ?_⟩
  obtain ⟨W0, W, ρ, S, z, S', eH, R, em, q⟩ := hh
  subst eH
  obtain ⟨x, e1, e2⟩ := mUn_inv em
  refine wpAny_FormattedValue_spec (thn (h.run pins s σ W.H (fun v H1 => ∃ i : Int, v = .int i ∧ i.natAbs < 2 ^ 1900 ∧ Q (.str (plusS i)) H1) I ⟨W0, W, ρ, S, x, S', rfl, R, e1, fun v W1 R1 g1 r1 => ?_⟩) fun v s1 hv => ?_)
  · unfold fFmtP at e2
    split at e2
    · rename_i i
      split at e2
      · rename_i hl
        cases e2
        cases r1
        exact ⟨i, rfl, hl, q _ W1 R1 g1 (.str _)⟩
      · cases e2
    · cases e2
  · obtain ⟨x1, H1, I1, r1, i, rfl, hl, q1⟩ := hv
    obtain ⟨t, rfl⟩ := r1
    refine thn ((pe_joined1 (pe_str (x := "+d"))).run pins s1 σ H1 (fun x H2 => x = .str "+d" ∧ H2 = H1) I1 ⟨rfl, rfl⟩) fun r s2 hr => ?_
    obtain ⟨x2, H2, I2, r2, rfl, rfl⟩ := hr
    obtain ⟨t2, rfl⟩ := r2
    refine ⟨_, _, rfl, wpAny_formatField_spec (T := "int") (by decide +kernel) (fun s' => typeIs_int s' i t) F.slot_int_format F.entry_int_format (fun a b => F.args_int_format_2 _ _) (fun u => gives_int_plus i t u (log2_small hl)) ⟨.str (plusS i), H2, I2.tok _, ⟨_, rfl⟩, q1⟩ (Nat.le_trans (by decide +kernel) lim) (plus_len (log2_small hl))⟩
/-- the pieces of an f-string one behind the other -/
def mJ : List ME → Str → List SlV → List PV → Option (Str × List PV)
  | [], acc, _, S => some (acc, S)
  | m :: ms, acc, ρ, S => match m ρ S with
    | some (.str y, S1) => if (acc ++ y).length ≤ 100000 then mJ ms (acc ++ y) ρ S1 else none
    | _ => none
def mJs (ms : List ME) : ME := fun ρ S => match mJ ms Str.empty ρ S with
  | some (x, S') => some (.str x, S')
  | none => none
theorem tj_run {K : PySem.W.Frag} {W0 : Wd} {σ : L2.St} {ρ : List SlV} {Q : VK} : ∀ (ms : List ME) (acc : Str) (W : Wd) (S : List PV) (x : Str) (S' : List PV), Rel K C W0 W σ ρ S → mJ ms acc ρ S = some (x, S') →
    (∀ W', Rel K C W0 W' σ ρ S' → Gro W W' → Q (.str x) W'.H) → tJs (ms.map (tM K C)) acc σ W.H fun out H1 => Q (.str out) H1
  | [], acc, W, S, x, S', R, e, q => by
    cases e
    exact q W R (Gro.refl _)
  | m :: ms, acc, W, S, x, S', R, e, q => by
    unfold mJ at e
    split at e
    · rename_i y S1 e1
      split at e
      · rename_i hl
        refine ⟨W0, W, ρ, S, _, S1, rfl, R, e1, fun v W1 R1 g1 r1 => ?_⟩
        cases r1
        exact ⟨y, rfl, Nat.le_trans hl lim, tj_run ms _ W1 S1 x S' R1 e fun W' R' g' => q W' R' (g1.trans g')⟩
      · cases e
    · cases e
theorem xjs (ms : List ME) (h : PE X e (fun σ H Q => tJs (ms.map (tM X.K C)) Str.empty σ H fun out H1 => Q (.str out) H1)) : PE X e (tM X.K C (mJs ms)) := PE.weak h fun σ H Q ⟨W0, W, ρ, S, z, S', eH, R, em, q⟩ => by
  subst eH
  unfold mJs at em
  split at em
  · rename_i x S1 e1
    cases em
    exact tj_run ms _ W S x _ R e1 fun W' R' g' => q _ W' R' g' (.str _)
  · cases em
/-- a slice of a text -/
def mSlS (ma : ME) (ml mh : MO) : ME := fun ρ S => match ma ρ S with
  | some (.str x, S1) => match ml ρ S1 with
    | some (l, S2) => match mh ρ S2 with
      | some (h, S3) => if x.length ≤ 100000 then some (.str (cutS x l h), S3) else none
      | none => none
    | none => none
  | _ => none
theorem xslS {ml mh : MO} (h : PE X e (tSl rSlS (tM X.K C ma) (tMO X.K C ml) (tMO X.K C mh))) : PE X e (tM X.K C (mSlS ma ml mh)) := PE.weak h fun σ H Q ⟨W0, W, ρ, S, z, S', eH, R, em, q⟩ => by
  subst eH
  unfold mSlS at em
  split at em
  · rename_i x S1 e1
    split at em
    · rename_i l S2 e2
      split at em
      · rename_i h S3 e3
        split at em
        · rename_i hl
          cases em
          refine ⟨W0, W, ρ, S, _, S1, rfl, R, e1, fun v W1 R1 g1 r1 => ⟨W0, W1, ρ, S1, l, S2, rfl, R1, e2, fun W2 R2 g2 => ⟨W0, W2, ρ, S2, h, S', rfl, R2, e3, fun W3 R3 g3 => ?_⟩⟩⟩
          cases r1
          exact ⟨x, rfl, Nat.le_trans hl lim, q _ W3 R3 ((g1.trans g2).trans g3) (.str _)⟩
        · cases em
      · cases em
    · cases em
  · cases em
end
end BL

namespace BL
open PySem PySem.Spec PyProof.Rows L2
/-! sep.join(texts) -/
def strsP : List PV → Option (List Str)
  | [] => some []
  | .str x :: r => match strsP r with
    | some ys => some (x :: ys)
    | none => none
  | _ => none
theorem strsP_map : ∀ (ys : List Str), strsP (ys.map PV.str) = some ys
  | [] => rfl
  | y :: ys => by show (match strsP (ys.map PV.str) with | some zs => some (y :: zs) | none => none) = _; rw [strsP_map ys]
theorem strs_rep {K : PySem.W.Frag} {C : Addr} {F : Hp} {θ : List Addr} : ∀ {vs : List V} {xs : List PV} {ys : List Str}, RepAll K C F θ vs xs → strsP xs = some ys → vs = ys.map V.str
  | _, _, _, .nil, e => by cases e; rfl
  | _, _, _, .cons r a, e => by
    cases r with
    | str x =>
      unfold strsP at e
      split at e
      · rename_i zs ez
        cases e
        rw [strs_rep a ez]
        rfl
      · cases e
    | _ => cases e
theorem strs_len : ∀ {xs : List PV} {ys : List Str}, strsP xs = some ys → ys.length = xs.length
  | [], _, e => by cases e; rfl
  | .str x :: r, ys, e => by
    unfold strsP at e
    split at e
    · rename_i zs ez
      cases e
      exact congrArg Nat.succ (strs_len ez)
    · cases e
def fJoin (_ : List PV) : PV → PV → Option PV
  | .str a, .lst xs => match strsP xs with
    | some ys => if (ys.map (·.length)).sum + ys.length * a.length ≤ 16777216 then some (.str (Txt.join a ys)) else none
    | none => none
  | _, _ => none
section
variable {X : Cx} {C : Addr} {e : Expr} {ma mb : ME}
theorem xjoin (h : PE X e (L2.tM1 (fun x xs H Q => ∃ a p, ∃ ys : List Str, x = .str a ∧ xs = [.ref p] ∧ (SqL X.K H p (ys.map V.str) ∨ SqT X.K H p (ys.map V.str)) ∧ (ys.map (·.length)).sum + ys.length * a.length ≤ 16777216 ∧ Q (.str (Txt.join a ys)) H) (tM X.K C ma) (tM X.K C mb))) : PE X e (tM X.K C (mOp fJoin ma mb)) :=
  PE.weak h fun σ H Q ⟨W0, W, ρ, S, z, S', eH, R, em, q⟩ => by
  subst eH
  obtain ⟨x, S1, y, e1, e2, e3⟩ := mOp_inv em
  unfold fJoin at e3
  split at e3
  · rename_i a xs
    split at e3
    · rename_i ys ey
      split at e3
      · rename_i hl
        cases e3
        refine ⟨W0, W, ρ, S, _, S1, rfl, R, e1, fun v W1 R1 g1 r1 => ?_⟩
        cases r1
        refine ⟨⟨a, rfl⟩, W0, W1, ρ, S1, _, S', rfl, R1, e2, fun u W2 R2 g2 r2 => ?_⟩
        cases r2 with
        | lst hh r =>
          have := strs_rep r ey
          subst this
          exact ⟨a, _, ys, rfl, rfl, .inl (SqL.of (R2.i.s _ _ hh)), hl, q _ W2 R2 (g1.trans g2) (.str _)⟩
      · cases e3
    · cases e3
  · cases e3
end
end BL

namespace BL
open PySem PySem.Spec PyProof.Rows L2
/-! a property whatever it gives -/
def mProp (f : List PV → List PV → Option (PV × List PV)) (ma : ME) : ME := fun ρ S => match ma ρ S with
  | some (.way s g c, S1) => f [.way s g c] S1
  | _ => none
theorem xprop {X : Cx} {C : Addr} {e : Expr} {ma : ME} {f : List PV → List PV → Option (PV × List PV)} (h : PE X e (tProp C (spM X.K C f) [] C8.E0 (tM X.K C ma))) : PE X e (tM X.K C (mProp f ma)) := PE.weak h fun σ H Q ⟨W0, W, ρ, S, z, S', eH, R, em, q⟩ => by
  subst eH
  unfold mProp at em
  split at em
  · rename_i s g c S1 e1
    refine ⟨W0, W, ρ, S, _, S1, rfl, R, e1, fun v W1 R1 g1 r1 => ?_⟩
    have r1' := r1
    cases r1 with
    | way h =>
      obtain ⟨dx, hx⟩ := h
      exact ⟨_, dx, _, rfl, R1.i.s _ _ hx, W1, S1, _, z, S', rfl, R1.i, .cons r1' .nil, em, fun v W3 g3 i3 r3 => q v W3 (R1.ext g3 i3) (g1.trans g3) r3⟩
  · cases em
@[simp] theorem e_prop (f : List PV → List PV → Option (PV × List PV)) {ma : ME} {ρ : List SlV} {S : List PV} : mProp f ma ρ S = match ma ρ S with | some (.way s g c, S1) => f [.way s g c] S1 | _ => none := rfl
end BL

namespace BL
open PySem PySem.Spec PyProof.Rows L2
/-! texts: startswith, split, len, signs -/
def fStarts (_ : List PV) : PV → PV → Option PV
  | .str a, .str b => some (.bl (Txt.startswith a b))
  | _, _ => none
def fSplit (_ : List PV) : PV → PV → Option PV
  | .str a, .str b => if (b.length == 0) = false ∧ a.length + 2 ≤ 100000 then some (.lst ((Txt.split a b).map .str)) else none
  | _, _ => none
def fLenS (_ : List PV) : List PV → Option PV
  | [.str x] => if x.length ≤ 100000 then some (.int x.length) else none
  | _ => none
def sgP (x : Str) : List PV := x.cps.toList.map fun c => .str ⟨#[c]⟩
/-- a sign in a text -/
def fInS (_ : List PV) : PV → PV → Option PV
  | .str x, .str z => match x.cps.toList with
    | [c] => some (.bl (decide (c ∈ z.cps.toList)))
    | _ => none
  | _, _ => none
def fIxS (_ : List PV) : PV → PV → Option PV
  | .str z, .int i => if z.length ≤ 100000 then (match atI z.cps.toList i with
    | some c => some (.str ⟨#[c]⟩)
    | none => none) else none
  | _, _ => none
def mStrI (ma : ME) : MI := fun ρ S => match ma ρ S with
  | some (.str x, S1) => some (sgP x, S1)
  | _ => none
section
variable {X : Cx} {C : Addr} {e tg : Expr} {ma mb : ME} {pos : Pos}
theorem strs_map {K : PySem.W.Frag} {F : Hp} {θ : List Addr} : ∀ (ys : List Str), RepAll K C F θ (ys.map V.str) (ys.map PV.str)
  | [] => .nil
  | y :: ys => .cons (.str y) (strs_map ys)
theorem xstarts (h : PE X e (L2.tM1 (fun x xs H Q => ∃ a b, x = .str a ∧ xs = [.str b] ∧ Q (.bl (Txt.startswith a b)) H) (tM X.K C ma) (tM X.K C mb))) : PE X e (tM X.K C (mOp fStarts ma mb)) :=
  PE.weak h fun σ H Q ⟨W0, W, ρ, S, z, S', eH, R, em, q⟩ => by
  subst eH
  obtain ⟨x, S1, y, e1, e2, e3⟩ := mOp_inv em
  unfold fStarts at e3
  split at e3
  · rename_i a b
    cases e3
    refine ⟨W0, W, ρ, S, _, S1, rfl, R, e1, fun v W1 R1 g1 r1 => ?_⟩
    cases r1
    refine ⟨⟨a, rfl⟩, W0, W1, ρ, S1, _, S', rfl, R1, e2, fun u W2 R2 g2 r2 => ?_⟩
    cases r2
    exact ⟨a, b, rfl, rfl, q _ W2 R2 (g1.trans g2) (.bl _)⟩
  · cases e3
theorem xsplit (h : PE X e (L2.tM1 rSplitAny (tM X.K C ma) (tM X.K C mb))) : PE X e (tM X.K C (mOp fSplit ma mb)) :=
  PE.weak h fun σ H Q ⟨W0, W, ρ, S, z, S', eH, R, em, q⟩ => by
  subst eH
  obtain ⟨x, S1, y, e1, e2, e3⟩ := mOp_inv em
  unfold fSplit at e3
  split at e3
  · rename_i a b
    split at e3
    · rename_i hl
      cases e3
      refine ⟨W0, W, ρ, S, _, S1, rfl, R, e1, fun v W1 R1 g1 r1 => ?_⟩
      cases r1
      refine ⟨⟨a, rfl⟩, W0, W1, ρ, S1, _, S', rfl, R1, e2, fun u W2 R2 g2 r2 => ?_⟩
      cases r2
      refine .inl ⟨a, b, rfl, rfl, hl.1, Nat.le_trans hl.2 lim, fun p np => ?_⟩
      obtain ⟨g4, i4⟩ := laid (.lst ((Txt.split a b).map V.str)) R2.i np
      exact q _ _ (R2.ext g4 i4) ((g1.trans g2).trans g4) (.lst upd_same (strs_map _))
    · cases e3
  · cases e3
theorem l_lenS {K : PySem.W.Frag} : LRn K C (fun xs H Q => ∃ z, xs = [.str z] ∧ z.length ≤ sizeLine ∧ Q (.int z.length) H) fLenS := fun W S vs xs z Q i r e q => by
  unfold fLenS at e
  split at e
  · split at e
    · rename_i hl
      cases e
      cases r with
      | cons r rr =>
        cases rr
        cases r
        exact ⟨_, rfl, Nat.le_trans hl lim, q _ W (Gro.refl _) i (.int _)⟩
    · cases e
  · cases e
abbrev rInSg : R2 := fun x y H Q => ∃ (c : Nat) (z : Str), x = .str ⟨#[c]⟩ ∧ y = .str z ∧ Q (.bl (decide (c ∈ z.cps.toList))) H
theorem l_inS {K : PySem.W.Frag} : LR2 K C rInSg fInS := fun W S v u x y z Q i rx ry e q => by
  unfold fInS at e
  split at e
  · rename_i a b
    split at e
    · rename_i c hc
      cases e
      cases rx
      cases ry
      refine ⟨c, b, ?_, rfl, q _ W (Gro.refl _) i (.bl _)⟩
      obtain ⟨l⟩ := a
      obtain ⟨l⟩ := l
      change l = [c] at hc
      rw [hc]
    · cases e
  · cases e
theorem l_ixS {K : PySem.W.Frag} : LR2 K C rIxS fIxS := fun W S v u x y z Q i rx ry e q => by
  unfold fIxS at e
  split at e
  · rename_i a k
    split at e
    · rename_i hl
      split at e
      · rename_i c hc
        cases e
        cases rx
        cases ry
        exact ⟨a, k, c, rfl, rfl, Nat.le_trans hl lim, hc, q _ W (Gro.refl _) i (.str _)⟩
      · cases e
    · cases e
  · cases e
theorem it_str {K : PySem.W.Frag} {W : Wd} (x : Str) : ItOk K C W (Its x) (sgP x) := by
  have len : (sgP x).length = x.cps.size := by unfold sgP; rw [List.length_map]; rfl
  refine ⟨fun i W1 S g i1 h => by rw [len] at h; exact h, fun W1 S g i1 => by rw [len]; exact Nat.le_refl _, fun i W1 S v H' y g i1 hx t => ?_⟩
  obtain ⟨rfl, c, hc, rfl⟩ := t
  have : y = .str ⟨#[c]⟩ := by
    unfold sgP at hx
    rw [List.getElem?_map, Array.getElem?_toList, hc] at hx
    cases hx
    rfl
  subst this
  exact ⟨W1, rfl, Gro.refl _, i1, .str _⟩
theorem istrI (h : PE X e (tM X.K C ma)) : PI X tg e (tMI X.K C (mStrI ma)) := PI.weak (pi_str h) fun σ H R0 ⟨W0, W, ρ, S, xs, S', eH, R, em, q⟩ => by
  subst eH
  unfold mStrI at em
  split at em
  · rename_i x S1 e1
    cases em
    refine ⟨W0, W, ρ, S, _, S', rfl, R, e1, fun v W1 R1 g1 r1 => ?_⟩
    cases r1
    exact ⟨x, rfl, q _ W1 R1 g1 (it_str x)⟩
  · cases em
end
end BL

namespace BL
open PySem PySem.Spec PyProof.Rows L2
/-! for k, v in d.items(), d a table of texts of the module -/
inductive PairsT : List DictEntry → List (Str × Str) → Prop
  | nil : PairsT [] []
  | cons {e : DictEntry} {k v : Str} {tk tv : Tok} {es : List DictEntry} {t : List (Str × Str)} : e.key = .str k tk → e.val = .str v tv → PairsT es t → PairsT (e :: es) ((k, v) :: t)
def TabI (K : PySem.W.Frag) (w : World) (d : Addr) (t : List (Str × Str)) : Prop := ∃ es n, KDict K w d es n ∧ PairsT es.toList t ∧ (t.map (·.1)).Nodup
theorem pairsT_ok {P : Program} {w : World} : ∀ {es : List DictEntry} {t : List (Str × Str)}, PairsT es t → ∃ kvs : List (Str × Value), Pairs (PySem.strKind P w) es kvs ∧ kvs.map (·.1) = t.map (·.1) ∧ ∀ (i : Nat) (k v : Str), t[i]? = some (k, v) → ∃ tv : Tok, kvs[i]? = some (k, Value.str v tv)
  | _, _, .nil => ⟨[], .nil, rfl, fun i k v e => by simp at e⟩
  | _, _, .cons (e := e) (k := k) (v := v) (tk := tk) (tv := tv) h1 h2 r => by
    obtain ⟨kvs, p, m, a⟩ := pairsT_ok (P := P) (w := w) r
    refine ⟨(k, Value.str v tv) :: kvs, .cons (by rw [h1]; exact strKind_is P w k tk) h2 p, by rw [List.map_cons, List.map_cons, m], fun i k' v' e => ?_⟩
    cases i with
    | zero => cases e; exact ⟨tv, rfl⟩
    | succ i => exact a i k' v' e
theorem tabI_use {K : PySem.W.Frag} {P : Program} {w : World} {d : Addr} {t : List (Str × Str)} (h : TabI K w d t) : ∃ (n : Nat) (kvs : List (Str × Value)), kvs.length = t.length ∧ (∀ (i : Nat) (k v : Str), t[i]? = some (k, v) → ∃ tv : Tok, kvs[i]? = some (k, Value.str v tv)) ∧ (d == sysModules) = false ∧
    ∀ hp, K.In hp → Heap.DictAt (PySem.strKind P w) hp d kvs n := by
  obtain ⟨es, n, kd, p, nd⟩ := h
  obtain ⟨kvs, q, m, a⟩ := pairsT_ok (P := P) (w := w) p
  refine ⟨n, kvs, by rw [← List.length_map (f := (·.1)), m, List.length_map], a, kd.low, fun hp X => ⟨_, es, X _ _ kd.at_, ⟨rfl, rfl, rfl⟩, rfl, fun e he => ?_, q, by rw [m]; exact nd⟩⟩
  obtain ⟨x, t, e1, e2⟩ := kd.lit.all e (Array.mem_toList_iff.mpr he)
  exact ⟨x, by rw [e1]; exact strKind_is P w x t, e2⟩
theorem pairsT_of : ∀ {l : List DictEntry} {t : List (Str × Str)}, l.length = t.length → (∀ (i : Nat) (k v : Str), t[i]? = some (k, v) → ∃ (e : DictEntry) (tk tv : Tok), l[i]? = some e ∧ e.key = .str k tk ∧ e.val = .str v tv) → PairsT l t
  | [], [], _, _ => .nil
  | e :: l, (k, v) :: t, hl, h => by
    obtain ⟨e', tk, tv, h1, h2, h3⟩ := h 0 k v rfl
    cases h1
    exact .cons h2 h3 (pairsT_of (by simpa using hl) fun i k v hi => h (i + 1) k v hi)
  | [], _ :: _, hl, _ => by cases hl
  | _ :: _, [], hl, _ => by cases hl
theorem find_at {P : Params} : ∀ {l : List DictEntry} {ks : List Str}, l.map He.keyOf = He.keysIn P ks → ks.Nodup → ∀ (i : Nat) (k : Str), ks[i]? = some k → ∃ e tk, l[i]? = some e ∧ e.key = .str k tk ∧ l.find? (·.key.isStr k) = some e
  | [], [], _, _, i, k, hk => by simp at hk
  | e :: l, k0 :: ks, h, nd, i, k, hk => by
    have h1 : He.keyOf e :: l.map He.keyOf = some (k0, PyData.keyHash P k0) :: He.keysIn P ks := h
    injection h1 with h2 h3
    obtain ⟨t, ek⟩ : ∃ t, e.key = .str k0 t := by
      unfold He.keyOf at h2
      split at h2
      · rename_i x t q
        have h4 := Option.some.inj h2
        obtain ⟨h5, h6⟩ := Prod.mk.inj h4
        exact ⟨t, by rw [q, h5]⟩
      · cases h2
    obtain ⟨nk, nd'⟩ := List.nodup_cons.mp nd
    cases i with
    | zero =>
      cases hk
      refine ⟨e, t, rfl, ek, ?_⟩
      rw [List.find?_cons_of_pos]
      rw [ek]
      exact beq_self_eq_true k0
    | succ i =>
      obtain ⟨e', t', h1, h2, h3⟩ := find_at h3 nd' i k hk
      refine ⟨e', t', h1, h2, ?_⟩
      rw [List.find?_cons_of_neg]
      · exact h3
      · rw [ek]
        intro z
        have : k0 = k := eq_of_beq z
        exact nk (this ▸ List.mem_of_getElem? hk)
  | [], _ :: _, h, _, _, _, _ => by cases h
  | _ :: _, [], h, _, _, _, _ => by cases h
theorem tabI_of {K : PySem.W.Frag} {w : World} {a : Addr} {t : List (Str × Str)} (h : He.dicW K a = some (He.keysIn w.params (t.map (·.1)))) (nd : (t.map (·.1)).Nodup) (hv : ∀ (k v : Str), (k, v) ∈ t → ∃ tv, PySem.W.nsIn K a k = some (some (.str v tv))) : TabI K w a t := by
  obtain ⟨es, n, kd⟩ := He.dicW_ok h
  have hk : es.toList.map He.keyOf = He.keysIn w.params (t.map (·.1)) := by
    unfold He.dicW at h
    rw [show K.lookup a = _ from kd.at_] at h
    dsimp only at h
    split at h
    · exact Option.some.inj h
    · cases h
  have hl : es.toList.length = t.length := by
    have := congrArg List.length hk
    rw [List.length_map] at this
    rw [this]
    unfold He.keysIn
    rw [List.length_map, List.length_map]
  refine ⟨es, n, kd, pairsT_of hl fun i k v hi => ?_, nd⟩
  obtain ⟨e, tk, h1, h2, h3⟩ := find_at hk nd i k (by rw [List.getElem?_map, hi]; rfl)
  obtain ⟨tv, hn⟩ := hv k v (List.mem_of_getElem? hi)
  refine ⟨e, tk, tv, h1, h2, ?_⟩
  unfold PySem.W.nsIn at hn
  rw [show K.lookup a = _ from kd.at_] at hn
  dsimp only at hn
  rw [h3] at hn
  exact Option.some.inj (Option.some.inj hn)
def ItK (t : List (Str × Str)) : It :=
  ⟨fun i _ => i < t.length, fun i H x H' => ∃ T k v, t[i]? = some (k, v) ∧ x = .ref T ∧ H T = none ∧ H' = upd H T (.tup [.str k, .str v]), fun i _ => t.length ≤ i⟩
theorem turn_itemsK {P : Program} {w : World} {K : PySem.W.Frag} {d : Addr} {t : List (Str × Str)} {n : Nat} {kvs : List (Str × Value)} {elts : List Expr} {kk : Nat} {tpos : Pos} (it : Addr) (hl : kvs.length = t.length) (ha : ∀ (i : Nat) (k v : Str), t[i]? = some (k, v) → ∃ tv : Tok, kvs[i]? = some (k, Value.str v tv))
    (hm : ∀ hp, K.In hp → Heap.DictAt (PySem.strKind P w) hp d kvs n) : Turn P w K (.Tuple elts kk tpos) (ItK t) [it] it (fun i h => ∃ ok ov, IsItemIter h it d i kvs.length n ok ov) where
  mem := by simp
  obj := fun i h st b hb => by
    have e : b = it := by simpa using hb
    subst e
    obtain ⟨ok, ov, e⟩ := st
    exact ⟨_, e, fun v z => nomatch z⟩
  keep := fun i h h' st k => let ⟨ok, ov, e⟩ := st; ⟨ok, ov, k it (by simp) _ e⟩
  item := by
    intro X hP hw hK hc i pins s σ H E I hf st hi
    subst hP hw hK
    have hm' := hm s.heap I.kIn
    obtain ⟨⟨k, v⟩, hkv⟩ : ∃ p, t[i]? = some p := ⟨t[i], List.getElem?_eq_getElem hi⟩
    obtain ⟨tv, hu⟩ := ha i k v hkv
    obtain ⟨ok, ov, he⟩ := st
    have hlt : it < s.heap.objs.size := Heap.lt_size he
    refine wpAny_pyNext_items_item he hm' hu fun key h' hkey ho hT hz hk => ?_
    refine ⟨_, rfl, wpAny_letOwnedTupleGo_items (s := { s with heap := h' }) ho fun h'' he' sb => ?_⟩
    have hT2 : h''.get? s.heap.objs.size = some { cls := .type "tuple", data := .seq #[key, .str v tv] } := (sb.2 _ (Nat.ne_of_gt hlt)).trans hT
    have rk : RelV (.str k) key := by
      change Value.isStrOf k key = true at hkey
      cases key with
      | str x tx =>
        have : k = x := by
          have := (PySem.strKind X.prog X.w).inj (.str x tx) k x hkey (strKind_is X.prog X.w x tx)
          exact this
        subst this
        exact ⟨tx, rfl⟩
      | _ => cases hkey
    have new : ObjOk X.prog X.w (upd H s.heap.objs.size (.tup [.str k, .str v])) h'' s.heap.objs.size (.tup [.str k, .str v]) :=
      ⟨by show 2 ≤ sizeLine; decide, [key, .str v tv], .cons rk (.cons ⟨tv, rfl⟩ .nil), ⟨_, hT2, rfl, _, rfl⟩⟩
    have I1 : Inv X pins σ (upd H s.heap.objs.size (.tup [.str k, .str v])) { s with heap := h'' } :=
      I.turnedNew (t' := s.toks) (ch := [it]) (fun b ob hb e => (sb.2 b (by simpa using hb)).trans (hk b ob (by simpa using hb) e)) hf (Nat.le_refl _) new
    refine ⟨.ref s.heap.objs.size, _, I1, rfl, ⟨_, k, v, hkv, rfl, I.hok.fresh (Nat.le_refl _), rfl⟩, ⟨key, .str v tv, he'⟩, fun b hb => ?_⟩
    have e : b = it := by simpa using hb
    rw [e, upd_ne (Nat.ne_of_lt hlt)]
    exact (hf it (by simp)).1
  done := by
    intro X hP hw hK hc i pins s σ H E I hf st hi
    subst hP hw hK
    obtain ⟨f0, f1, f2, f3, f4, f5⟩ := hf it (by simp)
    have hm' := hm s.heap I.kIn
    obtain ⟨ok, ov, he⟩ := st
    have hi' : t.length ≤ i := hi
    exact wpAny_pyNext_items_end (I.ok.hd hc) he hm' (List.getElem?_eq_none (by omega)) fun h' eb => ⟨rfl, I.turned (t' := s.toks) (fun b ob hb e => eb b ob hb e) f0 f1 f3 f4 f5⟩
  self := fun A i s Q E st h => let ⟨_, _, e⟩ := st; PySem.W.kcp_self e h
section
variable {X : Cx} {C : Addr} {tg : Expr}
theorem pi_itemsK {x : Str} {d : Addr} {t : List (Str × Str)} {elts : List Expr} {kk : Nat} {tpos p apos cpos : Pos} (hg : Gl X x) (hm : X.mg x = some (.ref d)) (hk : TabI X.K X.w d t) (hd : (x == ("__debug__" : Str)) = false := by decide)
    (hbase : attributeBase (.Name x p) "items" X.env (eval (.Name x p) X.env) = eval (.Name x p) X.env := by rfl) (hline : (apos.endLine == cpos.line) = true := by rfl) :
    PI X (.Tuple elts kk tpos) (.Call (.Attribute (.Name x p) "items" apos) [] [] cpos) (fun σ H R => R (ItK t) H) := by
  obtain ⟨n, kvs, hl, ha, hs, hat⟩ := tabI_use (P := X.prog) hk
  refine ⟨fun pins s σ H R I h => ?_⟩
  refine wpAny_Call_method (T := "dict") (id := "dict.items") hbase rfl hline F.plainAttrs_dict F.slot_dict_items F.type_dict_items (ld_glob I hg hm ?_ hd)
  have hm' := hat s.heap I.kIn
  refine ⟨hm'.dictOf.typeIs, hm'.dictOf.mapOf.noDict, ?_⟩
  have I2 : Inv X pins σ H { s with heap := s.heap.push { cls := .type "dict_items", data := .fields #[.ref d] } } := I.kept (t' := s.toks) fun b ob q => Heap.get?_push_of_some _ q
  have fin : wpAny (model X.prog X.w) X.A (pyIter (.ref s.heap.objs.size)) (PIE X pins σ (.Tuple elts kk tpos) R) X.xe { s with heap := s.heap.push { cls := .type "dict_items", data := .fields #[.ref d] } } := by
    refine wpAny_pyIter_items (d := d) (knd := PySem.strKind X.prog X.w) ⟨_, Heap.get?_push_size _ rfl, rfl, rfl⟩ (hm'.push _) (pi_one (tk := s.toks) I2 _ (turn_itemsK _ hl ha hat) ⟨.none, .none, ?_⟩ h)
    exact Heap.get?_push_size _ rfl
  show wpAny _ _ (callWith cpos (.builtin "dict.items") [.ref d] [] []) _ X.xe s
  exact method_meetsIn F.slot_dict_items F.entry_dict_items rfl (PySem.evalArgs_none ⟨rfl, hm'.dictOf.typeIs, F.args_dict_items_1 _, _, meets_dict_items (PySem.strKind X.prog X.w) d hs, ⟨kvs, hm'.dictOf⟩, fin⟩)
def itemsP (t : List (Str × Str)) : List PV := t.map fun q => .tup [.str q.1, .str q.2]
def mItemsK (t : List (Str × Str)) : MI := fun _ S => some (itemsP t, S)
theorem it_K {K : PySem.W.Frag} {W : Wd} (t : List (Str × Str)) : ItOk K C W (ItK t) (itemsP t) := by
  have len : (itemsP t).length = t.length := by unfold itemsP; rw [List.length_map]
  refine ⟨fun i W1 S g i1 h => by rw [len] at h; exact h, fun W1 S g i1 => by rw [len]; exact Nat.le_refl _, fun i W1 S v H' x g i1 hx y => ?_⟩
  obtain ⟨T, k, u, ht, rfl, nT, rfl⟩ := y
  have : x = .tup [.str k, .str u] := by
    unfold itemsP at hx
    rw [List.getElem?_map, ht] at hx
    cases hx
    rfl
  subst this
  obtain ⟨g4, i4⟩ := laid (.tup [.str k, .str u]) i1 nT
  exact ⟨_, rfl, g4, i4, .tup (SqT.of upd_same) (.cons (.str _) (.cons (.str _) .nil))⟩
theorem iitemsK {t : List (Str × Str)} {e : Expr} (h : PI X tg e (fun σ H R => R (ItK t) H)) : PI X tg e (tMI X.K C (mItemsK t)) := PI.weak h fun σ H R0 ⟨W0, W, ρ, S, xs, S', eH, R, em, q⟩ => by
  subst eH
  cases em
  exact q _ W R (Gro.refl _) (it_K t)
end
end BL

/-! way != way -/
namespace PySem.W
open PySem PyProof.Rows
section
variable {prog : Program} {w : World} {A : Around} {E : Value → Shared → Prop} {s : Shared} {K : Frag} {x C L f : Addr} {h₀ : Heap} {m : Str → Option Value} {ox : Obj} {od : Obj} {b tb : Value}
theorem objNe_K {Q : Fin → Shared → Prop} (hu : A.units < cLine) (X : K.In s.heap) (I : InstAt s.heap x ox C od) (he : findIn K (.ref C) "__eq__" = some (some (.ref f))) (hf : isFn K (.ref f) = true)
    (hcall : wpAny (model prog w) A (call (.ref f) [.ref x, b]) (fun v s' => ∃ b, v = .bool b ∧ Q (.done (.ret (.bool (!b)))) s') E s) :
    wpAny (model prog w) A (Builtin.«object.__ne__» ⟨[.ref x, b], []⟩) Q E s := by
  unfold Builtin.«object.__ne__»
  repeat (first
    | with_reducible refine wpAny_cRoomFor hu ?_
    | (refine wpAny_bind (m := callSpecialIfBound? (.ref x) (Str.ofString "__eq__") [b])
        (ifBound_K X I he hf (wpAny_mono hcall (fun r s' hr => by
          obtain ⟨b, rfl, hq⟩ := hr
          repeat (first | exact hq | exact wpAny_pure hq | exact wpAny_truthy_bool hq | (refine wpAny_bind (m := truthy (.bool _)) (wpAny_truthy_bool ?_)) | wp_step)) fun _ _ e => e)))
    | wp_step)
theorem chkNe_K {Q' : Unit → Shared → Prop} (X : K.In s.heap) (I : InstAt s.heap x ox C od) (so : subIn K (.ref C) (.type "object") = some true) (hq : Q' () s) : wpAny (model prog w) A (checkBuiltinCall "object.__ne__" ⟨[.ref x, b], []⟩) Q' E s := by
  simp only [checkBuiltinCall, PySem.F.cmpKind_ne, PySem.F.cmpSplit_ne]
  refine wpAny_bind ?_
  unfold isInstance
  refine wpAny_bind (I.type.here ((looks_subIn X so).here ?_))
  have ha := PySem.F.cmpArgs_ne (.ref x) b
  cases hsig : Manifest.signature? "object.__ne__" with
  | none => exact wpAny_pure hq
  | some sig =>
    simp only [argsOk, hsig] at ha
    have h2 : Bind.checkArgs "object.__ne__" sig ⟨[.ref x, b], []⟩ = pure () := ha
    show wpAny _ A (Bind.checkArgs "object.__ne__" sig ⟨[.ref x, b], []⟩) Q' E _
    rw [h2]; exact wpAny_pure hq
theorem ifBoundB_K {args : List Value} {Q : Option Value → Shared → Prop} (X : K.In s.heap) (I : InstAt s.heap x ox C od) (hs : findIn K (.ref C) "__ne__" = some (some (.builtin "object.__ne__")))
    (h : wpAny (model prog w) A (call (.builtin "object.__ne__") (.ref x :: args)) (fun v => Q (some v)) E s) : wpAny (model prog w) A (callSpecialIfBound? (.ref x) "__ne__" args) Q E s := by
  simp only [callSpecialIfBound?, bindSpecialIfBound?]
  refine wpAny_holding (wpAny_bind (wpAny_bind (wpAny_bind (I.type.here ((looks_findIn X hs).here ?_)))))
  simp only [PySem.F.cmp_object.ne.bind]
  refine wpAny_bind (wpAny_askSetting (wpAny_ite ?_))
  have fin : wpAny (model prog w) A (call (.builtin "object.__ne__") ([.ref x] ++ args) >>= fun v => pure (some v)) Q E s := wpAny_bind (wpAny_mono h (fun v s' h' => wpAny_pure h') fun _ _ h' => h')
  split
  · exact wpAny_bind (wpAny_pure (wpAny_pure fin))
  · exact wpAny_tryCatch (wpAny_bind (wpAny_pure (wpAny_pure fin)))
theorem cmpNe_K {Q : Value → Shared → Prop} (hu : A.units + 1 < cLine) (F : Fr h₀ L s.heap m) (X₀ : K.In h₀) (I : InstAt s.heap x ox C od) (hb : Looks (model prog w) s.heap (typeOf b) tb) (hn : notFirst K C tb = true)
    (hs : findIn K (.ref C) "__ne__" = some (some (.builtin "object.__ne__"))) (he : findIn K (.ref C) "__eq__" = some (some (.ref f))) (hf : isFn K (.ref f) = true) (so : subIn K (.ref C) (.type "object") = some true)
    (h : wpAny (model prog w) A.in1 (call (.ref f) [.ref x, b]) (fun v s' => ∃ b, v = .bool b ∧ Q (.bool (!b)) s') E s) : wpAny (model prog w) A (richCompare .NotEq (.ref x) b) Q E s := by
  have X := X₀.keeps F.keep
  have one : wpAny (model prog w) A (tryCompare (.ref x) "__ne__" b) (fun r s' => ∃ v, r = some v ∧ Q v s') E s := by
    simp only [tryCompare]
    refine wpAny_bind (ifBoundB_K X I hs (wpAny_call (codeAny_call_builtin PySem.F.cmp_object.ne.plain PySem.F.cmpEntry_ne (chkNe_K X I so (objNe_K (A := A.in1) hu X I he hf (wpAny_mono h (fun v s' hv => ?_) fun _ _ e => e))))))
    obtain ⟨c, rfl, hq⟩ := hv
    exact ⟨c, rfl, wpAny_pure ⟨_, rfl, hq⟩⟩
  unfold richCompare
  simp only [oneThing_ref]
  refine wpAny_holding (wpAny_bind (wpAny_cRoomFor (Nat.lt_of_succ_lt hu) ?_))
  rw [cmpInfo_NotEq]
  dsimp only
  refine wpAny_bind (I.type.here (wpAny_bind (hb.here ?_)))
  split
  · rename_i q
    have e : subIn K tb (.ref C) = some false := by
      rcases Bool.or_eq_true_iff.mp hn with e | e
      · rw [beq_iff_eq.mp e] at q; simp at q
      · exact beq_iff_eq.mp e
    refine wpAny_bind ((looks_subIn X e).here ?_)
    simp only [Bool.false_eq_true, if_false]
    refine wpAny_bind (wpAny_mono one (fun r s' z => ?_) fun _ _ e => e)
    obtain ⟨v, rfl, hq⟩ := z
    exact wpAny_pure hq
  · refine wpAny_bind (wpAny_pure ?_)
    simp only [Bool.false_eq_true, if_false]
    refine wpAny_bind (wpAny_mono one (fun r s' z => ?_) fun _ _ e => e)
    obtain ⟨v, rfl, hq⟩ := z
    exact wpAny_pure hq
end
end PySem.W
namespace BL
open PySem PySem.Spec PyProof.Rows L2
def rBinNe (C : Addr) (sp : Sp) : R2 := fun x y H Q => ∃ a b dx dy fs gs, x = .ref a ∧ y = .ref b ∧ H a = some (.ins C dx fs) ∧ H b = some (.ins C dy gs) ∧ sp [x, y] H (fun z H' => ∃ c, z = .bl c ∧ Q (.bl (!c)) H') C8.E0
section
variable {X : Cx} {n j : Nat} {C : Addr} {sp : Sp}
theorem op_neO (o : Own X.prog X.w X.K X.mg X.base n C "__eq__" sp) (hne : PySem.W.findIn X.K (.ref C) "__ne__" = some (some (.builtin "object.__ne__"))) (hob : PySem.W.subIn X.K (.ref C) (.type "object") = some true) (hr : Room j X.A) (hj : n + 1 ≤ j) : OpR X (compareOp .NotEq) (rBinNe C sp) := by
  obtain ⟨f, fd, ps, hs, hf, _, F, hb⟩ := o.ex
  intro pins s σ H x y v u Q I rx ry h
  obtain ⟨a, b, dx, dy, fs, gs, rfl, rfl, ha, hb', q⟩ := h
  cases (show v = Value.ref a from rx)
  cases (show u = Value.ref b from ry)
  obtain ⟨mA, O, _⟩ := ins_get I.hok ha
  obtain ⟨od, J, _⟩ := O.look
  obtain ⟨mB, O', _⟩ := ins_get I.hok hb'
  obtain ⟨od', J', _⟩ := O'.look
  obtain ⟨m, hF⟩ := I.fr
  have un := hr.un
  show wpAny (model X.prog X.w) X.A (richCompare .NotEq (.ref a) (.ref b)) (EP X pins σ Q) X.xe s
  refine PySem.W.cmpNe_K (tb := .ref C) (by omega) hF I.ok.mod.kin J J'.type (by simp [PySem.W.notFirst]) hne hs hf hob ?_
  have hl : ([Value.ref a, .ref b] ++ []).length = ps.length := by
    have := F.len [.ref a, .ref b] H _ _ q
    rw [← this]
    rfl
  have hr1 : Room n X.A.in1 := (hr.mono hj).in1
  have r2 : Vals ([.ref a, .ref b] ++ []) ([Value.ref a, .ref b] ++ []) := (Vals.append (.cons rfl (.cons rfl .nil)) .nil)
  refine wpAny_call (codeAny_mono (F.run X.A.in1 X.stack s H ⟨[.ref a, .ref b], []⟩ ([.ref a, .ref b] ++ []) ([.ref a, .ref b] ++ []) _ _ hr1 I.env0.in1 (hb s [.ref a, .ref b] I.kIn hl) r2 q) fun r s' hq => ?_)
  cases r with
  | error e => exact pass0 pins σ H s e s' I hq
  | ok fl =>
    cases fl with
    | ret w =>
      obtain ⟨z, H', I', rz, c, rfl, qc⟩ := I.after hq
      cases (show w = Value.bool c from rz)
      exact ⟨c, rfl, .bl (!c), H', I', rfl, qc⟩
    | next => exact False.elim hq
    | brk => exact False.elim hq
    | cont => exact False.elim hq
theorem xbinNe {e : Expr} {ma mb : ME} {f : List PV → List PV → Option (PV × List PV)} (h : PE X e (tOp (rBinNe C (spM X.K C f)) (tM X.K C ma) (tM X.K C mb))) : PE X e (tM X.K C (mNotV (mBin f ma mb))) := PE.weak h fun σ H Q ⟨W0, W, ρ, S, z, S', eH, R, em, q⟩ => by
  have key : ∃ c, mBin f ma mb ρ S = some (.bl c, S') ∧ z = .bl (!c) := by
    unfold mNotV at em
    split at em
    · rename_i c S1 e1
      cases em
      exact ⟨c, e1, rfl⟩
    · cases em
  obtain ⟨c, ec, rfl⟩ := key
  have := bin_lift (K := X.K) (C := C) (f := f) (ma := ma) (mb := mb) (σ := σ) (H := H) (Q := fun z H' => ∃ c, z = .bl c ∧ Q (.bl (!c)) H') ⟨W0, W, ρ, S, .bl c, S', eH, R, ec, fun v W1 R1 g1 r1 => by
    cases r1
    exact ⟨c, rfl, q (.bl (!c)) W1 R1 g1 (.bl _)⟩⟩
  exact this
end
end BL

namespace BL
open PySem PySem.Spec PyProof.Rows L2
/-! continue -/
def mCt : MS := fun ρ S => some (.ct ρ S)
theorem xct {X : Cx} {C : Addr} {pos : Pos} : PS X (.Continue pos) (tMS X.K C mCt) := PS.weak ps_continue fun D σ H ⟨W0, W, ρ, S, out, eH, R, em, q⟩ => by
  subst eH
  cases em
  exact q σ W (GroF.refl _) R
/-! a way beside what is none -/
def noW : PV → Bool
  | .int _ => true
  | .tup _ => true
  | _ => false
def mIsN (ma : ME) : ME := fun ρ S => match ma ρ S with
  | some (x, S1) => if noW x = true then some (.bl false, S1) else none
  | none => none
def mDeadE : ME := fun _ _ => none
section
variable {X : Cx} {C : Addr} {e : Expr} {ma mb : ME}
theorem xdeadE : PE X e (tM X.K C mDeadE) := ⟨fun _ _ _ _ _ _ ⟨_, _, _, _, _, _, _, _, em, _⟩ => by cases em⟩
theorem xisN (ki : PySem.W.kitOne X.K (.type "int") (.ref C) = some false) (kt : PySem.W.kitOne X.K (.type "tuple") (.ref C) = some false) (h : PE X e (tCB (rIsi X.K) (tCons (tM X.K C ma) (tCons (tC (.ref C)) tNil)))) : PE X e (tM X.K C (mIsN ma)) := PE.weak h fun σ H Q ⟨W0, W, ρ, S, z, S', eH, R, em, q⟩ => by
  subst eH
  unfold mIsN at em
  split at em
  · rename_i x S1 e1
    split at em
    · rename_i hx
      cases em
      refine ⟨W0, W, ρ, S, x, S', rfl, R, e1, fun v W1 R1 g1 r1 => ?_⟩
      cases r1 with
      | int i => exact ⟨_, _, .type "int", _, false, rfl, .own C, .base (.int i), ki, q _ W1 R1 g1 (.bl _)⟩
      | tup hh a => exact ⟨_, _, .type "tuple", _, false, rfl, .own C, ty_t (R1.i.s.seT hh), kt, q _ W1 R1 g1 (.bl _)⟩
      | _ => cases hx
    · cases em
  · cases em
/-- the left one an instance of the class, the right one a number or a tuple -/
def rBinX (K : PySem.W.Frag) (C : Addr) (sp : Sp) : R2 := fun x y H Q => ∃ a dx fs, x = .ref a ∧ H a = some (.ins C dx fs) ∧ ((∃ i, y = .int i) ∨ ∃ p ys, y = .ref p ∧ SqT K H p ys) ∧ sp [x, y] H Q C8.E0
theorem op_eqX {n j : Nat} {sp : Sp} (o : Own X.prog X.w X.K X.mg X.base n C "__eq__" sp) (si : PySem.W.subIn X.K (.type "int") (.ref C) = some false) (sT : PySem.W.subIn X.K (.type "tuple") (.ref C) = some false) (hr : Room j X.A) (hj : n ≤ j) : OpR X (compareOp .Eq) (rBinX X.K C sp) := by
  obtain ⟨f, fd, ps, hs, hf, _, F, hb⟩ := o.ex
  intro pins s σ H x y v u Q I rx ry h
  obtain ⟨a, dx, fs, rfl, ha, hy, q⟩ := h
  cases (show v = Value.ref a from rx)
  obtain ⟨mA, O, _⟩ := ins_get I.hok ha
  obtain ⟨od, J, _⟩ := O.look
  obtain ⟨m, hF⟩ := I.fr
  show wpAny (model X.prog X.w) X.A (richCompare .Eq (.ref a) u) (EP X pins σ Q) X.xe s
  have key : ∃ T, PySem.W.Looks (model X.prog X.w) s.heap (typeOf u) T ∧ PySem.W.notFirst X.K C T = true := by
    rcases hy with ⟨i, rfl⟩ | ⟨p, ys, rfl, hp⟩
    · obtain ⟨t, rfl⟩ := (show ∃ t, u = Value.int i t from ry)
      exact ⟨.type "int", .of_pure rfl, by unfold PySem.W.notFirst; rw [si]; rfl⟩
    · cases (show u = Value.ref p from ry)
      obtain ⟨its, _, ⟨ob, h1, h2, _⟩, _⟩ := I.tuple hp
      exact ⟨.type "tuple", fun A Q E s k q => wpAny_typeOf_ref (k _ _ h1) (by rw [h2]; exact q), by unfold PySem.W.notFirst; rw [sT]; rfl⟩
  obtain ⟨T, hT, hn⟩ := key
  refine PySem.W.cmp_K (op := .Eq) (tb := T) hr.units0 hF I.ok.mod.kin J hT hn hs hf ?_
  refine wpAny_mono (run_fn (us := [.ref a, u]) (vs := [.ref a, y]) F (hr.mono hj) hb .nil pass0 I (.cons rfl (.cons ry .nil)) q) (fun w s' z => ?_) fun _ _ x => x
  obtain ⟨z', H', I', rz, qz⟩ := z
  exact SlX.cmpback rz ⟨z', H', I', rz, qz⟩
def rBinXN (K : PySem.W.Frag) (C : Addr) (sp : Sp) : R2 := fun x y H Q => ∃ a dx fs, x = .ref a ∧ H a = some (.ins C dx fs) ∧ ((∃ i, y = .int i) ∨ ∃ p ys, y = .ref p ∧ SqT K H p ys) ∧ sp [x, y] H (fun z H' => ∃ c, z = .bl c ∧ Q (.bl (!c)) H') C8.E0
theorem op_neX {n j : Nat} {sp : Sp} (o : Own X.prog X.w X.K X.mg X.base n C "__eq__" sp) (si : PySem.W.subIn X.K (.type "int") (.ref C) = some false) (sT : PySem.W.subIn X.K (.type "tuple") (.ref C) = some false)
    (hne : PySem.W.findIn X.K (.ref C) "__ne__" = some (some (.builtin "object.__ne__"))) (hob : PySem.W.subIn X.K (.ref C) (.type "object") = some true) (hr : Room j X.A) (hj : n + 1 ≤ j) : OpR X (compareOp .NotEq) (rBinXN X.K C sp) := by
  obtain ⟨f, fd, ps, hs, hf, _, F, hb⟩ := o.ex
  intro pins s σ H x y v u Q I rx ry h
  obtain ⟨a, dx, fs, rfl, ha, hy, q⟩ := h
  cases (show v = Value.ref a from rx)
  obtain ⟨mA, O, _⟩ := ins_get I.hok ha
  obtain ⟨od, J, _⟩ := O.look
  obtain ⟨m, hF⟩ := I.fr
  have un := hr.un
  show wpAny (model X.prog X.w) X.A (richCompare .NotEq (.ref a) u) (EP X pins σ Q) X.xe s
  have key : ∃ T, PySem.W.Looks (model X.prog X.w) s.heap (typeOf u) T ∧ PySem.W.notFirst X.K C T = true := by
    rcases hy with ⟨i, rfl⟩ | ⟨p, ys, rfl, hp⟩
    · obtain ⟨t, rfl⟩ := (show ∃ t, u = Value.int i t from ry)
      exact ⟨.type "int", .of_pure rfl, by unfold PySem.W.notFirst; rw [si]; rfl⟩
    · cases (show u = Value.ref p from ry)
      obtain ⟨its, _, ⟨ob, h1, h2, _⟩, _⟩ := I.tuple hp
      exact ⟨.type "tuple", fun A Q E s k q => wpAny_typeOf_ref (k _ _ h1) (by rw [h2]; exact q), by unfold PySem.W.notFirst; rw [sT]; rfl⟩
  obtain ⟨T, hT, hn⟩ := key
  refine PySem.W.cmpNe_K (tb := T) (by omega) hF I.ok.mod.kin J hT hn hne hs hf hob ?_
  have hl : ([Value.ref a, u] ++ []).length = ps.length := by
    have := F.len [.ref a, y] H _ _ q
    rw [← this]
    rfl
  have hr1 : Room n X.A.in1 := (hr.mono hj).in1
  have r2 : Vals ([.ref a, y] ++ []) ([Value.ref a, u] ++ []) := (Vals.append (.cons rfl (.cons ry .nil)) .nil)
  refine wpAny_call (codeAny_mono (F.run X.A.in1 X.stack s H ⟨[.ref a, u], []⟩ ([.ref a, u] ++ []) ([.ref a, y] ++ []) _ _ hr1 I.env0.in1 (hb s [.ref a, u] I.kIn hl) r2 q) fun r s' hq => ?_)
  cases r with
  | error e => exact pass0 pins σ H s e s' I hq
  | ok fl =>
    cases fl with
    | ret w =>
      obtain ⟨z, H', I', rz, c, rfl, qc⟩ := I.after hq
      cases (show w = Value.bool c from rz)
      exact ⟨c, rfl, .bl (!c), H', I', rfl, qc⟩
    | next => exact False.elim hq
    | brk => exact False.elim hq
    | cont => exact False.elim hq
def mBinX (f : List PV → List PV → Option (PV × List PV)) (ma mb : ME) : ME := fun ρ S => match ma ρ S with
  | some (.way s g c, S1) => match mb ρ S1 with
    | some (y, S2) => if noW y = true then f [.way s g c, y] S2 else none
    | none => none
  | _ => none
theorem binX_lift {K : PySem.W.Frag} {f : List PV → List PV → Option (PV × List PV)} {σ : L2.St} {H : Hp} {Q : VK} (h : tM K C (mBinX f ma mb) σ H Q) : tOp (rBinX K C (spM K C f)) (tM K C ma) (tM K C mb) σ H Q := by
  obtain ⟨W0, W, ρ, S, z, S', eH, R, em, q⟩ := h
  subst eH
  unfold mBinX at em
  split at em
  · rename_i s g c S1 e1
    split at em
    · rename_i y S2 e2
      split at em
      · rename_i hy
        refine ⟨W0, W, ρ, S, _, S1, rfl, R, e1, fun v W1 R1 g1 r1 => ⟨W0, W1, ρ, S1, _, S2, rfl, R1, e2, fun u W2 R2 g2 r2 => ?_⟩⟩
        have r1' := r1.ext g2
        have r2' := r2
        cases r1 with
        | way h =>
          obtain ⟨dx, hx⟩ := h.same g2.f
          refine ⟨_, dx, _, rfl, R2.i.s _ _ hx, ?_, W2, S2, _, z, S', rfl, R2.i, .cons r1' (.cons r2' .nil), em, fun v W3 g3 i3 r3 => q v W3 (R2.ext g3 i3) ((g1.trans g2).trans g3) r3⟩
          cases r2 with
          | int i => exact .inl ⟨i, rfl⟩
          | tup hh a => exact .inr ⟨_, _, rfl, R2.i.s.seT hh⟩
          | _ => cases hy
      · cases em
    · cases em
  · cases em
theorem xbinX {f : List PV → List PV → Option (PV × List PV)} (h : PE X e (tOp (rBinX X.K C (spM X.K C f)) (tM X.K C ma) (tM X.K C mb))) : PE X e (tM X.K C (mBinX f ma mb)) := PE.weak h fun σ H Q q => binX_lift q
theorem xbinXN {f : List PV → List PV → Option (PV × List PV)} (h : PE X e (tOp (rBinXN X.K C (spM X.K C f)) (tM X.K C ma) (tM X.K C mb))) : PE X e (tM X.K C (mNotV (mBinX f ma mb))) := PE.weak h fun σ H Q ⟨W0, W, ρ, S, z, S', eH, R, em, q⟩ => by
  have key : ∃ c, mBinX f ma mb ρ S = some (.bl c, S') ∧ z = .bl (!c) := by
    unfold mNotV at em
    split at em
    · rename_i c S1 e1
      cases em
      exact ⟨c, e1, rfl⟩
    · cases em
  obtain ⟨c, ec, rfl⟩ := key
  have := binX_lift (K := X.K) (C := C) (f := f) (ma := ma) (mb := mb) (σ := σ) (H := H) (Q := fun z H' => ∃ c, z = .bl c ∧ Q (.bl (!c)) H') ⟨W0, W, ρ, S, .bl c, S', eH, R, ec, fun v W1 R1 g1 r1 => by
    cases r1
    exact ⟨c, rfl, q (.bl (!c)) W1 R1 g1 (.bl _)⟩⟩
  exact this
end
def m_eqNB : MS := (mRet (mAndV (mIsN (mVar 1)) mDeadE))
def m_eqN : List PV → List PV → Option (PV × List PV) := mDef 2 2 m_eqNB
end BL

namespace BL
open PySem PySem.Spec PyProof.Rows L2
/-! a, b = x, y and a, b, c = x, y, z, own lists among what is stored -/
section
variable {K : PySem.W.Frag} {C : Addr}
def FrV (K : PySem.W.Frag) (C : Addr) (W0 Ws W : Wd) (σ : L2.St) (ρ : List SlV) (v : V) : SlV → Prop
  | .val x => RepW K C W v x
  | .own x => ∃ a, v = .ref a ∧ OwnAt K C W0 W a x ∧ Ws.H a = none ∧ ∀ (j : Nat) (y : PV), ρ[j]? = some (.own y) → σ[j]? = some (some (.ref a)) → False
  | .un => False
inductive FrA (K : PySem.W.Frag) (C : Addr) (W0 Ws W : Wd) (σ : L2.St) (ρ : List SlV) : List V → List SlV → Prop
  | nil : FrA K C W0 Ws W σ ρ [] []
  | cons {v : V} {z : SlV} {vs : List V} {zs : List SlV} : FrV K C W0 Ws W σ ρ v z → FrA K C W0 Ws W σ ρ vs zs → (∀ (x : PV) (a : Addr), z = .own x → v = .ref a → ∀ (k : Nat) (y : PV), zs[k]? = some (.own y) → vs[k]? = some (.ref a) → False) → FrA K C W0 Ws W σ ρ (v :: vs) (z :: zs)
theorem FrV.start {W0 Ws W2 W : Wd} {σ : L2.St} {ρ : List SlV} {v : V} {z : SlV} (g : Gro Ws W2) (h : FrV K C W0 W2 W σ ρ v z) : FrV K C W0 Ws W σ ρ v z := by
  cases z with
  | un => exact h
  | val x => exact h
  | own x =>
    obtain ⟨a, e, o, n, d⟩ := h
    refine ⟨a, e, o, ?_, d⟩
    cases c : Ws.H a with
    | none => rfl
    | some o' =>
      obtain ⟨o'', e''⟩ := g.k a o' c
      rw [n] at e''
      cases e''
theorem FrA.start {W0 Ws W2 W : Wd} {σ : L2.St} {ρ : List SlV} {vs : List V} {zs : List SlV} (g : Gro Ws W2) (h : FrA K C W0 W2 W σ ρ vs zs) : FrA K C W0 Ws W σ ρ vs zs := by
  induction h with
  | nil => exact .nil
  | cons h1 _ h3 ih => exact .cons (h1.start g) ih h3
theorem FrA.at {W0 Ws W : Wd} {σ : L2.St} {ρ : List SlV} {vs : List V} {zs : List SlV} (h : FrA K C W0 Ws W σ ρ vs zs) : ∀ (k : Nat) (z : SlV), zs[k]? = some z → ∃ v, vs[k]? = some v ∧ FrV K C W0 Ws W σ ρ v z := by
  induction h with
  | nil => intro k z e; cases e
  | cons h1 _ h3 ih =>
    intro k z e
    cases k with
    | zero => cases e; exact ⟨_, rfl, h1⟩
    | succ k => exact ih k z e
theorem FrA.len {W0 Ws W : Wd} {σ : L2.St} {ρ : List SlV} {vs : List V} {zs : List SlV} (h : FrA K C W0 Ws W σ ρ vs zs) : vs.length = zs.length := by
  induction h with
  | nil => rfl
  | cons _ _ _ ih => exact congrArg Nat.succ ih
/-- one slot is filled -/
theorem Rel.setF {W0 Ws W : Wd} {σ : L2.St} {ρ : List SlV} {S : List PV} (R : Rel K C W0 W σ ρ S) {i : Nat} {v : V} {z : SlV} (h : FrV K C W0 Ws W σ ρ v z) (hi : i < ρ.length) : Rel K C W0 W (σ.set i (some v)) (ρ.set i z) S := by
  cases z with
  | un => exact h.elim
  | val x => exact R.setv i h hi
  | own x =>
    obtain ⟨a, rfl, o, _, d⟩ := h
    exact R.seto i o hi d
theorem FrV.setF {W0 Ws W : Wd} {σ : L2.St} {ρ : List SlV} {i : Nat} {v u : V} {z y : SlV} (l : σ.length = ρ.length) (h : FrV K C W0 Ws W σ ρ u y) (ap : ∀ (x x' : PV) (a : Addr), z = .own x → v = .ref a → y = .own x' → u = .ref a → False) (hi : i < ρ.length) : FrV K C W0 Ws W (σ.set i (some v)) (ρ.set i z) u y := by
  cases y with
  | un => exact h
  | val x => exact h
  | own x' =>
    obtain ⟨a, rfl, o, n, d⟩ := h
    refine ⟨a, rfl, o, n, fun j w h1 h2 => ?_⟩
    by_cases c : i = j
    · subst c
      rw [List.getElem?_set_self hi] at h1
      rw [List.getElem?_set_self (by rw [l]; exact hi)] at h2
      cases h1
      cases Option.some.inj (Option.some.inj h2)
      exact ap w x' a rfl rfl rfl rfl
    · rw [List.getElem?_set_ne c] at h1 h2
      exact d j w h1 h2
abbrev MF := List SlV → List PV → Option (List SlV × List PV)
def tMF (K : PySem.W.Frag) (C : Addr) (m : MF) : TA := fun σ H Q => ∃ W0 W ρ S zs S', H = W.H ∧ Rel K C W0 W σ ρ S ∧ m ρ S = some (zs, S') ∧ ∀ vs W', Rel K C W0 W' σ ρ S' → Gro W W' → FrA K C W0 W W' σ ρ vs zs → Q vs W'.H
end
section
variable {X : Cx} {C : Addr} {ma : ME} {mes : MA} {mf : MF} {a : Expr} {es : List Expr} {st : Stmt}
def mfNil : MF := fun ρ S => some ([], S)
theorem xfnil : PA X [] (tMF X.K C mfNil) := PA.weak pa_nil fun σ H Q ⟨W0, W, ρ, S, zs, S', eH, R, em, q⟩ => by
  subst eH
  cases em
  exact q [] W R (Gro.refl _) .nil
def mfV (ma : ME) (mf : MF) : MF := fun ρ S => match ma ρ S with
  | some (x, S1) => match mf ρ S1 with
    | some (zs, S2) => some (.val x :: zs, S2)
    | none => none
  | none => none
theorem xfv (ha : PE X a (tM X.K C ma)) (hr : PA X es (tMF X.K C mf)) (hs : starEach (a :: es) X.env = (false, eval a X.env) :: starEach es X.env := by rfl) : PA X (a :: es) (tMF X.K C (mfV ma mf)) := PA.weak (pa_cons ha hr hs) fun σ H Q ⟨W0, W, ρ, S, zs, S', eH, R, em, q⟩ => by
  subst eH
  unfold mfV at em
  split at em
  · rename_i x S1 e1
    split at em
    · rename_i ys S2 e2
      cases em
      exact ⟨W0, W, ρ, S, x, S1, rfl, R, e1, fun v W1 R1 g1 r1 => ⟨W0, W1, ρ, S1, ys, S', rfl, R1, e2, fun vs W2 R2 g2 f2 => q (v :: vs) W2 R2 (g1.trans g2) (.cons (show RepW X.K C W2 v x from Rep.ext r1 g2) (f2.start g1) fun _ _ z => nomatch z)⟩⟩
    · cases em
  · cases em
def mfO (mes : MA) (mf : MF) : MF := fun ρ S => match mes ρ S with
  | some (xs, S1) => if xs.length ≤ 100000 then (match mf ρ S1 with
    | some (zs, S2) => some (.own (.lst xs) :: zs, S2)
    | none => none) else none
  | none => none
theorem xfo (ha : PE X a (tLst (tMA X.K C mes))) (hr : PA X es (tMF X.K C mf)) (hs : starEach (a :: es) X.env = (false, eval a X.env) :: starEach es X.env := by rfl) : PA X (a :: es) (tMF X.K C (mfO mes mf)) := PA.weak (pa_cons ha hr hs) fun σ H Q ⟨W0, W, ρ, S, zs, S', eH, R, em, q⟩ => by
  subst eH
  unfold mfO at em
  split at em
  · rename_i xs S1 e1
    split at em
    · rename_i hl
      split at em
      · rename_i ys S2 e2
        cases em
        refine ⟨W0, W, ρ, S, xs, S1, rfl, R, e1, fun vs W1 R1 g1 r1 => ⟨by rw [r1.len]; exact Nat.le_trans hl lim, fun p np => ?_⟩⟩
        obtain ⟨g2, R2, o2, d2⟩ := laidO R1 r1 np
        refine ⟨W0, _, ρ, S1, ys, S', rfl, R2, e2, fun us W3 R3 g3 f3 => q (.ref p :: us) W3 R3 ((g1.trans g2).trans g3) (.cons ⟨p, rfl, o2.ext g3, ?_, d2⟩ (f3.start (g1.trans g2)) fun x a _ e k y ek eu => ?_)⟩
        · cases c : W.H p with
          | none => rfl
          | some o =>
            obtain ⟨o', e'⟩ := g1.k p o c
            rw [np] at e'
            cases e'
        · cases e
          obtain ⟨v, ev, fv⟩ := f3.at k _ ek
          rw [eu] at ev
          cases ev
          obtain ⟨a, ea, _, nn, _⟩ := fv
          cases ea
          have : (upd W1.H p (.lst vs)) p = none := nn
          rw [upd_same] at this
          cases this
      · cases em
    · cases em
  · cases em
def mParF (i j : Nat) (mf : MF) : MS := fun ρ S => match mf ρ S with
  | some ([y, z], S1) => if i < ρ.length ∧ j < ρ.length ∧ i ≠ j then some (.nx ((ρ.set i y).set j z) S1) else none
  | _ => none
theorem xparF {i j : Nat} (h : PS X st (tPar i j (tMF X.K C mf))) : PS X st (tMS X.K C (mParF i j mf)) := PS.weak h fun D σ H ⟨W0, W, ρ, S, out, eH, R, em, p⟩ => by
  subst eH
  unfold mParF at em
  split at em
  · rename_i y z S1 e1
    split at em
    · rename_i hl
      cases em
      refine ⟨W0, W, ρ, S, _, S1, rfl, R, e1, fun vs W1 R1 g1 f1 => ?_⟩
      cases f1 with
      | cons h1 f2 a1 =>
        cases f2 with
        | cons h2 f3 _ =>
          cases f3
          refine ⟨_, _, rfl, p _ W1 g1.groF ((R1.setF h1 hl.1).setF (h2.setF R1.l (fun x x' a e1 e2 e3 e4 => a1 x a e1 e2 0 x' (by rw [← e3]; rfl) (by rw [← e4]; rfl)) hl.1) (by rw [List.length_set]; exact hl.2.1))⟩
    · cases em
  · cases em
def mParF3 (i j l : Nat) (mf : MF) : MS := fun ρ S => match mf ρ S with
  | some ([x, y, z], S1) => if i < ρ.length ∧ j < ρ.length ∧ l < ρ.length ∧ i ≠ j then some (.nx (((ρ.set i x).set j y).set l z) S1) else none
  | _ => none
theorem xparF3 {i j l : Nat} (h : PS X st (tPar3 i j l (tMF X.K C mf))) : PS X st (tMS X.K C (mParF3 i j l mf)) := PS.weak h fun D σ H ⟨W0, W, ρ, S, out, eH, R, em, p⟩ => by
  subst eH
  unfold mParF3 at em
  split at em
  · rename_i x y z S1 e1
    split at em
    · rename_i hl
      cases em
      refine ⟨W0, W, ρ, S, _, S1, rfl, R, e1, fun vs W1 R1 g1 f1 => ?_⟩
      cases f1 with
      | cons h1 f2 a1 =>
        cases f2 with
        | cons h2 f3 a2 =>
          cases f3 with
          | cons h3 f4 a3 =>
            cases f4
            have R2 := R1.setF h1 hl.1
            have k2 := h2.setF R1.l (fun x x' a e1 e2 e3 e4 => a1 x a e1 e2 0 x' (by rw [← e3]; rfl) (by rw [← e4]; rfl)) hl.1
            have k3 := h3.setF R1.l (fun x x' a e1 e2 e3 e4 => a1 x a e1 e2 1 x' (by rw [← e3]; rfl) (by rw [← e4]; rfl)) hl.1
            have R3 := R2.setF k2 (by rw [List.length_set]; exact hl.2.1)
            have k4 := k3.setF R2.l (fun x x' a e1 e2 e3 e4 => a2 x a e1 e2 0 x' (by rw [← e3]; rfl) (by rw [← e4]; rfl)) (by rw [List.length_set]; exact hl.2.1)
            exact ⟨_, _, _, rfl, p _ W1 g1.groF (R3.setF k4 (by rw [List.length_set, List.length_set]; exact hl.2.2.1))⟩
    · cases em
  · cases em
variable {ρ : List SlV} {S : List PV}
@[simp] theorem e_fnil : mfNil ρ S = some ([], S) := rfl
@[simp] theorem e_fv : mfV ma mf ρ S = match ma ρ S with | some (x, S1) => (match mf ρ S1 with | some (zs, S2) => some (.val x :: zs, S2) | none => none) | none => none := rfl
@[simp] theorem e_fo : mfO mes mf ρ S = match mes ρ S with | some (xs, S1) => if xs.length ≤ 100000 then (match mf ρ S1 with | some (zs, S2) => some (.own (.lst xs) :: zs, S2) | none => none) else none | none => none := rfl
@[simp] theorem e_parF (i j : Nat) : mParF i j mf ρ S = match mf ρ S with | some ([y, z], S1) => if i < ρ.length ∧ j < ρ.length ∧ i ≠ j then some (.nx ((ρ.set i y).set j z) S1) else none | _ => none := rfl
@[simp] theorem e_parF3 (i j l : Nat) : mParF3 i j l mf ρ S = match mf ρ S with | some ([x, y, z], S1) => if i < ρ.length ∧ j < ρ.length ∧ l < ρ.length ∧ i ≠ j then some (.nx (((ρ.set i x).set j y).set l z) S1) else none | _ => none := rfl
end
end BL

namespace BL
open PySem PySem.Spec PyProof.Rows L2
/-! y.append(x.pop(i)), x and y two own lists -/
section
variable {K : PySem.W.Frag} {C : Addr}
theorem RepAll.erase {F : Hp} {θ : List Addr} : ∀ {vs : List V} {xs : List PV} (i : Nat), RepAll K C F θ vs xs → RepAll K C F θ (vs.eraseIdx i) (xs.eraseIdx i)
  | _, _, _, .nil => .nil
  | _, _, 0, .cons _ r => r
  | _, _, i + 1, .cons h r => .cons h (RepAll.erase i r)
end
section
variable {X : Cx} {C : Addr} {st : Stmt}
theorem ixQ {n k : Nat} {i : Int} (h : ixP n i = some k) : seqIndex? i n = some k := (ixN_seq (by rw [← ixP_eq]; exact h)).1
def mAppPop (j i : Nat) (mi : ME) : MS := fun ρ S => match mi ρ S with
  | some (.int k, S1) => match ρ[i]? with
    | some (.own (.lst xs)) => match ρ[j]? with
      | some (.own (.lst ys)) => if i ≠ j ∧ ys.length ≤ 100000 ∧ -(2 ^ 62) ≤ k ∧ k < 2 ^ 62 then (match ixP xs.length k with
        | some n => (match xs[n]? with
          | some y => some (.nx ((ρ.set i (.own (.lst (xs.eraseIdx n)))).set j (.own (.lst (ys ++ [y])))) S1)
          | none => none)
        | none => none) else none
      | _ => none
    | _ => none
  | _ => none
theorem xappPop {i j : Nat} {mi : ME} (h : PS X st (tDrop (tBM X.K "list" rAppend (tVar j) (tCons (tBM X.K "list" rPopAt (tVar i) (tCons (tM X.K C mi) tNil)) tNil)))) : PS X st (tMS X.K C (mAppPop j i mi)) := PS.weak h fun D σ H ⟨W0, W, ρ, S, out, eH, R, em, p⟩ => by
  subst eH
  unfold mAppPop at em
  split at em
  · rename_i k S1 e1
    split at em
    · rename_i xs hx
      split at em
      · rename_i ys hy
        split at em
        · rename_i hc
          obtain ⟨ij, hl, k0, k1⟩ := hc
          split at em
          · rename_i n hn
            split at em
            · rename_i y hyn
              cases em
              obtain ⟨a, ea, o1, o2, o3, us, eh, ru⟩ := R.s j _ hy
              obtain ⟨b, eb, q1, q2, q3, ui, ehi, rui⟩ := R.s i _ hx
              refine ⟨_, ea, .inl ⟨rfl, us, SqL.of eh⟩, _, eb, .inl ⟨rfl, ui, SqL.of ehi⟩, W0, W, ρ, S, .int k, S1, rfl, R, e1, fun v W1 R1 g1 r1 => ?_⟩
              cases r1
              obtain ⟨b', eb', _, _, _, ui', ehi', rui'⟩ := R1.s i _ hx
              rw [eb] at eb'
              cases Option.some.inj (Option.some.inj eb')
              obtain ⟨u, hu, ry⟩ := rui'.at hyn
              have R2 := R1.ownUpd hx eb (rui'.erase n)
              refine ⟨b, ui', k, n, u, rfl, rfl, ehi', by omega, by omega, by rw [rui'.len]; exact ixQ hn, hu, ?_⟩
              have hy2 : (ρ.set i (.own (.lst (xs.eraseIdx n))))[j]? = some (.own (.lst ys)) := by rw [List.getElem?_set_ne ij]; exact hy
              obtain ⟨a', ea', _, _, _, us', eh', ru'⟩ := R2.s j _ hy2
              rw [ea] at ea'
              cases Option.some.inj (Option.some.inj ea')
              refine ⟨a, us', u, rfl, rfl, eh', by rw [ru'.len]; exact Nat.lt_of_le_of_lt hl (by decide), ?_⟩
              exact p σ ⟨W1.F, upd (upd W1.H b (.lst (ui'.eraseIdx n))) a (.lst (us' ++ [u])), W1.θ⟩ ⟨g1.groF.f, g1.groF.t⟩ (R2.ownUpd hy2 ea (ru'.app (.cons ry .nil)))
            · cases em
          · cases em
        · cases em
      · cases em
    · cases em
  · cases em
@[simp] theorem e_appPop {ρ : List SlV} {S : List PV} {mi : ME} (j i : Nat) : mAppPop j i mi ρ S = match mi ρ S with
  | some (.int k, S1) => match ρ[i]? with
    | some (.own (.lst xs)) => match ρ[j]? with
      | some (.own (.lst ys)) => if i ≠ j ∧ ys.length ≤ 100000 ∧ -(2 ^ 62) ≤ k ∧ k < 2 ^ 62 then (match ixP xs.length k with
        | some n => (match xs[n]? with
          | some y => some (.nx ((ρ.set i (.own (.lst (xs.eraseIdx n)))).set j (.own (.lst (ys ++ [y])))) S1)
          | none => none)
        | none => none) else none
      | _ => none
    | _ => none
  | _ => none := rfl
/-- list(e) as a new own list, among several values -/
def lsT : PV → Option (List PV)
  | .lst xs => some xs
  | .tup xs => some xs
  | _ => none
def mfL (ma : ME) (mf : MF) : MF := fun ρ S => match ma ρ S with
  | some (x, S1) => match lsT x with
    | some xs => (match mf ρ S1 with
      | some (zs, S2) => some (.own (.lst xs) :: zs, S2)
      | none => none)
    | none => none
  | none => none
theorem lsT_rep {K : PySem.W.Frag} {W0 W : Wd} {σ : L2.St} {ρ : List SlV} {S : List PV} {v : V} {x : PV} {xs : List PV} (R : Rel K C W0 W σ ρ S) (h : lsT x = some xs) (r : RepW K C W v x) : ∃ p us, v = .ref p ∧ (SqL K W.H p us ∨ SqT K W.H p us) ∧ RepAll K C W.F W.θ us xs := by
  unfold lsT at h
  split at h
  · cases h
    cases r with
    | lst h a => exact ⟨_, _, rfl, .inl (R.i.s.seq (SqL.of h)), a⟩
  · cases h
    cases r with
    | tup h a => exact ⟨_, _, rfl, .inr (R.i.s.seT h), a⟩
  · cases h
theorem xfl {ma : ME} {mf : MF} {a : Expr} {es : List Expr} (ha : PE X a (tCB (fun xs H Q => ∃ p ys, xs = [.ref p] ∧ (SqL X.K H p ys ∨ SqT X.K H p ys) ∧ ∀ l, H l = none → Q (.ref l) (upd H l (.lst ys))) (tCons (tM X.K C ma) tNil))) (hr : PA X es (tMF X.K C mf)) (hs : starEach (a :: es) X.env = (false, eval a X.env) :: starEach es X.env := by rfl) : PA X (a :: es) (tMF X.K C (mfL ma mf)) := PA.weak (pa_cons ha hr hs) fun σ H Q ⟨W0, W, ρ, S, zs, S', eH, R, em, q⟩ => by
  subst eH
  unfold mfL at em
  split at em
  · rename_i x S1 e1
    split at em
    · rename_i xs hx
      split at em
      · rename_i ys S2 e2
        cases em
        refine ⟨W0, W, ρ, S, x, S1, rfl, R, e1, fun v W1 R1 g1 r1 => ?_⟩
        obtain ⟨p0, vs, rfl, hq, ra⟩ := lsT_rep R1 hx r1
        refine ⟨p0, vs, rfl, hq, fun p np => ?_⟩
        obtain ⟨g2, R2, o2, d2⟩ := laidO R1 ra np
        refine ⟨W0, _, ρ, S1, ys, S', rfl, R2, e2, fun us W3 R3 g3 f3 => q (.ref p :: us) W3 R3 ((g1.trans g2).trans g3) (.cons ⟨p, rfl, o2.ext g3, ?_, d2⟩ (f3.start (g1.trans g2)) fun x a _ e k y ek eu => ?_)⟩
        · cases c : W.H p with
          | none => rfl
          | some o =>
            obtain ⟨o', e'⟩ := g1.k p o c
            rw [np] at e'
            cases e'
        · cases e
          obtain ⟨v, ev, fv⟩ := f3.at k _ ek
          rw [eu] at ev
          cases ev
          obtain ⟨a, ea, _, nn, _⟩ := fv
          cases ea
          have : (upd W1.H p (.lst vs)) p = none := nn
          rw [upd_same] at this
          cases this
      · cases em
    · cases em
  · cases em
@[simp] theorem e_fl {ρ : List SlV} {S : List PV} {ma : ME} {mf : MF} : mfL ma mf ρ S = match ma ρ S with
  | some (x, S1) => match lsT x with
    | some xs => (match mf ρ S1 with
      | some (zs, S2) => some (.own (.lst xs) :: zs, S2)
      | none => none)
    | none => none
  | none => none := rfl
@[simp] theorem lsT_l (xs : List PV) : lsT (.lst xs) = some xs := rfl
@[simp] theorem lsT_t (xs : List PV) : lsT (.tup xs) = some xs := rfl
end
end BL

namespace L2
open PySem PySem.Spec PyProof.Rows
/-! zip of three lists -/
def Itz3 (K : PySem.W.Frag) (a b c : Addr) : It :=
  ⟨fun i H => ∃ (xs ys zs : List V) (x y u : V), SqL K H a xs ∧ SqL K H b ys ∧ SqL K H c zs ∧ xs[i]? = some x ∧ ys[i]? = some y ∧ zs[i]? = some u,
    fun i H v H' => ∃ T x y u, v = .ref T ∧ H T = none ∧ H' = upd H T (.tup [x, y, u]) ∧ (∀ xs, SqL K H a xs → xs[i]? = some x) ∧ (∀ ys, SqL K H b ys → ys[i]? = some y) ∧ ∀ zs, SqL K H c zs → zs[i]? = some u,
    fun i H => ∃ xs ys zs : List V, SqL K H a xs ∧ SqL K H b ys ∧ SqL K H c zs ∧ i ≤ xs.length ∧ i ≤ ys.length ∧ i ≤ zs.length ∧ (i = xs.length ∨ i = ys.length ∨ i = zs.length)⟩
theorem turn_zip3 {P : Program} {w : World} {K : PySem.W.Frag} {elts : List Expr} {kk : Nat} {tpos : Pos} {a b c z TI TO i1 i2 i3 : Addr} (D : ZipSep3 z TI TO i1 i2 i3 [i1, a] [i2, b] [i3, c]) (na : a ≠ i1) (nb : b ≠ i2) (nc : c ≠ i3) :
    Turn P w K (.Tuple elts kk tpos) (Itz3 K a b c) [z, TI, TO, i1, i2, i3] z (fun i h => IsZip h z TI TO .none ∧ IsTupOf3 h TI (.ref i1) (.ref i2) (.ref i3) ∧ (∃ x y u, IsTupOf3 h TO x y u) ∧ h.IsListIter i1 a i ∧ h.IsListIter i2 b i ∧ h.IsListIter i3 c i) where
  mem := by simp
  obj := fun i h st c' hc => by
    obtain ⟨hz, hTI, ⟨x, y, u, hTO⟩, ⟨o1, e1, _, d1⟩, ⟨o2, e2, _, d2⟩, ⟨o3, e3, _, d3⟩⟩ := st
    have e' : c' = z ∨ c' = TI ∨ c' = TO ∨ c' = i1 ∨ c' = i2 ∨ c' = i3 := by simpa using hc
    rcases e' with q | q | q | q | q | q
    · rw [q]; exact ⟨_, hz, fun v q => nomatch q⟩
    · rw [q]; exact ⟨_, hTI, fun v q => nomatch q⟩
    · rw [q]; exact ⟨_, hTO, fun v q => nomatch q⟩
    · rw [q]; exact ⟨o1, e1, fun v q => by rw [d1] at q; cases q⟩
    · rw [q]; exact ⟨o2, e2, fun v q => by rw [d2] at q; cases q⟩
    · rw [q]; exact ⟨o3, e3, fun v q => by rw [d3] at q; cases q⟩
  keep := fun i h h' st k => by
    obtain ⟨hz, hTI, ⟨x, y, u, hTO⟩, h1, h2, h3⟩ := st
    exact ⟨k z (by simp) _ hz, k TI (by simp) _ hTI, ⟨x, y, u, k TO (by simp) _ hTO⟩, h1.at fun o q => k i1 (by simp) o q, h2.at fun o q => k i2 (by simp) o q, h3.at fun o q => k i3 (by simp) o q⟩
  item := by
    intro X hP hw hK hc i pins s σ H E I hf st hg
    subst hP hw hK
    obtain ⟨hz, hTI, ⟨x0, y0, u0, hTO⟩, h1, h2, h3⟩ := st
    obtain ⟨xs, ys, zs, x, y, u, hqx, hqy, hqz, hx, hy, hu⟩ := hg
    obtain ⟨its, rv, p, _⟩ := I.list hqx
    obtain ⟨its2, rv2, p2, _⟩ := I.list hqy
    obtain ⟨its3, rv3, p3, _⟩ := I.list hqz
    obtain ⟨v1, hv1, rv1'⟩ := rv.get hx
    obtain ⟨v2, hv2, rv2'⟩ := rv2.get hy
    obtain ⟨v3, hv3, rv3'⟩ := rv3.get hu
    have hzl : z < s.heap.objs.size := Heap.lt_size hz
    have hh : X.A.handled = none := I.ok.hd hc
    have lt : ∀ {l : List Value} {v : Value}, l[i]? = some v → i < l.toArray.size := fun e => by
      have := (List.getElem?_eq_some_iff.mp e).1
      simpa using this
    refine wpAny_pyNext_zipD3_item D (Draws.list (A := X.A.in1) hh i1 a na its.toArray) (Draws.list (A := X.A.in1) hh i2 b nb its2.toArray) (Draws.list (A := X.A.in1) hh i3 c nc its3.toArray) hz hTI hTO ⟨h1, p.isList⟩ ⟨h2, p2.isList⟩ ⟨h3, p3.isList⟩ (lt hv1) (lt hv2) (lt hv3) fun x1 x2 x3 h' tk e1 e2 e3 z' TO' s1 s2 s3 hT hsz hk => ?_
    obtain rfl : x1 = v1 := by
      have q : its[i]? = some x1 := by simpa using e1
      rw [hv1] at q; exact (Option.some.inj q).symm
    obtain rfl : x2 = v2 := by
      have q : its2[i]? = some x2 := by simpa using e2
      rw [hv2] at q; exact (Option.some.inj q).symm
    obtain rfl : x3 = v3 := by
      have q : its3[i]? = some x3 := by simpa using e3
      rw [hv3] at q; exact (Option.some.inj q).symm
    refine ⟨_, rfl, wpAny_letOwnedTupleGo_zip (s := { s with heap := h', toks := tk }) z' fun h'' z'' sb => ?_⟩
    have hT2 : h''.get? s.heap.objs.size = some { cls := .type "tuple", data := .seq #[x1, x2, x3] } := (sb.2 _ (Nat.ne_of_gt hzl)).trans hT
    have new : ObjOk X.prog X.w (upd H s.heap.objs.size (.tup [x, y, u])) h'' s.heap.objs.size (.tup [x, y, u]) :=
      ⟨by show 3 ≤ sizeLine; decide, [x1, x2, x3], .cons rv1' (.cons rv2' (.cons rv3' .nil)), ⟨_, hT2, rfl, _, rfl⟩⟩
    have I1 : Inv X pins σ (upd H s.heap.objs.size (.tup [x, y, u])) { s with heap := h'', toks := tk } :=
      I.turnedNew (t' := tk) (ch := [z, TI, TO, i1, i2, i3]) (fun c' o hb q => (sb.2 c' (fun q' => hb (by simp [q']))).trans (hk c' o (fun q' => hb (by simp [q'])) (fun q' => hb (by simp [q'])) (fun q' => hb (by simp [q'])) (fun q' => hb (by simp [q'])) (fun q' => hb (by simp [q'])) q)) hf (Nat.le_refl _) new
    refine ⟨.ref s.heap.objs.size, _, I1, rfl, ⟨_, x, y, u, rfl, I.hok.fresh (Nat.le_refl _), rfl, fun l hl => by rw [I.list_inj hl hqx]; exact hx, fun l hl => by rw [I.list_inj hl hqy]; exact hy, fun l hl => by rw [I.list_inj hl hqz]; exact hu⟩, ⟨z'', ?_, ⟨x1, x2, x3, ?_⟩, ?_, ?_, ?_⟩, fun c' hcm => ?_⟩
    · exact (sb.2 _ D.TIz).trans (hk _ _ D.TIz D.TITO D.TIi1 D.TIi2 D.TIi3 hTI)
    · exact (sb.2 _ D.TOz).trans TO'
    · exact s1.1.at fun o q => (sb.2 _ D.zi1.symm).trans q
    · exact s2.1.at fun o q => (sb.2 _ D.zi2.symm).trans q
    · exact s3.1.at fun o q => (sb.2 _ D.zi3.symm).trans q
    · have hlt : c' < s.heap.objs.size := by
        have e' : c' = z ∨ c' = TI ∨ c' = TO ∨ c' = i1 ∨ c' = i2 ∨ c' = i3 := by simpa using hcm
        rcases e' with q | q | q | q | q | q
        · rw [q]; exact hzl
        · rw [q]; exact Heap.lt_size hTI
        · rw [q]; exact Heap.lt_size hTO
        · rw [q]; obtain ⟨_, e1, _⟩ := h1; exact Heap.lt_size e1
        · rw [q]; obtain ⟨_, e2, _⟩ := h2; exact Heap.lt_size e2
        · rw [q]; obtain ⟨_, e3, _⟩ := h3; exact Heap.lt_size e3
      rw [upd_ne (Nat.ne_of_lt hlt)]
      exact (hf c' hcm).1
  done := by
    intro X hP hw hK hc i pins s σ H E I hf st hg
    subst hP hw hK
    obtain ⟨hz, hTI, ⟨x0, y0, u0, hTO⟩, h1, h2, h3⟩ := st
    obtain ⟨xs, ys, zs, hqx, hqy, hqz, n1, n2, n3, hend⟩ := hg
    obtain ⟨its, rv, p, _⟩ := I.list hqx
    obtain ⟨its2, rv2, p2, _⟩ := I.list hqy
    obtain ⟨its3, rv3, p3, _⟩ := I.list hqz
    have l1 : xs.length = its.toArray.size := by rw [rv.length]; simp
    have l2 : ys.length = its2.toArray.size := by rw [rv2.length]; simp
    have l3 : zs.length = its3.toArray.size := by rw [rv3.length]; simp
    have hh : X.A.handled = none := I.ok.hd hc
    exact wpAny_pyNext_zipD3_end D (Draws.list (A := X.A.in1) hh i1 a na its.toArray) (Draws.list (A := X.A.in1) hh i2 b nb its2.toArray) (Draws.list (A := X.A.in1) hh i3 c nc its3.toArray) hz hTI hTO ⟨h1, p.isList⟩ ⟨h2, p2.isList⟩ ⟨h3, p3.isList⟩ (by omega) (by omega) (by omega) (by omega) fun h' tk hk => ⟨rfl, I.turnedL (t' := tk) (ch := [z, TI, TO, i1, i2, i3]) (fun c' o hb q =>
      hk c' o (fun q' => hb (by simp [q'])) (fun q' => hb (by simp [q'])) (fun q' => hb (by simp [q'])) (fun q' => hb (by simp [q'])) (fun q' => hb (by simp [q'])) q) hf⟩
  self := fun A i s Q E st h => wpAny_pyIter_zip st.1 h
def iZip3 (K : PySem.W.Frag) (ta : TA) : TI := fun σ H R => ta σ H fun vs H1 => ∃ a b c xs ys zs, vs = [.ref a, .ref b, .ref c] ∧ SqL K H1 a xs ∧ SqL K H1 b ys ∧ SqL K H1 c zs ∧ R (Itz3 K a b c) H1
theorem pi_zip3 {X : Cx} {e e2 e3 : Expr} {ta : TA} {p pos tpos : Pos} {elts : List Expr} {kk : Nat} (hg : Gl X "zip") (hm : X.mg "zip" = none) (ha : PA X [e, e2, e3] ta)
    (hs : starEach [e, e2, e3] X.env = (false, eval e X.env) :: starEach [e2, e3] X.env := by rfl) (hpl : (backTo pos (starEach [e2, e3] X.env)).any (·.1) = false := by rfl) :
    PI X (.Tuple elts kk tpos) (.Call (.Name "zip" p) [e, e2, e3] [] pos) (iZip3 X.K ta) := by
  refine ⟨fun pins s σ H R I h => ?_⟩
  refine Call_ (ld_blt I hg hm PyProof.Rows.boot_zip (PyProof.Rows.callWith_type1 (thn (ha.run pos pins s σ H _ I h) fun us s1 ⟨vs, H1, I1, r1, q1⟩ => ?_) hs hpl))
  obtain ⟨a, b, c, xs, ys, zs, ex, hqx, hqy, hqz, q⟩ := q1
  subst ex
  cases r1 with
  | cons r rr =>
    cases rr with
    | cons r' rr =>
      cases rr with
      | cons r'' rr =>
      cases rr
      cases r
      cases r'
      cases r''
      obtain ⟨its, rv, p1, _⟩ := I1.list hqx
      obtain ⟨its2, rv2, p2, _⟩ := I1.list hqy
      obtain ⟨its3, rv3, p3, _⟩ := I1.list hqz
      have la : a < s1.heap.objs.size := p1.lt
      have lb : b < s1.heap.objs.size := p2.lt
      have lc : c < s1.heap.objs.size := p3.lt
      refine zip_begins3 (begins_list a its.toArray) (begins_list b its2.toArray) (begins_list c its3.toArray) p1.isList p2.isList p3.isList fun h' hz hTI hTO g1 g2 g3 hsz hk => wpAny_pyIter_zip hz ?_
      have I2 : Inv X pins σ H1 { s1 with heap := h' } := I1.kept (t' := s1.toks) hk
      have sep := zip_sep3 (N := s1.heap.objs.size) (fp1 := [a]) (fp2 := [b]) (fp3 := [c]) (fun x hx => by rw [List.mem_singleton.mp hx]; exact la) (fun x hx => by rw [List.mem_singleton.mp hx]; exact lb) (fun x hx => by rw [List.mem_singleton.mp hx]; exact lc)
      refine ⟨s1.heap.objs.size + 5, [s1.heap.objs.size + 5, s1.heap.objs.size + 3, s1.heap.objs.size + 4, s1.heap.objs.size, s1.heap.objs.size + 1, s1.heap.objs.size + 2], _, _, H1, rfl, I2, turn_zip3 sep (Nat.ne_of_lt la) (Nat.ne_of_lt (Nat.lt_succ_of_lt lb)) (Nat.ne_of_lt (Nat.lt_succ_of_lt (Nat.lt_succ_of_lt lc))), ⟨hz, hTI, ⟨_, _, _, hTO⟩, ⟨_, g1, rfl, rfl⟩, ⟨_, g2, rfl, rfl⟩, ⟨_, g3, rfl, rfl⟩⟩, fun c' hcm => ?_, q⟩
      have e' : c' = s1.heap.objs.size + 5 ∨ c' = s1.heap.objs.size + 3 ∨ c' = s1.heap.objs.size + 4 ∨ c' = s1.heap.objs.size ∨ c' = s1.heap.objs.size + 1 ∨ c' = s1.heap.objs.size + 2 := by simpa using hcm
      have hle : s1.heap.objs.size ≤ c' := by
        rcases e' with z | z | z | z | z | z
        · rw [z]; exact Nat.le_add_right _ _
        · rw [z]; exact Nat.le_add_right _ _
        · rw [z]; exact Nat.le_add_right _ _
        · rw [z]; exact Nat.le_refl _
        · rw [z]; exact Nat.le_add_right _ _
        · rw [z]; exact Nat.le_add_right _ _
      exact I1.fpOk hle (I1.hok.fresh hle)
end L2
namespace L2
open PySem PySem.Spec PyProof.Rows
/-! max, min of a list of numbers, with default=None -/
section
variable {X : Cx}
def rMxD (K : PySem.W.Frag) : List V → List V → Hp → VK → Prop := fun vs zs H Q => ∃ (a : Addr) (ns : List Int), vs = [.ref a] ∧ zs = [.non] ∧ SqL K H a (ns.map V.int) ∧ (ns = [] → Q .non H) ∧ ∀ n ns', ns = n :: ns' → Q (.int (ns'.foldl max n)) H
def rMnD (K : PySem.W.Frag) : List V → List V → Hp → VK → Prop := fun vs zs H Q => ∃ (a : Addr) (ns : List Int), vs = [.ref a] ∧ zs = [.non] ∧ SqL K H a (ns.map V.int) ∧ (ns = [] → Q .non H) ∧ ∀ n ns', ns = n :: ns' → Q (.int (ns'.foldl min n)) H
theorem dp_ints {K : PySem.W.Frag} {H : Hp} : ∀ ns : List Int, DpAll K H (ns.map V.int) (ns.map PyData.int)
  | [] => .nil
  | n :: ns => .cons (.int n) (dp_ints ns)
theorem alike_ints (ns : List Int) : PySem.W.AlikeAll (ns.map PyData.int) := ⟨fun x hx y hy => by
  obtain ⟨i, _, rfl⟩ := List.mem_map.mp hx
  obtain ⟨j, _, rfl⟩ := List.mem_map.mp hy
  rfl, fun x hx => by
  obtain ⟨i, _, rfl⟩ := List.mem_map.mp hx
  intro e; cases e⟩
theorem depth_ints : ∀ ns : List Int, PyData.depthAll (ns.map PyData.int) ≤ 1
  | [] => by simp [PyData.depthAll]
  | n :: ns => by
    have := depth_ints ns
    simp [PyData.depthAll, PyData.depth]
    omega
theorem cr_maxDf (hc : X.calm = true) (hu : X.A.units + 65 < cLine) : CallRK X (.builtin "max") [Str.ofString "default"] (rMxD X.K) := by
  intro pins s σ H xs zs us ws Q I r rz h
  obtain ⟨a, ns, rfl, rfl, hs, q0, q1⟩ := h
  obtain ⟨its, rv, p, _⟩ := I.list hs
  rw [Vals.ref1 r]
  cases rz with
  | cons rn rr =>
  cases rr
  cases rn
  obtain ⟨as, hr⟩ := Dp.readsAll I _ _ its (dp_ints ns) rv
  have hd := depth_ints ns
  refine PySem.W.max_list_default (I.ok.hd hc) p.isList (by simpa using hr) (alike_ints ns) (by omega) (fun e h' tk hk => ⟨.non, H, I.kept hk, rfl, q0 (by cases ns with | nil => rfl | cons _ _ => cases e)⟩) fun y ys i v h' tk bs e hv hr' hk => ?_
  cases ns with
  | nil => cases e
  | cons n ns' =>
  rw [List.map_cons] at e
  cases e
  rw [PySem.W.maxD_ints] at hr'
  cases hr'
  exact ⟨.int _, H, I.kept hk, ⟨_, rfl⟩, q1 n ns' rfl⟩
theorem cr_minDf (hc : X.calm = true) (hu : X.A.units + 65 < cLine) : CallRK X (.builtin "min") [Str.ofString "default"] (rMnD X.K) := by
  intro pins s σ H xs zs us ws Q I r rz h
  obtain ⟨a, ns, rfl, rfl, hs, q0, q1⟩ := h
  obtain ⟨its, rv, p, _⟩ := I.list hs
  rw [Vals.ref1 r]
  cases rz with
  | cons rn rr =>
  cases rr
  cases rn
  obtain ⟨as, hr⟩ := Dp.readsAll I _ _ its (dp_ints ns) rv
  have hd := depth_ints ns
  refine PySem.W.min_list_default (I.ok.hd hc) p.isList (by simpa using hr) (alike_ints ns) (by omega) (fun e h' tk hk => ⟨.non, H, I.kept hk, rfl, q0 (by cases ns with | nil => rfl | cons _ _ => cases e)⟩) fun y ys i v h' tk bs e hv hr' hk => ?_
  cases ns with
  | nil => cases e
  | cons n ns' =>
  rw [List.map_cons] at e
  cases e
  rw [PySem.W.minD_ints] at hr'
  cases hr'
  exact ⟨.int _, H, I.kept hk, ⟨_, rfl⟩, q1 n ns' rfl⟩
end
end L2
namespace BL
open PySem PySem.Spec PyProof.Rows L2
section
variable {X : Cx} {C : Addr} {pos : Pos} {e a b c : Expr} {ma mb mc : ME} {mes : MA}
def fMaxD (_ : List PV) : List PV → Option PV
  | [.lst xs] => match intsP xs with
    | some [] => some .non
    | some (n :: ns) => some (.int (ns.foldl max n))
    | none => none
  | _ => none
def fMinD (_ : List PV) : List PV → Option PV
  | [.lst xs] => match intsP xs with
    | some [] => some .non
    | some (n :: ns) => some (.int (ns.foldl min n))
    | none => none
  | _ => none
theorem xmaxD (h : PE X e (tCKw (rMxD X.K) (tMA X.K C mes) (tCons (tC .non) tNil))) : PE X e (tM X.K C (mFn fMaxD mes)) := PE.weak h fun σ H Q ⟨W0, W, ρ, S, z, S', eH, R, em, q⟩ => by
  subst eH
  obtain ⟨xs, e1, e3⟩ := mFn_inv em
  refine ⟨W0, W, ρ, S, xs, S', rfl, R, e1, fun vs W1 R1 g1 r1 => ?_⟩
  unfold fMaxD at e3
  split at e3
  · rename_i ys
    cases hi : intsP ys with
    | none => rw [hi] at e3; cases e3
    | some ns =>
    rw [hi] at e3
    cases r1 with
    | cons r rr =>
    cases rr
    cases r with
    | lst hF ra =>
    have ev := intsP_ok ra hi
    subst ev
    refine ⟨_, ns, rfl, rfl, R1.i.s.seq (SqL.of hF), fun e0 => ?_, fun n ns' e0 => ?_⟩
    · subst e0
      cases e3
      exact q .non W1 R1 g1 .non
    · subst e0
      cases e3
      exact q _ W1 R1 g1 (.int _)
  · cases e3
theorem xminD (h : PE X e (tCKw (rMnD X.K) (tMA X.K C mes) (tCons (tC .non) tNil))) : PE X e (tM X.K C (mFn fMinD mes)) := PE.weak h fun σ H Q ⟨W0, W, ρ, S, z, S', eH, R, em, q⟩ => by
  subst eH
  obtain ⟨xs, e1, e3⟩ := mFn_inv em
  refine ⟨W0, W, ρ, S, xs, S', rfl, R, e1, fun vs W1 R1 g1 r1 => ?_⟩
  unfold fMinD at e3
  split at e3
  · rename_i ys
    cases hi : intsP ys with
    | none => rw [hi] at e3; cases e3
    | some ns =>
    rw [hi] at e3
    cases r1 with
    | cons r rr =>
    cases rr
    cases r with
    | lst hF ra =>
    have ev := intsP_ok ra hi
    subst ev
    refine ⟨_, ns, rfl, rfl, R1.i.s.seq (SqL.of hF), fun e0 => ?_, fun n ns' e0 => ?_⟩
    · subst e0
      cases e3
      exact q .non W1 R1 g1 .non
    · subst e0
      cases e3
      exact q _ W1 R1 g1 (.int _)
  · cases e3
/-! zip of three by trees -/
def zipP3 : List PV → List PV → List PV → List PV
  | x :: xs, y :: ys, z :: zs => .tup [x, y, z] :: zipP3 xs ys zs
  | _, _, _ => []
theorem zipP3_len : ∀ (xs ys zs : List PV), (zipP3 xs ys zs).length = min (min xs.length ys.length) zs.length
  | [], _, _ => by simp [zipP3]
  | _ :: _, [], _ => by simp [zipP3]
  | _ :: _, _ :: _, [] => by simp [zipP3]
  | x :: xs, y :: ys, z :: zs => by simp [zipP3, zipP3_len xs ys zs]
theorem zipP3_at : ∀ {xs ys zs : List PV} {i : Nat} {w : PV}, (zipP3 xs ys zs)[i]? = some w → ∃ x y z, xs[i]? = some x ∧ ys[i]? = some y ∧ zs[i]? = some z ∧ w = .tup [x, y, z]
  | [], _, _, _, _, h => by simp [zipP3] at h
  | _ :: _, [], _, _, _, h => by simp [zipP3] at h
  | _ :: _, _ :: _, [], _, _, h => by simp [zipP3] at h
  | x :: xs, y :: ys, z :: zs, 0, w, h => by cases Option.some.inj h; exact ⟨x, y, z, rfl, rfl, rfl, rfl⟩
  | x :: xs, y :: ys, z :: zs, i + 1, w, h => zipP3_at (xs := xs) (ys := ys) (zs := zs) (i := i) h
def mZip3 (ma mb mc : ME) : MI := fun ρ S => match ma ρ S with
  | some (.lst xs, S1) => match mb ρ S1 with
    | some (.lst ys, S2) => match mc ρ S2 with
      | some (.lst zs, S3) => some (zipP3 xs ys zs, S3)
      | _ => none
    | _ => none
  | _ => none
theorem it_zip3 {K : PySem.W.Frag} {W : Wd} {a b c : Addr} {vs us ws : List V} {xs ys zs : List PV} (h : W.F a = some (.lst vs)) (r : RepAll K C W.F W.θ vs xs) (h' : W.F b = some (.lst us)) (r' : RepAll K C W.F W.θ us ys) (h'' : W.F c = some (.lst ws)) (r'' : RepAll K C W.F W.θ ws zs) : ItOk K C W (Itz3 K a b c) (zipP3 xs ys zs) := by
  have h1 : ∀ W1 S, GroF W W1 → Inv1 K C W1 S → SqL K W1.H a vs ∧ SqL K W1.H b us ∧ SqL K W1.H c ws := fun W1 S g i => ⟨i.s.seq (SqL.of (g.f _ _ h)), i.s.seq (SqL.of (g.f _ _ h')), i.s.seq (SqL.of (g.f _ _ h''))⟩
  refine ⟨fun i W1 S g i1 hi => ?_, fun W1 S g i1 => ⟨vs, us, ws, (h1 W1 S g i1).1, (h1 W1 S g i1).2.1, (h1 W1 S g i1).2.2, by rw [r.len, zipP3_len]; omega, by rw [r'.len, zipP3_len]; omega, by rw [r''.len, zipP3_len]; omega, by rw [r.len, r'.len, r''.len, zipP3_len]; omega⟩, fun i W1 S v H' x g i1 hx y => ?_⟩
  · rw [zipP3_len] at hi
    obtain ⟨v, ev, _⟩ := r.at (i := i) (List.getElem?_eq_getElem (by omega))
    obtain ⟨u, eu, _⟩ := r'.at (i := i) (List.getElem?_eq_getElem (by omega))
    obtain ⟨w, ew, _⟩ := r''.at (i := i) (List.getElem?_eq_getElem (by omega))
    exact ⟨vs, us, ws, v, u, w, (h1 W1 S g i1).1, (h1 W1 S g i1).2.1, (h1 W1 S g i1).2.2, ev, eu, ew⟩
  · obtain ⟨T, u, w, t, rfl, nT, rfl, hv, hw, ht⟩ := y
    obtain ⟨p, q, q2, hp, hq, hq2, rfl⟩ := zipP3_at hx
    obtain ⟨u', eu, ru⟩ := (grow_all r g).at hp
    obtain ⟨w', ew, rw'⟩ := (grow_all r' g).at hq
    obtain ⟨t', et, rt⟩ := (grow_all r'' g).at hq2
    have e1 := hv vs (h1 W1 S g i1).1
    have e2 := hw us (h1 W1 S g i1).2.1
    have e3 := ht ws (h1 W1 S g i1).2.2
    rw [eu] at e1
    rw [ew] at e2
    rw [et] at e3
    cases Option.some.inj e1
    cases Option.some.inj e2
    cases Option.some.inj e3
    obtain ⟨g2, i2⟩ := laid (.tup [u, w, t]) i1 nT
    exact ⟨_, rfl, g2, i2, .tup (SqT.of upd_same) (.cons (ru.ext g2) (.cons (rw'.ext g2) (.cons (rt.ext g2) .nil)))⟩
theorem izip3 {p tpos : Pos} {elts : List Expr} {kk : Nat} (hg : Gl X "zip") (hm : X.mg "zip" = none) (ha : PE X a (tM X.K C ma)) (hb : PE X b (tM X.K C mb)) (hc : PE X c (tM X.K C mc)) (hst3 : starEach (c :: []) X.env = (false, eval c X.env) :: starEach [] X.env := by rfl) (hst2 : starEach (b :: [c]) X.env = (false, eval b X.env) :: starEach [c] X.env := by rfl)
    (hs : starEach [a, b, c] X.env = (false, eval a X.env) :: starEach [b, c] X.env := by rfl) (hpl : (backTo pos (starEach [b, c] X.env)).any (·.1) = false := by rfl) :
    PI X (.Tuple elts kk tpos) (.Call (.Name "zip" p) [a, b, c] [] pos) (tMI X.K C (mZip3 ma mb mc)) := PI.weak (pi_zip3 hg hm (pa_cons ha (pa_cons hb (pa_cons hc pa_nil hst3) hst2) hs) hs hpl) fun σ H R0 ⟨W0, W, ρ, S, xs, S', eH, R, em, q⟩ => by
  subst eH
  unfold mZip3 at em
  split at em
  · rename_i ys S1 e1
    split at em
    · rename_i zs S2 e2
      split at em
      · rename_i ws S3 e3
        cases em
        refine ⟨W0, W, ρ, S, _, S1, rfl, R, e1, fun v W1 R1 g1 r1 => ⟨W0, W1, ρ, S1, _, S2, rfl, R1, e2, fun u W2 R2 g2 r2 => ⟨W0, W2, ρ, S2, _, S', rfl, R2, e3, fun t W3 R3 g3 r3 => ?_⟩⟩⟩
        have r1' := (r1.ext g2).ext g3
        have r2' := r2.ext g3
        cases r1' with
        | lst h a1 =>
          cases r2' with
          | lst h' a2 =>
            cases r3 with
            | lst h'' a3 => exact ⟨_, _, _, _, _, _, rfl, R3.i.s.seq (SqL.of h), R3.i.s.seq (SqL.of h'), R3.i.s.seq (SqL.of h''), q _ W3 R3 ((g1.trans g2).trans g3) (it_zip3 h a1 h' a2 h'' a3)⟩
      · cases em
    · cases em
  · cases em
end
section
variable {ρ : List SlV} {S : List PV} {ma mb mc : ME}
@[simp] theorem e_zip3 : mZip3 ma mb mc ρ S = match ma ρ S with
  | some (.lst xs, S1) => (match mb ρ S1 with
    | some (.lst ys, S2) => (match mc ρ S2 with
      | some (.lst zs, S3) => some (zipP3 xs ys zs, S3)
      | _ => none)
    | _ => none)
  | _ => none := rfl
end
end BL

namespace L2
open PySem PySem.Spec PyProof.Rows
def ItzTL (K : PySem.W.Frag) (a b : Addr) : It :=
  ⟨fun i H => ∃ (xs ys : List V) (x y : V), SqT K H a xs ∧ SqL K H b ys ∧ xs[i]? = some x ∧ ys[i]? = some y,
    fun i H v H' => ∃ T x y, v = .ref T ∧ H T = none ∧ H' = upd H T (.tup [x, y]) ∧ (∀ xs, SqT K H a xs → xs[i]? = some x) ∧ ∀ ys, SqL K H b ys → ys[i]? = some y,
    fun i H => ∃ xs ys : List V, SqT K H a xs ∧ SqL K H b ys ∧ i ≤ xs.length ∧ i ≤ ys.length ∧ (i = xs.length ∨ i = ys.length)⟩
theorem turn_zipTL {P : Program} {w : World} {K : PySem.W.Frag} {elts : List Expr} {kk : Nat} {tpos : Pos} {a b z TI TO i1 i2 : Addr} (D : ZipSep2 z TI TO i1 i2 [i1, a] [i2, b]) (na : a ≠ i1) (nb : b ≠ i2) :
    Turn P w K (.Tuple elts kk tpos) (ItzTL K a b) [z, TI, TO, i1, i2] z (fun i h => IsZip h z TI TO .none ∧ IsTupOf2 h TI (.ref i1) (.ref i2) ∧ (∃ x y, IsTupOf2 h TO x y) ∧ h.IsTupleIter i1 a i ∧ h.IsListIter i2 b i) where
  mem := by simp
  obj := fun i h st c' hc => by
    obtain ⟨hz, hTI, ⟨x, y, hTO⟩, ⟨o1, e1, _, d1⟩, ⟨o2, e2, _, d2⟩⟩ := st
    have e' : c' = z ∨ c' = TI ∨ c' = TO ∨ c' = i1 ∨ c' = i2 := by simpa using hc
    rcases e' with q | q | q | q | q
    · rw [q]; exact ⟨_, hz, fun v q => nomatch q⟩
    · rw [q]; exact ⟨_, hTI, fun v q => nomatch q⟩
    · rw [q]; exact ⟨_, hTO, fun v q => nomatch q⟩
    · rw [q]; exact ⟨o1, e1, fun v q => by rw [d1] at q; cases q⟩
    · rw [q]; exact ⟨o2, e2, fun v q => by rw [d2] at q; cases q⟩
  keep := fun i h h' st k => by
    obtain ⟨hz, hTI, ⟨x, y, hTO⟩, h1, h2⟩ := st
    exact ⟨k z (by simp) _ hz, k TI (by simp) _ hTI, ⟨x, y, k TO (by simp) _ hTO⟩, h1.at fun o q => k i1 (by simp) o q, h2.at fun o q => k i2 (by simp) o q⟩
  item := by
    intro X hP hw hK hc i pins s σ H E I hf st hg
    subst hP hw hK
    obtain ⟨hz, hTI, ⟨x0, y0, hTO⟩, h1, h2⟩ := st
    obtain ⟨xs, ys, x, y, hqx, hqy, hx, hy⟩ := hg
    obtain ⟨its, rv, p, _⟩ := I.tuple hqx
    obtain ⟨its2, rv2, p2, _⟩ := I.list hqy
    obtain ⟨v1, hv1, rv1'⟩ := rv.get hx
    obtain ⟨v2, hv2, rv2'⟩ := rv2.get hy
    have hzl : z < s.heap.objs.size := Heap.lt_size hz
    have hh : X.A.handled = none := I.ok.hd hc
    have lt : ∀ {l : List Value} {v : Value}, l[i]? = some v → i < l.toArray.size := fun e => by
      have := (List.getElem?_eq_some_iff.mp e).1
      simpa using this
    refine wpAny_pyNext_zipD2_item D (Draws.tuple (A := X.A.in1) hh i1 a na its.toArray) (Draws.list (A := X.A.in1) hh i2 b nb its2.toArray) hz hTI hTO ⟨h1, p⟩ ⟨h2, p2.isList⟩ (lt hv1) (lt hv2) fun x1 x2 h' tk e1 e2 z' TO' s1 s2 hT hsz hk => ?_
    obtain rfl : x1 = v1 := by
      have q : its[i]? = some x1 := by simpa using e1
      rw [hv1] at q; exact (Option.some.inj q).symm
    obtain rfl : x2 = v2 := by
      have q : its2[i]? = some x2 := by simpa using e2
      rw [hv2] at q; exact (Option.some.inj q).symm
    refine ⟨_, rfl, wpAny_letOwnedTupleGo_zip (s := { s with heap := h', toks := tk }) z' fun h'' z'' sb => ?_⟩
    have hT2 : h''.get? s.heap.objs.size = some { cls := .type "tuple", data := .seq #[x1, x2] } := (sb.2 _ (Nat.ne_of_gt hzl)).trans hT
    have new : ObjOk X.prog X.w (upd H s.heap.objs.size (.tup [x, y])) h'' s.heap.objs.size (.tup [x, y]) :=
      ⟨by show 2 ≤ sizeLine; decide, [x1, x2], .cons rv1' (.cons rv2' .nil), ⟨_, hT2, rfl, _, rfl⟩⟩
    have I1 : Inv X pins σ (upd H s.heap.objs.size (.tup [x, y])) { s with heap := h'', toks := tk } :=
      I.turnedNew (t' := tk) (ch := [z, TI, TO, i1, i2]) (fun c' o hb q => (sb.2 c' (fun q' => hb (by simp [q']))).trans (hk c' o (fun q' => hb (by simp [q'])) (fun q' => hb (by simp [q'])) (fun q' => hb (by simp [q'])) (fun q' => hb (by simp [q'])) q)) hf (Nat.le_refl _) new
    refine ⟨.ref s.heap.objs.size, _, I1, rfl, ⟨_, x, y, rfl, I.hok.fresh (Nat.le_refl _), rfl, fun l hl => by rw [I.tuple_inj hl hqx]; exact hx, fun l hl => by rw [I.list_inj hl hqy]; exact hy⟩, ⟨z'', ?_, ⟨x1, x2, ?_⟩, ?_, ?_⟩, fun c' hcm => ?_⟩
    · exact (sb.2 _ D.TIz).trans (hk _ _ D.TIz D.TITO D.TIi1 D.TIi2 hTI)
    · exact (sb.2 _ D.TOz).trans TO'
    · exact s1.1.at fun o q => (sb.2 _ D.zi1.symm).trans q
    · exact s2.1.at fun o q => (sb.2 _ D.zi2.symm).trans q
    · have hlt : c' < s.heap.objs.size := by
        have e' : c' = z ∨ c' = TI ∨ c' = TO ∨ c' = i1 ∨ c' = i2 := by simpa using hcm
        rcases e' with q | q | q | q | q
        · rw [q]; exact hzl
        · rw [q]; exact Heap.lt_size hTI
        · rw [q]; exact Heap.lt_size hTO
        · rw [q]; obtain ⟨_, e1, _⟩ := h1; exact Heap.lt_size e1
        · rw [q]; obtain ⟨_, e2, _⟩ := h2; exact Heap.lt_size e2
      rw [upd_ne (Nat.ne_of_lt hlt)]
      exact (hf c' hcm).1
  done := by
    intro X hP hw hK hc i pins s σ H E I hf st hg
    subst hP hw hK
    obtain ⟨hz, hTI, ⟨x0, y0, hTO⟩, h1, h2⟩ := st
    obtain ⟨xs, ys, hqx, hqy, n1, n2, hend⟩ := hg
    obtain ⟨its, rv, p, _⟩ := I.tuple hqx
    obtain ⟨its2, rv2, p2, _⟩ := I.list hqy
    have l1 : xs.length = its.toArray.size := by rw [rv.length]; simp
    have l2 : ys.length = its2.toArray.size := by rw [rv2.length]; simp
    have hh : X.A.handled = none := I.ok.hd hc
    exact wpAny_pyNext_zipD2_end D (Draws.tuple (A := X.A.in1) hh i1 a na its.toArray) (Draws.list (A := X.A.in1) hh i2 b nb its2.toArray) hz hTI hTO ⟨h1, p⟩ ⟨h2, p2.isList⟩ (by omega) (by omega) (by omega) fun h' tk hk => ⟨rfl, I.turnedL (t' := tk) (ch := [z, TI, TO, i1, i2]) (fun c' o hb q =>
      hk c' o (fun q' => hb (by simp [q'])) (fun q' => hb (by simp [q'])) (fun q' => hb (by simp [q'])) (fun q' => hb (by simp [q'])) q) hf⟩
  self := fun A i s Q E st h => wpAny_pyIter_zip st.1 h
def ItzLT (K : PySem.W.Frag) (a b : Addr) : It :=
  ⟨fun i H => ∃ (xs ys : List V) (x y : V), SqL K H a xs ∧ SqT K H b ys ∧ xs[i]? = some x ∧ ys[i]? = some y,
    fun i H v H' => ∃ T x y, v = .ref T ∧ H T = none ∧ H' = upd H T (.tup [x, y]) ∧ (∀ xs, SqL K H a xs → xs[i]? = some x) ∧ ∀ ys, SqT K H b ys → ys[i]? = some y,
    fun i H => ∃ xs ys : List V, SqL K H a xs ∧ SqT K H b ys ∧ i ≤ xs.length ∧ i ≤ ys.length ∧ (i = xs.length ∨ i = ys.length)⟩
theorem turn_zipLT {P : Program} {w : World} {K : PySem.W.Frag} {elts : List Expr} {kk : Nat} {tpos : Pos} {a b z TI TO i1 i2 : Addr} (D : ZipSep2 z TI TO i1 i2 [i1, a] [i2, b]) (na : a ≠ i1) (nb : b ≠ i2) :
    Turn P w K (.Tuple elts kk tpos) (ItzLT K a b) [z, TI, TO, i1, i2] z (fun i h => IsZip h z TI TO .none ∧ IsTupOf2 h TI (.ref i1) (.ref i2) ∧ (∃ x y, IsTupOf2 h TO x y) ∧ h.IsListIter i1 a i ∧ h.IsTupleIter i2 b i) where
  mem := by simp
  obj := fun i h st c' hc => by
    obtain ⟨hz, hTI, ⟨x, y, hTO⟩, ⟨o1, e1, _, d1⟩, ⟨o2, e2, _, d2⟩⟩ := st
    have e' : c' = z ∨ c' = TI ∨ c' = TO ∨ c' = i1 ∨ c' = i2 := by simpa using hc
    rcases e' with q | q | q | q | q
    · rw [q]; exact ⟨_, hz, fun v q => nomatch q⟩
    · rw [q]; exact ⟨_, hTI, fun v q => nomatch q⟩
    · rw [q]; exact ⟨_, hTO, fun v q => nomatch q⟩
    · rw [q]; exact ⟨o1, e1, fun v q => by rw [d1] at q; cases q⟩
    · rw [q]; exact ⟨o2, e2, fun v q => by rw [d2] at q; cases q⟩
  keep := fun i h h' st k => by
    obtain ⟨hz, hTI, ⟨x, y, hTO⟩, h1, h2⟩ := st
    exact ⟨k z (by simp) _ hz, k TI (by simp) _ hTI, ⟨x, y, k TO (by simp) _ hTO⟩, h1.at fun o q => k i1 (by simp) o q, h2.at fun o q => k i2 (by simp) o q⟩
  item := by
    intro X hP hw hK hc i pins s σ H E I hf st hg
    subst hP hw hK
    obtain ⟨hz, hTI, ⟨x0, y0, hTO⟩, h1, h2⟩ := st
    obtain ⟨xs, ys, x, y, hqx, hqy, hx, hy⟩ := hg
    obtain ⟨its, rv, p, _⟩ := I.list hqx
    obtain ⟨its2, rv2, p2, _⟩ := I.tuple hqy
    obtain ⟨v1, hv1, rv1'⟩ := rv.get hx
    obtain ⟨v2, hv2, rv2'⟩ := rv2.get hy
    have hzl : z < s.heap.objs.size := Heap.lt_size hz
    have hh : X.A.handled = none := I.ok.hd hc
    have lt : ∀ {l : List Value} {v : Value}, l[i]? = some v → i < l.toArray.size := fun e => by
      have := (List.getElem?_eq_some_iff.mp e).1
      simpa using this
    refine wpAny_pyNext_zipD2_item D (Draws.list (A := X.A.in1) hh i1 a na its.toArray) (Draws.tuple (A := X.A.in1) hh i2 b nb its2.toArray) hz hTI hTO ⟨h1, p.isList⟩ ⟨h2, p2⟩ (lt hv1) (lt hv2) fun x1 x2 h' tk e1 e2 z' TO' s1 s2 hT hsz hk => ?_
    obtain rfl : x1 = v1 := by
      have q : its[i]? = some x1 := by simpa using e1
      rw [hv1] at q; exact (Option.some.inj q).symm
    obtain rfl : x2 = v2 := by
      have q : its2[i]? = some x2 := by simpa using e2
      rw [hv2] at q; exact (Option.some.inj q).symm
    refine ⟨_, rfl, wpAny_letOwnedTupleGo_zip (s := { s with heap := h', toks := tk }) z' fun h'' z'' sb => ?_⟩
    have hT2 : h''.get? s.heap.objs.size = some { cls := .type "tuple", data := .seq #[x1, x2] } := (sb.2 _ (Nat.ne_of_gt hzl)).trans hT
    have new : ObjOk X.prog X.w (upd H s.heap.objs.size (.tup [x, y])) h'' s.heap.objs.size (.tup [x, y]) :=
      ⟨by show 2 ≤ sizeLine; decide, [x1, x2], .cons rv1' (.cons rv2' .nil), ⟨_, hT2, rfl, _, rfl⟩⟩
    have I1 : Inv X pins σ (upd H s.heap.objs.size (.tup [x, y])) { s with heap := h'', toks := tk } :=
      I.turnedNew (t' := tk) (ch := [z, TI, TO, i1, i2]) (fun c' o hb q => (sb.2 c' (fun q' => hb (by simp [q']))).trans (hk c' o (fun q' => hb (by simp [q'])) (fun q' => hb (by simp [q'])) (fun q' => hb (by simp [q'])) (fun q' => hb (by simp [q'])) q)) hf (Nat.le_refl _) new
    refine ⟨.ref s.heap.objs.size, _, I1, rfl, ⟨_, x, y, rfl, I.hok.fresh (Nat.le_refl _), rfl, fun l hl => by rw [I.list_inj hl hqx]; exact hx, fun l hl => by rw [I.tuple_inj hl hqy]; exact hy⟩, ⟨z'', ?_, ⟨x1, x2, ?_⟩, ?_, ?_⟩, fun c' hcm => ?_⟩
    · exact (sb.2 _ D.TIz).trans (hk _ _ D.TIz D.TITO D.TIi1 D.TIi2 hTI)
    · exact (sb.2 _ D.TOz).trans TO'
    · exact s1.1.at fun o q => (sb.2 _ D.zi1.symm).trans q
    · exact s2.1.at fun o q => (sb.2 _ D.zi2.symm).trans q
    · have hlt : c' < s.heap.objs.size := by
        have e' : c' = z ∨ c' = TI ∨ c' = TO ∨ c' = i1 ∨ c' = i2 := by simpa using hcm
        rcases e' with q | q | q | q | q
        · rw [q]; exact hzl
        · rw [q]; exact Heap.lt_size hTI
        · rw [q]; exact Heap.lt_size hTO
        · rw [q]; obtain ⟨_, e1, _⟩ := h1; exact Heap.lt_size e1
        · rw [q]; obtain ⟨_, e2, _⟩ := h2; exact Heap.lt_size e2
      rw [upd_ne (Nat.ne_of_lt hlt)]
      exact (hf c' hcm).1
  done := by
    intro X hP hw hK hc i pins s σ H E I hf st hg
    subst hP hw hK
    obtain ⟨hz, hTI, ⟨x0, y0, hTO⟩, h1, h2⟩ := st
    obtain ⟨xs, ys, hqx, hqy, n1, n2, hend⟩ := hg
    obtain ⟨its, rv, p, _⟩ := I.list hqx
    obtain ⟨its2, rv2, p2, _⟩ := I.tuple hqy
    have l1 : xs.length = its.toArray.size := by rw [rv.length]; simp
    have l2 : ys.length = its2.toArray.size := by rw [rv2.length]; simp
    have hh : X.A.handled = none := I.ok.hd hc
    exact wpAny_pyNext_zipD2_end D (Draws.list (A := X.A.in1) hh i1 a na its.toArray) (Draws.tuple (A := X.A.in1) hh i2 b nb its2.toArray) hz hTI hTO ⟨h1, p.isList⟩ ⟨h2, p2⟩ (by omega) (by omega) (by omega) fun h' tk hk => ⟨rfl, I.turnedL (t' := tk) (ch := [z, TI, TO, i1, i2]) (fun c' o hb q =>
      hk c' o (fun q' => hb (by simp [q'])) (fun q' => hb (by simp [q'])) (fun q' => hb (by simp [q'])) (fun q' => hb (by simp [q'])) q) hf⟩
  self := fun A i s Q E st h => wpAny_pyIter_zip st.1 h
def iZipM (K : PySem.W.Frag) (ta : TA) : TI := fun σ H R => ta σ H fun vs H1 => ∃ a b xs ys, vs = [.ref a, .ref b] ∧ ((SqT K H1 a xs ∧ SqL K H1 b ys ∧ R (ItzTL K a b) H1) ∨ (SqL K H1 a xs ∧ SqT K H1 b ys ∧ R (ItzLT K a b) H1))
theorem pi_zipM {X : Cx} {e e2 : Expr} {ta : TA} {p pos tpos : Pos} {elts : List Expr} {kk : Nat} (hg : Gl X "zip") (hm : X.mg "zip" = none) (ha : PA X [e, e2] ta)
    (hs : starEach [e, e2] X.env = (false, eval e X.env) :: starEach [e2] X.env := by rfl) (hpl : (backTo pos (starEach [e2] X.env)).any (·.1) = false := by rfl) :
    PI X (.Tuple elts kk tpos) (.Call (.Name "zip" p) [e, e2] [] pos) (iZipM X.K ta) := by
  refine ⟨fun pins s σ H R I h => ?_⟩
  refine Call_ (ld_blt I hg hm PyProof.Rows.boot_zip (PyProof.Rows.callWith_type1 (thn (ha.run pos pins s σ H _ I h) fun us s1 ⟨vs, H1, I1, r1, q1⟩ => ?_) hs hpl))
  obtain ⟨a, b, xs, ys, ex, q⟩ := q1
  subst ex
  cases r1 with
  | cons r rr =>
    cases rr with
    | cons r' rr =>
      cases rr
      cases r
      cases r'
      rcases q with ⟨hqx, hqy, q⟩ | ⟨hqx, hqy, q⟩
      · obtain ⟨its, rv, p1, _⟩ := I1.tuple hqx
        obtain ⟨its2, rv2, p2, _⟩ := I1.list hqy
        have la : a < s1.heap.objs.size := by obtain ⟨_, e, _⟩ := p1; exact Heap.lt_size e
        have lb : b < s1.heap.objs.size := p2.lt
        refine zip_begins2 (begins_tuple a its.toArray) (begins_list b its2.toArray) p1 p2.isList fun h' hz hTI hTO g1 g2 hsz hk => wpAny_pyIter_zip hz ?_
        have I2 : Inv X pins σ H1 { s1 with heap := h' } := I1.kept (t' := s1.toks) hk
        have sep := zip_sep2 (N := s1.heap.objs.size) (fp1 := [a]) (fp2 := [b]) (fun x hx => by rw [List.mem_singleton.mp hx]; exact la) (fun x hx => by rw [List.mem_singleton.mp hx]; exact lb)
        refine ⟨s1.heap.objs.size + 4, [s1.heap.objs.size + 4, s1.heap.objs.size + 2, s1.heap.objs.size + 3, s1.heap.objs.size, s1.heap.objs.size + 1], _, _, H1, rfl, I2, turn_zipTL sep (Nat.ne_of_lt la) (Nat.ne_of_lt (Nat.lt_succ_of_lt lb)), ⟨hz, hTI, ⟨_, _, hTO⟩, ⟨_, g1, rfl, rfl⟩, ⟨_, g2, rfl, rfl⟩⟩, fun c' hcm => ?_, q⟩
        have e' : c' = s1.heap.objs.size + 4 ∨ c' = s1.heap.objs.size + 2 ∨ c' = s1.heap.objs.size + 3 ∨ c' = s1.heap.objs.size ∨ c' = s1.heap.objs.size + 1 := by simpa using hcm
        have hle : s1.heap.objs.size ≤ c' := by
          rcases e' with z | z | z | z | z
          · rw [z]; exact Nat.le_add_right _ _
          · rw [z]; exact Nat.le_add_right _ _
          · rw [z]; exact Nat.le_add_right _ _
          · rw [z]; exact Nat.le_refl _
          · rw [z]; exact Nat.le_add_right _ _
        exact I1.fpOk hle (I1.hok.fresh hle)
      · obtain ⟨its, rv, p1, _⟩ := I1.list hqx
        obtain ⟨its2, rv2, p2, _⟩ := I1.tuple hqy
        have la : a < s1.heap.objs.size := p1.lt
        have lb : b < s1.heap.objs.size := by obtain ⟨_, e, _⟩ := p2; exact Heap.lt_size e
        refine zip_begins2 (begins_list a its.toArray) (begins_tuple b its2.toArray) p1.isList p2 fun h' hz hTI hTO g1 g2 hsz hk => wpAny_pyIter_zip hz ?_
        have I2 : Inv X pins σ H1 { s1 with heap := h' } := I1.kept (t' := s1.toks) hk
        have sep := zip_sep2 (N := s1.heap.objs.size) (fp1 := [a]) (fp2 := [b]) (fun x hx => by rw [List.mem_singleton.mp hx]; exact la) (fun x hx => by rw [List.mem_singleton.mp hx]; exact lb)
        refine ⟨s1.heap.objs.size + 4, [s1.heap.objs.size + 4, s1.heap.objs.size + 2, s1.heap.objs.size + 3, s1.heap.objs.size, s1.heap.objs.size + 1], _, _, H1, rfl, I2, turn_zipLT sep (Nat.ne_of_lt la) (Nat.ne_of_lt (Nat.lt_succ_of_lt lb)), ⟨hz, hTI, ⟨_, _, hTO⟩, ⟨_, g1, rfl, rfl⟩, ⟨_, g2, rfl, rfl⟩⟩, fun c' hcm => ?_, q⟩
        have e' : c' = s1.heap.objs.size + 4 ∨ c' = s1.heap.objs.size + 2 ∨ c' = s1.heap.objs.size + 3 ∨ c' = s1.heap.objs.size ∨ c' = s1.heap.objs.size + 1 := by simpa using hcm
        have hle : s1.heap.objs.size ≤ c' := by
          rcases e' with z | z | z | z | z
          · rw [z]; exact Nat.le_add_right _ _
          · rw [z]; exact Nat.le_add_right _ _
          · rw [z]; exact Nat.le_add_right _ _
          · rw [z]; exact Nat.le_refl _
          · rw [z]; exact Nat.le_add_right _ _
        exact I1.fpOk hle (I1.hok.fresh hle)
end L2
namespace BL
open PySem PySem.Spec PyProof.Rows L2
section
variable {X : Cx} {C : Addr} {pos : Pos} {e a b : Expr} {ma mb : ME}
theorem it_zipTL {K : PySem.W.Frag} {W : Wd} {a b : Addr} {vs us : List V} {xs ys : List PV} (h : SqT K W.F a vs) (r : RepAll K C W.F W.θ vs xs) (h' : W.F b = some (.lst us)) (r' : RepAll K C W.F W.θ us ys) : ItOk K C W (ItzTL K a b) (zipP xs ys) := by
  have h1 : ∀ W1 S, GroF W W1 → Inv1 K C W1 S → SqT K W1.H a vs ∧ SqL K W1.H b us := fun W1 S g i => ⟨i.s.seT (g.f.seT h), i.s.seq (SqL.of (g.f _ _ h'))⟩
  refine ⟨fun i W1 S g i1 hi => ?_, fun W1 S g i1 => ⟨vs, us, (h1 W1 S g i1).1, (h1 W1 S g i1).2, by rw [r.len, r'.len, zipP_len]; omega⟩, fun i W1 S v H' x g i1 hx y => ?_⟩
  · rw [zipP_len] at hi
    obtain ⟨v, ev, _⟩ := r.at (i := i) (List.getElem?_eq_getElem (by omega))
    obtain ⟨u, eu, _⟩ := r'.at (i := i) (List.getElem?_eq_getElem (by omega))
    exact ⟨vs, us, v, u, (h1 W1 S g i1).1, (h1 W1 S g i1).2, ev, eu⟩
  · obtain ⟨T, u, w, rfl, nT, rfl, hv, hw⟩ := y
    obtain ⟨p, q, hp, hq, rfl⟩ := zipP_at hx
    obtain ⟨u', eu, ru⟩ := (grow_all r g).at hp
    obtain ⟨w', ew, rw'⟩ := (grow_all r' g).at hq
    have e1 := hv vs (h1 W1 S g i1).1
    have e2 := hw us (h1 W1 S g i1).2
    rw [eu] at e1
    rw [ew] at e2
    cases Option.some.inj e1
    cases Option.some.inj e2
    obtain ⟨g2, i2⟩ := laid (.tup [u, w]) i1 nT
    exact ⟨_, rfl, g2, i2, .tup (SqT.of upd_same) (.cons (ru.ext g2) (.cons (rw'.ext g2) .nil))⟩
theorem it_zipLT {K : PySem.W.Frag} {W : Wd} {a b : Addr} {vs us : List V} {xs ys : List PV} (h : W.F a = some (.lst vs)) (r : RepAll K C W.F W.θ vs xs) (h' : SqT K W.F b us) (r' : RepAll K C W.F W.θ us ys) : ItOk K C W (ItzLT K a b) (zipP xs ys) := by
  have h1 : ∀ W1 S, GroF W W1 → Inv1 K C W1 S → SqL K W1.H a vs ∧ SqT K W1.H b us := fun W1 S g i => ⟨i.s.seq (SqL.of (g.f _ _ h)), i.s.seT (g.f.seT h')⟩
  refine ⟨fun i W1 S g i1 hi => ?_, fun W1 S g i1 => ⟨vs, us, (h1 W1 S g i1).1, (h1 W1 S g i1).2, by rw [r.len, r'.len, zipP_len]; omega⟩, fun i W1 S v H' x g i1 hx y => ?_⟩
  · rw [zipP_len] at hi
    obtain ⟨v, ev, _⟩ := r.at (i := i) (List.getElem?_eq_getElem (by omega))
    obtain ⟨u, eu, _⟩ := r'.at (i := i) (List.getElem?_eq_getElem (by omega))
    exact ⟨vs, us, v, u, (h1 W1 S g i1).1, (h1 W1 S g i1).2, ev, eu⟩
  · obtain ⟨T, u, w, rfl, nT, rfl, hv, hw⟩ := y
    obtain ⟨p, q, hp, hq, rfl⟩ := zipP_at hx
    obtain ⟨u', eu, ru⟩ := (grow_all r g).at hp
    obtain ⟨w', ew, rw'⟩ := (grow_all r' g).at hq
    have e1 := hv vs (h1 W1 S g i1).1
    have e2 := hw us (h1 W1 S g i1).2
    rw [eu] at e1
    rw [ew] at e2
    cases Option.some.inj e1
    cases Option.some.inj e2
    obtain ⟨g2, i2⟩ := laid (.tup [u, w]) i1 nT
    exact ⟨_, rfl, g2, i2, .tup (SqT.of upd_same) (.cons (ru.ext g2) (.cons (rw'.ext g2) .nil))⟩
/-- zip of a tuple and a list, or of a list and a tuple -/
def mZipM (ma mb : ME) : MI := fun ρ S => match ma ρ S with
  | some (.tup xs, S1) => match mb ρ S1 with
    | some (.lst ys, S2) => some (zipP xs ys, S2)
    | _ => none
  | some (.lst xs, S1) => match mb ρ S1 with
    | some (.tup ys, S2) => some (zipP xs ys, S2)
    | _ => none
  | _ => none
theorem izipM {p tpos : Pos} {elts : List Expr} {kk : Nat} (hg : Gl X "zip") (hm : X.mg "zip" = none) (ha : PE X a (tM X.K C ma)) (hb : PE X b (tM X.K C mb)) (hst2 : starEach (b :: []) X.env = (false, eval b X.env) :: starEach [] X.env := by rfl)
    (hs : starEach [a, b] X.env = (false, eval a X.env) :: starEach [b] X.env := by rfl) (hpl : (backTo pos (starEach [b] X.env)).any (·.1) = false := by rfl) :
    PI X (.Tuple elts kk tpos) (.Call (.Name "zip" p) [a, b] [] pos) (tMI X.K C (mZipM ma mb)) := PI.weak (pi_zipM hg hm (pa_cons ha (pa_cons hb pa_nil hst2) hs) hs hpl) fun σ H R0 ⟨W0, W, ρ, S, xs, S', eH, R, em, q⟩ => by
  subst eH
  unfold mZipM at em
  split at em
  · rename_i ys S1 e1
    split at em
    · rename_i zs S2 e2
      cases em
      refine ⟨W0, W, ρ, S, _, S1, rfl, R, e1, fun v W1 R1 g1 r1 => ⟨W0, W1, ρ, S1, _, S', rfl, R1, e2, fun u W2 R2 g2 r2 => ?_⟩⟩
      have r1' := r1.ext g2
      cases r1' with
      | tup h a1 =>
        cases r2 with
        | lst h' a2 => exact ⟨_, _, _, _, rfl, .inl ⟨R2.i.s.seT h, R2.i.s.seq (SqL.of h'), q _ W2 R2 (g1.trans g2) (it_zipTL h a1 h' a2)⟩⟩
    · cases em
  · rename_i ys S1 e1
    split at em
    · rename_i zs S2 e2
      cases em
      refine ⟨W0, W, ρ, S, _, S1, rfl, R, e1, fun v W1 R1 g1 r1 => ⟨W0, W1, ρ, S1, _, S', rfl, R1, e2, fun u W2 R2 g2 r2 => ?_⟩⟩
      have r1' := r1.ext g2
      cases r1' with
      | lst h a1 =>
        cases r2 with
        | tup h' a2 => exact ⟨_, _, _, _, rfl, .inr ⟨R2.i.s.seq (SqL.of h), R2.i.s.seT h', q _ W2 R2 (g1.trans g2) (it_zipLT h a1 h' a2)⟩⟩
    · cases em
  · cases em
/-- zip of two things of any kind -/
def mZipX (ma mb : ME) : MI := fun ρ S => match ma ρ S with
  | some (x, S1) => match mb ρ S1 with
    | some (y, S2) => match items x, items y with
      | some xs, some ys => some (zipP xs ys, S2)
      | _, _ => none
    | none => none
  | none => none
theorem izipX {p tpos : Pos} {elts : List Expr} {kk : Nat} (hg : Gl X "zip") (hm : X.mg "zip" = none) (ha : PE X a (tM X.K C ma)) (hb : PE X b (tM X.K C mb)) (hst2 : starEach (b :: []) X.env = (false, eval b X.env) :: starEach [] X.env := by rfl)
    (hs : starEach [a, b] X.env = (false, eval a X.env) :: starEach [b] X.env := by rfl) (hpl : (backTo pos (starEach [b] X.env)).any (·.1) = false := by rfl) :
    PI X (.Tuple elts kk tpos) (.Call (.Name "zip" p) [a, b] [] pos) (tMI X.K C (mZipX ma mb)) := PI.weak (PI.or (izip hg hm ha hb hst2 hs hpl) (izipM hg hm ha hb hst2 hs hpl)) fun σ H R0 ⟨W0, W, ρ, S, xs, S', eH, R, em, q⟩ => by
  subst eH
  unfold mZipX at em
  split at em
  · rename_i x S1 e1
    split at em
    · rename_i y S2 e2
      cases x with
      | tup us =>
        cases y with
        | tup ws => exact .inl ⟨W0, W, ρ, S, xs, S', rfl, R, by unfold mZip; rw [e1]; simp only [e2]; exact em, q⟩
        | lst ws => exact .inr ⟨W0, W, ρ, S, xs, S', rfl, R, by unfold mZipM; rw [e1]; simp only [e2]; exact em, q⟩
        | _ => cases em
      | lst us =>
        cases y with
        | lst ws => exact .inl ⟨W0, W, ρ, S, xs, S', rfl, R, by unfold mZip; rw [e1]; simp only [e2]; exact em, q⟩
        | tup ws => exact .inr ⟨W0, W, ρ, S, xs, S', rfl, R, by unfold mZipM; rw [e1]; simp only [e2]; exact em, q⟩
        | _ => cases em
      | _ => cases em
    · cases em
  · cases em
end
end BL
namespace BL
open PySem PySem.Spec PyProof.Rows L2
/-- tuple() of a list that others may change -/
def fTupM (S : List PV) : List PV → Option PV
  | [.mref n] => match S[n]? with
    | some (.lst xs) => some (.tup xs)
    | _ => none
  | _ => none
section
variable {K : PySem.W.Frag} {C : Addr}
theorem l_tupM : LRn K C (fun xs H Q => ∃ p ys, xs = [.ref p] ∧ ((SqL K H p ys ∧ ∀ l, H l = none → Q (.ref l) (upd H l (.tup ys))) ∨ (SqT K H p ys ∧ Q (.ref p) H))) fTupM := fun W S vs xs z Q i r e q => by
  unfold fTupM at e
  split at e
  · split at e
    · rename_i n xs hs
      cases e
      cases r with
      | cons r rr =>
        cases rr
        cases r with
        | mref hn =>
          obtain ⟨_, vs, eh, a⟩ := i.m _ _ _ hn hs
          refine ⟨_, _, rfl, .inl ⟨SqL.of eh, fun p np => ?_⟩⟩
          obtain ⟨g, i2⟩ := laid (.tup _) i np
          exact q _ _ g i2 (.tup (SqT.of upd_same) (a.ext g))
    · cases e
  · cases e
end
end BL

/-! list(z), z a zip over two lists -/
namespace PySem.W
open PySem PySem.Calls PyProof.Rows PyProof.V PySem.Spec
structure ZilG (xs ys : Array Value) (lo : Addr) (h : Heap) (as : List Addr) : Prop where
  rise : as.Pairwise (· < ·)
  above : ∀ a ∈ as, lo < a
  pairs : ∀ (j : Nat) (a : Addr), as[j]? = some a → ∃ x y, xs[j]? = some x ∧ ys[j]? = some y ∧ IsPair h a x y
theorem ZilG.there {xs ys : Array Value} {lo : Addr} {h : Heap} {as : List Addr} (g : ZilG xs ys lo h as) {a : Addr} (ha : a ∈ as) : a < h.objs.size := by
  obtain ⟨j, hj⟩ := List.mem_iff_getElem?.mp ha
  obtain ⟨_, _, _, _, e⟩ := g.pairs j a hj
  exact Heap.lt_size e
def ZSt (z TI TO i1 i2 l1 l2 S : Addr) (xs ys : Array Value) (i : Nat) (h : Heap) : Prop :=
  IsPair h TI (.ref i1) (.ref i2) ∧ h.IsListIter i1 l1 i ∧ h.IsListIter i2 l2 i ∧ h.IsList l1 xs ∧ h.IsList l2 ys ∧
    ((IsZip h z TI TO .none ∧ ∃ a b, IsPair h TO a b) ∨ ∃ T f oT, IsZipHeld h z TI TO T f ∧ h.get? T = some oT ∧ T ≠ z ∧ T ≠ i1 ∧ T ≠ i2 ∧ T ≠ S)
section
variable {z TI TO i1 i2 l1 l2 S : Addr} {xs ys : Array Value}
theorem ZSt.keep {i : Nat} {h h' : Heap} (st : ZSt z TI TO i1 i2 l1 l2 S xs ys i h) (off : ∀ c ∈ [z, TI, TO, i1, i2, l1, l2], c ≠ S) (up : ∀ b o, b ≠ S → h.get? b = some o → h'.get? b = some o) : ZSt z TI TO i1 i2 l1 l2 S xs ys i h' := by
  obtain ⟨hTI, h1, h2, hl1, hl2, hz⟩ := st
  refine ⟨up _ _ (off _ (by simp)) hTI, h1.at fun o e => up _ o (off _ (by simp)) e, h2.at fun o e => up _ o (off _ (by simp)) e, hl1.at fun o e => up _ o (off _ (by simp)) e, hl2.at fun o e => up _ o (off _ (by simp)) e, ?_⟩
  rcases hz with ⟨hz, a, b, hTO⟩ | ⟨T, f, oT, hz, hT, r1, r2, r3, r4⟩
  · exact .inl ⟨up _ _ (off _ (by simp)) hz, a, b, up _ _ (off _ (by simp)) hTO⟩
  · exact .inr ⟨T, f, oT, up _ _ (off _ (by simp)) hz, up _ _ r4 hT, r1, r2, r3, r4⟩
variable {prog : Program} {w : World} {A : Around} {E : Value → Shared → Prop} {s : Shared}
theorem zil_item {i : Nat} {Q : Option Value → Shared → Prop} (D : ZipApart z TI TO i1 i2 l1 l2) (st : ZSt z TI TO i1 i2 l1 l2 S xs ys i s.heap) (hS : S < s.heap.objs.size) (hlt : i < min xs.size ys.size)
    (hQ : ∀ h' x y, xs[i]? = some x → ys[i]? = some y → ZSt z TI TO i1 i2 l1 l2 S xs ys (i + 1) h' → IsPair h' s.heap.objs.size x y → h'.objs.size = s.heap.objs.size + 1 →
      (∀ c o, c ≠ z → c ≠ TO → c ≠ i1 → c ≠ i2 → s.heap.get? c = some o → h'.get? c = some o) → Q (some (.ref s.heap.objs.size)) { s with heap := h' }) :
    wpAny (model prog w) A (pyNext (.ref z)) Q E s := by
  obtain ⟨hTI, h1, h2, hl1, hl2, hz⟩ := st
  have hix : i < xs.size := Nat.lt_of_lt_of_le hlt (Nat.min_le_left ..)
  have hiy : i < ys.size := Nat.lt_of_lt_of_le hlt (Nat.min_le_right ..)
  have ex := Array.getElem?_eq_getElem hix
  have ey := Array.getElem?_eq_getElem hiy
  have lt : ∀ {c o}, s.heap.get? c = some o → s.heap.objs.size ≠ c := fun e => Nat.ne_of_gt (Heap.lt_size e)
  have n1 : s.heap.objs.size ≠ i1 := let ⟨_, e, _⟩ := h1; lt e
  have n2 : s.heap.objs.size ≠ i2 := let ⟨_, e, _⟩ := h2; lt e
  rcases hz with ⟨hz, a, b, hTO⟩ | ⟨T, f, oT, hz, hT, r1, r2, r3, r4⟩
  · refine wpAny_pyNext_zip_item D hz hTI hTO h1 h2 hl1 hl2 ex ey fun h' a1 a2 a3 a4 a5 a6 hk => ?_
    exact hQ h' _ _ ex ey ⟨hk _ _ D.TIz D.TITO D.TIi1 D.TIi2 hTI, a3, a4, hl1.at fun o e => hk _ o D.l1z D.l1TO D.l1i1 D.l1i2 e, hl2.at fun o e => hk _ o D.l2z D.l2TO D.l2i1 D.l2i2 e,
      .inr ⟨s.heap.objs.size, false, _, a1, a5, lt hz, n1, n2, Nat.ne_of_gt hS⟩⟩ a5 a6 hk
  · refine wpAny_pyNext_zip_item_held D hz hT hTI h1 h2 hl1 hl2 ex ey fun h' a1 a3 a4 a5 a6 hk => ?_
    exact hQ h' _ _ ex ey ⟨hk _ _ D.TIz D.TIi1 D.TIi2 hTI, a3, a4, hl1.at fun o e => hk _ o D.l1z D.l1i1 D.l1i2 e, hl2.at fun o e => hk _ o D.l2z D.l2i1 D.l2i2 e,
      .inr ⟨T, true, oT, a1, hk _ _ r1 r2 r3 hT, r1, r2, r3, r4⟩⟩ a5 a6 fun c o c1 _ c2 c3 e => hk c o c1 c2 c3 e
theorem zil_done {Q : Option Value → Shared → Prop} (hh : A.handled = none) (D : ZipApart z TI TO i1 i2 l1 l2) (st : ZSt z TI TO i1 i2 l1 l2 S xs ys (min xs.size ys.size) s.heap)
    (hQ : ∀ h', (∀ c o, c ≠ z → c ≠ TO → c ≠ i1 → c ≠ i2 → s.heap.get? c = some o → h'.get? c = some o) → Q none { s with heap := h' }) : wpAny (model prog w) A (pyNext (.ref z)) Q E s := by
  obtain ⟨hTI, h1, h2, hl1, hl2, hz⟩ := st
  have hend : xs[min xs.size ys.size]? = none ∨ ys[min xs.size ys.size]? = none := by
    rcases Nat.le_total xs.size ys.size with h | h
    · exact .inl (Array.getElem?_eq_none (by rw [Nat.min_eq_left h]; exact Nat.le_refl _))
    · exact .inr (Array.getElem?_eq_none (by rw [Nat.min_eq_right h]; exact Nat.le_refl _))
  rcases hz with ⟨hz, a, b, hTO⟩ | ⟨T, f, oT, hz, hT, r1, r2, r3, r4⟩
  · exact wpAny_pyNext_zip_end hh D hz hTI hTO h1 h2 hl1 hl2 hend fun h' hk => hQ h' fun c o c1 c2 c3 c4 e => hk c o c1 c2 c3 c4 e
  · exact wpAny_pyNext_zip_end_held hh D hz hT hTI h1 h2 hl1 hl2 hend fun h' hk => hQ h' fun c o c1 c2 c3 c4 e => hk c o c1 c3 c4 e
end
section
variable {prog : Program} {w : World} {A : Around} {s : Shared} {R : Result → Shared → Prop} {z TI TO i1 i2 l1 l2 S : Addr} {xs ys : Array Value}
theorem zil_loop (hh : A.handled = none) (D : ZipApart z TI TO i1 i2 l1 l2) (off : ∀ c ∈ [z, TI, TO, i1, i2, l1, l2], c < S) (hn : min xs.size ys.size ≤ sizeLine) (res : Value) {h₁ : Heap}
    (hR : ∀ h' tk acc c as, (∀ b o, b ≠ S → b ≠ z → b ≠ TO → b ≠ i1 → b ≠ i2 → h₁.get? b = some o → h'.get? b = some o) → h'.get? S = some { cls := .type "list", dict := none, data := .seq acc c, slots := #[] } → as.length = min xs.size ys.size → ZilG xs ys S h' as →
      acc.toList = as.map Value.ref → R (.ok (.ret res)) { s with heap := h', toks := tk }) :
    ∀ (k i : Nat) (h : Heap) (tk c : Nat) (acc : Array Value) (as : List Addr), min xs.size ys.size - i = k → i ≤ min xs.size ys.size → ZSt z TI TO i1 i2 l1 l2 S xs ys i h → (∀ b o, b ≠ S → b ≠ z → b ≠ TO → b ≠ i1 → b ≠ i2 → h₁.get? b = some o → h.get? b = some o) →
      h.get? S = some { cls := .type "list", dict := none, data := .seq acc c, slots := #[] } → acc.toList = as.map Value.ref → as.length = i → ZilG xs ys S h as →
      codeAny (model prog w) A (.builtin "list.extend.loop" ⟨[.ref S, .ref z, res], []⟩) R { s with heap := h, toks := tk } := by
  have ne : ∀ c ∈ [z, TI, TO, i1, i2, l1, l2], c ≠ S := fun c hc => Nat.ne_of_lt (off c hc)
  have hzS := off z (by simp)
  have hTOS := off TO (by simp)
  have h1S := off i1 (by simp)
  have h2S := off i2 (by simp)
  have big : ∀ {a : Addr}, S < a → a ≠ z ∧ a ≠ TO ∧ a ≠ i1 ∧ a ≠ i2 := fun {a} ha => ⟨Nat.ne_of_gt (Nat.lt_trans hzS ha), Nat.ne_of_gt (Nat.lt_trans hTOS ha), Nat.ne_of_gt (Nat.lt_trans h1S ha), Nat.ne_of_gt (Nat.lt_trans h2S ha)⟩
  intro k
  induction k with
  | zero =>
    intro i h tk c acc as hk hi hst hkeep hS hacc hal hG
    have hin : i = min xs.size ys.size := by omega
    subst hin
    refine codeAny_builtin PySem.F.entry_extend_loop ?_
    rw [Around.under_plainId PySem.F.plain_extend_loop _]
    show wpAny _ A.in1 (pyNext (.ref z) >>= _) _ _ _
    refine wpAny_bind (zil_done (s := { s with heap := h, toks := tk }) (A := A.in1) hh D hst fun h' he => ?_)
    refine wpAny_pure (hR h' tk acc c as (fun b o h1 h2 h3 h4 h5 e => he b o h2 h3 h4 h5 (hkeep b o h1 h2 h3 h4 h5 e)) (he S _ (Ne.symm (ne z (by simp))) (Ne.symm (ne TO (by simp))) (Ne.symm (ne i1 (by simp))) (Ne.symm (ne i2 (by simp))) hS) (by omega) ⟨hG.rise, hG.above, fun j a hj => ?_⟩ hacc)
    obtain ⟨x, y, hx, hy, e3⟩ := hG.pairs j a hj
    obtain ⟨b1, b2, b3, b4⟩ := big (hG.above a (List.mem_of_getElem? hj))
    exact ⟨x, y, hx, hy, he a _ b1 b2 b3 b4 e3⟩
  | succ k ih =>
    intro i h tk c acc as hk hi hst hkeep hS hacc hal hG
    have hlt : i < min xs.size ys.size := by omega
    have hsz : acc.size = i := by rw [← Array.length_toList, hacc, List.length_map, hal]
    refine codeAny_builtin PySem.F.entry_extend_loop ?_
    rw [Around.under_plainId PySem.F.plain_extend_loop _]
    show wpAny _ A.in1 (pyNext (.ref z) >>= _) _ _ _
    refine wpAny_bind (zil_item (s := { s with heap := h, toks := tk }) (S := S) D hst (Heap.lt_size hS) hlt fun h' x y hx hy hst' ht hz hkp => ?_)
    dsimp only at ht hz hkp ⊢
    have hS' := hkp S _ (Ne.symm (ne z (by simp))) (Ne.symm (ne TO (by simp))) (Ne.symm (ne i1 (by simp))) (Ne.symm (ne i2 (by simp))) hS
    have up : ∀ b o, b ≠ S → h'.get? b = some o → (h'.update S (Obj.mapSeq (·.push (Value.ref h.objs.size)))).get? b = some o := fun b o hb e => (Heap.get?_update_other _ _ (Ne.symm hb)).trans e
    have hSl : S < h.objs.size := Heap.lt_size hS
    show wpAny _ A.in1 (updateSeq S (·.push (Value.ref h.objs.size)) >>= _) _ _ _
    refine wpAny_bind ?_
    refine wpAny_updateSeq hS' rfl (wpAny_pure ⟨plainId_quiet PySem.F.plain_extend_loop _, ih (i + 1) _ tk _ (acc.push (Value.ref h.objs.size)) (as ++ [h.objs.size]) (by omega) hlt (hst'.keep ne up)
      (fun b o h1 h2 h3 h4 h5 e => up b o h1 (hkp b o h2 h3 h4 h5 (hkeep b o h1 h2 h3 h4 h5 e))) (Heap.get?_update_self _ hS' rfl) (by rw [Array.toList_push, hacc, List.map_append]; rfl) (by rw [List.length_append, hal]; rfl) ⟨?_, ?_, ?_⟩⟩) (by rw [hsz]; omega) (by show (acc.push (Value.ref h.objs.size)).size ≤ sizeLine + 1; rw [Array.size_push, hsz]; omega)
    · refine List.pairwise_append.mpr ⟨hG.rise, List.pairwise_singleton _ _, fun a ha b hb => ?_⟩
      rw [List.mem_singleton.mp hb]
      exact hG.there ha
    · intro a ha
      rcases List.mem_append.mp ha with ha | ha
      · exact hG.above a ha
      · rw [List.mem_singleton.mp ha]; exact hSl
    · intro j b hj
      rcases Nat.lt_trichotomy j as.length with h1 | h1 | h1
      · rw [List.getElem?_append_left h1] at hj
        obtain ⟨x', y', hx', hy', e3⟩ := hG.pairs j b hj
        have hb := hG.above b (List.mem_of_getElem? hj)
        obtain ⟨b1, b2, b3, b4⟩ := big hb
        exact ⟨x', y', hx', hy', up b _ (Nat.ne_of_gt hb) (hkp b _ b1 b2 b3 b4 e3)⟩
      · subst h1
        have hb : h.objs.size = b := by simpa using hj
        subst hb
        exact ⟨x, y, by rw [hal]; exact hx, by rw [hal]; exact hy, up _ _ (Nat.ne_of_gt hSl) ht⟩
      · have hnone : (as ++ [h.objs.size])[j]? = none := List.getElem?_eq_none (by rw [List.length_append, List.length_singleton]; omega)
        rw [hnone] at hj; cases hj
end
section
variable {prog : Program} {w : World} {A : Around} {E : Value → Shared → Prop} {s : Shared} {z TI TO i1 i2 l1 l2 : Addr} {xs ys : Array Value}
theorem zip_no_len : typeLookup (.type "zip") "__len__" = pure none := by rw [typeLookup_type, builtinLookup_eq_fast]; kernel_rfl
theorem zip_no_hint : typeLookup (.type "zip") "__length_hint__" = pure none := by rw [typeLookup_type, builtinLookup_eq_fast]; kernel_rfl
theorem ZilG.low {lo lo' : Addr} {h : Heap} {as : List Addr} (g : ZilG xs ys lo h as) (hl : lo' ≤ lo) : ZilG xs ys lo' h as := ⟨g.rise, fun a ha => Nat.lt_of_le_of_lt hl (g.above a ha), g.pairs⟩
theorem zil_extend {R : Result → Shared → Prop} (hh : A.handled = none) (D : ZipApart z TI TO i1 i2 l1 l2) (S : Addr) (off : ∀ c ∈ [z, TI, TO, i1, i2, l1, l2], c < S) (st : ZSt z TI TO i1 i2 l1 l2 S xs ys 0 s.heap) (hz0 : IsZip s.heap z TI TO .none) (res : Value) (c₀ : Nat) (hS : s.heap.get? S = some { cls := .type "list", data := .seq #[] c₀ })
    (hR : ∀ h' tk acc c as, (∀ b o, b ≠ S → b ≠ z → b ≠ TO → b ≠ i1 → b ≠ i2 → s.heap.get? b = some o → h'.get? b = some o) → h'.get? S = some { cls := .type "list", dict := none, data := .seq acc c, slots := #[] } → as.length = min xs.size ys.size → ZilG xs ys S h' as →
      acc.toList = as.map Value.ref → R (.ok (.ret res)) { s with heap := h', toks := tk }) (hn : min xs.size ys.size ≤ sizeLine) :
    wpAny (model prog w) A.in1 (Builtin.List.listExtendWith (.ref S) (.ref z) res)
      (fun fin s' => match fin with | .done f => R (.ok f) s' | .again c' => c'.quiet = true ∧ codeAny (model prog w) A c' R s') (fun e s' => R (.error e) s') s := by
  have ne : ∀ c ∈ [z, TI, TO, i1, i2, l1, l2], c ≠ S := fun c hc => Nat.ne_of_lt (off c hc)
  have hT : s.TypeIs (.ref z) "zip" := ⟨_, hz0, rfl⟩
  unfold Builtin.List.listExtendWith
  refine wpAny_bind (wpAny_typeOf (T := "zip") hT ?_)
  have h1 : Builtin.List.listSameRef (.ref S) (.ref z) = false := by simp [Builtin.List.listSameRef, Ne.symm (ne z (by simp))]
  have h2 : (Value.type "zip" == Value.type "list") = false := by decide
  have h3 : (Value.type "zip" == Value.type "tuple") = false := by decide
  simp only [h1, h2, h3, Bool.or_false, Bool.false_eq_true, if_false]
  refine wpAny_bind (wpAny_pyIter_zip hz0 ?_)
  refine wpAny_bind (wpAny_holding ?_)
  unfold Builtin.List.listLengthHint
  refine wpAny_bind (wpAny_specialOf hT zip_no_len ?_)
  show wpAny _ A.in1 (specialOf (Value.ref z) (Str.ofString "__length_hint__") >>= _) _ _ _
  refine wpAny_bind (wpAny_specialOf hT zip_no_hint ?_)
  refine wpAny_pure ?_
  show wpAny _ A.in1 (rule "list.extend.makes-room" >>= fun _ => Builtin.List.listTouch (.ref S) >>= fun _ =>
    again (.builtin "list.extend.loop" ⟨[.ref S, .ref z, res], []⟩)) _ _ _
  refine wpAny_bind (wpAny_rule ?_)
  refine wpAny_bind ?_
  show wpAny _ _ (updateSeq S (·.push .none) >>= fun _ => updateSeq S (·.pop)) _ _ _
  refine wpAny_bind (wpAny_updateSeq hS rfl ?_)
  have hS₂ := Heap.get?_update_self (Obj.mapSeq (·.push Value.none)) hS rfl
  refine wpAny_updateSeq (hz := by seq_fits) hS₂ rfl ?_
  have hS₃ := Heap.get?_update_self (Obj.mapSeq (·.pop)) hS₂ rfl
  have oth : ∀ b o, b ≠ S → s.heap.get? b = some o → ((s.heap.update S (Obj.mapSeq (·.push Value.none))).update S (Obj.mapSeq (·.pop))).get? b = some o :=
    fun b o hb e => (Heap.get?_update_other _ _ (Ne.symm hb)).trans ((Heap.get?_update_other _ _ (Ne.symm hb)).trans e)
  exact wpAny_pure ⟨plainId_quiet PySem.F.plain_extend_loop _, zil_loop (s := s) (h₁ := s.heap) hh D off hn res hR _ 0 _ _ _ #[] [] (Nat.sub_zero _) (Nat.zero_le _) (st.keep ne oth) (fun b o hb _ _ _ _ e => oth b o hb e) hS₃ rfl rfl
    ⟨List.Pairwise.nil, (fun _ ha => nomatch ha), (fun j a hj => by simp at hj)⟩⟩
theorem zil_init {R : Result → Shared → Prop} (hh : A.handled = none) (D : ZipApart z TI TO i1 i2 l1 l2) (S : Addr) (off : ∀ c ∈ [z, TI, TO, i1, i2, l1, l2], c < S) (st : ZSt z TI TO i1 i2 l1 l2 S xs ys 0 s.heap) (hz0 : IsZip s.heap z TI TO .none) (hS : s.heap.get? S = some { cls := .type "list", data := .seq #[] })
    (hR : ∀ h' tk acc c as, (∀ b o, b ≠ S → b ≠ z → b ≠ TO → b ≠ i1 → b ≠ i2 → s.heap.get? b = some o → h'.get? b = some o) → h'.get? S = some { cls := .type "list", dict := none, data := .seq acc c, slots := #[] } → as.length = min xs.size ys.size → ZilG xs ys S h' as →
      acc.toList = as.map Value.ref → R (.ok (.ret .none)) { s with heap := h', toks := tk }) (hn : min xs.size ys.size ≤ sizeLine) :
    wpAny (model prog w) A.in1 (Builtin.«list.__init__» ⟨[.ref S, .ref z], []⟩)
      (fun fin s' => match fin with | .done f => R (.ok f) s' | .again c' => c'.quiet = true ∧ codeAny (model prog w) A c' R s') (fun e s' => R (.error e) s') s := by
  have ne : ∀ c ∈ [z, TI, TO, i1, i2, l1, l2], c ≠ S := fun c hc => Nat.ne_of_lt (off c hc)
  show wpAny _ _ (do let old ← Builtin.List.listItems (.ref S); Builtin.List.listUpdate (.ref S) (fun _ => #[]); letGo old.toList.reverse; Builtin.List.listExtendWith (.ref S) (.ref z) .none) _ _ s
  refine wpAny_bind ?_
  unfold Builtin.List.listItems
  refine wpAny_bind (wpAny_seqItems hS rfl (wpAny_pure ?_))
  show wpAny _ _ (updateSeq S (fun _ => #[]) >>= fun _ => letGo (#[] : Array Value).toList.reverse >>= fun _ => Builtin.List.listExtendWith (.ref S) (.ref z) .none) _ _ s
  refine wpAny_bind (wpAny_updateSeq hS rfl ?_)
  have hS₂ := Heap.get?_update_self (Obj.mapSeq (fun _ => (#[] : Array Value))) hS rfl
  have oth : ∀ b o, b ≠ S → s.heap.get? b = some o → (s.heap.update S (Obj.mapSeq (fun _ => (#[] : Array Value)))).get? b = some o :=
    fun b o hb e => (Heap.get?_update_other _ _ (Ne.symm hb)).trans e
  refine wpAny_bind (wpAny_letGo ?_)
  exact zil_extend hh D S off (st.keep ne oth) (oth z _ (ne z (by simp)) hz0) .none _ hS₂ (fun h' tk acc c as hk hS' hl hG hacc => hR h' tk acc c as (fun b o hb b1 b2 b3 b4 e => hk b o hb b1 b2 b3 b4 (oth b o hb e)) hS' hl hG hacc) hn
theorem zil_call {Q : Value → Shared → Prop} (hh : A.handled = none) (D : ZipApart z TI TO i1 i2 l1 l2) (hz : IsZip s.heap z TI TO .none) (hTI : IsPair s.heap TI (.ref i1) (.ref i2)) (hTO : ∃ a b, IsPair s.heap TO a b) (h1 : s.heap.IsListIter i1 l1 0) (h2 : s.heap.IsListIter i2 l2 0) (hl1 : s.heap.IsList l1 xs) (hl2 : s.heap.IsList l2 ys) (hn : min xs.size ys.size ≤ sizeLine)
    (hQ : ∀ h' tk acc c as, (∀ b o, b ≠ z → b ≠ TO → b ≠ i1 → b ≠ i2 → s.heap.get? b = some o → h'.get? b = some o) → h'.get? s.heap.objs.size = some { cls := .type "list", dict := none, data := .seq acc c, slots := #[] } → as.length = min xs.size ys.size → ZilG xs ys s.heap.objs.size h' as →
      acc.toList = as.map Value.ref → Q (.ref s.heap.objs.size) { s with heap := h', toks := tk }) :
    wpAny (model prog w) A (call (.type "list") [.ref z]) Q E s := by
  refine callType_codes (Q₁ := fun obj s₁ => obj = .ref s.heap.objs.size ∧ s₁ = { s with heap := s.heap.push { cls := .type "list", data := .seq #[] } }) PySem.F.called_list (PySem.F.typeCall_list_1 _) PySem.F.entry_list_init
    (code_list_new _ ⟨rfl, rfl⟩) fun obj s₁ h₁ => ?_
  obtain ⟨rfl, rfl⟩ := h₁
  have hS : (s.heap.push { cls := .type "list", data := .seq #[] }).get? s.heap.objs.size = some { cls := .type "list", data := .seq #[] } := Heap.get?_push_size _ rfl
  obtain ⟨a0, b0, hTO'⟩ := hTO
  have off : ∀ c ∈ [z, TI, TO, i1, i2, l1, l2], c < s.heap.objs.size := fun c hc => by
    simp only [List.mem_cons, List.not_mem_nil, or_false] at hc
    rcases hc with rfl | rfl | rfl | rfl | rfl | rfl | rfl
    · exact Heap.lt_size hz
    · exact Heap.lt_size hTI
    · exact Heap.lt_size hTO'
    · obtain ⟨_, e, _⟩ := h1; exact Heap.lt_size e
    · obtain ⟨_, e, _⟩ := h2; exact Heap.lt_size e
    · obtain ⟨_, e, _⟩ := hl1; exact Heap.lt_size e
    · obtain ⟨_, e, _⟩ := hl2; exact Heap.lt_size e
  have pu : ∀ b o, s.heap.get? b = some o → (s.heap.push { cls := .type "list", data := .seq #[] }).get? b = some o := fun b o e => Heap.get?_push_of_some _ e
  refine ⟨⟨_, hS, rfl⟩, PySem.F.args_list_init_2 _ _, zil_init (A := A.in1) (s := { s with heap := s.heap.push { cls := .type "list", data := .seq #[] } }) hh D s.heap.objs.size off
    ⟨pu _ _ hTI, h1.at fun o e => pu _ o e, h2.at fun o e => pu _ o e, hl1.at fun o e => pu _ o e, hl2.at fun o e => pu _ o e, .inl ⟨pu _ _ hz, _, _, pu _ _ hTO'⟩⟩ (pu _ _ hz) hS (fun h' tk acc c as hk hS' hl hG hacc => ?_) hn⟩
  exact ⟨rfl, hQ h' tk acc c as (fun b o b1 b2 b3 b4 e => hk b o (Nat.ne_of_lt (Heap.lt_size e)) b1 b2 b3 b4 (pu b o e)) hS' hl hG hacc⟩
end
end PySem.W

/-! list(zip(a, b)) of two lists, as an expression -/
namespace L2
open PySem PySem.Spec PyProof.Rows PySem.W
/-- tuples of two laid at as -/
def newT (H : Hp) : List Addr → List (V × V) → Hp
  | a :: as, p :: ps => newT (upd H a (.tup [p.1, p.2])) as ps
  | _, _ => H
theorem newT_ne : ∀ {as : List Addr} {ps : List (V × V)} {H : Hp} {b : Addr}, b ∉ as → newT H as ps b = H b
  | [], _, _, _, _ => rfl
  | _ :: _, [], _, _, _ => rfl
  | a :: as, p :: ps, H, b, h => by
    show newT (upd H a (.tup [p.1, p.2])) as ps b = H b
    rw [newT_ne (fun z => h (List.mem_cons_of_mem _ z)), upd_ne (fun z => h (by rw [z]; exact List.mem_cons_self))]
theorem newT_at : ∀ {as : List Addr} {ps : List (V × V)} {H : Hp} {j : Nat} {a : Addr} {p : V × V}, as.Pairwise (· < ·) → as[j]? = some a → ps[j]? = some p → newT H as ps a = some (.tup [p.1, p.2])
  | a :: as, p :: ps, H, 0, _, _, hp, h1, h2 => by
    cases h1; cases h2
    have h := List.pairwise_cons.mp hp
    show newT (upd H a (.tup [p.1, p.2])) as ps a = _
    rw [newT_ne (fun z => Nat.lt_irrefl _ (h.1 a z)), upd_same]
  | a :: as, q :: ps, H, j + 1, b, p, hp, h1, h2 => newT_at (as := as) (ps := ps) (H := upd H a (.tup [q.1, q.2])) (j := j) (List.pairwise_cons.mp hp).2 (by simpa using h1) (by simpa using h2)
  | [], _, _, _, _, _, _, h1, _ => by simp at h1
  | _ :: _, [], _, _, _, _, _, _, h2 => by simp at h2
theorem valsRf : ∀ as : List Addr, Vals (as.map V.ref) (as.map Value.ref)
  | [] => .nil
  | a :: as => .cons rfl (valsRf as)
def tLZ (K : PySem.W.Frag) (ta : TA) : TE := fun σ H Q => ta σ H fun vs H1 => ∃ a b xs ys, vs = [.ref a, .ref b] ∧ SqL K H1 a xs ∧ SqL K H1 b ys ∧
  ∀ (as : List Addr) (p : Addr), as.length = min xs.length ys.length → as.Pairwise (· < ·) → (∀ c ∈ as, H1 c = none) → H1 p = none → p ∉ as → Q (.ref p) (upd (newT H1 as (xs.zip ys)) p (.lst (as.map V.ref)))
theorem pe_lzip {X : Cx} {e e2 : Expr} {ta : TA} {p q pz pl : Pos} (hc : X.calm = true) (hgl : Gl X "list") (hml : X.mg "list" = none) (hgz : Gl X "zip") (hmz : X.mg "zip" = none) (ha : PA X [e, e2] ta)
    (hs : starEach [e, e2] X.env = (false, eval e X.env) :: starEach [e2] X.env := by rfl) (hpl : (backTo pz (starEach [e2] X.env)).any (·.1) = false := by rfl)
    (na : starEach [.Call (.Name "zip" q) [e, e2] [] pz] X.env = (false, eval (.Call (.Name "zip" q) [e, e2] [] pz) X.env) :: starEach [] X.env := by rfl) :
    PE X (.Call (.Name "list" p) [.Call (.Name "zip" q) [e, e2] [] pz] [] pl) (tLZ X.K ta) := by
  refine ⟨fun pins s σ H Q I h => ?_⟩
  have ze : wpAny (model X.prog X.w) X.A (eval (.Call (.Name "zip" q) [e, e2] [] pz) X.env) (fun x s' => ∃ (a b : Addr) (xs ys : List V) (its its2 : List Value) (s1 : Shared) (H1 : Hp) (h' : Heap), x = .ref (s1.heap.objs.size + 4) ∧ s' = { s1 with heap := h' } ∧ Inv X pins σ H1 s1 ∧
      IsZip h' (s1.heap.objs.size + 4) (s1.heap.objs.size + 2) (s1.heap.objs.size + 3) .none ∧ IsPair h' (s1.heap.objs.size + 2) (.ref s1.heap.objs.size) (.ref (s1.heap.objs.size + 1)) ∧ IsPair h' (s1.heap.objs.size + 3) .none .none ∧
      h'.IsListIter s1.heap.objs.size a 0 ∧ h'.IsListIter (s1.heap.objs.size + 1) b 0 ∧ s1.heap.IsList a its.toArray ∧ s1.heap.IsList b its2.toArray ∧ Vals xs its ∧ Vals ys its2 ∧ xs.length ≤ sizeLine ∧ a < s1.heap.objs.size ∧ b < s1.heap.objs.size ∧ (∀ c o, s1.heap.get? c = some o → h'.get? c = some o) ∧
      ∀ (as : List Addr) (p : Addr), as.length = min xs.length ys.length → as.Pairwise (· < ·) → (∀ c ∈ as, H1 c = none) → H1 p = none → p ∉ as → Q (.ref p) (upd (newT H1 as (xs.zip ys)) p (.lst (as.map V.ref)))) X.xe s := by
    refine Call_ (ld_blt I hgz hmz PyProof.Rows.boot_zip (PyProof.Rows.callWith_type1 (thn (ha.run pz pins s σ H _ I h) fun us s1 ⟨vs, H1, I1, r1, q1⟩ => ?_) hs hpl))
    obtain ⟨a, b, xs, ys, ex, hqx, hqy, q1⟩ := q1
    subst ex
    cases r1 with
    | cons r rr =>
      cases rr with
      | cons r' rr =>
        cases rr
        cases r
        cases r'
        obtain ⟨its, rv, p1, lx⟩ := I1.list hqx
        obtain ⟨its2, rv2, p2, _⟩ := I1.list hqy
        refine call_zip_2 p1.isList p2.isList fun h' hz hTI hTO h1 h2 hsz hk => ?_
        exact ⟨a, b, xs, ys, its, its2, s1, H1, h', rfl, rfl, I1, hz, hTI, hTO, h1, h2, p1.isList, p2.isList, rv, rv2, lx, p1.lt, p2.lt, hk, q1⟩
  refine Call_ (ld_blt I hgl hml boot_list (PyProof.Rows.callWith_type1 (args_cons (thn ze fun x s2 ⟨a, b, xs, ys, its, its2, s1, H1, h', ex, es, I1, hz, hTI, hTO, h1, h2, hl1, hl2, rv, rv2, lx, la, lb, hk, qq⟩ => args_nil ?_) na) na))
  subst ex
  subst es
  have D := PySem.W.ktu_apart s1.heap.objs.size a b la lb
  have e1 : its.toArray.size = xs.length := by rw [rv.length]; simp
  have e2' : its2.toArray.size = ys.length := by rw [rv2.length]; simp
  refine zil_call (s := { s1 with heap := h' }) (xs := its.toArray) (ys := its2.toArray) (I1.ok.hd hc) D hz hTI ⟨_, _, hTO⟩ h1 h2 (hl1.at fun o e => hk _ o e) (hl2.at fun o e => hk _ o e) (by rw [e1]; omega) fun h'' tk acc c as hk2 hS hl hG hacc => ?_
  dsimp only at hS hG hk2 ⊢
  have hsz : s1.heap.objs.size ≤ h'.objs.size := Nat.le_of_lt (Nat.lt_of_le_of_lt (Nat.le_add_right _ 4) (Heap.lt_size hz))
  have keep : ∀ c o, s1.heap.get? c = some o → h''.get? c = some o := fun c o e => by
    have lt := Heap.lt_size e
    exact hk2 c o (Nat.ne_of_lt (Nat.lt_of_lt_of_le lt (Nat.le_add_right _ _))) (Nat.ne_of_lt (Nat.lt_of_lt_of_le lt (Nat.le_add_right _ _))) (Nat.ne_of_lt lt) (Nat.ne_of_lt (Nat.lt_of_lt_of_le lt (Nat.le_add_right _ _))) (hk c o e)
  have new : ∀ {c : Addr}, s1.heap.objs.size ≤ c → H1 c = none := fun hc' => I1.hok.fresh hc'
  have asn : ∀ c ∈ as, H1 c = none := fun c hc' => new (Nat.le_trans hsz (Nat.le_of_lt (hG.above c hc')))
  have pn : H1 h'.objs.size = none := new hsz
  have pna : h'.objs.size ∉ as := fun z => Nat.lt_irrefl _ (hG.above _ z)
  have l1 : as.length = min xs.length ys.length := by rw [hl, e1, e2']
  have old : ∀ b, b < s1.heap.objs.size → upd (newT H1 as (xs.zip ys)) h'.objs.size (.lst (as.map V.ref)) b = H1 b := fun b hb => by
    rw [upd_ne (Nat.ne_of_lt (Nat.lt_of_lt_of_le hb hsz)), newT_ne (fun z => Nat.lt_irrefl _ (Nat.lt_trans (Nat.lt_of_lt_of_le hb hsz) (hG.above b z)))]
  have ext : ∀ b u, H1 b = some u → upd (newT H1 as (xs.zip ys)) h'.objs.size (.lst (as.map V.ref)) b = some u := fun b u e => by
    rw [old b (I1.hok.lt e)]; exact e
  refine ⟨.ref h'.objs.size, upd (newT H1 as (xs.zip ys)) h'.objs.size (.lst (as.map V.ref)), I1.un (h' := h'') (t' := tk) ⟨fun b o e _ _ _ => keep b o e, fun b o e _ _ _ => ⟨o.slots, keep b o e⟩, fun b o e n _ => by rw [old b (Heap.lt_size e)]; exact n, fun b o e _ => ⟨o, keep b o e⟩, fun b zs e => ext b _ e, fun b o u e => ext b _ e, fun b ps e => ⟨#[], by rw [ext b _ e]; simp⟩⟩ ?_, rfl, qq as h'.objs.size l1 hG.rise asn pn pna⟩
  intro b u e
  by_cases cb : b = h'.objs.size
  · subst cb
    rw [upd_same] at e
    cases e
    refine ⟨by rw [List.length_map, l1]; omega, as.map Value.ref, c, ?_, ?_⟩
    · exact valsRf as
    · rw [← hacc, Array.toArray_toList]; exact hS
  · rw [upd_ne cb] at e
    by_cases ca : b ∈ as
    · obtain ⟨j, hj⟩ := List.mem_iff_getElem?.mp ca
      obtain ⟨xv, yv, hx, hy, hp⟩ := hG.pairs j b hj
      have hjl : j < as.length := (List.getElem?_eq_some_iff.mp hj).1
      have hj1 : j < xs.length := by omega
      have hj2 : j < ys.length := by omega
      have hz' : (xs.zip ys)[j]? = some (xs[j], ys[j]) := by rw [List.getElem?_eq_getElem (by rw [List.length_zip]; omega), List.getElem_zip]
      rw [newT_at hG.rise hj hz'] at e
      cases e
      obtain ⟨u1, eu1, ru1⟩ := rv.get (List.getElem?_eq_getElem hj1)
      obtain ⟨u2, eu2, ru2⟩ := rv2.get (List.getElem?_eq_getElem hj2)
      have x1 : u1 = xv := by
        have q : its[j]? = some xv := by simpa using hx
        rw [eu1] at q; exact Option.some.inj q
      have x2 : u2 = yv := by
        have q : its2[j]? = some yv := by simpa using hy
        rw [eu2] at q; exact Option.some.inj q
      subst x1
      subst x2
      exact ⟨by show 2 ≤ sizeLine; decide, [u1, u2], .cons ru1 (.cons ru2 .nil), ⟨_, hp, rfl, _, rfl⟩⟩
    · rw [newT_ne ca] at e
      exact (I1.hok b u e).stay (fun c v _ q => keep c v q) (fun c q => ext c _ q) fun c zs q => ext c _ q
end L2

namespace BL
open PySem PySem.Spec PyProof.Rows L2
/-! xs.index(n) of whole numbers -/
def fIndex (_ : List PV) : PV → PV → Option PV
  | .lst xs, .int v => match intsP xs with
    | some ns => match ns.findIdx? (· == v) with
      | some j => some (.int (j : Int))
      | none => none
    | none => none
  | _, _ => none
def rngS (lo k : Int) : Nat → List PV
  | 0 => []
  | n + 1 => .int lo :: rngS (lo + k) k n
theorem rngS_len (k : Int) : ∀ (n : Nat) (lo : Int), (rngS lo k n).length = n
  | 0, _ => rfl
  | n + 1, lo => congrArg Nat.succ (rngS_len k n _)
theorem rngS_at (k : Int) : ∀ (n : Nat) (lo : Int) (i : Nat), i < n → (rngS lo k n)[i]? = some (.int (lo + i * k))
  | n + 1, lo, 0, _ => by
    show some (PV.int lo) = some (PV.int (lo + ((0 : Nat) : Int) * k))
    rw [show lo + ((0 : Nat) : Int) * k = lo by simp]
  | n + 1, lo, i + 1, h => by
    show (rngS (lo + k) k n)[i]? = _
    rw [rngS_at k n (lo + k) i (by omega), show lo + k + (i : Int) * k = lo + ((i + 1 : Nat) : Int) * k by rw [Int.natCast_add, Int.add_mul]; simp; omega]
theorem it_rngS {K : PySem.W.Frag} {C : Addr} {W : Wd} (lo k : Int) (n : Nat) : ItOk K C W (Itc lo k n) (rngS lo k n) := by
  refine ⟨fun i W1 S g i1 h => by rw [rngS_len] at h; exact h, fun W1 S g i1 => by rw [rngS_len]; exact Nat.le_refl n, fun i W1 S v H' x g i1 hx y => ?_⟩
  obtain ⟨rfl, rfl⟩ := y
  have h : i < n := by
    have := (List.getElem?_eq_some_iff.mp hx).1
    rwa [rngS_len] at this
  rw [rngS_at k n lo i h] at hx
  cases hx
  exact ⟨W1, rfl, Gro.refl _, i1, .int _⟩
/-- range with any step, n numbers -/
def mRngS (n : Nat) (ma mb mc : ME) : MI := fun ρ S => match ma ρ S with
  | some (.int i, S1) => match mb ρ S1 with
    | some (.int j, S2) => match mc ρ S2 with
      | some (.int k, S3) => if k ≠ 0 ∧ k.natAbs < 1073741824 ∧ Builtin.Range.small i j k = true ∧ Builtin.Range.rangeSize i j k = n then some (rngS i k n, S3) else none
      | _ => none
    | _ => none
  | _ => none
section
variable {X : Cx} {C : Addr} {e a b c tg : Expr} {ma mb mc : ME} {pos : Pos}
theorem irngS {p : Pos} (n : Nat) (hg : Gl X "range") (hm : X.mg "range" = none) (ha : PE X a (tM X.K C ma)) (hb : PE X b (tM X.K C mb)) (hc : PE X c (tM X.K C mc))
    (h1 : starEach (a :: [b, c]) X.env = (false, eval a X.env) :: starEach [b, c] X.env := by rfl) (h2 : starEach (b :: [c]) X.env = (false, eval b X.env) :: starEach [c] X.env := by rfl) (h3 : starEach (c :: []) X.env = (false, eval c X.env) :: starEach [] X.env := by rfl)
    (hpl : (backTo pos (starEach [b, c] X.env)).any (·.1) = false := by rfl) : PI X tg (.Call (.Name "range" p) [a, b, c] [] pos) (tMI X.K C (mRngS n ma mb mc)) :=
  PI.weak (pi_range3 hg hm (pa_cons ha (pa_cons hb (pa_cons hc pa_nil h3) h2) h1) h1 hpl) fun σ H R0 ⟨W0, W, ρ, S, xs, S', eH, R, em, q⟩ => by
  subst eH
  unfold mRngS at em
  split at em
  · rename_i i S1 e1
    split at em
    · rename_i j S2 e2
      split at em
      · rename_i k S3 e3
        split at em
        · rename_i hj
          cases em
          refine ⟨W0, W, ρ, S, _, S1, rfl, R, e1, fun v W1 R1 g1 r1 => ⟨W0, W1, ρ, S1, _, S2, rfl, R1, e2, fun u W2 R2 g2 r2 => ⟨W0, W2, ρ, S2, _, S', rfl, R2, e3, fun t W3 R3 g3 r3 => ?_⟩⟩⟩
          cases r1
          cases r2
          cases r3
          exact ⟨i, j, k, n, rfl, hj, q _ W3 R3 ((g1.trans g2).trans g3) (it_rngS i k n)⟩
        · cases em
      · cases em
    · cases em
  · cases em
end
section
variable {X : Cx} {C : Addr} {e : Expr} {ma mb : ME}
theorem xindex (h : PE X e (tBM X.K "list" (rIndex X.K) (tM X.K C ma) (tMA X.K C (mCons mb mNil)))) : PE X e (tM X.K C (mOp fIndex ma mb)) := PE.weak h fun σ H Q ⟨W0, W, ρ, S, z, S', eH, R, em, q⟩ => by
  subst eH
  obtain ⟨x, S1, y, e1, e2, e3⟩ := mOp_inv em
  unfold fIndex at e3
  split at e3
  · rename_i xs v
    split at e3
    · rename_i ns hb
      split at e3
      · rename_i j hj
        cases e3
        obtain ⟨hl, hp, hn⟩ := List.findIdx?_eq_some_iff_getElem.mp hj
        refine ⟨W0, W, ρ, S, _, S1, rfl, R, e1, fun w W1 R1 g1 r1 => ?_⟩
        have r1' := r1
        cases r1 with
        | lst h a =>
          rename_i p vs
          refine ⟨.inl ⟨rfl, _, R1.i.s.seq (SqL.of h)⟩, W0, W1, ρ, S1, [.int v], S', rfl, R1, by unfold mCons; rw [e2]; rfl, fun us W2 R2 g2 r2 => ?_⟩
          cases r2 with
          | cons r2 rr =>
            cases rr
            cases r2
            have r3 := r1'.ext g2
            cases r3 with
            | lst h2 a2 =>
              have ev := intsP_ok a2 hb
              subst ev
              refine ⟨p, _, .int v, j, .int ns[j], rfl, rfl, R2.i.s.seq (SqL.of h2), rfl, ?_, ?_, hp, fun m z' hm hz => ?_, q _ W2 R2 (g1.trans g2) (.int _)⟩
              · rw [List.all_eq_true]
                intro u hu
                obtain ⟨i, _, rfl⟩ := List.mem_map.mp hu
                rfl
              · rw [List.getElem?_map, List.getElem?_eq_getElem hl]
                rfl
              · have lm : m < ns.length := by omega
                rw [List.getElem?_map, List.getElem?_eq_getElem lm] at hz
                cases hz
                have := hn m hm
                show (ns[m] == v) = false
                simpa using this
      · cases e3
    · cases e3
  · cases e3
end
end BL

/-! the sum of a tuple of whole numbers -/
namespace BL
open PySem PySem.Spec PyProof.Rows L2
def rSumT (K : PySem.W.Frag) : List V → Hp → VK → Prop := fun vs H Q => ∃ (a : Addr) (ns : List Int), vs = [V.ref a] ∧ SqT K H a (ns.map V.int) ∧ Q (.int ns.sum) H
theorem cr_sumT {X : Cx} (hc : X.calm = true) : CallR X (.builtin "sum") (rSumT X.K) := by
  intro pins s σ H vs us Q I r h
  obtain ⟨a, ns, rfl, hs, q⟩ := h
  obtain ⟨its, rv, hl, _⟩ := I.tuple hs
  rw [Vals.ref1 r]
  obtain ⟨xs, e⟩ := rv.ints.allInts.items
  have hn : numsOf (intItems xs).toList = ns := by rw [← e]; exact rv.ints.numsOf
  rw [nums_intItems] at hn
  rw [e] at hl
  refine PySem.W.ktm_sumG (I.ok.hd hc) hl fun h' tk t' hk => ?_
  rw [preSum_eq, List.take_of_length_le (by simp), hn]
  exact ⟨.int _, H, I.kept hk, ⟨_, rfl⟩, q⟩
def fSumT (_ : List PV) : List PV → Option PV
  | [.tup xs] => match intsP xs with
    | some bs => some (.int bs.sum)
    | none => none
  | _ => none
section
variable {K : PySem.W.Frag} {C : Addr}
theorem l_sumT : LRn K C (rSumT K) fSumT := fun W S vs xs z Q i r e q => by
  unfold fSumT at e
  split at e
  · split at e
    · rename_i bs hb
      cases e
      cases r with
      | cons r rr =>
        cases rr
        cases r with
        | tup h a => exact ⟨_, bs, rfl, by rw [← intsP_ok a hb]; exact i.s.seT h, q _ W (Gro.refl _) i (.int _)⟩
    · cases e
  · cases e
end
end BL

/-! list(zip(a, b)) of two lists, by trees -/
namespace BL
open PySem PySem.Spec PyProof.Rows L2
theorem lay_pairs {K : PySem.W.Frag} {C : Addr} {S : List PV} : ∀ {as : List Addr} {vs us : List V} {xs ys : List PV} {W : Wd}, Inv1 K C W S → RepAll K C W.F W.θ vs xs → RepAll K C W.F W.θ us ys → as.length = min vs.length us.length → as.Pairwise (· < ·) → (∀ c ∈ as, W.H c = none) →
    ∃ W', Gro W W' ∧ Inv1 K C W' S ∧ W'.H = newT W.H as (vs.zip us) ∧ RepAll K C W'.F W'.θ (as.map V.ref) (zipP xs ys)
  | [], [], _, [], ys, W, i, .nil, r2, _, _, _ => ⟨W, Gro.refl _, i, rfl, .nil⟩
  | [], v :: vs, [], x :: xs, [], W, i, _, .nil, _, _, _ => ⟨W, Gro.refl _, i, rfl, .nil⟩
  | [], v :: vs, u :: us, _, _, _, _, _, _, h, _, _ => by simp at h
  | a :: as, [], _, _, _, _, _, _, _, h, _, _ => by simp at h
  | a :: as, v :: vs, [], _, _, _, _, _, _, h, _, _ => by simp at h
  | a :: as, v :: vs, u :: us, x :: xs, y :: ys, W, i, .cons r1 rr1, .cons r2 rr2, h, hp, hn => by
    have hp := List.pairwise_cons.mp hp
    obtain ⟨g, i1⟩ := laid (.tup [v, u]) i (hn a List.mem_cons_self)
    obtain ⟨W', g', i', eH, r⟩ := lay_pairs (as := as) (vs := vs) (us := us) (xs := xs) (ys := ys) i1 (rr1.ext g) (rr2.ext g) (by simp at h; omega) hp.2 (fun c hc => by
      show upd W.H a _ c = none
      rw [upd_ne (fun z => by rw [z] at hc; exact Nat.lt_irrefl _ (hp.1 a hc))]
      exact hn c (List.mem_cons_of_mem _ hc))
    have rt : RepW K C ⟨upd W.F a (.tup [v, u]), upd W.H a (.tup [v, u]), W.θ⟩ (.ref a) (.tup [x, y]) := .tup (SqT.of upd_same) (.cons (r1.ext g) (.cons (r2.ext g) .nil))
    exact ⟨W', g.trans g', i', eH, .cons (rt.ext g') r⟩
def mLZip (ma mb : ME) : ME := fun ρ S => match ma ρ S with
  | some (.lst xs, S1) => match mb ρ S1 with
    | some (.lst ys, S2) => some (.lst (zipP xs ys), S2)
    | _ => none
  | _ => none
section
variable {X : Cx} {C : Addr} {e : Expr} {ma mb : ME}
theorem xlzip (h : PE X e (tLZ X.K (tMA X.K C (mCons ma (mCons mb mNil))))) : PE X e (tM X.K C (mLZip ma mb)) := PE.weak h fun σ H Q ⟨W0, W, ρ, S, z, S', eH, R, em, q⟩ => by
  subst eH
  unfold mLZip at em
  split at em
  · rename_i xs S1 e1
    split at em
    · rename_i ys S2 e2
      cases em
      refine ⟨W0, W, ρ, S, [.lst xs, .lst ys], S', rfl, R, by unfold mCons; rw [e1]; simp only [e2]; rfl, fun vs W1 R1 g1 r1 => ?_⟩
      cases r1 with
      | cons r1 rr =>
        cases rr with
        | cons r2 rr =>
          cases rr
          cases r1 with
          | lst h1 a1 =>
            cases r2 with
            | lst h2 a2 =>
              rename_i p us p' ws
              refine ⟨p, p', us, ws, rfl, R1.i.s.seq (SqL.of h1), R1.i.s.seq (SqL.of h2), fun as l hl hp hf hl0 hla => ?_⟩
              obtain ⟨W', g', i', eH, r⟩ := lay_pairs R1.i a1 a2 hl hp hf
              have n' : W'.H l = none := by rw [eH, newT_ne hla]; exact hl0
              obtain ⟨g4, i4⟩ := laid (.lst (as.map V.ref)) i' n'
              have := q (.ref l) _ (R1.ext (g'.trans g4) i4) ((g1.trans g').trans g4) (.lst upd_same (r.ext g4))
              rw [← eH]
              exact this
    · cases em
  · cases em
end
end BL

/-! an own list handed over is laid where the changing things are -/
namespace BL
open PySem PySem.Spec PyProof.Rows L2
def mOwnM (f : List PV → List PV → Option (PV × List PV)) (mes : MA) : ME := fun ρ S => match mes ρ S with
  | some (xs, S1) => match f xs S1 with
    | some (.lst ys, S2) => some (.mref S2.length, S2 ++ [.lst ys])
    | _ => none
  | none => none
section
variable {X : Cx} {C : Addr} {e : Expr} {mes : MA}
theorem xownM {f : List PV → List PV → Option (PV × List PV)} {E : XK} (h : PE X e (tCall (spO X.K C f) [] E (tMA X.K C mes))) : PE X e (tM X.K C (mOwnM f mes)) := PE.weak h fun σ H Q ⟨W0, W, ρ, S, z, S', eH, R, em, q⟩ => by
  subst eH
  unfold mOwnM at em
  split at em
  · rename_i xs S1 e1
    split at em
    · rename_i ys S2 e2
      cases em
      refine ⟨W0, W, ρ, S, xs, S1, rfl, R, e1, fun vs W1 R1 g1 r1 => ⟨W1, S1, xs, .lst ys, S2, rfl, R1.i, by rw [List.append_nil]; exact r1, e2, fun a W2 g2 i2 o => ?_⟩⟩
      obtain ⟨o1, o2, o3, o4⟩ := o
      obtain ⟨us, eh, ru⟩ := o4
      have g3 : Gro W1 ⟨W2.F, W2.H, W2.θ ++ [a]⟩ := by
        obtain ⟨r, er, fr⟩ := g2.t
        exact ⟨g2.f, ⟨r ++ [a], by show W2.θ ++ [a] = _; rw [er, List.append_assoc], fun p hp => (List.mem_append.mp hp).elim (fr p) fun h => by rw [List.mem_singleton.mp h]; exact o1⟩, g2.h, g2.k, g2.n⟩
      have up : ∀ {vs : List V} {xs : List PV}, RepAll X.K C W2.F W2.θ vs xs → RepAll X.K C W2.F (W2.θ ++ [a]) vs xs := fun r => r.mono (Same.refl _)
      have i3 : Inv1 X.K C ⟨W2.F, W2.H, W2.θ ++ [a]⟩ (S2 ++ [.lst ys]) := by
        refine ⟨i2.s, by show (W2.θ ++ [a]).length = _; rw [List.length_append, List.length_append, i2.len]; rfl, ?_, fun k b x h1 h2 => ?_⟩
        · exact List.nodup_append.mpr ⟨i2.nd, by simp, fun c hc b hb => by simp at hb; rw [hb]; exact fun z => o3 (by rw [← z]; exact hc)⟩
        · by_cases hk : k < W2.θ.length
          · have h1' : W2.θ[k]? = some b := by
              have : (W2.θ ++ [a])[k]? = some b := h1
              rwa [List.getElem?_append_left hk] at this
            rw [List.getElem?_append_left (by rw [← i2.len]; exact hk)] at h2
            obtain ⟨z, m⟩ := i2.m k b x h1' h2
            refine ⟨z, ?_⟩
            cases x with
            | lst ws =>
              obtain ⟨us', e, r⟩ := m
              exact ⟨us', e, up r⟩
            | _ => exact m.elim
          · have h1' : (W2.θ ++ [a])[k]? = some b := h1
            rw [List.getElem?_append_right (by omega)] at h1'
            have ek : k = W2.θ.length := by
              have := (List.getElem?_eq_some_iff.mp h1').1
              simp at this
              omega
            subst ek
            rw [Nat.sub_self] at h1'
            cases h1'
            rw [i2.len, List.getElem?_append_right (Nat.le_refl _), Nat.sub_self] at h2
            cases h2
            exact ⟨o2, us, eh, up ru⟩
      refine q (.ref a) ⟨W2.F, W2.H, W2.θ ++ [a]⟩ (R1.ext g3 i3) (g1.trans g3) (.mref ?_)
      show (W2.θ ++ [a])[S2.length]? = some a
      rw [← i2.len, List.getElem?_append_right (Nat.le_refl _), Nat.sub_self]
      rfl
    · cases em
  · cases em
end
end BL
namespace BL
open PySem PySem.Spec PyProof.Rows L2
/-! comparing what changing things hold -/
mutual
def derefP (S : List PV) : PV → PV
  | .mref n => match S[n]? with
    | some (.lst xs) => .lst xs
    | _ => .mref n
  | .lst xs => .lst (derefL S xs)
  | .tup xs => .tup (derefL S xs)
  | x => x
def derefL (S : List PV) : List PV → List PV
  | [] => []
  | x :: xs => derefP S x :: derefL S xs
end
mutual
theorem deref_rep {K : PySem.W.Frag} {C : Addr} {W : Wd} {S : List PV} (i : Inv1 K C W S) : ∀ {x : PV} {v : V}, Rep K C W.F W.θ v x → Rep K C W.H W.θ v (derefP S x)
  | .non, _, .non => .non
  | .bl _, _, .bl b => .bl b
  | .int _, _, .int k => .int k
  | .str _, _, .str x => .str x
  | .lst _, _, .lst h a => .lst (i.s _ _ h) (deref_reps i a)
  | .tup _, _, .tup h a => .tup (i.s.seT h) (deref_reps i a)
  | .way _ _ _, _, .way h => .way (h.same i.s)
  | .mref n, _, .mref h => by
    unfold derefP
    split
    · rename_i xs hs
      obtain ⟨_, vs, eh, r⟩ := i.m _ _ _ h hs
      have r' := r.mono (r := []) i.s
      rw [List.append_nil] at r'
      exact .lst eh r'
    · exact .mref h
  | .dic kvs, v, r => by
    have r' := Rep.mono (r := []) i.s r
    rw [List.append_nil] at r'
    exact r'
theorem deref_reps {K : PySem.W.Frag} {C : Addr} {W : Wd} {S : List PV} (i : Inv1 K C W S) : ∀ {xs : List PV} {vs : List V}, RepAll K C W.F W.θ vs xs → RepAll K C W.H W.θ vs (derefL S xs)
  | [], _, .nil => .nil
  | x :: xs, _, .cons h a => .cons (deref_rep i h) (deref_reps i a)
end
def fSameD (n : Nat) (S : List PV) : List PV → Option PV
  | [x, y] => if (derefP S x).same (derefP S y) && (derefP S x).deep n then some (.bl true) else none
  | _ => none
section
variable {X : Cx} {C : Addr} {e : Expr} {mes : MA}
theorem xsameD {n : Nat} (h : PE X e (tCall (spSame X.K (n + 1)) [] C8.E0 (tMA X.K C mes))) : PE X e (tM X.K C (mFn (fSameD n) mes)) := PE.weak h fun σ H Q ⟨W0, W, ρ, S, z, S', eH, R, em, q⟩ => by
  subst eH
  obtain ⟨xs, e1, e3⟩ := mFn_inv em
  refine ⟨W0, W, ρ, S, xs, S', rfl, R, e1, fun vs W1 R1 g1 r1 => ?_⟩
  unfold fSameD at e3
  split at e3
  · split at e3
    · rename_i hs
      cases e3
      rw [Bool.and_eq_true] at hs
      cases r1 with
      | cons r rr =>
        cases rr with
        | cons r' rr =>
          cases rr
          refine ⟨_, _, rfl, same_eqs n _ _ _ _ hs.1 hs.2 (deref_rep R1.i r) (deref_rep R1.i r'), fun H' sm => ?_⟩
          have g : Gro W1 ⟨W1.F, H', W1.θ⟩ := ⟨Same.refl _, ⟨[], (List.append_nil _).symm, fun _ h => by cases h⟩, fun p o e _ => sm _ _ e, fun p o e => ⟨o, sm _ _ e⟩, fun p o e z => z⟩
          have i2 : Inv1 X.K C ⟨W1.F, H', W1.θ⟩ S' := by
            refine ⟨R1.i.s.trans sm, R1.i.len, R1.i.nd, fun k a x h1 h2 => ?_⟩
            obtain ⟨z, m⟩ := R1.i.m k a x h1 h2
            refine ⟨z, ?_⟩
            cases x with
            | lst xs =>
              obtain ⟨vs, e, r⟩ := m
              exact ⟨vs, sm _ _ e, r⟩
            | _ => exact m.elim
          exact q _ _ (R1.ext g i2) (g1.trans g) (.bl true)
    · cases e3
  · cases e3
end
/-- o.append(e), o a thing that others may change -/
def mAppM (mo ma : ME) : MS := fun ρ S => match mo ρ S with
  | some (.mref n, S1) => match ma ρ S1 with
    | some (y, S2) => match S2[n]? with
      | some (.lst xs) => if xs.length < 100000 then some (.nx ρ (S2.set n (.lst (xs ++ [y])))) else none
      | _ => none
    | none => none
  | _ => none
section
variable {X : Cx} {C : Addr} {st : Stmt} {ma : ME}
theorem xappM {mo : ME} (h : PS X st (tDrop (tBM X.K "list" rAppend (tM X.K C mo) (tCons (tM X.K C ma) tNil)))) : PS X st (tMS X.K C (mAppM mo ma)) := PS.weak h fun D σ H ⟨W0, W, ρ, S, out, eH, R, em, p⟩ => by
  subst eH
  unfold mAppM at em
  split at em
  · rename_i n S1 e1
    split at em
    · rename_i y S2 e2
      split at em
      · rename_i xs hx
        split at em
        · rename_i hl0
          cases em
          refine ⟨W0, W, ρ, S, _, S1, rfl, R, e1, fun o W1 R1 g1 r1 => ?_⟩
          cases r1 with
          | mref hn0 =>
            rename_i a
            have hl1 : ∃ zs, S1[n]? = some zs := by
              have : n < W1.θ.length := (List.getElem?_eq_some_iff.mp hn0).1
              exact ⟨_, List.getElem?_eq_getElem (by rw [← R1.i.len]; exact this)⟩
            obtain ⟨zs, hzs⟩ := hl1
            obtain ⟨_, m1⟩ := R1.i.m n a zs hn0 hzs
            cases zs with
            | lst zs =>
              obtain ⟨us1, eh1, _⟩ := m1
              refine ⟨.inl ⟨rfl, us1, SqL.of eh1⟩, W0, W1, ρ, S1, y, S2, rfl, R1, e2, fun v W2 R2 g2 r2 => ?_⟩
              have rv := r2
              have hn : W2.θ[n]? = some a := by
                obtain ⟨r, er, _⟩ := g2.t
                rw [er, List.getElem?_append_left (List.getElem?_eq_some_iff.mp hn0).1]
                exact hn0
              obtain ⟨fz, us, eh, ru⟩ := R2.i.m n a _ hn hx
              have ma : a ∈ W2.θ := List.mem_of_getElem? hn
              refine ⟨a, us, v, rfl, rfl, eh, by rw [ru.len]; exact Nat.lt_of_lt_of_le hl0 (by decide), p σ ⟨W2.F, upd W2.H a (.lst (us ++ [v])), W2.θ⟩ ⟨(g1.trans g2).groF.f, (g1.trans g2).groF.t⟩ ?_⟩
              have mm : ∀ {b : Addr} {x : PV}, b ≠ a → Mut X.K C W2 b x → Mut X.K C ⟨W2.F, upd W2.H a (.lst (us ++ [v])), W2.θ⟩ b x := fun {b x} n r => by
                cases x with
                | lst ys =>
                  obtain ⟨us', e, r⟩ := r
                  refine ⟨us', ?_, r⟩
                  show upd W2.H a _ b = _
                  rw [upd_ne n]
                  exact e
                | _ => exact r.elim
              refine ⟨⟨R2.e.f, R2.e.t, fun q o e nq => ?_, fun q o e => ?_, R2.e.n⟩, ⟨fun b o e => ?_, by rw [List.length_set]; exact R2.i.len, R2.i.nd, fun m b x h1 h2 => ?_⟩, R2.l, fun i sl hi => ?_, R2.d⟩
              · have e' := R2.e.h q o e nq
                show upd W2.H a _ q = _
                rw [upd_ne ?_]
                · exact e'
                · intro z
                  subst z
                  obtain ⟨r, er, fr⟩ := R2.e.t
                  rw [er] at ma
                  rcases List.mem_append.mp ma with ma | ma
                  · exact nq ma
                  · rw [fr _ ma] at e
                    cases e
              · obtain ⟨o', e'⟩ := R2.e.k q o e
                by_cases c : q = a
                · exact ⟨.lst (us ++ [v]), by rw [c]; exact upd_same⟩
                · exact ⟨o', by show upd W2.H a _ q = _; rw [upd_ne c]; exact e'⟩
              · show upd W2.H a _ b = some o
                rw [upd_ne (fun z => by
                  rw [z] at e
                  have e : W2.F a = some o := e
                  rw [fz] at e
                  cases e)]
                exact R2.i.s _ _ e
              · by_cases c : n = m
                · subst c
                  have hl : n < S2.length := (List.getElem?_eq_some_iff.mp hx).1
                  rw [List.getElem?_set_self hl] at h2
                  cases h2
                  have h1 : W2.θ[n]? = some b := h1
                  rw [hn] at h1
                  cases h1
                  exact ⟨fz, _, upd_same, ru.app (.cons rv .nil)⟩
                · rw [List.getElem?_set_ne c] at h2
                  obtain ⟨z, m'⟩ := R2.i.m m b x h1 h2
                  refine ⟨z, mm (fun hz => ?_) m'⟩
                  subst hz
                  have h1 : W2.θ[m]? = some b := h1
                  exact c (nd_inj R2.i.nd hn h1)
              · have sl' := R2.s i sl hi
                cases sl with
                | un => trivial
                | val y => exact sl'
                | own y =>
                  obtain ⟨b, eb, p1, p2, p3, p4⟩ := sl'
                  exact ⟨b, eb, p1, p2, p3, mm (fun z => p3 (by rw [z]; exact ma)) p4⟩
            | _ => exact m1.elim
        · cases em
      · cases em
    · cases em
  · cases em
end
section
variable {X : Cx} {C : Addr} {e : Expr} {pos : Pos} {ma mb : ME}
/-- return list(zip(a, b)), the list handed over -/
def mRetLZ (ma mb : ME) : MS := fun ρ S => match mLZip ma mb ρ S with
  | some (x, S1) => some (.rt x S1)
  | none => none
theorem xretLZ (h : PE X e (tLZ X.K (tMA X.K C (mCons ma (mCons mb mNil))))) : PSs X [.Return (some e) pos] (tMSO X.K C (mRetLZ ma mb)) := PSs.weak (pss_one (ps_ret h)) fun D σ H ⟨W0, W, ρ, S, x, S', eH, R, em0, q⟩ => by
  subst eH
  unfold mRetLZ at em0
  split at em0
  · rename_i x1 S1' em
    cases em0
    unfold mLZip at em
    split at em
    · rename_i xs S1 e1
      split at em
      · rename_i ys S2 e2
        cases em
        refine ⟨W0, W, ρ, S, [.lst xs, .lst ys], _, rfl, R, by unfold mCons; rw [e1]; simp only [e2]; rfl, fun vs W1 R1 g1 r1 => ?_⟩
        cases r1 with
        | cons r1 rr =>
          cases rr with
          | cons r2 rr =>
            cases rr
            cases r1 with
            | lst h1 a1 =>
              cases r2 with
              | lst h2 a2 =>
                rename_i p us p' ws
                refine ⟨p, p', us, ws, rfl, R1.i.s.seq (SqL.of h1), R1.i.s.seq (SqL.of h2), fun as l hl hp hf hl0 hla => ?_⟩
                obtain ⟨W', g', i', eH, r⟩ := lay_pairs R1.i a1 a2 hl hp hf
                have n' : W'.H l = none := by rw [eH, newT_ne hla]; exact hl0
                obtain ⟨g4, R4, o4, d4⟩ := laidO (R1.ext g' i') r n'
                have := q l _ R4.e R4.i o4
                rw [← eH]
                exact this
      · cases em
    · cases em
  · cases em0
end
/-- x != e, x an own list -/
def mNeO (i : Nat) (mb : ME) : ME := fun ρ S => match mb ρ S with
  | some (y, S1) => match ρ[i]? with
    | some (.own (.lst xs)) => match fNe S1 (.lst xs) y with
      | some z => some (z, S1)
      | none => none
    | _ => none
  | none => none
section
variable {X : Cx} {C : Addr} {e : Expr} {mb : ME}
theorem xneO {i : Nat} (h : PT X e (tTest (tOp (rNeP X.K) (tVar i) (tM X.K C mb)))) : PT X e (tMT X.K C (mTru (mNeO i mb))) := PT.weak h fun σ H Q ⟨W0, W, ρ, S, z, S', eH, R, em0, q⟩ => by
  subst eH
  have em := mTru_inv em0
  unfold mNeO at em
  split at em
  · rename_i y S1 e1
    split at em
    · rename_i xs hx
      split at em
      · rename_i w e3
        cases em
        obtain ⟨a, ea, _⟩ := R.s i _ hx
        refine ⟨_, ea, W0, W, ρ, S, y, _, rfl, R, e1, fun u W1 R1 g1 r1 => ?_⟩
        obtain ⟨a', ea', _, _, _, us, eh, ru⟩ := R1.s i _ hx
        rw [ea] at ea'
        cases Option.some.inj (Option.some.inj ea')
        have mono : ∀ {v : V} {x : PV}, Rep X.K C W1.F W1.θ v x → Rep X.K C W1.H W1.θ v x := fun r => by
          have r' := Rep.mono (r := []) R1.i.s r
          rw [List.append_nil] at r'
          exact r'
        have rx : Rep X.K C W1.H W1.θ (.ref a) (.lst xs) := by
          have r' := ru.mono (r := []) R1.i.s
          rw [List.append_nil] at r'
          exact .lst eh r'
        have ry := mono r1
        unfold fNe eqP at e3
        split at e3
        · rename_i b hb
          cases e3
          split at hb
          · rename_i b' hs
            cases hb
            obtain ⟨h1, h2⟩ := rx.scal ry hs
            exact .inl ⟨h1, ⟨_, by rw [h2], q _ R1 g1⟩⟩
          · split at hb
            · rename_i d d' e1 e2
              split at hb
              · rename_i hc
                cases hb
                rw [Bool.and_eq_true] at hc
                exact .inr ⟨d, d', rx.dp e1, ry.dp e2, hc.1, hc.2, ⟨_, rfl, q _ R1 g1⟩⟩
              · cases hb
            · cases hb
        · cases e3
      · cases em
    · cases em
  · cases em
end
end BL

namespace BL
open PySem PySem.Spec PyProof.Rows L2
section
variable {X : Cx} {C : Addr} {e : Expr} {pos : Pos} {mi : MI} {mt : MT} {ma : ME}
/-- return [..], the list handed over -/
def mRetLc (t : Tg) (mi : MI) (mt : MT) (ma : ME) (vs : List Nat) : MS := fun ρ S => match mLc t mi mt ma vs ρ S with
  | some (x, S1) => some (.rt x S1)
  | none => none
theorem xretLcO {t : Tg} {vs : List Nat} (hv : ∀ i ∈ t.ids, i ∈ vs) (h : PE X e (tLc (tMI X.K C mi) (t.g X.K) (tMT X.K C mt) (tM X.K C ma) vs)) : PSs X [.Return (some e) pos] (tMSO X.K C (mRetLc t mi mt ma vs)) := PSs.weak (pss_one (ps_ret h)) fun D σ H ⟨W0, W, ρ, S, x, S', eH, R, em, p⟩ => by
  subst eH
  unfold mRetLc mLc at em
  split at em
  · rename_i x1 S1 em1
    cases em
    split at em1
    · rename_i xs S1 e1
      split at em1
      · rename_i ys S2 e2
        split at em1
        · rename_i hl
          cases em1
          refine lc_gen hv R e1 e2 hl fun D W1 W2 nD g1 g2 R2 => ?_
          obtain ⟨o2, d2⟩ := R2.snocD R.l
          exact p _ W2 (R2.unapp R.l).e (R2.unapp R.l).i o2
        · cases em1
      · cases em1
    · cases em1
  · cases em
end
end BL

/-! x.replace(written, written) if written in y else .. : the test leaves a token out -/
namespace BL
open PySem PySem.Spec PyProof.Rows L2
/-- a test behind which a token is out -/
def PTT (X : Cx) (e : Expr) (t : TT) : Prop := ∀ (pins : List (Addr × Obj)) (s : Shared) (σ : L2.St) (H : Hp) (Q : Bool → Hp → Prop), Inv X pins σ H s → t σ H Q →
  wpAny (model X.prog X.w) X.A (isTrue e X.env (eval e X.env)) (fun d s1 => 1 ≤ s1.toks ∧ TP X pins σ Q d s1) X.xe s
section
variable {X : Cx} {C : Addr} {a b c e : Expr} {ta tb : TE} {tA : TT} {pos p1 p2 : Pos} {ma mb : ME} {mt : MT}
theorem ptt_cmp {op : CmpOp} {r : R2} {y : Str} {j : Nat} (ho : OpR X (compareOp op) r) (hb : PE X b tb) (hm : behindInMarks op b = false) : PTT X (.Compare (.Constant (.str y) j p1) [op] [b] p2) (tTest (tOp r (tC (.str y)) tb)) := by
  intro pins s σ H Q I h
  refine wpAny_isTrue_Compare1 (Calls.Constant_str ?_) hm
  have I1 : Inv X pins σ H { s with toks := s.toks + 1 } := I.tok _
  refine wpAny_mono (wpAny_toks_of (n := 1) (by show 1 ≤ s.toks + 1; omega) (hb.run pins _ σ H _ I1 h)) (fun u s2 ⟨k2, y2, H2, I2, r2, q2⟩ => ?_) (fun _ _ x => x.2)
  refine wpAny_mono (wpAny_toks_of k2 (ho pins s2 σ H2 (.str y) y2 (.str y s.toks) u _ I2 ⟨s.toks, rfl⟩ r2 q2)) (fun c s3 ⟨k3, z, H3, I3, r3, k, e, q3⟩ => ?_) (fun _ _ x => x.2)
  subst e
  cases r3
  exact wpAny_truthy_bool ⟨k3, H3, I3, q3⟩
theorem PTT.weak {t t' : TT} (h : PTT X e t) (i : ∀ σ H Q, t' σ H Q → t σ H Q) : PTT X e t' := fun pins s σ H Q I q => h pins s σ H Q I (i σ H Q q)
theorem PET.weak {t t' : TE} (h : PET X e t) (i : ∀ σ H Q, t' σ H Q → t σ H Q) : PET X e t' := fun pins s σ H Q k I q => h pins s σ H Q k I (i σ H Q q)
theorem pe_ifT (hc : PTT X c tA) (ha : PET X a ta) (hb : PE X b tb) : PE X (.IfExp c a b pos) (tIf tA ta tb) := by
  refine ⟨fun pins s σ H Q I h => ?_⟩
  refine wpAny_IfExp (wpAny_mono (hc pins s σ H (fun d H1 => if d = true then ta σ H1 Q else tb σ H1 Q) I h) (fun d s1 ⟨k, H1, I1, q1⟩ => ?_) (fun _ _ x => x))
  cases d with
  | true => exact ha pins s1 σ H1 Q k I1 q1
  | false => exact hb.run pins s1 σ H1 Q I1 q1
theorem xtCT {r : R2} {f : List PV → PV → PV → Option PV} (l : LR2 X.K C r f) {y : Str} (h : PTT X e (tTest (tOp r (tC (.str y)) (tM X.K C mb)))) : PTT X e (tMT X.K C (mTru (mOp f (mC (.str y)) mb))) := PTT.weak h fun σ H Q ⟨W0, W, ρ, S, z, S', eH, R, em, q⟩ => by
  subst eH
  obtain ⟨x, S1, u, e1, e2, e3⟩ := mOp_inv (mTru_inv em)
  cases e1
  exact ⟨W0, W, ρ, S, u, S', rfl, R, e2, fun v W2 R2 g2 r2 => l W2 S' _ v (.str y) u (.bl z) _ R2.i (.str y) r2 e3 fun w W3 g3 i3 r3 => by cases r3; exact ⟨z, rfl, q W3 (R2.ext g3 i3) (g2.trans g3)⟩⟩
theorem xifT (hc : PTT X c (tMT X.K C mt)) (ha : PET X a (tM X.K C ma)) (hb : PE X b (tM X.K C mb)) : PE X (.IfExp c a b pos) (tM X.K C (mIfE mt ma mb)) := PE.weak (pe_ifT hc ha hb) fun σ H Q ⟨W0, W, ρ, S, z, S', eH, R, em, q⟩ => by
  subst eH
  unfold mIfE at em
  split at em
  · rename_i S1 e1
    exact ⟨W0, W, ρ, S, true, S1, rfl, R, e1, fun W1 R1 g1 => by refine iteT ?_; exact ⟨W0, W1, ρ, S1, z, S', rfl, R1, em, fun v W2 R2 g2 r2 => q v W2 R2 (g1.trans g2) r2⟩⟩
  · rename_i S1 e1
    exact ⟨W0, W, ρ, S, false, S1, rfl, R, e1, fun W1 R1 g1 => by refine iteF ?_; exact ⟨W0, W1, ρ, S1, z, S', rfl, R1, em, fun v W2 R2 g2 r2 => q v W2 R2 (g1.trans g2) r2⟩⟩
  · cases em
def fRepl (y z : Str) (_ : List PV) : PV → Option PV
  | .str x => if x.length ≤ 1000 ∧ z.length ≤ 1000 then some (.str (Txt.replace x y z)) else none
  | _ => none
theorem xreplC {y z : Str} (h : PET X e (CwR.tReplC (tM X.K C ma) y z)) : PET X e (tM X.K C (mUn (fRepl y z) ma)) := PET.weak h fun σ H Q ⟨W0, W, ρ, S, v, S', eH, R, em, q⟩ => by
  subst eH
  obtain ⟨x, e1, e2⟩ := mUn_inv em
  unfold fRepl at e2
  split at e2
  · rename_i t
    split at e2
    · rename_i hl
      cases e2
      refine ⟨W0, W, ρ, S, _, S', rfl, R, e1, fun v W1 R1 g1 r1 => ?_⟩
      cases r1
      refine ⟨t, rfl, ?_, q _ W1 R1 g1 (.str _)⟩
      have : (t.length + 1) * z.length ≤ 1001 * 1000 := Nat.mul_le_mul (by omega) hl.2
      omega
    · cases e2
  · cases e2
end
end BL

namespace BL
open PySem PySem.Spec PyProof.Rows L2
/-! sorted(..) of a list of pairs of numbers -/
section
variable {C : Addr}
abbrev I2 := Int × Int
def pvQ (p : I2) : PV := .tup [.int p.1, .int p.2]
def prP : PV → Option I2
  | .tup [.int i, .int j] => some (i, j)
  | _ => none
theorem prP_ok {x : PV} {p : I2} (h : prP x = some p) : x = pvQ p := by
  unfold prP at h
  split at h
  · cases h; rfl
  · cases h
def prsP : List PV → Option (List I2)
  | [] => some []
  | x :: xs => match prP x, prsP xs with
    | some p, some ps => some (p :: ps)
    | _, _ => none
theorem prsP_ok : ∀ {xs : List PV} {ps : List I2}, prsP xs = some ps → xs = ps.map pvQ
  | [], ps, h => by cases h; rfl
  | x :: xs, ps, h => by
    unfold prsP at h
    split at h
    · rename_i p q h1 h2
      cases h
      rw [List.map_cons, prP_ok h1, prsP_ok h2]
    · cases h
theorem prsP_map : ∀ ps : List I2, prsP (ps.map pvQ) = some ps
  | [] => rfl
  | p :: ps => by
    rw [List.map_cons]
    unfold prsP
    rw [prsP_map ps]
    rfl
def leQ (a b : I2) : Prop := a.1 < b.1 ∨ (a.1 = b.1 ∧ a.2 ≤ b.2)
instance (a b : I2) : Decidable (leQ a b) := by unfold leQ; exact inferInstance
def insQ (x : I2) : List I2 → List I2
  | [] => [x]
  | y :: ys => if leQ x y then x :: y :: ys else y :: insQ x ys
def srtQ : List I2 → List I2
  | [] => []
  | x :: xs => insQ x (srtQ xs)
theorem insQ_perm (x : I2) : ∀ ys : List I2, (insQ x ys).Perm (x :: ys)
  | [] => .refl _
  | y :: ys => by
    unfold insQ
    split
    · exact .refl _
    · exact ((insQ_perm x ys).cons y).trans (.swap x y ys)
theorem srtQ_perm : ∀ xs : List I2, (srtQ xs).Perm xs
  | [] => .refl _
  | x :: xs => (insQ_perm x _).trans ((srtQ_perm xs).cons x)
theorem leQ_tot {x y : I2} (h : ¬ leQ x y) : leQ y x := by unfold leQ at h ⊢; omega
theorem leQ_tr {x y z : I2} (h : leQ x y) (k : leQ y z) : leQ x z := by unfold leQ at h k ⊢; omega
theorem leQ_anti {x y : I2} (h : leQ x y) (k : leQ y x) : x = y := by
  obtain ⟨a, b⟩ := x
  obtain ⟨c, d⟩ := y
  unfold leQ at h k
  simp only at h k
  have e1 : a = c := by omega
  have e2 : b = d := by omega
  rw [e1, e2]
theorem leQ_refl (x : I2) : leQ x x := by unfold leQ; omega
theorem insQ_asc (x : I2) : ∀ (ys : List I2), ys.Pairwise leQ → (insQ x ys).Pairwise leQ
  | [], _ => by simp [insQ]
  | y :: ys, h => by
    obtain ⟨h1, h2⟩ := List.pairwise_cons.mp h
    unfold insQ
    split
    · rename_i c
      refine List.pairwise_cons.mpr ⟨fun z hz => ?_, h⟩
      rcases List.mem_cons.mp hz with e | hz
      · rw [e]; exact c
      · exact leQ_tr c (h1 z hz)
    · rename_i c
      refine List.pairwise_cons.mpr ⟨fun z hz => ?_, insQ_asc x ys h2⟩
      rcases List.mem_cons.mp ((insQ_perm x ys).mem_iff.mp hz) with e | hz
      · rw [e]; exact leQ_tot c
      · exact h1 z hz
theorem srtQ_asc : ∀ (xs : List I2), (srtQ xs).Pairwise leQ
  | [] => .nil
  | x :: xs => insQ_asc x _ (srtQ_asc xs)
theorem leQ_eq : ∀ {xs ys : List I2}, xs.Pairwise leQ → ys.Pairwise leQ → xs.Perm ys → xs = ys
  | [], ys, _, _, h => (List.nil_perm.mp h).symm
  | x :: xs, [], _, _, h => absurd h.length_eq (by simp)
  | x :: xs, y :: ys, h1, h2, h => by
    obtain ⟨a1, a2⟩ := List.pairwise_cons.mp h1
    obtain ⟨b1, b2⟩ := List.pairwise_cons.mp h2
    have e : x = y := by
      have k1 : leQ y x := by
        rcases List.mem_cons.mp (h.mem_iff.mp List.mem_cons_self) with e | e
        · rw [e]; exact leQ_refl _
        · exact b1 x e
      have k2 : leQ x y := by
        rcases List.mem_cons.mp (h.mem_iff.mpr List.mem_cons_self) with e | e
        · rw [e]; exact leQ_refl _
        · exact a1 y e
      exact leQ_anti k2 k1
    subst e
    congr 1
    exact leQ_eq a2 b2 (List.Perm.cons_inv h)
def fSortQ (_ : List PV) : List PV → Option PV
  | [.lst xs] => match prsP xs with
    | some ps => some (.lst ((srtQ ps).map pvQ))
    | none => none
  | _ => none
/-- sorted(xs), xs a list of pairs of ints, some of them constants: a new list of the same, in order -/
def rSortedPT (K : PySem.W.Frag) : List V → Hp → VK → Prop := fun vs H Q => ∃ (a : Addr) (L : List (Addr × I2)), vs = [V.ref a] ∧ SqL K H a (L.map fun x => V.ref x.1) ∧ (∀ x ∈ L, SqT K H x.1 [.int x.2.1, .int x.2.2]) ∧
  ∀ (M : List (Addr × I2)) p, M.Perm L → (M.map (·.2)).Pairwise leQ → H p = none → Q (.ref p) (upd H p (.lst (M.map fun x => V.ref x.1)))
def adQ : V → Addr
  | .ref a => a
  | _ => 0
open Classical in
noncomputable def keyT (K : PySem.W.Frag) (H : Hp) (v : V) : I2 := if h : ∃ p : I2, SqT K H (adQ v) [.int p.1, .int p.2] then h.choose else (0, 0)
theorem keyT_eq {X : Cx} {pins : List (Addr × Obj)} {σ : L2.St} {H : Hp} {s : Shared} (I : L2.Inv X pins σ H s) {t : Addr} {p : I2} (h : SqT X.K H t [.int p.1, .int p.2]) : keyT X.K H (.ref t) = p := by
  have hx : ∃ p : I2, SqT X.K H (adQ (.ref t)) [.int p.1, .int p.2] := ⟨p, h⟩
  unfold keyT
  rw [dif_pos hx]
  have := I.tuple_inj hx.choose_spec h
  injection this with e1 e2
  injection e2 with e2 _
  injection e1 with e1
  injection e2 with e2
  exact Prod.ext e1 e2
theorem cr_sortedPT {X : Cx} : CallR X (.builtin "sorted") (rSortedPT X.K) := by
  intro pins s σ H vs us Q I r h
  obtain ⟨a, L, rfl, hs, hx, q⟩ := h
  obtain ⟨its, rv, hl, hz⟩ := I.list hs
  obtain ⟨u, rfl, ru⟩ := vals1 r
  obtain rfl : u = Value.ref a := ru
  obtain ⟨e1, e2⟩ := refs_back rv fun x m => by
    obtain ⟨y, _, e⟩ := List.mem_map.mp m
    exact ⟨y.1, e.symm⟩
  refine SrtO.sorted_pairsO (k := fun u => keyT X.K H (backV u)) hl.isList (by rw [← rv.length]; exact hz) (fun v hv => ?_) fun h' d out h1 h2 kp hd hn => ?_
  · obtain ⟨t, rfl⟩ := e2 v hv
    have hm : V.ref t ∈ L.map fun x => V.ref x.1 := by rw [e1]; exact List.mem_map.mpr ⟨_, hv, rfl⟩
    obtain ⟨y, hy, e⟩ := List.mem_map.mp hm
    cases e
    have ht := hx y hy
    have hk : keyT X.K H (backV (.ref y.1)) = y.2 := keyT_eq I ht
    obtain ⟨its2, r2, ⟨o, ho, hc, n, hd⟩, _⟩ := I.tuple ht
    obtain ⟨u1, u2, rfl, ri, rj⟩ := vals2 r2
    obtain ⟨t1, rfl⟩ := ri
    obtain ⟨t2, rfl⟩ := rj
    simp only [hk]
    exact ⟨y.1, o, t1, t2, n, rfl, ho, hc, hd⟩
  · have h3 : ∀ u ∈ out, ∃ a, u = Value.ref a := fun u hu => e2 u (h2.perm.mem_iff.mp hu)
    obtain ⟨n, hn⟩ := hn
    have hb : (out.map backV).Perm (L.map fun x => V.ref x.1) := by
      rw [e1]
      exact h2.perm.map backV
    have hM : ((out.map backV).map fun v => (adQ v, keyT X.K H v)).Perm L := by
      have := hb.map fun v => (adQ v, keyT X.K H v)
      have id : (L.map fun x => V.ref x.1).map (fun v => (adQ v, keyT X.K H v)) = L := by
        rw [List.map_map]
        have : ∀ x ∈ L, ((fun v => (adQ v, keyT X.K H v)) ∘ fun x : Addr × I2 => V.ref x.1) x = id x := fun x hm => by
          show (x.1, keyT X.K H (.ref x.1)) = x
          rw [keyT_eq I (hx x hm)]
        rw [List.map_congr_left this, List.map_id]
      rw [id] at this
      exact this
    have hr : ((out.map backV).map fun v => (adQ v, keyT X.K H v)).map (fun x => V.ref x.1) = out.map backV := by
      rw [List.map_map]
      have : ∀ v ∈ out.map backV, ((fun x : Addr × I2 => V.ref x.1) ∘ fun v => (adQ v, keyT X.K H v)) v = id v := fun v hm => by
        obtain ⟨u, hu, rfl⟩ := List.mem_map.mp hm
        obtain ⟨b, rfl⟩ := h3 u hu
        rfl
      rw [List.map_congr_left this, List.map_id]
    have ha : (((out.map backV).map fun v => (adQ v, keyT X.K H v)).map (·.2)).Pairwise leQ := by
      rw [List.map_map, List.map_map, List.pairwise_map]
      refine List.Pairwise.imp (fun {u v} z => ?_) h1
      have := SrtO.lexB_no.mp z
      show leQ (keyT X.K H (backV u)) (keyT X.K H (backV v))
      unfold leQ
      omega
    have fin := q _ d hM ha (I.hok.fresh hd)
    rw [hr] at fin
    refine ⟨.ref d, upd H d (.lst (out.map backV)), I.laid (t' := s.toks) kp hd ⟨?_, out, n, vals_back h3, hn⟩, rfl, fin⟩
    rw [hb.length_eq]
    exact hz
theorem rep_prs {K : PySem.W.Frag} {F : Hp} {θ : List Addr} : ∀ {us : List V} {ps : List I2}, RepAll K C F θ us (ps.map pvQ) → ∃ L : List (Addr × I2), us = L.map (fun x => V.ref x.1) ∧ ps = L.map (·.2) ∧ ∀ x ∈ L, SqT K F x.1 [.int x.2.1, .int x.2.2] ∧ Rep K C F θ (.ref x.1) (pvQ x.2)
  | us, [], r => by
    cases r
    exact ⟨[], rfl, rfl, fun u h => by cases h⟩
  | us, p :: ps, r => by
    rw [List.map_cons] at r
    cases r with
    | cons r rr =>
      obtain ⟨L, i1, i2, i3⟩ := rep_prs rr
      have r0 := r
      cases r with
      | tup h a =>
        rename_i t vs
        cases a with
        | cons a1 a =>
          cases a with
          | cons a2 a =>
            cases a
            cases a1
            cases a2
            refine ⟨(t, p) :: L, by rw [i1]; rfl, by rw [i2]; rfl, fun x hx => ?_⟩
            rcases List.mem_cons.mp hx with rfl | hx
            · exact ⟨h, r0⟩
            · exact i3 x hx
theorem rep_of {K : PySem.W.Frag} {F : Hp} {θ : List Addr} : ∀ {M : List (Addr × I2)}, (∀ x ∈ M, Rep K C F θ (.ref x.1) (pvQ x.2)) → RepAll K C F θ (M.map fun x => V.ref x.1) ((M.map (·.2)).map pvQ)
  | [], _ => .nil
  | x :: M, h => .cons (h x List.mem_cons_self) (rep_of fun z hz => h z (List.mem_cons_of_mem _ hz))
theorem l_sortQ {K : PySem.W.Frag} : LRn K C (rSortedPT K) fSortQ := fun W S vs xs z Q i r e q => by
  unfold fSortQ at e
  split at e
  · split at e
    · rename_i ps hp
      cases e
      have := prsP_ok hp
      subst this
      cases r with
      | cons r rr =>
        cases rr
        cases r with
        | lst h a =>
          obtain ⟨L, k1, k2, k3⟩ := rep_prs a
          subst k1
          refine ⟨_, L, rfl, i.s.seq (SqL.of h), fun x hx => i.s.seT (k3 x hx).1, fun M p h1 h2 np => ?_⟩
          have e : M.map (·.2) = srtQ ps := by
            refine leQ_eq h2 (srtQ_asc ps) ((h1.map (·.2)).trans ?_)
            rw [← k2]
            exact (srtQ_perm ps).symm
          obtain ⟨g3, i3⟩ := laid (.lst (M.map fun x => V.ref x.1)) i np
          have ra : RepAll K C W.F W.θ (M.map fun x => V.ref x.1) ((srtQ ps).map pvQ) := by
            rw [← e]
            exact rep_of fun x hx => (k3 x (h1.mem_iff.mp hx)).2
          exact q _ _ g3 i3 (.lst upd_same (ra.ext g3))
    · cases e
  · cases e
end
end BL

/-! sorted(..) of a list of triples of numbers -/
namespace SrtO
open PySem PyProof.Rows Srt
section
variable {prog : Program} {w : World} {A : Around} {E : Value → Shared → Prop} {s : Shared}
abbrev I3 := Int × Int × Int
def lexT (p q : I3) : Bool := if p.1 = q.1 then lexB p.2 q.2 else decide (p.1 < q.1)
theorem lexT_iff {p q : I3} : lexT p q = true ↔ p.1 < q.1 ∨ (p.1 = q.1 ∧ (p.2.1 < q.2.1 ∨ (p.2.1 = q.2.1 ∧ p.2.2 < q.2.2))) := by
  unfold lexT
  by_cases e : p.1 = q.1
  · rw [if_pos e, lexB_iff]
    omega
  · rw [if_neg e, decide_eq_true_eq]
    omega
theorem lexT_no {p q : I3} : lexT p q = false ↔ ¬ (p.1 < q.1 ∨ (p.1 = q.1 ∧ (p.2.1 < q.2.1 ∨ (p.2.1 = q.2.1 ∧ p.2.2 < q.2.2)))) := by
  rw [← lexT_iff]
  cases lexT p q <;> simp
theorem swo_lexT (k : Value → I3) : Swo fun v u => lexT (k v) (k u) := by
  refine ⟨fun x y h => ?_, fun x y z h1 h2 => ?_⟩
  · have a := lexT_iff.mp h
    refine lexT_no.mpr ?_
    omega
  · have a := lexT_no.mp h1
    have b := lexT_no.mp h2
    refine lexT_no.mpr ?_
    omega
def IsTri (h : Heap) (v : Value) (x y z : Int) : Prop := ∃ a o t u r n, v = .ref a ∧ h.get? a = some o ∧ o.cls = .type "tuple" ∧ o.data = .seq #[.int x t, .int y u, .int z r] n
theorem IsTri.keeps {h h' : Heap} {v : Value} {x y z : Int} (p : IsTri h v x y z) (k : ∀ b o, h.get? b = some o → o.cls = .type "tuple" → h'.get? b = some o) : IsTri h' v x y z := by
  obtain ⟨a, o, t, u, r, n, e, ho, hc, hd⟩ := p
  exact ⟨a, o, t, u, r, n, e, k _ _ ho hc, hc, hd⟩
theorem tri_firsts {h : Heap} : ∀ {vs : List Value}, (∀ v ∈ vs, ∃ x y z, IsTri h v x y z) → ∃ fs : List Value, PySem.W.KatTups h vs fs ∧ fs.length = vs.length ∧ ∀ f ∈ fs, ∃ x t, f = Value.int x t
  | [], _ => ⟨[], PySem.W.KatTups.nil, rfl, fun _ hm => by simp at hm⟩
  | v :: vs, hp => by
    obtain ⟨fs, h1, h2, h3⟩ := tri_firsts (vs := vs) fun v' hm => hp v' (List.mem_cons_of_mem _ hm)
    obtain ⟨x, y, z, a, o, t, u, r, n, e, ho, hc, hd⟩ := hp v (List.mem_cons_self ..)
    subst e
    refine ⟨.int x t :: fs, PySem.W.KatTups.cons ho hc hd rfl h1, by rw [List.length_cons, List.length_cons, h2], fun f hm => ?_⟩
    rcases List.mem_cons.mp hm with rfl | hm
    · exact ⟨x, t, rfl⟩
    · exact h3 f hm
theorem tri_cmp {vs : List Value} {k : Value → I3} (hp : ∀ v ∈ vs, IsTri s.heap v (k v).1 (k v).2.1 (k v).2.2) : Cmp prog w A s (tuples' true) (fun p => p.1 ∈ vs) (lt2 fun v u => lexT (k v) (k u)) := by
  intro p q hm hm'
  have h1 := hp _ hm
  have h2 := hp _ hm'
  show wpAny (model prog w) A (keyLt' (tuples' true) p.1 q.1) (fun r s' => s' = s ∧ r = lexT (k p.1) (k q.1)) (fun _ _ => False) s
  unfold lexT lexB
  generalize (k p.1).1 = x at h1 ⊢
  generalize (k p.1).2.1 = y at h1 ⊢
  generalize (k p.1).2.2 = z at h1 ⊢
  generalize (k q.1).1 = x' at h2 ⊢
  generalize (k q.1).2.1 = y' at h2 ⊢
  generalize (k q.1).2.2 = z' at h2 ⊢
  obtain ⟨a, o, t, u, r, n, e, ho, hc, hd⟩ := h1
  obtain ⟨a', o', t', u', r', n', e', ho', hc', hd'⟩ := h2
  rw [e, e']
  refine PySem.W.kat_lt ho hd ho' hd' ?_
  show PySem.W.KatLex prog w A true (decide (3 < 3)) _ [(.int x t, .int x' t'), (.int y u, .int y' u'), (.int z r, .int z' r')] 0 s
  refine PySem.W.kat_cons (SeqAt.EqAt.int_int x t x' t' prog w _ _ ?_)
  refine PySem.W.kat_go (fun e1 => ?_) (fun e1 => ?_)
  · have ex : x = x' := by simpa using e1
    rw [if_pos ex]
    refine PySem.W.kat_yes (PySem.W.kat_cons (SeqAt.EqAt.int_int y u y' u' prog w _ _ ?_))
    refine PySem.W.kat_go (fun e2 => ?_) (fun e2 => ?_)
    · have ey : y = y' := by simpa using e2
      rw [if_pos ey]
      refine PySem.W.kat_yes (PySem.W.kat_cons (SeqAt.EqAt.int_int z r z' r' prog w _ _ ?_))
      refine PySem.W.kat_go (fun e3 => ?_) (fun e3 => ?_)
      · have ez : z = z' := by simpa using e3
        have e4 : decide (z < z') = false := by
          rw [ez]
          exact decide_eq_false (Int.lt_irrefl _)
        exact PySem.W.kat_yes (PySem.W.kat_nil ⟨rfl, e4.symm⟩)
      · refine PySem.W.kat_no (PySem.W.kat_one _ _ (PyProof.Rows.lt_int ?_))
        exact (show s = s ∧ decide (z < z') = decide (z < z') from ⟨rfl, rfl⟩)
    · have ey : ¬ y = y' := by simpa using e2
      rw [if_neg ey]
      refine PySem.W.kat_no (PySem.W.kat_one _ _ (PyProof.Rows.lt_int ?_))
      exact (show s = s ∧ decide (y < y') = decide (y < y') from ⟨rfl, rfl⟩)
  · have ex : ¬ x = x' := by simpa using e1
    rw [if_neg ex]
    exact PySem.W.kat_no (oneLt_int ⟨rfl, rfl⟩)
theorem tri_sortableO {a : Addr} {vs : List Value} {k : Value → I3} (h0 : 0 < vs.length) (hp : ∀ v ∈ vs, IsTri s.heap v (k v).1 (k v).2.1 (k v).2.2) (ha : ∀ o, s.heap.get? a = some o → o.cls ≠ .type "tuple") : SortableO prog w A s a vs fun v u => lexT (k v) (k u) := by
  intro h' keep
  have hp' : ∀ v ∈ vs, IsTri h' v (k v).1 (k v).2.1 (k v).2.2 := fun v hm => (hp v hm).keeps fun b o e c => keep b o (fun z => by subst z; exact ha o e c) e
  obtain ⟨fs, h1, h2, h3⟩ := tri_firsts fun v hm => ⟨_, _, _, hp' v hm⟩
  refine ⟨tuples' true, fun Q E hq => ?_, tri_cmp hp'⟩
  refine PySem.W.kat_kind (T := .type "int") h1 (by omega) (fun f hm => ?_) (by rfl) ?_
  · obtain ⟨x, t, rfl⟩ := h3 f hm
    exact PySem.W.Looks.now
  · have e : (Value.type "int" != Value.type "tuple") = true := by first | decide +kernel | rfl | decide
    rw [e]
    exact hq
theorem sorted_trisO {l : Addr} {vs : List Value} {k : Value → I3} {Q : Value → Shared → Prop} (hl : s.heap.IsList l vs.toArray) (hz : vs.length ≤ sizeLine) (hp : ∀ v ∈ vs, IsTri s.heap v (k v).1 (k v).2.1 (k v).2.2)
    (h : ∀ (h' : Heap) (d : Addr) (out : List Value), Srtd (fun v u => lexT (k v) (k u)) out → Stb (fun v u => lexT (k v) (k u)) out vs → (∀ b o, s.heap.get? b = some o → h'.get? b = some o) → s.heap.objs.size ≤ d → (∃ n, h'.get? d = some (seqObj "list" out.toArray n)) → Q (.ref d) { s with heap := h' }) :
    wpAny (model prog w) A (call (.builtin "sorted") [.ref l]) Q E s := by
  refine sorted_ord (swo_lexT k) hl hz (fun h2 h₁ a ha kk => ?_) fun out hs hb => ?_
  · refine tri_sortableO (s := { s with heap := h₁ }) (by omega) (fun v hm => (hp v hm).keeps fun b o e _ => (kk b o e).2) fun o e => ?_
    have e' : some o = some (seqObj "list" vs.toArray 0) := e.symm.trans ha
    cases e'
    intro c
    exact absurd (Value.type.inj c) (by decide)
  · exact h _ _ out hs hb (fun b o e => sortedAll_old e) (Nat.le_succ _) (sortedAll_at s.heap vs out.toArray)
end
end SrtO
namespace BL
open PySem PySem.Spec PyProof.Rows L2
section
variable {C : Addr}
abbrev I3 := Int × Int × Int
def pvT (p : I3) : PV := .tup [.int p.1, .int p.2.1, .int p.2.2]
def trP : PV → Option I3
  | .tup [.int i, .int j, .int k] => some (i, j, k)
  | _ => none
theorem trP_ok {x : PV} {p : I3} (h : trP x = some p) : x = pvT p := by
  unfold trP at h
  split at h
  · cases h; rfl
  · cases h
def trsP : List PV → Option (List I3)
  | [] => some []
  | x :: xs => match trP x, trsP xs with
    | some p, some ps => some (p :: ps)
    | _, _ => none
theorem trsP_ok : ∀ {xs : List PV} {ps : List I3}, trsP xs = some ps → xs = ps.map pvT
  | [], ps, h => by cases h; rfl
  | x :: xs, ps, h => by
    unfold trsP at h
    split at h
    · rename_i p q h1 h2
      cases h
      rw [List.map_cons, trP_ok h1, trsP_ok h2]
    · cases h
theorem trsP_map : ∀ ps : List I3, trsP (ps.map pvT) = some ps
  | [] => rfl
  | p :: ps => by
    rw [List.map_cons]
    unfold trsP
    rw [trsP_map ps]
    rfl
def leT (a b : I3) : Prop := a.1 < b.1 ∨ (a.1 = b.1 ∧ (a.2.1 < b.2.1 ∨ (a.2.1 = b.2.1 ∧ a.2.2 ≤ b.2.2)))
instance (a b : I3) : Decidable (leT a b) := by unfold leT; exact inferInstance
def insT (x : I3) : List I3 → List I3
  | [] => [x]
  | y :: ys => if leT x y then x :: y :: ys else y :: insT x ys
def srtT : List I3 → List I3
  | [] => []
  | x :: xs => insT x (srtT xs)
theorem insT_perm (x : I3) : ∀ ys : List I3, (insT x ys).Perm (x :: ys)
  | [] => .refl _
  | y :: ys => by
    unfold insT
    split
    · exact .refl _
    · exact ((insT_perm x ys).cons y).trans (.swap x y ys)
theorem srtT_perm : ∀ xs : List I3, (srtT xs).Perm xs
  | [] => .refl _
  | x :: xs => (insT_perm x _).trans ((srtT_perm xs).cons x)
theorem leT_tot {x y : I3} (h : ¬ leT x y) : leT y x := by unfold leT at h ⊢; omega
theorem leT_tr {x y z : I3} (h : leT x y) (k : leT y z) : leT x z := by unfold leT at h k ⊢; omega
theorem leT_anti {x y : I3} (h : leT x y) (k : leT y x) : x = y := by
  obtain ⟨a, b, c⟩ := x
  obtain ⟨d, e, f⟩ := y
  unfold leT at h k
  simp only at h k
  have e1 : a = d := by omega
  have e2 : b = e := by omega
  have e3 : c = f := by omega
  rw [e1, e2, e3]
theorem leT_refl (x : I3) : leT x x := by unfold leT; omega
theorem insT_asc (x : I3) : ∀ (ys : List I3), ys.Pairwise leT → (insT x ys).Pairwise leT
  | [], _ => by simp [insT]
  | y :: ys, h => by
    obtain ⟨h1, h2⟩ := List.pairwise_cons.mp h
    unfold insT
    split
    · rename_i c
      refine List.pairwise_cons.mpr ⟨fun z hz => ?_, h⟩
      rcases List.mem_cons.mp hz with e | hz
      · rw [e]; exact c
      · exact leT_tr c (h1 z hz)
    · rename_i c
      refine List.pairwise_cons.mpr ⟨fun z hz => ?_, insT_asc x ys h2⟩
      rcases List.mem_cons.mp ((insT_perm x ys).mem_iff.mp hz) with e | hz
      · rw [e]; exact leT_tot c
      · exact h1 z hz
theorem srtT_asc : ∀ (xs : List I3), (srtT xs).Pairwise leT
  | [] => .nil
  | x :: xs => insT_asc x _ (srtT_asc xs)
theorem leT_eq : ∀ {xs ys : List I3}, xs.Pairwise leT → ys.Pairwise leT → xs.Perm ys → xs = ys
  | [], ys, _, _, h => (List.nil_perm.mp h).symm
  | x :: xs, [], _, _, h => absurd h.length_eq (by simp)
  | x :: xs, y :: ys, h1, h2, h => by
    obtain ⟨a1, a2⟩ := List.pairwise_cons.mp h1
    obtain ⟨b1, b2⟩ := List.pairwise_cons.mp h2
    have e : x = y := by
      have k1 : leT y x := by
        rcases List.mem_cons.mp (h.mem_iff.mp List.mem_cons_self) with e | e
        · rw [e]; exact leT_refl _
        · exact b1 x e
      have k2 : leT x y := by
        rcases List.mem_cons.mp (h.mem_iff.mpr List.mem_cons_self) with e | e
        · rw [e]; exact leT_refl _
        · exact a1 y e
      exact leT_anti k2 k1
    subst e
    congr 1
    exact leT_eq a2 b2 (List.Perm.cons_inv h)
def fSort3 (_ : List PV) : List PV → Option PV
  | [.lst xs] => match trsP xs with
    | some ps => some (.lst ((srtT ps).map pvT))
    | none => none
  | _ => none
/-- sorted(xs), xs a list of triples of ints: a new list of the same, in order -/
def rSortedTT (K : PySem.W.Frag) : List V → Hp → VK → Prop := fun vs H Q => ∃ (a : Addr) (L : List (Addr × I3)), vs = [V.ref a] ∧ SqL K H a (L.map fun x => V.ref x.1) ∧ (∀ x ∈ L, SqT K H x.1 [.int x.2.1, .int x.2.2.1, .int x.2.2.2]) ∧
  ∀ (M : List (Addr × I3)) p, M.Perm L → (M.map (·.2)).Pairwise leT → H p = none → Q (.ref p) (upd H p (.lst (M.map fun x => V.ref x.1)))
open Classical in
noncomputable def keyTT (K : PySem.W.Frag) (H : Hp) (v : V) : I3 := if h : ∃ p : I3, SqT K H (adQ v) [.int p.1, .int p.2.1, .int p.2.2] then h.choose else (0, 0, 0)
theorem keyTT_eq {X : Cx} {pins : List (Addr × Obj)} {σ : L2.St} {H : Hp} {s : Shared} (I : L2.Inv X pins σ H s) {t : Addr} {p : I3} (h : SqT X.K H t [.int p.1, .int p.2.1, .int p.2.2]) : keyTT X.K H (.ref t) = p := by
  have hx : ∃ p : I3, SqT X.K H (adQ (.ref t)) [.int p.1, .int p.2.1, .int p.2.2] := ⟨p, h⟩
  unfold keyTT
  rw [dif_pos hx]
  have := I.tuple_inj hx.choose_spec h
  injection this with e1 e2
  injection e2 with e2 e3
  injection e3 with e3 _
  injection e1 with e1
  injection e2 with e2
  injection e3 with e3
  exact Prod.ext e1 (Prod.ext e2 e3)
theorem vals3 {x y z : V} {us : List Value} (r : Vals [x, y, z] us) : ∃ a b c, us = [a, b, c] ∧ RelV x a ∧ RelV y b ∧ RelV z c := by
  cases r with
  | cons r1 r =>
    cases r with
    | cons r2 r =>
      cases r with
      | cons r3 r =>
        cases r
        exact ⟨_, _, _, rfl, r1, r2, r3⟩
theorem cr_sortedTT {X : Cx} : CallR X (.builtin "sorted") (rSortedTT X.K) := by
  intro pins s σ H vs us Q I r h
  obtain ⟨a, L, rfl, hs, hx, q⟩ := h
  obtain ⟨its, rv, hl, hz⟩ := I.list hs
  obtain ⟨u, rfl, ru⟩ := vals1 r
  obtain rfl : u = Value.ref a := ru
  obtain ⟨e1, e2⟩ := refs_back rv fun x m => by
    obtain ⟨y, _, e⟩ := List.mem_map.mp m
    exact ⟨y.1, e.symm⟩
  refine SrtO.sorted_trisO (k := fun u => keyTT X.K H (backV u)) hl.isList (by rw [← rv.length]; exact hz) (fun v hv => ?_) fun h' d out h1 h2 kp hd hn => ?_
  · obtain ⟨t, rfl⟩ := e2 v hv
    have hm : V.ref t ∈ L.map fun x => V.ref x.1 := by rw [e1]; exact List.mem_map.mpr ⟨_, hv, rfl⟩
    obtain ⟨y, hy, e⟩ := List.mem_map.mp hm
    cases e
    have ht := hx y hy
    have hk : keyTT X.K H (backV (.ref y.1)) = y.2 := keyTT_eq I ht
    obtain ⟨its2, r2, ⟨o, ho, hc, n, hd⟩, _⟩ := I.tuple ht
    obtain ⟨u1, u2, u3, rfl, ri, rj, rk⟩ := vals3 r2
    obtain ⟨t1, rfl⟩ := ri
    obtain ⟨t2, rfl⟩ := rj
    obtain ⟨t3, rfl⟩ := rk
    simp only [hk]
    exact ⟨y.1, o, t1, t2, t3, n, rfl, ho, hc, hd⟩
  · have h3 : ∀ u ∈ out, ∃ a, u = Value.ref a := fun u hu => e2 u (h2.perm.mem_iff.mp hu)
    obtain ⟨n, hn⟩ := hn
    have hb : (out.map backV).Perm (L.map fun x => V.ref x.1) := by
      rw [e1]
      exact h2.perm.map backV
    have hM : ((out.map backV).map fun v => (adQ v, keyTT X.K H v)).Perm L := by
      have := hb.map fun v => (adQ v, keyTT X.K H v)
      have id : (L.map fun x => V.ref x.1).map (fun v => (adQ v, keyTT X.K H v)) = L := by
        rw [List.map_map]
        have : ∀ x ∈ L, ((fun v => (adQ v, keyTT X.K H v)) ∘ fun x : Addr × I3 => V.ref x.1) x = id x := fun x hm => by
          show (x.1, keyTT X.K H (.ref x.1)) = x
          rw [keyTT_eq I (hx x hm)]
        rw [List.map_congr_left this, List.map_id]
      rw [id] at this
      exact this
    have hr : ((out.map backV).map fun v => (adQ v, keyTT X.K H v)).map (fun x => V.ref x.1) = out.map backV := by
      rw [List.map_map]
      have : ∀ v ∈ out.map backV, ((fun x : Addr × I3 => V.ref x.1) ∘ fun v => (adQ v, keyTT X.K H v)) v = id v := fun v hm => by
        obtain ⟨u, hu, rfl⟩ := List.mem_map.mp hm
        obtain ⟨b, rfl⟩ := h3 u hu
        rfl
      rw [List.map_congr_left this, List.map_id]
    have ha : (((out.map backV).map fun v => (adQ v, keyTT X.K H v)).map (·.2)).Pairwise leT := by
      rw [List.map_map, List.map_map, List.pairwise_map]
      refine List.Pairwise.imp (fun {u v} z => ?_) h1
      have := SrtO.lexT_no.mp z
      show leT (keyTT X.K H (backV u)) (keyTT X.K H (backV v))
      unfold leT
      omega
    have fin := q _ d hM ha (I.hok.fresh hd)
    rw [hr] at fin
    refine ⟨.ref d, upd H d (.lst (out.map backV)), I.laid (t' := s.toks) kp hd ⟨?_, out, n, vals_back h3, hn⟩, rfl, fin⟩
    rw [hb.length_eq]
    exact hz
theorem rep_trs {K : PySem.W.Frag} {F : Hp} {θ : List Addr} : ∀ {us : List V} {ps : List I3}, RepAll K C F θ us (ps.map pvT) → ∃ L : List (Addr × I3), us = L.map (fun x => V.ref x.1) ∧ ps = L.map (·.2) ∧ ∀ x ∈ L, SqT K F x.1 [.int x.2.1, .int x.2.2.1, .int x.2.2.2] ∧ Rep K C F θ (.ref x.1) (pvT x.2)
  | us, [], r => by
    cases r
    exact ⟨[], rfl, rfl, fun u h => by cases h⟩
  | us, p :: ps, r => by
    rw [List.map_cons] at r
    cases r with
    | cons r rr =>
      obtain ⟨L, i1, i2, i3⟩ := rep_trs rr
      have r0 := r
      cases r with
      | tup h a =>
        rename_i t vs
        cases a with
        | cons a1 a =>
          cases a with
          | cons a2 a =>
            cases a with
            | cons a3 a =>
              cases a
              cases a1
              cases a2
              cases a3
              refine ⟨(t, p) :: L, by rw [i1]; rfl, by rw [i2]; rfl, fun x hx => ?_⟩
              rcases List.mem_cons.mp hx with rfl | hx
              · exact ⟨h, r0⟩
              · exact i3 x hx
theorem rep_ofT {K : PySem.W.Frag} {F : Hp} {θ : List Addr} : ∀ {M : List (Addr × I3)}, (∀ x ∈ M, Rep K C F θ (.ref x.1) (pvT x.2)) → RepAll K C F θ (M.map fun x => V.ref x.1) ((M.map (·.2)).map pvT)
  | [], _ => .nil
  | x :: M, h => .cons (h x List.mem_cons_self) (rep_ofT fun z hz => h z (List.mem_cons_of_mem _ hz))
theorem l_sort3 {K : PySem.W.Frag} : LRn K C (rSortedTT K) fSort3 := fun W S vs xs z Q i r e q => by
  unfold fSort3 at e
  split at e
  · split at e
    · rename_i ps hp
      cases e
      have := trsP_ok hp
      subst this
      cases r with
      | cons r rr =>
        cases rr
        cases r with
        | lst h a =>
          obtain ⟨L, k1, k2, k3⟩ := rep_trs a
          subst k1
          refine ⟨_, L, rfl, i.s.seq (SqL.of h), fun x hx => i.s.seT (k3 x hx).1, fun M p h1 h2 np => ?_⟩
          have e : M.map (·.2) = srtT ps := by
            refine leT_eq h2 (srtT_asc ps) ((h1.map (·.2)).trans ?_)
            rw [← k2]
            exact (srtT_perm ps).symm
          obtain ⟨g3, i3⟩ := laid (.lst (M.map fun x => V.ref x.1)) i np
          have ra : RepAll K C W.F W.θ (M.map fun x => V.ref x.1) ((srtT ps).map pvT) := by
            rw [← e]
            exact rep_ofT fun x hx => (k3 x (h1.mem_iff.mp hx)).2
          exact q _ _ g3 i3 (.lst upd_same (ra.ext g3))
    · cases e
  · cases e
end
end BL

namespace BL
open PySem PySem.Spec PyProof.Rows L2
/-! running a mirror step by step, by rules read off its form -/
theorem le_lit {n m : Nat} (h : Nat.ble n m = true) : n ≤ m := Nat.le_of_ble_eq_true h
section
variable {ρ ρ1 ρ2 ρ3 : List SlV} {S S1 S2 S3 : List PV} {ma mb mc : ME} {mes : MA} {mt mu : MT} {ms mr : MS} {mi : MI} {x y z : PV} {xs ys zs : List PV} {o : Ou} {b : Bool} {i j k n : Nat}
/-- values -/
theorem v_var (h : ρ[i]? = some (.val x)) : mVar i ρ S = some (x, S) := by rw [e_var, h]
theorem v_c : mC x ρ S = some (x, S) := rfl
theorem v_op {f : List PV → PV → PV → Option PV} (h1 : ma ρ S = some (x, S1)) (h2 : mb ρ S1 = some (y, S2)) (h3 : f S2 x y = some z) : mOp f ma mb ρ S = some (z, S2) := by rw [e_op, h1]; simp only [h2, h3]
theorem v_un {f : List PV → PV → Option PV} (h1 : ma ρ S = some (x, S1)) (h3 : f S1 x = some z) : mUn f ma ρ S = some (z, S1) := by rw [e_un, h1]; simp only [h3]
theorem v_nil : mNil ρ S = some ([], S) := rfl
theorem v_cons (h1 : ma ρ S = some (x, S1)) (h2 : mes ρ S1 = some (xs, S2)) : mCons ma mes ρ S = some (x :: xs, S2) := by rw [e_cons, h1]; simp only [h2]
theorem v_fn {f : List PV → List PV → Option PV} (h1 : mes ρ S = some (xs, S1)) (h3 : f S1 xs = some z) : mFn f mes ρ S = some (z, S1) := by rw [e_fn, h1]; simp only [h3]
theorem v_tup (h1 : mes ρ S = some (xs, S1)) (l : xs.length ≤ 100000) : mTup mes ρ S = some (.tup xs, S1) := by rw [e_tup, h1]; exact if_pos l
theorem v_lst (h1 : mes ρ S = some (xs, S1)) (l : xs.length ≤ 100000) : mLst mes ρ S = some (.lst xs, S1) := by rw [e_lst, h1]; exact if_pos l
theorem v_call {f : List PV → List PV → Option (PV × List PV)} (h1 : mes ρ S = some (xs, S1)) (h3 : f xs S1 = some (z, S2)) : mCall f mes ρ S = some (z, S2) := by rw [e_call, h1]; exact h3
theorem v_callK {f : List PV → List PV → Option (PV × List PV)} {is : List Nat} (h1 : mes ρ S = some (xs, S1)) (l : xs.length = is.length) (p : permP is xs = ys) (h3 : f ys S1 = some (z, S2)) : mCallK f is mes ρ S = some (z, S2) := by rw [e_callK, h1]; subst p; exact (if_pos l).trans h3
theorem v_called {f : List PV → List PV → Option (PV × List PV)} {s g c : Option Int} (h1 : ma ρ S = some (.way s g c, S1)) (h2 : mes ρ S1 = some (xs, S2)) (h3 : f (.way s g c :: xs) S2 = some (z, S3)) : mCalled f ma mes ρ S = some (z, S3) := by rw [e_called, h1]; simp only [h2]; exact h3
theorem v_bin {f : List PV → List PV → Option (PV × List PV)} {s g c s' g' c' : Option Int} (h1 : ma ρ S = some (.way s g c, S1)) (h2 : mb ρ S1 = some (.way s' g' c', S2)) (h3 : f [.way s g c, .way s' g' c'] S2 = some (z, S3)) : mBin f ma mb ρ S = some (z, S3) := by rw [e_bin, h1]; simp only [h2]; exact h3
theorem v_binI {f : List PV → List PV → Option (PV × List PV)} {s g c : Option Int} {i : Int} (h1 : ma ρ S = some (.way s g c, S1)) (h2 : mb ρ S1 = some (.int i, S2)) (h3 : f [.way s g c, .int i] S2 = some (z, S3)) : mBinI f ma mb ρ S = some (z, S3) := by rw [e_binI, h1]; simp only [h2]; exact h3
theorem v_sel {sel : Option Int → Option Int → Option Int → Option Int} {s g c : Option Int} (h1 : ma ρ S = some (.way s g c, S1)) : mSel sel ma ρ S = some (PO' (sel s g c), S1) := by rw [e_sel, h1]
theorem v_isW {s g c : Option Int} (h1 : ma ρ S = some (.way s g c, S1)) : mIsW ma ρ S = some (.bl true, S1) := by rw [e_isW, h1]
theorem v_isT {T : String} {t : String} (h1 : ma ρ S = some (x, S1)) (h2 : tyN x = some t) (h3 : kitB t T = some b) : mIsT T ma ρ S = some (.bl b, S1) := by rw [e_isT, h1]; simp only [h2, h3]
theorem v_isT2 {T U : String} {t : String} (h1 : ma ρ S = some (x, S1)) (h2 : tyN x = some t) (h3 : kit2 t T U = some b) : mIsT2 T U ma ρ S = some (.bl b, S1) := by rw [e_isT2, h1]; simp only [h2, h3]
theorem v_and_t (h1 : ma ρ S = some (.bl true, S1)) (h2 : mb ρ S1 = some (x, S2)) : mAndV ma mb ρ S = some (x, S2) := by rw [e_andV, h1]; exact h2
theorem v_and_f (h1 : ma ρ S = some (.bl false, S1)) : mAndV ma mb ρ S = some (.bl false, S1) := by rw [e_andV, h1]
theorem v_or_t (h1 : ma ρ S = some (.bl true, S1)) : mOrV ma mb ρ S = some (.bl true, S1) := by rw [e_orV, h1]
theorem v_or_f (h1 : ma ρ S = some (.bl false, S1)) (h2 : mb ρ S1 = some (x, S2)) : mOrV ma mb ρ S = some (x, S2) := by rw [e_orV, h1]; exact h2
theorem v_notV (h1 : ma ρ S = some (.bl b, S1)) : mNotV ma ρ S = some (.bl (!b), S1) := by rw [e_notV, h1]
theorem v_notV_t (h1 : ma ρ S = some (.bl false, S1)) : mNotV ma ρ S = some (.bl true, S1) := by rw [e_notV, h1]; rfl
theorem v_notV_f (h1 : ma ρ S = some (.bl true, S1)) : mNotV ma ρ S = some (.bl false, S1) := by rw [e_notV, h1]; rfl
theorem v_ifE_t (h1 : mt ρ S = some (true, S1)) (h2 : ma ρ S1 = some (x, S2)) : mIfE mt ma mb ρ S = some (x, S2) := by rw [e_ifE, h1]; exact h2
theorem v_ifE_f (h1 : mt ρ S = some (false, S1)) (h2 : mb ρ S1 = some (x, S2)) : mIfE mt ma mb ρ S = some (x, S2) := by rw [e_ifE, h1]; exact h2
theorem v_lenO (h : ρ[i]? = some (.own (.lst xs))) : mLenO i ρ S = some (.int xs.length, S) := by rw [e_lenO, h]
theorem v_ixO {t : Int} (h1 : ma ρ S = some (.int t, S1)) (h : ρ[i]? = some (.own (.lst xs))) (h2 : ixP xs.length t = some j) (h3 : xs[j]? = some x) : mIxO i ma ρ S = some (x, S1) := by rw [e_ixO, h1]; simp only [h, h2, h3]
theorem v_sl {ml mh : MO} {lo hi : Option Int} (h1 : ma ρ S = some (x, S1)) (h2 : ml ρ S1 = some (lo, S2)) (h3 : mh ρ S2 = some (hi, S3)) (h4 : fSl x lo hi = some z) : mSl ma ml mh ρ S = some (z, S3) := by rw [e_sl, h1]; simp only [h2, h3, h4]
theorem v_p0 : mP0 ρ S = some (none, S) := rfl
theorem v_p1 {t : Int} (h1 : ma ρ S = some (.int t, S1)) : mP1 ma ρ S = some (some t, S1) := by rw [e_p1, h1]
theorem v_lrg1 {t : Int} (h1 : ma ρ S = some (.int t, S1)) (h : okRg 0 t = true) : mLrg1 ma ρ S = some (.lst (rngP 0 (t - 0).toNat), S1) := by rw [e_lrg1, h1]; exact if_pos h
theorem v_lc {t : Tg} {vs : List Nat} (h1 : mi ρ S = some (xs, S1)) (hw : wipM ρ vs = ρ1) (h2 : lcL t mt ma ρ1 xs S1 = some (ys, S2)) (l : ys.length ≤ 100000) : mLc t mi mt ma vs ρ S = some (.lst ys, S2) := by
  subst hw
  rw [e_lc, h1]
  simp only [h2]
  exact if_pos l
theorem v_chain {p r : Int → Int → Bool} {i j k : Int} (h1 : ma ρ S = some (.int i, S1)) (h2 : mb ρ S1 = some (.int j, S2)) (h3 : mc ρ S2 = some (.int k, S3)) (h : p i j = true) : mChain p r ma mb mc ρ S = some (.bl (r j k), S3) := by
  unfold mChain
  rw [h1]; simp only [h2, h3, h, if_true]
theorem v_chain_f {p r : Int → Int → Bool} {i j : Int} (h1 : ma ρ S = some (.int i, S1)) (h2 : mb ρ S1 = some (.int j, S2)) (h : p i j = false) : mChain p r ma mb mc ρ S = some (.bl false, S2) := by
  unfold mChain
  rw [h1]; simp only [h2, h, Bool.false_eq_true, if_false]
theorem v_star (h1 : ma ρ S = some (x, S1)) (h : items x = some xs) (h2 : mes ρ S1 = some (ys, S2)) : mStar ma mes ρ S = some (xs ++ ys, S2) := by
  unfold mStar
  rw [h1]; simp only [h, h2]
/-- tests -/
theorem t_tru (h1 : ma ρ S = some (.bl b, S1)) : mTru ma ρ S = some (b, S1) := by rw [e_tru, h1]
theorem t_truL (h1 : ma ρ S = some (x, S1)) (h : truP x = some b) : mTruL ma ρ S = some (b, S1) := by rw [e_truL, h1]; simp only [h]
theorem t_not_t (h1 : mt ρ S = some (false, S1)) : mNotT mt ρ S = some (true, S1) := by rw [e_notT, h1]; rfl
theorem t_not_f (h1 : mt ρ S = some (true, S1)) : mNotT mt ρ S = some (false, S1) := by rw [e_notT, h1]; rfl
theorem t_not (h1 : mt ρ S = some (b, S1)) : mNotT mt ρ S = some (!b, S1) := by rw [e_notT, h1]
theorem t_and_f (h1 : mt ρ S = some (false, S1)) : mAndT mt mu ρ S = some (false, S1) := by rw [e_andT, h1]
theorem t_and_t (h1 : mt ρ S = some (true, S1)) (h2 : mu ρ S1 = some (b, S2)) : mAndT mt mu ρ S = some (b, S2) := by rw [e_andT, h1]; exact h2
theorem t_or_t (h1 : mt ρ S = some (true, S1)) : mOrT mt mu ρ S = some (true, S1) := by rw [e_orT, h1]
theorem t_or_f (h1 : mt ρ S = some (false, S1)) (h2 : mu ρ S1 = some (b, S2)) : mOrT mt mu ρ S = some (b, S2) := by rw [e_orT, h1]; exact h2
theorem t_yes : mYes ρ S = some (true, S) := rfl
/-- what a loop goes over -/
theorem i_seqL (h1 : ma ρ S = some (.lst xs, S1)) : mSeqI ma ρ S = some (xs, S1) := by rw [e_seqI, h1]
theorem i_seqT (h1 : ma ρ S = some (.tup xs, S1)) : mSeqI ma ρ S = some (xs, S1) := by rw [e_seqI, h1]
theorem i_rng1 {t : Int} (h1 : ma ρ S = some (.int t, S1)) (l : -1000000 ≤ t ∧ t ≤ 1000000) : mRng1 ma ρ S = some (rngP 0 t.toNat, S1) := by
  rw [e_rng1, h1]
  exact if_pos ⟨by omega, by omega⟩
theorem i_rng2 {t u : Int} (h1 : ma ρ S = some (.int t, S1)) (h2 : mb ρ S1 = some (.int u, S2)) (l : (-1000000 ≤ t ∧ t ≤ 1000000) ∧ -1000000 ≤ u ∧ u ≤ 1000000) : mRng2 ma mb ρ S = some (rngP t (u - t).toNat, S2) := by
  rw [e_rng2, h1]
  simp only [h2]
  exact if_pos ⟨by omega, by omega, by omega, by omega⟩
theorem i_zipT (h1 : ma ρ S = some (.tup xs, S1)) (h2 : mb ρ S1 = some (.tup ys, S2)) : mZip ma mb ρ S = some (zipP xs ys, S2) := by rw [e_zip, h1]; simp only [h2]
theorem i_zipL (h1 : ma ρ S = some (.lst xs, S1)) (h2 : mb ρ S1 = some (.lst ys, S2)) : mZip ma mb ρ S = some (zipP xs ys, S2) := by rw [e_zip, h1]; simp only [h2]
theorem i_enu (h1 : ma ρ S = some (.lst xs, S1)) : mEnu ma ρ S = some (enuP 0 xs, S1) := by rw [e_enu, h1]
/-- statements -/
theorem s_seq (h1 : ms ρ S = some (.nx ρ1 S1)) (h2 : mr ρ1 S1 = some o) : mSeq ms mr ρ S = some o := by rw [e_seq, h1]; exact h2
theorem s_seq_ret (h1 : ma ρ S = some (x, S1)) : mSeq (mRet ma) mr ρ S = some (.rt x S1) := by rw [e_seq, e_ret, h1]; rfl
theorem s_seq_skip (h2 : mr ρ S = some o) : mSeq mSkip mr ρ S = some o := by rw [e_seq]; exact h2
theorem s_seq_seq {mq : MS} (h : mSeq ms (mSeq mr mq) ρ S = some o) : mSeq (mSeq ms mr) mq ρ S = some o := by
  rw [e_seq, e_seq] at *
  cases e : ms ρ S with
  | none => rw [e] at h; cases h
  | some u =>
    rw [e] at h
    cases u <;> exact h
theorem s_seq_if_t {mq : MS} (h1 : mt ρ S = some (true, S1)) (h2 : mSeq ms mq ρ S1 = some o) : mSeq (mIf mt ms mr) mq ρ S = some o := by rw [e_seq, e_if, h1]; exact h2
theorem s_seq_if_f {mq : MS} (h1 : mt ρ S = some (false, S1)) (h2 : mSeq mr mq ρ S1 = some o) : mSeq (mIf mt ms mr) mq ρ S = some o := by rw [e_seq, e_if, h1]; exact h2
theorem s_seq_frz (h : ρ[i]? = some (.own x)) (hw : ρ.set i (.val x) = ρ1) (h2 : mSeq ms mr ρ1 S = some o) : mSeq (mFrz i ms) mr ρ S = some o := by
  rw [e_seq, e_frz, h]
  subst hw
  exact h2
theorem s_seq_frzV (h : ρ[i]? = some (.val x)) (h2 : mSeq ms mr ρ S = some o) : mSeq (mFrz i ms) mr ρ S = some o := by
  rw [e_seq, e_frz, h]
  exact h2
theorem s_if_t (h1 : mt ρ S = some (true, S1)) (h2 : ms ρ S1 = some o) : mIf mt ms mr ρ S = some o := by rw [e_if, h1]; exact h2
theorem s_if_f (h1 : mt ρ S = some (false, S1)) (h2 : mr ρ S1 = some o) : mIf mt ms mr ρ S = some o := by rw [e_if, h1]; exact h2
theorem s_frz (h : ρ[i]? = some (.own x)) (hw : ρ.set i (.val x) = ρ1) (h2 : ms ρ1 S = some o) : mFrz i ms ρ S = some o := by
  rw [e_frz, h]
  subst hw
  exact h2
theorem s_frzV (h : ρ[i]? = some (.val x)) (h2 : ms ρ S = some o) : mFrz i ms ρ S = some o := by
  rw [e_frz, h]
  exact h2
theorem s_ret (h1 : ma ρ S = some (x, S1)) : mRet ma ρ S = some (.rt x S1) := by rw [e_ret, h1]
theorem s_retN : mRetN ρ S = some (.rt .non S) := rfl
theorem s_skip : mSkip ρ S = some (.nx ρ S) := rfl
theorem s_drop (h1 : ma ρ S = some (x, S1)) : mDrop ma ρ S = some (.nx ρ S1) := by rw [e_drop, h1]
theorem s_asg (h1 : ma ρ S = some (x, S1)) (l : Nat.blt i ρ.length = true) (hw : ρ.set i (.val x) = ρ1) : mAsg (.nm i) ma ρ S = some (.nx ρ1 S1) := by
  have l : i < ρ.length := Nat.le_of_ble_eq_true l
  rw [e_asg, h1]
  simp only [e_put_nm, l, if_true, hw]
theorem s_asgT {t : Tg} (h1 : ma ρ S = some (x, S1)) (hw : t.put x ρ = some ρ1) : mAsg t ma ρ S = some (.nx ρ1 S1) := by
  rw [e_asg, h1]
  simp only [hw]
theorem p_tup {is : List Nat} (h : putAll is xs ρ = some ρ1) : (Tg.tp is).put (.tup xs) ρ = some ρ1 := h
theorem p_lst {is : List Nat} (h : putAll is xs ρ = some ρ1) : (Tg.tp is).put (.lst xs) ρ = some ρ1 := h
theorem p_nil : putAll [] [] ρ = some ρ := rfl
theorem p_cons {is : List Nat} (l : Nat.blt i ρ.length = true) (hw : ρ.set i (.val x) = ρ1) (h : putAll is xs ρ1 = some ρ2) : putAll (i :: is) (x :: xs) ρ = some ρ2 := by
  have l : i < ρ.length := Nat.le_of_ble_eq_true l
  rw [e_pa1, if_pos l]
  subst hw
  exact h
theorem p_nm (l : Nat.blt i ρ.length = true) (hw : ρ.set i (.val x) = ρ1) : (Tg.nm i).put x ρ = some ρ1 := by
  have l : i < ρ.length := Nat.le_of_ble_eq_true l
  rw [e_put_nm, if_pos l, hw]
theorem s_par (h1 : mes ρ S = some ([x, y], S1)) (l : (Nat.blt i ρ.length && Nat.blt j ρ.length) = true) (hw : (ρ.set i (.val x)).set j (.val y) = ρ1) : mPar i j mes ρ S = some (.nx ρ1 S1) := by
  rw [Bool.and_eq_true] at l
  rw [e_par, h1]
  subst hw
  exact if_pos ⟨Nat.le_of_ble_eq_true l.1, Nat.le_of_ble_eq_true l.2⟩
theorem s_newO (h1 : mes ρ S = some (xs, S1)) (l : xs.length ≤ 100000) (l2 : Nat.blt i ρ.length = true) (hw : ρ.set i (.own (.lst xs)) = ρ1) : mNewO i mes ρ S = some (.nx ρ1 S1) := by
  rw [e_newO, h1]
  subst hw
  exact if_pos ⟨l, Nat.le_of_ble_eq_true l2⟩
theorem s_app (h1 : ma ρ S = some (y, S1)) (h : ρ[i]? = some (.own (.lst xs))) (l : xs.length ≤ 100000) (hw : ρ.set i (.own (.lst (xs ++ [y]))) = ρ1) : mApp i ma ρ S = some (.nx ρ1 S1) := by
  rw [e_app, h1]
  simp only [h]
  subst hw
  exact if_pos l
theorem s_newA (h1 : ma ρ S = some (.lst xs, S1)) (h2 : mb ρ S1 = some (.lst ys, S2)) (l : xs.length + ys.length ≤ 100000) (l2 : Nat.blt i ρ.length = true) (hw : ρ.set i (.own (.lst (xs ++ ys))) = ρ1) : mNewA i ma mb ρ S = some (.nx ρ1 S2) := by
  rw [e_newA, h1]
  simp only [h2]
  subst hw
  exact if_pos ⟨l, Nat.le_of_ble_eq_true l2⟩
theorem s_newLc {t : Tg} {vs : List Nat} (h1 : mi ρ S = some (xs, S1)) (hv : wipM ρ vs = ρ2) (h2 : lcL t mt ma ρ2 xs S1 = some (ys, S2)) (l : ys.length ≤ 100000) (l2 : Nat.blt i ρ.length = true) (hw : ρ.set i (.own (.lst ys)) = ρ1) : mNewLc i t mi mt ma vs ρ S = some (.nx ρ1 S2) := by
  rw [e_newLc, h1]
  simp only [hv, h2]
  subst hw
  exact if_pos ⟨l, Nat.le_of_ble_eq_true l2⟩
theorem s_for {t : Tg} (h1 : mi ρ S = some (xs, S1)) (h2 : forL t ms xs ρ S1 = some o) : mFor t mi ms ρ S = some o := by rw [e_for, h1]; exact h2
theorem s_seq_rt (h1 : ms ρ S = some (.rt x S1)) : mSeq ms mr ρ S = some (.rt x S1) := by rw [e_seq, h1]; rfl
/-- a def -/
theorem d_rt {np nN : Nat} (l : xs.length = np) (hw : xs.map .val ++ List.replicate (nN - np) .un = ρ) (h : ms ρ S = some (.rt x S1)) : mDef np nN ms xs S = some (x, S1) := by
  rw [e_def, if_pos l, hw, h]
  rfl
theorem d_nx {np nN : Nat} (l : xs.length = np) (hw : xs.map .val ++ List.replicate (nN - np) .un = ρ) (h : ms ρ S = some (.nx ρ1 S1)) : mDef np nN ms xs S = some (.non, S1) := by
  rw [e_def, if_pos l, hw, h]
  rfl
/-! comparisons that are settled -/
theorem lt_t {i j : Int} (h : i < j) : fLt S (.int i) (.int j) = some (.bl true) := by simp [h]
theorem lt_f {i j : Int} (h : ¬ i < j) : fLt S (.int i) (.int j) = some (.bl false) := by simp; omega
theorem le_t {i j : Int} (h : i ≤ j) : fLe S (.int i) (.int j) = some (.bl true) := by simp [h]
theorem le_f {i j : Int} (h : ¬ i ≤ j) : fLe S (.int i) (.int j) = some (.bl false) := by simp; omega
theorem gt_t {i j : Int} (h : j < i) : fGt S (.int i) (.int j) = some (.bl true) := by simp [h]
theorem gt_f {i j : Int} (h : ¬ j < i) : fGt S (.int i) (.int j) = some (.bl false) := by simp; omega
theorem ge_t {i j : Int} (h : j ≤ i) : fGe S (.int i) (.int j) = some (.bl true) := by simp [h]
theorem ge_f {i j : Int} (h : ¬ j ≤ i) : fGe S (.int i) (.int j) = some (.bl false) := by simp; omega
theorem eq_t {i j : Int} (h : i = j) : fEq S (.int i) (.int j) = some (.bl true) := by simp [h]
theorem eq_f {i j : Int} (h : ¬ i = j) : fEq S (.int i) (.int j) = some (.bl false) := by simp [h]
theorem ne_f {i j : Int} (h : i = j) : fNe S (.int i) (.int j) = some (.bl false) := by simp [h]
theorem ne_t {i j : Int} (h : ¬ i = j) : fNe S (.int i) (.int j) = some (.bl true) := by simp [h]
theorem lt_v {i j : Int} : fLt S (.int i) (.int j) = some (.bl (decide (i < j))) := rfl
theorem le_v {i j : Int} : fLe S (.int i) (.int j) = some (.bl (decide (i ≤ j))) := rfl
theorem gt_v {i j : Int} : fGt S (.int i) (.int j) = some (.bl (decide (j < i))) := rfl
theorem ge_v {i j : Int} : fGe S (.int i) (.int j) = some (.bl (decide (j ≤ i))) := rfl
theorem is_non : fIs S .non .non = some (.bl true) := rfl
theorem not_non : fNot S .non .non = some (.bl false) := rfl
theorem is_int {i : Int} : fIs S (.int i) .non = some (.bl false) := rfl
theorem not_int {i : Int} : fNot S (.int i) .non = some (.bl true) := rfl
theorem is_way {s f c : Option Int} : fIs S (.way s f c) .non = some (.bl false) := rfl
theorem not_way {s f c : Option Int} : fNot S (.way s f c) .non = some (.bl true) := rfl
theorem is_tup : fIs S (.tup xs) .non = some (.bl false) := rfl
theorem not_tup : fNot S (.tup xs) .non = some (.bl true) := rfl
theorem is_lst : fIs S (.lst xs) .non = some (.bl false) := rfl
theorem not_lst : fNot S (.lst xs) .non = some (.bl true) := rfl
theorem pow10 {e : Nat} : fPow S (.int 10) (.int (OfNat.ofNat e)) = fPow S (.int 10) (.int (OfNat.ofNat e)) := rfl
/-! comprehensions and loops over what is known -/
theorem lc_map {α : Type} {t : Tg} {me : ME} (f g : α → PV) (p : α → Bool) : ∀ {as : List α}, (∀ a ∈ as, ∃ ρ1, t.put (f a) ρ = some ρ1 ∧ mt ρ1 S = some (p a, S) ∧ (p a = true → me ρ1 S = some (g a, S))) → lcL t mt me ρ (as.map f) S = some ((as.filter p).map g, S)
  | [], _ => rfl
  | a :: as, h => by
    obtain ⟨ρ1, e1, e2, e3⟩ := h a List.mem_cons_self
    have ih := lc_map f g p (as := as) fun y hy => h y (List.mem_cons_of_mem _ hy)
    rw [List.map_cons]
    unfold lcL
    rw [e1]
    simp only [e2]
    cases c : p a with
    | true => simp only [e3 c, ih, List.filter_cons, c, if_true, List.map_cons]
    | false => simp only [ih, List.filter_cons, c, Bool.false_eq_true, if_false]
theorem lc_all {α : Type} {t : Tg} {me : ME} (f g : α → PV) : ∀ {as : List α}, (∀ a ∈ as, ∃ ρ1, t.put (f a) ρ = some ρ1 ∧ me ρ1 S = some (g a, S)) → lcL t mYes me ρ (as.map f) S = some (as.map g, S)
  | [], _ => rfl
  | a :: as, h => by
    obtain ⟨ρ1, e1, e3⟩ := h a List.mem_cons_self
    have ih := lc_all f g (as := as) fun y hy => h y (List.mem_cons_of_mem _ hy)
    rw [List.map_cons]
    unfold lcL
    rw [e1]
    simp only [e_yes, e3, ih, List.map_cons]
/-- a loop, by what holds behind a part of it -/
theorem for_hist {α : Type} {t : Tg} {mb : MS} (f : α → PV) (as : List α) (P : List α → List SlV → List PV → Prop) (h : ∀ d a r ρ S, as = d ++ a :: r → P d ρ S → ∃ ρ1 ρ2 S2, t.put (f a) ρ = some ρ1 ∧ mb ρ1 S = some (.nx ρ2 S2) ∧ P (d ++ [a]) ρ2 S2) : ∀ (r d : List α) (ρ : List SlV) (S : List PV), as = d ++ r → P d ρ S → ∃ ρ' S', forL t mb (r.map f) ρ S = some (.nx ρ' S') ∧ P as ρ' S'
  | [], d, ρ, S, e, p => ⟨ρ, S, rfl, by rw [e, List.append_nil]; exact p⟩
  | a :: r, d, ρ, S, e, p => by
    obtain ⟨ρ1, ρ2, S2, e1, e2, p2⟩ := h d a r ρ S e p
    obtain ⟨ρ', S', e', p'⟩ := for_hist f as P h r (d ++ [a]) ρ2 S2 (by rw [e]; simp) p2
    refine ⟨ρ', S', ?_, p'⟩
    rw [List.map_cons]
    unfold forL
    rw [e1]
    simp only [e2]
    exact e'
end
end BL

namespace BL
open PySem PySem.Spec PyProof.Rows L2
/-! == of plain trees -/
mutual
/-- plain, at most so deep -/
def PV.pl : Nat → PV → Bool
  | _, .non => true
  | _, .int _ => true
  | _, .str x => PyData.canLay0 (.str x)
  | _, .bl _ => true
  | n + 1, .lst xs => plL n xs
  | n + 1, .tup xs => plL n xs
  | _, _ => false
def plL : Nat → List PV → Bool
  | _, [] => true
  | n, x :: xs => PV.pl n x && plL n xs
end
mutual
/-- no True, no False in it -/
def PV.nb : PV → Bool
  | .bl _ => false
  | .lst xs => nbL xs
  | .tup xs => nbL xs
  | _ => true
def nbL : List PV → Bool
  | [] => true
  | x :: xs => PV.nb x && nbL xs
end
mutual
theorem pl_toD : ∀ (n : Nat) (x : PV), x.pl n = true → ∃ d, x.toD = some d ∧ d.canLay0 = true ∧ d.depth ≤ n
  | n, .non, _ => ⟨.none, by simp [PV.toD], rfl, by simp [PyData.depth]⟩
  | n, .int i, _ => ⟨.int i, by simp [PV.toD], rfl, by simp [PyData.depth]⟩
  | n, .str i, h => ⟨.str i, by simp [PV.toD], by cases n <;> simpa [PV.pl] using h, by simp [PyData.depth]⟩
  | n, .bl i, _ => ⟨.bool i, by simp [PV.toD], rfl, by simp [PyData.depth]⟩
  | 0, .lst xs, h => by simp [PV.pl] at h
  | 0, .tup xs, h => by simp [PV.pl] at h
  | n + 1, .lst xs, h => by
    obtain ⟨ds, e, c, d⟩ := plL_toD n xs (by simpa [PV.pl] using h)
    exact ⟨.list ds, by simp [PV.toD, e], by simp [PyData.canLay0, c], by simp [PyData.depth]; omega⟩
  | n + 1, .tup xs, h => by
    obtain ⟨ds, e, c, d⟩ := plL_toD n xs (by simpa [PV.pl] using h)
    exact ⟨.tuple ds, by simp [PV.toD, e], by simp [PyData.canLay0, c], by simp [PyData.depth]; omega⟩
  | n, .way _ _ _, h => by cases n <;> simp [PV.pl] at h
  | n, .mref _, h => by cases n <;> simp [PV.pl] at h
  | n, .dic _, h => by cases n <;> simp [PV.pl] at h
theorem plL_toD : ∀ (n : Nat) (xs : List PV), plL n xs = true → ∃ ds, PV.toD.toDs xs = some ds ∧ PyData.canLayAll0 ds = true ∧ PyData.depthAll ds ≤ n
  | n, [], _ => ⟨[], by simp [PV.toD.toDs], rfl, by simp [PyData.depthAll]⟩
  | n, x :: xs, h => by
    rw [plL, Bool.and_eq_true] at h
    obtain ⟨d, e1, c1, d1⟩ := pl_toD n x h.1
    obtain ⟨ds, e2, c2, d2⟩ := plL_toD n xs h.2
    exact ⟨d :: ds, by simp [PV.toD.toDs, e1, e2], by simp [PyData.canLayAll0, c1, c2], by simp [PyData.depthAll]; omega⟩
end
theorem pl_sh {n : Nat} {d : PyData} (h : n ≤ 64) (c : d.canLay0 = true) (l : d.depth ≤ n) : SeqAt.shaped d = true := by
  unfold SeqAt.shaped
  rw [c, Bool.true_and, decide_eq_true_eq]
  omega
mutual
theorem eqv_iff : ∀ (x y : PV) (d e : PyData), x.nb = true → y.nb = true → x.toD = some d → y.toD = some e → (PyData.eqv d e = true ↔ x = y)
  | .non, y, d, e, h1, h2, e1, e2 => by
    cases y <;> simp [PV.toD, PV.nb] at e1 e2 h2 <;> first | (subst e1; subst e2; simp [PyData.eqv]; done) | (split at e2 <;> simp at e2; subst e1; subst e2; simp [PyData.eqv])
  | .bl b, y, d, e, h1, h2, e1, e2 => by simp [PV.nb] at h1
  | .int i, y, d, e, h1, h2, e1, e2 => by
    cases y <;> simp [PV.toD, PV.nb] at e1 e2 h2 <;> first | (subst e1; subst e2; simp [PyData.eqv]; done) | (split at e2 <;> simp at e2; subst e1; subst e2; simp [PyData.eqv])
  | .str i, y, d, e, h1, h2, e1, e2 => by
    cases y <;> simp [PV.toD, PV.nb] at e1 e2 h2 <;> first | (subst e1; subst e2; simp [PyData.eqv]; done) | (split at e2 <;> simp at e2; subst e1; subst e2; simp [PyData.eqv])
  | .lst xs, y, d, e, h1, h2, e1, e2 => by
    rw [PV.nb] at h1
    cases a : PV.toD.toDs xs with
    | none => simp [PV.toD, a] at e1
    | some ds =>
      simp [PV.toD, a] at e1
      subst e1
      cases y <;> simp [PV.toD, PV.nb] at e2 h2 <;> first | (subst e2; simp [PyData.eqv]; done) | skip
      · rename_i ys
        cases b : PV.toD.toDs ys with
        | none => simp [b] at e2
        | some es =>
          simp [b] at e2
          subst e2
          have := eqvL_iff xs ys ds es h1 h2 a b
          simp [PyData.eqv, this]
      · split at e2 <;> simp at e2
        subst e2
        simp [PyData.eqv]
  | .tup xs, y, d, e, h1, h2, e1, e2 => by
    rw [PV.nb] at h1
    cases a : PV.toD.toDs xs with
    | none => simp [PV.toD, a] at e1
    | some ds =>
      simp [PV.toD, a] at e1
      subst e1
      cases y <;> simp [PV.toD, PV.nb] at e2 h2 <;> first | (subst e2; simp [PyData.eqv]; done) | skip
      · split at e2 <;> simp at e2
        subst e2
        simp [PyData.eqv]
      · rename_i ys
        cases b : PV.toD.toDs ys with
        | none => simp [b] at e2
        | some es =>
          simp [b] at e2
          subst e2
          have := eqvL_iff xs ys ds es h1 h2 a b
          simp [PyData.eqv, this]
  | .way _ _ _, y, d, e, h1, h2, e1, e2 => by simp [PV.toD] at e1
  | .mref _, y, d, e, h1, h2, e1, e2 => by simp [PV.toD] at e1
  | .dic _, y, d, e, h1, h2, e1, e2 => by simp [PV.toD] at e1
theorem eqvL_iff : ∀ (xs ys : List PV) (ds es : List PyData), nbL xs = true → nbL ys = true → PV.toD.toDs xs = some ds → PV.toD.toDs ys = some es → (PyData.eqvAll ds es = true ↔ xs = ys)
  | [], ys, ds, es, _, h2, e1, e2 => by
    simp [PV.toD.toDs] at e1
    subst e1
    cases ys with
    | nil => simp [PV.toD.toDs] at e2; subst e2; simp [PyData.eqvAll]
    | cons y ys =>
      cases a : y.toD <;> cases b : PV.toD.toDs ys <;> simp [PV.toD.toDs, a, b] at e2
      subst e2
      simp [PyData.eqvAll]
  | x :: xs, ys, ds, es, h1, h2, e1, e2 => by
    rw [nbL, Bool.and_eq_true] at h1
    cases a : x.toD <;> cases b : PV.toD.toDs xs <;> simp [PV.toD.toDs, a, b] at e1
    subst e1
    cases ys with
    | nil => simp [PV.toD.toDs] at e2; subst e2; simp [PyData.eqvAll]
    | cons y ys =>
      rw [nbL, Bool.and_eq_true] at h2
      cases a' : y.toD <;> cases b' : PV.toD.toDs ys <;> simp [PV.toD.toDs, a', b'] at e2
      subst e2
      have i1 := eqv_iff x y _ _ h1.1 h2.1 a a'
      have i2 := eqvL_iff xs ys _ _ h1.2 h2.2 b b'
      rw [PyData.eqvAll, Bool.and_eq_true, i1, i2]
      simp
end
theorem eqP_refl {x : PV} (h : x.pl 60 = true) : eqP x x = some true := by
  obtain ⟨d, e, c, l⟩ := pl_toD 60 x h
  have s := pl_sh (by decide) c l
  unfold eqP
  cases q : x.scal x with
  | some b => cases x <;> simp [PV.scal] at q <;> (subst q; rfl)
  | none =>
    simp only [e, s, Bool.and_self, if_true]
    rw [SeqAt.eqv_refl d c]
theorem eqP_iff {x y : PV} (h1 : x.pl 60 = true) (h2 : y.pl 60 = true) (n1 : x.nb = true) (n2 : y.nb = true) : ∃ b, eqP x y = some b ∧ (b = true ↔ x = y) := by
  obtain ⟨d, e, c, l⟩ := pl_toD 60 x h1
  obtain ⟨d', e', c', l'⟩ := pl_toD 60 y h2
  have s := pl_sh (by decide) c l
  have s' := pl_sh (by decide) c' l'
  have k := eqv_iff x y d d' n1 n2 e e'
  have g : ∀ b, (match x.toD, y.toD with | some d, some e => if SeqAt.shaped d && SeqAt.shaped e then some (PyData.eqv d e) else none | _, _ => none) = some b → b = PyData.eqv d d' := fun b hb => by
    simp only [e, e', s, s', Bool.and_self, if_true] at hb
    exact (Option.some.inj hb).symm
  unfold eqP
  cases q : x.scal y with
  | some b =>
    refine ⟨b, rfl, ?_⟩
    cases x <;> cases y <;> simp [PV.scal] at q <;> (subst q; simp)
  | none =>
    exact ⟨PyData.eqv d d', by simp only [e, e', s, s', Bool.and_self, if_true], k⟩
theorem feq_refl {x : PV} (h : x.pl 60 = true) (S : List PV) : fEq S x x = some (.bl true) := by unfold fEq; rw [eqP_refl h]
theorem fne_refl {x : PV} (h : x.pl 60 = true) (S : List PV) : fNe S x x = some (.bl false) := by unfold fNe; rw [eqP_refl h]; rfl
theorem feq_f {x y : PV} (h1 : x.pl 60 = true) (h2 : y.pl 60 = true) (n1 : x.nb = true) (n2 : y.nb = true) (ne : x ≠ y) (S : List PV) : fEq S x y = some (.bl false) := by
  obtain ⟨b, e, k⟩ := eqP_iff h1 h2 n1 n2
  unfold fEq
  rw [e]
  cases b
  · rfl
  · exact absurd (k.mp rfl) ne
theorem fne_t {x y : PV} (h1 : x.pl 60 = true) (h2 : y.pl 60 = true) (n1 : x.nb = true) (n2 : y.nb = true) (ne : x ≠ y) (S : List PV) : fNe S x y = some (.bl true) := by
  obtain ⟨b, e, k⟩ := eqP_iff h1 h2 n1 n2
  unfold fNe
  rw [e]
  cases b
  · rfl
  · exact absurd (k.mp rfl) ne
theorem plL_all {n : Nat} : ∀ {xs : List PV}, (∀ x ∈ xs, x.pl n = true) → plL n xs = true
  | [], _ => rfl
  | x :: xs, h => by rw [plL, h x List.mem_cons_self, plL_all fun y hy => h y (List.mem_cons_of_mem _ hy)]; rfl
theorem nbL_all : ∀ {xs : List PV}, (∀ x ∈ xs, x.nb = true) → nbL xs = true
  | [], _ => rfl
  | x :: xs, h => by rw [nbL, h x List.mem_cons_self, nbL_all fun y hy => h y (List.mem_cons_of_mem _ hy)]; rfl
mutual
theorem pl_up : ∀ (n : Nat) (x : PV), x.pl n = true → x.pl (n + 1) = true
  | n, .non, _ => by simp [PV.pl]
  | n, .int i, _ => by simp [PV.pl]
  | n, .str i, h => by cases n <;> simpa [PV.pl] using h
  | n, .bl i, _ => by simp [PV.pl]
  | 0, .lst xs, h => by simp [PV.pl] at h
  | 0, .tup xs, h => by simp [PV.pl] at h
  | n + 1, .lst xs, h => by rw [PV.pl] at h ⊢; exact plL_up n xs h
  | n + 1, .tup xs, h => by rw [PV.pl] at h ⊢; exact plL_up n xs h
  | n, .way _ _ _, h => by cases n <;> simp [PV.pl] at h
  | n, .mref _, h => by cases n <;> simp [PV.pl] at h
  | n, .dic _, h => by cases n <;> simp [PV.pl] at h
theorem plL_up : ∀ (n : Nat) (xs : List PV), plL n xs = true → plL (n + 1) xs = true
  | n, [], _ => rfl
  | n, x :: xs, h => by
    rw [plL, Bool.and_eq_true] at h ⊢
    exact ⟨pl_up n x h.1, plL_up n xs h.2⟩
end
theorem pl_le {n m : Nat} {x : PV} (h : x.pl n = true) (l : n ≤ m) : x.pl m = true := by
  induction l with
  | refl => exact h
  | step _ ih => exact pl_up _ _ ih
/-! the law's own `same` -/
mutual
theorem same_self : ∀ (n : Nat) (x : PV), x.pl n = true → x.same x = true
  | n, .non, _ => by simp [PV.same]
  | n, .int i, _ => by simp [PV.same]
  | n, .str i, _ => by simp [PV.same]
  | n, .bl i, _ => by simp [PV.same]
  | 0, .lst xs, h => by simp [PV.pl] at h
  | 0, .tup xs, h => by simp [PV.pl] at h
  | n + 1, .lst xs, h => by rw [PV.pl] at h; rw [PV.same]; exact sameL_self n xs h
  | n + 1, .tup xs, h => by rw [PV.pl] at h; rw [PV.same]; exact sameL_self n xs h
  | n, .way _ _ _, h => by cases n <;> simp [PV.pl] at h
  | n, .mref _, h => by cases n <;> simp [PV.pl] at h
  | n, .dic _, h => by cases n <;> simp [PV.pl] at h
theorem sameL_self : ∀ (n : Nat) (xs : List PV), plL n xs = true → sameL xs xs = true
  | n, [], _ => by simp [sameL]
  | n, x :: xs, h => by
    rw [plL, Bool.and_eq_true] at h
    rw [sameL, same_self n x h.1, sameL_self n xs h.2]
    rfl
end
theorem fsame {n : Nat} {x : PV} (h : x.pl 60 = true) (d : x.deep n = true) (S : List PV) : fSame n S [x, x] = some (.bl true) := by
  show (if x.same x && x.deep n then some (PV.bl true) else none) = _
  rw [same_self 60 x h, d]
  rfl
end BL

/-! sorted(..) of a list of data of one shape -/
namespace BL
open PySem PySem.Spec PyProof.Rows L2
section
variable {C : Addr}
def dOf (x : PV) : PyData := (x.toD).getD .none
def tkD (x : PV) : List (Int ⊕ List Nat) := PySem.W.keyToks (dOf x)
def ltD (x y : PV) : Bool := PyProof.Rows.lexLt itemOrd (tkD x) (tkD y)
def insD (x : PV) : List PV → List PV
  | [] => [x]
  | y :: ys => if ltD y x then y :: insD x ys else x :: y :: ys
def srtD : List PV → List PV
  | [] => []
  | x :: xs => insD x (srtD xs)
theorem insD_perm (x : PV) : ∀ ys : List PV, (insD x ys).Perm (x :: ys)
  | [] => .refl _
  | y :: ys => by
    unfold insD
    split
    · exact ((insD_perm x ys).cons y).trans (.swap x y ys)
    · exact .refl _
theorem srtD_perm : ∀ xs : List PV, (srtD xs).Perm xs
  | [] => .refl _
  | x :: xs => (insD_perm x _).trans ((srtD_perm xs).cons x)
def LeD (x y : PV) : Prop := ltD y x = false
theorem LeD.tr {x y z : PV} (h : LeD x y) (k : LeD y z) : LeD x z := by
  unfold LeD at *
  cases c : ltD z x with
  | false => rfl
  | true =>
    rcases (listOrd itemOrd).negTrans _ (tkD y) _ c with e | e
    · have : ltD z y = true := e
      rw [this] at k
      cases k
    · have : ltD y x = true := e
      rw [this] at h
      cases h
theorem LeD.of {x y : PV} (h : ltD x y = true) : LeD x y := by
  unfold LeD
  cases c : ltD y x with
  | false => rfl
  | true =>
    have := (listOrd itemOrd).trans _ _ _ h c
    rw [(listOrd itemOrd).irrefl] at this
    cases this
theorem insD_asc (x : PV) : ∀ ys : List PV, ys.Pairwise LeD → (insD x ys).Pairwise LeD
  | [], _ => List.pairwise_singleton _ _
  | y :: ys, h => by
    have hc := List.pairwise_cons.mp h
    unfold insD
    split
    · rename_i c
      refine List.pairwise_cons.mpr ⟨fun z hz => ?_, insD_asc x ys hc.2⟩
      rcases List.mem_cons.mp ((insD_perm x ys).mem_iff.mp hz) with rfl | hz
      · exact .of c
      · exact hc.1 z hz
    · rename_i c
      have c : LeD x y := by unfold LeD; simpa using c
      refine List.pairwise_cons.mpr ⟨fun z hz => ?_, h⟩
      rcases List.mem_cons.mp hz with rfl | hz
      · exact c
      · exact c.tr (hc.1 z hz)
theorem srtD_asc : ∀ xs : List PV, (srtD xs).Pairwise LeD
  | [] => .nil
  | x :: xs => insD_asc x _ (srtD_asc xs)
/-- one order only, where what is neither less nor greater is the same -/
theorem leD_eq : ∀ {xs ys : List PV}, (∀ x ∈ xs, ∀ y ∈ xs, LeD x y → LeD y x → x = y) → xs.Pairwise LeD → ys.Pairwise LeD → xs.Perm ys → xs = ys
  | [], ys, _, _, _, h => (List.Perm.nil_eq h)
  | x :: xs, [], _, _, _, h => absurd h.symm.nil_eq (by simp)
  | x :: xs, y :: ys, u, h1, h2, h => by
    obtain ⟨a1, a2⟩ := List.pairwise_cons.mp h1
    obtain ⟨b1, b2⟩ := List.pairwise_cons.mp h2
    have hr : ∀ z, LeD z z := fun z => (listOrd itemOrd).irrefl _
    have my : y ∈ x :: xs := h.mem_iff.mpr List.mem_cons_self
    have k1 : LeD x y := by
      rcases List.mem_cons.mp my with e | e
      · rw [e]; exact hr _
      · exact a1 y e
    have k2 : LeD y x := by
      rcases List.mem_cons.mp (h.mem_iff.mp List.mem_cons_self) with e | e
      · rw [e]; exact hr _
      · exact b1 x e
    have e : x = y := u x List.mem_cons_self y my k1 k2
    subst e
    congr 1
    exact leD_eq (fun a ha b hb => u a (List.mem_cons_of_mem _ ha) b (List.mem_cons_of_mem _ hb)) a2 b2 (List.Perm.cons_inv h)
/-- data of one shape, told apart by their order -/
theorem toks_same {d e : PyData} (h : PySem.W.alike d e = true) (k : PySem.W.keyToks d = PySem.W.keyToks e) : PyData.eqv d e = true := by
  cases c : PyData.eqv d e with
  | true => rfl
  | false =>
    have a := (PySem.W.toks_eqv d e h).2 c [.inl 0] [.inl 1]
    rw [k, PySem.W.lex_pre] at a
    have b : PyProof.Rows.lexLt itemOrd (PySem.W.keyToks e) (PySem.W.keyToks e) = false := (listOrd itemOrd).irrefl _
    rw [b] at a
    exact absurd a (by decide)
def okSD (ds : List PyData) : Bool := decide (ds.length ≤ 1000) && ds.all (fun d => ds.all fun e => PySem.W.alike d e) && ds.all (fun d => decide (d.depth ≤ 60)) && (decide (ds.length ≤ 1) || ds.all (fun d => match d with | .tuple (_ :: _) => true | _ => false))
def fSortD (_ : List PV) : List PV → Option PV
  | [.lst xs] => match PV.toD.toDs xs with
    | some ds => if okSD ds && nbL xs then some (.lst (srtD xs)) else none
    | none => none
  | _ => none
def rSortedD (K : PySem.W.Frag) : List V → Hp → VK → Prop := fun vs H Q => ∃ (a : Addr) (L : List (V × PV)), vs = [V.ref a] ∧ SqL K H a (L.map (·.1)) ∧ (∀ x ∈ L, Dp K H x.1 (dOf x.2) ∧ (dOf x.2).depth ≤ 60) ∧ (L.length ≤ 1 ∨ PySem.W.AllAlike (L.map fun x => dOf x.2) ∧ PySem.W.Sortable (L.map fun x => dOf x.2)) ∧
  ∀ (M : List (V × PV)) p, M.Perm L → (M.map (·.2)).Pairwise LeD → H p = none → Q (.ref p) (upd H p (.lst (M.map (·.1))))
theorem each_of : ∀ {L : List (V × PV)} {vs : List Value}, Vals (L.map (·.1)) vs → PySem.W.EachIs (fun v b => RelV b.1 v) vs L
  | [], vs, r => by
    cases r
    exact .nil
  | x :: L, vs, r => by
    cases r with
    | cons r1 r2 => exact .cons r1 (each_of r2)
theorem vals_each : ∀ {L : List (V × PV)} {vs : List Value}, PySem.W.EachIs (fun v (b : V × PV) => RelV b.1 v) vs L → Vals (L.map (·.1)) vs
  | _, _, .nil => .nil
  | _, _, .cons r1 r2 => .cons r1 (vals_each r2)
theorem one_perm {α : Type} : ∀ {xs ys : List α}, ys.length ≤ 1 → xs.Perm ys → xs = ys
  | xs, [], _, p => p.eq_nil
  | xs, [y], _, p => List.perm_singleton.mp p
  | _, _ :: _ :: _, l, _ => absurd l (by simp)
theorem one_asc : ∀ {L : List (V × PV)}, L.length ≤ 1 → (L.map (·.2)).Pairwise LeD
  | [], _ => .nil
  | [x], _ => List.pairwise_singleton _ _
  | _ :: _ :: _, l => absurd l (by simp)
theorem cr_sortedD {X : Cx} (hu : X.A.units + 64 < cLine) : CallR X (.builtin "sorted") (rSortedD X.K) := by
  intro pins s σ H vs us Q I r h
  obtain ⟨a, L, rfl, hs, hx, also, q⟩ := h
  obtain ⟨its, rv, hl, hz⟩ := I.list hs
  obtain ⟨u, rfl, ru⟩ := vals1 r
  obtain rfl : u = Value.ref a := ru
  have e := each_of rv
  have er : ∀ {M : List (V × PV)} {ws : List Value}, (∀ x ∈ M, Dp X.K H x.1 (dOf x.2)) → PySem.W.EachIs (fun v (b : V × PV) => RelV b.1 v) ws M → PySem.W.EachIs (fun v (b : V × PV) => ∃ as, Reads s.heap v (dOf b.2) as) ws M := fun {M ws} hM h => by
    induction h with
    | nil => exact .nil
    | cons r1 r2 ih => exact .cons (Dp.reads I _ _ _ (hM _ List.mem_cons_self) r1) (ih fun x hx => hM x (List.mem_cons_of_mem _ hx))
  rcases also with l1 | ⟨al, so⟩
  · have li : its.length ≤ 1 := by
      have := rv.length
      rw [List.length_map] at this
      rw [← this]
      exact l1
    have hz' : its.length ≤ sizeLine := by
      rw [← rv.length]
      exact hz
    refine SrtO.sorted_ord (ltv := fun _ _ => false) ⟨fun _ _ h => (Bool.false_ne_true h).elim, fun _ _ _ _ _ => rfl⟩ hl.isList hz' (fun h2 => absurd (Nat.le_trans h2 li) (by decide)) fun out h1 h2 => ?_
    have eo : out = its := one_perm li h2.perm
    subst eo
    obtain ⟨n, hn⟩ := sortedAll_at s.heap out out.toArray
    exact ⟨.ref (s.heap.objs.size + 1), upd H (s.heap.objs.size + 1) (.lst (L.map (·.1))), I.laid (t' := s.toks) (fun b o e => sortedAll_old e) (Nat.le_succ _) ⟨hz, out, n, rv, hn⟩, rfl, q L _ (.refl _) (one_asc l1) (I.hok.fresh (Nat.le_succ _))⟩
  refine PySem.W.sorted_data (enc := fun b : V × PV => dOf b.2) hl.isList e (er (fun x hx' => (hx x hx').1) e) al so (by rw [List.length_map] at hz; exact hz) (fun b hb => by have := (hx b hb).2; omega) fun out hlen ho => ?_
  have hp : (L.mergeSort (PySem.W.dataLe false fun b : V × PV => dOf b.2)).Perm L := List.mergeSort_perm _ _
  have hsr : ((L.mergeSort (PySem.W.dataLe false fun b : V × PV => dOf b.2)).map (·.2)).Pairwise LeD := by
    rw [List.pairwise_map]
    refine List.Pairwise.imp (fun {x y} h => ?_) (List.pairwise_mergeSort (le := PySem.W.dataLe false fun b : V × PV => dOf b.2) (fun x y z h1 h2 => ?_) (fun x y => ?_) L)
    · have : (!ltD y.2 x.2) = true := h
      show ltD y.2 x.2 = false
      simpa using this
    · have h1 : LeD x.2 y.2 := by have : (!ltD y.2 x.2) = true := h1; show ltD y.2 x.2 = false; simpa using this
      have h2 : LeD y.2 z.2 := by have : (!ltD z.2 y.2) = true := h2; show ltD z.2 y.2 = false; simpa using this
      have : LeD x.2 z.2 := h1.tr h2
      show (!ltD z.2 x.2) = true
      rw [this]
      rfl
    · show ((!ltD y.2 x.2) || (!ltD x.2 y.2)) = true
      cases c : ltD y.2 x.2 with
      | false => rfl
      | true =>
        have : ltD x.2 y.2 = false := LeD.of c
        rw [this]
        rfl
  generalize L.mergeSort (PySem.W.dataLe false fun b : V × PV => dOf b.2) = M at *
  obtain ⟨n, hn⟩ := sortedAll_at s.heap its out.toArray
  refine ⟨.ref (s.heap.objs.size + 1), upd H (s.heap.objs.size + 1) (.lst (M.map (·.1))), I.laid (t' := s.toks) (fun b o e => sortedAll_old e) (Nat.le_succ _) ⟨?_, out, n, vals_each ho, hn⟩, rfl, q M _ hp hsr (I.hok.fresh (Nat.le_succ _))⟩
  rw [List.length_map, hp.length_eq]
  rw [List.length_map] at hz
  exact hz
theorem rep_zip {K : PySem.W.Frag} {F : Hp} {θ : List Addr} : ∀ {us : List V} {xs : List PV}, RepAll K C F θ us xs → (us.zip xs).map (·.1) = us ∧ (us.zip xs).map (·.2) = xs ∧ ∀ x ∈ us.zip xs, Rep K C F θ x.1 x.2
  | _, _, .nil => ⟨rfl, rfl, fun x h => by cases h⟩
  | _, _, .cons r a => by
    obtain ⟨h1, h2, h3⟩ := rep_zip a
    refine ⟨congrArg _ h1, congrArg _ h2, fun x hx => ?_⟩
    rcases List.mem_cons.mp hx with rfl | hx
    · exact r
    · exact h3 x hx
theorem rep_ofD {K : PySem.W.Frag} {F : Hp} {θ : List Addr} : ∀ {M : List (V × PV)}, (∀ x ∈ M, Rep K C F θ x.1 x.2) → RepAll K C F θ (M.map (·.1)) (M.map (·.2))
  | [], _ => .nil
  | x :: M, h => .cons (h x List.mem_cons_self) (rep_ofD fun z hz => h z (List.mem_cons_of_mem _ hz))
theorem toDs_mem : ∀ {xs : List PV} {ds : List PyData}, PV.toD.toDs xs = some ds → xs.map dOf = ds ∧ ∀ x ∈ xs, x.toD = some (dOf x)
  | [], ds, h => by cases h; exact ⟨rfl, fun x h => by cases h⟩
  | x :: xs, ds, h => by
    unfold PV.toD.toDs at h
    split at h
    · rename_i d es h1 h2
      cases h
      obtain ⟨i1, i2⟩ := toDs_mem h2
      have e : dOf x = d := by unfold dOf; rw [h1]; rfl
      refine ⟨by rw [List.map_cons, i1, e], fun y hy => ?_⟩
      rcases List.mem_cons.mp hy with rfl | hy
      · rw [e]; exact h1
      · exact i2 y hy
    · cases h
theorem okSD_uni {xs : List PV} {ds : List PyData} (h : PV.toD.toDs xs = some ds) (ok : okSD ds = true) (nb : nbL xs = true) : ∀ x ∈ xs, ∀ y ∈ xs, LeD x y → LeD y x → x = y := fun x hx y hy h1 h2 => by
  obtain ⟨e, t⟩ := toDs_mem h
  unfold okSD at ok
  simp only [Bool.and_eq_true, List.all_eq_true, decide_eq_true_eq] at ok
  have al := ok.1.1.2 (dOf x) (by rw [← e]; exact List.mem_map_of_mem hx) (dOf y) (by rw [← e]; exact List.mem_map_of_mem hy)
  have tk : tkD x = tkD y := (listOrd itemOrd).total _ _ h2 h1
  have nbm : ∀ {L : List PV}, nbL L = true → ∀ z ∈ L, z.nb = true := fun {L} hL => by
    induction L with
    | nil => exact fun z hz => by cases hz
    | cons a L ih =>
      have hL : (a.nb && nbL L) = true := hL
      rw [Bool.and_eq_true] at hL
      exact fun z hz => by
        rcases List.mem_cons.mp hz with rfl | hz
        · exact hL.1
        · exact ih hL.2 z hz
  exact (eqv_iff x y _ _ (nbm nb x hx) (nbm nb y hy) (t x hx) (t y hy)).mp (toks_same al tk)
/-- a new list that may change -/
theorem new_thing {K : PySem.W.Frag} {W1 : Wd} {S1 : List PV} {vs : List V} {xs : List PV} (i1 : Inv1 K C W1 S1) (r1 : RepAll K C W1.F W1.θ vs xs) {p : Addr} (np : W1.H p = none) {Q : VK} (q : ∀ W2 : Wd, Gro W1 W2 → Inv1 K C W2 (S1 ++ [.lst xs]) → RepW K C W2 (.ref p) (.mref S1.length) → W2.H = upd W1.H p (.lst vs) → Q (.ref p) W2.H) : Q (.ref p) (upd W1.H p (.lst vs)) := by
  have fn : W1.F p = none := i1.s.free np
  have hp : p ∉ W1.θ := fun m => by
    obtain ⟨k, hk⟩ := List.getElem?_of_mem m
    have hk' : k < S1.length := by rw [← i1.len]; exact (List.getElem?_eq_some_iff.mp hk).1
    obtain ⟨_, m⟩ := i1.m k p _ hk (List.getElem?_eq_getElem hk')
    obtain ⟨o, ho⟩ := m.laid
    rw [np] at ho
    cases ho
  have g2 : Gro W1 ⟨W1.F, upd W1.H p (.lst vs), W1.θ ++ [p]⟩ := by
    refine ⟨Same.refl _, ⟨[p], rfl, fun q hq => by simp at hq; rw [hq]; exact np⟩, fun q o' e _ => ?_, fun q o' e => ?_, fun q o' e z => z⟩
    · show upd W1.H p _ q = _
      rw [upd_ne (ne_of_none e np)]
      exact e
    · exact ⟨o', by show upd W1.H p _ q = _; rw [upd_ne (ne_of_none e np)]; exact e⟩
  have i2 : Inv1 K C ⟨W1.F, upd W1.H p (.lst vs), W1.θ ++ [p]⟩ (S1 ++ [.lst xs]) := by
    refine ⟨fun q o' e => ?_, by rw [List.length_append, List.length_append, i1.len]; rfl, ?_, fun k a x h1 h2 => ?_⟩
    · show upd W1.H p _ q = some o'
      rw [upd_ne (ne_of_none e fn)]
      exact i1.s _ _ e
    · exact List.nodup_append.mpr ⟨i1.nd, by simp, fun a ha b hb => by simp at hb; rw [hb]; exact fun z => hp (by rw [← z]; exact ha)⟩
    · by_cases hk : k < W1.θ.length
      · have h1' : W1.θ[k]? = some a := by
          have : (W1.θ ++ [p])[k]? = some a := h1
          rwa [List.getElem?_append_left hk] at this
        rw [List.getElem?_append_left (by rw [← i1.len]; exact hk)] at h2
        obtain ⟨z, m⟩ := i1.m k a x h1' h2
        refine ⟨z, ?_⟩
        cases x with
        | lst ys =>
          obtain ⟨us, e, r⟩ := m
          refine ⟨us, ?_, r.ext g2⟩
          show upd W1.H p _ a = _
          rw [upd_ne (ne_of_none e np)]
          exact e
        | _ => exact m.elim
      · have h1' : (W1.θ ++ [p])[k]? = some a := h1
        rw [List.getElem?_append_right (by omega)] at h1'
        have ek : k = W1.θ.length := by
          have := (List.getElem?_eq_some_iff.mp h1').1
          simp at this
          omega
        subst ek
        rw [Nat.sub_self] at h1'
        cases h1'
        rw [i1.len, List.getElem?_append_right (Nat.le_refl _), Nat.sub_self] at h2
        cases h2
        exact ⟨fn, vs, upd_same, r1.ext g2⟩
  refine q ⟨W1.F, upd W1.H p (.lst vs), W1.θ ++ [p]⟩ g2 i2 (.mref ?_) rfl
  show (W1.θ ++ [p])[S1.length]? = some p
  rw [← i1.len, List.getElem?_append_right (Nat.le_refl _), Nat.sub_self]
  rfl
theorem sort_core {K : PySem.W.Frag} {W : Wd} {S : List PV} {vs : List V} {zs : List PV} {z : PV} {Q : VK} (i : Inv1 K C W S) (r : RepAll K C W.F W.θ vs zs) (e : fSortD S zs = some z) (q : ∀ (us : List V) (ys : List PV) (p : Addr), z = .lst ys → W.H p = none → RepAll K C W.F W.θ us ys → Q (.ref p) (upd W.H p (.lst us))) : rSortedD K vs W.H Q := by
  unfold fSortD at e
  split at e
  · rename_i xs
    split at e
    · rename_i ds hd
      split at e
      · rename_i hc
        cases e
        rw [Bool.and_eq_true] at hc
        obtain ⟨ok, nb⟩ := hc
        have uni := okSD_uni hd ok nb
        obtain ⟨em, t⟩ := toDs_mem hd
        cases r with
        | cons r rr =>
          cases rr
          cases r with
          | lst h a =>
            obtain ⟨us, h, a⟩ : ∃ us, W.F _ = some (.lst us) ∧ RepAll K C W.F W.θ us xs := ⟨_, h, a⟩
            obtain ⟨k1, k2, k3⟩ := rep_zip a
            have k4 : ∀ x ∈ us.zip xs, x.2 ∈ xs := fun x hx => by
              rw [← k2]
              exact List.mem_map_of_mem hx
            have ok' := ok
            unfold okSD at ok'
            rw [Bool.and_eq_true] at ok'
            obtain ⟨ok', o4⟩ := ok'
            simp only [Bool.and_eq_true, List.all_eq_true, decide_eq_true_eq] at ok'
            obtain ⟨⟨o1, o2⟩, o3⟩ := ok'
            have dm : ∀ x ∈ us.zip xs, dOf x.2 ∈ ds := fun x hx => by
              rw [← em]
              exact List.mem_map_of_mem (k4 x hx)
            have hm : ∀ d ∈ (us.zip xs).map fun x => dOf x.2, d ∈ ds := fun d hd' => by
              obtain ⟨x, hx, rfl⟩ := List.mem_map.mp hd'
              exact dm x hx
            refine ⟨_, us.zip xs, rfl, by rw [k1]; exact i.s.seq (SqL.of h), fun x hx => ⟨dpm i.s ((k3 x hx).dp (t _ (k4 x hx))), o3 _ (dm x hx)⟩, ?_, fun M p h1 h2 np => ?_⟩
            · by_cases c1 : ds.length ≤ 1
              · refine .inl ?_
                have e1 := congrArg List.length k2
                have e2 := congrArg List.length em
                rw [List.length_map] at e1 e2
                omega
              · refine .inr ⟨fun d h1 e h2 => o2 d (hm d h1) e (hm e h2), .inl fun d h1 => ?_⟩
                have o5 : (ds.all fun d => match d with | .tuple (_ :: _) => true | _ => false) = true := by
                  rw [decide_eq_false c1, Bool.false_or] at o4
                  exact o4
                have := List.all_eq_true.mp o5 d (hm d h1)
                split at this
                · exact ⟨_, _, rfl⟩
                · cases this
            · have pm : (srtD xs).Perm (M.map (·.2)) := (srtD_perm xs).trans (by
                have := (h1.map (·.2)).symm
                rw [k2] at this
                exact this)
              have e : srtD xs = M.map (·.2) := leD_eq (fun a ha b hb => uni a ((srtD_perm xs).mem_iff.mp ha) b ((srtD_perm xs).mem_iff.mp hb)) (srtD_asc xs) h2 pm
              have ra : RepAll K C W.F W.θ (M.map (·.1)) (srtD xs) := by
                rw [e]
                exact rep_ofD fun x hx => k3 x (h1.mem_iff.mp hx)
              exact q _ _ p rfl np ra
      · cases e
    · cases e
  · cases e
theorem l_sortD {K : PySem.W.Frag} : LRn K C (rSortedD K) fSortD := fun W S vs xs z Q i r e q => sort_core i r e fun us ys p ez np ra => by
  subst ez
  obtain ⟨g3, i3⟩ := laid (.lst us) i np
  exact q _ _ g3 i3 (.lst upd_same (ra.ext g3))
/-- sorted(..), the list may change from now on -/
def mSortM (mes : MA) : ME := fun ρ S => match mes ρ S with
  | some (xs, S1) => match fSortD S1 xs with
    | some (.lst ys) => some (.mref S1.length, S1 ++ [.lst ys])
    | _ => none
  | none => none
theorem xsortM {X : Cx} {e : Expr} {mes : MA} (h : PE X e (tCB (rSortedD X.K) (tMA X.K C mes))) : PE X e (tM X.K C (mSortM mes)) := PE.weak h fun σ H Q ⟨W0, W, ρ, S, z, S', eH, R, em, q⟩ => by
  subst eH
  unfold mSortM at em
  split at em
  · rename_i zs S1 e1
    split at em
    · rename_i ys e2
      cases em
      refine ⟨W0, W, ρ, S, zs, S1, rfl, R, e1, fun v W1 R1 g1 r1 => sort_core R1.i r1 e2 fun us ys' p ez np ra => ?_⟩
      cases ez
      exact new_thing R1.i ra np fun W2 g2 i2 rw2 eH => q _ _ (R1.ext g2 i2) (g1.trans g2) rw2
    · cases em
  · cases em
end
end BL

namespace BL
open PySem PySem.Spec PyProof.Rows L2
open C8 (Cal Mak pe_c pe_mk)
def m_digits_inB : MS := (mSeq (mIf (mOrT (mTru (mOp fEq (mVar 0) (mC (.str "")))) (mNotT (mTru (mFn fAll (mCons (mLc (.nm 1) (mStrI (mVar 0)) mYes (mOp fInS (mVar 1) (mC (.str "0123456789"))) [1]) mNil))))) (mRet (mC .non)) mSkip)
  (mRet (mIfE (mOrT (mTru (mOp fEq (mVar 0) (mC (.str "0")))) (mTru (mOp fNe (mOp fIxS (mVar 0) (mC (.int 0))) (mC (.str "0"))))) (mFn fIntQ (mCons (mVar 0) mNil)) (mC .non))))
def m_digits_in : List PV → List PV → Option (PV × List PV) := mDef 1 2 m_digits_inB
def m_number_inB : MS := (mSeq (mIf (mNotT (mTru (mOp fStarts (mVar 0) (mC (.str "-"))))) (mRet (mCall m_digits_in (mCons (mVar 0) mNil))) mSkip)
  (mSeq (mAsg (.nm 1) (mCall m_digits_in (mCons (mSlS (mVar 0) (mP1 (mC (.int 1))) mP0) mNil)))
  (mRet (mIfE (mTruL (mVar 1)) (mUn fNeg (mVar 1)) (mC .non)))))
def m_number_in : List PV → List PV → Option (PV × List PV) := mDef 1 2 m_number_inB
def m_event_inF1 : MS := (mIf (mTru (mOp fStarts (mVar 0) (mVar 2))) (mSeq (mAsg (.nm 3) (mCall m_number_in (mCons (mSlS (mVar 0) (mP1 (mFn fLenS (mCons (mVar 2) mNil))) mP0) mNil)))
  (mRet (mIfE (mTru (mOp fIs (mVar 3) (mC .non))) (mC .non) (mTup (mCons (mVar 1) (mCons (mVar 3) mNil)))))) mSkip)
def m_event_inB : MS := (mSeq (mFor (.tp [1, 2]) (mItemsK [("floor", ">= "), ("cap", "<= ")]) m_event_inF1)
  (mSeq (mAsg (.nm 3) (mC .non))
  (mSeq (mIf (mTru (mOp fStarts (mVar 0) (mC (.str "+")))) (mAsg (.nm 3) (mCall m_digits_in (mCons (mSlS (mVar 0) (mP1 (mC (.int 1))) mP0) mNil))) (mIf (mTru (mOp fStarts (mVar 0) (mC (.str "-")))) (mAsg (.nm 3) (mCall m_number_in (mCons (mVar 0) mNil))) mSkip))
  (mRet (mIfE (mTru (mOp fIs (mVar 3) (mC .non))) (mC .non) (mTup (mCons (mC (.str "add")) (mCons (mVar 3) mNil))))))))
def m_event_in : List PV → List PV → Option (PV × List PV) := mDef 1 4 m_event_inB
def m_row_inF1 : MS := (mSeq (mAsg (.nm 4) (mCall m_event_in (mCons (mVar 3) mNil)))
  (mSeq (mIf (mTru (mOp fIs (mVar 4) (mC .non))) mDead mSkip)
  (mApp 1 (mVar 4))))
def m_row_inB : MS := (mSeq (mIf (mTru (mOp fEq (mVar 0) (mC (.str "-")))) (mRet (mTup mNil)) mSkip)
  (mSeq (mNewO 1 mNil)
  (mSeq (mFor (.tp [2, 3]) (mEnu (mOp fSplit (mVar 0) (mC (.str ", ")))) m_row_inF1)
  (mFrz 1 (mRet (mFn fTuple (mCons (mVar 1) mNil)))))))
def m_row_in : List PV → List PV → Option (PV × List PV) := mDef 1 5 m_row_inB
end BL

namespace BL
open PySem PySem.Spec PyProof.Rows L2
/-! errors of the program's own classes, by trees: a block that raises, a def that raises, a try that keeps what it caught -/
theorem laidH {K : PySem.W.Frag} {C : Addr} {W : Wd} {S : List PV} {p : Addr} (o : HO) (i : Inv1 K C W S) (n : W.H p = none) : Gro W ⟨W.F, upd W.H p o, W.θ⟩ ∧ Inv1 K C ⟨W.F, upd W.H p o, W.θ⟩ S := by
  have g : Gro W ⟨W.F, upd W.H p o, W.θ⟩ := by
    refine ⟨Same.refl _, ⟨[], (List.append_nil _).symm, fun _ h => by cases h⟩, fun q o' e _ => ?_, fun q o' e => ?_, fun q o' e z => z⟩
    · show upd W.H p o q = _
      rw [upd_ne (ne_of_none e n)]
      exact e
    · exact ⟨o', by show upd W.H p o q = _; rw [upd_ne (ne_of_none e n)]; exact e⟩
  refine ⟨g, ⟨fun q o' e => ?_, i.len, i.nd, fun k a x h1 h2 => ?_⟩⟩
  · show upd W.H p o q = _
    have := i.s q o' e
    rw [upd_ne (ne_of_none this n)]
    exact this
  · obtain ⟨z, m⟩ := i.m k a x h1 h2
    refine ⟨z, ?_⟩
    cases x with
    | lst xs =>
      obtain ⟨vs, e, r⟩ := m
      refine ⟨vs, ?_, r⟩
      show upd W.H p o a = _
      rw [upd_ne (ne_of_none e n)]
      exact e
    | _ => exact m.elim
theorem older {W W1 : Wd} {d : Addr} (g : Gro W W1) (h : W1.H d = none) : W.H d = none := by
  cases c : W.H d with
  | none => rfl
  | some o =>
    obtain ⟨o', e'⟩ := g.k d o c
    rw [h] at e'
    cases e'
abbrev MR := List SlV → List PV → Option (List PV × List PV)
/-- what is told of the class of an error: its fields fs, in the order in which __init__ takes and stores them -/
structure ErrC (K : PySem.W.Frag) (mg : Str → Option Value) (x : Str) (Ce fI : Addr) (fs : List Str) : Prop where
  oex : OexC K Ce
  gC : mg x = some (.ref Ce)
  iC : PySem.W.findIn K (.ref Ce) "__init__" = some (some (.ref fI))
  tI : PySem.W.typeIn K (.ref fI) = some (.type "function")
  no : ∀ f ∈ fs, PySem.W.findIn K (.ref Ce) f = some none
  te : PySem.W.exmOne K (.ref Ce) (.ref Ce) = some true
  xf : XfC K Ce
  xi : XiC K Ce
/-- __init__ of an error: the fields are stored -/
def spEI (K : PySem.W.Frag) (Ce : Addr) (fs : List Str) : Sp := fun vs H Q _ => ∃ (a : Addr) (ys : List V), vs = .ref a :: ys ∧ ys.length = fs.length ∧ OexC K Ce ∧ (∀ f ∈ fs, PySem.W.findIn K (.ref Ce) f = some none) ∧ H a = some (exo a Ce none) ∧
  ∀ (d : Addr) (H' : Hp), H d = none → H' a = some (exo a Ce (some d)) → H' d = some (exd d (fs.zip ys).reverse) → (∀ b, b ≠ a → b ≠ d → H' b = H b) → Q .non H'
section
variable (K : PySem.W.Frag) (C Ce : Addr) (fs : List Str)
/-- a def that raises: its mirror tells the fields -/
def spR (r : List PV → List PV → Option (List PV × List PV)) : Sp := fun vs H _ E => ∃ W S xs ys S', H = W.H ∧ Inv1 K C W S ∧ RepAll K C W.F W.θ vs xs ∧ r xs S = some (ys, S') ∧
  ∀ us d W', Gro W W' → Inv1 K C W' S' → RepAll K C W'.F W'.θ us ys → us.length = fs.length → W.H d = none → W'.H d = some (.xd (fs.zip us).reverse) → E (.ref Ce) (some d) W'.H
/-- a block that raises -/
def tMR (m : MR) (Wi : WX) : TS := fun _ σ H => ∃ W0 W ρ S ys S', H = W.H ∧ Rel K C W0 W σ ρ S ∧ m ρ S = some (ys, S') ∧
  ∀ us d W', Gro W W' → Rel K C W0 W' σ ρ S' → RepAll K C W'.F W'.θ us ys → us.length = fs.length → W.H d = none → W'.H d = some (.xd (fs.zip us).reverse) → Wi (.ref Ce) (some d) σ W'.H
/-- an expression that raises -/
def tER (m : MR) (Wi : WX) : TE := fun σ H _ => tMR K C Ce fs m Wi { nx := fun _ _ => True, rt := fun _ _ => True } σ H
end
section
variable {X : Cx} {C Ce : Addr} {fs : List Str} {m : MR} {Wi : WX}
/-- the block that is never run -/
theorem pss_dead {X : Cx} {st : List Stmt} : PSs X st (fun _ _ _ => False) := ⟨fun _ _ _ _ _ _ h => h.elim⟩
theorem rhead {st : Stmt} {rest : List Stmt} (h : PS X st (tMR X.K C Ce fs m Wi)) : PSs X (st :: rest) (tMR X.K C Ce fs m Wi) := PSs.weak (pss_cons h pss_dead) fun D σ H q => q
theorem rnone : PSs X [] (tMR X.K C Ce fs (fun _ _ => none) Wi) := PSs.weak pss_dead fun D σ H ⟨_, _, _, _, _, _, _, _, e, _⟩ => by cases e
def mRIf (mt : MT) (a b : MR) : MR := fun ρ S => match mt ρ S with
  | some (true, S1) => a ρ S1
  | some (false, S1) => b ρ S1
  | none => none
theorem rif {c : Expr} {a b : List Stmt} {pos : Pos} {mt : MT} {ma mb : MR} (hc : PT X c (tMT X.K C mt)) (ha : PSs X a (tMR X.K C Ce fs ma Wi)) (hb : PSs X b (tMR X.K C Ce fs mb Wi)) : PS X (.If c a b pos) (tMR X.K C Ce fs (mRIf mt ma mb) Wi) :=
  PS.weak (ps_if hc ha hb) fun D σ H ⟨W0, W, ρ, S, ys, S', eH, R, em, q⟩ => by
  subst eH
  unfold mRIf at em
  split at em
  · rename_i S1 e1
    exact ⟨W0, W, ρ, S, true, S1, rfl, R, e1, fun W1 R1 g1 => by refine iteT ?_; exact ⟨W0, W1, ρ, S1, ys, S', rfl, R1, em, fun us d W2 g2 r2 a2 l2 n2 => q us d W2 (g1.trans g2) r2 a2 l2 (older g1 n2)⟩⟩
  · rename_i S1 e1
    exact ⟨W0, W, ρ, S, false, S1, rfl, R, e1, fun W1 R1 g1 => by refine iteF ?_; exact ⟨W0, W1, ρ, S1, ys, S', rfl, R1, em, fun us d W2 g2 r2 a2 l2 n2 => q us d W2 (g1.trans g2) r2 a2 l2 (older g1 n2)⟩⟩
  · cases em
def mRCall (r : List PV → List PV → Option (List PV × List PV)) (ma : MA) : MR := fun ρ S => match ma ρ S with
  | some (xs, S1) => r xs S1
  | none => none
theorem rcall {r : List PV → List PV → Option (List PV × List PV)} {e : Expr} {mes : MA} (h : PE X e (tCallS (spR X.K C Ce fs r) (WE Wi) (tMA X.K C mes))) : PE X e (tER X.K C Ce fs (mRCall r mes) Wi) :=
  PE.weak h fun σ H Q ⟨W0, W, ρ, S, ys, S', eH, R, em, q⟩ => by
  subst eH
  unfold mRCall at em
  split at em
  · rename_i xs S1 e1
    exact ⟨W0, W, ρ, S, xs, S1, rfl, R, e1, fun vs W1 R1 g1 r1 => ⟨W1, S1, xs, ys, S', rfl, R1.i, r1, em, fun us d W2 g2 i2 r2 l n2 e => q us d W2 (g1.trans g2) (R1.ext g2 i2) r2 l (older g1 n2) e⟩⟩
  · cases em
theorem rif_e {c a b : Expr} {pos : Pos} {mt : MT} {ma mb : MR} (hc : PT X c (tMT X.K C mt)) (ha : PE X a (tER X.K C Ce fs ma Wi)) (hb : PE X b (tER X.K C Ce fs mb Wi)) : PE X (.IfExp c a b pos) (tER X.K C Ce fs (mRIf mt ma mb) Wi) :=
  PE.weak (pe_ifExp hc ha hb) fun σ H Q ⟨W0, W, ρ, S, ys, S', eH, R, em, q⟩ => by
  subst eH
  unfold mRIf at em
  split at em
  · rename_i S1 e1
    exact ⟨W0, W, ρ, S, true, S1, rfl, R, e1, fun W1 R1 g1 => by refine iteT ?_; exact ⟨W0, W1, ρ, S1, ys, S', rfl, R1, em, fun us d W2 g2 r2 a2 l2 n2 => q us d W2 (g1.trans g2) r2 a2 l2 (older g1 n2)⟩⟩
  · rename_i S1 e1
    exact ⟨W0, W, ρ, S, false, S1, rfl, R, e1, fun W1 R1 g1 => by refine iteF ?_; exact ⟨W0, W1, ρ, S1, ys, S', rfl, R1, em, fun us d W2 g2 r2 a2 l2 n2 => q us d W2 (g1.trans g2) r2 a2 l2 (older g1 n2)⟩⟩
  · cases em
theorem rexpr {e : Expr} {pos : Pos} (h : PE X e (tER X.K C Ce fs m Wi)) (hs : swapsWith e none pos.line X.env = pure false := by rfl) : PS X (.Expr e pos) (tMR X.K C Ce fs m Wi) := PS.weak (ps_expr h hs) fun D σ H q => q
theorem rret {e : Expr} {pos : Pos} (h : PE X e (tER X.K C Ce fs m Wi)) : PS X (.Return (some e) pos) (tMR X.K C Ce fs m Wi) := PS.weak (ps_ret h) fun D σ H q => q
/-- raise x(e, ..) -/
def mRz (n : Nat) (ma : MA) : MR := fun ρ S => match ma ρ S with
  | some (ys, S1) => if ys.length = n then some (ys, S1) else none
  | none => none
theorem rraise {x : Str} {fI : Addr} {fd : FuncData} {ps : List Str} {k : Nat} {es : List Expr} {e : Expr} {mes : MA} {p pos pos2 : Pos} (T : ErrC X.K X.mg x Ce fI fs) (F1 : FnOk X.prog X.w X.K X.mg X.base CX0 k fI fd ps (spEI X.K Ce fs)) (hr : Room (k + 1) X.A) (hb : Binds X.K fd ps [])
    (hc : X.calm = true) (tk : Takes X Wi) (ha : PA X (e :: es) (tMA X.K C mes)) (hg : Gl X x) (hn : fs.length ≤ 1000 := by decide) (hdb : (x == ("__debug__" : Str)) = false := by decide) (he : starEach (e :: es) X.env = (false, eval e X.env) :: starEach es X.env := by rfl) (hpl : (backTo pos (starEach es X.env)).any (·.1) = false := by rfl) :
    PS X (.Raise (some (.Call (.Name x p) (e :: es) [] pos)) none pos2) (tMR X.K C Ce fs (mRz fs.length mes) Wi) :=
  PS.weak (ps_raise hc tk (pmk_oex T.oex T.iC T.tI F1 hr hb .nil pass0 hg T.gC ha hdb he hpl)) fun D σ H ⟨W0, W, ρ, S, ys, S', eH, R, em, q⟩ => by
  subst eH
  unfold mRz at em
  split at em
  · rename_i zs S1 e1
    split at em
    · rename_i hl
      cases em
      refine ⟨W0, W, ρ, S, ys, S', rfl, R, e1, fun vs W1 R1 g1 r1 => ?_⟩
      have lv : vs.length = fs.length := by rw [r1.len, hl]
      refine ⟨?_, fun a na => ⟨a, vs, by rw [List.append_nil], lv, T.oex, T.no, upd_same, fun d H' hd h1 h2 h3 => ?_⟩⟩
      · rw [lv]
        exact hn
      · have nd : d ≠ a := fun z => by
          rw [z, upd_same] at hd
          cases hd
        rw [upd_ne nd] at hd
        refine ⟨rfl, d, _, h1, h2, hd, ?_⟩
        have eq : upd (L2.del H' a) d (.xd (fs.zip vs).reverse) = upd W1.H d (.xd (fs.zip vs).reverse) := by
          funext b
          by_cases c1 : b = d
          · rw [c1, upd_same, upd_same]
          · rw [upd_ne c1, upd_ne c1]
            by_cases c2 : b = a
            · rw [c2, L2.del_same, na]
            · rw [L2.del_ne c2, h3 b c2 c1, upd_ne c2]
        rw [eq]
        obtain ⟨g2, i2⟩ := laidH (.xd (fs.zip vs).reverse) R1.i hd
        exact q vs d _ (g1.trans g2) (R1.ext g2 i2) (r1.ext g2) lv (older g1 hd) upd_same
    · cases em
  · cases em

/-- what a raising expression is part of: what is reckoned first raises -/
theorem rcmp {a b : Expr} {op : CmpOp} {pos : Pos} {r : R2} {tb : TE} (h : PE X (.Compare a [op] [b] pos) (tOp r (tER X.K C Ce fs m Wi) tb)) : PE X (.Compare a [op] [b] pos) (tER X.K C Ce fs m Wi) := PE.weak h fun σ H Q q => q
/-- as the one argument of a built-in -/
theorem rarg {e : Expr} {r : List V → Hp → VK → Prop} (h : PE X e (tCB r (tCons (tER X.K C Ce fs m Wi) tNil))) : PE X e (tER X.K C Ce fs m Wi) := PE.weak h fun σ H Q q => q
end
def mDefR (np nN : Nat) (m : MR) : List PV → List PV → Option (List PV × List PV) := fun xs S => if xs.length = np then m (xs.map .val ++ List.replicate (nN - np) .un) S else none
theorem rel_start {K : PySem.W.Frag} {C : Addr} {W : Wd} {S xs : List PV} {vs : List V} {N ps : List Str} (i : Inv1 K C W S) (r : RepAll K C W.F W.θ vs xs) (hl : xs.length = ps.length) : Rel K C W W (L2.start N vs) (xs.map .val ++ List.replicate (N.length - ps.length) .un) S := by
  have R : ∀ j sl, (xs.map SlV.val ++ List.replicate (N.length - ps.length) SlV.un)[j]? = some sl → (∃ x, sl = .val x ∧ j < xs.length ∧ xs[j]? = some x) ∨ sl = .un := fun j sl hj => by
    by_cases c : j < xs.length
    · rw [List.getElem?_append_left (by rw [List.length_map]; exact c), List.getElem?_map, List.getElem?_eq_getElem c] at hj
      cases hj
      exact .inl ⟨_, rfl, c, List.getElem?_eq_getElem c⟩
    · rw [List.getElem?_append_right (by rw [List.length_map]; omega), List.getElem?_replicate] at hj
      split at hj
      · cases hj
        exact .inr rfl
      · cases hj
  refine ⟨Gro.refl _, i, ?_, fun j sl hj => ?_, fun j k y z a h1 _ _ _ => ?_⟩
  · unfold L2.start
    rw [List.length_append, List.length_append, List.length_map, List.length_map, List.length_replicate, List.length_replicate, r.len, hl]
  · rcases R j sl hj with ⟨x, rfl, c, ex⟩ | rfl
    · obtain ⟨v, ev, rv⟩ := r.at ex
      refine ⟨v, ?_, rv⟩
      unfold L2.start
      rw [List.getElem?_append_left (by rw [List.length_map, r.len]; exact c), List.getElem?_map, ev]
      rfl
    · trivial
  · rcases R j _ h1 with ⟨x, e, _⟩ | e <;> cases e
theorem okR {P : Program} {w : World} {K : PySem.W.Frag} {mg : Str → Option Value} {base : Heap} {C Ce : Addr} {fs : List Str} {x qual : Str} {st : Stmt} {f : Addr} {fd : FuncData} {N ps : List Str} {k : Nat} {m : MR} (F : Fun K x qual st f fd) (Sc : FnScope N ps (defScope st))
    (hb : ∀ (cdv : Value) (A : Around) (outer : List Env) (s : Shared) (H : Hp) (E : XK), Room k (A.deeper (envOfC qual (defScope st) s.heap.objs.size f cdv)) → PSs (cxOf (L2.CX P w) P w K mg base N qual (defScope st) f cdv A outer s H E) (defBody st) (tMR K C Ce fs m (fun cls d _ H => E cls d H))) :
    FnOk P w K mg base (L2.CX P w) (k + 1) f fd ps (spR K C Ce fs (mDefR ps.length N.length m)) := by
  refine F.okX Sc (fun vs H Q E h => ?_) (fun cdv A outer s H vs Q E hr h => ?_)
  · obtain ⟨W, S, xs, ys, S', eH, i, r, em, q⟩ := h
    unfold mDefR at em
    split at em
    · rename_i hl
      rw [r.len, hl]
    · cases em
  · refine ⟨_, hb cdv A outer s H E hr, ?_⟩
    obtain ⟨W, S, xs, ys, S', eH, i, r, em, q⟩ := h
    subst eH
    unfold mDefR at em
    split at em
    · rename_i hl
      exact ⟨W, W, _, S, ys, S', rfl, rel_start i r hl, em, fun us d W' g R' ru l n e => q us d W' R'.e R'.i ru l n e⟩
    · cases em
end BL

namespace BL
open PySem PySem.Spec PyProof.Rows L2
/-- a def by its name, that raises -/
structure CalR (P : Program) (w : World) (K : PySem.W.Frag) (mg : Str → Option Value) (base : Heap) (k : Nat) (x : Str) (sp : Sp) : Prop where
  ex : ∃ (f : Addr) (fd : FuncData) (ps : List Str), FnOk P w K mg base (L2.CX P w) k f fd ps sp ∧ mg x = some (.ref f) ∧ PySem.W.keepIn K (.ref f) = true ∧ Binds K fd ps []
theorem pe_cR {X : Cx} {k j : Nat} {x : Str} {sp : Sp} {Wi : WX} {e : Expr} {es : List Expr} {t : TA} {p pos : Pos} (c : CalR X.prog X.w X.K X.mg X.base k x sp) (hr : Room j X.A) (hk : k ≤ j) (hg : Gl X x) (tk : Takes X Wi) (ha : PA X (e :: es) t)
    (hdb : (x == ("__debug__" : Str)) = false := by decide) (he : starEach (e :: es) X.env = (false, eval e X.env) :: starEach es X.env := by rfl) (hpl : (backTo pos (starEach es X.env)).any (·.1) = false := by rfl) :
    PE X (.Call (.Name x p) (e :: es) [] pos) (tCallS sp (WE Wi) t) := by
  obtain ⟨f, fd, ps, F, hm, kp, b⟩ := c.ex
  exact pe_callS F (hr.mono hk) hg hm kp b (fun σ => passAt tk σ) ha hdb he hpl
/-- a class of errors, with its __init__ -/
structure MakE (P : Program) (w : World) (K : PySem.W.Frag) (mg : Str → Option Value) (base : Heap) (x : Str) (Ce : Addr) (fs : List Str) : Prop where
  ex : ∃ (fI : Addr) (fd : FuncData) (ps : List Str), ErrC K mg x Ce fI fs ∧ FnOk P w K mg base CX0 1 fI fd ps (spEI K Ce fs) ∧ Binds K fd ps []
theorem xrai {X : Cx} {C Ce : Addr} {fs : List Str} {Wi : WX} {x : Str} {j : Nat} {es : List Expr} {e : Expr} {mes : MA} {p pos pos2 : Pos} (T : MakE X.prog X.w X.K X.mg X.base x Ce fs) (hr : Room j X.A) (hj : 2 ≤ j)
    (hc : X.calm = true) (tk : Takes X Wi) (ha : PA X (e :: es) (tMA X.K C mes)) (hg : Gl X x) (hn : fs.length ≤ 1000 := by decide) (hdb : (x == ("__debug__" : Str)) = false := by decide) (he : starEach (e :: es) X.env = (false, eval e X.env) :: starEach es X.env := by rfl) (hpl : (backTo pos (starEach es X.env)).any (·.1) = false := by rfl) :
    PS X (.Raise (some (.Call (.Name x p) (e :: es) [] pos)) none pos2) (tMR X.K C Ce fs (mRz fs.length mes) Wi) := by
  obtain ⟨fI, fd, ps, T, F, b⟩ := T.ex
  exact rraise T F (hr.mono hj) b hc tk ha hg hn hdb he hpl
theorem pure_ei1 {K : PySem.W.Frag} {Ce : Addr} {f : Str} {D : Ends} {N : List Str} {vs : List V} {H : Hp} {Q : VK} {E : XK} (h : spEI K Ce [f] vs H Q E) (hD : D.nx = fun _ H' => Q .non H') : tOst K f (tVar 0) (tVar 1) D (start N vs) H := by
  obtain ⟨a, ys, rfl, l, T, no, ea, q⟩ := h
  match ys, l with
  | [y], _ =>
    refine ⟨y, rfl, .ref a, rfl, a, Ce, rfl, T, no f (List.mem_cons_self ..), .inl ⟨ea, fun dx n ne => ?_⟩⟩
    rw [hD]
    refine q dx _ n upd_same (by rw [upd_ne ne, upd_same]; rfl) fun b b1 b2 => ?_
    rw [upd_ne b1, upd_ne b2]
theorem pure_ei2 {K : PySem.W.Frag} {Ce : Addr} {f g : Str} {D : Ends} {N : List Str} {vs : List V} {H : Hp} {Q : VK} {E : XK} (h : spEI K Ce [f, g] vs H Q E) (hD : D.nx = fun _ H' => Q .non H') : tSeq (tOst K f (tVar 0) (tVar 1)) (tOst K g (tVar 0) (tVar 2)) D (start N vs) H := by
  obtain ⟨a, ys, rfl, l, T, no, ea, q⟩ := h
  match ys, l with
  | [y, z], _ =>
    refine ⟨y, rfl, .ref a, rfl, a, Ce, rfl, T, no f (by simp), .inl ⟨ea, fun dx n ne => ?_⟩⟩
    refine ⟨z, rfl, .ref a, rfl, a, Ce, rfl, T, no g (by simp), .inr ⟨dx, [(f, y)], upd_same, by rw [upd_ne ne, upd_same], (show 1 ≤ 900 by decide), ?_⟩⟩
    rw [hD]
    refine q dx _ n (by rw [upd_ne (Ne.symm ne), upd_same]) (by rw [upd_same]; rfl) fun b b1 b2 => ?_
    rw [upd_ne b2, upd_ne b1, upd_ne b2]
/-- what never changes any more, from now on -/
theorem frzH {K : PySem.W.Frag} {C : Addr} {W0 W : Wd} {σ : L2.St} {ρ : List SlV} {S : List PV} (R : Rel K C W0 W σ ρ S) {p : Addr} {o : HO} (h : W.H p = some o) (nl : ∀ vs, o ≠ .lst vs) (n0 : W0.H p = none) :
    GroF W ⟨upd W.F p o, W.H, W.θ⟩ ∧ Rel K C W0 ⟨upd W.F p o, W.H, W.θ⟩ σ ρ S := by
  have sF : Same W.F (upd W.F p o) := fun b x e => by
    by_cases c : b = p
    · subst c
      rw [upd_same, ← R.i.s _ _ e, h]
    · rw [upd_ne c]; exact e
  have m : ∀ {v : V} {x : PV}, RepW K C W v x → Rep K C (upd W.F p o) W.θ v x := fun r => by
    have := r.mono (r := []) sF
    rwa [List.append_nil] at this
  have ma : ∀ {v : List V} {x : List PV}, RepAll K C W.F W.θ v x → RepAll K C (upd W.F p o) W.θ v x := fun r => by
    have := r.mono (r := []) sF
    rwa [List.append_nil] at this
  have mm : ∀ {b : Addr} {x : PV}, Mut K C W b x → b ≠ p ∧ Mut K C ⟨upd W.F p o, W.H, W.θ⟩ b x := fun {b x} r => by
    cases x with
    | lst ys =>
      obtain ⟨us, e, r⟩ := r
      refine ⟨fun z => ?_, us, e, ma r⟩
      subst z
      rw [h] at e
      exact nl us (Option.some.inj e)
    | _ => exact r.elim
  refine ⟨⟨sF, [], (List.append_nil _).symm⟩, ⟨R.e.f.trans sF, R.e.t, R.e.h, R.e.k, fun q o' e z => ?_⟩, ⟨fun b x e => ?_, R.i.len, R.i.nd, fun n b x e1 e2 => ?_⟩, R.l, fun j sl hj => ?_, R.d⟩
  · show upd W.F p o q = none
    rw [upd_ne (ne_of_none e n0)]
    exact R.e.n q o' e z
  · change upd W.F p o b = some x at e
    show W.H b = some x
    by_cases c : b = p
    · subst c
      rw [upd_same] at e
      rw [← e]
      exact h
    · rw [upd_ne c] at e
      exact R.i.s _ _ e
  · obtain ⟨z, r⟩ := R.i.m n b x e1 e2
    obtain ⟨ne, r'⟩ := mm r
    refine ⟨?_, r'⟩
    show upd W.F p o b = none
    rw [upd_ne ne]
    exact z
  · have sl' := R.s j sl hj
    cases sl with
    | un => trivial
    | val y => obtain ⟨u, e, r⟩ := sl'; exact ⟨u, e, m r⟩
    | own y =>
      obtain ⟨b, eb, p1, p2, p3, p4⟩ := sl'
      obtain ⟨ne, r'⟩ := mm p4
      refine ⟨b, eb, p1, ?_, p3, r'⟩
      show upd W.F p o b = none
      rw [upd_ne ne]
      exact p2
/-- try: a block that raises; except x as n: y = n -/
def mTryK (x : Str) (fs : List Str) (i j : Nat) (m : MR) : MS := fun ρ S => match m ρ S with
  | some (ys, S1) => if i < ρ.length ∧ j < ρ.length then some (.nx ((ρ.set j (.val (.dic (excK x fs ys)))).set i .un) S1) else none
  | none => none
theorem xtry {X : Cx} {C Ce fI : Addr} {fs : List Str} {m : MR} {x n y : Str} {i j : Nat} {bd : List Stmt} {q1 q2 q3 q4 q5 pos : Pos} (T : ErrC X.K X.mg x Ce fI fs) (en : ErrN X.K x Ce) (ij : i ≠ j)
    (st : X.stack = X.env :: X.outer) (fr : X.env.frame = some X.env.locals) (nd : X.N.Nodup) (at_ : X.N[i]? = some n) (lo : X.env.kindOf n = some .local) (gl : Gl X x) (dbg : (x == ("__debug__" : Str)) = false)
    (body : ∀ (W : WX) (pn : List (Addr × Obj)) (E' : Value → Shared → Prop), Takes (X.tr pn E') W → PassesOwn (model X.prog X.w) X.A X.env E' → PSs (X.tr pn E') bd (tMR X.K C Ce fs m W))
    (asg : ∀ (a : Addr) (ob : Obj) (pn : List (Addr × Obj)), PS (X.suite a ((a, ob) :: pn)) (.Assign [.Name y q3] (.Name n q4) q5) (tAsg (tVar i) (gName j))) :
    PS X (.Try bd [.ExceptHandler (some (.Name x q1)) (some n) [.Assign [.Name y q3] (.Name n q4) q5] q2] [] [] pos) (tMS X.K C (mTryK x fs i j m)) :=
  PS.weak (ps_try_keep (c := .ref Ce) (tb := fun W => tMR X.K C Ce fs m W) (ts := fun _ => tAsg (tVar i) (gName j)) st fr nd at_ lo ⟨gl, dbg, .inl T.gC⟩ body (fun a ob pn => pss_one (asg a ob pn))) fun D σ H ⟨W0, W, ρ, S, out, eH, R, em, q⟩ => by
  subst eH
  unfold mTryK at em
  split at em
  · rename_i ys S' e1
    split at em
    · rename_i hl
      cases em
      obtain ⟨hi, hj⟩ := hl
      refine ⟨W0, W, ρ, S, ys, S', rfl, R, e1, fun us d W1 g1 R1 r1 lu nd' ed => ⟨Ce, d, rfl, rfl, T.te, fun a na => ?_⟩⟩
      have li : i < σ.length := by rw [R.l]; exact hi
      have lj : j < σ.length := by rw [R.l]; exact hj
      refine ⟨.ref a, by rw [List.getElem?_set_self li], ?_⟩
      show W1.H a = none → D.nx _ _
      intro na
      obtain ⟨g2, i2⟩ := laidH (ExK Ce d a) R1.i na
      have R2 : Rel X.K C W0 ⟨W1.F, upd W1.H a (ExK Ce d a), W1.θ⟩ (((σ.set i (some (.ref a))).set j (some (.ref a))).set i none) ((ρ.set j .un).set i .un) S' := by
        have A := (((R1.ext g2 i2).setu i (some (.ref a))).setu j (some (.ref a))).setu i none
        have e : ((ρ.set i .un).set j .un).set i SlV.un = (ρ.set j .un).set i .un := by
          apply List.ext_getElem?
          intro k
          simp only [List.getElem?_set, List.length_set]
          by_cases c1 : i = k <;> by_cases c2 : j = k <;> simp [c1, c2]
        rw [e] at A
        exact A
      have dn : d ≠ a := ne_of_none ed na
      have h1 : (⟨W1.F, upd W1.H a (ExK Ce d a), W1.θ⟩ : Wd).H d = some (.xd (fs.zip us).reverse) := by
        show upd _ _ _ d = _
        rw [upd_ne dn]
        exact ed
      have w0a : W0.H a = none := older R1.e na
      have w0d : W0.H d = none := older R.e nd'
      obtain ⟨g3, R3⟩ := frzH R2 h1 (fun vs z => by cases z) w0d
      obtain ⟨g4, R4⟩ := frzH R3 (p := a) (o := ExK Ce d a) (by show upd _ _ _ a = _; exact upd_same) (fun vs z => by cases z) w0a
      have rr : RepAll X.K C (upd (upd W1.F d (.xd (fs.zip us).reverse)) a (ExK Ce d a)) W1.θ us ys := by
        have s1 : Same W1.F (upd (upd W1.F d (.xd (fs.zip us).reverse)) a (ExK Ce d a)) := g3.f.trans g4.f
        have := r1.mono (r := []) s1
        rwa [List.append_nil] at this
      have rx : RepW X.K C ⟨upd (upd W1.F d (.xd (fs.zip us).reverse)) a (ExK Ce d a), upd W1.H a (ExK Ce d a), W1.θ⟩ (.ref a) (.dic (excK x fs ys)) :=
        .exc rfl en upd_same (by show upd _ _ _ d = _; rw [upd_ne dn, upd_same]) lu rr
      have R5 := R4.setv j rx (by rw [List.length_set, List.length_set]; exact hj)
      have e5 : ((((σ.set i (some (.ref a))).set j (some (.ref a))).set i none).set j (some (.ref a))) = (((σ.set i (some (.ref a))).set j (some (.ref a))).set i none) := by
        apply List.ext_getElem?
        intro k
        simp only [List.getElem?_set, List.length_set]
        by_cases c1 : i = k <;> by_cases c2 : j = k <;> simp [c1, c2]
        all_goals first | omega | (intro h; omega) | (intro h; subst c2; simp [h])
      have e6 : ((ρ.set j .un).set i .un).set j (.val (.dic (excK x fs ys))) = (ρ.set j (.val (.dic (excK x fs ys)))).set i .un := by
        apply List.ext_getElem?
        intro k
        simp only [List.getElem?_set, List.length_set]
        by_cases c1 : i = k <;> by_cases c2 : j = k <;> simp [c1, c2]
        omega
      rw [e5, e6] at R5
      exact q _ _ ((g1.trans g2).groF.trans (g3.trans g4)) R5
    · cases em
  · cases em
end BL

namespace BL
open PySem PySem.Spec PyProof.Rows L2
/-! what a caught error tells -/
inductive PairR (K : PySem.W.Frag) (C : Addr) (F : Hp) (θ : List Addr) : List (Str × V) → List (Str × PV) → Prop
  | nil : PairR K C F θ [] []
  | cons {f : Str} {v : V} {y : PV} {vs : List (Str × V)} {ys : List (Str × PV)} : Rep K C F θ v y → PairR K C F θ vs ys → PairR K C F θ ((f, v) :: vs) ((f, y) :: ys)
section
variable {K : PySem.W.Frag} {C : Addr} {F : Hp} {θ : List Addr}
theorem PairR.zip : ∀ {fs : List Str} {us : List V} {ys : List PV}, us.length = fs.length → RepAll K C F θ us ys → PairR K C F θ (fs.zip us) (fs.zip ys)
  | [], _, _, _, r => by simp; exact .nil
  | f :: fs, [], _, l, _ => by cases l
  | f :: fs, u :: us, _, l, .cons r a => .cons r (PairR.zip (by simpa using l) a)
theorem PairR.app : ∀ {vs us : List (Str × V)} {ys zs : List (Str × PV)}, PairR K C F θ vs ys → PairR K C F θ us zs → PairR K C F θ (vs ++ us) (ys ++ zs)
  | _, _, _, _, .nil, b => b
  | _, _, _, _, .cons r a, b => .cons r (a.app b)
theorem PairR.rev : ∀ {vs : List (Str × V)} {ys : List (Str × PV)}, PairR K C F θ vs ys → PairR K C F θ vs.reverse ys.reverse
  | _, _, .nil => .nil
  | _, _, .cons r a => by
    rw [List.reverse_cons, List.reverse_cons]
    exact a.rev.app (.cons r .nil)
theorem PairR.look {f : Str} {y : PV} : ∀ {vs : List (Str × V)} {ys : List (Str × PV)}, PairR K C F θ vs ys → ys.lookup f = some y → ∃ v, vs.lookup f = some v ∧ Rep K C F θ v y
  | _, _, .nil, e => by cases e
  | _, _, .cons (f := g) r a, e => by
    rw [List.lookup_cons] at e ⊢
    cases c : f == g with
    | true =>
      rw [c] at e
      cases e
      exact ⟨_, rfl, r⟩
    | false =>
      rw [c] at e
      exact a.look e
end
def unzK : List (PV × PV) → List (Str × PV)
  | [] => []
  | (.str f, y) :: r => (f, y) :: unzK r
  | _ :: r => unzK r
theorem unzK_zip : ∀ (fs : List Str) (ys : List PV), unzK (fs.zipWith (fun f y => (PV.str f, y)) ys) = fs.zip ys
  | [], _ => by simp [unzK]
  | f :: fs, [] => by simp [unzK]
  | f :: fs, y :: ys => by simp [unzK, unzK_zip fs ys]
theorem errN_eq {K : PySem.W.Frag} {x : Str} {C D : Addr} (h : ErrN K x C) (h' : ErrN K x D) : C = D := by
  unfold ErrN at h h'
  rw [h] at h'
  cases Option.some.inj (Option.some.inj h')
  rfl
section
variable {X : Cx} {C Ce : Addr} {ma : ME} {e : Expr} {x f : Str} {pos : Pos}
def mXa (x f : Str) (ma : ME) : ME := fun ρ S => match ma ρ S with
  | some (.dic ((.str y, .non) :: r), S1) => if y = x then (match (unzK r).reverse.lookup f with | some v => some (v, S1) | none => none) else none
  | _ => none
theorem xxa (en : ErrN X.K x Ce) (T : XfC X.K Ce) (no : PySem.W.findIn X.K (.ref Ce) f = some none) (he : PE X e (tM X.K C ma)) (hb : attributeBase e f X.env (eval e X.env) = eval e X.env := by rfl) : PE X (.Attribute e f pos) (tM X.K C (mXa x f ma)) :=
  PE.weak (pe_xk T no he hb) fun σ H Q ⟨W0, W, ρ, S, z, S', eH, R, em, q⟩ => by
  subst eH
  unfold mXa at em
  split at em
  · rename_i y r S1 e1
    split at em
    · rename_i hx
      subst hx
      split at em
      · rename_i v lk
        cases em
        refine ⟨W0, W, ρ, S, _, S', rfl, R, e1, fun u W1 R1 g1 r1 => ?_⟩
        cases r1 with
        | exc ek en' h1 h2 l a =>
          have ek' := ek
          unfold excK at ek'
          injection ek' with k1 k2
          injection k1 with k3 _
          injection k3 with k3
          subst k3
          subst k2
          cases errN_eq en en'
          rw [unzK_zip] at lk
          obtain ⟨w, lw, rw'⟩ := ((PairR.zip l a).rev).look lk
          exact ⟨_, _, _, w, rfl, R1.i.s _ _ h1, R1.i.s _ _ h2, lw, q w W1 R1 g1 rw'⟩
      · cases em
    · cases em
  · cases em
def mXi (x : Str) (b : Bool) (ma : ME) : ME := fun ρ S => match ma ρ S with
  | some (.dic ((.str y, .non) :: _), S1) => if y = x then some (.bl b, S1) else none
  | _ => none
theorem xxi {D : V} {u : Value} {b : Bool} (en : ErrN X.K x Ce) (T : XiC X.K Ce) (cl : ClsV D u) (ki : PySem.W.kitOne X.K (.ref Ce) u = some b) (he : PE X e (tCB (rIsK X.K) (tCons (tM X.K C ma) (tCons (tC D) tNil)))) : PE X e (tM X.K C (mXi x b ma)) :=
  PE.weak he fun σ H Q ⟨W0, W, ρ, S, z, S', eH, R, em, q⟩ => by
  subst eH
  unfold mXi at em
  split at em
  · rename_i y r S1 e1
    split at em
    · rename_i hx
      subst hx
      cases em
      refine ⟨W0, W, ρ, S, _, S', rfl, R, e1, fun v W1 R1 g1 r1 => ?_⟩
      cases r1 with
      | exc ek en' h1 h2 l a =>
        have ek' := ek
        unfold excK at ek'
        injection ek' with k1 k2
        injection k1 with k3 _
        injection k3 with k3
        subst k3
        cases errN_eq en en'
        exact ⟨_, _, _, D, u, b, rfl, cl, R1.i.s _ _ h1, ⟨_, R1.i.s _ _ h2⟩, T, ki, q _ W1 R1 g1 (.bl b)⟩
    · cases em
  · cases em
end
/-- x = e, e raises -/
theorem rasg {X : Cx} {C Ce : Addr} {fs : List Str} {m : MR} {Wi : WX} {st : Stmt} {g : TG} (h : PS X st (tAsg (tER X.K C Ce fs m Wi) g)) : PS X st (tMR X.K C Ce fs m Wi) := PS.weak h fun D σ H q => q
/-- a block that raises, behind statements that do not -/
def mRSeq (ms : MS) (mr : MR) : MR := fun ρ S => match ms ρ S with
  | some (.nx ρ1 S1) => mr ρ1 S1
  | _ => none
@[simp] theorem e_xa {ma : ME} {ρ : List SlV} {S : List PV} (x f : Str) : mXa x f ma ρ S = match ma ρ S with
  | some (.dic ((.str y, .non) :: r), S1) => if y = x then (match (unzK r).reverse.lookup f with | some v => some (v, S1) | none => none) else none
  | _ => none := rfl
@[simp] theorem e_xi {ma : ME} {ρ : List SlV} {S : List PV} (x : Str) (b : Bool) : mXi x b ma ρ S = match ma ρ S with
  | some (.dic ((.str y, .non) :: _), S1) => if y = x then some (.bl b, S1) else none
  | _ => none := rfl
end BL

namespace BL
open PySem PySem.Spec PyProof.Rows L2
/-- try: a block that raises or not; except x as n: y = n -/
def mTryO (x : Str) (fs : List Str) (i j : Nat) (m : MR) (ms : MS) : MS := fun ρ S => match m ρ S with
  | some (ys, S1) => mTryK x fs i j (fun _ _ => some (ys, S1)) ρ S
  | none => ms ρ S
theorem mTryO_r {x : Str} {fs : List Str} {i j : Nat} {m : MR} {ms : MS} {ρ : List SlV} {S : List PV} {r : List PV × List PV} (h : m ρ S = some r) : mTryO x fs i j m ms ρ S = mTryK x fs i j m ρ S := by
  unfold mTryO mTryK
  rw [h]
theorem mTryO_n {x : Str} {fs : List Str} {i j : Nat} {m : MR} {ms : MS} {ρ : List SlV} {S : List PV} (h : m ρ S = none) : mTryO x fs i j m ms ρ S = ms ρ S := by
  unfold mTryO
  rw [h]
theorem pss_or {X : Cx} {bd : List Stmt} {t u : TS} (h1 : PSs X bd t) (h2 : PSs X bd u) : PSs X bd (fun D σ H => t D σ H ∨ u D σ H) := ⟨fun pins s σ H D I w => w.elim (fun a => h1.run pins s σ H D I a) (fun b => h2.run pins s σ H D I b)⟩
theorem keepR {X : Cx} {C Ce fI : Addr} {fs : List Str} {m : MR} {x : Str} {i j : Nat} (T : ErrC X.K X.mg x Ce fI fs) (en : ErrN X.K x Ce) (ij : i ≠ j) : ∀ (D : Ends) (σ : L2.St) (H : Hp), tMS X.K C (mTryK x fs i j m) D σ H → tMR X.K C Ce fs m (wKeep X.K (.ref Ce) i (fun _ => tAsg (tVar i) (gName j)) D) D σ H :=
  fun D σ H ⟨W0, W, ρ, S, out, eH, R, em, q⟩ => by
  subst eH
  unfold mTryK at em
  split at em
  · rename_i ys S' e1
    split at em
    · rename_i hl
      cases em
      obtain ⟨hi, hj⟩ := hl
      refine ⟨W0, W, ρ, S, ys, S', rfl, R, e1, fun us d W1 g1 R1 r1 lu nd' ed => ⟨Ce, d, rfl, rfl, T.te, fun a na => ?_⟩⟩
      have li : i < σ.length := by rw [R.l]; exact hi
      have lj : j < σ.length := by rw [R.l]; exact hj
      refine ⟨.ref a, by rw [List.getElem?_set_self li], ?_⟩
      show W1.H a = none → D.nx _ _
      intro na
      obtain ⟨g2, i2⟩ := laidH (ExK Ce d a) R1.i na
      have R2 : Rel X.K C W0 ⟨W1.F, upd W1.H a (ExK Ce d a), W1.θ⟩ (((σ.set i (some (.ref a))).set j (some (.ref a))).set i none) ((ρ.set j .un).set i .un) S' := by
        have A := (((R1.ext g2 i2).setu i (some (.ref a))).setu j (some (.ref a))).setu i none
        have e : ((ρ.set i .un).set j .un).set i SlV.un = (ρ.set j .un).set i .un := by
          apply List.ext_getElem?
          intro k
          simp only [List.getElem?_set, List.length_set]
          by_cases c1 : i = k <;> by_cases c2 : j = k <;> simp [c1, c2]
        rw [e] at A
        exact A
      have dn : d ≠ a := ne_of_none ed na
      have h1 : (⟨W1.F, upd W1.H a (ExK Ce d a), W1.θ⟩ : Wd).H d = some (.xd (fs.zip us).reverse) := by
        show upd _ _ _ d = _
        rw [upd_ne dn]
        exact ed
      have w0a : W0.H a = none := older R1.e na
      have w0d : W0.H d = none := older R.e nd'
      obtain ⟨g3, R3⟩ := frzH R2 h1 (fun vs z => by cases z) w0d
      obtain ⟨g4, R4⟩ := frzH R3 (p := a) (o := ExK Ce d a) (by show upd _ _ _ a = _; exact upd_same) (fun vs z => by cases z) w0a
      have rr : RepAll X.K C (upd (upd W1.F d (.xd (fs.zip us).reverse)) a (ExK Ce d a)) W1.θ us ys := by
        have s1 : Same W1.F (upd (upd W1.F d (.xd (fs.zip us).reverse)) a (ExK Ce d a)) := g3.f.trans g4.f
        have := r1.mono (r := []) s1
        rwa [List.append_nil] at this
      have rx : RepW X.K C ⟨upd (upd W1.F d (.xd (fs.zip us).reverse)) a (ExK Ce d a), upd W1.H a (ExK Ce d a), W1.θ⟩ (.ref a) (.dic (excK x fs ys)) :=
        .exc rfl en upd_same (by show upd _ _ _ d = _; rw [upd_ne dn, upd_same]) lu rr
      have R5 := R4.setv j rx (by rw [List.length_set, List.length_set]; exact hj)
      have e5 : ((((σ.set i (some (.ref a))).set j (some (.ref a))).set i none).set j (some (.ref a))) = (((σ.set i (some (.ref a))).set j (some (.ref a))).set i none) := by
        apply List.ext_getElem?
        intro k
        simp only [List.getElem?_set, List.length_set]
        by_cases c1 : i = k <;> by_cases c2 : j = k <;> simp [c1, c2]
        all_goals first | omega | (intro h; omega) | (intro h; subst c2; simp [h])
      have e6 : ((ρ.set j .un).set i .un).set j (.val (.dic (excK x fs ys))) = (ρ.set j (.val (.dic (excK x fs ys)))).set i .un := by
        apply List.ext_getElem?
        intro k
        simp only [List.getElem?_set, List.length_set]
        by_cases c1 : i = k <;> by_cases c2 : j = k <;> simp [c1, c2]
        omega
      rw [e5, e6] at R5
      exact q _ _ ((g1.trans g2).groF.trans (g3.trans g4)) R5
    · cases em
  · cases em
theorem xtryO {X : Cx} {C Ce fI : Addr} {fs : List Str} {m : MR} {ms : MS} {x n y : Str} {i j : Nat} {bd : List Stmt} {q1 q2 q3 q4 q5 pos : Pos} (T : ErrC X.K X.mg x Ce fI fs) (en : ErrN X.K x Ce) (ij : i ≠ j)
    (st : X.stack = X.env :: X.outer) (fr : X.env.frame = some X.env.locals) (nd : X.N.Nodup) (at_ : X.N[i]? = some n) (lo : X.env.kindOf n = some .local) (gl : Gl X x) (dbg : (x == ("__debug__" : Str)) = false)
    (body : ∀ (W : WX) (pn : List (Addr × Obj)) (E' : Value → Shared → Prop), Takes (X.tr pn E') W → PassesOwn (model X.prog X.w) X.A X.env E' → PSs (X.tr pn E') bd (tMR X.K C Ce fs m W))
    (bodyN : ∀ (pn : List (Addr × Obj)) (E' : Value → Shared → Prop), PassesOwn (model X.prog X.w) X.A X.env E' → PSs (X.tr pn E') bd (tMS X.K C ms))
    (asg : ∀ (a : Addr) (ob : Obj) (pn : List (Addr × Obj)), PS (X.suite a ((a, ob) :: pn)) (.Assign [.Name y q3] (.Name n q4) q5) (tAsg (tVar i) (gName j))) :
    PS X (.Try bd [.ExceptHandler (some (.Name x q1)) (some n) [.Assign [.Name y q3] (.Name n q4) q5] q2] [] [] pos) (tMS X.K C (mTryO x fs i j m ms)) :=
  PS.weak (ps_try_keep (c := .ref Ce) (tb := fun W D σ H => tMR X.K C Ce fs m W D σ H ∨ tMS X.K C ms D σ H) (ts := fun _ => tAsg (tVar i) (gName j)) st fr nd at_ lo ⟨gl, dbg, .inl T.gC⟩ (fun W pn E' tk po => pss_or (body W pn E' tk po) (bodyN pn E' po)) (fun a ob pn => pss_one (asg a ob pn))) fun D σ H ⟨W0, W, ρ, S, out, eH, R, em, q⟩ => by
  cases hm : m ρ S with
  | some r =>
    rw [mTryO_r hm] at em
    exact .inl (keepR T en ij D σ H ⟨W0, W, ρ, S, out, eH, R, em, q⟩)
  | none =>
    rw [mTryO_n hm] at em
    exact .inr ⟨W0, W, ρ, S, out, eH, R, em, q⟩
end BL

namespace BL
open PySem PySem.Spec PyProof.Rows L2
theorem takesE {P : Program} {w : World} {K : PySem.W.Frag} {mg : Str → Option Value} {base : Heap} {N : List Str} {qual : Str} {scope : Scope} {f : Addr} {cd : Value} {A : Around} {outer : List Env} {s : Shared} {H : Hp} {E : XK} :
    Takes (cxOf (L2.CX P w) P w K mg base N qual scope f cd A outer s H E) (fun cls d _ H => E cls d H) :=
  takes_of (X := cxOf (L2.CX P w) P w K mg base N qual scope f cd A outer s H E) rfl rfl rfl rfl
end BL

namespace BL
open PySem PySem.Spec PyProof.Rows L2
/-! places that are none; a call behind which the next one raises; an argument that raises -/
section
variable {X : Cx} {C Ce : Addr} {fs : List Str} {m r : MR} {Wi : WX} {st : Stmt} {rest : List Stmt} {e : Expr}
def mRSeqD (m : MR) (me : ME) (r : MR) : MR := fun ρ S => match m ρ S with
  | some z => some z
  | none => match me ρ S with
    | some (_, S1) => r ρ S1
    | none => none
theorem rseqD {me : ME} (h1 : PS X st (tMR X.K C Ce fs m Wi)) (h2 : PS X st (tDrop (tM X.K C me))) (h3 : PSs X rest (tMR X.K C Ce fs r Wi)) : PSs X (st :: rest) (tMR X.K C Ce fs (mRSeqD m me r) Wi) :=
  PSs.weak (pss_or (rhead h1) (pss_cons h2 h3)) fun D σ H ⟨W0, W, ρ, S, ys, S', eH, R, em, q⟩ => by
  unfold mRSeqD at em
  cases hm : m ρ S with
  | some z =>
    rw [hm] at em
    cases em
    exact .inl ⟨W0, W, ρ, S, _, _, eH, R, hm, q⟩
  | none =>
    rw [hm] at em
    cases he : me ρ S with
    | none =>
      rw [he] at em
      cases em
    | some z =>
      obtain ⟨x, S1⟩ := z
      rw [he] at em
      refine .inr ⟨W0, W, ρ, S, x, S1, eH, R, he, fun v W1 R1 g1 r1 => ⟨W0, W1, ρ, S1, ys, S', rfl, R1, em, fun us d W' g i r l n e => q us d W' (g1.trans g) i r l (older g1 n) e⟩⟩
def mRArg (ma : ME) (m : MR) : MR := fun ρ S => match ma ρ S with
  | some (_, S1) => m ρ S1
  | none => none
theorem rarg2 {ma : ME} {sp : Sp} {dvs : List V} {E : XK} (h : PE X e (tCall sp dvs E (tCons (tM X.K C ma) (tCons (tER X.K C Ce fs m Wi) tNil)))) : PE X e (tER X.K C Ce fs (mRArg ma m) Wi) := PE.weak h fun σ H Q ⟨W0, W, ρ, S, ys, S', eH, R, em, q⟩ => by
  unfold mRArg at em
  split at em
  · rename_i x S1 e1
    exact ⟨W0, W, ρ, S, x, S1, eH, R, e1, fun v W1 R1 g1 r1 => ⟨W0, W1, ρ, S1, ys, S', rfl, R1, em, fun us d W' g i r l n e => q us d W' (g1.trans g) i r l (older g1 n) e⟩⟩
  · cases em
end
def r_check_placeB : MR := mRIf (mNotT (mTru (mChain (fun i j => decide (i ≤ j)) (fun i j => decide (i < j)) (mC (.int 0)) (mVar 1) (mFn fLen (mCons (mVar 0) mNil))))) (mRz 1 (mCons (mVar 1) mNil)) (fun _ _ => none)
def r_check_place := mDefR 2 2 r_check_placeB
def r_withoutB : MR := mRCall r_check_place (mCons (mVar 0) (mCons (mVar 1) mNil))
def r_without := mDefR 2 2 r_withoutB
def r_lost_matters := mDefR 2 2 (mRArg (mVar 0) (mRCall r_without (mCons (mVar 0) (mCons (mVar 1) mNil))))
section
variable (chk : List PV → List PV → Option (PV × List PV))
def r_doubled := mDefR 3 4 (mRSeqD (mRCall r_check_place (mCons (mVar 0) (mCons (mVar 1) mNil))) (mCall chk (mCons (mVar 0) (mCons (mVar 1) mNil))) (mRCall r_check_place (mCons (mVar 0) (mCons (mOp fAdd (mVar 1) (mVar 2)) mNil))))
def r_doubled_matters := mDefR 3 3 (mRArg (mVar 0) (mRCall (r_doubled chk) (mCons (mVar 0) (mCons (mVar 1) (mCons (mVar 2) mNil)))))
def r_moved := mDefR 3 4 (mRSeqD (mRCall r_check_place (mCons (mVar 0) (mCons (mVar 1) mNil))) (mCall chk (mCons (mVar 0) (mCons (mVar 1) mNil))) (mRCall r_check_place (mCons (mVar 0) (mCons (mVar 2) mNil))))
def r_moved_alike := mDefR 3 4 (mRArg (mVar 0) (mRCall (r_moved chk) (mCons (mVar 0) (mCons (mVar 1) (mCons (mVar 2) mNil)))))
def m_law_lost_placeR : MR := mRIf (mTru (mOp fLt (mVar 0) (mC (.int 2)))) (mRIf (mTru (mOp fEq (mVar 0) (mC (.int 0)))) (mRCall r_without (mCons (mVar 1) (mCons (mVar 2) mNil))) (mRCall r_lost_matters (mCons (mVar 1) (mCons (mVar 2) mNil))))
  (mRIf (mTru (mOp fLt (mVar 0) (mC (.int 4)))) (mRIf (mTru (mOp fEq (mVar 0) (mC (.int 2)))) (mRCall (r_doubled chk) (mCons (mVar 1) (mCons (mVar 2) (mCons (mVar 3) mNil)))) (mRCall (r_doubled_matters chk) (mCons (mVar 1) (mCons (mVar 2) (mCons (mVar 3) mNil)))))
    (mRIf (mTru (mOp fEq (mVar 0) (mC (.int 4)))) (mRCall (r_moved chk) (mCons (mVar 1) (mCons (mVar 2) (mCons (mVar 3) mNil)))) (mRCall (r_moved_alike chk) (mCons (mVar 1) (mCons (mVar 2) (mCons (mVar 3) mNil))))))
def m_law_lost_placeB : MS := mSeq (mAsg (.tp [4, 5]) (mTup (mCons (mC .non) (mCons (mC .non) mNil)))) (mSeq (mTryK "NoPlace" ["place"] 6 4 (m_law_lost_placeR chk))
  (mRet (mIfE (mTru (mOp fIs (mVar 4) (mC .non))) (mVar 5) (mLst (mCons (mXa "NoPlace" "place" (mVar 4)) (mCons (mXi "NoPlace" true (mVar 4)) mNil))))))
def m_law_lost_placeH : List PV → List PV → Option (PV × List PV) := mDef 4 7 (m_law_lost_placeB chk)
end
end BL

namespace BL
open PySem PySem.Spec PyProof.Rows L2
/-! errors without fields, of classes without an own __init__ -/
/-- at a: an exception of the class at C, its dict at d -/
def ExN (C a : Addr) : HO := .ext fun g => ∃ ob fl, g.get? a = some ob ∧ Zc (.ref C) none ob ∧ ob.data = .fields fl
theorem exn_ok {P : Program} {w : World} {H : Hp} {g : Heap} {a C : Addr} {ob : Obj} {fl : Array Value} (e : g.get? a = some ob) (z : Zc (.ref C) none ob) (q : ob.data = .fields fl) : ObjOk P w H g a (ExN C a) :=
  ⟨⟨ob, fl, e, z, q⟩, ⟨ob, e⟩, fun _ _ ⟨o, f, x, y⟩ k => ⟨o, f, k o x, y⟩⟩
theorem exn_at {P : Program} {w : World} {H : Hp} {g : Heap} {a C : Addr} (ok : HOk P w H g) (e : H a = some (ExN C a)) : ∃ ob fl, g.get? a = some ob ∧ Zc (.ref C) none ob ∧ ob.data = .fields fl := by
  have z : ObjOk P w H g a (.ext fun g => ∃ ob fl, g.get? a = some ob ∧ Zc (.ref C) none ob ∧ ob.data = .fields fl) := ok a _ e
  exact z.1
section
variable {X : Cx} {pins : List (Addr × Obj)} {σ : L2.St} {H : Hp} {s : Shared}
theorem adoptN {a C : Addr} {ob : Obj} {fl : Array Value} (I : Inv X ((a, ob) :: pins) σ H s) (z : Zc (.ref C) none ob) (q : ob.data = .fields fl) (new : a ∉ X.ex → X.s_0.heap.get? a = none) (ne : ∀ p ∈ X.pn ++ pins, p.1 ≠ a) :
    Inv X pins σ (upd H a (ExN C a)) s := by
  obtain ⟨ea, na, nl, nf, nc⟩ := I.pin (a, ob) (List.mem_append_right _ (List.mem_cons_self ..))
  have up : ∀ {b : Addr}, b ≠ a → upd H a (ExN C a) b = H b := fun n => upd_ne n
  have st : ∀ {b : Addr} {o : HO}, H b = some o → upd H a (ExN C a) b = some o := fun {b o} e => by
    rw [up (ne_of_none e na)]
    exact e
  have ok : HOk X.prog X.w (upd H a (ExN C a)) s.heap := fun b o e => by
    by_cases c : b = a
    · subst c
      rw [upd_same] at e
      cases e
      exact exn_ok ea z q
    · rw [up c] at e
      exact (I.hok b o e).stay (fun _ _ _ x => x) (fun _ x => st x) (fun _ _ x => st x)
  refine ⟨I.ok, I.os, I.bare, ⟨I.base.keep, I.base.slot, fun b o e n x => ?_, I.base.there, fun b xs e => st (I.base.tups b xs e), fun b o u e => st (I.base.frzs b o u e), fun b ps e => ?_⟩, I.loc, I.cell, ?_, fun x c e => ?_, fun p hp => ?_, ok, I.len⟩
  · rw [up fun c => by rw [c, new (c ▸ x)] at e; cases e]
    exact I.base.free b o e n x
  · obtain ⟨m, e'⟩ := I.base.tbls b ps e
    exact ⟨m, st e'⟩
  · rw [up (Ne.symm nl)]
    exact I.free
  · rw [up fun y => ?_]
    · exact I.freeC x c e
    · obtain ⟨v, cv⟩ := I.cell x c e
      obtain ⟨o', e1, e2⟩ := cv
      rw [y, ea] at e1
      cases e1
      exact nc _ e2
  · obtain ⟨p1, p2, p3⟩ := I.pin p (by
      rcases List.mem_append.mp hp with h | h
      · exact List.mem_append_left _ h
      · exact List.mem_append_right _ (List.mem_cons_of_mem _ h))
    exact ⟨p1, by rw [up (ne p hp)]; exact p2, p3⟩

/-- what such a try wishes of the error in its body: it is one of the class named; the suite ts runs with it in slot i; behind it stands kept, and the slot is empty -/
def wKeepN (K : PySem.W.Frag) (c : Value) (i : Nat) (ts : Addr → TS) (D : Ends) : WX := fun cls d τ G => ∃ C : Addr, cls = .ref C ∧ d = none ∧ PySem.W.exmOne K cls c = some true ∧ ∀ a, G a = none →
  ts a { nx := fun τ' G' => G' a = none → D.nx (τ'.set i none) (upd G' a (ExN C a)), rt := fun _ _ => False, bk := fun _ _ => False, ct := fun _ _ => False } (τ.set i (some (.ref a))) G
end
section
variable {X : Cx} {x n : Str} {c : Value} {i : Nat} {bd su : List Stmt} {b1 : Stmt} {q1 q2 pos : Pos} {tb : WX → TS} {ts : Addr → TS}
theorem ps_try_keepN (st : X.stack = X.env :: X.outer) (fr : X.env.frame = some X.env.locals) (nd : X.N.Nodup) (at_ : X.N[i]? = some n) (lo : X.env.kindOf n = some .local) (nm : Names X x c)
    (body : ∀ (W : WX) (pn : List (Addr × Obj)) (E' : Value → Shared → Prop), Takes (X.tr pn E') W → PassesOwn (model X.prog X.w) X.A X.env E' → PSs (X.tr pn E') bd (tb W))
    (suite : ∀ (a : Addr) (ob : Obj) (pn : List (Addr × Obj)), PSs (X.suite a ((a, ob) :: pn)) (b1 :: su) (ts a)) :
    PS X (.Try bd [.ExceptHandler (some (.Name x q1)) (some n) (b1 :: su) q2] [] [] pos) (fun D τ G => tb (wKeepN X.K c i ts D) D τ G) := by
  constructor
  intro pins s τ G D I wish
  have ok := I.ok
  have frames : X.A.frames = some (X.env :: X.outer) := by
    rw [ok.frames, st]
  apply wpAny_Try_except
  have run := (body (wKeepN X.K c i ts D) (X.pn ++ pins) (fun e s₁ => wpAny (model X.prog X.w) X.A (noteFrame e X.env) (fun _ s₂ => wpAny (model X.prog X.w) X.A (setFlight e none)
    (fun _ s₃ => wpAny (model X.prog X.w) X.A (handleBy e X.env [.ExceptHandler (some (.Name x q1)) (some n) (b1 :: su) q2]) (SP X pins D) X.xe s₃) X.xe s₂) X.xe s₁) ?tk PassesOwn.looking).run [] s τ G D (I.toTry _) wish
  case tk =>
    rintro u s' ⟨a, B, sI, pins', τ', G', cls, d, rfl, J', nb, up, sky, na, os, ag, C, rfl, rfl, yes, go⟩
    have J : Inv X pins τ' G' sI := J'.ofTry ok
    have sky2 : L2.Sky B (X.env :: X.outer) a (Zc (.ref C) none) X.env.locals s'.heap := st ▸ sky
    have bn := Sky_none sky2
    show wpAny _ X.A (noteFrame (.ref a) X.env) _ _ _
    refine L2.Sky.land Zc.steady frames fr sky2 fun g3 f3 u3 => ?_
    obtain ⟨o3, v3, e3, z3, d3⟩ := f3.there
    have off : ∀ {g : Heap} {o : Obj} {vs : Array Value}, g.FunFrames B (X.env :: X.outer) → g.get? a = some o → o.data = .fields vs → a ∉ frs (X.env :: X.outer) := by
      intro g o vs ff e dt m
      obtain ⟨_, o', e', no⟩ := ff.mem m
      rw [e] at e'
      cases e'
      exact no _ dt
    have out := off f3.2.2.1 e3 d3
    have notL : a ≠ X.env.locals := by
      intro z
      refine out (List.mem_filterMap.mpr ⟨X.env, List.mem_cons_self .., ?_⟩)
      rw [fr, z]
    have notF : a ∉ X.fs := by
      intro m
      obtain ⟨e, me, q⟩ := List.mem_filterMap.mp m
      exact out (List.mem_filterMap.mpr ⟨e, List.mem_cons_of_mem _ me, q⟩)
    -- the exception is new: it was not there when it was made
    have young : sI.heap.get? a = none := by
      cases e : sI.heap.get? a with
      | none => rfl
      | some o =>
        have := nb a o e (by rw [st]; exact out)
        rw [bn] at this
        cases this
    have new : a ∉ X.ex → X.s_0.heap.get? a = none := by
      intro nx
      cases e : X.s_0.heap.get? a with
      | none => rfl
      | some o =>
        obtain ⟨o', e'⟩ := J.base.there a o e nx
        rw [young] at e'
        cases e'
    have apart : ∀ p ∈ X.pn ++ pins, p.1 ≠ a := by
      intro p hp z
      have := (J.pin p hp).1
      rw [z, young] at this
      cases this
    have J3 : Inv X pins τ' G' { s' with heap := g3 } := J.landed nb f3.1 (up.trans u3) os ag
    have S3 := J3.suite e3 d3 na notL notF
    refine wpAny_handleBy_cons (codeAny_handlers_test ?_) (fun q => by cases q)
    have ty : PySem.W.Looks (model X.prog X.w) g3 (typeOf (.ref a)) (.ref C) := fun A Q E s k q => wpAny_typeOf_ref (k _ _ e3) (by
      rw [z3.1]
      exact q)
    have mt := PySem.W.exm_one (M := model X.prog X.w) J3.kIn ty yes
    have load : ∀ {Q : Value → Shared → Prop} {E : Value → Shared → Prop}, Q c { s' with heap := g3 } → wpAny (model X.prog X.w) (X.A.mark (some (.ref a))) (eval (.Name x q1) X.env) Q E { s' with heap := g3 } := by
      intro Q E q
      obtain ⟨gl, dbg, m | ⟨m, v, nn⟩⟩ := nm
      · exact ld_glob (X := X.suite a ((a, o3) :: (X.pn ++ pins))) S3 gl m q dbg
      · exact ld_blt (X := X.suite a ((a, o3) :: (X.pn ++ pins))) S3 gl m v q nn dbg
    refine load (mt.here (codeAny_handlers_suite_as ?_))
    refine HandSPX.lands_againZ f3 fun g4 f4 u4 => ?_
    obtain ⟨o4, v4, e4, z4, d4⟩ := f4.there
    have J4 : Inv X pins τ' G' { s' with heap := g4 } := J.landed nb f4.1 ((up.trans u3).trans u4) os ag
    have S4 := J4.suite e4 d4 na notL notF
    refine store_ok (X := X.suite a ((a, o4) :: (X.pn ++ pins))) (v := .ref a) S4 nd at_ (.inl lo) rfl (fun s5 S5 => ?_) (.inr lo)
    refine wpAny_mono ((suite a o4 (X.pn ++ pins)).run [] s5 _ G' _ S5 (go a na)) (fun f s6 sp => ?_) (fun _ _ z => z.elim)
    cases f with
    | next =>
      obtain ⟨τ6, G6, S6, q6⟩ := sp
      refine gone_ok (outOf S6 ok) nd at_ lo fun s7 J7 => ?_
      exact ⟨_, _, adoptN J7 z4 d4 new apart, q6 (S6.pin (a, o4) (by show _ ∈ ((a, o4) :: (X.pn ++ pins)) ++ []; simp)).2.1⟩
    | brk =>
      obtain ⟨_, _, _, z⟩ := sp
      exact z.elim
    | cont =>
      obtain ⟨_, _, _, z⟩ := sp
      exact z.elim
    | ret u =>
      obtain ⟨_, _, _, _, _, z⟩ := sp
      exact z.elim
  refine wpAny_mono run (fun f s1 sp => ?_) (fun _ _ z => z)
  cases f with
  | next =>
    obtain ⟨τ', G', J', q⟩ := sp
    exact wpAny_execs_nil ⟨τ', G', J'.ofTry ok, q⟩
  | brk =>
    obtain ⟨τ', G', J', q⟩ := sp
    exact ⟨τ', G', J'.ofTry ok, q⟩
  | cont =>
    obtain ⟨τ', G', J', q⟩ := sp
    exact ⟨τ', G', J'.ofTry ok, q⟩
  | ret u =>
    obtain ⟨v, τ', G', J', r, q⟩ := sp
    exact ⟨v, τ', G', J'.ofTry ok, r, q⟩
end

section
variable {X : Cx} {C : Addr} {bmB : List Value} {B newId initId : String}
/-- x(), x an own class of errors without own __init__ -/
theorem pmk_own0 {x : Str} {p pos : Pos} (F : ExcBaseFacts B newId initId bmB) (q : PySem.W.excIn X.K C bmB newId = true) (gC : X.mg x = some (.ref C)) (kC : PySem.W.keepIn X.K (.ref C) = true) (r : Raises X (.ref C)) (hg : Gl X x)
    (hdb : (x == ("__debug__" : Str)) = false := by decide) : PMk X (.Call (.Name x p) [] [] pos) (fun _ H Q => Q (.ref C) none H) := by
  intro pins s σ H Q I h
  refine wpAny_Call_Name_kw (ld_glob I hg gC ?_ hdb)
  refine PySem.W.callWith_K0 I.kIn kC ?_
  show wpAny _ _ (call (.ref C) []) _ _ _
  obtain ⟨bm, N, nm, qn, bs, hdct, sn, sub, ab, col, dd, k0, k1, k2, k3, k5, mN, hC, hN, hni, T⟩ := exc_obj I.kIn q
  refine wpAny_call_exc_subT F T hC hN hni (fun h' e hm => ?_) (by show 0 ≤ sizeLine; exact Nat.zero_le _)
  exact mk_of I hm r h (I.hok.gone hm.new)
end
/-- what is told of a class of errors without fields -/
structure Err0 (K : PySem.W.Frag) (mg : Str → Option Value) (x : Str) (Ce : Addr) : Prop where
  ex : PySem.W.excIn K Ce [.type "ValueError", .type "Exception", .type "BaseException", .type "object"] "ValueError.__new__" = true
  gC : mg x = some (.ref Ce)
  kC : PySem.W.keepIn K (.ref Ce) = true
  su : PySem.W.subIn K (.ref Ce) (.type "BaseException") = some true
  ty : PySem.W.typeIn K (.ref Ce) = some (.type "type")
  te : PySem.W.exmOne K (.ref Ce) (.ref Ce) = some true
  xi : XiC K Ce
section
variable (K : PySem.W.Frag) (C Ce : Addr)
def spR0 (r : List PV → List PV → Option (List PV × List PV)) : Sp := fun vs H _ E => ∃ W S xs ys S', H = W.H ∧ Inv1 K C W S ∧ RepAll K C W.F W.θ vs xs ∧ r xs S = some (ys, S') ∧ ∀ W', Gro W W' → Inv1 K C W' S' → E (.ref Ce) none W'.H
def tM0 (m : MR) (Wi : WX) : TS := fun _ σ H => ∃ W0 W ρ S ys S', H = W.H ∧ Rel K C W0 W σ ρ S ∧ m ρ S = some (ys, S') ∧ ∀ W', Gro W W' → Rel K C W0 W' σ ρ S' → Wi (.ref Ce) none σ W'.H
def tE0 (m : MR) (Wi : WX) : TE := fun σ H _ => tM0 K C Ce m Wi { nx := fun _ _ => True, rt := fun _ _ => True } σ H
end
section
variable {X : Cx} {C Ce : Addr} {m r : MR} {Wi : WX}
theorem rhead0 {st : Stmt} {rest : List Stmt} (h : PS X st (tM0 X.K C Ce m Wi)) : PSs X (st :: rest) (tM0 X.K C Ce m Wi) := PSs.weak (pss_cons h pss_dead) fun D σ H q => q
theorem rnone0 : PSs X [] (tM0 X.K C Ce (fun _ _ => none) Wi) := PSs.weak pss_dead fun D σ H ⟨_, _, _, _, _, _, _, _, e, _⟩ => by cases e
theorem rif0 {c : Expr} {a b : List Stmt} {pos : Pos} {mt : MT} {ma mb : MR} (hc : PT X c (tMT X.K C mt)) (ha : PSs X a (tM0 X.K C Ce ma Wi)) (hb : PSs X b (tM0 X.K C Ce mb Wi)) : PS X (.If c a b pos) (tM0 X.K C Ce (mRIf mt ma mb) Wi) :=
  PS.weak (ps_if hc ha hb) fun D σ H ⟨W0, W, ρ, S, ys, S', eH, R, em, q⟩ => by
  subst eH
  unfold mRIf at em
  split at em
  · rename_i S1 e1
    exact ⟨W0, W, ρ, S, true, S1, rfl, R, e1, fun W1 R1 g1 => by refine iteT ?_; exact ⟨W0, W1, ρ, S1, ys, S', rfl, R1, em, fun W2 g2 r2 => q W2 (g1.trans g2) r2⟩⟩
  · rename_i S1 e1
    exact ⟨W0, W, ρ, S, false, S1, rfl, R, e1, fun W1 R1 g1 => by refine iteF ?_; exact ⟨W0, W1, ρ, S1, ys, S', rfl, R1, em, fun W2 g2 r2 => q W2 (g1.trans g2) r2⟩⟩
  · cases em
theorem rcall0 {r : List PV → List PV → Option (List PV × List PV)} {e : Expr} {mes : MA} (h : PE X e (tCallS (spR0 X.K C Ce r) (WE Wi) (tMA X.K C mes))) : PE X e (tE0 X.K C Ce (mRCall r mes) Wi) :=
  PE.weak h fun σ H Q ⟨W0, W, ρ, S, ys, S', eH, R, em, q⟩ => by
  subst eH
  unfold mRCall at em
  split at em
  · rename_i xs S1 e1
    exact ⟨W0, W, ρ, S, xs, S1, rfl, R, e1, fun vs W1 R1 g1 r1 => ⟨W1, S1, xs, ys, S', rfl, R1.i, r1, em, fun W2 g2 i2 => q W2 (g1.trans g2) (R1.ext g2 i2)⟩⟩
  · cases em
theorem rexpr0 {e : Expr} {pos : Pos} (h : PE X e (tE0 X.K C Ce m Wi)) (hs : swapsWith e none pos.line X.env = pure false := by rfl) : PS X (.Expr e pos) (tM0 X.K C Ce m Wi) := PS.weak (ps_expr h hs) fun D σ H q => q
theorem rret0 {e : Expr} {pos : Pos} (h : PE X e (tE0 X.K C Ce m Wi)) : PS X (.Return (some e) pos) (tM0 X.K C Ce m Wi) := PS.weak (ps_ret h) fun D σ H q => q
theorem rasg0 {st : Stmt} {g : TG} (h : PS X st (tAsg (tE0 X.K C Ce m Wi) g)) : PS X st (tM0 X.K C Ce m Wi) := PS.weak h fun D σ H q => q
/-- a block of a def that raises: what it ends with asks nothing of the slots -/
def tM1 (K : PySem.W.Frag) (C Ce : Addr) (m : MR) (E : Value → Option Addr → Hp → Prop) : TS := fun _ σ H => ∃ W0 W ρ S ys S', H = W.H ∧ Rel K C W0 W σ ρ S ∧ m ρ S = some (ys, S') ∧ ∀ W', Gro W0 W' → Inv1 K C W' S' → E (.ref Ce) none W'.H
theorem rlast1 {rest : List Stmt} {E : Value → Option Addr → Hp → Prop} (h : PSs X rest (tM0 X.K C Ce r (fun c d _ H => E c d H))) : PSs X rest (tM1 X.K C Ce r E) :=
  PSs.weak h fun D σ H ⟨W0, W, ρ, S, ys, S', eH, R, em, q⟩ => ⟨W0, W, ρ, S, ys, S', eH, R, em, fun W' g R' => q W' R'.e R'.i⟩
theorem rseq1 {st : Stmt} {rest : List Stmt} {ms : MS} {E : Value → Option Addr → Hp → Prop} (h1 : PS X st (tMS X.K C ms)) (h2 : PSs X rest (tM1 X.K C Ce r E)) : PSs X (st :: rest) (tM1 X.K C Ce (mRSeq ms r) E) :=
  PSs.weak (pss_cons h1 h2) fun D σ H ⟨W0, W, ρ, S, ys, S', eH, R, em, q⟩ => by
  subst eH
  unfold mRSeq at em
  split at em
  · rename_i ρ1 S1 e1
    exact ⟨W0, W, ρ, S, _, rfl, R, e1, fun σ1 W1 g1 R1 => ⟨W0, W1, ρ1, S1, ys, S', rfl, R1, em, q⟩⟩
  · cases em
/-- raise x() -/
def mRz0 : MR := fun _ S => some ([], S)
theorem xrai0 {x : Str} {p pos pos2 : Pos} (T : Err0 X.K X.mg x Ce) (hc : X.calm = true) (tk : Takes X Wi) (hg : Gl X x) (hdb : (x == ("__debug__" : Str)) = false := by decide) : PS X (.Raise (some (.Call (.Name x p) [] [] pos)) none pos2) (tM0 X.K C Ce mRz0 Wi) :=
  PS.weak (ps_raise hc tk (pmk_own0 PySem.F.excBase_ValueError T.ex T.gC T.kC (raises_own T.su T.ty) hg hdb)) fun D σ H ⟨W0, W, ρ, S, ys, S', eH, R, em, q⟩ => by
  subst eH
  cases em
  exact q W (Gro.refl _) R
end
section
variable {X : Cx} {C Ce : Addr} {m : MR} {Wi : WX}
/-- isinstance(x, D): x a kept error without fields -/
def rIsN0 (K : PySem.W.Frag) : List V → Hp → VK → Prop := fun xs H Q => ∃ (a C : Addr) (D : V) (u : Value) (b : Bool), xs = [.ref a, D] ∧ ClsV D u ∧ H a = some (ExN C a) ∧ XiC K C ∧ PySem.W.kitOne K (.ref C) u = some b ∧ Q (.bl b) H
theorem call_isN0 : CallR X (.builtin "isinstance") (rIsN0 X.K) := by
  intro pins s σ H xs us Q I r h
  obtain ⟨a, C, D, w, b, rfl, k, ea, T, yes, q⟩ := h
  obtain ⟨u1, u2, rfl, r1, r2⟩ := vals2 r
  obtain rfl : u1 = Value.ref a := r1
  obtain rfl := k.eq r2
  obtain ⟨ob, fl, ha, hz, dt⟩ := exn_at I.hok ea
  have J : PySem.W.InstAt s.heap a ob C none := ⟨ha, hz.1, by unfold PySem.W.notCls; rw [dt] <;> rfl, by rw [hz.2]; trivial⟩
  exact PySem.W.kia_one (PySem.W.kitx_exc T.cl T.ga T.gg T.ex T.ca T.sp T.tk T.ob) I.kIn J yes (fun z => by cases z) fun tk => ⟨.bl b, H, I.tok tk, rfl, q⟩
theorem pe_dead {e : Expr} : PE X e (fun _ _ _ => False) := ⟨fun _ _ _ _ _ _ h => h.elim⟩
/-- what stands behind the try, when the error was caught -/
theorem tail0 {c ei ea eb : Expr} {b1 : List Stmt} {p1 p2 p3 : Pos} {j : Nat} {v : V} (hc : PT X c (tTest (tOp (fun x y H Q => y = .non ∧ Q (.bl (decide (x = .non))) H) (tVar j) (tC .non)))) (hi : PT X ei (tB (tCB (rIsN0 X.K) (tCons (tVar j) (tCons (tC (.ty "ValueError")) tNil))))) (h1 : PE X ea (tC v)) :
    PSs X [.If c b1 [] p1, .Return (some (.IfExp ei ea eb p2)) p3] (fun D σ H => ∃ a, σ[j]? = some (some (.ref a)) ∧ H a = some (ExN Ce a) ∧ XiC X.K Ce ∧ PySem.W.kitOne X.K (.ref Ce) (.type "ValueError") = some true ∧ D.rt v H) :=
  PSs.weak (pss_cons (ps_if hc pss_dead pss_nil) (pss_one (ps_ret (pe_ifExp hi h1 pe_dead)))) fun D σ H ⟨a, es, eh, xi, ki, q⟩ => by
  refine ⟨.ref a, es, ?_⟩
  refine ⟨rfl, false, congrArg V.bl (decide_eq_false (fun z => by cases z)), ?_⟩
  refine iteF ?_
  refine ⟨.ref a, es, ?_⟩
  refine ⟨a, Ce, .ty "ValueError", _, true, rfl, .ty _, eh, xi, ki, true, rfl, ?_⟩
  exact iteT q
/-- try: a block that raises or not; except x as n: y = n; then what is told of it -/
def mSaid (i j : Nat) (v : PV) (m : MR) (ms rest : MS) : MS := fun ρ S => match m ρ S with
  | some (_, S1) => if i < ρ.length ∧ j < ρ.length then some (.rt v S1) else none
  | none => mSeq ms rest ρ S
theorem xsaid {x n y : Str} {i j : Nat} {bd tl : List Stmt} {ms rest : MS} {v : V} {pv : PV} {q1 q2 q3 q4 q5 pos : Pos} (T : Err0 X.K X.mg x Ce) (ij : i ≠ j) (pvr : ∀ W : Wd, RepW X.K C W v pv)
    (st : X.stack = X.env :: X.outer) (fr : X.env.frame = some X.env.locals) (nd : X.N.Nodup) (at_ : X.N[i]? = some n) (lo : X.env.kindOf n = some .local) (gl : Gl X x) (dbg : (x == ("__debug__" : Str)) = false)
    (body : ∀ (W : WX) (pn : List (Addr × Obj)) (E' : Value → Shared → Prop), Takes (X.tr pn E') W → PassesOwn (model X.prog X.w) X.A X.env E' → PSs (X.tr pn E') bd (tM0 X.K C Ce m W))
    (bodyN : ∀ (pn : List (Addr × Obj)) (E' : Value → Shared → Prop), PassesOwn (model X.prog X.w) X.A X.env E' → PSs (X.tr pn E') bd (tMS X.K C ms))
    (asg : ∀ (a : Addr) (ob : Obj) (pn : List (Addr × Obj)), PS (X.suite a ((a, ob) :: pn)) (.Assign [.Name y q3] (.Name n q4) q5) (tAsg (tVar i) (gName j)))
    (rs : PSs X tl (tMS X.K C rest))
    (tail : PSs X tl (fun D σ H => ∃ a, σ[j]? = some (some (.ref a)) ∧ H a = some (ExN Ce a) ∧ XiC X.K Ce ∧ PySem.W.kitOne X.K (.ref Ce) (.type "ValueError") = some true ∧ D.rt v H))
    (ki : PySem.W.kitOne X.K (.ref Ce) (.type "ValueError") = some true) :
    PSs X (.Try bd [.ExceptHandler (some (.Name x q1)) (some n) [.Assign [.Name y q3] (.Name n q4) q5] q2] [] [] pos :: tl) (tMS X.K C (mSaid i j pv m ms rest)) :=
  PSs.weak (pss_cons (ps_try_keepN (c := .ref Ce) (tb := fun W D σ H => tM0 X.K C Ce m W D σ H ∨ tMS X.K C ms D σ H) (ts := fun _ => tAsg (tVar i) (gName j)) st fr nd at_ lo ⟨gl, dbg, .inl T.gC⟩
    (fun W pn E' tk po => pss_or (body W pn E' tk po) (bodyN pn E' po)) (fun a ob pn => pss_one (asg a ob pn))) (pss_or tail rs)) fun D σ H ⟨W0, W, ρ, S, out, eH, R, em, q⟩ => by
  subst eH
  unfold mSaid at em
  split at em
  · rename_i ys S1 e1
    split at em
    · rename_i hl
      cases em
      refine .inl ⟨W0, W, ρ, S, ys, S1, rfl, R, e1, fun W1 g1 R1 => ⟨Ce, rfl, rfl, T.te, fun a na => ?_⟩⟩
      have l1 : i < σ.length := by rw [R.l]; exact hl.1
      have l2 : j < σ.length := by rw [R.l]; exact hl.2
      refine ⟨.ref a, by rw [List.getElem?_set_self l1], ?_⟩
      show W1.H a = none → _
      intro na
      refine .inl ⟨a, ?_, upd_same, T.xi, ki, ?_⟩
      · rw [List.getElem?_set_ne ij, List.getElem?_set_self (by rw [List.length_set]; exact l2)]
      · obtain ⟨g2, i2⟩ := laidH (ExN Ce a) R1.i na
        exact q v ⟨W1.F, upd W1.H a (ExN Ce a), W1.θ⟩ (R1.e.trans g2) i2 (pvr _)
    · cases em
  · rename_i e1
    refine .inr ?_
    unfold mSeq at em
    split at em
    · rename_i ρ1 S1 e1
      refine ⟨W0, W, ρ, S, _, rfl, R, e1, fun σ' W' g R' => .inr ⟨W0, W', ρ1, S1, out, rfl, R', em, q.gro g⟩⟩
    · rename_i o hn
      refine ⟨W0, W, ρ, S, out, rfl, R, em, ?_⟩
      cases out with
      | nx ρ1 S1 => exact (hn ρ1 S1 em).elim
      | rt x S1 => exact q
      | bk ρ1 S1 => exact q
      | ct ρ1 S1 => exact q
end
theorem okR0 {P : Program} {w : World} {K : PySem.W.Frag} {mg : Str → Option Value} {base : Heap} {C Ce : Addr} {x qual : Str} {st : Stmt} {f : Addr} {fd : FuncData} {N ps : List Str} {k : Nat} {m : MR} (F : Fun K x qual st f fd) (Sc : FnScope N ps (defScope st))
    (hb : ∀ (cdv : Value) (A : Around) (outer : List Env) (s : Shared) (H : Hp) (E : XK), Room k (A.deeper (envOfC qual (defScope st) s.heap.objs.size f cdv)) → PSs (cxOf (L2.CX P w) P w K mg base N qual (defScope st) f cdv A outer s H E) (defBody st) (tM1 K C Ce m E)) :
    FnOk P w K mg base (L2.CX P w) (k + 1) f fd ps (spR0 K C Ce (mDefR ps.length N.length m)) := by
  refine F.okX Sc (fun vs H Q E h => ?_) (fun cdv A outer s H vs Q E hr h => ?_)
  · obtain ⟨W, S, xs, ys, S', eH, i, r, em, q⟩ := h
    unfold mDefR at em
    split at em
    · rename_i hl
      rw [r.len, hl]
    · cases em
  · refine ⟨_, hb cdv A outer s H E hr, ?_⟩
    obtain ⟨W, S, xs, ys, S', eH, i, r, em, q⟩ := h
    subst eH
    unfold mDefR at em
    split at em
    · rename_i hl
      exact ⟨W, W, _, S, ys, S', rfl, rel_start i r hl, em, q⟩
    · cases em
end BL

namespace BL
open PySem PySem.Spec PyProof.Rows L2
/-! a loop in which an error without fields is raised -/
theorem passE {P : Program} {w : World} {K : PySem.W.Frag} {mg : Str → Option Value} {base : Heap} {N : List Str} {qual : Str} {scope : Scope} {f : Addr} {cd : Value} {A : Around} {outer : List Env} {s : Shared} {H : Hp} {E : XK} :
    PassesOwn (model (cxOf (L2.CX P w) P w K mg base N qual scope f cd A outer s H E).prog (cxOf (L2.CX P w) P w K mg base N qual scope f cd A outer s H E).w) (cxOf (L2.CX P w) P w K mg base N qual scope f cd A outer s H E).A (cxOf (L2.CX P w) P w K mg base N qual scope f cd A outer s H E).env (cxOf (L2.CX P w) P w K mg base N qual scope f cd A outer s H E).xe :=
  passes_of (X := cxOf (L2.CX P w) P w K mg base N qual scope f cd A outer s H E) rfl
/-- turns that pass, and one that raises -/
def frL (t : Tg) (ms : MS) (mr : MR) : List PV → MR
  | [], _, _ => none
  | x :: xs, ρ, S => match t.put x ρ with
    | some ρ1 => match mr ρ1 S with
      | some z => some z
      | none => match ms ρ1 S with
        | some (.nx ρ2 S2) => frL t ms mr xs ρ2 S2
        | _ => none
    | none => none
def mRFor (t : Tg) (mi : MI) (ms : MS) (mr : MR) : MR := fun ρ S => match mi ρ S with
  | some (xs, S1) => frL t ms mr xs ρ S1
  | none => none
theorem rhead1 {X : Cx} {C Ce : Addr} {m : MR} {E : Value → Option Addr → Hp → Prop} {st : Stmt} {rest : List Stmt} (h : PS X st (tM1 X.K C Ce m E)) : PSs X (st :: rest) (tM1 X.K C Ce m E) := PSs.weak (pss_cons h pss_dead) fun D σ H q => q
theorem rfor1 {X : Cx} {C Ce : Addr} {mi : MI} {ms : MS} {mr : MR} {E : Value → Option Addr → Hp → Prop} {st : Stmt} (t : Tg) (h : PS X st (tFor (tMI X.K C mi) (t.g X.K) (fun D σ H => tM1 X.K C Ce mr E D σ H ∨ tMS X.K C ms D σ H))) : PS X st (tM1 X.K C Ce (mRFor t mi ms mr) E) := PS.weak h fun D σ H ⟨W0, W, ρ, S, ys, S', eH, R, em, p⟩ => by
  subst eH
  unfold mRFor at em
  split at em
  · rename_i xs S1 e1
    refine ⟨W0, W, ρ, S, xs, S1, rfl, R, e1, fun J W1 R1 g1 ok => ?_⟩
    refine ⟨fun i m σ H => m = xs.length - i ∧ i ≤ xs.length ∧ ∃ W2 ρ2 S2, H = W2.H ∧ GroF W1 W2 ∧ Rel X.K C W0 W2 σ ρ2 S2 ∧ frL t ms mr (xs.drop i) ρ2 S2 = some (ys, S'), ⟨xs.length, (Nat.sub_zero _).symm, Nat.zero_le _, W1, ρ, S1, rfl, GroF.refl _, R1, em⟩, ?_⟩
    rintro i m σ H ⟨rfl, hi, W2, ρ2, S2, rfl, g2, R2, e2⟩
    by_cases hlt : i < xs.length
    · refine .inr ⟨ok.go i W2 S2 g2 R2.i hlt, fun σ' H' => ∃ W3 ρ3 S3, H' = W3.H ∧ GroF W1 W3 ∧ Rel X.K C W0 W3 σ' ρ3 S3 ∧ frL t ms mr (xs.drop (i + 1)) ρ3 S3 = some (ys, S'), fun σ' H' n => ⟨xs.length - (i + 1), by omega, rfl, hlt, n⟩, fun v H' y => ?_⟩
      rw [List.drop_eq_getElem_cons hlt] at e2
      obtain ⟨W3, rfl, g3, i3, r3⟩ := ok.yld i W2 S2 v H' xs[i] g2 R2.i (List.getElem?_eq_getElem hlt) y
      have R3 := R2.ext g3 i3
      unfold frL at e2
      split at e2
      · rename_i ρ3 e3
        refine t.ok R3 r3 e3 fun σ' R' _ => ?_
        have g3' := g2.trans g3.groF
        split at e2
        · rename_i z e4
          cases e2
          exact .inl ⟨W0, W3, ρ3, S2, ys, S', rfl, R', e4, p⟩
        · split at e2
          · rename_i ρ4 S4 e4
            exact .inr ⟨W0, W3, ρ3, S2, _, rfl, R', e4, fun σ2 W4 g4 R4 => ⟨W4, ρ4, S4, rfl, g3'.trans g4, R4, e2⟩⟩
          · cases e2
      · cases e2
    · have e : i = xs.length := by omega
      subst e
      rw [List.drop_length] at e2
      cases e2
  · cases em
end BL

namespace BL
open PySem PySem.Spec PyProof.Rows L2
/-! defs that raise errors with fields anywhere: what they end with asks nothing of the slots -/
def tM2 (K : PySem.W.Frag) (C Ce : Addr) (fs : List Str) (m : MR) (E : Value → Option Addr → Hp → Prop) : TS := fun _ σ H => ∃ W0 W ρ S ys S', H = W.H ∧ Rel K C W0 W σ ρ S ∧ m ρ S = some (ys, S') ∧
  ∀ us d W', Gro W0 W' → Inv1 K C W' S' → RepAll K C W'.F W'.θ us ys → us.length = fs.length → W0.H d = none → W'.H d = some (.xd (fs.zip us).reverse) → E (.ref Ce) (some d) W'.H
def mRSeqO (m : MR) (ms : MS) (r : MR) : MR := fun ρ S => match m ρ S with
  | some z => some z
  | none => match ms ρ S with
    | some (.nx ρ1 S1) => r ρ1 S1
    | _ => none
section
variable {X : Cx} {C Ce : Addr} {fs : List Str} {m r mr : MR} {ms : MS} {mi : MI} {E : Value → Option Addr → Hp → Prop} {st : Stmt} {rest : List Stmt}
theorem rlast2 (h : PSs X rest (tMR X.K C Ce fs r (fun c d _ H => E c d H))) : PSs X rest (tM2 X.K C Ce fs r E) :=
  PSs.weak h fun D σ H ⟨W0, W, ρ, S, ys, S', eH, R, em, q⟩ => ⟨W0, W, ρ, S, ys, S', eH, R, em, fun us d W' g R' ra l n e => q us d W' R'.e R'.i ra l (older R.e n) e⟩
theorem rhead2 (h : PS X st (tM2 X.K C Ce fs r E)) : PSs X (st :: rest) (tM2 X.K C Ce fs r E) := PSs.weak (pss_cons h pss_dead) fun D σ H q => q
theorem rst2 (h : PS X st (tMR X.K C Ce fs r (fun c d _ H => E c d H))) : PS X st (tM2 X.K C Ce fs r E) :=
  PS.weak h fun D σ H ⟨W0, W, ρ, S, ys, S', eH, R, em, q⟩ => ⟨W0, W, ρ, S, ys, S', eH, R, em, fun us d W' g R' ra l n e => q us d W' R'.e R'.i ra l (older R.e n) e⟩
theorem rseq2 (h1 : PS X st (tMS X.K C ms)) (h2 : PSs X rest (tM2 X.K C Ce fs r E)) : PSs X (st :: rest) (tM2 X.K C Ce fs (mRSeq ms r) E) :=
  PSs.weak (pss_cons h1 h2) fun D σ H ⟨W0, W, ρ, S, ys, S', eH, R, em, q⟩ => by
  subst eH
  unfold mRSeq at em
  split at em
  · rename_i ρ1 S1 e1
    exact ⟨W0, W, ρ, S, _, rfl, R, e1, fun σ1 W1 g1 R1 => ⟨W0, W1, ρ1, S1, ys, S', rfl, R1, em, q⟩⟩
  · cases em
theorem rseqO2 (h0 : PS X st (tM2 X.K C Ce fs m E)) (h1 : PS X st (tMS X.K C ms)) (h2 : PSs X rest (tM2 X.K C Ce fs r E)) : PSs X (st :: rest) (tM2 X.K C Ce fs (mRSeqO m ms r) E) :=
  PSs.weak (pss_or (rhead2 h0) (pss_cons h1 h2)) fun D σ H ⟨W0, W, ρ, S, ys, S', eH, R, em, q⟩ => by
  unfold mRSeqO at em
  cases hm : m ρ S with
  | some z =>
    rw [hm] at em
    cases em
    exact .inl ⟨W0, W, ρ, S, _, _, eH, R, hm, q⟩
  | none =>
    rw [hm] at em
    subst eH
    simp only [] at em
    split at em
    · rename_i ρ1 S1 e1
      exact .inr ⟨W0, W, ρ, S, _, rfl, R, e1, fun σ1 W1 g1 R1 => ⟨W0, W1, ρ1, S1, ys, S', rfl, R1, em, q⟩⟩
    · cases em
theorem rfor2 (t : Tg) (h : PS X st (tFor (tMI X.K C mi) (t.g X.K) (fun D σ H => tM2 X.K C Ce fs mr E D σ H ∨ tMS X.K C ms D σ H))) : PS X st (tM2 X.K C Ce fs (mRFor t mi ms mr) E) := PS.weak h fun D σ H ⟨W0, W, ρ, S, ys, S', eH, R, em, p⟩ => by
  subst eH
  unfold mRFor at em
  split at em
  · rename_i xs S1 e1
    refine ⟨W0, W, ρ, S, xs, S1, rfl, R, e1, fun J W1 R1 g1 ok => ?_⟩
    refine ⟨fun i m σ H => m = xs.length - i ∧ i ≤ xs.length ∧ ∃ W2 ρ2 S2, H = W2.H ∧ GroF W1 W2 ∧ Rel X.K C W0 W2 σ ρ2 S2 ∧ frL t ms mr (xs.drop i) ρ2 S2 = some (ys, S'), ⟨xs.length, (Nat.sub_zero _).symm, Nat.zero_le _, W1, ρ, S1, rfl, GroF.refl _, R1, em⟩, ?_⟩
    rintro i m σ H ⟨rfl, hi, W2, ρ2, S2, rfl, g2, R2, e2⟩
    by_cases hlt : i < xs.length
    · refine .inr ⟨ok.go i W2 S2 g2 R2.i hlt, fun σ' H' => ∃ W3 ρ3 S3, H' = W3.H ∧ GroF W1 W3 ∧ Rel X.K C W0 W3 σ' ρ3 S3 ∧ frL t ms mr (xs.drop (i + 1)) ρ3 S3 = some (ys, S'), fun σ' H' n => ⟨xs.length - (i + 1), by omega, rfl, hlt, n⟩, fun v H' y => ?_⟩
      rw [List.drop_eq_getElem_cons hlt] at e2
      obtain ⟨W3, rfl, g3, i3, r3⟩ := ok.yld i W2 S2 v H' xs[i] g2 R2.i (List.getElem?_eq_getElem hlt) y
      have R3 := R2.ext g3 i3
      unfold frL at e2
      split at e2
      · rename_i ρ3 e3
        refine t.ok R3 r3 e3 fun σ' R' _ => ?_
        have g3' := g2.trans g3.groF
        split at e2
        · rename_i z e4
          cases e2
          exact .inl ⟨W0, W3, ρ3, S2, ys, S', rfl, R', e4, p⟩
        · split at e2
          · rename_i ρ4 S4 e4
            exact .inr ⟨W0, W3, ρ3, S2, _, rfl, R', e4, fun σ2 W4 g4 R4 => ⟨W4, ρ4, S4, rfl, g3'.trans g4, R4, e2⟩⟩
          · cases e2
      · cases e2
    · have e : i = xs.length := by omega
      subst e
      rw [List.drop_length] at e2
      cases e2
  · cases em
end
theorem okR2 {P : Program} {w : World} {K : PySem.W.Frag} {mg : Str → Option Value} {base : Heap} {C Ce : Addr} {fs : List Str} {x qual : Str} {st : Stmt} {f : Addr} {fd : FuncData} {N ps : List Str} {k : Nat} {m : MR} (F : Fun K x qual st f fd) (Sc : FnScope N ps (defScope st))
    (hb : ∀ (cdv : Value) (A : Around) (outer : List Env) (s : Shared) (H : Hp) (E : XK), Room k (A.deeper (envOfC qual (defScope st) s.heap.objs.size f cdv)) → PSs (cxOf (L2.CX P w) P w K mg base N qual (defScope st) f cdv A outer s H E) (defBody st) (tM2 K C Ce fs m E)) :
    FnOk P w K mg base (L2.CX P w) (k + 1) f fd ps (spR K C Ce fs (mDefR ps.length N.length m)) := by
  refine F.okX Sc (fun vs H Q E h => ?_) (fun cdv A outer s H vs Q E hr h => ?_)
  · obtain ⟨W, S, xs, ys, S', eH, i, r, em, q⟩ := h
    unfold mDefR at em
    split at em
    · rename_i hl
      rw [r.len, hl]
    · cases em
  · refine ⟨_, hb cdv A outer s H E hr, ?_⟩
    obtain ⟨W, S, xs, ys, S', eH, i, r, em, q⟩ := h
    subst eH
    unfold mDefR at em
    split at em
    · rename_i hl
      exact ⟨W, W, _, S, ys, S', rfl, rel_start i r hl, em, q⟩
    · cases em
end BL

namespace BL
open PySem PySem.Spec PyProof.Rows L2
/-! BadText -/
def r_row_inF : MR := mRSeq (mAsg (.nm 4) (mCall m_event_in (mCons (mVar 3) mNil))) (mRIf (mTru (mOp fIs (mVar 4) (mC .non))) (mRz 1 (mCons (mVar 2) mNil)) (fun _ _ => none))
def r_row_inB : MR := mRSeq (mIf (mTru (mOp fEq (mVar 0) (mC (.str "-")))) (mRet (mTup mNil)) mSkip) (mRSeq (mNewO 1 mNil) (mRFor (.tp [2, 3]) (mEnu (mOp fSplit (mVar 0) (mC (.str ", ")))) m_row_inF1 r_row_inF))
def r_row_in := mDefR 1 5 r_row_inB
def m_law_heardB : MS := mSeq (mAsg (.tp [1, 2]) (mTup (mCons (mC .non) (mCons (mC .non) mNil)))) (mSeq (mTryO "BadText" ["place"] 3 1 (mRCall r_row_in (mCons (mVar 0) mNil)) (mAsg (.nm 2) (mCall m_row_in (mCons (mVar 0) mNil))))
  (mRet (mIfE (mTru (mOp fIs (mVar 1) (mC .non))) (mVar 2) (mLst (mCons (mXa "BadText" "place" (mVar 1)) mNil)))))
def m_law_heard : List PV → List PV → Option (PV × List PV) := mDef 1 4 m_law_heardB
end BL

namespace BL
open PySem PySem.Spec PyProof.Rows L2
open C8 (Cal Mak pe_c pe_mk)

def m_law_box : List PV → List PV → Option (PV × List PV) := m_law_boxC 62302
def m_law_by_hand_rightB : MS := (mSeq (mAsg (.nm 0) (mLst (mCons (mTup (mCons (mC (.str "")) (mCons (mC (.int 0)) mNil))) (mCons (mTup (mCons (mC (.str " ")) (mCons (mC (.int 0)) mNil))) (mCons (mTup (mCons (mC (.str "+5,")) (mCons (mC (.int 0)) mNil))) (mCons (mTup (mCons (mC (.str "+5, ")) (mCons (mC (.int 1)) mNil))) (mCons (mTup (mCons (mC (.str "5")) (mCons (mC (.int 0)) mNil))) (mCons (mTup (mCons (mC (.str "+-5")) (mCons (mC (.int 0)) mNil))) (mCons (mTup (mCons (mC (.str "--5")) (mCons (mC (.int 0)) mNil))) (mCons (mTup (mCons (mC (.str "+05")) (mCons (mC (.int 0)) mNil))) mNil))))))))))
  (mSeq (mAsg (.nm 0) (mOp fAdd (mVar 0) (mLst (mCons (mTup (mCons (mC (.str "-0")) (mCons (mC (.int 0)) mNil))) (mCons (mTup (mCons (mC (.str "-05")) (mCons (mC (.int 0)) mNil))) mNil)))))
  (mSeq (mAsg (.nm 0) (mOp fAdd (mVar 0) (mLst (mCons (mTup (mCons (mC (.str ">=5")) (mCons (mC (.int 0)) mNil))) (mCons (mTup (mCons (mC (.str ">= ")) (mCons (mC (.int 0)) mNil))) (mCons (mTup (mCons (mC (.str ">=  5")) (mCons (mC (.int 0)) mNil))) (mCons (mTup (mCons (mC (.str "<= -0")) (mCons (mC (.int 0)) mNil))) (mCons (mTup (mCons (mC (.str "< 5")) (mCons (mC (.int 0)) mNil))) (mCons (mTup (mCons (mC (.str "=< 5")) (mCons (mC (.int 0)) mNil))) mNil)))))))))
  (mSeq (mAsg (.nm 0) (mOp fAdd (mVar 0) (mLst (mCons (mTup (mCons (mC (.str "+5 , -3")) (mCons (mC (.int 0)) mNil))) (mCons (mTup (mCons (mC (.str "+5,-3")) (mCons (mC (.int 0)) mNil))) mNil)))))
  (mSeq (mAsg (.nm 0) (mOp fAdd (mVar 0) (mLst (mCons (mTup (mCons (mC (.str "+5, -3, ")) (mCons (mC (.int 2)) mNil))) (mCons (mTup (mCons (mC (.str "-, +5")) (mCons (mC (.int 0)) mNil))) (mCons (mTup (mCons (mC (.str "+5, -")) (mCons (mC (.int 1)) mNil))) (mCons (mTup (mCons (mC (.str " +5")) (mCons (mC (.int 0)) mNil))) (mCons (mTup (mCons (mC (.str "+5 ")) (mCons (mC (.int 0)) mNil))) (mCons (mTup (mCons (mC (.str ">= +5")) (mCons (mC (.int 0)) mNil))) (mCons (mTup (mCons (mC (.str "<= 1_0")) (mCons (mC (.int 0)) mNil))) mNil))))))))))
  (mSeq (mAsg (.nm 0) (mOp fAdd (mVar 0) (mLst (mCons (mTup (mCons (mC (.str "+5; -3")) (mCons (mC (.int 0)) mNil))) (mCons (mTup (mCons (mC (.str "> = 5")) (mCons (mC (.int 0)) mNil))) (mCons (mTup (mCons (mC (.str "+")) (mCons (mC (.int 0)) mNil))) (mCons (mTup (mCons (mC (.str ">=")) (mCons (mC (.int 0)) mNil))) (mCons (mTup (mCons (mC (.str "<= 05")) (mCons (mC (.int 0)) mNil))) (mCons (mTup (mCons (mC (.str ">= 00")) (mCons (mC (.int 0)) mNil))) (mCons (mTup (mCons (mC (.str "+1.0")) (mCons (mC (.int 0)) mNil))) mNil))))))))))
  (mSeq (mAsg (.nm 0) (mOp fAdd (mVar 0) (mLst (mCons (mTup (mCons (mC (.str "add 5")) (mCons (mC (.int 0)) mNil))) mNil))))
  (mSeq (mAsg (.nm 0) (mOp fAdd (mVar 0) (mLst (mCons (mTup (mCons (mC (.str "+1, +2, x, y")) (mCons (mC (.int 2)) mNil))) (mCons (mTup (mCons (mC (.str "+1, >= 2, <= 3, 4, -")) (mCons (mC (.int 3)) mNil))) (mCons (mTup (mCons (mC (.str "=> 1")) (mCons (mC (.int 0)) mNil))) (mCons (mTup (mCons (mC (.str "<= --1")) (mCons (mC (.int 0)) mNil))) mNil)))))))
  (mSeq (mAsg (.nm 0) (mOp fAdd (mVar 0) (mLst (mCons (mTup (mCons (mC (.str "+1,  +2")) (mCons (mC (.int 1)) mNil))) (mCons (mTup (mCons (mC (.str "+ 1")) (mCons (mC (.int 0)) mNil))) (mCons (mTup (mCons (mC (.str "- 1")) (mCons (mC (.int 0)) mNil))) mNil))))))
  (mSeq (mAsg (.nm 0) (mOp fAdd (mVar 0) (mLst (mCons (mTup (mCons (mC (.str "<=  1, +1")) (mCons (mC (.int 0)) mNil))) (mCons (mTup (mCons (mC (.str "+1, -0, -")) (mCons (mC (.int 1)) mNil))) mNil)))))
  (mSeq (mAsg (.nm 0) (mOp fAdd (mVar 0) (mLst (mCons (mTup (mCons (mC (.str "+5\n")) (mCons (mC (.int 0)) mNil))) (mCons (mTup (mCons (mC (.str "\n+5")) (mCons (mC (.int 0)) mNil))) (mCons (mTup (mCons (mC (.str "+5, -3\n")) (mCons (mC (.int 1)) mNil))) (mCons (mTup (mCons (mC (.str ">= 5\n")) (mCons (mC (.int 0)) mNil))) (mCons (mTup (mCons (mC (.str "+5\n, -3")) (mCons (mC (.int 0)) mNil))) (mCons (mTup (mCons (mC (.str "-\n")) (mCons (mC (.int 0)) mNil))) mNil)))))))))
  (mSeq (mAsg (.nm 0) (mOp fAdd (mVar 0) (mLst (mCons (mTup (mCons (mC (.str "+5,\n-3")) (mCons (mC (.int 0)) mNil))) mNil))))
  (mSeq (mAsg (.nm 1) (mLc (.tp [2, 3]) (mSeqI (mVar 0)) mYes (mCall m_law_heard (mCons (mVar 2) mNil)) [2, 3]))
  (mSeq (mIf (mNotT (mTru (mFn (fSame 3) (mCons (mVar 1) (mCons (mLc (.tp [2, 3]) (mSeqI (mVar 0)) mYes (mLst (mCons (mVar 3) mNil)) [2, 3]) mNil))))) (mRet (mC (.bl false))) mSkip)
  (mRet (mFn (fSame 3) (mCons (mLst (mCons (mCall m_law_heard (mCons (mC (.str "-")) mNil)) (mCons (mCall m_law_heard (mCons (mC (.str "-1, -1")) mNil)) mNil))) (mCons (mLst (mCons (mTup mNil) (mCons (mTup (mCons (mTup (mCons (mC (.str "add")) (mCons (mUn fNeg (mC (.int 1))) mNil))) (mCons (mTup (mCons (mC (.str "add")) (mCons (mUn fNeg (mC (.int 1))) mNil))) mNil))) mNil))) mNil))))))))))))))))))
def m_law_by_hand_right : List PV → List PV → Option (PV × List PV) := mDef 0 4 m_law_by_hand_rightB
def m_law_eventB : MS := (mSeq (mAsg (.nm 2) (mCall m_law_of (mCons (mVar 0) (mCons (mLst (mCons (mC (.str "add")) (mCons (mC (.str "add")) (mCons (mC (.str "floor")) (mCons (mC (.str "cap")) mNil))))) mNil))))
  (mRet (mTup (mCons (mVar 2) (mCons (mOp fSub (mCall m_law_take (mCons (mVar 0) (mCons (mOp fAdd (mOp fMulQ (mC (.int 2)) (mVar 1)) (mC (.int 1))) mNil))) (mVar 1)) mNil)))))
def m_law_event : List PV → List PV → Option (PV × List PV) := mDef 2 3 m_law_eventB
def m_law_rowB : MS := (mSeq (mAsg (.nm 3) (mIfE (mTru (mOp fEq (mCall m_law_take (mCons (mVar 0) (mCons (mC (.int 4)) mNil))) (mC (.int 0)))) (mCall m_law_take (mCons (mVar 0) (mCons (mOp fAdd (mVar 1) (mC (.int 1))) mNil))) (mOp fAdd (mC (.int 1)) (mCall m_law_take (mCons (mVar 0) (mCons (mVar 1) mNil))))))
  (mRet (mFn fTuple (mCons (mLc (.nm 4) (mRng1 (mVar 3)) mYes (mCall m_law_event (mCons (mVar 0) (mCons (mVar 2) mNil))) [4]) mNil))))
def m_law_row : List PV → List PV → Option (PV × List PV) := mDef 3 5 m_law_rowB
def m_law_pair_textB : MS := (mSeq (mAsg (.tp [1, 2]) (mVar 0))
  (mSeq (mIf (mTru (mOp fEq (mVar 1) (mC (.str "add")))) (mRet (mIfE (mTru (mOp fLt (mVar 2) (mC (.int 0)))) (mFn fStrI (mCons (mVar 2) mNil)) (mOp fAdd (mC (.str "+")) (mFn fStrI (mCons (mVar 2) mNil))))) mSkip)
  (mRet (mOp fAdd (mIfE (mTru (mOp fEq (mVar 1) (mC (.str "floor")))) (mC (.str ">= ")) (mC (.str "<= "))) (mFn fStrI (mCons (mVar 2) mNil))))))
def m_law_pair_text : List PV → List PV → Option (PV × List PV) := mDef 1 3 m_law_pair_textB
def m_law_pickF1 : MS := (mAppPop 4 3 (mCall m_law_take (mCons (mVar 0) (mCons (mLenO 3) mNil))))
def m_law_pickB : MS := (mSeq (mParF 3 4 (mfL (mVar 1) (mfO mNil mfNil)))
  (mSeq (mFor (.nm 5) (mRng1 (mFn fMin2 (mCons (mFn fIntQ (mCons (mVar 2) mNil)) (mCons (mLenO 3) mNil)))) m_law_pickF1)
  (mFrz 4 (mRet (mVar 4)))))
def m_law_pick : List PV → List PV → Option (PV × List PV) := mDef 3 6 m_law_pickB
def m_law_bentB : MS := (mSeq (mAsg (.nm 2) (mCall m_law_take (mCons (mVar 0) (mCons (mC (.int 7)) mNil))))
  (mSeq (mIf (mTru (mOp fEq (mVar 2) (mC (.int 0)))) (mRet (mOp fAdd (mVar 1) (mC (.str " ")))) mSkip)
  (mSeq (mIf (mTru (mOp fEq (mVar 2) (mC (.int 1)))) (mRet (mOp fAdd (mC (.str " ")) (mVar 1))) mSkip)
  (mSeq (mIf (mTru (mOp fEq (mVar 2) (mC (.int 2)))) (mRet (mOp fAdd (mVar 1) (mCall m_law_of (mCons (mVar 0) (mCons (mLst (mCons (mC (.str "x")) (mCons (mC (.str "-")) (mCons (mC (.str ".")) (mCons (mC (.str ";")) (mCons (mC (.str ",")) mNil)))))) mNil))))) mSkip)
  (mSeq (mIf (mTru (mOp fEq (mVar 2) (mC (.int 3)))) (mRet (mCall m_law_of (mCons (mVar 0) (mCons (mLst (mCons (mC (.str "")) (mCons (mC (.str "-")) (mCons (mC (.str "+")) (mCons (mC (.str ">=")) (mCons (mC (.str "7")) (mCons (mC (.str ">=7")) (mCons (mC (.str "-0")) (mCons (mC (.str "+07")) (mCons (mC (.str ">= -0")) mNil)))))))))) mNil)))) mSkip)
  (mSeq (mIf (mTru (mOp fEq (mVar 2) (mC (.int 4)))) (mRet (mIfE (mTru (mOp fInS (mOp fIxS (mVar 1) (mC (.int 0))) (mC (.str "+<>")))) (mSlS (mVar 1) (mP1 (mC (.int 1))) mP0) (mOp fAdd (mC (.str "+")) (mVar 1)))) mSkip)
  (mSeq (mIf (mTru (mOp fEq (mVar 2) (mC (.int 5)))) (mRet (mIfE (mTru (mOp fInS (mC (.str " ")) (mVar 1))) (mUn (fRepl " " "  ") (mVar 1)) (mOp fAdd (mOp fAdd (mOp fIxS (mVar 1) (mC (.int 0))) (mC (.str "0"))) (mSlS (mVar 1) (mP1 (mC (.int 1))) mP0)))) mSkip)
  (mRet (mOp fAdd (mOp fAdd (mVar 1) (mC (.str "+"))) (mVar 1))))))))))
def m_law_bent : List PV → List PV → Option (PV × List PV) := mDef 2 3 m_law_bentB
def m_law_rightF1 : MS := (mPutO 3 (mVar 5) (mCall m_law_bent (mCons (mVar 0) (mCons (mIxO 3 (mVar 5)) mNil))))
def m_law_rightF2 : MS := (mSeq (mAsg (.nm 2) (mCall m_law_row (mCons (mVar 0) (mCons (mC (.int 6)) (mCons (mC (.int 30)) mNil)))))
  (mIf (mTru (mOp fNe (mVar 2) (mTup mNil))) (mSeq (mNewLc 3 (.nm 6) (mSeqI (mVar 2)) mYes (mCall m_law_pair_text (mCons (mVar 6) mNil)) [6])
  (mSeq (mAsg (.nm 4) (mFn fSorted (mCons (mCall m_law_pick (mCons (mVar 0) (mCons (mLrg1 (mLenO 3)) (mCons (mOp fAdd (mC (.int 1)) (mCall m_law_take (mCons (mVar 0) (mCons (mC (.int 2)) mNil)))) mNil)))) mNil)))
  (mSeq (mFor (.nm 5) (mSeqI (mVar 4)) m_law_rightF1)
  (mFrz 3 (mIf (mAndT (mTru (mOp fNe (mVar 3) (mLst (mCons (mC (.str "-")) mNil)))) (mNotT (mTru (mFn (fSame 3) (mCons (mCall m_law_heard (mCons (mOp fJoin (mC (.str ", ")) (mVar 3)) mNil)) (mCons (mLst (mCons (mOp fIx (mVar 4) (mC (.int 0))) mNil)) mNil)))))) (mRet (mC (.bl false))) mSkip))))) mSkip))
def m_law_rightB : MS := (mSeq (mIf (mNotT (mTru (mCall m_law_by_hand_right mNil))) (mRet (mC (.bl false))) mSkip)
  (mSeq (mFor (.nm 1) (mRng1 (mC (.int 4))) m_law_rightF2)
  (mRet (mC (.bl true)))))
def m_law_right : List PV → List PV → Option (PV × List PV) := mDef 1 7 m_law_rightB
end BL

namespace BL
open PySem PySem.Spec PyProof.Rows L2
theorem held_ok (l : Int) (lo hi : Option Int) (h : leO lo hi) (S : List PV) : m_held [.int l, PO' lo, PO' hi] S = some (.int (bnd l lo hi), S) := by
  cases lo with
  | none =>
    cases hi with
    | none => simp [m_held, e_def, m_heldB, bnd]
    | some b => by_cases c : b < l <;> simp [m_held, e_def, m_heldB, bnd, c]
  | some a =>
    cases hi with
    | none => by_cases c : l < a <;> simp [m_held, e_def, m_heldB, bnd, c]
    | some b =>
      have := h a b rfl rfl
      by_cases c : l < a
      · simp [m_held, e_def, m_heldB, bnd, c]
        omega
      · by_cases d : b < l <;> simp [m_held, e_def, m_heldB, bnd, c, d]
theorem led_ok {s f c : Option Int} (h : wfW s f c) (x : Int) (S : List PV) : m_led [.way s f c, .int x] S = some (.int (ld s f c x), S) := by
  cases s with
  | none =>
    obtain ⟨a, rfl, rfl⟩ := h.2.1 rfl
    simp [m_led, e_def, m_ledB, ld]
  | some s => simp [m_led, e_def, m_ledB, ld, held_ok _ _ _ h.1]
theorem call_ok {s f c : Option Int} (h : wfW s f c) (x : Int) (S : List PV) : m_call [.way s f c, .int x] S = some (.int (ld s f c x), S) := by
  simp [m_call, e_def, m_callB, led_ok h]
theorem ix_box {T : List PV} {n : Nat} {a b c : Int} (h : T[n]? = some (.lst [.int a, .int b, .int c])) : fIx T (.mref n) (.int 0) = some (.int a) ∧ fIx T (.mref n) (.int 1) = some (.int b) ∧ fIx T (.mref n) (.int 2) = some (.int c) := by
  simp [fIx, h, ixP]
theorem take_ok {S : List PV} {n : Nat} {z m : Int} (h : BoxAt S n z) (hz : z ≤ 1000000000) (m0 : 0 < m) (m1 : m < 1000000000) :
    ∃ r S', m_law_take [.mref n, .int m] S = some (.int r, S') ∧ 0 ≤ r ∧ r < m ∧ BoxAt S' n (z + 1) := by
  obtain ⟨x, y, z', e, z0, z1⟩ := h
  have hl : n < S.length := (List.getElem?_eq_some_iff.mp e).1
  obtain ⟨a0, a1, a2⟩ := ix_box e
  have mm : m.natAbs < 2 ^ 4000 := Nat.lt_of_lt_of_le (show m.natAbs < 2 ^ 30 by omega) (Nat.pow_le_pow_right (by decide) (by decide))
  have b1 : (1000003 : Nat) < 2 ^ 4000 := Nat.lt_of_lt_of_le (show 1000003 < 2 ^ 30 by decide) (Nat.pow_le_pow_right (by decide) (by decide))
  have b2 : (64 : Nat) < 2 ^ 4000 := Nat.lt_of_lt_of_le (show 64 < 2 ^ 30 by decide) (Nat.pow_le_pow_right (by decide) (by decide))
  by_cases c : 0 < x
  · refine ⟨x % m, S.set n (.lst [.int (x / m), .int y, .int z']), ?_, Int.emod_nonneg _ (by omega), Int.emod_lt_of_pos _ m0, x / m, y, z', ?_, z0, by omega⟩
    · simp [m_law_take, e_def, m_law_takeB, a0, c, m0, mm, e, ixP]
    · rw [List.getElem?_set_self hl]
  · have e2 : (S.set n (.lst [.int x, .int y, .int (z' + 1)]))[n]? = some (.lst [.int x, .int y, .int (z' + 1)]) := List.getElem?_set_self hl
    obtain ⟨d0, d1, d2⟩ := ix_box e2
    have k1 : (39373 + (z' + 1)).natAbs < 2 ^ 64 := by omega
    have q1 := Int.emod_nonneg ((y + 48271 * (z' + 1)) * (39373 + (z' + 1))) (show (2147483647 : Int) ≠ 0 by decide)
    have q2 := Int.emod_lt_of_pos ((y + 48271 * (z' + 1)) * (39373 + (z' + 1))) (show (0 : Int) < 2147483647 by decide)
    generalize ew : (y + 48271 * (z' + 1)) * (39373 + (z' + 1)) % 2147483647 = w at q1 q2
    have q3 := Int.emod_nonneg w (show (40009 : Int) ≠ 0 by decide)
    have q4 := Int.emod_lt_of_pos w (show (0 : Int) < 40009 by decide)
    have k2 : (w % 40009 + 7).natAbs < 2 ^ 64 := by omega
    have ew' : (y + 48271 * (z' + 1)) * (39373 + (z' + 1)) % 2147483647 = w := ew
    refine ⟨_, S.set n (.lst [.int x, .int y, .int (z' + 1)]), ?_, Int.emod_nonneg (((w + (z' + 1) + y / 1000003) * (w % 40009 + 7) % 2147483629 * 48271 + w) % 2147483587 / 64) (show m ≠ 0 by omega), Int.emod_lt_of_pos _ m0, x, y, z' + 1, e2, by omega, by omega⟩
    simp [m_law_take, e_def, m_law_takeB, a0, c, m0, mm, e, a2, ixP, d0, d1, d2, k1, ew', k2, b1, b2]
theorem of_ok {S xs : List PV} {n : Nat} {z : Int} (h : BoxAt S n z) (hz : z ≤ 1000000000) (hx : xs ≠ []) (hl : xs.length < 1000000) :
    ∃ (i : Nat) (v : PV) (S' : List PV), m_law_of [.mref n, .lst xs] S = some (v, S') ∧ xs[i]? = some v ∧ BoxAt S' n (z + 1) := by
  have h0 : 0 < xs.length := List.length_pos_iff.mpr hx
  obtain ⟨r, S', e, r0, r1, hB⟩ := take_ok (m := xs.length) h hz (by omega) (by omega)
  obtain ⟨i, rfl⟩ := Int.eq_ofNat_of_zero_le r0
  have hi : i < xs.length := by omega
  refine ⟨i, xs[i], S', ?_, List.getElem?_eq_getElem hi, hB⟩
  simp [m_law_of, e_def, m_law_ofB, e, ix_at (S := S') hi, List.getElem?_eq_getElem hi]
/-! loops by an invariant -/
theorem forL_inv {t : Tg} {mb : MS} (P : List SlV → List PV → Prop) : ∀ {xs : List PV} {ρ : List SlV} {S : List PV}, (∀ x ∈ xs, ∀ ρ S, P ρ S → ∃ ρ1 ρ2 S2, t.put x ρ = some ρ1 ∧ mb ρ1 S = some (.nx ρ2 S2) ∧ P ρ2 S2) → P ρ S → ∃ ρ' S', forL t mb xs ρ S = some (.nx ρ' S') ∧ P ρ' S'
  | [], ρ, S, _, p => ⟨ρ, S, rfl, p⟩
  | x :: xs, ρ, S, h, p => by
    obtain ⟨ρ1, ρ2, S2, e1, e2, p2⟩ := h x List.mem_cons_self ρ S p
    obtain ⟨ρ', S', e, p'⟩ := forL_inv P (xs := xs) (fun y hy => h y (List.mem_cons_of_mem _ hy)) p2
    refine ⟨ρ', S', ?_, p'⟩
    unfold forL
    rw [e1]
    simp only [e2]
    exact e
/-- a comprehension of draws -/
theorem lcL_inv {t : Tg} {mt : MT} {me : ME} {ρ : List SlV} (P : Nat → List PV → Prop) (Q : PV → Prop) : ∀ {xs : List PV} {k : Nat} {S : List PV}, (∀ x ∈ xs, ∀ j S, j < k + xs.length → P j S → ∃ ρ1 y S2, t.put x ρ = some ρ1 ∧ mt ρ1 S = some (true, S) ∧ me ρ1 S = some (y, S2) ∧ Q y ∧ P (j + 1) S2) → P k S →
    ∃ ys S', lcL t mt me ρ xs S = some (ys, S') ∧ ys.length = xs.length ∧ (∀ y ∈ ys, Q y) ∧ P (k + xs.length) S'
  | [], k, S, _, p => ⟨[], S, rfl, rfl, (fun _ h => by cases h), p⟩
  | x :: xs, k, S, h, p => by
    obtain ⟨ρ1, y, S2, e1, e2, e3, q, p2⟩ := h x List.mem_cons_self k S (by simp) p
    obtain ⟨ys, S', e, hl, hq, p'⟩ := lcL_inv P Q (xs := xs) (k := k + 1) (fun y hy j S hj => h y (List.mem_cons_of_mem _ hy) j S (by simp; omega)) p2
    refine ⟨y :: ys, S', ?_, by simp [hl], fun z hz => ?_, by simpa [Nat.add_assoc, Nat.add_comm 1] using p'⟩
    · unfold lcL
      rw [e1]
      simp only [e2, e3, e]
    · rcases List.mem_cons.mp hz with h | h
      · rw [h]; exact q
      · exact hq z h
/-- a comprehension that changes nothing -/
theorem lcL_pure {t : Tg} {mt : MT} {me : ME} {ρ : List SlV} {S : List PV} (p : PV → Bool) (g : PV → PV) : ∀ {xs : List PV}, (∀ x ∈ xs, ∃ ρ1, t.put x ρ = some ρ1 ∧ mt ρ1 S = some (p x, S) ∧ (p x = true → me ρ1 S = some (g x, S))) → lcL t mt me ρ xs S = some ((xs.filter p).map g, S)
  | [], _ => rfl
  | x :: xs, h => by
    obtain ⟨ρ1, e1, e2, e3⟩ := h x List.mem_cons_self
    have ih := lcL_pure p g (xs := xs) fun y hy => h y (List.mem_cons_of_mem _ hy)
    unfold lcL
    rw [e1]
    simp only [e2]
    cases c : p x with
    | true => simp only [e3 c, ih, List.filter_cons, c, if_true, List.map_cons]
    | false => simp [ih, List.filter_cons, c]
theorem rngP_mem : ∀ {n : Nat} {lo : Int} {x : PV}, x ∈ rngP lo n → ∃ i : Int, x = .int i ∧ lo ≤ i ∧ i < lo + n
  | n + 1, lo, x, h => by
    rcases List.mem_cons.mp h with h | h
    · exact ⟨lo, h, by omega, by omega⟩
    · obtain ⟨i, e, a, b⟩ := rngP_mem (n := n) h
      exact ⟨i, e, by omega, by omega⟩
theorem fway3 {s : Int} {f c : Option Int} (h : leO f c) (S : List PV) : fWay S [.int s, PO' f, PO' c] = some (.way (nrm (some s) f c) f c) := by
  have ok : okWb (some s) f c = true := by
    unfold okWb
    cases f with
    | none => rfl
    | some a =>
      cases c with
      | none => rfl
      | some b => simp [h a b rfl rfl]
  show way3 (.int s) (PO' f) (PO' c) = _
  unfold way3
  rw [oP_PO, oP_PO]
  show (if okWb (some s) f c = true then _ else _) = _
  rw [if_pos ok]
theorem wf3 {s : Int} {f c : Option Int} (h : leO f c) : okW (some s) f c := by
  unfold okW
  cases f with
  | none => exact fun z => by cases z
  | some a =>
    cases c with
    | none => exact fun z => by cases z
    | some b => exact ⟨h a b rfl rfl, fun z => by cases z⟩
theorem ld3 {s : Int} {f c : Option Int} (h : leO f c) (x : Int) : ld (nrm (some s) f c) f c x = bnd (x + s) f c := ld_nrm (wf3 h) x _ (fun a e => by cases e; rfl) (fun e => by cases e)
/-! loops by an invariant that counts -/
theorem forL_invN {t : Tg} {mb : MS} (P : Nat → List SlV → List PV → Prop) : ∀ {xs : List PV} {k : Nat} {ρ : List SlV} {S : List PV}, (∀ x ∈ xs, ∀ j ρ S, j < k + xs.length → P j ρ S → ∃ ρ1 ρ2 S2, t.put x ρ = some ρ1 ∧ mb ρ1 S = some (.nx ρ2 S2) ∧ P (j + 1) ρ2 S2) → P k ρ S → ∃ ρ' S', forL t mb xs ρ S = some (.nx ρ' S') ∧ P (k + xs.length) ρ' S'
  | [], k, ρ, S, _, p => ⟨ρ, S, rfl, p⟩
  | x :: xs, k, ρ, S, h, p => by
    obtain ⟨ρ1, ρ2, S2, e1, e2, p2⟩ := h x List.mem_cons_self k ρ S (by simp) p
    obtain ⟨ρ', S', e, p'⟩ := forL_invN P (xs := xs) (k := k + 1) (fun y hy j ρ S hj => h y (List.mem_cons_of_mem _ hy) j ρ S (by simp; omega)) p2
    refine ⟨ρ', S', ?_, by simpa [Nat.add_assoc, Nat.add_comm 1] using p'⟩
    unfold forL
    rw [e1]
    simp only [e2]
    exact e
/-! lists of ints read alike -/
def intL (ns : List Int) : PV := .lst (ns.map .int)
theorem toDs_int : ∀ ns : List Int, PV.toD.toDs (ns.map .int) = some (ns.map .int)
  | [] => rfl
  | n :: ns => by
    rw [List.map_cons, List.map_cons]
    unfold PV.toD.toDs
    rw [toDs_int ns]
    rfl
theorem lay_int : ∀ ns : List Int, PyData.canLayAll0 (ns.map .int) = true ∧ PyData.depthAll (ns.map .int) ≤ 1 ∧ PyData.eqvAll (ns.map .int) (ns.map .int) = true
  | [] => ⟨rfl, by decide, rfl⟩
  | n :: ns => by
    obtain ⟨h1, h2, h3⟩ := lay_int ns
    refine ⟨by simp [PyData.canLayAll0, PyData.canLay0, h1], ?_, by simp [PyData.eqvAll, PyData.eqv, h3]⟩
    simp [PyData.depthAll, PyData.depth]
    omega
theorem eqP_int (ns : List Int) : eqP (intL ns) (intL ns) = some true := by
  obtain ⟨h1, h2, h3⟩ := lay_int ns
  have e : (intL ns).toD = some (.list (ns.map .int)) := by
    unfold intL PV.toD
    rw [toDs_int]
  have sh : SeqAt.shaped (.list (ns.map .int)) = true := by
    unfold SeqAt.shaped
    simp [PyData.canLay0, h1, PyData.depth]
    omega
  unfold eqP
  rw [show (intL ns).scal (intL ns) = none from rfl]
  simp [e, sh, PyData.eqv, h3]
theorem ne_int (ns : List Int) (S : List PV) : fNe S (intL ns) (intL ns) = some (.bl false) := by
  unfold fNe
  rw [eqP_int]
  rfl
theorem eq_int (ns : List Int) (S : List PV) : fEq S (intL ns) (intL ns) = some (.bl true) := by
  unfold fEq
  rw [eqP_int]
def rngI (lo : Int) : Nat → List Int
  | 0 => []
  | n + 1 => lo :: rngI (lo + 1) n
theorem rngP_int : ∀ (n : Nat) (lo : Int), rngP lo n = (rngI lo n).map .int
  | 0, _ => rfl
  | n + 1, lo => by
    show _ :: _ = _ :: _
    rw [rngP_int n]
theorem ne_rng (lo : Int) (n : Nat) (S : List PV) : fNe S (.lst (rngP lo n)) (.lst (rngP lo n)) = some (.bl false) := by
  rw [rngP_int]
  exact ne_int _ S
/-- a part of a range -/
theorem rng_filter {p : PV → Bool} {a b : Int} (hp : ∀ i : Int, p (.int i) = (decide (a ≤ i) && decide (i ≤ b))) : ∀ (n : Nat) (lo : Int), (rngP lo n).filter p = rngP (max lo a) (min (lo + n - 1) b + 1 - max lo a).toNat
  | 0, lo => by
    rw [show (min (lo + (0 : Nat) - 1) b + 1 - max lo a).toNat = 0 by omega]
    rfl
  | n + 1, lo => by
    show (PV.int lo :: rngP (lo + 1) n).filter p = _
    rw [List.filter_cons, hp, rng_filter hp n (lo + 1)]
    by_cases c : a ≤ lo
    · by_cases d : lo ≤ b
      · rw [if_pos (by simp [c, d])]
        rw [show (min (lo + (n + 1 : Nat) - 1) b + 1 - max lo a).toNat = (min (lo + 1 + n - 1) b + 1 - max (lo + 1) a).toNat + 1 by omega, show max lo a = lo by omega, show max (lo + 1) a = lo + 1 by omega]
        rfl
      · rw [if_neg (by simp [c, d])]
        rw [show (min (lo + 1 + n - 1) b + 1 - max (lo + 1) a).toNat = 0 by omega, show (min (lo + (n + 1 : Nat) - 1) b + 1 - max lo a).toNat = 0 by omega]
        rfl
    · rw [if_neg (by simp [c])]
      rw [show max (lo + 1) a = a by omega, show max lo a = a by omega]
      congr 2
      omega
end BL

namespace BL
open PySem PySem.Spec PyProof.Rows L2
/-- read by the kernel -/
def isTr : Option (PV × List PV) → Bool
  | some (.bl true, []) => true
  | _ => false
theorem isTr_ok {o : Option (PV × List PV)} (h : isTr o = true) : o = some (.bl true, []) := by
  unfold isTr at h
  split at h
  · rfl
  · cases h
/-! the law's own def -/
def lawF (cc : Int) (right : List PV → List PV → Option (PV × List PV)) : MS := (mSeq (mAsg (.nm 3) (mCall (m_law_boxC cc) (mCons (mVar 1) (mCons (mVar 2) mNil))))
  (mIf (mNotT (mTru (mFn fAll (mCons (mLc (.nm 4) (mRng1 (mC (.int 1))) mYes (mCall right (mCons (mVar 3) mNil)) [4]) mNil)))) (mRet (mC (.bl false))) mSkip))
def lawR (cc : Int) (right : List PV → List PV → Option (PV × List PV)) : MS := (mSeq (mFor (.nm 2) (mRng1 (mFn fLen (mCons (mVar 1) mNil))) (lawF cc right)) (mRet (mC (.bl true))))
theorem box_ok {cc : Int} {cs : List Int} {k : Nat} (hk : k < cs.length) (h3 : cs.length ≤ 3) (S : List PV) : ∃ x y : Int, m_law_boxC cc [.lst (cs.map .int), .int (k : Int)] S = some (.mref S.length, S ++ [.lst [.int x, .int y, .int 0]]) := by
  have hx : (cs.map PV.int)[k]? = some (.int cs[k]) := by
    rw [List.getElem?_map, List.getElem?_eq_getElem hk]
    rfl
  have ix := (ix_at (S := S) (xs := cs.map PV.int) (k := k) (by rw [List.length_map]; exact hk)).2
  rw [hx] at ix
  have p18 : fPow S (.int 10) (.int 18) = some (.int 1000000000000000000) := rfl
  have hk' : (k : Int) < cs.length := by omega
  have k2 : (k : Int).natAbs < 2 ^ 64 := by omega
  by_cases c : (1000000000000000000 : Int) ≤ (if cs[k] < 0 then -cs[k] else cs[k])
  · exact ⟨_, _, by simp [m_law_boxC, e_def, m_law_boxCB, hk, ix, p18, c, k2]; exact ⟨rfl, rfl⟩⟩
  · exact ⟨_, _, by simp [m_law_boxC, e_def, m_law_boxCB, hk, ix, p18, c, k2]; exact ⟨rfl, rfl⟩⟩
theorem rng1_ok {ma : ME} {ρ : List SlV} {S S1 : List PV} {j : Int} (h : ma ρ S = some (.int j, S1)) (l : -1000000 ≤ j ∧ j ≤ 1000000) : mRng1 ma ρ S = some (rngP 0 j.toNat, S1) := by
  unfold mRng1
  rw [h]
  exact if_pos ⟨by omega, by omega⟩
theorem for_of {t : Tg} {mi : MI} {mb : MS} {ρ : List SlV} {S S1 : List PV} {xs : List PV} (h : mi ρ S = some (xs, S1)) : mFor t mi mb ρ S = forL t mb xs ρ S1 := by
  unfold mFor
  rw [h]
theorem seq_nx {ms mr : MS} {ρ ρ1 : List SlV} {S S1 : List PV} (h : ms ρ S = some (.nx ρ1 S1)) : mSeq ms mr ρ S = mr ρ1 S1 := by
  unfold mSeq
  rw [h]
theorem rest_ok {cc : Int} {right : List PV → List PV → Option (PV × List PV)} (hr : ∀ (S : List PV) (n : Nat), BoxAt S n 0 → ∃ S', right [.mref n] S = some (.bl true, S')) (cs : List Int) (h3 : cs.length ≤ 3) :
    ∃ S, lawR cc right [.un, .val (.lst (cs.map .int)), .un, .un, .un] [] = some (.rt (.bl true) S) := by
  obtain ⟨ρ', S', e, _⟩ := forL_inv (t := .nm 2) (mb := lawF cc right) (fun ρ T => ∃ v2 v3 v4, ρ = [.un, .val (.lst (cs.map .int)), v2, v3, v4]) (xs := rngP 0 cs.length) (ρ := [.un, .val (.lst (cs.map .int)), .un, .un, .un]) (S := []) (fun x hx ρ T hp => by
    obtain ⟨v2, v3, v4, rfl⟩ := hp
    obtain ⟨i, rfl, i0, i1⟩ := rngP_mem hx
    obtain ⟨k, rfl⟩ := Int.eq_ofNat_of_zero_le i0
    obtain ⟨x, y, eb⟩ := box_ok (cc := cc) (k := k) (by omega) h3 T
    obtain ⟨S', er⟩ := hr (T ++ [.lst [.int x, .int y, .int 0]]) T.length ⟨x, y, 0, by simp, by omega, by omega⟩
    refine ⟨[.un, .val (.lst (cs.map .int)), .val (.int k), v3, v4], [.un, .val (.lst (cs.map .int)), .val (.int k), .val (.mref T.length), v4], S', by simp, ?_, _, _, _, rfl⟩
    simp [lawF, eb, rngP, lcL, wipM, er, fAll, bls]) ⟨_, _, _, rfl⟩
  refine ⟨S', ?_⟩
  have hr1 := rng1_ok (ma := mFn fLen (mCons (mVar 1) mNil)) (ρ := [.un, .val (.lst (cs.map .int)), .un, .un, .un]) (S := []) (S1 := []) (j := cs.length) (by simp) ⟨by omega, by omega⟩
  rw [Int.toNat_natCast] at hr1
  exact seq_nx ((for_of hr1).trans e)
theorem law_read {K : PySem.W.Frag} {C : Addr} {hand : List PV → List PV → Option (PV × List PV)} {rest : MS} (hh : hand [] [] = some (.bl true, [])) (hr : ∀ cs : List Int, cs.length ≤ 3 → ∃ S, rest [.un, .val (.lst (cs.map .int)), .un, .un, .un] [] = some (.rt (.bl true) S)) {a : Addr} {ns : List Int} {H : Hp} {Q : VK} (hS : SqL K H a (ns.map V.int)) (hl : ns.length ≤ 63) (q : ∀ H', Q (.bl true) H') :
    (tSeq (tIfS (tNot (tB (tCall (spM K C hand) [] C8.E0 tNil))) (tRet (tC (.bl false))) tNext) (tSeq (tAsg (tCall (spCells K) [] C8.E0 (tCons (tVar 0) (tCons (tC (.int 3)) tNil))) (gName 1)) (tMS K C rest))) { nx := fun _ H' => Q .non H', rt := Q } [some (.ref a), none, none, none, none] H := by
  refine ⟨⟨fun _ => none, H, []⟩, [], [], .bl true, [], rfl, ⟨(fun _ _ h => by cases h), rfl, List.nodup_nil, fun n a x h => absurd (show ([] : List Addr)[n]? = some a from h) (by simp)⟩, .nil, hh, fun v W' g i r => ?_⟩
  cases r
  have s1 : Same H W'.H := fun p o e => g.h p o e (by simp)
  refine ⟨true, rfl, iteF ?_⟩
  refine ⟨_, rfl, a, ns, rfl, s1.seq hS, hl, fun p cs H2 s2 np ep lp => ?_⟩
  obtain ⟨S, eS⟩ := hr cs lp
  have hm : ∀ (cs : List Int) (F : Hp), RepAll K C F [] (cs.map V.int) (cs.map PV.int) := fun cs F => by
    induction cs with
    | nil => exact .nil
    | cons c cs ih => exact .cons (.int c) ih
  refine ⟨⟨fun b => if b = p then some (.lst (cs.map V.int)) else none, H2, []⟩, ⟨fun b => if b = p then some (.lst (cs.map V.int)) else none, H2, []⟩, _, [], _, rfl, ⟨Gro.refl _, ⟨fun b o e => ?_, rfl, List.nodup_nil, fun n a x h => absurd (show ([] : List Addr)[n]? = some a from h) (by simp)⟩, rfl, fun j sl hj => ?_, fun j k x y b h1 _ _ _ => ?_⟩, eS, fun v W2 g2 i2 r2 => by cases r2; exact q _⟩
  · change (if b = p then some (HO.lst (cs.map V.int)) else none) = some o at e
    split at e
    · rename_i hb
      rw [hb, ← e]
      exact ep
    · cases e
  · rcases j with _ | _ | _ | _ | _ | j <;> simp at hj
    · subst hj; trivial
    · subst hj
      exact ⟨_, rfl, .lst (by show (if p = p then _ else _) = _; rw [if_pos rfl]) (hm cs _)⟩
    · subst hj; trivial
    · subst hj; trivial
    · subst hj; trivial
  · rcases j with _ | _ | _ | _ | _ | j <;> simp at h1
end BL

namespace BL
open PySem PySem.Spec PyProof.Rows L2
def nxP (o : Option Ou) (P : List SlV → List PV → Prop) : Prop := match o with
  | some (.nx ρ S) => P ρ S
  | _ => False
@[simp] theorem nxP_nx (ρ : List SlV) (S : List PV) (P : List SlV → List PV → Prop) : nxP (some (.nx ρ S)) P = P ρ S := rfl
theorem nxP_ex {o : Option Ou} {P : List SlV → List PV → Prop} (h : nxP o P) : ∃ ρ S, o = some (.nx ρ S) ∧ P ρ S := by
  unfold nxP at h
  split at h
  · exact ⟨_, _, rfl, h⟩
  · exact h.elim
/-! other forms of the law's own def -/
def lawAll (cc : Int) (right : List PV → List PV → Option (PV × List PV)) : MS := mRet (mFn fAll (mCons (mLc (.nm 2) (mRng1 (mFn fLen (mCons (mVar 1) mNil))) mYes (mCall right (mCons (mCall (m_law_boxC cc) (mCons (mVar 1) (mCons (mVar 2) mNil))) mNil)) [2]) mNil))
def lawIf (hand : List PV → List PV → Option (PV × List PV)) : MS := mIf (mNotT (mTru (mCall hand mNil))) (mRet (mC (.bl false))) mSkip
theorem all_true : ∀ {ys : List PV}, (∀ y ∈ ys, y = .bl true) → ∃ bs, bls ys = some bs ∧ bs.all id = true
  | [], _ => ⟨[], rfl, rfl⟩
  | y :: ys, h => by
    obtain ⟨bs, e, a⟩ := all_true (ys := ys) fun z hz => h z (List.mem_cons_of_mem _ hz)
    have := h y List.mem_cons_self
    subst this
    exact ⟨true :: bs, by simp [bls, e], by simp at a ⊢; exact a⟩
theorem fAll_true {S ys : List PV} (h : ∀ y ∈ ys, y = .bl true) : fAll S [.lst ys] = some (.bl true) := by
  obtain ⟨bs, e, a⟩ := all_true h
  simp only [fAll, e, a]
theorem lc_at {t : Tg} {mi : MI} {mt : MT} {me : ME} {vs : List Nat} {ρ : List SlV} {S S1 S2 xs ys : List PV} (h1 : mi ρ S = some (xs, S1)) (h2 : lcL t mt me (wipM ρ vs) xs S1 = some (ys, S2)) (hl : ys.length ≤ 100000) : mLc t mi mt me vs ρ S = some (.lst ys, S2) := by
  unfold mLc
  rw [h1]
  show (match lcL t mt me (wipM ρ vs) xs S1 with | some (ys, S2) => if ys.length ≤ 100000 then some (PV.lst ys, S2) else none | none => none) = _
  rw [h2]
  exact if_pos hl
theorem ret_all {L : ME} {ρ : List SlV} {S S' ys : List PV} (e : L ρ S = some (.lst ys, S')) (h : ∀ y ∈ ys, y = .bl true) : mRet (mFn fAll (mCons L mNil)) ρ S = some (.rt (.bl true) S') := by
  have e1 : mCons L mNil ρ S = some ([.lst ys], S') := by
    rw [e_cons, e]
    rfl
  have e2 : mFn fAll (mCons L mNil) ρ S = some (.bl true, S') := by
    rw [e_fn, e1]
    show (match fAll S' [.lst ys] with | some z => some (z, S') | none => none) = _
    rw [fAll_true h]
  rw [e_ret, e2]
theorem all_ok {cc : Int} {right : List PV → List PV → Option (PV × List PV)} (hr : ∀ (S : List PV) (n : Nat), BoxAt S n 0 → ∃ S', right [.mref n] S = some (.bl true, S')) (cs : List Int) (h3 : cs.length ≤ 3) :
    ∃ S, lawAll cc right [.un, .val (.lst (cs.map .int)), .un] [] = some (.rt (.bl true) S) := by
  have turn : ∀ x ∈ rngP 0 cs.length, ∀ (j : Nat) (T : List PV), j < 0 + (rngP 0 cs.length).length → True → ∃ ρ1 y S2, (Tg.nm 2).put x [.un, .val (.lst (cs.map .int)), .un] = some ρ1 ∧ mYes ρ1 T = some (true, T) ∧ mCall right (mCons (mCall (m_law_boxC cc) (mCons (mVar 1) (mCons (mVar 2) mNil))) mNil) ρ1 T = some (y, S2) ∧ y = .bl true ∧ True := fun x hx j T hj hp => by
    obtain ⟨i, rfl, i0, i1⟩ := rngP_mem hx
    obtain ⟨k, rfl⟩ := Int.eq_ofNat_of_zero_le i0
    obtain ⟨x, y, eb⟩ := box_ok (cc := cc) (k := k) (by omega) h3 T
    obtain ⟨S', er⟩ := hr (T ++ [.lst [.int x, .int y, .int 0]]) T.length ⟨x, y, 0, by simp, by omega, by omega⟩
    exact ⟨[.un, .val (.lst (cs.map .int)), .val (.int k)], .bl true, S', by simp, rfl, by simp [eb, er], rfl, trivial⟩
  obtain ⟨ys, S', e, hl, hq, _⟩ := lcL_inv (fun _ _ => True) (fun y => y = .bl true) (k := 0) (S := []) turn trivial
  rw [rngP_len] at hl
  have hr1 := rng1_ok (ma := mFn fLen (mCons (mVar 1) mNil)) (ρ := [.un, .val (.lst (cs.map .int)), .un]) (S := []) (S1 := []) (j := cs.length) (by simp) ⟨by omega, by omega⟩
  rw [Int.toNat_natCast] at hr1
  exact ⟨S', ret_all (lc_at hr1 e (by omega)) hq⟩
theorem ifall_ok {cc : Int} {hand right : List PV → List PV → Option (PV × List PV)} (hh : hand [] [] = some (.bl true, [])) (hr : ∀ (S : List PV) (n : Nat), BoxAt S n 0 → ∃ S', right [.mref n] S = some (.bl true, S')) (cs : List Int) (h3 : cs.length ≤ 3) :
    ∃ S, mSeq (lawIf hand) (lawAll cc right) [.un, .val (.lst (cs.map .int)), .un] [] = some (.rt (.bl true) S) := by
  obtain ⟨S, e⟩ := all_ok (cc := cc) hr cs h3
  have e1 : lawIf hand [.un, .val (.lst (cs.map .int)), .un] [] = some (.nx [.un, .val (.lst (cs.map .int)), .un] []) := by
    unfold lawIf
    simp only [e_if, e_notT, e_tru, e_call, e_nil, hh, e_skip]
    rfl
  exact ⟨S, (seq_nx e1).trans e⟩
/-- cells first -/
theorem law_readB {K : PySem.W.Frag} {C : Addr} {rest : MS} {k : Nat} (hr : ∀ cs : List Int, cs.length ≤ 3 → ∃ S, rest (.un :: .val (.lst (cs.map .int)) :: List.replicate k .un) [] = some (.rt (.bl true) S)) {a : Addr} {ns : List Int} {H : Hp} {Q : VK} (hS : SqL K H a (ns.map V.int)) (hl : ns.length ≤ 63) (q : ∀ H', Q (.bl true) H') :
    (tSeq (tAsg (tCall (spCells K) [] C8.E0 (tCons (tVar 0) (tCons (tC (.int 3)) tNil))) (gName 1)) (tMS K C rest)) { nx := fun _ H' => Q .non H', rt := Q } (some (.ref a) :: none :: List.replicate k none) H := by
  refine ⟨_, rfl, a, ns, rfl, hS, hl, fun p cs H2 s2 np ep lp => ?_⟩
  obtain ⟨S, eS⟩ := hr cs lp
  have hm : ∀ (cs : List Int) (F : Hp), RepAll K C F [] (cs.map V.int) (cs.map PV.int) := fun cs F => by
    induction cs with
    | nil => exact .nil
    | cons c cs ih => exact .cons (.int c) ih
  have ru : ∀ (j k : Nat) (sl : SlV), (List.replicate k SlV.un)[j]? = some sl → sl = .un := fun j k sl h => by
    rw [List.getElem?_replicate] at h
    split at h
    · exact (Option.some.inj h).symm
    · cases h
  refine ⟨⟨fun b => if b = p then some (.lst (cs.map V.int)) else none, H2, []⟩, ⟨fun b => if b = p then some (.lst (cs.map V.int)) else none, H2, []⟩, _, [], _, rfl, ⟨Gro.refl _, ⟨fun b o e => ?_, rfl, List.nodup_nil, fun n a x h => absurd (show ([] : List Addr)[n]? = some a from h) (by simp)⟩, ?_, fun j sl hj => ?_, fun j l x y b h1 _ _ _ => ?_⟩, eS, fun v W2 g2 i2 r2 => by cases r2; exact q _⟩
  · change (if b = p then some (HO.lst (cs.map V.int)) else none) = some o at e
    split at e
    · rename_i hb
      rw [hb, ← e]
      exact ep
    · cases e
  · simp
  · rcases j with _ | _ | j
    · cases Option.some.inj hj; trivial
    · cases Option.some.inj hj
      exact ⟨_, rfl, .lst (by show (if p = p then _ else _) = _; rw [if_pos rfl]) (hm cs _)⟩
    · have := ru j k sl hj
      subst this
      trivial
  · rcases j with _ | _ | j
    · cases Option.some.inj h1
    · cases Option.some.inj h1
    · have := ru j k _ h1
      cases this
end BL

namespace BL
open PySem PySem.Spec PyProof.Rows L2
theorem forL_cons {t : Tg} {mb : MS} {x : PV} {xs S S2 : List PV} {ρ ρ1 ρ2 : List SlV} (h1 : t.put x ρ = some ρ1) (h2 : mb ρ1 S = some (.nx ρ2 S2)) : forL t mb (x :: xs) ρ S = forL t mb xs ρ2 S2 := by
  conv => lhs; unfold forL
  rw [h1]
  simp only [h2]
/-! rows -/
inductive EW where
  | add | flo | cap
  deriving DecidableEq
def EW.s : EW → Str
  | .add => "add" | .flo => "floor" | .cap => "cap"
abbrev Ev := EW × Int
def stp (e : Ev) (x : Int) : Int := match e.1 with
  | .add => x + e.2
  | .flo => max x e.2
  | .cap => min x e.2
def run : List Ev → Int → Int
  | [], x => x
  | e :: r, x => run r (stp e x)
theorem run_app : ∀ (r q : List Ev) (x : Int), run (r ++ q) x = run q (run r x)
  | [], _, _ => rfl
  | _ :: r, q, x => run_app r q _
inductive REv : PV → Ev → Prop
  | tup (e : Ev) : REv (.tup [.str e.1.s, .int e.2]) e
  | lst (e : Ev) : REv (.lst [.str e.1.s, .int e.2]) e
inductive All2 {α β : Type} (R : α → β → Prop) : List α → List β → Prop
  | nil : All2 R [] []
  | cons {a : α} {b : β} {as : List α} {bs : List β} : R a b → All2 R as bs → All2 R (a :: as) (b :: bs)
def RRow (x : PV) (r : List Ev) : Prop := ∃ ps, (x = .tup ps ∨ x = .lst ps) ∧ All2 REv ps r
def evP (e : Ev) : PV := .tup [.str e.1.s, .int e.2]
def evL (e : Ev) : PV := .lst [.str e.1.s, .int e.2]
def rowP (r : List Ev) : PV := .tup (r.map evP)
def rowL (r : List Ev) : PV := .lst (r.map evL)
theorem all2P : ∀ r : List Ev, All2 REv (r.map evP) r
  | [] => .nil
  | e :: r => .cons (.tup e) (all2P r)
theorem all2L : ∀ r : List Ev, All2 REv (r.map evL) r
  | [] => .nil
  | e :: r => .cons (.lst e) (all2L r)
theorem rrP (r : List Ev) : RRow (rowP r) r := ⟨_, .inl rfl, all2P r⟩
theorem rrL (r : List Ev) : RRow (rowL r) r := ⟨_, .inr rfl, all2L r⟩
@[simp] theorem f_eqS {S : List PV} (i j : Str) : fEq S (.str i) (.str j) = some (.bl (decide (i = j))) := rfl
@[simp] theorem dec_add (w : EW) : (w.s = ("add" : Str)) = (w = .add) := by cases w <;> simp [EW.s] <;> decide
@[simp] theorem dec_flo (w : EW) : (w.s = ("floor" : Str)) = (w = .flo) := by cases w <;> simp [EW.s] <;> decide
@[simp] theorem dec_cap (w : EW) : (w.s = ("cap" : Str)) = (w = .cap) := by cases w <;> simp [EW.s] <;> decide
@[simp] theorem cst_str (x : Str) : cst (.str x) = .str x := rfl
theorem max2 (i j : Int) : (if j > i then j else i) = max i j := by omega
theorem min2 (i j : Int) : (if j < i then j else i) = min i j := by omega
theorem lb_ok {p : PV} {e : Ev} (h : REv p e) (x : Int) (S : List PV) : m_level_behind [p, .int x] S = some (.int (stp e x), S) := by
  obtain ⟨w, n⟩ := e
  cases h <;> cases w <;> simp [m_level_behind, e_def, m_level_behindB, stp] <;> omega
theorem eo_loop (S : List PV) (v0 v1 : SlV) : ∀ (ps : List PV) (r : List Ev) (x : Int) (v3 : SlV), All2 REv ps r → ∃ w3, forL (.nm 3) m_end_ofF1 ps [v0, v1, .val (.int x), v3] S = some (.nx [v0, v1, .val (.int (run r x)), w3] S)
  | _, _, x, v3, .nil => ⟨v3, rfl⟩
  | p :: ps, e :: r, x, v3, .cons h hr => by
    obtain ⟨w3, ih⟩ := eo_loop S v0 v1 ps r (stp e x) (.val p) hr
    refine ⟨w3, ?_⟩
    have e1 : m_end_ofF1 [v0, v1, .val (.int x), .val p] S = some (.nx [v0, v1, .val (.int (stp e x)), .val p] S) := by simp [m_end_ofF1, lb_ok h]
    exact (forL_cons (by simp) e1).trans ih
theorem eo_ok {p : PV} {r : List Ev} (h : RRow p r) (x : Int) (S : List PV) : m_end_of [p, .int x] S = some (.int (run r x), S) := by
  obtain ⟨ps, hp, h2⟩ := h
  obtain ⟨w3, e⟩ := eo_loop S (.val p) (.val (.int x)) ps r x .un h2
  rcases hp with rfl | rfl <;> simp [m_end_of, e_def, m_end_ofB, e]
/-! the law's own steps -/
theorem ixE {p : PV} {e : Ev} (h : REv p e) (S : List PV) : fIx S p (.int 0) = some (.str e.1.s) ∧ fIx S p (.int 1) = some (.int e.2) := by
  cases h <;> simp [fIx, ixP]
theorem ld_okE {p : PV} {e : Ev} (h : REv p e) (x : Int) (S : List PV) : m_law_done [.int x, p] S = some (.int (stp e x), S) := by
  have i0 := fun S => (ixE h S).1
  have i1 := fun S => (ixE h S).2
  obtain ⟨w, n⟩ := e
  cases w <;> simp [m_law_done, e_def, m_law_doneB, i0, i1, stp] <;> omega
theorem le_loop (S : List PV) (v0 : SlV) : ∀ (ps : List PV) (r : List Ev) (x : Int) (v3 : SlV), All2 REv ps r → ∃ w3, forL (.nm 2) m_law_endedF1 ps [v0, .val (.int x), v3] S = some (.nx [v0, .val (.int (run r x)), w3] S)
  | _, _, x, v3, .nil => ⟨v3, rfl⟩
  | p :: ps, e :: r, x, v3, .cons h hr => by
    obtain ⟨w3, ih⟩ := le_loop S v0 ps r (stp e x) (.val p) hr
    refine ⟨w3, ?_⟩
    have e1 : m_law_endedF1 [v0, .val (.int x), .val p] S = some (.nx [v0, .val (.int (stp e x)), .val p] S) := by simp [m_law_endedF1, ld_okE h]
    exact (forL_cons (by simp) e1).trans ih
theorem le_ok {p : PV} {r : List Ev} (h : RRow p r) (x : Int) (S : List PV) : m_law_ended [p, .int x] S = some (.int (run r x), S) := by
  obtain ⟨ps, hp, h2⟩ := h
  obtain ⟨w3, e⟩ := le_loop S (.val p) ps r x .un h2
  rcases hp with rfl | rfl <;> simp [m_law_ended, e_def, m_law_endedB, e]
/-! ways of rows -/
theorem fwayO {s f c : Option Int} (h : okW s f c) (S : List PV) : fWay S [PO' s, PO' f, PO' c] = some (.way (nrm s f c) f c) := by
  have ok : okWb s f c = true := by
    unfold okW at h
    unfold okWb
    cases f with
    | none => cases s with
      | none => exact absurd rfl h
      | some _ => rfl
    | some a => cases c with
      | none => cases s with
        | none => exact absurd rfl h
        | some _ => rfl
      | some b => cases s with
        | none => simp [h.1, h.2 rfl]
        | some _ => simp [h.1]
  show way3 (PO' s) (PO' f) (PO' c) = _
  unfold way3
  rw [oP_PO, oP_PO, oP_PO]
  exact if_pos ok
theorem isN_PO (o : Option Int) : (PO' o).isNon = o.isNone := by cases o <;> rfl
theorem rshM {s1 f1 c1 s2 f2 c2 : Option Int} (h1 : wfW s1 f1 c1) (h2 : wfW s2 f2 c2) (S : List PV) : m_rsh [.way s1 f1 c1, .way s2 f2 c2] S = some (.way (nrm (rsS s1 s2) (rsB s2 f2 c2 f1 f2) (rsB s2 f2 c2 c1 c2)) (rsB s2 f2 c2 f1 f2) (rsB s2 f2 c2 c1 c2), S) := by
  have fw := fun S => fwayO (rs_ok h1 h2) S
  have l2 := fun x S => led_ok h2 x S
  cases s1 <;> cases s2 <;> cases f1 <;> cases c1 <;> simp only [rsS, rsB] at fw ⊢ <;> simp only [p_int, p_non] at fw <;> simp [m_rsh, e_def, m_rshB, cst, l2, fw]
def evW (e : Ev) : Option Int × Option Int × Option Int := match e.1 with
  | .add => (some e.2, none, none)
  | .flo => (some 0, some e.2, none)
  | .cap => (some 0, none, some e.2)
theorem evW_wf (e : Ev) : wfW (evW e).1 (evW e).2.1 (evW e).2.2 := by
  obtain ⟨w, n⟩ := e
  cases w
  · exact ⟨(fun x y h => by cases h), (fun h => by cases h), (fun a h => by cases h)⟩
  · exact ⟨(fun x y _ h => by cases h), (fun h => by cases h), (fun a _ h => by cases h)⟩
  · exact ⟨(fun x y h => by cases h), (fun h => by cases h), (fun a h => by cases h)⟩
theorem evW_ld (e : Ev) (x : Int) : ld (evW e).1 (evW e).2.1 (evW e).2.2 x = stp e x := by
  obtain ⟨w, n⟩ := e
  cases w
  · show bnd (x + n) none none = x + n
    rw [bnd_none]
  · show bnd (x + 0) (some n) none = max x n
    rw [bnd_lo]; omega
  · show bnd (x + 0) none (some n) = min x n
    rw [bnd_hi]; omega
theorem fw1 (S : List PV) (n : Int) : fWay S [.int n] = some (.way (some n) none none) := rfl
theorem fw2 (S : List PV) (s n : Int) : fWay S [.int s, .int n] = some (.way (some s) (some n) none) := rfl
theorem fw3 (S : List PV) (s n : Int) : fWay S [.int s, .non, .int n] = some (.way (some s) none (some n)) := rfl
theorem ew_ok {p : PV} {e : Ev} (h : REv p e) (S : List PV) : m_event_way [p] S = some (.way (evW e).1 (evW e).2.1 (evW e).2.2, S) := by
  obtain ⟨w, n⟩ := e
  cases h <;> cases w <;> simp [m_event_way, e_def, m_event_wayB, evW, fw1, fw2, fw3]
/-- what is kept of the numbers of a way -/
structure Keeps (E : Int → Prop) (G : Nat → Int → Prop) : Prop where
  z : G 0 0
  add : ∀ {k a n}, G k a → E n → G (k + 1) (a + n)
  ev : ∀ {k n}, E n → G (k + 1) n
  up : ∀ {k a}, G k a → G (k + 1) a
abbrev GO (G : Nat → Int → Prop) (k : Nat) (o : Option Int) : Prop := ∀ a, o = some a → G k a
theorem keeps_step {E : Int → Prop} {G : Nat → Int → Prop} (K : Keeps E G) {k : Nat} {s f c : Option Int} {e : Ev} (w : wfW s f c) (hs : GO G k s) (hf : GO G k f) (hc : GO G k c) (he : E e.2) :
    GO G (k + 1) (nrm (rsS s (evW e).1) (rsB (evW e).1 (evW e).2.1 (evW e).2.2 f (evW e).2.1) (rsB (evW e).1 (evW e).2.1 (evW e).2.2 c (evW e).2.2)) ∧ GO G (k + 1) (rsB (evW e).1 (evW e).2.1 (evW e).2.2 f (evW e).2.1) ∧ GO G (k + 1) (rsB (evW e).1 (evW e).2.1 (evW e).2.2 c (evW e).2.2) := by
  have st : ∀ a, G k a → G (k + 1) (stp e a) := fun a ha => by
    obtain ⟨w, n⟩ := e
    cases w
    · exact K.add ha he
    · show G (k + 1) (max a n)
      rcases Int.le_total a n with h | h
      · rw [Int.max_eq_right h]; exact K.ev he
      · rw [Int.max_eq_left h]; exact K.up ha
    · show G (k + 1) (min a n)
      rcases Int.le_total a n with h | h
      · rw [Int.min_eq_left h]; exact K.up ha
      · rw [Int.min_eq_right h]; exact K.ev he
  have bd : ∀ o : Option Int, GO G k o → ∀ o2 : Option Int, (∀ a, o2 = some a → a = e.2) → GO G (k + 1) (rsB (evW e).1 (evW e).2.1 (evW e).2.2 o o2) := fun o ho o2 h2 a ha => by
    cases o with
    | none =>
      have := h2 a ha
      subst this
      exact K.ev he
    | some z =>
      cases Option.some.inj ha
      rw [evW_ld]
      exact st z (ho z rfl)
  refine ⟨fun a ha => ?_, bd f hf _ fun a ha => ?_, bd c hc _ fun a ha => ?_⟩
  · have hn : nrm (rsS s (evW e).1) (rsB (evW e).1 (evW e).2.1 (evW e).2.2 f (evW e).2.1) (rsB (evW e).1 (evW e).2.1 (evW e).2.2 c (evW e).2.2) = some a → rsS s (evW e).1 = some a := fun h => by
      unfold nrm at h
      split at h
      · split at h
        · cases h
        · exact h
      · exact h
    have := hn ha
    obtain ⟨w', n⟩ := e
    cases s with
    | none => cases this
    | some z =>
      cases w'
      · cases this; exact K.add (hs z rfl) he
      · change some (z + 0) = some a at this
        rw [Int.add_zero] at this
        exact K.up (hs a this)
      · change some (z + 0) = some a at this
        rw [Int.add_zero] at this
        exact K.up (hs a this)
  · obtain ⟨w', n⟩ := e
    cases w' <;> cases ha <;> rfl
  · obtain ⟨w', n⟩ := e
    cases w' <;> cases ha <;> rfl
theorem wo_loop {E : Int → Prop} {G : Nat → Int → Prop} (K : Keeps E G) (S : List PV) (v0 : SlV) : ∀ (ps : List PV) (r : List Ev) (k : Nat) (s f c : Option Int) (v2 : SlV), All2 REv ps r → (∀ e ∈ r, E e.2) → wfW s f c → GO G k s → GO G k f → GO G k c →
    ∃ s' f' c' w2, forL (.nm 2) m_way_ofF1 ps [v0, .val (.way s f c), v2] S = some (.nx [v0, .val (.way s' f' c'), w2] S) ∧ wfW s' f' c' ∧ (∀ x, ld s' f' c' x = run r (ld s f c x)) ∧ GO G (k + r.length) s' ∧ GO G (k + r.length) f' ∧ GO G (k + r.length) c'
  | _, _, k, s, f, c, v2, .nil, _, w, hs, hf, hc => ⟨s, f, c, v2, rfl, w, fun _ => rfl, hs, hf, hc⟩
  | p :: ps, e :: r, k, s, f, c, v2, .cons h hr, hE, w, hs, hf, hc => by
    obtain ⟨g1, g2, g3⟩ := keeps_step K w hs hf hc (hE e List.mem_cons_self)
    have w2 := nrm_wf (rs_ok w (evW_wf e))
    obtain ⟨s', f', c', z2, ih, i1, i2, i3, i4, i5⟩ := wo_loop K S v0 ps r (k + 1) _ _ _ (.val p) hr (fun e he => hE e (List.mem_cons_of_mem _ he)) w2 g1 g2 g3
    refine ⟨s', f', c', z2, ?_, i1, fun x => ?_, ?_, ?_, ?_⟩
    · have e1 : m_way_ofF1 [v0, .val (.way s f c), .val p] S = some (.nx [v0, .val (.way (nrm (rsS s (evW e).1) (rsB (evW e).1 (evW e).2.1 (evW e).2.2 f (evW e).2.1) (rsB (evW e).1 (evW e).2.1 (evW e).2.2 c (evW e).2.2)) (rsB (evW e).1 (evW e).2.1 (evW e).2.2 f (evW e).2.1) (rsB (evW e).1 (evW e).2.1 (evW e).2.2 c (evW e).2.2)), .val p] S) := by
        simp [m_way_ofF1, ew_ok h, rshM w (evW_wf e)]
      exact (forL_cons (by simp) e1).trans ih
    · rw [i2, ld_rs w (evW_wf e), evW_ld]
      rfl
    · rw [List.length_cons, Nat.add_comm r.length 1, ← Nat.add_assoc]; exact i3
    · rw [List.length_cons, Nat.add_comm r.length 1, ← Nat.add_assoc]; exact i4
    · rw [List.length_cons, Nat.add_comm r.length 1, ← Nat.add_assoc]; exact i5
theorem wf0 : wfW (some 0) none none := ⟨(fun x y h => by cases h), (fun h => by cases h), (fun a h => by cases h)⟩
theorem wo_ok {E : Int → Prop} {G : Nat → Int → Prop} (K : Keeps E G) {p : PV} {r : List Ev} (h : RRow p r) (hE : ∀ e ∈ r, E e.2) : ∃ s f c, (∀ S, m_way_of [p] S = some (.way s f c, S)) ∧ wfW s f c ∧ (∀ x, ld s f c x = run r x) ∧ GO G r.length s ∧ GO G r.length f ∧ GO G r.length c := by
  obtain ⟨ps, hp, h2⟩ := h
  have key : ∀ S, ∃ s' f' c' w2, forL (.nm 2) m_way_ofF1 ps [.val p, .val (.way (some 0) none none), .un] S = some (.nx [.val p, .val (.way s' f' c'), w2] S) ∧ wfW s' f' c' ∧ (∀ x, ld s' f' c' x = run r (ld (some 0) none none x)) ∧ GO G (0 + r.length) s' ∧ GO G (0 + r.length) f' ∧ GO G (0 + r.length) c' := fun S =>
    wo_loop K S (.val p) ps r 0 _ _ _ .un h2 hE wf0 (fun a ha => by cases ha; exact K.z) (fun a ha => by cases ha) (fun a ha => by cases ha)
  have ld0 : ∀ x, ld (some 0) none none x = x := fun x => by show bnd (x + 0) none none = x; rw [bnd_none]; omega
  obtain ⟨s, f, c, w2, e, i1, i2, i3, i4, i5⟩ := key []
  rw [Nat.zero_add] at i3 i4 i5
  refine ⟨s, f, c, fun S => ?_, i1, fun x => by rw [i2, ld0], i3, i4, i5⟩
  obtain ⟨s', f', c', w2', e', j1, j2, _⟩ := key S
  have hx := way_ext i1 j1 fun x => by rw [i2, j2]
  obtain ⟨rfl, rfl, rfl⟩ := hx
  rcases hp with rfl | rfl <;> simp [m_way_of, e_def, m_way_ofB, fw1, e']
end BL

namespace BL
open PySem PySem.Spec PyProof.Rows L2
/-! the starts that tell all -/
def optL (xs : List (Option Int)) : List Int := xs.filterMap id
def prods (s1 f1 c1 s2 f2 c2 : Option Int) : List Int := (optL [f1, c1, f2, c2]).flatMap fun b => (optL [s1, s2]).map fun s => b - s
def turnL (s1 f1 c1 s2 f2 c2 : Option Int) : List Int := srtI (0 :: prods s1 f1 c1 s2 f2 c2)
def tellL (s1 f1 c1 s2 f2 c2 : Option Int) : List Int := ((turnL s1 f1 c1 s2 f2 c2).headD 0 - 1) :: turnL s1 f1 c1 s2 f2 c2 ++ [(turnL s1 f1 c1 s2 f2 c2).getLastD 0 + 1]
theorem intsP_map : ∀ ns : List Int, intsP (ns.map .int) = some ns
  | [] => rfl
  | n :: ns => by simp [intsP, intsP_map ns]
theorem insI_len (x : Int) : ∀ ys : List Int, (insI x ys).length ≤ ys.length + 1 ∧ 0 < (insI x ys).length
  | [] => ⟨Nat.le_refl _, by simp [insI]⟩
  | y :: ys => by
    unfold insI
    split
    · simp
    · split
      · simp
      · have := insI_len x ys
        simp
        omega
theorem srtI_len : ∀ xs : List Int, (srtI xs).length ≤ xs.length
  | [] => Nat.le_refl _
  | x :: xs => by
    have h1 := insI_len x (srtI xs)
    have h2 := srtI_len xs
    simp only [srtI, List.length_cons]
    omega
theorem asc_head : ∀ {xs : List Int}, xs.Pairwise (· < ·) → ∀ x ∈ xs, xs.headD 0 ≤ x
  | y :: ys, h, x, hx => by
    obtain ⟨h1, _⟩ := List.pairwise_cons.mp h
    rcases List.mem_cons.mp hx with e | hx
    · rw [e]; exact Int.le_refl _
    · have := h1 x hx
      show y ≤ x
      omega
theorem asc_last : ∀ {xs : List Int}, xs.Pairwise (· < ·) → ∀ x ∈ xs, x ≤ xs.getLastD 0
  | [y], _, x, hx => by
    rw [List.mem_singleton.mp hx]
    exact Int.le_refl _
  | y :: z :: ys, h, x, hx => by
    obtain ⟨h1, h2⟩ := List.pairwise_cons.mp h
    have ih := asc_last h2
    show x ≤ (z :: ys).getLastD 0
    rcases List.mem_cons.mp hx with e | hx
    · have a := h1 z List.mem_cons_self
      have b := ih z List.mem_cons_self
      omega
    · exact ih x hx
theorem turn_mem {s1 f1 c1 s2 f2 c2 : Option Int} {x : Int} : x ∈ turnL s1 f1 c1 s2 f2 c2 ↔ x = 0 ∨ ∃ b s, (some b = f1 ∨ some b = c1 ∨ some b = f2 ∨ some b = c2) ∧ (some s = s1 ∨ some s = s2) ∧ x = b - s := by
  unfold turnL prods optL
  rw [srtI_mem]
  simp only [List.mem_cons, List.mem_flatMap, List.mem_map, List.mem_filterMap, id, List.not_mem_nil, or_false]
  constructor
  · rintro (h | ⟨b, ⟨o, ho, rfl⟩, s, ⟨q, hq, rfl⟩, rfl⟩)
    · exact .inl h
    · exact .inr ⟨b, s, ho, hq, rfl⟩
  · rintro (h | ⟨b, s, hb, hs, rfl⟩)
    · exact .inl h
    · exact .inr ⟨b, ⟨_, hb, rfl⟩, s, ⟨_, hs, rfl⟩, rfl⟩
theorem turn_ne {s1 f1 c1 s2 f2 c2 : Option Int} : turnL s1 f1 c1 s2 f2 c2 ≠ [] := fun h => by
  have : (0 : Int) ∈ turnL s1 f1 c1 s2 f2 c2 := turn_mem.mpr (.inl rfl)
  rw [h] at this
  cases this
theorem headD_mem : ∀ {xs : List Int}, xs ≠ [] → xs.headD 0 ∈ xs
  | x :: xs, _ => List.mem_cons_self
theorem lastD_mem : ∀ {xs : List Int}, xs ≠ [] → xs.getLastD 0 ∈ xs
  | [x], _ => List.mem_singleton.mpr rfl
  | x :: y :: xs, _ => by
    show (y :: xs).getLastD 0 ∈ _
    exact List.mem_cons_of_mem _ (lastD_mem (by simp))
theorem tell_mem {s1 f1 c1 s2 f2 c2 : Option Int} {x : Int} (h : x ∈ tellL s1 f1 c1 s2 f2 c2) : ∃ y ∈ turnL s1 f1 c1 s2 f2 c2, x = y - 1 ∨ x = y ∨ x = y + 1 := by
  unfold tellL at h
  rcases List.mem_append.mp h with h | h
  · rcases List.mem_cons.mp h with h | h
    · exact ⟨_, headD_mem turn_ne, .inl h⟩
    · exact ⟨x, h, .inr (.inl rfl)⟩
  · exact ⟨_, lastD_mem turn_ne, .inr (.inr (List.mem_singleton.mp h))⟩
/-- where two ways agree at their turns, and one beyond, they are the same -/
theorem tell_same {s1 f1 c1 s2 f2 c2 : Option Int} (w1 : wfW s1 f1 c1) (w2 : wfW s2 f2 c2) (h : ∀ t ∈ tellL s1 f1 c1 s2 f2 c2, ld s1 f1 c1 t = ld s2 f2 c2 t) : s1 = s2 ∧ f1 = f2 ∧ c1 = c2 := by
  have asc : (turnL s1 f1 c1 s2 f2 c2).Pairwise (· < ·) := srtI_asc _
  have inT : ∀ x ∈ turnL s1 f1 c1 s2 f2 c2, ld s1 f1 c1 x = ld s2 f2 c2 x := fun x hx => h x (by unfold tellL; exact List.mem_append_left _ (List.mem_cons_of_mem _ hx))
  have a0 := h _ (show (turnL s1 f1 c1 s2 f2 c2).headD 0 - 1 ∈ tellL s1 f1 c1 s2 f2 c2 by unfold tellL; exact List.mem_append_left _ List.mem_cons_self)
  have a1 := h _ (show (turnL s1 f1 c1 s2 f2 c2).getLastD 0 + 1 ∈ tellL s1 f1 c1 s2 f2 c2 by unfold tellL; exact List.mem_append_right _ (List.mem_singleton.mpr rfl))
  have a2 := inT _ (headD_mem turn_ne)
  have a3 := inT _ (lastD_mem turn_ne)
  have lo := asc_head asc
  have hi := asc_last asc
  have mem : ∀ b s, (some b = f1 ∨ some b = c1 ∨ some b = f2 ∨ some b = c2) → (some s = s1 ∨ some s = s2) → b - s ∈ turnL s1 f1 c1 s2 f2 c2 := fun b s hb hs => turn_mem.mpr (.inr ⟨b, s, hb, hs, rfl⟩)
  have z := inT 0 (turn_mem.mpr (.inl rfl))
  have key : ∀ b s, (some b = f1 ∨ some b = c1 ∨ some b = f2 ∨ some b = c2) → (some s = s1 ∨ some s = s2) → (turnL s1 f1 c1 s2 f2 c2).headD 0 ≤ b - s ∧ b - s ≤ (turnL s1 f1 c1 s2 f2 c2).getLastD 0 ∧ ld s1 f1 c1 (b - s) = ld s2 f2 c2 (b - s) := fun b s hb hs => ⟨lo _ (mem b s hb hs), hi _ (mem b s hb hs), inT _ (mem b s hb hs)⟩
  generalize (turnL s1 f1 c1 s2 f2 c2).headD 0 = m at a0 a2 key
  generalize (turnL s1 f1 c1 s2 f2 c2).getLastD 0 = M at a1 a3 key
  clear h asc inT lo hi mem
  cases s1 with
  | none =>
    obtain ⟨a, rfl, rfl⟩ := w1.2.1 rfl
    cases s2 with
    | none =>
      obtain ⟨b, rfl, rfl⟩ := w2.2.1 rfl
      have : a = b := z
      subst this
      exact ⟨rfl, rfl, rfl⟩
    | some s =>
      exfalso
      have k0 := key a s (.inl rfl) (.inr rfl)
      have l1 : ∀ x, ld none (some a) (some a) x = a := fun x => rfl
      simp only [l1] at a0 a1 a2 a3 z k0
      cases f2 with
      | none =>
        cases c2 with
        | none => simp only [ld, bnd_none] at a0 a2; omega
        | some c =>
          have k1 := key c s (.inr (.inr (.inr rfl))) (.inr rfl)
          simp only [ld, bnd_hi] at a0 a2; omega
      | some f =>
        have k2 := key f s (.inr (.inr (.inl rfl))) (.inr rfl)
        cases c2 with
        | none => simp only [ld, bnd_lo] at a1 a3; omega
        | some c =>
          have k1 := key c s (.inr (.inr (.inr rfl))) (.inr rfl)
          have := strict w2 f c rfl rfl
          simp only [ld, bnd_two] at a0 a1; omega
  | some s =>
    cases s2 with
    | none =>
      exfalso
      obtain ⟨a, rfl, rfl⟩ := w2.2.1 rfl
      have l1 : ∀ x, ld none (some a) (some a) x = a := fun x => rfl
      simp only [l1] at a0 a1 a2 a3 z
      cases f1 with
      | none =>
        cases c1 with
        | none => simp only [ld, bnd_none] at a0 a2; omega
        | some c =>
          have k1 := key c s (.inr (.inl rfl)) (.inl rfl)
          simp only [ld, bnd_hi] at a0 a2; omega
      | some f =>
        have k2 := key f s (.inl rfl) (.inl rfl)
        cases c1 with
        | none => simp only [ld, bnd_lo] at a1 a3; omega
        | some c =>
          have k1 := key c s (.inr (.inl rfl)) (.inl rfl)
          have := strict w1 f c rfl rfl
          simp only [ld, bnd_two] at a0 a1; omega
    | some t =>
      cases f1 with
      | none =>
        cases c1 with
        | none =>
          cases f2 with
          | none =>
            cases c2 with
            | none => simp only [ld, bnd_none] at z; exact ⟨by congr 1; omega, rfl, rfl⟩
            | some d =>
              exfalso
              have k := (key d t (.inr (.inr (.inr rfl))) (.inr rfl)).2.1
              simp only [ld, bnd_none, bnd_hi] at a1 a3; omega
          | some g =>
            exfalso
            have k := (key g t (.inr (.inr (.inl rfl))) (.inr rfl)).1
            cases c2 with
            | none => simp only [ld, bnd_none, bnd_lo] at a0 a2; omega
            | some d => have := w2.1 g d rfl rfl; simp only [ld, bnd_none, bnd_two] at a0 a2; omega
        | some c =>
          have k1 := key c s (.inr (.inl rfl)) (.inl rfl)
          cases f2 with
          | none =>
            cases c2 with
            | none => exfalso; simp only [ld, bnd_none, bnd_hi] at a1 a3; omega
            | some d =>
              have k2 := key d t (.inr (.inr (.inr rfl))) (.inr rfl)
              simp only [ld, bnd_hi] at a1 k1 k2
              have e : c = d := by omega
              subst e
              exact ⟨by congr 1; omega, rfl, rfl⟩
          | some g =>
            exfalso
            have k := (key g t (.inr (.inr (.inl rfl))) (.inr rfl)).1
            have k' := k1.1
            cases c2 with
            | none => simp only [ld, bnd_hi, bnd_lo] at a0 a2; omega
            | some d => have := w2.1 g d rfl rfl; simp only [ld, bnd_hi, bnd_two] at a0 a2; omega
      | some f =>
        have k0 := key f s (.inl rfl) (.inl rfl)
        cases c1 with
        | none =>
          cases f2 with
          | none =>
            exfalso
            have k' := k0.1
            cases c2 with
            | none => simp only [ld, bnd_none, bnd_lo] at a0 a2; omega
            | some d => have k := (key d t (.inr (.inr (.inr rfl))) (.inr rfl)).1; simp only [ld, bnd_hi, bnd_lo] at a0 a2; omega
          | some g =>
            have k2 := key g t (.inr (.inr (.inl rfl))) (.inr rfl)
            cases c2 with
            | none =>
              simp only [ld, bnd_lo] at a0 k0 k2
              have e : f = g := by omega
              subst e
              exact ⟨by congr 1; omega, rfl, rfl⟩
            | some d =>
              exfalso
              have k := (key d t (.inr (.inr (.inr rfl))) (.inr rfl)).2.1
              have k' := k0.2.1
              have := w2.1 g d rfl rfl
              simp only [ld, bnd_lo, bnd_two] at a1 a3; omega
        | some c =>
          have k1 := key c s (.inr (.inl rfl)) (.inl rfl)
          have st := strict w1 f c rfl rfl
          cases f2 with
          | none =>
            exfalso
            have k' := k0.1
            have k'' := k1.1
            cases c2 with
            | none => simp only [ld, bnd_none, bnd_two] at a0 a2; omega
            | some d => have k := (key d t (.inr (.inr (.inr rfl))) (.inr rfl)).1; simp only [ld, bnd_hi, bnd_two] at a0 a2; omega
          | some g =>
            have k2 := key g t (.inr (.inr (.inl rfl))) (.inr rfl)
            cases c2 with
            | none =>
              exfalso
              have k' := k0.2.1
              have k'' := k1.2.1
              have k3 := k2.2.1
              simp only [ld, bnd_lo, bnd_two] at a1 a3; omega
            | some d =>
              have k3 := key d t (.inr (.inr (.inr rfl))) (.inr rfl)
              have st2 := strict w2 g d rfl rfl
              simp only [ld, bnd_two] at a0 a1
              have e : f = g := by omega
              have e' : c = d := by omega
              subst e
              subst e'
              simp only [ld, bnd_two] at k0 k2
              exact ⟨by congr 1; omega, rfl, rfl⟩
end BL

namespace BL
open PySem PySem.Spec PyProof.Rows L2
theorem lc2L_pure {t t1 : Tg} {mt mt1 : MT} {mi1 : MI} {me : ME} {vs1 : List Nat} {ρ : List SlV} {S : List PV} (g : PV → List PV) : ∀ {xs : List PV}, (∀ x ∈ xs, ∃ ρ1 ys, t.put x ρ = some ρ1 ∧ mt ρ1 S = some (true, S) ∧ mi1 ρ1 S = some (ys, S) ∧ lcL t1 mt1 me (wipM ρ1 vs1) ys S = some (g x, S)) → lc2L t mt t1 mi1 mt1 me vs1 ρ xs S = some (xs.flatMap g, S)
  | [], _ => rfl
  | x :: xs, h => by
    obtain ⟨ρ1, ys, e1, e2, e3, e4⟩ := h x List.mem_cons_self
    have ih := lc2L_pure g (xs := xs) fun y hy => h y (List.mem_cons_of_mem _ hy)
    unfold lc2L
    rw [e1]
    simp only [e2, e3, e4, ih, List.flatMap_cons]
theorem sset_ok {S : List PV} {ns : List Int} (h : ns.length < 64) : fSset S (.lst (ns.map .int)) = some (.lst ((srtI ns).map .int)) := by
  simp only [fSset, intsP_map]
  exact if_pos h
theorem prods_len (s1 f1 c1 s2 f2 c2 : Option Int) : (prods s1 f1 c1 s2 f2 c2).length ≤ 8 := by
  cases s1 <;> cases s2 <;> cases f1 <;> cases c1 <;> cases f2 <;> cases c2 <;> simp [prods, optL]
theorem tl_sh (s1 f1 c1 s2 f2 c2 : Option Int) (S : List PV) : lcL (.nm 5) (mTru (mOp fNot (mSel (fun s _ _ => s) (mVar 5)) (mC .non))) (mSel (fun s _ _ => s) (mVar 5)) [.val (.way s1 f1 c1), .val (.way s2 f2 c2), .un, .un, .un, .un, .un, .un] [.way s1 f1 c1, .way s2 f2 c2] S = some ((optL [s1, s2]).map .int, S) := by
  cases s1 <;> cases s2 <;> simp [lcL, optL]
theorem tl_bd (s1 f1 c1 s2 f2 c2 : Option Int) (v2 : SlV) (S : List PV) : lc2L (.nm 5) mYes (.nm 6) (mSeqI (mTup (mCons (mSel (fun _ f _ => f) (mVar 5)) (mCons (mSel (fun _ _ c => c) (mVar 5)) mNil)))) (mTru (mOp fNot (mVar 6) (mC .non))) (mVar 6) [6] [.val (.way s1 f1 c1), .val (.way s2 f2 c2), v2, .un, .un, .un, .un, .un] [.way s1 f1 c1, .way s2 f2 c2] S = some ((optL [f1, c1, f2, c2]).map .int, S) := by
  have one : ∀ (s f c : Option Int), lcL (.nm 6) (mTru (mOp fNot (mVar 6) (mC .non))) (mVar 6) [.val (.way s1 f1 c1), .val (.way s2 f2 c2), v2, .un, .un, .val (.way s f c), .un, .un] [PO' f, PO' c] S = some ((optL [f, c]).map .int, S) := fun s f c => by
    cases f <;> cases c <;> simp [lcL, optL]
  have := lc2L_pure (t := .nm 5) (mt := mYes) (t1 := .nm 6) (mi1 := mSeqI (mTup (mCons (mSel (fun _ f _ => f) (mVar 5)) (mCons (mSel (fun _ _ c => c) (mVar 5)) mNil)))) (mt1 := mTru (mOp fNot (mVar 6) (mC .non))) (me := mVar 6) (vs1 := [6]) (ρ := [.val (.way s1 f1 c1), .val (.way s2 f2 c2), v2, .un, .un, .un, .un, .un]) (S := S) (fun x => match x with | .way _ f c => (optL [f, c]).map .int | _ => []) (xs := [.way s1 f1 c1, .way s2 f2 c2]) (fun x hx => by
    have hh : ∃ s f c, x = .way s f c := by
      rcases List.mem_cons.mp hx with h | h
      · exact ⟨_, _, _, h⟩
      · exact ⟨_, _, _, List.mem_singleton.mp h⟩
    obtain ⟨s, f, c, rfl⟩ := hh
    exact ⟨[.val (.way s1 f1 c1), .val (.way s2 f2 c2), v2, .un, .un, .val (.way s f c), .un, .un], [PO' f, PO' c], by simp, rfl, by simp, by simpa [wipM] using one s f c⟩)
  rw [this]
  simp only [List.flatMap_cons, List.flatMap_nil, List.append_nil, ← List.map_append]
  rw [show optL [f1, c1] ++ optL [f2, c2] = optL [f1, c1, f2, c2] from (List.filterMap_append (l := [f1, c1]) (l' := [f2, c2])).symm]
theorem tl_pr (bs ss : List Int) (v0 v1 v3 v4 v5 : SlV) (S : List PV) : lc2L (.nm 6) mYes (.nm 7) (mSeqI (mVar 2)) mYes (mOp fSub (mVar 6) (mVar 7)) [7] [v0, v1, .val (.lst (ss.map .int)), v3, v4, v5, .un, .un] (bs.map .int) S = some ((bs.flatMap fun b => ss.map fun s => b - s).map .int, S) := by
  have one : ∀ b : Int, lcL (.nm 7) mYes (mOp fSub (mVar 6) (mVar 7)) [v0, v1, .val (.lst (ss.map .int)), v3, v4, v5, .val (.int b), .un] (ss.map .int) S = some ((ss.map fun s => b - s).map .int, S) := fun b => by
    have := lcL_pure (t := .nm 7) (mt := mYes) (me := mOp fSub (mVar 6) (mVar 7)) (ρ := [v0, v1, .val (.lst (ss.map .int)), v3, v4, v5, .val (.int b), .un]) (S := S) (fun _ => true) (fun x => match x with | .int s => .int (b - s) | _ => .non) (xs := ss.map .int) (fun x hx => by
      obtain ⟨s, _, rfl⟩ := List.mem_map.mp hx
      exact ⟨[v0, v1, .val (.lst (ss.map .int)), v3, v4, v5, .val (.int b), .val (.int s)], by simp, rfl, fun _ => by simp⟩)
    rw [this, List.filter_eq_self.mpr (fun _ _ => rfl)]
    simp [List.map_map, Function.comp_def]
  have := lc2L_pure (t := .nm 6) (mt := mYes) (t1 := .nm 7) (mi1 := mSeqI (mVar 2)) (mt1 := mYes) (me := mOp fSub (mVar 6) (mVar 7)) (vs1 := [7]) (ρ := [v0, v1, .val (.lst (ss.map .int)), v3, v4, v5, .un, .un]) (S := S) (fun x => match x with | .int b => (ss.map fun s => b - s).map .int | _ => []) (xs := bs.map .int) (fun x hx => by
    obtain ⟨b, _, rfl⟩ := List.mem_map.mp hx
    exact ⟨[v0, v1, .val (.lst (ss.map .int)), v3, v4, v5, .val (.int b), .un], ss.map .int, by simp, rfl, by simp, by simpa [wipM] using one b⟩)
  rw [this]
  simp only [List.flatMap_map, List.map_flatMap]
theorem turn_len (s1 f1 c1 s2 f2 c2 : Option Int) : (turnL s1 f1 c1 s2 f2 c2).length ≤ 9 := by
  have h1 := prods_len s1 f1 c1 s2 f2 c2
  have h2 := srtI_len (0 :: prods s1 f1 c1 s2 f2 c2)
  simp only [List.length_cons] at h2
  unfold turnL
  omega
theorem ix_0 {S xs : List PV} {x : PV} (h : xs.head? = some x) : fIx S (.lst xs) (.int 0) = some x := by
  cases xs with
  | nil => cases h
  | cons y ys =>
    cases h
    exact (ix_at (k := 0) (by simp)).2
theorem ix_m1 {S xs : List PV} {x : PV} (h : xs.getLast? = some x) : fIx S (.lst xs) (.int (-1)) = some x := by
  have hl : 0 < xs.length := by
    cases xs with
    | nil => cases h
    | cons _ _ => simp
  have e : ixP xs.length (-1) = some (xs.length - 1) := by
    unfold ixP
    rw [if_neg (by omega), if_pos (by omega)]
    congr 1
    omega
  show (match ixP xs.length (-1) with | some j => xs[j]? | none => none) = _
  rw [e]
  rw [← h, List.getLast?_eq_getElem?]
theorem tell_ok (s1 f1 c1 s2 f2 c2 : Option Int) (S : List PV) : m_telling_starts [.way s1 f1 c1, .way s2 f2 c2] S = some (.lst ((tellL s1 f1 c1 s2 f2 c2).map .int), S) := by
  have e1 := tl_sh s1 f1 c1 s2 f2 c2 S
  have l1 : (optL [s1, s2]).length ≤ 100000 := Nat.le_trans (List.length_filterMap_le _ _) (by simp)
  have l2 : (optL [f1, c1, f2, c2]).length ≤ 100000 := Nat.le_trans (List.length_filterMap_le _ _) (by simp)
  have e2 := fun v2 => tl_bd s1 f1 c1 s2 f2 c2 v2 S
  have e3 := fun v0 v1 v3 v4 v5 => tl_pr (optL [f1, c1, f2, c2]) (optL [s1, s2]) v0 v1 v3 v4 v5 S
  have pl := prods_len s1 f1 c1 s2 f2 c2
  have ss := fun S : List PV => sset_ok (S := S) (ns := 0 :: prods s1 f1 c1 s2 f2 c2) (by simp; omega)
  have tl := turn_len s1 f1 c1 s2 f2 c2
  have hd : ((turnL s1 f1 c1 s2 f2 c2).map PV.int).head? = some (.int ((turnL s1 f1 c1 s2 f2 c2).headD 0)) := by
    have := turn_ne (s1 := s1) (f1 := f1) (c1 := c1) (s2 := s2) (f2 := f2) (c2 := c2)
    cases h : turnL s1 f1 c1 s2 f2 c2 with
    | nil => exact absurd h this
    | cons x xs => rfl
  have lst : ((turnL s1 f1 c1 s2 f2 c2).map PV.int).getLast? = some (.int ((turnL s1 f1 c1 s2 f2 c2).getLastD 0)) := by
    have := turn_ne (s1 := s1) (f1 := f1) (c1 := c1) (s2 := s2) (f2 := f2) (c2 := c2)
    rw [List.getLast?_map, List.getLastD_eq_getLast?]
    cases h : (turnL s1 f1 c1 s2 f2 c2).getLast? with
    | none => exact absurd (List.getLast?_eq_none_iff.mp h) this
    | some x => rfl
  have i0 := fun S => ix_0 (S := S) hd
  have i1 := fun S => ix_m1 (S := S) lst
  have fin : tellL s1 f1 c1 s2 f2 c2 = ((turnL s1 f1 c1 s2 f2 c2).headD 0 - 1) :: turnL s1 f1 c1 s2 f2 c2 ++ [(turnL s1 f1 c1 s2 f2 c2).getLastD 0 + 1] := rfl
  change ((optL [f1, c1, f2, c2]).flatMap fun b => (optL [s1, s2]).map fun s => b - s).length ≤ 8 at pl
  unfold turnL prods at tl i0 i1 fin
  unfold prods at ss
  generalize optL [s1, s2] = A at *
  generalize optL [f1, c1, f2, c2] = B at *
  rw [fin]
  generalize (B.flatMap fun b => A.map fun s => b - s) = P at *
  have pl1 : P.length ≤ 100000 := by omega
  have pl2 : 1 + P.length ≤ 100000 := by omega
  have pl3 : (srtI (0 :: P)).length + 1 + 1 ≤ 100000 := by omega
  simp only [List.map_cons] at ss i0 i1
  simp [m_telling_starts, e_def, m_telling_startsB, wipM, e1, l1, e2, l2, e3, pl1, pl2, ss, i0, i1, items, pl3]
/-! two ways asked beside one another -/
theorem eqO (a b : Option Int) (S : List PV) : fEq S (PO' a) (PO' b) = some (.bl (decide (a = b))) := by
  cases a <;> cases b <;> simp [fEq, eqP, PV.scal]
theorem meq_ok (s1 f1 c1 s2 f2 c2 : Option Int) (S : List PV) : m_eq [.way s1 f1 c1, .way s2 f2 c2] S = some (.bl (decide (s1 = s2 ∧ f1 = f2 ∧ c1 = c2)), S) := by
  by_cases h1 : s1 = s2
  · by_cases h2 : f1 = f2
    · simp [m_eq, e_def, m_eqB, eqO, h1, h2]
    · simp [m_eq, e_def, m_eqB, eqO, h1, h2]
  · simp [m_eq, e_def, m_eqB, eqO, h1]
def fpL (p : Int → Bool) : List Int → PV
  | [] => .non
  | t :: ts => if p t then .int t else fpL p ts
theorem fp_loop {s1 f1 c1 s2 f2 c2 : Option Int} (w1 : wfW s1 f1 c1) (w2 : wfW s2 f2 c2) (v2 : SlV) (S : List PV) : ∀ (ts : List Int) (v3 : SlV), thenO (forL (.nm 3) m_first_partingF1 (ts.map .int) [.val (.way s1 f1 c1), .val (.way s2 f2 c2), v2, v3] S) (mRet (mC .non)) = some (.rt (fpL (fun t => decide (ld s1 f1 c1 t ≠ ld s2 f2 c2 t)) ts) S)
  | [], v3 => rfl
  | t :: ts, v3 => by
    have ih := fp_loop w1 w2 v2 S ts
    by_cases h : ld s1 f1 c1 t = ld s2 f2 c2 t
    · have e1 : m_first_partingF1 [.val (.way s1 f1 c1), .val (.way s2 f2 c2), v2, .val (.int t)] S = some (.nx [.val (.way s1 f1 c1), .val (.way s2 f2 c2), v2, .val (.int t)] S) := by simp [m_first_partingF1, call_ok w1, call_ok w2, h]
      rw [List.map_cons, forL_cons (by simp) e1, ih]
      simp [fpL, h]
    · simp [forL, m_first_partingF1, call_ok w1, call_ok w2, h, fpL]
theorem fp_ok {s1 f1 c1 s2 f2 c2 : Option Int} (w1 : wfW s1 f1 c1) (w2 : wfW s2 f2 c2) (ts : List Int) (S : List PV) : m_first_parting [.way s1 f1 c1, .way s2 f2 c2, .lst (ts.map .int)] S = some (fpL (fun t => decide (ld s1 f1 c1 t ≠ ld s2 f2 c2 t)) ts, S) := by
  have := fp_loop w1 w2 (.val (.lst (ts.map .int))) S ts .un
  simp [m_first_parting, e_def, m_first_partingB, this]
theorem fpL_spec (p : Int → Bool) : ∀ ts : List Int, (fpL p ts = .non ∧ ∀ t ∈ ts, p t = false) ∨ ∃ t ∈ ts, fpL p ts = .int t ∧ p t = true
  | [] => .inl ⟨rfl, fun _ h => by cases h⟩
  | t :: ts => by
    unfold fpL
    by_cases h : p t = true
    · rw [if_pos h]
      exact .inr ⟨t, List.mem_cons_self, rfl, h⟩
    · rw [if_neg h]
      rcases fpL_spec p ts with ⟨e, k⟩ | ⟨u, hu, e, k⟩
      · refine .inl ⟨e, fun u hu => ?_⟩
        rcases List.mem_cons.mp hu with q | q
        · rw [q]; simpa using h
        · exact k u q
      · exact .inr ⟨u, List.mem_cons_of_mem _ hu, e, k⟩
/-- rows told unlike by a start, or alike -/
structure TwoWays (E : Int → Prop) (G : Nat → Int → Prop) (r q : List Ev) where
  s1 : Option Int
  f1 : Option Int
  c1 : Option Int
  s2 : Option Int
  f2 : Option Int
  c2 : Option Int
  w1 : wfW s1 f1 c1
  w2 : wfW s2 f2 c2
  l1 : ∀ x, ld s1 f1 c1 x = run r x
  l2 : ∀ x, ld s2 f2 c2 x = run q x
theorem wo_of {p : PV} {r : List Ev} (h : RRow p r) {s f c : Option Int} (w : wfW s f c) (l : ∀ x, ld s f c x = run r x) (S : List PV) : m_way_of [p] S = some (.way s f c, S) := by
  obtain ⟨s', f', c', e, w', l', _⟩ := wo_ok (E := fun _ => True) (G := fun _ _ => True) ⟨trivial, fun _ _ => trivial, fun _ => trivial, fun _ => trivial⟩ h fun _ _ => trivial
  obtain ⟨rfl, rfl, rfl⟩ := way_ext w' w fun x => by rw [l', l]
  exact e S
theorem alike_ok {p q : PV} {r t : List Ev} (hp : RRow p r) (hq : RRow q t) {s1 f1 c1 s2 f2 c2 : Option Int} (w1 : wfW s1 f1 c1) (w2 : wfW s2 f2 c2) (l1 : ∀ x, ld s1 f1 c1 x = run r x) (l2 : ∀ x, ld s2 f2 c2 x = run t x) (S : List PV) : m_alike [p, q] S = some (.bl (decide (s1 = s2 ∧ f1 = f2 ∧ c1 = c2)), S) := by
  simp [m_alike, e_def, m_alikeB, wo_of hp w1 l1, wo_of hq w2 l2, meq_ok]
theorem ps_ok {p q : PV} {r t : List Ev} (hp : RRow p r) (hq : RRow q t) {s1 f1 c1 s2 f2 c2 : Option Int} (w1 : wfW s1 f1 c1) (w2 : wfW s2 f2 c2) (l1 : ∀ x, ld s1 f1 c1 x = run r x) (l2 : ∀ x, ld s2 f2 c2 x = run t x) (S : List PV) : m_parting_start [p, q] S = some (fpL (fun x => decide (run r x ≠ run t x)) (tellL s1 f1 c1 s2 f2 c2), S) := by
  have := fp_ok w1 w2 (tellL s1 f1 c1 s2 f2 c2) S
  simp only [l1, l2] at this
  simp [m_parting_start, e_def, m_parting_startB, wo_of hp w1 l1, wo_of hq w2 l2, tell_ok, this]
end BL

namespace BL
open PySem PySem.Spec PyProof.Rows L2
/-! rows as data; lists for tuples -/
theorem ls_eq (n : Nat) : m_law_lists (n + 1) = mDef 1 2 (m_law_listsB (m_law_lists n)) := rfl
theorem k2_t : kit2 "tuple" "list" "tuple" = some true := by decide +kernel
theorem k2_l : kit2 "list" "list" "tuple" = some true := by decide +kernel
theorem k2_i : kit2 "int" "list" "tuple" = some false := by decide +kernel
theorem k2_s : kit2 "str" "list" "tuple" = some false := by decide +kernel
@[simp] theorem ty_t' (xs : List PV) : tyN (.tup xs) = some "tuple" := rfl
@[simp] theorem ty_l' (xs : List PV) : tyN (.lst xs) = some "list" := rfl
@[simp] theorem ty_i' (i : Int) : tyN (.int i) = some "int" := rfl
@[simp] theorem ty_s' (s : Str) : tyN (.str s) = some "str" := rfl
@[simp] theorem ty_b' (b : Bool) : tyN (.bl b) = some "bool" := rfl
@[simp] theorem ty_n' : tyN .non = some "NoneType" := rfl
theorem ls_i (n : Nat) (i : Int) (S : List PV) : m_law_lists (n + 1) [.int i] S = some (.int i, S) := by
  simp [ls_eq, e_def, m_law_listsB, k2_i]
theorem ls_s (n : Nat) (i : Str) (S : List PV) : m_law_lists (n + 1) [.str i] S = some (.str i, S) := by
  simp [ls_eq, e_def, m_law_listsB, k2_s]
theorem ls_e (n : Nat) {p : PV} {e : Ev} (h : REv p e) (S : List PV) : m_law_lists (n + 2) [p] S = some (evL e, S) := by
  cases h <;> simp [ls_eq (n + 1), e_def, m_law_listsB, k2_t, k2_l, lcL, wipM, ls_s, ls_i, evL]
theorem ls_loop (n : Nat) (v0 : SlV) (S : List PV) : ∀ {ps : List PV} {r : List Ev}, All2 REv ps r → lcL (.nm 1) mYes (mCall (m_law_lists (n + 2)) (mCons (mVar 1) mNil)) [v0, .un] ps S = some (r.map evL, S)
  | _, _, .nil => rfl
  | p :: ps, e :: r, .cons h hr => by
    have ih := ls_loop n v0 S hr
    simp [lcL, ls_e n h, ih]
theorem ls_r (n : Nat) {p : PV} {r : List Ev} (h : RRow p r) (hl : r.length ≤ 100000) (S : List PV) : m_law_lists (n + 3) [p] S = some (rowL r, S) := by
  obtain ⟨ps, hp, h2⟩ := h
  have e1 := fun v0 => ls_loop n v0 S h2
  rcases hp with rfl | rfl <;> simp [ls_eq (n + 2), e_def, m_law_listsB, k2_t, k2_l, wipM, e1, hl, rowL]
/-! data are equal to themselves -/
mutual
theorem eqv_self : ∀ d : PyData, d.canLay0 = true → d.eqv d = true
  | .none, _ => rfl
  | .bool b, _ => by unfold PyData.eqv; simp
  | .int i, _ => by unfold PyData.eqv; simp
  | .str x, _ => by unfold PyData.eqv; simp
  | .list xs, h => by
    unfold PyData.canLay0 at h
    unfold PyData.eqv
    exact eqv_selfs xs h
  | .tuple xs, h => by
    unfold PyData.canLay0 at h
    unfold PyData.eqv
    exact eqv_selfs xs h
  | .dict _, h => by unfold PyData.canLay0 at h; cases h
theorem eqv_selfs : ∀ ds : List PyData, PyData.canLayAll0 ds = true → PyData.eqvAll ds ds = true
  | [], _ => by unfold PyData.eqvAll; rfl
  | d :: ds, h => by
    unfold PyData.canLayAll0 at h
    rw [Bool.and_eq_true] at h
    unfold PyData.eqvAll
    rw [eqv_self d h.1, eqv_selfs ds h.2]
    rfl
end
theorem eqP_self {x : PV} {d : PyData} (h0 : x.scal x = none) (h : x.toD = some d) (sh : SeqAt.shaped d = true) : eqP x x = some true := by
  unfold eqP
  rw [h0]
  simp only [h, sh]
  rw [eqv_self d (SeqAt.canLay_of_shaped sh)]
  rfl
def dEv (l : Bool) (e : Ev) : PyData := if l then .list [.str e.1.s, .int e.2] else .tuple [.str e.1.s, .int e.2]
theorem toD_evP (e : Ev) : (evP e).toD = some (dEv false e) := by simp [evP, PV.toD, PV.toD.toDs, dEv]
theorem toD_evL (e : Ev) : (evL e).toD = some (dEv true e) := by simp [evL, PV.toD, PV.toD.toDs, dEv]
theorem toDs_P : ∀ r : List Ev, PV.toD.toDs (r.map evP) = some (r.map (dEv false))
  | [] => by simp [PV.toD.toDs]
  | e :: r => by simp [PV.toD.toDs, toD_evP, toDs_P r]
theorem toDs_L : ∀ r : List Ev, PV.toD.toDs (r.map evL) = some (r.map (dEv true))
  | [] => by simp [PV.toD.toDs]
  | e :: r => by simp [PV.toD.toDs, toD_evL, toDs_L r]
theorem toD_rowP (r : List Ev) : (rowP r).toD = some (.tuple (r.map (dEv false))) := by simp [rowP, PV.toD, toDs_P]
theorem toD_rowL (r : List Ev) : (rowL r).toD = some (.list (r.map (dEv true))) := by simp [rowL, PV.toD, toDs_L]
theorem strOk_w (w : EW) : PyData.strOk w.s = true := by cases w <;> decide +kernel
theorem lay_ev (l : Bool) (e : Ev) : (dEv l e).canLay0 = true ∧ (dEv l e).depth ≤ 1 := by
  cases l <;> simp [dEv, PyData.canLay0, PyData.canLayAll0, PyData.depth, PyData.depthAll, strOk_w]
theorem lay_evs (l : Bool) : ∀ r : List Ev, PyData.canLayAll0 (r.map (dEv l)) = true ∧ PyData.depthAll (r.map (dEv l)) ≤ 1
  | [] => by simp [PyData.canLayAll0, PyData.depthAll]
  | e :: r => by
    obtain ⟨a, b⟩ := lay_ev l e
    obtain ⟨c, d⟩ := lay_evs l r
    simp [PyData.canLayAll0, PyData.depthAll, a, c]
    omega
theorem sh_rowP (r : List Ev) : SeqAt.shaped (.tuple (r.map (dEv false))) = true := by
  obtain ⟨a, b⟩ := lay_evs false r
  simp [SeqAt.shaped, PyData.canLay0, PyData.depth, a]
  omega
theorem sh_two (r q : List Ev) : SeqAt.shaped (.list [.list (r.map (dEv true)), .list (q.map (dEv true))]) = true := by
  obtain ⟨a, b⟩ := lay_evs true r
  obtain ⟨c, d⟩ := lay_evs true q
  simp [SeqAt.shaped, PyData.canLay0, PyData.canLayAll0, PyData.depth, PyData.depthAll, a, c]
  omega
theorem eq_soft (r q : List Ev) (S : List PV) : fEq S (.lst [rowL r, rowL q]) (.lst [rowL r, rowL q]) = some (.bl true) := by
  unfold fEq
  rw [eqP_self rfl (d := .list [.list (r.map (dEv true)), .list (q.map (dEv true))]) (by simp [PV.toD, PV.toD.toDs, toD_rowL]) (sh_two r q)]
theorem eqv_nilT (ds : List PyData) : PyData.eqv (.tuple ds) (.tuple []) = ds.isEmpty := by
  unfold PyData.eqv
  cases ds <;> rfl
theorem eqv_nilL (ds : List PyData) : PyData.eqv (.list ds) (.list []) = ds.isEmpty := by
  unfold PyData.eqv
  cases ds <;> rfl
theorem sh_nilT : SeqAt.shaped (.tuple []) = true := by decide +kernel
theorem sh_nilL : SeqAt.shaped (.list []) = true := by decide +kernel
theorem eq_rowN (r : List Ev) (S : List PV) : fEq S (rowP r) (.tup []) = some (.bl r.isEmpty) := by
  have h0 : (rowP r).scal (.tup []) = none := rfl
  have h1 : (PV.tup []).toD = some (.tuple []) := by simp [PV.toD, PV.toD.toDs]
  unfold fEq eqP
  simp only [h0, toD_rowP, h1, sh_rowP, sh_nilT, eqv_nilT]
  cases r <;> rfl
theorem sh_ints (ns : List Int) : SeqAt.shaped (.list (ns.map .int)) = true := by
  obtain ⟨h1, h2, _⟩ := lay_int ns
  simp [SeqAt.shaped, PyData.canLay0, PyData.depth, h1]
  omega
theorem eq_intN (ns : List Int) (S : List PV) : fEq S (.lst (ns.map .int)) (.lst []) = some (.bl ns.isEmpty) ∧ fNe S (.lst (ns.map .int)) (.lst []) = some (.bl (!ns.isEmpty)) := by
  have h0 : (PV.lst (ns.map .int)).scal (.lst []) = none := rfl
  have h1 : (PV.lst []).toD = some (.list []) := by simp [PV.toD, PV.toD.toDs]
  have h2 : (PV.lst (ns.map .int)).toD = some (.list (ns.map .int)) := by simp [PV.toD, toDs_int]
  unfold fNe fEq eqP
  simp only [h0, h1, h2, sh_ints, sh_nilL, eqv_nilL]
  cases ns <;> exact ⟨rfl, rfl⟩
/-! slices -/
theorem fSl_tup (xs : List PV) (lo hi : Option Int) : fSl (.tup xs) lo hi = some (.tup (cutP xs lo hi)) := rfl
theorem fSl_lst (xs : List PV) (lo hi : Option Int) : fSl (.lst xs) lo hi = some (.lst (cutP xs lo hi)) := rfl
def cutE {α : Type} (xs : List α) (lo hi : Option Int) : List α := (xs.drop (HT.sIx xs.length 0 lo)).take (HT.sIx xs.length xs.length hi - HT.sIx xs.length 0 lo)
theorem cutP_map {α : Type} (f : α → PV) (xs : List α) (lo hi : Option Int) : cutP (xs.map f) lo hi = (cutE xs lo hi).map f := by
  unfold cutP cutE
  rw [List.length_map, List.map_take, List.map_drop]
theorem cutE_mem {α : Type} {xs : List α} {lo hi : Option Int} {x : α} (h : x ∈ cutE xs lo hi) : x ∈ xs := List.mem_of_mem_drop (List.mem_of_mem_take h)
theorem cutE_len {α : Type} (xs : List α) (lo hi : Option Int) : (cutE xs lo hi).length ≤ xs.length := by
  unfold cutE
  rw [List.length_take, List.length_drop]
  omega
theorem sIx_nat (n d k : Nat) : HT.sIx n d (some (k : Int)) = min k n := by
  unfold HT.sIx
  simp only [show ¬ ((k : Int) < 0) by omega, if_false, Int.toNat_natCast]
theorem cut_take {α : Type} (xs : List α) (k : Nat) : cutE xs none (some (k : Int)) = xs.take k := by
  unfold cutE
  rw [sIx_nat]
  show ((xs.drop 0).take (min k xs.length - 0)) = _
  rw [List.drop_zero, Nat.sub_zero]
  by_cases h : k ≤ xs.length
  · rw [Nat.min_eq_left h]
  · rw [Nat.min_eq_right (by omega), List.take_length, List.take_of_length_le (by omega)]
theorem cut_drop {α : Type} (xs : List α) (k : Nat) : cutE xs (some (k : Int)) none = xs.drop k := by
  unfold cutE
  rw [sIx_nat]
  show ((xs.drop (min k xs.length)).take (xs.length - min k xs.length)) = _
  by_cases h : k ≤ xs.length
  · rw [Nat.min_eq_left h, List.take_of_length_le (by rw [List.length_drop]; omega)]
  · rw [Nat.min_eq_right (by omega), List.drop_length, List.drop_eq_nil_of_le (by omega)]
    simp
theorem cut_mid {α : Type} (xs : List α) (j k : Nat) (h : j ≤ k) : cutE xs (some (j : Int)) (some (k : Int)) = (xs.drop j).take (k - j) := by
  unfold cutE
  rw [sIx_nat, sIx_nat]
  by_cases h1 : k ≤ xs.length
  · rw [Nat.min_eq_left h1, Nat.min_eq_left (by omega)]
  · rw [Nat.min_eq_right (by omega)]
    by_cases h2 : j ≤ xs.length
    · rw [Nat.min_eq_left h2, List.take_of_length_le (by rw [List.length_drop]; omega), List.take_of_length_le (by rw [List.length_drop]; omega)]
    · rw [Nat.min_eq_right (by omega), List.drop_length, List.drop_eq_nil_of_le (by omega)]
      simp
/-! flat answers -/
theorem same_bls (bs : List Bool) : sameL (bs.map .bl) (bs.map .bl) = true ∧ deepL 1 (bs.map .bl) = true := by
  induction bs with
  | nil => exact ⟨rfl, rfl⟩
  | cons b bs ih => simp [sameL, deepL, PV.same, PV.deep, ih.1, ih.2]
end BL

namespace BL
open PySem PySem.Spec PyProof.Rows L2
/-! drawn rows -/
def Siz (s : Int) : Prop := s = 1 ∨ s = 7 ∨ s = 10000000000000000000000000000
/-- a multiple of s, of at most k times -/
def Mul (s : Int) (k : Int) (a : Int) : Prop := ∃ m, a = m * s ∧ -k ≤ m ∧ m ≤ k
theorem siz_nat {s : Int} (h : Siz s) : s.natAbs < 2 ^ 4000 := by
  refine Nat.lt_of_lt_of_le (show s.natAbs < 2 ^ 100 by rcases h with rfl | rfl | rfl <;> decide) (Nat.pow_le_pow_right (by decide) (by decide))
theorem size_ok {S : List PV} {n : Nat} {z : Int} (h : BoxAt S n z) (hz : z ≤ 900000000) : ∃ s S', m_law_size [.mref n] S = some (.int s, S') ∧ Siz s ∧ BoxAt S' n (z + 1) := by
  obtain ⟨i, v, S', e, hv, hB⟩ := of_ok (xs := [.int 1, .int 1, .int 1, .int 7, .int 10000000000000000000000000000]) h (by omega) (by simp) (by simp)
  have p28 : ∀ S : List PV, fPow S (.int 10) (.int 28) = some (.int 10000000000000000000000000000) := fun _ => rfl
  obtain ⟨s, rfl, hs⟩ : ∃ s : Int, v = .int s ∧ Siz s := by
    rcases i with _ | _ | _ | _ | _ | i <;> simp at hv <;> subst hv
    · exact ⟨_, rfl, .inl rfl⟩
    · exact ⟨_, rfl, .inl rfl⟩
    · exact ⟨_, rfl, .inl rfl⟩
    · exact ⟨_, rfl, .inr (.inl rfl)⟩
    · exact ⟨_, rfl, .inr (.inr rfl)⟩
  exact ⟨s, S', by simp [m_law_size, e_def, m_law_sizeB, cst, p28, e], hs, hB⟩
theorem word_ok {S : List PV} {n : Nat} {z : Int} (h : BoxAt S n z) (hz : z ≤ 900000000) : ∃ (w : EW) (S' : List PV), m_law_of [.mref n, .lst [.str "add", .str "add", .str "floor", .str "cap"]] S = some (.str w.s, S') ∧ BoxAt S' n (z + 1) := by
  obtain ⟨i, v, S', e, hv, hB⟩ := of_ok (xs := [.str "add", .str "add", .str "floor", .str "cap"]) h (by omega) (by simp) (by simp)
  rcases i with _ | _ | _ | _ | i <;> simp at hv <;> subst hv
  · exact ⟨.add, S', e, hB⟩
  · exact ⟨.add, S', e, hB⟩
  · exact ⟨.flo, S', e, hB⟩
  · exact ⟨.cap, S', e, hB⟩
theorem rung_ok {S : List PV} {n : Nat} {z most s : Int} (h : BoxAt S n z) (hz : z ≤ 800000000) (m0 : 0 ≤ most) (m1 : most ≤ 100) (hs : Siz s) :
    ∃ (r : List Ev) (S' : List PV), m_law_rung [.mref n, .int most, .int s] S = some (rowP r, S') ∧ (r.length : Int) ≤ most ∧ (∀ e ∈ r, Mul s 6 e.2) ∧ BoxAt S' n (z + 300) := by
  obtain ⟨k, S1, e1, k0, k1, h1⟩ := take_ok (m := most + 1) h (by omega) (by omega) (by omega)
  have sn := siz_nat hs
  obtain ⟨ρ', S', e, ⟨r, v4, v5, rfl, hl, hE⟩, hB⟩ := forL_invN (t := .nm 4) (mb := m_law_rungF1) (fun j ρ T => (∃ (r : List Ev) (v4 v5 : SlV), ρ = [.val (.mref n), .val (.int most), .val (.int s), .own (.lst (r.map evP)), v4, v5] ∧ r.length = j ∧ ∀ e ∈ r, Mul s 6 e.2) ∧ BoxAt T n (z + 1 + 2 * j)) (xs := rngP 0 k.toNat) (k := 0) (ρ := [.val (.mref n), .val (.int most), .val (.int s), .own (.lst (([] : List Ev).map evP)), .un, .un]) (S := S1) (fun x hx j ρ T hj hp => by
    obtain ⟨⟨r, v4, v5, rfl, hl, hE⟩, hB⟩ := hp
    rw [rngP_len] at hj
    obtain ⟨w, T1, e2, h2⟩ := word_ok hB (by omega)
    obtain ⟨m, T2, e3, m0', m1', h3⟩ := take_ok (m := 13) h2 (by omega) (by decide) (by decide)
    have lim1 : r.length ≤ 100000 := by omega
    have nm : (m - 6).natAbs < 2 ^ 64 := by omega
    refine ⟨[.val (.mref n), .val (.int most), .val (.int s), .own (.lst (r.map evP)), .val x, v5], [.val (.mref n), .val (.int most), .val (.int s), .own (.lst ((r ++ [(w, (m - 6) * s)]).map evP)), .val x, .val (.str w.s)], T2, by simp, ?_, ⟨r ++ [(w, (m - 6) * s)], _, _, rfl, by simp [hl], fun e he => ?_⟩, h3.le (by omega)⟩
    · simp [m_law_rungF1, e2, e3, nm, lim1, evP]
    · rcases List.mem_append.mp he with he | he
      · exact hE e he
      · rw [List.mem_singleton.mp he]
        exact ⟨m - 6, rfl, by omega, by omega⟩) ⟨⟨[], .un, .un, rfl, rfl, (fun e he => by cases he)⟩, h1.le (by omega)⟩
  rw [rngP_len] at hB hl
  have hr1 : ∀ ρ : List SlV, ρ = [.val (.mref n), .val (.int most), .val (.int s), .own (.lst []), .un, .un] → mRng1 (mCall m_law_take (mCons (mVar 0) (mCons (mOp fAdd (mVar 1) (mC (.int 1))) mNil))) ρ S = some (rngP 0 k.toNat, S1) := fun ρ hρ => rng1_ok (by subst hρ; simp [e1]) ⟨by omega, by omega⟩
  refine ⟨r, S', ?_, by omega, hE, hB.le (by omega)⟩
  simp only [List.map_nil] at e
  have f1 := for_of (t := .nm 4) (mb := m_law_rungF1) (hr1 _ rfl)
  rw [e] at f1
  simp [m_law_rung, e_def, m_law_rungB, -e_for, f1, rowP]
theorem e_put_ev (is : List Nat) (e : Ev) (ρ : List SlV) : (Tg.tp is).put (evP e) ρ = putAll is [.str e.1.s, .int e.2] ρ := rfl
theorem near_ok {S : List PV} {n : Nat} {z s : Int} {r : List Ev} (h : BoxAt S n z) (hz : z ≤ 800000000) (hl : r.length ≤ 100) (hE : ∀ e ∈ r, Mul s 6 e.2) (hs : Siz s) :
    ∃ (q : List Ev) (S' : List PV), m_law_near [.mref n, rowP r, .int s] S = some (rowP q, S') ∧ q.length ≤ r.length + 1 ∧ (∀ e ∈ q, Mul s 7 e.2) ∧ BoxAt S' n (z + 3) := by
  obtain ⟨a, S1, e1, a0, a1, h1⟩ := take_ok (m := (r.length : Int) + 1) h (by omega) (by omega) (by omega)
  obtain ⟨w, S2, e2, w0, w1, h2⟩ := take_ok (m := 6) h1 (by omega) (by decide) (by decide)
  obtain ⟨k, rfl⟩ := Int.eq_ofNat_of_zero_le a0
  have hk : k ≤ r.length := by omega
  have up : ∀ a, Mul s 6 a → Mul s 7 a := fun a ⟨m, e, x, y⟩ => ⟨m, e, by omega, by omega⟩
  have e1' : m_law_take [.mref n, .int ((((r.map evP).length : Nat) : Int) + 1)] S = some (.int (k : Int), S1) := by rw [List.length_map]; exact e1
  have c1 : cutP (r.map evP) none (some (k : Int)) = (r.take k).map evP := by rw [cutP_map, cut_take]
  have c2 : cutP (r.map evP) (some (k : Int)) none = (r.drop k).map evP := by rw [cutP_map, cut_drop]
  have eH : ∀ e ∈ r.take k, Mul s 7 e.2 := fun e he => up _ (hE e (List.mem_of_mem_take he))
  have eT : ∀ e ∈ r.drop k, Mul s 7 e.2 := fun e he => up _ (hE e (List.mem_of_mem_drop he))
  have eT6 : ∀ e ∈ r.drop k, Mul s 6 e.2 := fun e he => hE e (List.mem_of_mem_drop he)
  have lH : (r.take k).length = k := by rw [List.length_take]; omega
  have lT : (r.drop k).length = r.length - k := List.length_drop
  have hB2 : BoxAt S2 n (z + 3) := h2.le (by omega)
  have one : ∀ {X : List PV → Option (PV × List PV)} (q : List Ev), X S = some (rowP q, S2) → q.length ≤ r.length + 1 → (∀ e ∈ q, Mul s 7 e.2) → ∃ (q : List Ev) (S' : List PV), X S = some (rowP q, S') ∧ q.length ≤ r.length + 1 ∧ (∀ e ∈ q, Mul s 7 e.2) ∧ BoxAt S' n (z + 3) := fun q e l p => ⟨q, S2, e, l, p, hB2⟩
  generalize r.take k = H at c1 eH lH
  generalize r.drop k = T at c2 eT eT6 lT
  have eqN : ∀ S, fEq S (.tup (T.map evP)) (.tup []) = some (.bl T.isEmpty) := fun S => eq_rowN T S
  have lim : H.length + T.length + 2 ≤ 100000 := by omega
  have c3 : cutP (T.map evP) none (some 1) = (T.take 1).map evP := by rw [cutP_map]; exact congrArg _ (cut_take T 1)
  have c4 : cutP (T.map evP) (some 1) none = (T.drop 1).map evP := by rw [cutP_map]; exact congrArg _ (cut_drop T 1)
  have c5 : cutP (T.map evP) (some 1) (some 2) = ((T.drop 1).take 1).map evP := by rw [cutP_map]; exact congrArg _ (cut_mid T 1 2 (by decide))
  have c6 : cutP (T.map evP) (some 2) none = (T.drop 2).map evP := by rw [cutP_map]; exact congrArg _ (cut_drop T 2)
  by_cases q0 : w = 0
  · refine ⟨H ++ [(.add, 0)] ++ T, S2, ?_, by simp; omega, fun e he => ?_, hB2⟩
    · have l2 : H.length + 1 ≤ 100000 := by omega
      have l3 : H.length + (1 + T.length) ≤ 100000 := by omega
      have l4 : H.length + 1 + T.length ≤ 100000 := by omega
      simp [m_law_near, e_def, m_law_nearB, rowP, e1, e2, fSl_tup, c1, c2, q0, l2, l3, l4, evP, EW.s]
    · rcases List.mem_append.mp he with he | he
      · rcases List.mem_append.mp he with he | he
        · exact eH e he
        · rw [List.mem_singleton.mp he]
          exact ⟨0, by simp, by omega, by omega⟩
      · exact eT e he
  by_cases qT : T = []
  · subst qT
    refine ⟨H ++ [(.add, 0)], S2, ?_, by simp; omega, fun e he => ?_, hB2⟩
    · have l2 : H.length + 1 ≤ 100000 := by omega
      simp at eqN
      simp [m_law_near, e_def, m_law_nearB, rowP, e1, e2, fSl_tup, c1, c2, q0, eqN, l2, evP, EW.s]
    · rcases List.mem_append.mp he with he | he
      · exact eH e he
      · rw [List.mem_singleton.mp he]
        exact ⟨0, by simp, by omega, by omega⟩
  obtain ⟨t, T', rfl⟩ : ∃ t T', T = t :: T' := by
    cases T with
    | nil => exact absurd rfl qT
    | cons t T' => exact ⟨t, T', rfl⟩
  have eqN' : ∀ S, fEq S (.tup ((t :: T').map evP)) (.tup []) = some (.bl false) := eqN
  simp only [List.length_cons] at lT lim
  have l1 : H.length + 1 ≤ 100000 := by omega
  have l2 : H.length + 1 + (T'.length + 1) ≤ 100000 := by omega
  have l3 : H.length + (1 + (T'.length + 1)) ≤ 100000 := by omega
  have l4 : H.length + T'.length ≤ 100000 := by omega
  have l5 : H.length + 1 + T'.length ≤ 100000 := by omega
  have l6 : H.length + (1 + T'.length) ≤ 100000 := by omega
  simp only [List.map_cons] at eqN' c2 c3 c4 c5 c6
  by_cases q1 : w = 1
  · refine ⟨H ++ [t] ++ (t :: T'), S2, ?_, by simp; omega, fun e he => ?_, hB2⟩
    · simp [m_law_near, e_def, m_law_nearB, rowP, e1, e2, fSl_tup, c1, c2, c3, q1, eqN', l1, l2, l3]
    · rcases List.mem_append.mp he with he | he
      · rcases List.mem_append.mp he with he | he
        · exact eH e he
        · rw [List.mem_singleton.mp he]; exact eT t List.mem_cons_self
      · exact eT e he
  by_cases q2 : w = 2
  · refine ⟨H ++ T', S2, ?_, by simp; omega, fun e he => ?_, hB2⟩
    · simp [m_law_near, e_def, m_law_nearB, rowP, e1, e2, fSl_tup, c1, c2, c4, q2, eqN', l4]
    · rcases List.mem_append.mp he with he | he
      · exact eH e he
      · exact eT e (List.mem_cons_of_mem _ he)
  by_cases q3 : w = 3
  · have lt : ((T'.take 1).length) ≤ T'.length := by rw [List.length_take]; omega
    have ld : ((T'.drop 1).length) ≤ T'.length := by rw [List.length_drop]; omega
    have lk : (T'.take 1).length + (T'.drop 1).length = T'.length := by rw [← List.length_append, List.take_append_drop]
    have c5' : cutP (evP t :: T'.map evP) (some 1) (some 2) = (T'.take 1).map evP := c5
    have c6' : cutP (evP t :: T'.map evP) (some 2) none = (T'.drop 1).map evP := c6
    refine ⟨H ++ T'.take 1 ++ [t] ++ T'.drop 1, S2, ?_, by rw [List.length_append, List.length_append, List.length_append]; simp only [List.length_cons, List.length_nil]; omega, fun e he => ?_, hB2⟩
    · generalize T'.take 1 = A at *
      generalize T'.drop 1 = B at *
      have m1 : H.length + A.length ≤ 100000 := by omega
      have m2 : H.length + A.length + 1 ≤ 100000 := by omega
      have m3 : H.length + A.length + 1 + B.length ≤ 100000 := by omega
      have m4 : H.length + (A.length + 1) ≤ 100000 := by omega
      have m5 : H.length + (A.length + (1 + B.length)) ≤ 100000 := by omega
      have m6 : H.length + (A.length + 1) + B.length ≤ 100000 := by omega
      simp [m_law_near, e_def, m_law_nearB, rowP, e1, e2, fSl_tup, c1, c2, c3, c5', c6', q3, eqN', m1, m2, m3, m4, m5, m6]
    · rcases List.mem_append.mp he with he | he
      · rcases List.mem_append.mp he with he | he
        · rcases List.mem_append.mp he with he | he
          · exact eH e he
          · exact eT e (List.mem_cons_of_mem _ (List.mem_of_mem_take he))
        · rw [List.mem_singleton.mp he]; exact eT t List.mem_cons_self
      · exact eT e (List.mem_cons_of_mem _ (List.mem_of_mem_drop he))
  by_cases q4 : w = 4
  · obtain ⟨i, v, S3, e3, hv, h3⟩ := of_ok (xs := [.int (-1), .int 1]) h2 (by omega) (by simp) (by simp)
    obtain ⟨j, rfl, hj⟩ : ∃ j : Int, v = .int j ∧ (j = -1 ∨ j = 1) := by
      rcases i with _ | _ | i <;> simp at hv <;> subst hv
      · exact ⟨_, rfl, .inl rfl⟩
      · exact ⟨_, rfl, .inr rfl⟩
    have nj : j.natAbs < 2 ^ 64 := by rcases hj with rfl | rfl <;> decide
    have i0 : ∀ S, fIx S (.tup (evP t :: T'.map evP)) (.int 0) = some (evP t) := fun S => by simp [fIx, ixP]
    have rev : evP (t.1, t.2 + j * s) = .tup [.str t.1.s, .int (t.2 + j * s)] := rfl
    refine ⟨H ++ [(t.1, t.2 + j * s)] ++ T', S3, ?_, by simp; omega, fun e he => ?_, h3.le (by omega)⟩
    · simp [m_law_near, e_def, m_law_nearB, rowP, e1, e2, fSl_tup, c1, c2, c4, q4, eqN', i0, e_put_ev, rev, e3, nj, l1, l5, l6, l4]
    · rcases List.mem_append.mp he with he | he
      · rcases List.mem_append.mp he with he | he
        · exact eH e he
        · rw [List.mem_singleton.mp he]
          obtain ⟨m, em, m0, m1⟩ := eT6 t List.mem_cons_self
          refine ⟨m + j, ?_, by omega, by omega⟩
          show t.2 + j * s = (m + j) * s
          rw [em, Int.add_mul]
      · exact eT e (List.mem_cons_of_mem _ he)
  · have q5 : w = 5 := by omega
    refine ⟨r, S2, ?_, by omega, fun e he => up _ (hE e he), hB2⟩
    simp [m_law_near, e_def, m_law_nearB, rowP, e1, e2, fSl_tup, c1, c2, q5, eqN']
end BL

set_option exponentiation.threshold 3000
namespace BL
open PySem PySem.Spec PyProof.Rows L2
/-! texts of numbers, f-strings -/
section
variable {ρ : List SlV} {S S1 S2 : List PV} {m : ME} {ms : List ME} {acc x y : Str} {r : Str × List PV}
theorem v_js (h : mJ ms Str.empty ρ S = some (x, S1)) : mJs ms ρ S = some (.str x, S1) := by
  unfold mJs
  rw [h]
theorem j_nil : mJ [] acc ρ S = some (acc, S) := rfl
theorem j_cons (h1 : m ρ S = some (.str y, S1)) (l : (acc ++ y).length ≤ 100000) (h2 : mJ ms (acc ++ y) ρ S1 = some r) : mJ (m :: ms) acc ρ S = some r := by
  unfold mJ
  rw [h1]
  exact (if_pos l).trans h2
end
theorem big_lt {i : Int} (h : i.natAbs ≤ 100000000000000000000000000000000) : i.natAbs < 2 ^ 1900 := by
  refine Nat.lt_of_lt_of_le (m := 2 ^ 120) ?_ (Nat.pow_le_pow_right (by decide) (by decide))
  exact Nat.lt_of_le_of_lt h (by decide)
theorem fmt_i {i : Int} (h : i.natAbs ≤ 100000000000000000000000000000000) (S : List PV) : fFmt S (.int i) = some (.str (itxt i)) := if_pos (big_lt h)
theorem fmtP_i {i : Int} (h : i.natAbs ≤ 100000000000000000000000000000000) (S : List PV) : fFmtP S (.int i) = some (.str (plusS i)) := if_pos (big_lt h)
theorem str_i {i : Int} (h : i.natAbs ≤ 100000000000000000000000000000000) (S : List PV) : fStrI S [.int i] = some (.str (itxt i)) := if_pos (big_lt h)
theorem fmt_s {x : Str} (h : x.length ≤ 1000) (S : List PV) : fFmt S (.str x) = some (.str x) := if_pos (by omega)
theorem add_s {x y : Str} (h : x.length + y.length ≤ 1000) (S : List PV) : fAdd S (.str x) (.str y) = some (.str (x ++ y)) := if_pos (by omega)
theorem tl_i {i : Int} (h : i.natAbs ≤ 100000000000000000000000000000000) : (itxt i).length ≤ 41 := by
  have h3 : (Nat.toDigits 10 i.natAbs).length ≤ 40 := PyProof.Rows.digits10_le (by decide) (Nat.lt_of_le_of_lt h (by decide))
  unfold itxt Str.length
  simp only [List.size_toArray, List.length_append, List.length_map]
  have : (if i < 0 then [45] else [] : List Nat).length ≤ 1 := by split <;> decide
  omega
theorem plus_i (i : Int) : plusS i = if i < 0 then itxt i else ("+" : Str) ++ itxt i := by
  unfold plusS itxt
  by_cases c : i < 0
  · simp [c]
  · simp only [c, if_false]
    refine Str.ext' ?_
    rw [Str.cps_append]
    show _ = (#[43] : Array Nat) ++ _
    simp
theorem pl_i {i : Int} (h : i.natAbs ≤ 100000000000000000000000000000000) : (plusS i).length ≤ 42 := by
  have := tl_i h
  rw [plus_i]
  split
  · omega
  · rw [strLen_append]
    have : ("+" : Str).length = 1 := by decide +kernel
    omega
theorem v_prop {f : List PV → List PV → Option (PV × List PV)} {ma : ME} {ρ : List SlV} {S S1 S2 : List PV} {s g c : Option Int} {z : PV} (h1 : ma ρ S = some (.way s g c, S1)) (h2 : f [.way s g c] S1 = some (z, S2)) : mProp f ma ρ S = some (z, S2) := by
  unfold mProp
  rw [h1]
  exact h2
/-- one number or none -/
def oT (o : Option Int) : Str := match o with
  | none => "-"
  | some i => itxt i
def smO (o : Option Int) : Prop := ∀ i, o = some i → i.natAbs ≤ 100000000000000000000000000000000
theorem oT_len {o : Option Int} (h : smO o) : (oT o).length ≤ 41 := by
  cases o with
  | none => show ("-" : Str).length ≤ 41; decide +kernel
  | some i => exact tl_i (h i rfl)
theorem sp_len : (" " : Str).length = 1 := by decide +kernel
theorem em_len : Str.empty.length = 0 := by decide +kernel
theorem join3 (a b c : Str) : Txt.join " " [a, b, c] = Str.empty ++ a ++ " " ++ b ++ " " ++ c := by
  refine Str.ext' ?_
  rw [Str.cps_append, Str.cps_append, Str.cps_append, Str.cps_append, Str.cps_append]
  show _ = (#[] : Array Nat) ++ a.cps ++ _ ++ b.cps ++ _ ++ c.cps
  rw [Array.empty_append]
  rfl
theorem strs3 (a b c : Str) : strsP [.str a, .str b, .str c] = some [a, b, c] := rfl
theorem fj3 {a b c : Str} (ha : a.length ≤ 41) (hb : b.length ≤ 41) (hc : c.length ≤ 41) (S : List PV) : fJoin S (.str " ") (.lst [.str a, .str b, .str c]) = some (.str (Txt.join " " [a, b, c])) := by
  unfold fJoin
  simp only [strs3]
  refine if_pos ?_
  show ([a, b, c].map (·.length)).sum + 3 * (" " : Str).length ≤ 16777216
  rw [sp_len]
  simp only [List.map_cons, List.map_nil, List.sum_cons, List.sum_nil]
  omega
end BL

namespace BL
open PySem PySem.Spec PyProof.Rows L2
theorem lay_w (w : EW) : PyData.canLay0 (.str w.s) = true := by cases w <;> decide +kernel
theorem pl_ev (n : Nat) (e : Ev) : (evP e).pl (n + 1) = true ∧ (evL e).pl (n + 1) = true := by
  have := lay_w e.1
  cases n <;> simp [evP, evL, PV.pl, plL, this]
theorem pl_row (n : Nat) (r : List Ev) : (rowP r).pl (n + 2) = true ∧ (rowL r).pl (n + 2) = true := by
  constructor
  · show plL (n + 1) (r.map evP) = true
    exact plL_all fun x hx => by obtain ⟨e, _, rfl⟩ := List.mem_map.mp hx; exact (pl_ev n e).1
  · show plL (n + 1) (r.map evL) = true
    exact plL_all fun x hx => by obtain ⟨e, _, rfl⟩ := List.mem_map.mp hx; exact (pl_ev n e).2
theorem nb_row (r : List Ev) : (rowP r).nb = true ∧ (rowL r).nb = true := by
  constructor
  · show nbL (r.map evP) = true
    exact nbL_all fun x hx => by obtain ⟨e, _, rfl⟩ := List.mem_map.mp hx; rfl
  · show nbL (r.map evL) = true
    exact nbL_all fun x hx => by obtain ⟨e, _, rfl⟩ := List.mem_map.mp hx; rfl
theorem pl_ints (n : Nat) (as : List Int) : (PV.tup (as.map .int)).pl (n + 1) = true ∧ (PV.lst (as.map .int)).pl (n + 1) = true := by
  have : plL n (as.map PV.int) = true := plL_all fun x hx => by obtain ⟨e, _, rfl⟩ := List.mem_map.mp hx; cases n <;> rfl
  exact ⟨this, this⟩
theorem nb_ints (as : List Int) : (PV.tup (as.map .int)).nb = true ∧ (PV.lst (as.map .int)).nb = true := by
  have : nbL (as.map PV.int) = true := nbL_all fun x hx => by obtain ⟨e, _, rfl⟩ := List.mem_map.mp hx; rfl
  exact ⟨this, this⟩
theorem map_int_inj : ∀ {as bs : List Int}, as.map PV.int = bs.map PV.int → as = bs
  | [], [], _ => rfl
  | [], _ :: _, h => by cases h
  | _ :: _, [], h => by cases h
  | a :: as, b :: bs, h => by
    simp only [List.map_cons, List.cons.injEq, PV.int.injEq] at h
    rw [h.1, map_int_inj h.2]
theorem eq_ints (as bs : List Int) (S : List PV) : fEq S (.lst (as.map .int)) (.lst (bs.map .int)) = some (.bl (decide (as = bs))) := by
  by_cases c : as = bs
  · subst c
    rw [feq_refl (pl_ints 59 as).2]
    simp
  · rw [feq_f (pl_ints 59 as).2 (pl_ints 59 bs).2 (nb_ints as).2 (nb_ints bs).2 (fun e => c (map_int_inj (PV.lst.inj e)))]
    simp [c]
end BL

namespace BL
open PySem PySem.Spec PyProof.Rows L2
theorem erase_perm {α : Type} : ∀ {P : List α} {q : Nat} (h : q < P.length), (P[q] :: P.eraseIdx q).Perm P
  | x :: P, 0, _ => .refl _
  | x :: P, q + 1, h => by
    have ih := erase_perm (P := P) (q := q) (by simp at h; omega)
    exact (List.Perm.swap _ _ _).trans (ih.cons x)
theorem erase_map {α β : Type} (f : α → β) : ∀ (P : List α) (q : Nat), (P.map f).eraseIdx q = (P.eraseIdx q).map f
  | [], _ => rfl
  | x :: P, 0 => rfl
  | x :: P, q + 1 => by
    show f x :: (P.map f).eraseIdx q = f x :: (P.eraseIdx q).map f
    rw [erase_map f P q]
theorem ixP_nat {m q : Nat} (h : q < m) : ixP m (q : Int) = some q := by
  unfold ixP
  rw [if_pos (by omega), if_pos (by omega), Int.toNat_natCast]
theorem s_appPop {ρ ρ1 : List SlV} {S S1 : List PV} {mi : ME} {i j : Nat} {α : Type} {f : α → PV} {P F : List α} {q : Nat} (h1 : mi ρ S = some (.int (q : Int), S1)) (hx : ρ[i]? = some (.own (.lst (P.map f)))) (hy : ρ[j]? = some (.own (.lst (F.map f)))) (c : i ≠ j) (lF : F.length ≤ 100000) (hq : q < P.length) (lP : P.length ≤ 100000)
    (hw : (ρ.set i (.own (.lst ((P.eraseIdx q).map f)))).set j (.own (.lst ((F ++ [P[q]]).map f))) = ρ1) : mAppPop j i mi ρ S = some (.nx ρ1 S1) := by
  have at' : (P.map f)[q]? = some (f P[q]) := by
    rw [List.getElem?_map, List.getElem?_eq_getElem hq]
    rfl
  have ap : F.map f ++ [f P[q]] = (F ++ [P[q]]).map f := by rw [List.map_append]; rfl
  have ix : ixP (P.map f).length (q : Int) = some q := ixP_nat (by rw [List.length_map]; exact hq)
  have cc : i ≠ j ∧ (F.map f).length ≤ 100000 ∧ -(2 ^ 62) ≤ (q : Int) ∧ (q : Int) < 2 ^ 62 := ⟨c, by rw [List.length_map]; exact lF, by omega, by omega⟩
  rw [e_appPop, h1]
  simp only [hx, hy]
  rw [if_pos cc]
  simp only [ix, at', erase_map, ap, hw]
end BL

namespace BL
open PySem PySem.Spec PyProof.Rows L2
/-! ranges, tuples of numbers, what is often asked -/
theorem rng_len : ∀ (n : Nat) (lo : Int), (rngI lo n).length = n
  | 0, _ => rfl
  | n + 1, lo => by simp [rngI, rng_len n]
theorem rng_lo : ∀ {n : Nat} {lo i : Int}, i ∈ rngI lo n → lo ≤ i ∧ i < lo + n
  | n + 1, lo, i, h => by
    rcases List.mem_cons.mp h with rfl | h
    · omega
    · have := rng_lo h; omega
theorem rng_mem : ∀ {n : Nat} {lo i : Int}, lo ≤ i → i < lo + n → i ∈ rngI lo n
  | 0, lo, i, h1, h2 => by omega
  | n + 1, lo, i, h1, h2 => by
    by_cases c : i = lo
    · rw [c]; exact List.mem_cons_self
    · exact List.mem_cons_of_mem _ (rng_mem (by omega) (by omega))
theorem rng_nd : ∀ (n : Nat) (lo : Int), (rngI lo n).Nodup
  | 0, _ => List.nodup_nil
  | n + 1, lo => List.nodup_cons.mpr ⟨fun h => by have := rng_lo h; omega, rng_nd n (lo + 1)⟩
theorem rng_snoc : ∀ (n : Nat) (lo : Int), rngI lo (n + 1) = rngI lo n ++ [lo + n]
  | 0, lo => by simp [rngI]
  | n + 1, lo => by
    show lo :: rngI (lo + 1) (n + 1) = lo :: (rngI (lo + 1) n ++ [lo + (n + 1 : Nat)])
    rw [rng_snoc n (lo + 1)]
    congr 3
    omega
theorem rng_in {n : Nat} {T : List Int} (hT : T.Perm (rngI 0 n)) : ∀ i ∈ T, 0 ≤ i ∧ i < (n : Int) := fun i hi => by
  have := rng_lo (hT.mem_iff.mp hi)
  omega
theorem perm_sub : ∀ (R T : List Int), R.Nodup → R ⊆ T → T.length = R.length → R.Perm T
  | [], T, _, _, l => by
    cases T with
    | nil => exact .nil
    | cons _ _ => cases l
  | x :: R, T, nd, sub, l => by
    obtain ⟨nx, nd⟩ := List.nodup_cons.mp nd
    have hx : x ∈ T := sub List.mem_cons_self
    have p := List.perm_cons_erase hx
    have ih := perm_sub R (T.erase x) nd (fun y hy => (List.mem_erase_of_ne (fun e => nx (by rw [← show y = x from e]; exact hy))).mpr (sub (List.mem_cons_of_mem _ hy))) (by
      have := p.length_eq
      simp only [List.length_cons] at this l
      omega)
    exact (ih.cons x).trans p.symm
def tupI (T : List Int) : PV := .tup (T.map .int)
def lstI (T : List Int) : PV := .lst (T.map .int)
/-- a tuple or a list of these numbers -/
def IsI (v : PV) (T : List Int) : Prop := v = tupI T ∨ v = lstI T
theorem len_tI (T : List Int) (S : List PV) : fLen S [tupI T] = some (.int (T.length : Int)) := by
  have e : fLen S [.tup (T.map .int)] = some (.int (T.map PV.int).length) := rfl
  rw [List.length_map] at e
  exact e
theorem len_lI (T : List Int) (S : List PV) : fLen S [lstI T] = some (.int (T.length : Int)) := by
  have e : fLen S [.lst (T.map .int)] = some (.int (T.map PV.int).length) := rfl
  rw [List.length_map] at e
  exact e
theorem len_tM {α : Type} (f : α → PV) (T : List α) (S : List PV) : fLen S [.tup (T.map f)] = some (.int (T.length : Int)) := by
  have e : fLen S [.tup (T.map f)] = some (.int (T.map f).length) := rfl
  rw [List.length_map] at e
  exact e
theorem len_lM {α : Type} (f : α → PV) (T : List α) (S : List PV) : fLen S [.lst (T.map f)] = some (.int (T.length : Int)) := by
  have e : fLen S [.lst (T.map f)] = some (.int (T.map f).length) := rfl
  rw [List.length_map] at e
  exact e
theorem i_seqI {ma : ME} {ρ : List SlV} {S S1 : List PV} {v : PV} {T : List Int} (hv : IsI v T) (h : ma ρ S = some (v, S1)) : mSeqI ma ρ S = some (T.map .int, S1) := by
  rcases hv with rfl | rfl
  · exact i_seqT h
  · exact i_seqL h
theorem sl_take {α : Type} (f : α → PV) (T : List α) (k : Nat) : fSl (.tup (T.map f)) none (some (k : Int)) = some (.tup ((T.take k).map f)) := by
  rw [fSl_tup, cutP_map, cut_take]
theorem sl_drop {α : Type} (f : α → PV) (T : List α) (k : Nat) : fSl (.tup (T.map f)) (some (k : Int)) none = some (.tup ((T.drop k).map f)) := by
  rw [fSl_tup, cutP_map, cut_drop]
theorem sl_takeL {α : Type} (f : α → PV) (T : List α) (k : Nat) : fSl (.lst (T.map f)) none (some (k : Int)) = some (.lst ((T.take k).map f)) := by
  rw [fSl_lst, cutP_map, cut_take]
theorem sl_dropL {α : Type} (f : α → PV) (T : List α) (k : Nat) : fSl (.lst (T.map f)) (some (k : Int)) none = some (.lst ((T.drop k).map f)) := by
  rw [fSl_lst, cutP_map, cut_drop]
theorem add_tM {α : Type} (f : α → PV) (A B : List α) (l : A.length + B.length ≤ 100000) (S : List PV) : fAdd S (.tup (A.map f)) (.tup (B.map f)) = some (.tup ((A ++ B).map f)) := by
  rw [List.map_append]
  exact if_pos (by rw [List.length_map, List.length_map]; exact l)
theorem add_lM {α : Type} (f : α → PV) (A B : List α) (l : A.length + B.length ≤ 100000) (S : List PV) : fAdd S (.lst (A.map f)) (.lst (B.map f)) = some (.lst ((A ++ B).map f)) := by
  rw [List.map_append]
  exact if_pos (by rw [List.length_map, List.length_map]; exact l)
theorem okRg_nat {n : Nat} (h : n ≤ 1000) : okRg 0 n = true := by
  unfold okRg
  simp only [Bool.and_eq_true, decide_eq_true_eq]
  omega
theorem mxI_ok {ns : List Int} (h : ns ≠ []) (S : List PV) : fMax S [.lst (ns.map .int)] = some (.int (maxI ns)) ∧ fMin S [.lst (ns.map .int)] = some (.int (minI ns)) := by
  cases ns with
  | nil => exact absurd rfl h
  | cons n ns =>
    have := intsP_map (n :: ns)
    constructor
    · unfold fMax; simp only [this]
    · unfold fMin; simp only [this]
theorem max_is {ns : List Int} {v : Int} (h : v ∈ ns) (k : ∀ n ∈ ns, n ≤ v) (S : List PV) : fMax S [.lst (ns.map .int)] = some (.int v) := by
  have ne : ns ≠ [] := fun z => by rw [z] at h; cases h
  rw [(mxI_ok ne S).1]
  obtain ⟨a, b⟩ := maxI_spec ne
  have := b v h
  have := k _ a
  rw [show maxI ns = v by omega]
theorem min_is {ns : List Int} {v : Int} (h : v ∈ ns) (k : ∀ n ∈ ns, v ≤ n) (S : List PV) : fMin S [.lst (ns.map .int)] = some (.int v) := by
  have ne : ns ≠ [] := fun z => by rw [z] at h; cases h
  rw [(mxI_ok ne S).2]
  obtain ⟨a, b⟩ := minI_spec ne
  have := b v h
  have := k _ a
  rw [show minI ns = v by omega]
theorem sum_is (ns : List Int) (S : List PV) : fSum S [.lst (ns.map .int)] = some (.int ns.sum) := by
  simp only [fSum, intsP_map]
theorem bls_map : ∀ bs : List Bool, bls (bs.map .bl) = some bs
  | [] => rfl
  | b :: bs => by rw [List.map_cons]; unfold bls; rw [bls_map bs]
theorem fall_map (bs : List Bool) (S : List PV) : fAll S [.lst (bs.map .bl)] = some (.bl (bs.all id)) := by
  unfold fAll
  simp only [bls_map]
def gI (as : List Int) (k : Int) : Int := as.getD k.toNat 0
theorem gI_all (as : List Int) : (rngI 0 as.length).map (gI as) = as := by
  have key : ∀ (as pre : List Int), (rngI pre.length as.length).map (gI (pre ++ as)) = as := fun as => by
    induction as with
    | nil => intro pre; rfl
    | cons a as ih =>
      intro pre
      have e : gI (pre ++ a :: as) pre.length = a := by
        unfold gI
        rw [Int.toNat_natCast]
        simp
      have := ih (pre ++ [a])
      rw [List.append_assoc, List.singleton_append] at this
      have l : ((pre ++ [a]).length : Int) = (pre.length : Int) + 1 := by rw [List.length_append]; simp
      rw [l] at this
      show gI (pre ++ a :: as) pre.length :: (rngI (pre.length + 1) as.length).map _ = _
      rw [e, this]
  have := key as []
  simpa using this
theorem ix_tM {α : Type} (f : α → PV) {T : List α} {k : Int} (h0 : 0 ≤ k) (h1 : k < T.length) (d : α) (S : List PV) : fIx S (.tup (T.map f)) (.int k) = some (f (T.getD k.toNat d)) ∧ fIx S (.lst (T.map f)) (.int k) = some (f (T.getD k.toNat d)) := by
  obtain ⟨j, rfl⟩ := Int.eq_ofNat_of_zero_le h0
  have hj : j < T.length := by omega
  have := ix_at (S := S) (xs := T.map f) (k := j) (by rw [List.length_map]; exact hj)
  rw [List.getElem?_map, List.getElem?_eq_getElem hj] at this
  rw [Int.toNat_natCast, List.getD_eq_getElem?_getD, List.getElem?_eq_getElem hj]
  exact this
theorem ix_I {v : PV} {T : List Int} (hv : IsI v T) {k : Int} (h0 : 0 ≤ k) (h1 : k < T.length) (S : List PV) : fIx S v (.int k) = some (.int (gI T k)) := by
  have := ix_tM PV.int h0 h1 0 S
  rcases hv with rfl | rfl
  · exact this.1
  · exact this.2
theorem enu_map {α : Type} (f : α → PV) : ∀ (T : List α) (lo : Int), enuP lo (T.map f) = ((rngI lo T.length).zip T).map fun q => .tup [.int q.1, f q.2]
  | [], _ => rfl
  | a :: T, lo => by
    exact congrArg (List.cons _) (enu_map f T (lo + 1))
/-- the numbers of a tuple with their places -/
theorem enu_I (T : List Int) : enuP 0 (T.map .int) = (rngI 0 T.length).map fun i => .tup [.int i, .int (gI T i)] := by
  rw [enu_map]
  have key : ∀ (as pre : List Int), ((rngI pre.length as.length).zip as).map (fun q : Int × Int => PV.tup [.int q.1, .int q.2]) = (rngI pre.length as.length).map fun i => .tup [.int i, .int (gI (pre ++ as) i)] := fun as => by
    induction as with
    | nil => intro pre; rfl
    | cons a as ih =>
      intro pre
      have e : gI (pre ++ a :: as) pre.length = a := by
        unfold gI
        rw [Int.toNat_natCast]
        simp
      have := ih (pre ++ [a])
      rw [List.append_assoc, List.singleton_append] at this
      have l : ((pre ++ [a]).length : Int) = (pre.length : Int) + 1 := by rw [List.length_append]; simp
      rw [l] at this
      show PV.tup [.int pre.length, .int a] :: _ = PV.tup [.int pre.length, .int (gI (pre ++ a :: as) pre.length)] :: _
      rw [e]
      exact congrArg (List.cons _) this
  have := key T []
  simpa using this
theorem pl_tI (n : Nat) (T : List Int) : (tupI T).pl (n + 1) = true := (pl_ints n T).1
theorem nb_tI (T : List Int) : (tupI T).nb = true := (nb_ints T).1
theorem tI_inj {A B : List Int} (h : tupI A = tupI B) : A = B := map_int_inj (PV.tup.inj h)
theorem deepL_all {n : Nat} : ∀ {xs : List PV}, (∀ x ∈ xs, x.deep n = true) → deepL n xs = true
  | [], _ => by simp [deepL]
  | x :: xs, h => by rw [deepL, h x List.mem_cons_self, deepL_all fun y hy => h y (List.mem_cons_of_mem _ hy)]; rfl
theorem deep_tI (n : Nat) {T : List Int} (l : T.length ≤ 1000) : (tupI T).deep (n + 1) = true ∧ (lstI T).deep (n + 1) = true := by
  have h : deepL n (T.map PV.int) = true := deepL_all fun x hx => by obtain ⟨i, _, rfl⟩ := List.mem_map.mp hx; cases n <;> rfl
  constructor
  · show (decide ((T.map PV.int).length ≤ 1000) && deepL n (T.map PV.int)) = true
    rw [h, List.length_map, decide_eq_true l]
    rfl
  · show (decide ((T.map PV.int).length ≤ 1000) && deepL n (T.map PV.int)) = true
    rw [h, List.length_map, decide_eq_true l]
    rfl
theorem any_eqv {x : PV} {d : PyData} (nx : x.nb = true) (e : x.toD = some d) : ∀ (ys : List PV) (ds : List PyData), nbL ys = true → PV.toD.toDs ys = some ds → ((ds.any fun z => PyData.eqv z d) = true ↔ x ∈ ys)
  | [], ds, _, e' => by
    simp [PV.toD.toDs] at e'
    subst e'
    simp
  | y :: ys, ds, ny, e' => by
    rw [nbL, Bool.and_eq_true] at ny
    cases a : y.toD <;> cases b : PV.toD.toDs ys <;> simp [PV.toD.toDs, a, b] at e'
    rename_i dy dys
    subst e'
    have i1 := eqv_iff y x _ _ ny.1 nx a e
    have ih := any_eqv nx e ys dys ny.2 b
    rw [List.any_cons, Bool.or_eq_true, i1, ih, List.mem_cons]
    exact or_congr ⟨fun h => h.symm, fun h => h.symm⟩ Iff.rfl
/-- whether a tree is among others -/
theorem inD_ok {x : PV} {ys : List PV} (hx : x.pl 59 = true) (nx : x.nb = true) (hy : plL 59 ys = true) (ny : nbL ys = true) (neg : Bool) (S : List PV) : ∃ b, fInD neg S x (.lst ys) = some (.bl (if neg then !b else b)) ∧ (b = true ↔ x ∈ ys) := by
  obtain ⟨d, e, c, l⟩ := pl_toD 59 x hx
  obtain ⟨ds, e', c', l'⟩ := plL_toD 59 ys hy
  have s := pl_sh (by decide) c l
  have s' : SeqAt.shaped (.list ds) = true := by
    unfold SeqAt.shaped
    simp [PyData.canLay0, c', PyData.depth]
    omega
  refine ⟨ds.any fun z => PyData.eqv z d, ?_, any_eqv nx e ys ds ny e'⟩
  unfold fInD
  simp only [e, e', s, s', Bool.and_self, if_true]
end BL

set_option exponentiation.threshold 3000
namespace BL
open PySem PySem.Spec PyProof.Rows L2
/-! texts as lists of signs -/
abbrev mkS (l : List Nat) : Str := ⟨l.toArray⟩
theorem mk_ext {x : Str} {l : List Nat} (h : x.cps.toList = l) : x = mkS l := by
  obtain ⟨⟨a⟩⟩ := x
  change a = l at h
  rw [h]
theorem mk_inj {l r : List Nat} : (mkS l = mkS r) ↔ l = r := by
  constructor
  · intro h
    have := congrArg (fun s : Str => s.cps.toList) h
    simpa using this
  · intro h
    rw [h]
theorem mk_len (l : List Nat) : (mkS l).length = l.length := rfl
theorem mk_app (l r : List Nat) : mkS l ++ mkS r = mkS (l ++ r) := by
  refine Str.ext' ?_
  rw [Str.cps_append]
  simp
theorem starts_eq (l : List Nat) (y : Str) : Txt.startswith (mkS l) y = (decide (y.cps.toList.length ≤ l.length) && (l.take y.cps.toList.length == y.cps.toList)) := by
  unfold Txt.startswith
  rw [PySem.StrLaws.subAt_eq]
  show (decide (0 + y.cps.size ≤ l.toArray.size) && ((l.toArray.toList.drop 0).take y.cps.size == y.cps.toList)) = _
  simp
def hdB (c : Nat) : List Nat → Bool
  | [] => false
  | d :: _ => decide (d = c)
theorem starts1 (c : Nat) (l : List Nat) : Txt.startswith (mkS l) (mkS [c]) = hdB c l := by
  rw [starts_eq]
  cases l with
  | nil => rfl
  | cons d r => simp [hdB]; by_cases h : d = c <;> simp [h]
theorem cutS_drop (l : List Nat) (k : Nat) (h : k ≤ l.length) : cutS (mkS l) (some (k : Int)) none = mkS (l.drop k) := by
  unfold cutS
  have h1 : HT.sIx (mkS l).length 0 (some (k : Int)) = k := by
    rw [HT.sIx_nat, mk_len]
    omega
  have h2 : HT.sIx (mkS l).length (mkS l).length none = l.length := rfl
  rw [h1, h2]
  show (⟨((l.drop k).take (l.length - k)).toArray⟩ : Str) = _
  rw [List.take_of_length_le (by rw [List.length_drop]; omega)]
/-! numbers -/
def isDig (c : Nat) : Bool := decide (48 ≤ c ∧ c ≤ 57)
def digV (l : List Nat) : Option Nat := if l.all isDig = true ∧ l ≠ [] ∧ (l = [48] ∨ l.head? ≠ some 48) then some (NumText.digitsVal l) else none
def numV (l : List Nat) : Option Int := match l with
  | 45 :: r => (match digV r with
    | some n => if n = 0 then none else some (-(n : Int))
    | none => none)
  | l => (digV l).map fun n => (n : Int)
theorem dig_mem (c : Nat) : decide (c ∈ ("0123456789" : Str).cps.toList) = isDig c := by
  have e : ("0123456789" : Str).cps.toList = [48, 49, 50, 51, 52, 53, 54, 55, 56, 57] := by decide +kernel
  rw [e]
  unfold isDig
  rw [decide_eq_decide]
  simp only [List.mem_cons, List.not_mem_nil, or_false]
  omega
theorem allDig {l : List Nat} (h : l.all isDig = true) : NumText.AllDigits l := fun c hc => of_decide_eq_true (List.all_eq_true.mp h c hc)
theorem numL_all (n : Nat) : (TL.numL n).all isDig = true := List.all_eq_true.mpr fun c hc => decide_eq_true (TL.numL_digits n c hc)
theorem numL_head {n : Nat} (h : n ≠ 0) : (TL.numL n).head? ≠ some 48 := by
  induction n using Nat.strongRecOn with
  | _ n ih =>
    by_cases c : n < 10
    · rw [TL.numL_lt c]
      simp
      omega
    · rw [TL.numL_step (by omega)]
      have := ih (n / 10) (by omega) (by omega)
      cases e : TL.numL (n / 10) with
      | nil => exact absurd e (TL.numL_ne _)
      | cons d r => rw [e] at this; exact this
theorem digV_num (n : Nat) : digV (TL.numL n) = some n := by
  unfold digV
  rw [if_pos, TL.numL_val]
  refine ⟨numL_all n, TL.numL_ne n, ?_⟩
  by_cases h : n = 0
  · subst h; exact .inl (TL.numL_lt (by decide))
  · exact .inr (numL_head h)
/-- the signs of a number -/
def il (i : Int) : List Nat := (if i < 0 then [45] else []) ++ TL.numL i.natAbs
theorem itxt_il (i : Int) : itxt i = mkS (il i) := rfl
theorem numV_nn {l : List Nat} (h : l.head? ≠ some 45) : numV l = (digV l).map fun n => (n : Int) := by
  unfold numV
  split
  · exact absurd rfl h
  · rfl
theorem numV_il (i : Int) : numV (il i) = some i := by
  unfold il
  by_cases h : i < 0
  · rw [if_pos h]
    show (match digV (TL.numL i.natAbs) with | some n => if n = 0 then none else some (-(n : Int)) | none => none) = _
    rw [digV_num]
    show (if i.natAbs = 0 then none else some (-(i.natAbs : Int))) = _
    rw [if_neg (by omega)]
    congr 1
    omega
  · rw [if_neg h, List.nil_append, numV_nn, digV_num]
    · show some ((i.natAbs : Nat) : Int) = _
      congr 1
      omega
    · intro e
      cases hn : TL.numL i.natAbs with
      | nil => exact TL.numL_ne _ hn
      | cons c r =>
        rw [hn] at e
        cases e
        have := TL.numL_digits i.natAbs 45 (by rw [hn]; exact List.mem_cons_self)
        omega
theorem il_len {i : Int} (h : i.natAbs ≤ 100000000000000000000000000000000) : (il i).length ≤ 41 := tl_i h
theorem il_signs (i : Int) : ∀ c ∈ il i, c = 45 ∨ (48 ≤ c ∧ c ≤ 57) := by
  intro c hc
  unfold il at hc
  rcases List.mem_append.mp hc with hc | hc
  · split at hc
    · exact .inl (by simpa using hc)
    · cases hc
  · exact .inr (TL.numL_digits _ c hc)
theorem int_dig {l : List Nat} (h : l.all isDig = true) (h1 : l ≠ []) (h2 : l.length ≤ 640) : PySem.intText? (mkS l) = some ((NumText.digitsVal l : Nat) : Int) := PySem.intText_digits (x := mkS l) (allDig h) h1 (by rw [mk_len]; omega)
end BL

namespace BL
open PySem PySem.Spec PyProof.Rows L2
theorem law_readA {K : PySem.W.Frag} {C : Addr} {hand : List PV → List PV → Option (PV × List PV)} {rest : MS} (hh : hand [] [] = some (.bl true, [])) (hr : ∀ cs : List Int, cs.length ≤ 3 → ∃ S, rest [.un, .val (.lst (cs.map .int)), .un] [] = some (.rt (.bl true) S)) {a : Addr} {ns : List Int} {H : Hp} {Q : VK} (hS : SqL K H a (ns.map V.int)) (hl : ns.length ≤ 63) (q : ∀ H', Q (.bl true) H') :
    (tSeq (tIfS (tNot (tB (tCall (spM K C hand) [] C8.E0 tNil))) (tRet (tC (.bl false))) tNext) (tSeq (tAsg (tCall (spCells K) [] C8.E0 (tCons (tVar 0) (tCons (tC (.int 3)) tNil))) (gName 1)) (tMS K C rest))) { nx := fun _ H' => Q .non H', rt := Q } [some (.ref a), none, none] H := by
  refine ⟨⟨fun _ => none, H, []⟩, [], [], .bl true, [], rfl, ⟨(fun _ _ h => by cases h), rfl, List.nodup_nil, fun n a x h => absurd (show ([] : List Addr)[n]? = some a from h) (by simp)⟩, .nil, hh, fun v W' g i r => ?_⟩
  cases r
  have s1 : Same H W'.H := fun p o e => g.h p o e (by simp)
  refine ⟨true, rfl, iteF ?_⟩
  refine ⟨_, rfl, a, ns, rfl, s1.seq hS, hl, fun p cs H2 s2 np ep lp => ?_⟩
  obtain ⟨S, eS⟩ := hr cs lp
  have hm : ∀ (cs : List Int) (F : Hp), RepAll K C F [] (cs.map V.int) (cs.map PV.int) := fun cs F => by
    induction cs with
    | nil => exact .nil
    | cons c cs ih => exact .cons (.int c) ih
  refine ⟨⟨fun b => if b = p then some (.lst (cs.map V.int)) else none, H2, []⟩, ⟨fun b => if b = p then some (.lst (cs.map V.int)) else none, H2, []⟩, _, [], _, rfl, ⟨Gro.refl _, ⟨fun b o e => ?_, rfl, List.nodup_nil, fun n a x h => absurd (show ([] : List Addr)[n]? = some a from h) (by simp)⟩, rfl, fun j sl hj => ?_, fun j k x y b h1 _ _ _ => ?_⟩, eS, fun v W2 g2 i2 r2 => by cases r2; exact q _⟩
  · change (if b = p then some (HO.lst (cs.map V.int)) else none) = some o at e
    split at e
    · rename_i hb
      rw [hb, ← e]
      exact ep
    · cases e
  · rcases j with _ | _ | _ | j <;> simp at hj
    · subst hj; trivial
    · subst hj
      exact ⟨_, rfl, .lst (by show (if p = p then _ else _) = _; rw [if_pos rfl]) (hm cs _)⟩
    · subst hj; trivial
  · rcases j with _ | _ | _ | j <;> simp at h1
end BL

namespace BL
open PySem PySem.Spec PyProof.Rows L2
/-! a part by hand that leaves changing things behind -/
theorem all_okT {cc : Int} {right : List PV → List PV → Option (PV × List PV)} (hr : ∀ (S : List PV) (n : Nat), BoxAt S n 0 → ∃ S', right [.mref n] S = some (.bl true, S')) (cs : List Int) (h3 : cs.length ≤ 3) (S0 : List PV) :
    ∃ S, lawAll cc right [.un, .val (.lst (cs.map .int)), .un] S0 = some (.rt (.bl true) S) := by
  have turn : ∀ x ∈ rngP 0 cs.length, ∀ (j : Nat) (T : List PV), j < 0 + (rngP 0 cs.length).length → True → ∃ ρ1 y S2, (Tg.nm 2).put x [.un, .val (.lst (cs.map .int)), .un] = some ρ1 ∧ mYes ρ1 T = some (true, T) ∧ mCall right (mCons (mCall (m_law_boxC cc) (mCons (mVar 1) (mCons (mVar 2) mNil))) mNil) ρ1 T = some (y, S2) ∧ y = .bl true ∧ True := fun x hx j T hj hp => by
    obtain ⟨i, rfl, i0, i1⟩ := rngP_mem hx
    obtain ⟨k, rfl⟩ := Int.eq_ofNat_of_zero_le i0
    obtain ⟨x, y, eb⟩ := box_ok (cc := cc) (k := k) (by omega) h3 T
    obtain ⟨S', er⟩ := hr (T ++ [.lst [.int x, .int y, .int 0]]) T.length ⟨x, y, 0, by simp, by omega, by omega⟩
    exact ⟨[.un, .val (.lst (cs.map .int)), .val (.int k)], .bl true, S', by simp, rfl, by simp [eb, er], rfl, trivial⟩
  obtain ⟨ys, S', e, hl, hq, _⟩ := lcL_inv (fun _ _ => True) (fun y => y = .bl true) (k := 0) (S := S0) turn trivial
  rw [rngP_len] at hl
  have hr1 := rng1_ok (ma := mFn fLen (mCons (mVar 1) mNil)) (ρ := [.un, .val (.lst (cs.map .int)), .un]) (S := S0) (S1 := S0) (j := cs.length) (by simp) ⟨by omega, by omega⟩
  rw [Int.toNat_natCast] at hr1
  exact ⟨S', ret_all (lc_at hr1 e (by omega)) hq⟩
theorem ifall_okT {cc : Int} {hand right : List PV → List PV → Option (PV × List PV)} (hh : ∃ T, hand [] [] = some (.bl true, T)) (hr : ∀ (S : List PV) (n : Nat), BoxAt S n 0 → ∃ S', right [.mref n] S = some (.bl true, S')) (cs : List Int) (h3 : cs.length ≤ 3) :
    ∃ S, mSeq (lawIf hand) (lawAll cc right) [.un, .val (.lst (cs.map .int)), .un] [] = some (.rt (.bl true) S) := by
  obtain ⟨T, hh⟩ := hh
  obtain ⟨S, e⟩ := all_okT (cc := cc) hr cs h3 T
  have e1 : lawIf hand [.un, .val (.lst (cs.map .int)), .un] [] = some (.nx [.un, .val (.lst (cs.map .int)), .un] T) := by
    unfold lawIf
    simp only [e_if, e_notT, e_tru, e_call, e_nil, hh, e_skip]
    rfl
  exact ⟨S, (seq_nx e1).trans e⟩
theorem law_readAT {K : PySem.W.Frag} {C : Addr} {hand : List PV → List PV → Option (PV × List PV)} {rest : MS} (hh : ∃ T, hand [] [] = some (.bl true, T)) (hr : ∀ cs : List Int, cs.length ≤ 3 → ∃ S, rest [.un, .val (.lst (cs.map .int)), .un] [] = some (.rt (.bl true) S)) {a : Addr} {ns : List Int} {H : Hp} {Q : VK} (hS : SqL K H a (ns.map V.int)) (hl : ns.length ≤ 63) (q : ∀ H', Q (.bl true) H') :
    (tSeq (tIfS (tNot (tB (tCall (spM K C hand) [] C8.E0 tNil))) (tRet (tC (.bl false))) tNext) (tSeq (tAsg (tCall (spCells K) [] C8.E0 (tCons (tVar 0) (tCons (tC (.int 3)) tNil))) (gName 1)) (tMS K C rest))) { nx := fun _ H' => Q .non H', rt := Q } [some (.ref a), none, none] H := by
  obtain ⟨T, hh⟩ := hh
  refine ⟨⟨fun _ => none, H, []⟩, [], [], .bl true, T, rfl, ⟨(fun _ _ h => by cases h), rfl, List.nodup_nil, fun n a x h => absurd (show ([] : List Addr)[n]? = some a from h) (by simp)⟩, .nil, hh, fun v W' g i r => ?_⟩
  cases r
  have s1 : Same H W'.H := fun p o e => g.h p o e (by simp)
  refine ⟨true, rfl, iteF ?_⟩
  refine ⟨_, rfl, a, ns, rfl, s1.seq hS, hl, fun p cs H2 s2 np ep lp => ?_⟩
  obtain ⟨S, eS⟩ := hr cs lp
  have hm : ∀ (cs : List Int) (F : Hp), RepAll K C F [] (cs.map V.int) (cs.map PV.int) := fun cs F => by
    induction cs with
    | nil => exact .nil
    | cons c cs ih => exact .cons (.int c) ih
  refine ⟨⟨fun b => if b = p then some (.lst (cs.map V.int)) else none, H2, []⟩, ⟨fun b => if b = p then some (.lst (cs.map V.int)) else none, H2, []⟩, _, [], _, rfl, ⟨Gro.refl _, ⟨fun b o e => ?_, rfl, List.nodup_nil, fun n a x h => absurd (show ([] : List Addr)[n]? = some a from h) (by simp)⟩, rfl, fun j sl hj => ?_, fun j k x y b h1 _ _ _ => ?_⟩, eS, fun v W2 g2 i2 r2 => by cases r2; exact q _⟩
  · change (if b = p then some (HO.lst (cs.map V.int)) else none) = some o at e
    split at e
    · rename_i hb
      rw [hb, ← e]
      exact ep
    · cases e
  · rcases j with _ | _ | _ | j <;> simp at hj
    · subst hj; trivial
    · subst hj
      exact ⟨_, rfl, .lst (by show (if p = p then _ else _) = _; rw [if_pos rfl]) (hm cs _)⟩
    · subst hj; trivial
  · rcases j with _ | _ | _ | j <;> simp at h1
def isTrT (o : Option (PV × List PV)) : Bool := match o with
  | some (.bl true, _) => true
  | _ => false
theorem isTrT_ok {o : Option (PV × List PV)} (h : isTrT o = true) : ∃ T, o = some (.bl true, T) := by
  unfold isTrT at h
  split at h
  · exact ⟨_, rfl⟩
  · cases h
end BL

namespace BL
open PySem PySem.Spec PyProof.Rows L2
/-! an except suite that says something of an error without fields -/
/-- what such a try wishes of the error in its body: it is one of the class named; the suite ts runs with it in slot i; behind it stands kept, and the slot is empty -/
def wKeepS (K : PySem.W.Frag) (Ce : Addr) (c : Value) (i : Nat) (ts : Addr → TS) (D : Ends) : WX := fun cls d τ G => cls = .ref Ce ∧ d = none ∧ PySem.W.exmOne K cls c = some true ∧ ∀ a, G a = none →
  ts a { nx := fun τ' G' => G' a = none → D.nx (τ'.set i none) (upd G' a (ExN Ce a)), rt := fun _ _ => False, bk := fun _ _ => False, ct := fun _ _ => False } (τ.set i (some (.ref a))) G
section
variable {X : Cx} {x n : Str} {c : Value} {i : Nat} {bd su : List Stmt} {b1 : Stmt} {q1 q2 pos : Pos} {tb : WX → TS} {ts : Addr → TS} {Ce : Addr}
theorem ps_try_keepS (st : X.stack = X.env :: X.outer) (fr : X.env.frame = some X.env.locals) (nd : X.N.Nodup) (at_ : X.N[i]? = some n) (lo : X.env.kindOf n = some .local) (nm : Names X x c)
    (body : ∀ (W : WX) (pn : List (Addr × Obj)) (E' : Value → Shared → Prop), Takes (X.tr pn E') W → PassesOwn (model X.prog X.w) X.A X.env E' → PSs (X.tr pn E') bd (tb W))
    (suite : ∀ (a : Addr) (ob : Obj) (pn : List (Addr × Obj)), Zc (.ref Ce) none ob → (∃ fl, ob.data = .fields fl) → PSs (X.suite a ((a, ob) :: pn)) (b1 :: su) (ts a)) :
    PS X (.Try bd [.ExceptHandler (some (.Name x q1)) (some n) (b1 :: su) q2] [] [] pos) (fun D τ G => tb (wKeepS X.K Ce c i ts D) D τ G) := by
  constructor
  intro pins s τ G D I wish
  have ok := I.ok
  have frames : X.A.frames = some (X.env :: X.outer) := by
    rw [ok.frames, st]
  apply wpAny_Try_except
  have run := (body (wKeepS X.K Ce c i ts D) (X.pn ++ pins) (fun e s₁ => wpAny (model X.prog X.w) X.A (noteFrame e X.env) (fun _ s₂ => wpAny (model X.prog X.w) X.A (setFlight e none)
    (fun _ s₃ => wpAny (model X.prog X.w) X.A (handleBy e X.env [.ExceptHandler (some (.Name x q1)) (some n) (b1 :: su) q2]) (SP X pins D) X.xe s₃) X.xe s₂) X.xe s₁) ?tk PassesOwn.looking).run [] s τ G D (I.toTry _) wish
  case tk =>
    rintro u s' ⟨a, B, sI, pins', τ', G', cls, d, rfl, J', nb, up, sky, na, os, ag, rfl, rfl, yes, go⟩
    have J : Inv X pins τ' G' sI := J'.ofTry ok
    have sky2 : L2.Sky B (X.env :: X.outer) a (Zc (.ref Ce) none) X.env.locals s'.heap := st ▸ sky
    have bn := Sky_none sky2
    show wpAny _ X.A (noteFrame (.ref a) X.env) _ _ _
    refine L2.Sky.land Zc.steady frames fr sky2 fun g3 f3 u3 => ?_
    obtain ⟨o3, v3, e3, z3, d3⟩ := f3.there
    have off : ∀ {g : Heap} {o : Obj} {vs : Array Value}, g.FunFrames B (X.env :: X.outer) → g.get? a = some o → o.data = .fields vs → a ∉ frs (X.env :: X.outer) := by
      intro g o vs ff e dt m
      obtain ⟨_, o', e', no⟩ := ff.mem m
      rw [e] at e'
      cases e'
      exact no _ dt
    have out := off f3.2.2.1 e3 d3
    have notL : a ≠ X.env.locals := by
      intro z
      refine out (List.mem_filterMap.mpr ⟨X.env, List.mem_cons_self .., ?_⟩)
      rw [fr, z]
    have notF : a ∉ X.fs := by
      intro m
      obtain ⟨e, me, q⟩ := List.mem_filterMap.mp m
      exact out (List.mem_filterMap.mpr ⟨e, List.mem_cons_of_mem _ me, q⟩)
    -- the exception is new: it was not there when it was made
    have young : sI.heap.get? a = none := by
      cases e : sI.heap.get? a with
      | none => rfl
      | some o =>
        have := nb a o e (by rw [st]; exact out)
        rw [bn] at this
        cases this
    have new : a ∉ X.ex → X.s_0.heap.get? a = none := by
      intro nx
      cases e : X.s_0.heap.get? a with
      | none => rfl
      | some o =>
        obtain ⟨o', e'⟩ := J.base.there a o e nx
        rw [young] at e'
        cases e'
    have apart : ∀ p ∈ X.pn ++ pins, p.1 ≠ a := by
      intro p hp z
      have := (J.pin p hp).1
      rw [z, young] at this
      cases this
    have J3 : Inv X pins τ' G' { s' with heap := g3 } := J.landed nb f3.1 (up.trans u3) os ag
    have S3 := J3.suite e3 d3 na notL notF
    refine wpAny_handleBy_cons (codeAny_handlers_test ?_) (fun q => by cases q)
    have ty : PySem.W.Looks (model X.prog X.w) g3 (typeOf (.ref a)) (.ref Ce) := fun A Q E s k q => wpAny_typeOf_ref (k _ _ e3) (by
      rw [z3.1]
      exact q)
    have mt := PySem.W.exm_one (M := model X.prog X.w) J3.kIn ty yes
    have load : ∀ {Q : Value → Shared → Prop} {E : Value → Shared → Prop}, Q c { s' with heap := g3 } → wpAny (model X.prog X.w) (X.A.mark (some (.ref a))) (eval (.Name x q1) X.env) Q E { s' with heap := g3 } := by
      intro Q E q
      obtain ⟨gl, dbg, m | ⟨m, v, nn⟩⟩ := nm
      · exact ld_glob (X := X.suite a ((a, o3) :: (X.pn ++ pins))) S3 gl m q dbg
      · exact ld_blt (X := X.suite a ((a, o3) :: (X.pn ++ pins))) S3 gl m v q nn dbg
    refine load (mt.here (codeAny_handlers_suite_as ?_))
    refine HandSPX.lands_againZ f3 fun g4 f4 u4 => ?_
    obtain ⟨o4, v4, e4, z4, d4⟩ := f4.there
    have J4 : Inv X pins τ' G' { s' with heap := g4 } := J.landed nb f4.1 ((up.trans u3).trans u4) os ag
    have S4 := J4.suite e4 d4 na notL notF
    refine store_ok (X := X.suite a ((a, o4) :: (X.pn ++ pins))) (v := .ref a) S4 nd at_ (.inl lo) rfl (fun s5 S5 => ?_) (.inr lo)
    refine wpAny_mono ((suite a o4 (X.pn ++ pins) z4 ⟨_, d4⟩).run [] s5 _ G' _ S5 (go a na)) (fun f s6 sp => ?_) (fun _ _ z => z.elim)
    cases f with
    | next =>
      obtain ⟨τ6, G6, S6, q6⟩ := sp
      refine gone_ok (outOf S6 ok) nd at_ lo fun s7 J7 => ?_
      exact ⟨_, _, adoptN J7 z4 d4 new apart, q6 (S6.pin (a, o4) (by show _ ∈ ((a, o4) :: (X.pn ++ pins)) ++ []; simp)).2.1⟩
    | brk =>
      obtain ⟨_, _, _, z⟩ := sp
      exact z.elim
    | cont =>
      obtain ⟨_, _, _, z⟩ := sp
      exact z.elim
    | ret u =>
      obtain ⟨_, _, _, _, _, z⟩ := sp
      exact z.elim
  refine wpAny_mono run (fun f s1 sp => ?_) (fun _ _ z => z)
  cases f with
  | next =>
    obtain ⟨τ', G', J', q⟩ := sp
    exact wpAny_execs_nil ⟨τ', G', J'.ofTry ok, q⟩
  | brk =>
    obtain ⟨τ', G', J', q⟩ := sp
    exact ⟨τ', G', J'.ofTry ok, q⟩
  | cont =>
    obtain ⟨τ', G', J', q⟩ := sp
    exact ⟨τ', G', J'.ofTry ok, q⟩
  | ret u =>
    obtain ⟨v, τ', G', J', r, q⟩ := sp
    exact ⟨v, τ', G', J'.ofTry ok, r, q⟩
end

section
variable {X : Cx} {C Ce : Addr} {m : MR} {ms : MS}
/-- isinstance(e, D), e the error that is being handled -/
def rIsP (K : PySem.W.Frag) (a Ce : Addr) : List V → Hp → VK → Prop := fun xs H Q => ∃ (D : V) (u : Value) (b : Bool), xs = [.ref a, D] ∧ ClsV D u ∧ XiC K Ce ∧ PySem.W.kitOne K (.ref Ce) u = some b ∧ Q (.bl b) H
theorem call_isP {a : Addr} {ob : Obj} {pn : List (Addr × Obj)} (z : Zc (.ref Ce) none ob) (dt : ∃ fl, ob.data = .fields fl) : CallR (X.suite a ((a, ob) :: pn)) (.builtin "isinstance") (rIsP X.K a Ce) := by
  intro pins s σ H xs us Q I r h
  obtain ⟨D, w, b, rfl, k, T, yes, q⟩ := h
  obtain ⟨u1, u2, rfl, r1, r2⟩ := vals2 r
  obtain rfl : u1 = Value.ref a := r1
  obtain rfl := k.eq r2
  obtain ⟨fl, dt⟩ := dt
  have ha := (I.pin (a, ob) (by show _ ∈ ((a, ob) :: pn) ++ pins; simp)).1
  have J : PySem.W.InstAt s.heap a ob Ce none := ⟨ha, z.1, by unfold PySem.W.notCls; rw [dt] <;> rfl, by rw [z.2]; trivial⟩
  exact PySem.W.kia_one (PySem.W.kitx_exc T.cl T.ga T.gg T.ex T.ca T.sp T.tk T.ob) I.kIn J yes (fun z => by cases z) fun tk => ⟨.bl b, H, I.tok tk, rfl, q⟩
/-- try: a block that raises or not; except x as n: y = what is said of n -/
def mTryS (i j : Nat) (v : PV) (m : MR) (ms : MS) : MS := fun ρ S => match m ρ S with
  | some (_, S1) => if i < ρ.length ∧ j < ρ.length then some (.nx ((ρ.set j (.val v)).set i .un) S1) else none
  | none => ms ρ S
theorem xtryS {x n : Str} {i j : Nat} {bd su : List Stmt} {b1 : Stmt} {v : V} {pv : PV} {q1 q2 pos : Pos} (T : Err0 X.K X.mg x Ce) (ij : i ≠ j) (pvr : ∀ W : Wd, RepW X.K C W v pv)
    (st : X.stack = X.env :: X.outer) (fr : X.env.frame = some X.env.locals) (nd : X.N.Nodup) (at_ : X.N[i]? = some n) (lo : X.env.kindOf n = some .local) (gl : Gl X x) (dbg : (x == ("__debug__" : Str)) = false)
    (body : ∀ (W : WX) (pn : List (Addr × Obj)) (E' : Value → Shared → Prop), Takes (X.tr pn E') W → PassesOwn (model X.prog X.w) X.A X.env E' → PSs (X.tr pn E') bd (tM0 X.K C Ce m W))
    (bodyN : ∀ (pn : List (Addr × Obj)) (E' : Value → Shared → Prop), PassesOwn (model X.prog X.w) X.A X.env E' → PSs (X.tr pn E') bd (tMS X.K C ms))
    (said : ∀ (a : Addr) (ob : Obj) (pn : List (Addr × Obj)), Zc (.ref Ce) none ob → (∃ fl, ob.data = .fields fl) → PSs (X.suite a ((a, ob) :: pn)) (b1 :: su) (tAsg (fun σ H Q => σ[i]? = some (some (.ref a)) ∧ Q v H) (gName j))) :
    PS X (.Try bd [.ExceptHandler (some (.Name x q1)) (some n) (b1 :: su) q2] [] [] pos) (tMS X.K C (mTryS i j pv m ms)) :=
  PS.weak (ps_try_keepS (Ce := Ce) (c := .ref Ce) (tb := fun W D σ H => tM0 X.K C Ce m W D σ H ∨ tMS X.K C ms D σ H) (ts := fun a => tAsg (fun σ H Q => σ[i]? = some (some (.ref a)) ∧ Q v H) (gName j)) st fr nd at_ lo ⟨gl, dbg, .inl T.gC⟩
    (fun W pn E' tk po => pss_or (body W pn E' tk po) (bodyN pn E' po)) (fun a ob pn z d => said a ob pn z d)) fun D σ H ⟨W0, W, ρ, S, out, eH, R, em, q⟩ => by
  subst eH
  unfold mTryS at em
  split at em
  · rename_i ys S1 e1
    split at em
    · rename_i hl
      cases em
      refine .inl ⟨W0, W, ρ, S, ys, S1, rfl, R, e1, fun W1 g1 R1 => ⟨rfl, rfl, T.te, fun a na => ?_⟩⟩
      have l1 : i < σ.length := by rw [R.l]; exact hl.1
      refine ⟨by rw [List.getElem?_set_self l1], ?_⟩
      show W1.H a = none → D.nx _ _
      intro na
      obtain ⟨g2, i2⟩ := laidH (ExN Ce a) R1.i na
      have R2 := (R1.ext g2 i2).setu i (some (.ref a))
      have R3 := R2.setv (x := pv) (v := v) j (pvr _) (by rw [List.length_set]; exact hl.2)
      have R4 := R3.setu i none
      have e : ((ρ.set i .un).set j (.val pv)).set i SlV.un = (ρ.set j (.val pv)).set i .un := by
        apply List.ext_getElem?
        intro k
        simp only [List.getElem?_set, List.length_set]
        by_cases c1 : i = k <;> by_cases c2 : j = k <;> simp [c1, c2]
      rw [e] at R4
      exact q _ _ (g1.trans g2).groF R4
    · cases em
  · exact .inr ⟨W0, W, ρ, S, out, rfl, R, em, q⟩
end
end BL

namespace BL
open PySem PySem.Spec PyProof.Rows L2
/-! a try with several handlers, each of which gives the error the same name; the error, with its dict or without one, is kept -/
/-- at a: an error of the class at C, its dict (if it has one) at d -/
def ExD (C : Addr) (d : Option Addr) (a : Addr) : HO := .ext fun g => ∃ ob fl, g.get? a = some ob ∧ Zc (.ref C) d ob ∧ ob.data = .fields fl
theorem exd_ok {P : Program} {w : World} {H : Hp} {g : Heap} {a C : Addr} {d : Option Addr} {ob : Obj} {fl : Array Value} (e : g.get? a = some ob) (z : Zc (.ref C) d ob) (q : ob.data = .fields fl) : ObjOk P w H g a (ExD C d a) :=
  ⟨⟨ob, fl, e, z, q⟩, ⟨ob, e⟩, fun _ _ ⟨o, f, x, y⟩ k => ⟨o, f, k o x, y⟩⟩
section
variable {X : Cx} {pins : List (Addr × Obj)} {σ : L2.St} {H : Hp} {s : Shared}
theorem adoptD {a C : Addr} {d : Option Addr} {ob : Obj} {fl : Array Value} (I : Inv X ((a, ob) :: pins) σ H s) (z : Zc (.ref C) d ob) (q : ob.data = .fields fl) (new : a ∉ X.ex → X.s_0.heap.get? a = none) (ne : ∀ p ∈ X.pn ++ pins, p.1 ≠ a) :
    Inv X pins σ (upd H a (ExD C d a)) s := by
  obtain ⟨ea, na, nl, nf, nc⟩ := I.pin (a, ob) (List.mem_append_right _ (List.mem_cons_self ..))
  have up : ∀ {b : Addr}, b ≠ a → upd H a (ExD C d a) b = H b := fun n => upd_ne n
  have st : ∀ {b : Addr} {o : HO}, H b = some o → upd H a (ExD C d a) b = some o := fun {b o} e => by
    rw [up (ne_of_none e na)]
    exact e
  have ok : HOk X.prog X.w (upd H a (ExD C d a)) s.heap := fun b o e => by
    by_cases c : b = a
    · subst c
      rw [upd_same] at e
      cases e
      exact exd_ok ea z q
    · rw [up c] at e
      exact (I.hok b o e).stay (fun _ _ _ x => x) (fun _ x => st x) (fun _ _ x => st x)
  refine ⟨I.ok, I.os, I.bare, ⟨I.base.keep, I.base.slot, fun b o e n x => ?_, I.base.there, fun b xs e => st (I.base.tups b xs e), fun b o u e => st (I.base.frzs b o u e), fun b ps e => ?_⟩, I.loc, I.cell, ?_, fun x c e => ?_, fun p hp => ?_, ok, I.len⟩
  · rw [up fun c => by rw [c, new (c ▸ x)] at e; cases e]
    exact I.base.free b o e n x
  · obtain ⟨m, e'⟩ := I.base.tbls b ps e
    exact ⟨m, st e'⟩
  · rw [up (Ne.symm nl)]
    exact I.free
  · rw [up fun y => ?_]
    · exact I.freeC x c e
    · obtain ⟨v, cv⟩ := I.cell x c e
      obtain ⟨o', e1, e2⟩ := cv
      rw [y, ea] at e1
      cases e1
      exact nc _ e2
  · obtain ⟨p1, p2, p3⟩ := I.pin p (by
      rcases List.mem_append.mp hp with h | h
      · exact List.mem_append_left _ h
      · exact List.mem_append_right _ (List.mem_cons_of_mem _ h))
    exact ⟨p1, by rw [up (ne p hp)]; exact p2, p3⟩

end
/-- what such a try wishes of the error in its body: the first handler whose class it is of runs its suite with the error in slot i; behind it the error stands kept, and the slot is empty -/
def wMK (K : PySem.W.Frag) (i : Nat) (D : Ends) : List (Value × (Addr → Value → Option Addr → TS)) → WX
  | [] => fun _ _ _ _ => False
  | (c, ts) :: r => fun cls d τ G => ∃ (C : Addr) (b : Bool), cls = .ref C ∧ PySem.W.exmOne K cls c = some b ∧ (b = true → ∀ a, G a = none →
      ts a cls d { nx := fun τ' G' => G' a = none → D.nx (τ'.set i none) (upd G' a (ExD C d a)), rt := fun _ _ => False, bk := fun _ _ => False, ct := fun _ _ => False } (τ.set i (some (.ref a))) G) ∧ (b = false → wMK K i D r cls d τ G)
inductive HdsK (X : Cx) (n : Str) : List ExceptHandler → List (Value × (Addr → Value → Option Addr → TS)) → Prop
  | nil : HdsK X n [] []
  | cons {x : Str} {c : Value} {ts : Addr → Value → Option Addr → TS} {b1 : Stmt} {su : List Stmt} {q1 q2 : Pos} {hds : List ExceptHandler} {l : List (Value × (Addr → Value → Option Addr → TS))} (nm : Names X x c)
      (suite : ∀ (a : Addr) (ob : Obj) (cls : Value) (d : Option Addr) (pn : List (Addr × Obj)), Zc cls d ob → (∃ fl, ob.data = .fields fl) → PSs (X.suite a ((a, ob) :: pn)) (b1 :: su) (ts a cls d)) (r : HdsK X n hds l) :
      HdsK X n (.ExceptHandler (some (.Name x q1)) (some n) (b1 :: su) q2 :: hds) ((c, ts) :: l)
section
variable {X : Cx} {n : Str} {i : Nat} {bd : List Stmt} {pos : Pos} {tb : WX → TS} {h0 : ExceptHandler} {hds : List ExceptHandler} {l : List (Value × (Addr → Value → Option Addr → TS))}
theorem ps_try_keepM (st : X.stack = X.env :: X.outer) (fr : X.env.frame = some X.env.locals) (nd : X.N.Nodup) (at_ : X.N[i]? = some n) (lo : X.env.kindOf n = some .local)
    (body : ∀ (W : WX) (pn : List (Addr × Obj)) (E' : Value → Shared → Prop), Takes (X.tr pn E') W → PassesOwn (model X.prog X.w) X.A X.env E' → PSs (X.tr pn E') bd (tb W))
    (hh : HdsK X n (h0 :: hds) l) :
    PS X (.Try bd (h0 :: hds) [] [] pos) (fun D τ G => tb (wMK X.K i D l) D τ G) := by
  constructor
  intro pins s τ G D I wish
  have ok := I.ok
  have frames : X.A.frames = some (X.env :: X.outer) := by
    rw [ok.frames, st]
  apply wpAny_Try_except
  have run := (body (wMK X.K i D l) (X.pn ++ pins) (fun e s₁ => wpAny (model X.prog X.w) X.A (noteFrame e X.env) (fun _ s₂ => wpAny (model X.prog X.w) X.A (setFlight e none)
    (fun _ s₃ => wpAny (model X.prog X.w) X.A (handleBy e X.env (h0 :: hds)) (SP X pins D) X.xe s₃) X.xe s₂) X.xe s₁) ?tk PassesOwn.looking).run [] s τ G D (I.toTry _) wish
  case tk =>
    rintro u s' ⟨a, B, sI, pins', τ', G', cls, d, rfl, J', nb, up, sky, na, os, ag, go⟩
    have J : Inv X pins τ' G' sI := J'.ofTry ok
    have sky2 : L2.Sky B (X.env :: X.outer) a (Zc cls d) X.env.locals s'.heap := st ▸ sky
    have bn := Sky_none sky2
    show wpAny _ X.A (noteFrame (.ref a) X.env) _ _ _
    refine L2.Sky.land Zc.steady frames fr sky2 fun g3 f3 u3 => ?_
    obtain ⟨o3, v3, e3, z3, d3⟩ := f3.there
    have off : ∀ {g : Heap} {o : Obj} {vs : Array Value}, g.FunFrames B (X.env :: X.outer) → g.get? a = some o → o.data = .fields vs → a ∉ frs (X.env :: X.outer) := by
      intro g o vs ff e dt m
      obtain ⟨_, o', e', no⟩ := ff.mem m
      rw [e] at e'
      cases e'
      exact no _ dt
    have out := off f3.2.2.1 e3 d3
    have notL : a ≠ X.env.locals := by
      intro z
      refine out (List.mem_filterMap.mpr ⟨X.env, List.mem_cons_self .., ?_⟩)
      rw [fr, z]
    have notF : a ∉ X.fs := by
      intro m
      obtain ⟨e, me, q⟩ := List.mem_filterMap.mp m
      exact out (List.mem_filterMap.mpr ⟨e, List.mem_cons_of_mem _ me, q⟩)
    have young : sI.heap.get? a = none := by
      cases e : sI.heap.get? a with
      | none => rfl
      | some o =>
        have := nb a o e (by rw [st]; exact out)
        rw [bn] at this
        cases this
    have new : a ∉ X.ex → X.s_0.heap.get? a = none := by
      intro nx
      cases e : X.s_0.heap.get? a with
      | none => rfl
      | some o =>
        obtain ⟨o', e'⟩ := J.base.there a o e nx
        rw [young] at e'
        cases e'
    have apart : ∀ p ∈ X.pn ++ pins, p.1 ≠ a := by
      intro p hp z
      have := (J.pin p hp).1
      rw [z, young] at this
      cases this
    have J3 : Inv X pins τ' G' { s' with heap := g3 } := J.landed nb f3.1 (up.trans u3) os ag
    have S3 := J3.suite e3 d3 na notL notF
    have ty : PySem.W.Looks (model X.prog X.w) g3 (typeOf (.ref a)) cls := fun A Q E s k q => wpAny_typeOf_ref (k _ _ e3) (by
      rw [z3.1]
      exact q)
    have many : ∀ {hs : List ExceptHandler} {l' : List (Value × (Addr → Value → Option Addr → TS))}, HdsK X n hs l' → wMK X.K i D l' cls d τ' G' →
        wpAny (model X.prog X.w) X.A (handleBy (.ref a) X.env hs) (SP X pins D) X.xe { s' with heap := g3 } := by
      intro hs l' hk
      induction hk with
      | nil => exact fun z => z.elim
      | @cons x c ts b1 su q1 q2 hds2 l2 nm suite r ih =>
        rintro ⟨C, b, rfl, hb1, yes, no⟩
        refine wpAny_handleBy_cons (codeAny_handlers_test ?_) (fun q => by cases q)
        have mt := PySem.W.exm_one (M := model X.prog X.w) J3.kIn ty hb1
        have load : ∀ {Q : Value → Shared → Prop} {E : Value → Shared → Prop}, Q c { s' with heap := g3 } → wpAny (model X.prog X.w) (X.A.mark (some (.ref a))) (eval (.Name x q1) X.env) Q E { s' with heap := g3 } := by
          intro Q E q
          obtain ⟨gl, dbg, m | ⟨m, v, nn⟩⟩ := nm
          · exact ld_glob (X := X.suite a ((a, o3) :: (X.pn ++ pins))) S3 gl m q dbg
          · exact ld_blt (X := X.suite a ((a, o3) :: (X.pn ++ pins))) S3 gl m v q nn dbg
        refine load (mt.here ?_)
        cases b with
        | true =>
          refine codeAny_handlers_suite_as ?_
          refine HandSPX.lands_againZ f3 fun g4 f4 u4 => ?_
          obtain ⟨o4, v4, e4, z4, d4⟩ := f4.there
          have J4 : Inv X pins τ' G' { s' with heap := g4 } := J.landed nb f4.1 ((up.trans u3).trans u4) os ag
          have S4 := J4.suite e4 d4 na notL notF
          refine store_ok (X := X.suite a ((a, o4) :: (X.pn ++ pins))) (v := .ref a) S4 nd at_ (.inl lo) rfl (fun s5 S5 => ?_) (.inr lo)
          refine wpAny_mono ((suite a o4 (.ref C) d (X.pn ++ pins) z4 ⟨_, d4⟩).run [] s5 _ G' _ S5 (yes rfl a na)) (fun f s6 sp => ?_) (fun _ _ z => z.elim)
          cases f with
          | next =>
            obtain ⟨τ6, G6, S6, q6⟩ := sp
            refine gone_ok (outOf S6 ok) nd at_ lo fun s7 J7 => ?_
            exact ⟨_, _, adoptD J7 z4 d4 new apart, q6 (S6.pin (a, o4) (by show _ ∈ ((a, o4) :: (X.pn ++ pins)) ++ []; simp)).2.1⟩
          | brk =>
            obtain ⟨_, _, _, z⟩ := sp
            exact z.elim
          | cont =>
            obtain ⟨_, _, _, z⟩ := sp
            exact z.elim
          | ret u =>
            obtain ⟨_, _, _, _, _, z⟩ := sp
            exact z.elim
        | false =>
          show wpAny _ X.A (handleBy (.ref a) X.env hds2) _ _ _
          exact ih (no rfl)
    exact many hh go
  refine wpAny_mono run (fun f s1 sp => ?_) (fun _ _ z => z)
  cases f with
  | next =>
    obtain ⟨τ', G', J', q⟩ := sp
    exact wpAny_execs_nil ⟨τ', G', J'.ofTry ok, q⟩
  | brk =>
    obtain ⟨τ', G', J', q⟩ := sp
    exact ⟨τ', G', J'.ofTry ok, q⟩
  | cont =>
    obtain ⟨τ', G', J', q⟩ := sp
    exact ⟨τ', G', J'.ofTry ok, q⟩
  | ret u =>
    obtain ⟨v, τ', G', J', r, q⟩ := sp
    exact ⟨v, τ', G', J'.ofTry ok, r, q⟩
end
section
variable {X : Cx}
/-- isinstance(e, D), e the error that is being handled, with its dict or without one -/
def rIsD (K : PySem.W.Frag) (a Ce : Addr) (d : Option Addr) : List V → Hp → VK → Prop := fun xs H Q => ∃ (D : V) (u : Value) (b : Bool), xs = [.ref a, D] ∧ ClsV D u ∧ XiC K Ce ∧ (∀ dd, d = some dd → ∃ fs, H dd = some (.xd fs)) ∧ PySem.W.kitOne K (.ref Ce) u = some b ∧ Q (.bl b) H
theorem call_isD {a Ce : Addr} {d : Option Addr} {ob : Obj} {pn : List (Addr × Obj)} (z : Zc (.ref Ce) d ob) (dt : ∃ fl, ob.data = .fields fl) : CallR (X.suite a ((a, ob) :: pn)) (.builtin "isinstance") (rIsD X.K a Ce d) := by
  intro pins s σ H xs us Q I r h
  obtain ⟨D, w, b, rfl, k, T, hd, yes, q⟩ := h
  obtain ⟨u1, u2, rfl, r1, r2⟩ := vals2 r
  obtain rfl : u1 = Value.ref a := r1
  obtain rfl := k.eq r2
  obtain ⟨fl, dt⟩ := dt
  have ha := (I.pin (a, ob) (by show _ ∈ ((a, ob) :: pn) ++ pins; simp)).1
  cases d with
  | none =>
    have J : PySem.W.InstAt s.heap a ob Ce none := ⟨ha, z.1, by unfold PySem.W.notCls; rw [dt] <;> rfl, by rw [z.2]; trivial⟩
    exact PySem.W.kia_one (PySem.W.kitx_exc T.cl T.ga T.gg T.ex T.ca T.sp T.tk T.ob) I.kIn J yes (fun z => by cases z) fun tk => ⟨.bl b, H, I.tok tk, rfl, q⟩
  | some dd =>
    obtain ⟨fs, ed⟩ := hd dd rfl
    have dk : ObjOk X.prog X.w H s.heap dd (.xd fs) := I.hok dd _ ed
    obtain ⟨mA, ns, rel⟩ := dk
    obtain ⟨od, ho, look⟩ := lookIn_ns ns
    have J : PySem.W.InstAt s.heap a ob Ce (some od) := ⟨ha, z.1, by unfold PySem.W.notCls; rw [dt] <;> rfl, by rw [z.2]; exact ho⟩
    exact PySem.W.kia_one (PySem.W.kitx_exc T.cl T.ga T.gg T.ex T.ca T.sp T.tk T.ob) I.kIn J yes (fun z => by cases z) fun tk => ⟨.bl b, H, I.tok tk, rfl, q⟩
end
end BL

namespace BL
open PySem PySem.Spec PyProof.Rows L2
/-! __init__ that raises; C(e, ..) that raises -/
section
variable {X : Cx} {CX : CXT} {k : Nat} {f C : Addr} {fd : FuncData} {ps : List Str} {sp : Sp} {E : L2.St → XK} {x : Str} {p pos : Pos} {e : Expr} {es : List Expr} {t : TA}
def tMakeS (C : Addr) (sp : Sp) (E : L2.St → XK) (t : TA) : TE := fun σ H Q => t σ H fun vs H1 => ∀ x dx, H1 x = none → H1 dx = none → dx ≠ x →
  sp (.ref x :: vs) (upd (upd H1 dx (.own x)) x (.ins C dx [])) (fun v H2 => v = .non ∧ Q (.ref x) H2) (E σ)
theorem run_makeS {pins : List (Addr × Obj)} {σ : L2.St} {H : Hp} {s : Shared} {Q : VK} {us : List Value} {vs : List V} (M : Mk X.K C f) (F : FnOk X.prog X.w X.K X.mg X.base CX k f fd ps sp) (hr : Room (k + 1) X.A) (hb : Binds X.K fd ps [])
    (hx : PassesAt CX X σ (E σ)) (I : Inv X pins σ H s) (r : Vals vs us)
    (h : ∀ x dx, H x = none → H dx = none → dx ≠ x → sp (.ref x :: vs) (upd (upd H dx (.own x)) x (.ins C dx [])) (fun v H2 => v = .non ∧ Q (.ref x) H2) (E σ)) :
    wpAny (model X.prog X.w) X.A (call (.ref C) us) (EP X pins σ Q) X.xe s := by
  have hq := h (s.heap.objs.size + 1) s.heap.objs.size (I.hok.fresh (Nat.le_succ _)) (I.hok.fresh (Nat.le_refl _)) (Nat.ne_of_lt (Nat.lt_succ_self _))
  have I2 := Inv.made (C := C) I
  have r2 : Vals (V.ref (s.heap.objs.size + 1) :: vs) (Value.ref (s.heap.objs.size + 1) :: us) := .cons rfl r
  have hl : (Value.ref (s.heap.objs.size + 1) :: us ++ []).length = ps.length := by
    have e := r2.length
    rw [F.len _ _ _ _ hq] at e
    rw [List.append_nil]
    exact e.symm
  have hb' := hb _ (Value.ref (s.heap.objs.size + 1) :: us) I2.kIn hl
  rw [List.append_nil] at hb'
  refine wpAny_call (make_map (f := f) I.kIn M.makes M.init (beq_iff_eq.mp M.fn) (codeAny_mono (F.run _ X.stack _ _ ⟨Value.ref (s.heap.objs.size + 1) :: us, []⟩ (Value.ref (s.heap.objs.size + 1) :: us) _ _ (E σ) (hr.make C us [])
    (I2.env0.make C us []) hb' r2 hq) fun r s' hq' => ?_))
  cases r with
  | error e => exact hx pins _ _ e s' I2 hq'
  | ok fl =>
    cases fl with
    | ret u =>
      obtain ⟨v, H', I3, rv, ev, q3⟩ := I2.after hq'
      subst ev
      exact ⟨rv, ⟨V.ref (s.heap.objs.size + 1), H', I3, rfl, q3⟩⟩
    | next => exact False.elim hq'
    | brk => exact False.elim hq'
    | cont => exact False.elim hq'
theorem pe_makeS (M : Mk X.K C f) (F : FnOk X.prog X.w X.K X.mg X.base CX k f fd ps sp) (hr : Room (k + 1) X.A) (hg : Gl X x) (hm : X.mg x = some (.ref C)) (hb : Binds X.K fd ps []) (hx : ∀ σ, PassesAt CX X σ (E σ))
    (ha : PA X (e :: es) t) (hdb : (x == ("__debug__" : Str)) = false := by decide) (he : starEach (e :: es) X.env = (false, eval e X.env) :: starEach es X.env := by rfl) (hpl : (backTo pos (starEach es X.env)).any (·.1) = false := by rfl) :
    PE X (.Call (.Name x p) (e :: es) [] pos) (tMakeS C sp E t) := by
  refine ⟨fun pins s σ H Q I h => ?_⟩
  refine wpAny_Call_Name_kw (ld_glob I hg hm ?_ hdb)
  refine PySem.W.callWith_K (h₀ := X.base) I.ok.mod.kin M.kp (thn (ha.run pos pins s σ H _ I h) fun us s1 ⟨vs, H1, I1, r, q⟩ => ⟨I1.kIn, ?_⟩) he hpl
  exact run_makeS M F hr hb (hx σ) I1 r q
end
/-- the first parameter is not read -/
def spRI (K : PySem.W.Frag) (C Ce : Addr) (fs : List Str) (r : List PV → List PV → Option (List PV × List PV)) : Sp := fun vs H Q E => ∃ v0 us, vs = v0 :: us ∧ spR K C Ce fs r us H Q E
def spRI0 (K : PySem.W.Frag) (C Ce : Addr) (r : List PV → List PV → Option (List PV × List PV)) : Sp := fun vs H Q E => ∃ v0 us, vs = v0 :: us ∧ spR0 K C Ce r us H Q E
def mDefI (np nN : Nat) (m : MR) : List PV → List PV → Option (List PV × List PV) := fun xs S => if xs.length = np then m (.un :: (xs.map .val ++ List.replicate (nN - (np + 1)) .un)) S else none
theorem rel_startI {K : PySem.W.Frag} {C : Addr} {W : Wd} {S xs : List PV} {v0 : V} {vs : List V} {N ps : List Str} {p0 : Str} (i : Inv1 K C W S) (r : RepAll K C W.F W.θ vs xs) (hl : xs.length = ps.length) : Rel K C W W (L2.start N (v0 :: vs)) (.un :: (xs.map .val ++ List.replicate (N.length - (ps.length + 1)) .un)) S := by
  have R := (rel_start (N := N) (ps := p0 :: ps) i (.cons (.non) r) (congrArg Nat.succ hl)).setu 0 (some v0)
  exact R
theorem okRI {P : Program} {w : World} {K : PySem.W.Frag} {mg : Str → Option Value} {base : Heap} {C Ce : Addr} {fs : List Str} {x qual : Str} {st : Stmt} {dvs : List V} {f : Addr} {fd : FuncData} {N ps : List Str} {p0 : Str} {k : Nat} {m : MR} (F : FunD K x qual (defArgs st) (defBody st) (defScope st) dvs [] f fd) (Sc : FnScope N (p0 :: ps) (defScope st))
    (hb : ∀ (cdv : Value) (A : Around) (outer : List Env) (s : Shared) (H : Hp) (E : XK), Room k (A.deeper (envOfC qual (defScope st) s.heap.objs.size f cdv)) → PSs (cxOf (L2.CX P w) P w K mg base N qual (defScope st) f cdv A outer s H E) (defBody st) (tMR K C Ce fs m (fun cls d _ H => E cls d H))) :
    FnOk P w K mg base (L2.CX P w) (k + 1) f fd (p0 :: ps) (spRI K C Ce fs (mDefI ps.length N.length m)) := by
  refine F.ok (CX := L2.CX P w) Sc (fun vs H Q E h => ?_) (fun cdv A outer s H vs Q E hr h => ?_)
  · obtain ⟨v0, us, rfl, W, S, xs, ys, S', eH, i, r, em, q⟩ := h
    unfold mDefI at em
    split at em
    · rename_i hl
      show us.length + 1 = ps.length + 1
      rw [r.len, hl]
    · cases em
  · refine ⟨_, hb cdv A outer s H E hr, ?_⟩
    obtain ⟨v0, us, rfl, W, S, xs, ys, S', eH, i, r, em, q⟩ := h
    subst eH
    unfold mDefI at em
    split at em
    · rename_i hl
      exact ⟨W, W, _, S, ys, S', rfl, rel_startI (p0 := p0) i r hl, em, fun us d W' g R' ru l n e => q us d W' R'.e R'.i ru l n e⟩
    · cases em
theorem okRI0 {P : Program} {w : World} {K : PySem.W.Frag} {mg : Str → Option Value} {base : Heap} {C Ce : Addr} {x qual : Str} {st : Stmt} {dvs : List V} {f : Addr} {fd : FuncData} {N ps : List Str} {p0 : Str} {k : Nat} {m : MR} (F : FunD K x qual (defArgs st) (defBody st) (defScope st) dvs [] f fd) (Sc : FnScope N (p0 :: ps) (defScope st))
    (hb : ∀ (cdv : Value) (A : Around) (outer : List Env) (s : Shared) (H : Hp) (E : XK), Room k (A.deeper (envOfC qual (defScope st) s.heap.objs.size f cdv)) → PSs (cxOf (L2.CX P w) P w K mg base N qual (defScope st) f cdv A outer s H E) (defBody st) (tM1 K C Ce m E)) :
    FnOk P w K mg base (L2.CX P w) (k + 1) f fd (p0 :: ps) (spRI0 K C Ce (mDefI ps.length N.length m)) := by
  refine F.ok (CX := L2.CX P w) Sc (fun vs H Q E h => ?_) (fun cdv A outer s H vs Q E hr h => ?_)
  · obtain ⟨v0, us, rfl, W, S, xs, ys, S', eH, i, r, em, q⟩ := h
    unfold mDefI at em
    split at em
    · rename_i hl
      show us.length + 1 = ps.length + 1
      rw [r.len, hl]
    · cases em
  · refine ⟨_, hb cdv A outer s H E hr, ?_⟩
    obtain ⟨v0, us, rfl, W, S, xs, ys, S', eH, i, r, em, q⟩ := h
    subst eH
    unfold mDefI at em
    split at em
    · rename_i hl
      exact ⟨W, W, _, S, ys, S', rfl, rel_startI (p0 := p0) i r hl, em, q⟩
    · cases em
/-- a class whose __init__ raises -/
structure MakR (P : Program) (w : World) (K : PySem.W.Frag) (mg : Str → Option Value) (base : Heap) (k : Nat) (x : Str) (C : Addr) (sp : Sp) : Prop where
  ex : ∃ (f : Addr) (fd : FuncData) (ps : List Str), Mk K C f ∧ FnOk P w K mg base (L2.CX P w) k f fd ps sp ∧ mg x = some (.ref C) ∧ Binds K fd ps []
section
variable {X : Cx} {C Cm Ce : Addr} {fs : List Str} {Wi : WX} {k j : Nat} {x : Str} {r : List PV → List PV → Option (List PV × List PV)} {mes : MA} {p pos : Pos} {e : Expr} {es : List Expr}
theorem rmk (c : MakR X.prog X.w X.K X.mg X.base k x Cm (spRI X.K C Ce fs r)) (hr : Room j X.A) (hk : k + 1 ≤ j) (hg : Gl X x) (tk : Takes X Wi) (ha : PA X (e :: es) (tMA X.K C mes))
    (hdb : (x == ("__debug__" : Str)) = false := by decide) (he : starEach (e :: es) X.env = (false, eval e X.env) :: starEach es X.env := by rfl) (hpl : (backTo pos (starEach es X.env)).any (·.1) = false := by rfl) :
    PE X (.Call (.Name x p) (e :: es) [] pos) (tER X.K C Ce fs (mRCall r mes) Wi) := by
  obtain ⟨f, fd, ps, M, F, hm, b⟩ := c.ex
  refine PE.weak (pe_makeS M F (hr.mono hk) hg hm b (fun σ => passAt tk σ) ha hdb he hpl) fun σ H Q ⟨W0, W, ρ, S, ys, S', eH, R, em, q⟩ => ?_
  subst eH
  unfold mRCall at em
  split at em
  · rename_i xs S1 e1
    refine ⟨W0, W, ρ, S, xs, S1, rfl, R, e1, fun vs W1 R1 g1 r1 => fun x dx nx ndx nex => ?_⟩
    obtain ⟨g2, i2⟩ := laidH (.own x) R1.i ndx
    obtain ⟨g3, i3⟩ := laidH (p := x) (.ins Cm dx []) i2 (by show upd _ dx _ x = none; rw [upd_ne (Ne.symm nex)]; exact nx)
    refine ⟨.ref x, vs, rfl, _, S1, xs, ys, S', rfl, i3, r1.ext (g2.trans g3), em, fun us d W4 g4 i4 r4 l4 n4 e4 => ?_⟩
    exact q us d W4 (((g1.trans g2).trans g3).trans g4) (R1.ext ((g2.trans g3).trans g4) i4) r4 l4 (older ((g1.trans g2).trans g3) n4) e4
  · cases em
theorem rmk0 (c : MakR X.prog X.w X.K X.mg X.base k x Cm (spRI0 X.K C Ce r)) (hr : Room j X.A) (hk : k + 1 ≤ j) (hg : Gl X x) (tk : Takes X Wi) (ha : PA X (e :: es) (tMA X.K C mes))
    (hdb : (x == ("__debug__" : Str)) = false := by decide) (he : starEach (e :: es) X.env = (false, eval e X.env) :: starEach es X.env := by rfl) (hpl : (backTo pos (starEach es X.env)).any (·.1) = false := by rfl) :
    PE X (.Call (.Name x p) (e :: es) [] pos) (tE0 X.K C Ce (mRCall r mes) Wi) := by
  obtain ⟨f, fd, ps, M, F, hm, b⟩ := c.ex
  refine PE.weak (pe_makeS M F (hr.mono hk) hg hm b (fun σ => passAt tk σ) ha hdb he hpl) fun σ H Q ⟨W0, W, ρ, S, ys, S', eH, R, em, q⟩ => ?_
  subst eH
  unfold mRCall at em
  split at em
  · rename_i xs S1 e1
    refine ⟨W0, W, ρ, S, xs, S1, rfl, R, e1, fun vs W1 R1 g1 r1 => fun x dx nx ndx nex => ?_⟩
    obtain ⟨g2, i2⟩ := laidH (.own x) R1.i ndx
    obtain ⟨g3, i3⟩ := laidH (p := x) (.ins Cm dx []) i2 (by show upd _ dx _ x = none; rw [upd_ne (Ne.symm nex)]; exact nx)
    refine ⟨.ref x, vs, rfl, _, S1, xs, ys, S', rfl, i3, r1.ext (g2.trans g3), em, fun W4 g4 i4 => ?_⟩
    exact q W4 (((g1.trans g2).trans g3).trans g4) (R1.ext ((g2.trans g3).trans g4) i4)
  · cases em
/-! two handlers, the first of an error with two fields, the second of one without; both say a list -/
def tsC (Cc : Addr) (i j : Nat) (f1 f2 t1 : Str) (a : Addr) (cls : Value) (d : Option Addr) : TS := fun D σ H => ∃ (u1 u2 : V) (fsd : List (Str × V)) (dd : Addr), σ[i]? = some (some (.ref a)) ∧ cls = .ref Cc ∧ d = some dd ∧ H dd = some (.xd fsd) ∧ fsd.lookup f1 = some u1 ∧ fsd.lookup f2 = some u2 ∧
  ∀ p, H p = none → D.nx (σ.set j (some (.ref p))) (upd H p (.lst [.str t1, u1, u2, .bl true]))
def tsN (Cn : Addr) (i j : Nat) (t2 : Str) (a : Addr) (cls : Value) (d : Option Addr) : TS := fun D σ H => σ[i]? = some (some (.ref a)) ∧ cls = .ref Cn ∧ d = none ∧
  ∀ p, H p = none → D.nx (σ.set j (some (.ref p))) (upd H p (.lst [.str t2, .bl true]))
def mTry2 (i j : Nat) (t1 t2 : Str) (m1 m2 : MR) (ms : MS) : MS := fun ρ S => match m1 ρ S with
  | some ([y1, y2], S1) => if i < ρ.length ∧ j < ρ.length then some (.nx ((ρ.set j (.val (.lst [.str t1, y1, y2, .bl true]))).set i .un) S1) else none
  | some _ => none
  | none => match m2 ρ S with
    | some (_, S1) => if i < ρ.length ∧ j < ρ.length then some (.nx ((ρ.set j (.val (.lst [.str t2, .bl true]))).set i .un) S1) else none
    | none => ms ρ S
theorem xtry2 {Cc Cn fI : Addr} {f1 f2 t1 t2 : Str} {m1 m2 : MR} {ms : MS} {x1 x2 n : Str} {i j : Nat} {bd su1 su2 : List Stmt} {b1 b2 : Stmt} {q1 q2 q3 q4 pos : Pos} (T1 : ErrC X.K X.mg x1 Cc fI [f1, f2]) (T2 : Err0 X.K X.mg x2 Cn) (no : PySem.W.exmOne X.K (.ref Cn) (.ref Cc) = some false) (ij : i ≠ j) (ff : f1 ≠ f2)
    (st : X.stack = X.env :: X.outer) (fr : X.env.frame = some X.env.locals) (nd : X.N.Nodup) (at_ : X.N[i]? = some n) (lo : X.env.kindOf n = some .local) (gl1 : Gl X x1) (dbg1 : (x1 == ("__debug__" : Str)) = false) (gl2 : Gl X x2) (dbg2 : (x2 == ("__debug__" : Str)) = false)
    (bodyC : ∀ (W : WX) (pn : List (Addr × Obj)) (E' : Value → Shared → Prop), Takes (X.tr pn E') W → PassesOwn (model X.prog X.w) X.A X.env E' → PSs (X.tr pn E') bd (tMR X.K C Cc [f1, f2] m1 W))
    (bodyN : ∀ (W : WX) (pn : List (Addr × Obj)) (E' : Value → Shared → Prop), Takes (X.tr pn E') W → PassesOwn (model X.prog X.w) X.A X.env E' → PSs (X.tr pn E') bd (tM0 X.K C Cn m2 W))
    (bodyO : ∀ (pn : List (Addr × Obj)) (E' : Value → Shared → Prop), PassesOwn (model X.prog X.w) X.A X.env E' → PSs (X.tr pn E') bd (tMS X.K C ms))
    (said1 : ∀ (a : Addr) (ob : Obj) (cls : Value) (d : Option Addr) (pn : List (Addr × Obj)), Zc cls d ob → (∃ fl, ob.data = .fields fl) → PSs (X.suite a ((a, ob) :: pn)) (b1 :: su1) (tsC Cc i j f1 f2 t1 a cls d))
    (said2 : ∀ (a : Addr) (ob : Obj) (cls : Value) (d : Option Addr) (pn : List (Addr × Obj)), Zc cls d ob → (∃ fl, ob.data = .fields fl) → PSs (X.suite a ((a, ob) :: pn)) (b2 :: su2) (tsN Cn i j t2 a cls d)) :
    PS X (.Try bd [.ExceptHandler (some (.Name x1 q1)) (some n) (b1 :: su1) q2, .ExceptHandler (some (.Name x2 q3)) (some n) (b2 :: su2) q4] [] [] pos) (tMS X.K C (mTry2 i j t1 t2 m1 m2 ms)) :=
  PS.weak (ps_try_keepM (i := i) (l := [((.ref Cc : Value), tsC Cc i j f1 f2 t1), ((.ref Cn : Value), tsN Cn i j t2)]) (tb := fun W D σ H => (tMR X.K C Cc [f1, f2] m1 W D σ H ∨ tM0 X.K C Cn m2 W D σ H) ∨ tMS X.K C ms D σ H) st fr nd at_ lo
    (fun W pn E' tk po => pss_or (pss_or (bodyC W pn E' tk po) (bodyN W pn E' tk po)) (bodyO pn E' po)) (.cons ⟨gl1, dbg1, .inl T1.gC⟩ said1 (.cons ⟨gl2, dbg2, .inl T2.gC⟩ said2 .nil))) fun D σ H ⟨W0, W, ρ, S, out, eH, R, em, q⟩ => by
  subst eH
  have fin : ∀ {W1 : Wd} {S1 : List PV} {a p : Addr} {Ce : Addr} {d : Option Addr} {vs : List V} {xs : List PV}, Gro W W1 → Rel X.K C W0 W1 σ ρ S1 → W1.H p = none → RepAll X.K C W1.F W1.θ vs xs → i < ρ.length → j < ρ.length → out = .nx ((ρ.set j (.val (.lst xs))).set i .un) S1 →
      upd W1.H p (.lst vs) a = none → D.nx (((σ.set i (some (.ref a))).set j (some (.ref p))).set i none) (upd (upd W1.H p (.lst vs)) a (ExD Ce d a)) := by
    intro W1 S1 a p Ce d vs xs g1 R1 np rr hi hj eo na
    subst eo
    obtain ⟨g2, i2⟩ := laid (.lst vs) R1.i np
    obtain ⟨g3, i3⟩ := laidH (p := a) (ExD Ce d a) i2 na
    have R2 := R1.ext (g2.trans g3) i3
    have rx : RepW X.K C ⟨upd W1.F p (.lst vs), upd (upd W1.H p (.lst vs)) a (ExD Ce d a), W1.θ⟩ (.ref p) (.lst xs) := .lst (by show upd W1.F p _ p = _; exact upd_same) ((rr.ext g2).ext g3)
    have R3 := ((R2.setu i (some (.ref a))).setv j rx (by rw [List.length_set]; exact hj)).setu i none
    have e : ((ρ.set i .un).set j (.val (.lst xs))).set i SlV.un = (ρ.set j (.val (.lst xs))).set i .un := by
      apply List.ext_getElem?
      intro k
      simp only [List.getElem?_set, List.length_set]
      by_cases c1 : i = k <;> by_cases c2 : j = k <;> simp [c1, c2]
    rw [e] at R3
    exact q _ _ ((g1.trans g2).trans g3).groF R3
  unfold mTry2 at em
  split at em
  · rename_i y1 y2 S1 e1
    split at em
    · rename_i hl
      cases em
      obtain ⟨hi, hj⟩ := hl
      refine .inl (.inl ⟨W0, W, ρ, S, _, S1, rfl, R, e1, fun us d W1 g1 R1 r1 lu nd' ed => ⟨Cc, true, rfl, T1.te, fun _ a na => ?_, fun z => by cases z⟩⟩)
      match us, lu, r1, ed with
      | [u1, u2], _, r1, ed =>
        refine ⟨u1, u2, _, d, by rw [List.getElem?_set_self (by rw [R.l]; exact hi)], rfl, rfl, ed, ?_, ?_, fun p np => ?_⟩
        · show List.lookup f1 [(f2, u2), (f1, u1)] = some u1
          rw [List.lookup_cons, show (f1 == f2) = false from beq_eq_false_iff_ne.mpr ff, List.lookup_cons, beq_self_eq_true]
        · show List.lookup f2 [(f2, u2), (f1, u1)] = some u2
          rw [List.lookup_cons, beq_self_eq_true]
        · show upd W1.H p _ a = none → D.nx _ _
          intro na2
          cases r1 with
          | cons q1 rr =>
            cases rr with
            | cons q2 rr =>
              cases rr
              exact fin g1 R1 np (.cons (.str t1) (.cons q1 (.cons q2 (.cons (.bl true) .nil)))) hi hj rfl na2
    · cases em
  · cases em
  · split at em
    · rename_i ys S1 e2
      split at em
      · rename_i hl
        cases em
        obtain ⟨hi, hj⟩ := hl
        refine .inl (.inr ⟨W0, W, ρ, S, _, S1, rfl, R, e2, fun W1 g1 R1 => ⟨Cn, false, rfl, no, (fun z => by cases z), fun _ => ⟨Cn, true, rfl, T2.te, fun _ a na => ?_, (fun z => by cases z)⟩⟩⟩)
        refine ⟨by rw [List.getElem?_set_self (by rw [R.l]; exact hi)], rfl, rfl, fun p np => ?_⟩
        show upd W1.H p _ a = none → D.nx _ _
        intro na2
        exact fin g1 R1 np (.cons (.str t2) (.cons (.bl true) .nil)) hi hj rfl na2
      · cases em
    · exact .inr ⟨W0, W, ρ, S, out, rfl, R, em, q⟩
end
end BL

namespace BL
open PySem PySem.Spec PyProof.Rows L2
def crs (f c : Option Int) : Bool := match f, c with
  | some a, some b => decide (b < a)
  | _, _ => false
def cst2 (f c : Option Int) : Bool := match f, c with
  | some a, some b => decide (a = b)
  | _, _ => false
theorem okWb_of {s f c : Option Int} (h1 : crs f c = false) (h2 : cst2 f c = true ∨ s ≠ none) : okWb s f c = true := by
  cases f with
  | none => cases s with | none => rcases h2 with h | h <;> simp_all [cst2] | some i => cases c <;> rfl
  | some a =>
    cases c with
    | none => cases s with | none => rcases h2 with h | h <;> simp_all [cst2] | some i => rfl
    | some b =>
      have h := of_decide_eq_false h1
      cases s with
      | none =>
        rcases h2 with h2 | h2
        · have := of_decide_eq_true h2
          subst this
          simp [okWb]
        · exact absurd rfl h2
      | some i => simp [okWb]; omega
theorem fway29 {s f c : Option Int} (h : okWb s f c = true) (S : List PV) : fWay S [PO' s, PO' f, PO' c] = some (.way (nrm s f c) f c) := by
  show way3 _ _ _ = _
  unfold way3
  rw [oP_PO, oP_PO, oP_PO]
  exact if_pos h
theorem rIf_t {mt : MT} {a b : MR} {ρ : List SlV} {S S1 : List PV} {r : Option (List PV × List PV)} (h : mt ρ S = some (true, S1)) (h2 : a ρ S1 = r) : mRIf mt a b ρ S = r := by
  unfold mRIf
  rw [h]
  exact h2
theorem rIf_f {mt : MT} {a b : MR} {ρ : List SlV} {S S1 : List PV} {r : Option (List PV × List PV)} (h : mt ρ S = some (false, S1)) (h2 : b ρ S1 = r) : mRIf mt a b ρ S = r := by
  unfold mRIf
  rw [h]
  exact h2
theorem rSeq_nx {ms : MS} {mr : MR} {ρ ρ1 : List SlV} {S S1 : List PV} {r : Option (List PV × List PV)} (h : ms ρ S = some (.nx ρ1 S1)) (h2 : mr ρ1 S1 = r) : mRSeq ms mr ρ S = r := by
  unfold mRSeq
  rw [h]
  exact h2
theorem fo_nx {t : Tg} {mb : MS} {x : PV} {xs : List PV} {ρ ρ1 ρ2 : List SlV} {S S2 : List PV} {o : Ou} (p : t.put x ρ = some ρ1) (h : mb ρ1 S = some (.nx ρ2 S2)) (h2 : forL t mb xs ρ2 S2 = some o) : forL t mb (x :: xs) ρ S = some o := by
  unfold forL
  rw [p]
  simp only [h]
  exact h2
theorem min2_ok (n m : Nat) {S : List PV} : fMin2 S [.int (n : Int), .int (m : Int)] = some (.int ((min n m : Nat) : Int)) := by
  show some (PV.int (if (m : Int) < (n : Int) then (m : Int) else (n : Int))) = _
  congr 2
  split <;> omega
theorem rO_some {m r : MR} {ms : MS} {ρ : List SlV} {S : List PV} {z : List PV × List PV} (h : m ρ S = some z) : mRSeqO m ms r ρ S = some z := by
  unfold mRSeqO
  rw [h]
theorem rO_none {m r : MR} {ms : MS} {ρ ρ1 : List SlV} {S S1 : List PV} {z : Option (List PV × List PV)} (h : m ρ S = none) (h2 : ms ρ S = some (.nx ρ1 S1)) (h3 : r ρ1 S1 = z) : mRSeqO m ms r ρ S = z := by
  unfold mRSeqO
  rw [h]
  simp only [h2]
  exact h3
end BL

set_option exponentiation.threshold 3000
namespace BL
open PySem PySem.Spec PyProof.Rows L2
theorem le3' : (">= " : Str).length = 3 ∧ ("<= " : Str).length = 3 := by decide +kernel

def nP (o : Option Nat) : PV := match o with
  | none => .non
  | some n => .int (n : Int)
theorem dig_ok (l : List Nat) (hl : l.length ≤ 600) (S : List PV) : m_digits_in [.str (mkS l)] S = some (nP (digV l), S) := by
  have e0 : fEq S (.str (mkS l)) (.str "") = some (.bl (decide (l = []))) := by
    show some (PV.bl (decide (mkS l = ("" : Str)))) = _
    congr 2
    rw [decide_eq_decide]
    exact mk_inj (r := [])
  have lc : ∀ ρ : List SlV, ρ.length = 2 → lcL (.nm 1) mYes (mOp fInS (mVar 1) (mC (.str "0123456789"))) ρ (sgP (mkS l)) S = some (l.map (fun c => .bl (isDig c)), S) := fun ρ hr => lc_all (fun c => .str ⟨#[c]⟩) (fun c => .bl (isDig c)) fun c _ => ⟨ρ.set 1 (.val (.str ⟨#[c]⟩)), p_nm (by rw [hr]; rfl) rfl, v_op (v_var (by rw [List.getElem?_set_self (by omega)])) v_c (by show some (PV.bl (decide (c ∈ ("0123456789" : Str).cps.toList))) = _; rw [dig_mem])⟩
  have bl : ∀ l : List Nat, bls (l.map (fun c => PV.bl (isDig c))) = some (l.map isDig) := by
    intro l
    induction l with
    | nil => rfl
    | cons c r ih => show (match bls (r.map (fun c => PV.bl (isDig c))) with | some bs => some (isDig c :: bs) | none => none) = _; rw [ih]; rfl
  have ea : fAll S [.lst (l.map (fun c => .bl (isDig c)))] = some (.bl (l.all isDig)) := by
    show (match bls (l.map (fun c => PV.bl (isDig c))) with | some bs => some (PV.bl (bs.all id)) | none => none) = _
    rw [bl]
    show some (PV.bl ((l.map isDig).all id)) = _
    rw [List.all_map]
    rfl
  have cm : mFn fAll (mCons (mLc (.nm 1) (mStrI (mVar 0)) mYes (mOp fInS (mVar 1) (mC (.str "0123456789"))) [1]) mNil) [.val (.str (mkS l)), .un] S = some (.bl (l.all isDig), S) :=
    v_fn (v_cons (v_lc (vs := [1]) (ρ1 := [.val (.str (mkS l)), .un]) (by rfl) rfl (lc _ rfl) (by rw [List.length_map]; omega)) v_nil) ea
  have bad : digV l = none → (l = [] ∨ l.all isDig = false) → m_digits_in [.str (mkS l)] S = some (nP (digV l), S) := fun hn h => by
    rw [hn]
    refine d_rt rfl rfl (s_seq_rt (s_if_t ?_ (s_ret v_c)))
    by_cases c : l = []
    · exact t_or_t (t_tru (v_op (v_var rfl) v_c (by rw [e0, decide_eq_true c])))
    · rcases h with h | h
      · exact absurd h c
      · exact t_or_f (t_tru (v_op (v_var rfl) v_c (by rw [e0, decide_eq_false c]))) (t_not_t (t_tru (by rw [← h]; exact cm)))
  by_cases c : l = []
  · exact bad (by unfold digV; rw [if_neg (fun h => h.2.1 c)]) (.inl c)
  · cases ha : l.all isDig with
    | false => exact bad (by unfold digV; rw [if_neg (fun h => by rw [ha] at h; cases h.1)]) (.inr ha)
    | true =>
      have e48 : fEq S (.str (mkS l)) (.str "0") = some (.bl (decide (l = [48]))) := by
        show some (PV.bl (decide (mkS l = ("0" : Str)))) = _
        congr 2
        rw [decide_eq_decide]
        exact mk_inj (r := [48])
      obtain ⟨d, r, rfl⟩ : ∃ d r, l = d :: r := by
        cases l with
        | nil => exact absurd rfl c
        | cons d r => exact ⟨d, r, rfl⟩
      have eix : fIxS S (.str (mkS (d :: r))) (.int 0) = some (.str ⟨#[d]⟩) := by
        show (if (mkS (d :: r)).length ≤ 100000 then (match atI (mkS (d :: r)).cps.toList 0 with | some c => some (PV.str ⟨#[c]⟩) | none => none) else none) = _
        rw [if_pos (by rw [mk_len]; omega)]
        rw [show atI (mkS (d :: r)).cps.toList 0 = some d by unfold atI ixN; simp]
      have ene : fNe S (.str ⟨#[d]⟩) (.str "0") = some (.bl (!(decide (d = 48)))) := by
        show some (PV.bl (!(decide ((⟨#[d]⟩ : Str) = ("0" : Str))))) = _
        congr 3
        rw [decide_eq_decide]
        exact (mk_inj (l := [d]) (r := [48])).trans (by simp)
      have ei : fIntQ S [.str (mkS (d :: r))] = some (.int ((NumText.digitsVal (d :: r) : Nat) : Int)) := by
        show (if (mkS (d :: r)).length ≤ 640 then (match PySem.intText? (mkS (d :: r)) with | some n => some (PV.int n) | none => none) else none) = _
        rw [if_pos (by rw [mk_len]; omega), int_dig ha c (by omega)]
      have first : mIf (mOrT (mTru (mOp fEq (mVar 0) (mC (.str "")))) (mNotT (mTru (mFn fAll (mCons (mLc (.nm 1) (mStrI (mVar 0)) mYes (mOp fInS (mVar 1) (mC (.str "0123456789"))) [1]) mNil))))) (mRet (mC .non)) mSkip [.val (.str (mkS (d :: r))), .un] S = some (.nx [.val (.str (mkS (d :: r))), .un] S) :=
        s_if_f (t_or_f (t_tru (v_op (v_var rfl) v_c (by rw [e0, decide_eq_false c]))) (t_not_f (t_tru (by rw [← ha]; exact cm)))) s_skip
      by_cases h0 : d :: r = [48] ∨ (d :: r).head? ≠ some 48
      · have : digV (d :: r) = some (NumText.digitsVal (d :: r)) := by unfold digV; rw [if_pos ⟨ha, c, h0⟩]
        rw [this]
        refine d_rt rfl rfl (s_seq first (s_ret (v_ifE_t ?_ (v_fn (v_cons (v_var rfl) v_nil) ei))))
        by_cases h1 : d :: r = [48]
        · exact t_or_t (t_tru (v_op (v_var rfl) v_c (by rw [e48, decide_eq_true h1])))
        · refine t_or_f (t_tru (v_op (v_var rfl) v_c (by rw [e48, decide_eq_false h1]))) (t_tru (v_op (v_op (v_var rfl) v_c eix) v_c ?_))
          rw [ene, decide_eq_false (fun z => (h0.resolve_left h1) (by rw [z]; rfl))]
          rfl
      · have : digV (d :: r) = none := by unfold digV; rw [if_neg (fun h => h0 h.2.2)]
        rw [this]
        have h1 : ¬ d :: r = [48] := fun z => h0 (.inl z)
        have h2 : d = 48 := by
          have : (d :: r).head? = some 48 := Classical.byContradiction fun z => h0 (.inr z)
          exact Option.some.inj this
        refine d_rt rfl rfl (s_seq first (s_ret (v_ifE_f (t_or_f (t_tru (v_op (v_var rfl) v_c (by rw [e48, decide_eq_false h1]))) (t_tru (v_op (v_op (v_var rfl) v_c eix) v_c (by rw [ene, decide_eq_true h2]; rfl)))) v_c)))
theorem sl1 {l : List Nat} {i : Nat} (k : Nat) {ρ : List SlV} {S : List PV} (h : ρ[i]? = some (.val (.str (mkS l)))) (hk : k ≤ l.length) (hl : l.length ≤ 600) : mSlS (mVar i) (mP1 (mC (.int (k : Int)))) mP0 ρ S = some (.str (mkS (l.drop k)), S) := by
  unfold mSlS
  rw [v_var h]
  simp only []
  rw [v_p1 (t := (k : Int)) v_c]
  simp only []
  rw [v_p0]
  simp only []
  rw [if_pos (by rw [mk_len]; omega), cutS_drop _ _ hk]
theorem num_ok (l : List Nat) (hl : l.length ≤ 600) (S : List PV) : m_number_in [.str (mkS l)] S = some (PO' (numV l), S) := by
  have e : fStarts S (.str (mkS l)) (.str "-") = some (.bl (hdB 45 l)) := by
    show some (PV.bl (Txt.startswith (mkS l) (mkS [45]))) = _
    rw [starts1]
  have plain : hdB 45 l = false → m_number_in [.str (mkS l)] S = some (PO' (numV l), S) := fun h => by
    rw [h] at e
    have e2 := dig_ok l hl S
    have : nP (digV l) = PO' (numV l) := by
      rw [numV_nn]
      · cases digV l <;> rfl
      · cases l with
        | nil => simp
        | cons d r => simpa using of_decide_eq_false h
    rw [this] at e2
    exact d_rt rfl rfl (s_seq_rt (s_if_t (t_not_t (t_tru (v_op (v_var rfl) v_c e))) (s_ret (v_call (v_cons (v_var rfl) v_nil) e2))))
  cases l with
  | nil => exact plain rfl
  | cons d r =>
    by_cases h : d = 45
    · subst h
      have e2 := dig_ok r (by simp at hl; omega) S
      refine d_rt rfl rfl (s_seq (s_if_f (t_not_f (t_tru (v_op (v_var rfl) v_c (e.trans (by simp [hdB]))))) s_skip) (s_seq (s_asg (v_call (v_cons (sl1 1 (l := 45 :: r) rfl (by simp) hl) v_nil) e2) rfl rfl) ?_))
      have hn : numV (45 :: r) = (match digV r with | some n => if n = 0 then none else some (-(n : Int)) | none => none) := rfl
      rw [hn]
      cases digV r with
      | none => exact s_ret (v_ifE_f (t_truL (v_var rfl) rfl) v_c)
      | some n =>
        by_cases z : n = 0
        · subst z
          exact s_ret (v_ifE_f (t_truL (v_var rfl) rfl) v_c)
        · show _ = some (Ou.rt (PO' (if n = 0 then none else some (-(n : Int)))) S)
          rw [if_neg z]
          refine s_ret (v_ifE_t (t_truL (v_var rfl) ?_) (v_un (v_var rfl) rfl))
          show some ((n : Int) != 0) = some true
          simp [z]
    · exact plain (decide_eq_false h)

/-- an event as it is read -/
def evV (l : List Nat) : Option Ev := match l with
  | 62 :: 61 :: 32 :: r => (numV r).map fun n => (.flo, n)
  | 60 :: 61 :: 32 :: r => (numV r).map fun n => (.cap, n)
  | 43 :: r => (digV r).map fun n => (.add, (n : Int))
  | 45 :: r => (numV (45 :: r)).map fun n => (.add, n)
  | _ => none
def evO (o : Option Ev) : PV := match o with
  | none => .non
  | some e => evP e
def tFlo : Str := ">= "
def tCap : Str := "<= "
theorem starts3 (a b c : Nat) (l : List Nat) : Txt.startswith (mkS l) (mkS [a, b, c]) = (match l with | x :: y :: z :: _ => decide (x = a ∧ y = b ∧ z = c) | _ => false) := by
  rw [starts_eq]
  match l with
  | [] => rfl
  | [x] => simp
  | [x, y] => simp
  | x :: y :: z :: r => simp [Bool.beq_eq_decide_eq]

theorem last_ev : m_event_inF1 = (mIf (mTru (mOp fStarts (mVar 0) (mVar 2))) (mSeq (mAsg (.nm 3) (mCall m_number_in (mCons (mSlS (mVar 0) (mP1 (mFn fLenS (mCons (mVar 2) mNil))) mP0) mNil))) (mRet (mIfE (mTru (mOp fIs (mVar 3) (mC .non))) (mC .non) (mTup (mCons (mVar 1) (mCons (mVar 3) mNil)))))) mSkip) := rfl
theorem sl3 {l : List Nat} {y : Str} {ρ : List SlV} {S : List PV} (h : ρ[0]? = some (.val (.str (mkS l)))) (h2 : ρ[2]? = some (.val (.str y))) (hy : y.length = 3) (hk : 3 ≤ l.length) (hl : l.length ≤ 600) : mSlS (mVar 0) (mP1 (mFn fLenS (mCons (mVar 2) mNil))) mP0 ρ S = some (.str (mkS (l.drop 3)), S) := by
  have e : mP1 (mFn fLenS (mCons (mVar 2) mNil)) ρ S = some (some ((3 : Nat) : Int), S) := v_p1 (v_fn (v_cons (v_var h2) v_nil) (by show (if y.length ≤ 100000 then some (PV.int y.length) else none) = _; rw [if_pos (by omega), hy]))
  unfold mSlS
  rw [v_var h]
  simp only []
  rw [e]
  simp only []
  rw [v_p0]
  simp only []
  rw [if_pos (by rw [mk_len]; omega), cutS_drop _ _ hk]
theorem evF_hit {l : List Nat} {w y : Str} {v3 : SlV} {S : List PV} (hs : Txt.startswith (mkS l) y = true) (hy : y.length = 3) (hk : 3 ≤ l.length) (hl : l.length ≤ 600) :
    m_event_inF1 [.val (.str (mkS l)), .val (.str w), .val (.str y), v3] S = some (.rt (match numV (l.drop 3) with | none => .non | some n => .tup [.str w, .int n]) S) := by
  refine s_if_t (t_tru (v_op (v_var rfl) (v_var rfl) (by show some (PV.bl (Txt.startswith (mkS l) y)) = _; rw [hs]))) ?_
  refine s_seq (s_asg (v_call (v_cons (sl3 rfl rfl hy hk hl) v_nil) (num_ok (l.drop 3) (by rw [List.length_drop]; omega) S)) rfl rfl) ?_
  cases numV (l.drop 3) with
  | none => exact s_ret (v_ifE_t (t_tru (v_op (v_var rfl) v_c is_non)) v_c)
  | some n => exact s_ret (v_ifE_f (t_tru (v_op (v_var rfl) v_c is_int)) (v_tup (v_cons (v_var rfl) (v_cons (v_var rfl) v_nil)) (le_lit rfl)))
theorem evF_miss {l : List Nat} {w y : Str} {v3 : SlV} {S : List PV} (hs : Txt.startswith (mkS l) y = false) :
    m_event_inF1 [.val (.str (mkS l)), .val (.str w), .val (.str y), v3] S = some (.nx [.val (.str (mkS l)), .val (.str w), .val (.str y), v3] S) :=
  s_if_f (t_tru (v_op (v_var rfl) (v_var rfl) (by show some (PV.bl (Txt.startswith (mkS l) y)) = _; rw [hs]))) s_skip
theorem f_rt {t : Tg} {mb : MS} {x y : PV} {xs : List PV} {ρ ρ1 : List SlV} {S S2 : List PV} (p : t.put x ρ = some ρ1) (h : mb ρ1 S = some (.rt y S2)) : forL t mb (x :: xs) ρ S = some (.rt y S2) := by
  unfold forL
  rw [p]
  simp only [h]
theorem f_nx {t : Tg} {mb : MS} {x : PV} {xs : List PV} {ρ ρ1 ρ2 : List SlV} {S S2 : List PV} {o : Ou} (p : t.put x ρ = some ρ1) (h : mb ρ1 S = some (.nx ρ2 S2)) (h2 : forL t mb xs ρ2 S2 = some o) : forL t mb (x :: xs) ρ S = some o := by
  unfold forL
  rw [p]
  simp only [h]
  exact h2
theorem evi_ok (l : List Nat) (hl : l.length ≤ 600) (S : List PV) : m_event_in [.str (mkS l)] S = some (evO (evV l), S) := by
  have f1 := starts3 62 61 32 l
  have f2 := starts3 60 61 32 l
  have put1 : (Tg.tp [1, 2]).put (.tup [.str "floor", .str ">= "]) [.val (.str (mkS l)), .un, .un, .un] = some [.val (.str (mkS l)), .val (.str "floor"), .val (.str ">= "), .un] := p_tup (p_cons rfl rfl (p_cons rfl rfl p_nil))
  have put2 : (Tg.tp [1, 2]).put (.tup [.str "cap", .str "<= "]) [.val (.str (mkS l)), .val (.str "floor"), .val (.str ">= "), .un] = some [.val (.str (mkS l)), .val (.str "cap"), .val (.str "<= "), .un] := p_tup (p_cons rfl rfl (p_cons rfl rfl p_nil))
  have y1 : (">= " : Str).length = 3 := le3'.1
  have y2 : ("<= " : Str).length = 3 := le3'.2
  by_cases h1 : ∃ r, l = 62 :: 61 :: 32 :: r
  · obtain ⟨r, rfl⟩ := h1
    have e := evF_hit (w := "floor") (y := ">= ") (v3 := .un) (S := S) (f1.trans (by simp)) y1 (by simp) hl
    have : evO (evV (62 :: 61 :: 32 :: r)) = (match numV r with | none => .non | some n => .tup [.str "floor", .int n]) := by
      show evO ((numV r).map fun n => (EW.flo, n)) = _
      cases numV r <;> rfl
    rw [this]
    refine d_rt rfl rfl (s_seq_rt (s_for (xs := [.tup [.str "floor", .str ">= "], .tup [.str "cap", .str "<= "]]) rfl (f_rt put1 e)))
  · by_cases h2 : ∃ r, l = 60 :: 61 :: 32 :: r
    · obtain ⟨r, rfl⟩ := h2
      have e0 := evF_miss (w := "floor") (y := ">= ") (v3 := .un) (S := S) (f1.trans (by simp))
      have e := evF_hit (w := "cap") (y := "<= ") (v3 := .un) (S := S) (f2.trans (by simp)) y2 (by simp) hl
      have : evO (evV (60 :: 61 :: 32 :: r)) = (match numV r with | none => .non | some n => .tup [.str "cap", .int n]) := by
        show evO ((numV r).map fun n => (EW.cap, n)) = _
        cases numV r <;> rfl
      rw [this]
      refine d_rt rfl rfl (s_seq_rt (s_for (xs := [.tup [.str "floor", .str ">= "], .tup [.str "cap", .str "<= "]]) rfl (f_nx put1 e0 (f_rt put2 e))))
    · have n1 : Txt.startswith (mkS l) (mkS [62, 61, 32]) = false := by
        rw [f1]
        match l with
        | [] => rfl
        | [_] => rfl
        | [_, _] => rfl
        | x :: y :: z :: r => exact decide_eq_false fun h => h1 ⟨r, by rw [h.1, h.2.1, h.2.2]⟩
      have n2 : Txt.startswith (mkS l) (mkS [60, 61, 32]) = false := by
        rw [f2]
        match l with
        | [] => rfl
        | [_] => rfl
        | [_, _] => rfl
        | x :: y :: z :: r => exact decide_eq_false fun h => h2 ⟨r, by rw [h.1, h.2.1, h.2.2]⟩
      have e0 := evF_miss (w := "floor") (y := ">= ") (v3 := .un) (S := S) n1
      have e := evF_miss (w := "cap") (y := "<= ") (v3 := .un) (S := S) n2
      have lp : mFor (.tp [1, 2]) (mItemsK [("floor", ">= "), ("cap", "<= ")]) m_event_inF1 [.val (.str (mkS l)), .un, .un, .un] S = some (.nx [.val (.str (mkS l)), .val (.str "cap"), .val (.str "<= "), .un] S) := by
        refine s_for (xs := [.tup [.str "floor", .str ">= "], .tup [.str "cap", .str "<= "]]) rfl (f_nx put1 e0 (f_nx put2 e rfl))
      have sP : fStarts S (.str (mkS l)) (.str "+") = some (.bl (hdB 43 l)) := by
        show some (PV.bl (Txt.startswith (mkS l) (mkS [43]))) = _
        rw [starts1]
      have sM : fStarts S (.str (mkS l)) (.str "-") = some (.bl (hdB 45 l)) := by
        show some (PV.bl (Txt.startswith (mkS l) (mkS [45]))) = _
        rw [starts1]
      have fin : ∀ v : Option Int, mRet (mIfE (mTru (mOp fIs (mVar 3) (mC .non))) (mC .non) (mTup (mCons (mC (.str "add")) (mCons (mVar 3) mNil)))) [.val (.str (mkS l)), .val (.str "cap"), .val (.str "<= "), .val (PO' v)] S = some (.rt (evO (v.map fun n => (EW.add, n))) S) := fun v => by
        cases v with
        | none => exact s_ret (v_ifE_t (t_tru (v_op (v_var rfl) v_c is_non)) v_c)
        | some n => exact s_ret (v_ifE_f (t_tru (v_op (v_var rfl) v_c is_int)) (v_tup (v_cons v_c (v_cons (v_var rfl) v_nil)) (le_lit rfl)))
      refine d_rt rfl rfl (s_seq lp (s_seq (s_asg v_c rfl rfl) ?_))
      have other : (∀ r, l ≠ 43 :: r) → (∀ r, l ≠ 45 :: r) → evV l = none := fun a b => by
        unfold evV
        split
        · rename_i r; exact absurd ⟨r, rfl⟩ h1
        · rename_i r; exact absurd ⟨r, rfl⟩ h2
        · rename_i r; exact absurd rfl (a r)
        · rename_i r; exact absurd rfl (b r)
        · rfl
      cases l with
      | nil =>
        rw [other (fun r z => by cases z) (fun r z => by cases z)]
        exact s_seq (s_if_f (t_tru (v_op (v_var rfl) v_c sP)) (s_if_f (t_tru (v_op (v_var rfl) v_c sM)) s_skip)) (fin none)
      | cons d r =>
        by_cases c1 : d = 43
        · subst c1
          have ed := dig_ok r (by simp at hl; omega) S
          have : nP (digV r) = PO' ((digV r).map fun n => (n : Int)) := by cases digV r <;> rfl
          rw [this] at ed
          have ev : evV (43 :: r) = ((digV r).map fun n => (n : Int)).map fun n => (EW.add, n) := by
            show (digV r).map (fun n => (EW.add, (n : Int))) = _
            cases digV r <;> rfl
          rw [ev]
          exact s_seq (s_if_t (t_tru (v_op (v_var rfl) v_c (sP.trans (by simp [hdB])))) (s_asg (v_call (v_cons (sl1 1 (l := 43 :: r) rfl (by simp) hl) v_nil) ed) rfl rfl)) (fin _)
        · by_cases c2 : d = 45
          · subst c2
            have en := num_ok (45 :: r) hl S
            have ev : evV (45 :: r) = (numV (45 :: r)).map fun n => (EW.add, n) := rfl
            rw [ev]
            exact s_seq (s_if_f (t_tru (v_op (v_var rfl) v_c (sP.trans (by simp [hdB])))) (s_if_t (t_tru (v_op (v_var rfl) v_c (sM.trans (by simp [hdB])))) (s_asg (v_call (v_cons (v_var rfl) v_nil) en) rfl rfl))) (fin _)
          · rw [other (fun r' z => c1 (by cases z; rfl)) (fun r' z => c2 (by cases z; rfl))]
            exact s_seq (s_if_f (t_tru (v_op (v_var rfl) v_c (sP.trans (by simp [hdB, c1])))) (s_if_f (t_tru (v_op (v_var rfl) v_c (sM.trans (by simp [hdB, c2])))) s_skip)) (fin none)
def evT (e : Ev) : Str := match e.1 with
  | .add => plusS e.2
  | .flo => (">= " : Str) ++ itxt e.2
  | .cap => ("<= " : Str) ++ itxt e.2
theorem le3 : (">= " : Str).length = 3 ∧ ("<= " : Str).length = 3 ∧ (": " : Str).length = 2 ∧ (" (cut " : Str).length = 6 ∧ (" (lifted " : Str).length = 9 ∧ (")" : Str).length = 1 ∧ ("" : Str).length = 0 ∧ Str.empty.length = 0 ∧ ("+" : Str).length = 1 := by decide +kernel
theorem evT_len {e : Ev} (h : e.2.natAbs ≤ 100000000000000000000000000000000) : (evT e).length ≤ 50 := by
  obtain ⟨a, b, _⟩ := le3
  have h1 := tl_i h
  have h2 := pl_i h
  unfold evT
  split
  · omega
  · rw [strLen_append]; omega
  · rw [strLen_append]; omega
theorem pt_ok {e : Ev} (h : e.2.natAbs ≤ 100000000000000000000000000000000) (S : List PV) : m_law_pair_text [evP e] S = some (.str (evT e), S) := by
  obtain ⟨w, i⟩ := e
  have h : i.natAbs ≤ 100000000000000000000000000000000 := h
  have l1 := tl_i h
  obtain ⟨a, b, _, _, _, _, _, z, pl⟩ := le3
  cases w with
  | add =>
    show m_law_pair_text [.tup [.str EW.add.s, .int i]] S = _
    have ee : evT (.add, i) = if i < 0 then itxt i else ("+" : Str) ++ itxt i := plus_i i
    rw [ee]
    by_cases c : i < 0
    · rw [if_pos c]
      exact d_rt rfl rfl (s_seq (s_asgT (v_var rfl) (p_tup (p_cons rfl rfl (p_cons rfl rfl p_nil)))) (s_seq_if_t (t_tru (v_op (v_var rfl) v_c (by simp [cst, EW.s]))) (s_seq_ret (v_ifE_t (t_tru (v_op (v_var rfl) v_c (lt_t c))) (v_fn (v_cons (v_var rfl) v_nil) (str_i h S))))))
    · rw [if_neg c]
      exact d_rt rfl rfl (s_seq (s_asgT (v_var rfl) (p_tup (p_cons rfl rfl (p_cons rfl rfl p_nil)))) (s_seq_if_t (t_tru (v_op (v_var rfl) v_c (by simp [cst, EW.s]))) (s_seq_ret (v_ifE_f (t_tru (v_op (v_var rfl) v_c (lt_f c))) (v_op v_c (v_fn (v_cons (v_var rfl) v_nil) (str_i h S)) (add_s (y := itxt i) (by omega) S))))))
  | flo =>
    show m_law_pair_text [.tup [.str EW.flo.s, .int i]] S = _
    exact d_rt rfl rfl (s_seq (s_asgT (v_var rfl) (p_tup (p_cons rfl rfl (p_cons rfl rfl p_nil)))) (s_seq_if_f (t_tru (v_op (v_var rfl) v_c (by simp [cst, EW.s]; decide))) (s_seq_skip (s_ret (v_op (v_ifE_t (t_tru (v_op (v_var rfl) v_c (by simp [cst, EW.s]))) v_c) (v_fn (v_cons (v_var rfl) v_nil) (str_i h S)) (add_s (y := itxt i) (by omega) S))))))
  | cap =>
    show m_law_pair_text [.tup [.str EW.cap.s, .int i]] S = _
    exact d_rt rfl rfl (s_seq (s_asgT (v_var rfl) (p_tup (p_cons rfl rfl (p_cons rfl rfl p_nil)))) (s_seq_if_f (t_tru (v_op (v_var rfl) v_c (by simp [cst, EW.s]; decide))) (s_seq_skip (s_ret (v_op (v_ifE_f (t_tru (v_op (v_var rfl) v_c (by simp [cst, EW.s]; decide))) v_c) (v_fn (v_cons (v_var rfl) v_nil) (str_i h S)) (add_s (y := itxt i) (by omega) S))))))

/-- an event's signs -/
def evS (e : Ev) : List Nat := match e.1 with
  | .add => (if e.2 < 0 then [45] else [43]) ++ TL.numL e.2.natAbs
  | .flo => 62 :: 61 :: 32 :: il e.2
  | .cap => 60 :: 61 :: 32 :: il e.2
theorem evT_mk (e : Ev) : evT e = mkS (evS e) := by
  obtain ⟨w, i⟩ := e
  cases w with
  | add => rfl
  | flo => show (mkS [62, 61, 32]) ++ mkS (il i) = _; rw [mk_app]; rfl
  | cap => show (mkS [60, 61, 32]) ++ mkS (il i) = _; rw [mk_app]; rfl
theorem evV_evS (e : Ev) : evV (evS e) = some e := by
  obtain ⟨w, i⟩ := e
  cases w with
  | add =>
    by_cases h : i < 0
    · have : evS (.add, i) = 45 :: TL.numL i.natAbs := by show (if i < 0 then [45] else [43]) ++ TL.numL i.natAbs = _; rw [if_pos h]; rfl
      rw [this]
      have e2 : 45 :: TL.numL i.natAbs = il i := by unfold il; rw [if_pos h]; rfl
      show (numV (45 :: TL.numL i.natAbs)).map _ = _
      rw [e2, numV_il]
      rfl
    · have : evS (.add, i) = 43 :: TL.numL i.natAbs := by show (if i < 0 then [45] else [43]) ++ TL.numL i.natAbs = _; rw [if_neg h]; rfl
      rw [this]
      show (digV (TL.numL i.natAbs)).map (fun n => (EW.add, (n : Int))) = _
      rw [digV_num]
      show some (EW.add, ((i.natAbs : Nat) : Int)) = _
      rw [show ((i.natAbs : Nat) : Int) = i by omega]
  | flo => show (numV (il i)).map _ = _; rw [numV_il]; rfl
  | cap => show (numV (il i)).map _ = _; rw [numV_il]; rfl
theorem evS_len2 (e : Ev) : 2 ≤ (evS e).length := by
  obtain ⟨w, i⟩ := e
  have h := List.length_pos_iff.mpr (TL.numL_ne i.natAbs)
  cases w with
  | add => show 2 ≤ ((if i < 0 then [45] else [43]) ++ TL.numL i.natAbs).length; split <;> simp <;> omega
  | flo => show 2 ≤ (62 :: 61 :: 32 :: il i).length; simp
  | cap => show 2 ≤ (60 :: 61 :: 32 :: il i).length; simp
theorem evS_comma (e : Ev) : 44 ∉ evS e := by
  obtain ⟨w, i⟩ := e
  intro h
  have hi : 44 ∉ il i := fun z => by have := il_signs i 44 z; omega
  cases w with
  | add =>
    have h : 44 ∈ (if i < 0 then [45] else [43]) ++ TL.numL i.natAbs := h
    rcases List.mem_append.mp h with h | h
    · split at h <;> simp at h
    · have := TL.numL_digits _ 44 h; omega
  | flo =>
    have h : 44 ∈ 62 :: 61 :: 32 :: il i := h
    simp at h
    exact hi h
  | cap =>
    have h : 44 ∈ 60 :: 61 :: 32 :: il i := h
    simp at h
    exact hi h
theorem cs_len : (", " : Str).length = 2 := by decide +kernel
theorem tru_tup {xs : List PV} : truP (.tup xs) = some (!xs.isEmpty) := rfl
theorem tru_lst {xs : List PV} : truP (.lst xs) = some (!xs.isEmpty) := rfl
end BL

set_option exponentiation.threshold 3000
namespace BL
open PySem PySem.Spec PyProof.Rows L2
/-! pieces, cut and joined -/
abbrev pcs (ps : List (List Nat)) : List PV := ps.map fun l => .str (mkS l)
def hd44 (c : Nat) : List Nat → Bool
  | [] => true
  | d :: _ => !(decide (c = 44) && decide (d = 32))
/-- no separator within -/
def sepF : List Nat → Bool
  | [] => true
  | c :: r => hd44 c r && sepF r
theorem pre_no {c d : Nat} {q : List Nat} (h : (!(decide (c = 44) && decide (d = 32))) = true) : TL.pre [44, 32] (c :: d :: q) = false := by
  show ((c :: d :: q).take 2 == [44, 32]) = false
  cases hb : ((c :: d :: q).take 2 == [44, 32]) with
  | false => rfl
  | true =>
    have e := eq_of_beq hb
    simp at e
    rw [e.1, e.2] at h
    cases h
theorem sep_pre : ∀ {p : List Nat} (q : List Nat), sepF p = true → ∀ i, i < p.length → TL.pre [44, 32] ((p ++ 44 :: q).drop i) = false
  | [], _, _, i, hi => by simp at hi
  | c :: r, q, h, i, hi => by
    have h : (hd44 c r && sepF r) = true := h
    rw [Bool.and_eq_true] at h
    obtain ⟨hc, hr⟩ := h
    cases i with
    | zero =>
      cases r with
      | nil => exact pre_no (c := c) (d := 44) (q := q) (by simp)
      | cons d r => exact pre_no (q := r ++ 44 :: q) hc
    | succ i =>
      show TL.pre [44, 32] ((r ++ 44 :: q).drop i) = false
      exact sep_pre q hr i (by simpa using hi)
theorem sep_end : ∀ {p : List Nat}, sepF p = true → ∀ i, i < p.length → TL.pre [44, 32] (p.drop i) = false
  | [], _, i, hi => by simp at hi
  | c :: r, h, i, hi => by
    have h : (hd44 c r && sepF r) = true := h
    rw [Bool.and_eq_true] at h
    obtain ⟨hc, hr⟩ := h
    cases i with
    | zero =>
      cases r with
      | nil =>
        show ([c] == [44, 32]) = false
        cases hb : ([c] == [44, 32]) with
        | false => rfl
        | true => have e := eq_of_beq hb; simp at e
      | cons d r => exact pre_no (q := r) hc
    | succ i => exact sep_end hr i (by simpa using hi)
theorem spl_sep : ∀ {parts : List (List Nat)}, parts ≠ [] → (∀ p ∈ parts, sepF p = true) → TL.spl [44, 32] 0 [] (TL.joinL [44, 32] parts) = parts
  | [], h, _ => absurd rfl h
  | [p], _, hp => by
    show TL.spl [44, 32] 0 [] p = [p]
    rw [TL.spl_last (sep_end (hp p (List.mem_singleton.mpr rfl))), List.nil_append]
  | p :: q :: r, _, hp => by
    show TL.spl [44, 32] 0 [] (p ++ ([44, 32] ++ TL.joinL [44, 32] (q :: r))) = p :: q :: r
    rw [TL.spl_part (by simp) (fun i hi => sep_pre _ (hp p List.mem_cons_self) i hi), List.nil_append, spl_sep (by simp) fun z hz => hp z (List.mem_cons_of_mem _ hz)]
theorem split_sep {ps : List (List Nat)} (hn : ps ≠ []) (h : ∀ p ∈ ps, sepF p = true) : Txt.split (Txt.join ", " (ps.map mkS)) ", " = ps.map mkS := by
  refine TL.map_tl_inj ?_
  have ey : TL.tl (", " : Str) = [44, 32] := by decide +kernel
  have em : (ps.map mkS).map TL.tl = ps := by
    rw [List.map_map]
    exact (List.map_congr_left fun l _ => rfl).trans (List.map_id ps)
  rw [TL.split_spl _ (", " : Str) (by rw [ey]; simp) (TL.kind_ok (by decide +kernel)), TL.join_eq, TL.tl_join, ey, em, spl_sep hn h]
theorem join_two {p q : List Nat} {r : List (List Nat)} : Txt.join ", " ((p :: q :: r).map mkS) ≠ "-" := fun e => by
  have ey : TL.tl (", " : Str) = [44, 32] := by decide +kernel
  have e2 := congrArg TL.tl e
  rw [TL.join_eq, TL.tl_join, ey] at e2
  have e3 := congrArg List.length e2
  have : (TL.tl ("-" : Str)).length = 1 := by decide +kernel
  rw [this] at e3
  show False
  have l : (TL.joinL [44, 32] ((p :: q :: r).map mkS |>.map TL.tl)).length ≥ 2 := by
    show (TL.tl (mkS p) ++ ([44, 32] ++ TL.joinL [44, 32] (((q :: r).map mkS).map TL.tl))).length ≥ 2
    rw [List.length_append, List.length_append]
    simp
    omega
  omega
theorem join_dash {ps : List (List Nat)} (hn : ps ≠ []) (h : ps ≠ [[45]]) : Txt.join ", " (ps.map mkS) ≠ "-" := by
  cases ps with
  | nil => exact absurd rfl hn
  | cons p r =>
    cases r with
    | nil =>
      intro e
      have e1 : Txt.join ", " ([p].map mkS) = mkS p := by rw [TL.join_eq]; rfl
      rw [e1] at e
      have : p = [45] := mk_inj.mp (e.trans (by decide +kernel : ("-" : Str) = mkS [45]))
      exact h (by rw [this])
    | cons q r => exact join_two
theorem strs_pcs (ps : List (List Nat)) : strsP (pcs ps) = some (ps.map mkS) := by
  induction ps with
  | nil => rfl
  | cons l ps ih =>
    show (match strsP (pcs ps) with | some ys => some (mkS l :: ys) | none => none) = _
    rw [ih]
    rfl
theorem sum_len : ∀ {ps : List (List Nat)}, (∀ l ∈ ps, l.length ≤ 300) → ((ps.map mkS).map (·.length)).sum ≤ 300 * ps.length
  | [], _ => Nat.le_refl _
  | l :: ps, h => by
    have a := h l List.mem_cons_self
    have b := sum_len fun q hq => h q (List.mem_cons_of_mem _ hq)
    simp only [List.map_cons, List.sum_cons, List.length_cons, mk_len] at b ⊢
    omega
theorem fj_pcs {ps : List (List Nat)} (h : ∀ l ∈ ps, l.length ≤ 300) (l : ps.length ≤ 100) (S : List PV) : fJoin S (.str ", ") (.lst (pcs ps)) = some (.str (Txt.join ", " (ps.map mkS))) := by
  unfold fJoin
  simp only [strs_pcs]
  refine if_pos ?_
  have := sum_len h
  show ((ps.map mkS).map (·.length)).sum + (ps.map mkS).length * (", " : Str).length ≤ 16777216
  rw [cs_len, List.length_map]
  omega
theorem jn_len : ∀ {ps : List (List Nat)}, (∀ l ∈ ps, l.length ≤ 300) → (Str.join ", " (ps.map mkS)).length ≤ 302 * ps.length
  | [], _ => Nat.le_refl 0
  | [q], h => by
    have a := h q List.mem_cons_self
    show (mkS q).length ≤ _
    rw [mk_len]
    simp
    omega
  | q :: r :: ps, h => by
    have a := h q List.mem_cons_self
    have b := jn_len (ps := r :: ps) fun l hl => h l (List.mem_cons_of_mem _ hl)
    show ((mkS q ++ (", " : Str)) ++ Str.join ", " ((r :: ps).map mkS)).length ≤ _
    rw [strLen_append, strLen_append, cs_len, mk_len]
    simp only [List.length_cons] at b ⊢
    omega
/-! a row read: the first wrong piece -/
def lbadE : Nat → List (List Nat) → Option Nat
  | _, [] => none
  | k, l :: r => if (evV l).isNone = true then some k else lbadE (k + 1) r
theorem ev_asg {l : List Nat} (hl : l.length ≤ 600) {v0 v1 v2 v4 : SlV} (S : List PV) : mAsg (.nm 4) (mCall m_event_in (mCons (mVar 3) mNil)) [v0, v1, v2, .val (.str (mkS l)), v4] S = some (.nx [v0, v1, v2, .val (.str (mkS l)), .val (evO (evV l))] S) :=
  s_asg (v_call (v_cons (v_var rfl) v_nil) (evi_ok l hl S)) rfl rfl
theorem ev_tst {o : Option Ev} {v0 v1 v2 v3 : SlV} {S : List PV} : mTru (mOp fIs (mVar 4) (mC .non)) [v0, v1, v2, v3, .val (evO o)] S = some (o.isNone, S) := by
  cases o with
  | none => exact t_tru (v_op (v_var rfl) v_c is_non)
  | some e => exact t_tru (v_op (v_var rfl) v_c rfl)
theorem put23 {v0 v1 v2 v3 v4 : SlV} {x y : PV} : (Tg.tp [2, 3]).put (.tup [x, y]) [v0, v1, v2, v3, v4] = some [v0, v1, .val x, .val y, v4] := p_tup (p_cons rfl rfl (p_cons rfl rfl p_nil))
theorem rloop02 (v0 : SlV) (S : List PV) : ∀ (ps : List (List Nat)) (k : Nat) (acc : List PV) (v2 v3 v4 : SlV), (∀ l ∈ ps, l.length ≤ 600) → acc.length + ps.length ≤ 1000 →
    frL (.tp [2, 3]) m_row_inF1 r_row_inF (enuP (k : Int) (pcs ps)) [v0, .own (.lst acc), v2, v3, v4] S = (lbadE k ps).map fun (j : Nat) => ([PV.int (j : Int)], S)
  | [], k, acc, v2, v3, v4, _, _ => rfl
  | l :: ps, k, acc, v2, v3, v4, h, la => by
    simp only [List.length_cons] at la
    have hl := h l List.mem_cons_self
    have t := ev_tst (o := evV l) (v0 := v0) (v1 := .own (.lst acc)) (v2 := .val (.int k)) (v3 := .val (.str (mkS l))) (S := S)
    show frL _ _ _ (.tup [.int k, .str (mkS l)] :: enuP ((k : Int) + 1) (pcs ps)) _ S = _
    unfold frL
    rw [put23]
    cases hb : evV l with
    | none =>
      have rb : r_row_inF [v0, .own (.lst acc), .val (.int k), .val (.str (mkS l)), v4] S = some ([.int k], S) := by
        rw [hb] at t
        refine rSeq_nx (ev_asg hl S) ?_
        rw [hb]
        exact rIf_t t rfl
      simp only [rb]
      show _ = (if (evV l).isNone = true then some k else lbadE (k + 1) ps).map _
      rw [hb]
      rfl
    | some e =>
      have rb : r_row_inF [v0, .own (.lst acc), .val (.int k), .val (.str (mkS l)), v4] S = none := by
        rw [hb] at t
        refine rSeq_nx (ev_asg hl S) ?_
        rw [hb]
        exact rIf_f t rfl
      have pf : m_row_inF1 [v0, .own (.lst acc), .val (.int k), .val (.str (mkS l)), v4] S = some (.nx [v0, .own (.lst (acc ++ [evP e])), .val (.int k), .val (.str (mkS l)), .val (evP e)] S) := by
        have as := ev_asg hl (v0 := v0) (v1 := .own (.lst acc)) (v2 := .val (.int k)) (v4 := v4) S
        rw [hb] at t as
        exact s_seq as (s_seq (s_if_f t s_skip) (s_app (v_var rfl) rfl (by omega) rfl))
      simp only [rb, pf]
      have ih := rloop02 v0 S ps (k + 1) (acc ++ [evP e]) (.val (.int k)) (.val (.str (mkS l))) (.val (evP e)) (fun x hx => h x (List.mem_cons_of_mem _ hx)) (by rw [List.length_append]; simp; omega)
      rw [show ((k + 1 : Nat) : Int) = (k : Int) + 1 by omega] at ih
      rw [ih]
      show _ = (if (evV l).isNone = true then some k else lbadE (k + 1) ps).map _
      rw [hb]
      rfl
theorem rrow02 {ps : List (List Nat)} (hn : ps ≠ []) (hd : ps ≠ [[45]]) (hs : ∀ p ∈ ps, sepF p = true) (hl : ∀ l ∈ ps, l.length ≤ 300) (n : ps.length ≤ 100) (S : List PV) :
    r_row_in [.str (Txt.join ", " (ps.map mkS))] S = (lbadE 0 ps).map fun (j : Nat) => ([PV.int (j : Int)], S) := by
  have jl : (Txt.join ", " (ps.map mkS)).length ≤ 302 * ps.length := by rw [TL.join_eq]; exact jn_len hl
  have sp := split_sep hn hs
  have jd := join_dash hn hd
  generalize Txt.join ", " (ps.map mkS) = x at *
  have e0 : fEq S (.str x) (.str "-") = some (.bl false) := by
    show some (PV.bl (decide (x = ("-" : Str)))) = _
    rw [decide_eq_false jd]
  have es : fSplit S (.str x) (.str ", ") = some (.lst (pcs ps)) := by
    show (if ((", " : Str).length == 0) = false ∧ x.length + 2 ≤ 100000 then some (PV.lst ((Txt.split x ", ").map .str)) else none) = _
    rw [if_pos ⟨by rw [cs_len]; rfl, by omega⟩, sp, List.map_map]
    rfl
  have rl := rloop02 (.val (.str x)) S ps 0 [] .un .un .un (fun l h => by have := hl l h; omega) (by simp; omega)
  unfold r_row_in mDefR r_row_inB
  refine (if_pos rfl).trans ?_
  refine rSeq_nx (ρ1 := [.val (.str x), .un, .un, .un, .un]) (S1 := S) (s_if_f (t_tru (v_op (v_var rfl) v_c e0)) s_skip) ?_
  refine rSeq_nx (ρ1 := [.val (.str x), .own (.lst []), .un, .un, .un]) (S1 := S) (s_newO v_nil (le_lit rfl) rfl rfl) ?_
  unfold mRFor
  rw [i_enu (v_op (v_var rfl) v_c es)]
  exact rl
theorem heard02 {ps : List (List Nat)} (hn : ps ≠ []) (hd : ps ≠ [[45]]) (hs : ∀ p ∈ ps, sepF p = true) (hl : ∀ l ∈ ps, l.length ≤ 300) (n : ps.length ≤ 100) {j : Nat} (hj : lbadE 0 ps = some j) (S : List PV) :
    m_law_heard [.str (Txt.join ", " (ps.map mkS))] S = some (.lst [.int (j : Int)], S) := by
  have e := rrow02 hn hd hs hl n S
  rw [hj] at e
  generalize Txt.join ", " (ps.map mkS) = x at *
  refine d_rt rfl rfl (s_seq (ρ1 := [.val (.str x), .val .non, .val .non, .un]) (S1 := S) (s_asgT (v_tup (v_cons v_c (v_cons v_c v_nil)) (le_lit rfl)) (p_tup (p_cons rfl rfl (p_cons rfl rfl p_nil)))) ?_)
  refine s_seq (ρ1 := [.val (.str x), .val (.dic (excK "BadText" ["place"] [.int (j : Int)])), .val .non, .un]) (S1 := S) ?_ ?_
  · have em : mRCall r_row_in (mCons (mVar 0) mNil) [.val (.str x), .val .non, .val .non, .un] S = some ([.int (j : Int)], S) := by
      unfold mRCall
      rw [v_cons (v_var rfl) v_nil]
      exact e
    rw [mTryO_r em]
    unfold mTryK
    rw [em]
    rfl
  · exact s_ret (v_ifE_f (t_tru (v_op (v_var rfl) v_c rfl)) (v_lst (v_cons (by rw [e_xa, v_var rfl]; rfl) v_nil) (le_lit rfl)))
end BL

set_option exponentiation.threshold 3000
namespace BL
open PySem PySem.Spec PyProof.Rows L2
/-! pieces bent -/
theorem sepF_of : ∀ {l : List Nat}, 44 ∉ l → sepF l = true
  | [], _ => rfl
  | c :: r, h => by
    have hc : c ≠ 44 := fun e => h (e ▸ List.mem_cons_self)
    have hr := sepF_of (l := r) fun m => h (List.mem_cons_of_mem _ m)
    show (hd44 c r && sepF r) = true
    rw [hr, Bool.and_true]
    cases r with
    | nil => rfl
    | cons d r => show (!(decide (c = 44) && decide (d = 32))) = true; rw [decide_eq_false hc]; rfl
theorem sepF_snoc {c : Nat} : ∀ {l : List Nat}, 44 ∉ l → sepF (l ++ [c]) = true
  | [], _ => rfl
  | a :: r, h => by
    have ha : a ≠ 44 := fun e => h (e ▸ List.mem_cons_self)
    have hr := sepF_snoc (c := c) (l := r) fun m => h (List.mem_cons_of_mem _ m)
    show (hd44 a (r ++ [c]) && sepF (r ++ [c])) = true
    rw [hr, Bool.and_true]
    cases hq : r ++ [c] with
    | nil => rfl
    | cons d q => show (!(decide (a = 44) && decide (d = 32))) = true; rw [decide_eq_false ha]; rfl
theorem digV_nd {l q : List Nat} {c : Nat} (h : isDig c = false) : digV (l ++ c :: q) = none := by
  unfold digV
  refine if_neg fun z => ?_
  have := z.1
  rw [List.all_append, List.all_cons, h] at this
  simp at this
theorem numV_nd {i : Int} {q : List Nat} {c : Nat} (h : isDig c = false) : numV (il i ++ c :: q) = none := by
  unfold il
  by_cases n : i < 0
  · rw [if_pos n]
    show numV (45 :: (TL.numL i.natAbs ++ c :: q)) = none
    show (match digV (TL.numL i.natAbs ++ c :: q) with | some n => if n = 0 then none else some (-(n : Int)) | none => none) = none
    rw [digV_nd h]
  · rw [if_neg n]
    show numV (TL.numL i.natAbs ++ c :: q) = none
    rw [numV_nn, digV_nd h]
    · rfl
    · have hne := TL.numL_ne i.natAbs
      cases e : TL.numL i.natAbs with
      | nil => exact absurd e hne
      | cons d r =>
        have := TL.numL_digits i.natAbs d (by rw [e]; exact List.mem_cons_self)
        simp
        omega
theorem evS_add (i : Int) : evS (.add, i) = (if i < 0 then 45 else 43) :: TL.numL i.natAbs := by
  show (if i < 0 then [45] else [43]) ++ TL.numL i.natAbs = _
  split <;> rfl
theorem ev45 (r : List Nat) (h : digV r = none) : evV (45 :: r) = none := by
  show (numV (45 :: r)).map _ = none
  show (match digV r with | some n => if n = 0 then none else some (-(n : Int)) | none => none).map _ = none
  rw [h]
  rfl
theorem ev43 (r : List Nat) (h : digV r = none) : evV (43 :: r) = none := by
  show (digV r).map (fun n => (EW.add, (n : Int))) = none
  rw [h]
  rfl
theorem evV_nd (e : Ev) {q : List Nat} {c : Nat} (h : isDig c = false) : evV (evS e ++ c :: q) = none := by
  obtain ⟨w, i⟩ := e
  cases w with
  | add =>
    rw [evS_add]
    split
    · exact ev45 _ (digV_nd h)
    · exact ev43 _ (digV_nd h)
  | flo => show (numV (il i ++ c :: q)).map _ = none; rw [numV_nd h]; rfl
  | cap => show (numV (il i ++ c :: q)).map _ = none; rw [numV_nd h]; rfl
theorem evV_dig {c : Nat} {r : List Nat} (h1 : 48 ≤ c) (h2 : c ≤ 57) : evV (c :: r) = none := by
  have k : c = 48 ∨ c = 49 ∨ c = 50 ∨ c = 51 ∨ c = 52 ∨ c = 53 ∨ c = 54 ∨ c = 55 ∨ c = 56 ∨ c = 57 := by omega
  rcases k with rfl | rfl | rfl | rfl | rfl | rfl | rfl | rfl | rfl | rfl <;> rfl
def smL (l : List Nat) : Bool := l.all fun c => decide (c < 1000)
theorem smL_app (p q : List Nat) : smL (p ++ q) = (smL p && smL q) := List.all_append
theorem smL_of {l : List Nat} (h : ∀ c ∈ l, c < 1000) : smL l = true := List.all_eq_true.mpr fun c hc => decide_eq_true (h c hc)
theorem smL_mem {l : List Nat} (h : smL l = true) : ∀ c ∈ l, c < 1000 := fun c hc => of_decide_eq_true (List.all_eq_true.mp h c hc)
theorem il_sm (i : Int) : ∀ c ∈ il i, c < 1000 := fun c hc => by have := il_signs i c hc; omega
theorem evS_sm (e : Ev) : smL (evS e) = true := smL_of fun c hc => by
  obtain ⟨w, i⟩ := e
  cases w with
  | add =>
    rw [evS_add] at hc
    rcases List.mem_cons.mp hc with h | h
    · rw [h]; split <;> decide
    · have := TL.numL_digits _ c h; omega
  | flo =>
    have hc : c ∈ 62 :: 61 :: 32 :: il i := hc
    simp only [List.mem_cons] at hc
    rcases hc with h | h | h | h
    · omega
    · omega
    · omega
    · exact il_sm i c h
  | cap =>
    have hc : c ∈ 60 :: 61 :: 32 :: il i := hc
    simp only [List.mem_cons] at hc
    rcases hc with h | h | h | h
    · omega
    · omega
    · omega
    · exact il_sm i c h
/-- a bent piece -/
structure Bent (l : List Nat) : Prop where
  bad : evV l = none
  sep : sepF l = true
  len : l.length ≤ 300
  sm : smL l = true
theorem evS_len {e : Ev} (h : e.2.natAbs ≤ 100) : (evS e).length ≤ 50 := by
  have := evT_len (e := e) (by omega)
  rw [evT_mk] at this
  exact this
theorem mk_sp : (" " : Str) = mkS [32] := by decide +kernel
theorem mk_pl : ("+" : Str) = mkS [43] := by decide +kernel
theorem mk_0 : ("0" : Str) = mkS [48] := by decide +kernel
theorem addS {p q : List Nat} (h : p.length + q.length ≤ 1000) (S : List PV) : fAdd S (.str (mkS p)) (.str (mkS q)) = some (.str (mkS (p ++ q))) := by
  rw [← mk_app]
  exact add_s (by rw [mk_len, mk_len]; exact h) S
theorem of2 {S : List PV} {n : Nat} {z : Int} (h : BoxAt S n z) (hz : z ≤ 900000000) : ∃ (c : Nat) (S' : List PV), m_law_of [.mref n, .lst [.str "x", .str "-", .str ".", .str ";", .str ","]] S = some (.str (mkS [c]), S') ∧ isDig c = false ∧ c < 1000 ∧ BoxAt S' n (z + 1) := by
  obtain ⟨i, v, S', e, hv, hB⟩ := of_ok (xs := [.str "x", .str "-", .str ".", .str ";", .str ","]) h (by omega) (by simp) (by simp)
  rcases i with _ | _ | _ | _ | _ | i <;> simp at hv <;> subst hv
  · exact ⟨120, S', e.trans (congrArg (fun t => some (PV.str t, S')) (by decide +kernel)), rfl, by decide, hB⟩
  · exact ⟨45, S', e.trans (congrArg (fun t => some (PV.str t, S')) (by decide +kernel)), rfl, by decide, hB⟩
  · exact ⟨46, S', e.trans (congrArg (fun t => some (PV.str t, S')) (by decide +kernel)), rfl, by decide, hB⟩
  · exact ⟨59, S', e.trans (congrArg (fun t => some (PV.str t, S')) (by decide +kernel)), rfl, by decide, hB⟩
  · exact ⟨44, S', e.trans (congrArg (fun t => some (PV.str t, S')) (by decide +kernel)), rfl, by decide, hB⟩
theorem of3 {S : List PV} {n : Nat} {z : Int} (h : BoxAt S n z) (hz : z ≤ 900000000) : ∃ (l : List Nat) (S' : List PV), m_law_of [.mref n, .lst [.str "", .str "-", .str "+", .str ">=", .str "7", .str ">=7", .str "-0", .str "+07", .str ">= -0"]] S = some (.str (mkS l), S') ∧ Bent l ∧ BoxAt S' n (z + 1) := by
  obtain ⟨i, v, S', e, hv, hB⟩ := of_ok (xs := [.str "", .str "-", .str "+", .str ">=", .str "7", .str ">=7", .str "-0", .str "+07", .str ">= -0"]) h (by omega) (by simp) (by simp)
  rcases i with _ | _ | _ | _ | _ | _ | _ | _ | _ | i <;> simp at hv <;> subst hv
  · exact ⟨[], S', e.trans (congrArg (fun t => some (PV.str t, S')) (by decide +kernel)), ⟨by decide, by decide, by decide, by decide⟩, hB⟩
  · exact ⟨[45], S', e.trans (congrArg (fun t => some (PV.str t, S')) (by decide +kernel)), ⟨by decide, by decide, by decide, by decide⟩, hB⟩
  · exact ⟨[43], S', e.trans (congrArg (fun t => some (PV.str t, S')) (by decide +kernel)), ⟨by decide, by decide, by decide, by decide⟩, hB⟩
  · exact ⟨[62, 61], S', e.trans (congrArg (fun t => some (PV.str t, S')) (by decide +kernel)), ⟨by decide, by decide, by decide, by decide⟩, hB⟩
  · exact ⟨[55], S', e.trans (congrArg (fun t => some (PV.str t, S')) (by decide +kernel)), ⟨by decide, by decide, by decide, by decide⟩, hB⟩
  · exact ⟨[62, 61, 55], S', e.trans (congrArg (fun t => some (PV.str t, S')) (by decide +kernel)), ⟨by decide, by decide, by decide, by decide⟩, hB⟩
  · exact ⟨[45, 48], S', e.trans (congrArg (fun t => some (PV.str t, S')) (by decide +kernel)), ⟨by decide, by decide, by decide, by decide⟩, hB⟩
  · exact ⟨[43, 48, 55], S', e.trans (congrArg (fun t => some (PV.str t, S')) (by decide +kernel)), ⟨by decide, by decide, by decide, by decide⟩, hB⟩
  · exact ⟨[62, 61, 32, 45, 48], S', e.trans (congrArg (fun t => some (PV.str t, S')) (by decide +kernel)), ⟨by decide, by decide, by decide, by decide⟩, hB⟩
/-- the first sign of a piece -/
def s0 (e : Ev) : Nat := match e.1 with
  | .add => if e.2 < 0 then 45 else 43
  | .flo => 62
  | .cap => 60
def tlS (e : Ev) : List Nat := match e.1 with
  | .add => TL.numL e.2.natAbs
  | .flo => 61 :: 32 :: il e.2
  | .cap => 61 :: 32 :: il e.2
theorem evS_ht (e : Ev) : evS e = s0 e :: tlS e := by
  obtain ⟨w, i⟩ := e
  cases w
  · exact evS_add i
  · rfl
  · rfl
theorem ix0S (e : Ev) (hl : (evS e).length ≤ 50) (S : List PV) : fIxS S (.str (mkS (evS e))) (.int 0) = some (.str ⟨#[s0 e]⟩) := by
  show (if (mkS (evS e)).length ≤ 100000 then (match atI (mkS (evS e)).cps.toList 0 with | some c => some (PV.str ⟨#[c]⟩) | none => none) else none) = _
  rw [if_pos (by rw [mk_len]; omega)]
  rw [show atI (mkS (evS e)).cps.toList 0 = some (s0 e) by rw [evS_ht]; unfold atI ixN; simp]
theorem in3 (c : Nat) (S : List PV) : fInS S (.str ⟨#[c]⟩) (.str "+<>") = some (.bl (decide (c = 43 ∨ c = 60 ∨ c = 62))) := by
  show some (PV.bl (decide (c ∈ ("+<>" : Str).cps.toList))) = _
  rw [show ("+<>" : Str).cps.toList = [43, 60, 62] by decide +kernel]
  simp
theorem inSp (l : List Nat) (S : List PV) : fInS S (.str " ") (.str (mkS l)) = some (.bl (decide (32 ∈ l))) := by
  show (match (" " : Str).cps.toList with | [c] => some (PV.bl (decide (c ∈ l))) | _ => none) = _
  rw [show (" " : Str).cps.toList = [32] by decide +kernel]
theorem il_32 (i : Int) : 32 ∉ il i := fun h => by have := il_signs i 32 h; omega
theorem tlS_32 (e : Ev) : decide (32 ∈ evS e) = decide (e.1 ≠ .add) := by
  obtain ⟨w, i⟩ := e
  cases w with
  | add =>
    rw [evS_add]
    refine (decide_eq_false fun h => ?_).trans (decide_eq_false fun h => h rfl).symm
    rcases List.mem_cons.mp h with h | h
    · split at h <;> cases h
    · have := TL.numL_digits _ 32 h; omega
  | flo => exact (decide_eq_true (by show 32 ∈ 62 :: 61 :: 32 :: il i; simp)).trans (decide_eq_true (fun z => by cases z)).symm
  | cap => exact (decide_eq_true (by show 32 ∈ 60 :: 61 :: 32 :: il i; simp)).trans (decide_eq_true (fun z => by cases z)).symm
def dblS (e : Ev) : List Nat := s0 e :: 61 :: 32 :: 32 :: il e.2
theorem repl_ok {e : Ev} (h : e.1 ≠ .add) (hl : (evS e).length ≤ 50) (S : List PV) : fRepl " " "  " S (.str (mkS (evS e))) = some (.str (mkS (dblS e))) := by
  have ed : (Txt.replace (mkS (evS e)) " " "  ").cps.toList = dblS e := by
    rw [show (" " : Str) = ⟨#[32]⟩ by decide +kernel, show ("  " : Str) = ⟨#[32, 32]⟩ by decide +kernel, StrLaws.replace_double]
    obtain ⟨w, i⟩ := e
    cases w with
    | add => exact absurd rfl h
    | flo =>
      show StrLaws.dbl 32 (62 :: 61 :: 32 :: il i) = 62 :: 61 :: 32 :: 32 :: il i
      simp [StrLaws.dbl, StrLaws.dbl_free 32 _ (il_32 i)]
    | cap =>
      show StrLaws.dbl 32 (60 :: 61 :: 32 :: il i) = 60 :: 61 :: 32 :: 32 :: il i
      simp [StrLaws.dbl, StrLaws.dbl_free 32 _ (il_32 i)]
  show (if (mkS (evS e)).length ≤ 1000 ∧ ("  " : Str).length ≤ 1000 then some (PV.str (Txt.replace (mkS (evS e)) " " "  ")) else none) = _
  rw [if_pos ⟨by rw [mk_len]; omega, by decide +kernel⟩, mk_ext ed]
end BL

set_option exponentiation.threshold 5000
namespace BL
open PySem PySem.Spec PyProof.Rows L2
/-! draws -/
theorem ev_ok {S : List PV} {n : Nat} {z : Int} (h : BoxAt S n z) (hz : z ≤ 800000000) : ∃ (e : Ev) (S' : List PV), m_law_event [.mref n, .int 30] S = some (evP e, S') ∧ e.2.natAbs ≤ 30 ∧ BoxAt S' n (z + 2) := by
  obtain ⟨w, S1, e1, h1⟩ := word_ok h (by omega)
  obtain ⟨m, S2, e2, m0, m1, h2⟩ := take_ok (m := 61) h1 (by omega) (by decide) (by decide)
  refine ⟨(w, m - 30), S2, ?_, by show (m - 30).natAbs ≤ 30; omega, h2.le (by omega)⟩
  simp [m_law_event, e_def, m_law_eventB, cst, e1, e2, evP]
theorem evs_of {P : Ev → Prop} : ∀ {ys : List PV}, (∀ y ∈ ys, ∃ e : Ev, y = evP e ∧ P e) → ∃ r : List Ev, ys = r.map evP ∧ r.length = ys.length ∧ ∀ e ∈ r, P e
  | [], _ => ⟨[], rfl, rfl, fun e h => by cases h⟩
  | y :: ys, h => by
    obtain ⟨r, e, l, k⟩ := evs_of (ys := ys) fun z hz => h z (List.mem_cons_of_mem _ hz)
    obtain ⟨d, rfl, hd⟩ := h y List.mem_cons_self
    exact ⟨d :: r, by rw [e]; rfl, by simp [l], fun x hx => by
      rcases List.mem_cons.mp hx with rfl | hx
      · exact hd
      · exact k x hx⟩
theorem row_ok {S : List PV} {n : Nat} {z : Int} (h : BoxAt S n z) (hz : z ≤ 700000000) : ∃ (r : List Ev) (S' : List PV), m_law_row [.mref n, .int 6, .int 30] S = some (rowP r, S') ∧ r.length ≤ 6 ∧ (∀ e ∈ r, e.2.natAbs ≤ 30) ∧ BoxAt S' n (z + 20) := by
  have size : ∃ (k : Int) (S' : List PV), mIfE (mTru (mOp fEq (mCall m_law_take (mCons (mVar 0) (mCons (mC (.int 4)) mNil))) (mC (.int 0)))) (mCall m_law_take (mCons (mVar 0) (mCons (mOp fAdd (mVar 1) (mC (.int 1))) mNil))) (mOp fAdd (mC (.int 1)) (mCall m_law_take (mCons (mVar 0) (mCons (mVar 1) mNil)))) [.val (.mref n), .val (.int 6), .val (.int 30), .un, .un] S = some (.int k, S') ∧ 0 ≤ k ∧ k ≤ 6 ∧ BoxAt S' n (z + 2) := by
    obtain ⟨a, S1, e1, a0, a1, h1⟩ := take_ok (m := 4) h (by omega) (by decide) (by decide)
    by_cases c : a = 0
    · obtain ⟨b, S2, e2, b0, b1, h2⟩ := take_ok (m := 7) h1 (by omega) (by decide) (by decide)
      refine ⟨b, S2, ?_, b0, by omega, h2.le (by omega)⟩
      generalize m_law_take = f at e1 e2 ⊢
      simp [e1, c, e2]
    · obtain ⟨b, S2, e2, b0, b1, h2⟩ := take_ok (m := 6) h1 (by omega) (by decide) (by decide)
      refine ⟨1 + b, S2, ?_, by omega, by omega, h2.le (by omega)⟩
      generalize m_law_take = f at e1 e2 ⊢
      simp [e1, c, e2]
  obtain ⟨k, S1, e1, k0, k1, h1⟩ := size
  obtain ⟨ys, S2, e2, hy, hq, h2⟩ := lcL_inv (t := .nm 4) (mt := mYes) (me := mCall m_law_event (mCons (mVar 0) (mCons (mVar 2) mNil))) (ρ := [.val (.mref n), .val (.int 6), .val (.int 30), .val (.int k), .un]) (fun j T => BoxAt T n (z + 2 + 2 * j)) (fun y => ∃ e : Ev, y = evP e ∧ e.2.natAbs ≤ 30) (xs := rngP 0 k.toNat) (k := 0) (S := S1) (fun x hx j T hj hT => by
    obtain ⟨e, T', ee, he, hT'⟩ := ev_ok hT (by rw [rngP_len] at hj; omega)
    refine ⟨[.val (.mref n), .val (.int 6), .val (.int 30), .val (.int k), .val x], evP e, T', by simp, rfl, ?_, ⟨e, rfl, he⟩, hT'.le (by omega)⟩
    generalize m_law_event = f at ee ⊢
    simp [ee]) (h1.le (by omega))
  rw [rngP_len] at hy h2
  obtain ⟨r, rfl, lr, hr⟩ := evs_of hq
  have ll : (r.map evP).length ≤ 100000 := by rw [List.length_map]; omega
  refine ⟨r, S2, ?_, by omega, hr, h2.le (by omega)⟩
  exact d_rt rfl rfl (s_seq (s_asg e1 rfl rfl) (s_ret (v_fn (v_cons (v_lc (i_rng1 (v_var rfl) ⟨by omega, by omega⟩) rfl e2 ll) v_nil) rfl)))
theorem no44 {e : Ev} : 44 ∉ evS e := evS_comma e
theorem il44 (i : Int) : 44 ∉ il i := fun h => by have := il_signs i 44 h; omega
theorem ht_sm (e : Ev) : smL [s0 e] = true ∧ smL (tlS e) = true := by
  have h := evS_sm e
  rw [evS_ht, show s0 e :: tlS e = [s0 e] ++ tlS e from rfl, smL_app, Bool.and_eq_true] at h
  exact h
theorem s0_sm (e : Ev) : smL [s0 e] = true := (ht_sm e).1
theorem tlS_sm (e : Ev) : smL (tlS e) = true := (ht_sm e).2
theorem dbl_sm (e : Ev) : smL (dblS e) = true := by
  show smL ([s0 e] ++ ([61, 32, 32] ++ il e.2)) = true
  rw [smL_app, smL_app, s0_sm, smL_of (il_sm e.2)]
  rfl
theorem no44c {c : Nat} (hc : c ≠ 44) {l : List Nat} (h : 44 ∉ l) : 44 ∉ [c] ++ l := fun m => by
  rcases List.mem_cons.mp m with m | m
  · exact hc m.symm
  · exact h m
theorem bent_ok {S : List PV} {n : Nat} {z : Int} (h : BoxAt S n z) (hz : z ≤ 800000000) {e : Ev} (he : e.2.natAbs ≤ 100) : ∃ (l : List Nat) (S' : List PV), m_law_bent [.mref n, .str (mkS (evS e))] S = some (.str (mkS l), S') ∧ Bent l ∧ BoxAt S' n (z + 2) := by
  have hl := evS_len he
  obtain ⟨k, S1, e1, k0, k1, h1⟩ := take_ok (m := 7) h (by omega) (by decide) (by decide)
  have hB : BoxAt S1 n (z + 2) := h1.le (by omega)
  have st : ∀ {o : Ou} {r : MS}, r [.val (.mref n), .val (.str (mkS (evS e))), .val (.int k)] S1 = some o → mSeq (mAsg (.nm 2) (mCall m_law_take (mCons (mVar 0) (mCons (mC (.int 7)) mNil)))) r [.val (.mref n), .val (.str (mkS (evS e))), .un] S = some o := fun hr => s_seq (s_asg (v_call (v_cons (v_var rfl) (v_cons v_c v_nil)) e1) rfl rfl) hr
  have no : ∀ {j : Int} {o : Ou} {ms r : MS}, k ≠ j → r [.val (.mref n), .val (.str (mkS (evS e))), .val (.int k)] S1 = some o → mSeq (mIf (mTru (mOp fEq (mVar 2) (mC (.int j)))) ms mSkip) r [.val (.mref n), .val (.str (mkS (evS e))), .val (.int k)] S1 = some o := fun hj hr => s_seq (s_if_f (t_tru (v_op (v_var rfl) v_c (eq_f hj))) s_skip) hr
  have ys : ∀ {j : Int} {o : Ou} {ms r : MS}, k = j → (∃ x T, o = .rt x T) → ms [.val (.mref n), .val (.str (mkS (evS e))), .val (.int k)] S1 = some o → mSeq (mIf (mTru (mOp fEq (mVar 2) (mC (.int j)))) ms mSkip) r [.val (.mref n), .val (.str (mkS (evS e))), .val (.int k)] S1 = some o := fun hj ⟨x, T, ho⟩ hr => by
    subst ho
    exact s_seq_rt (s_if_t (t_tru (v_op (v_var rfl) v_c (eq_t hj))) hr)
  have hk : k = 0 ∨ k = 1 ∨ k = 2 ∨ k = 3 ∨ k = 4 ∨ k = 5 ∨ k = 6 := by omega
  have p1 : mSlS (mVar 1) (mP1 (mC (.int 1))) mP0 [.val (.mref n), .val (.str (mkS (evS e))), .val (.int k)] S1 = some (.str (mkS ((evS e).drop 1)), S1) := sl1 1 rfl (by have := evS_len2 e; omega) (by omega)
  have dr : (evS e).drop 1 = tlS e := by rw [evS_ht]; rfl
  rw [dr] at p1
  have c32 : mC (.str " ") [.val (.mref n), .val (.str (mkS (evS e))), .val (.int k)] S1 = some (.str (mkS [32]), S1) := by rw [← mk_sp]; rfl
  have c43 : ∀ T, mC (.str "+") [.val (.mref n), .val (.str (mkS (evS e))), .val (.int k)] T = some (.str (mkS [43]), T) := fun T => by rw [← mk_pl]; rfl
  have c48 : mC (.str "0") [.val (.mref n), .val (.str (mkS (evS e))), .val (.int k)] S1 = some (.str (mkS [48]), S1) := by rw [← mk_0]; rfl
  rcases hk with hk | hk | hk | hk | hk | hk | hk
  · refine ⟨evS e ++ [32], S1, d_rt rfl rfl (st (ys hk ⟨_, _, rfl⟩ (s_ret (v_op (v_var rfl) c32 (addS (by simp; omega) S1))))), ⟨evV_nd e rfl, sepF_snoc no44, by rw [List.length_append]; simp; omega, by rw [smL_app, evS_sm]; decide⟩, hB⟩
  · refine ⟨[32] ++ evS e, S1, d_rt rfl rfl (st (no (by omega) (ys hk ⟨_, _, rfl⟩ (s_ret (v_op c32 (v_var rfl) (addS (by simp; omega) S1)))))), ⟨rfl, sepF_of (no44c (by decide) no44), by rw [List.length_append]; simp; omega, by rw [smL_app, evS_sm]; decide⟩, hB⟩
  · obtain ⟨c, S2, e2, hc, hc2, h2⟩ := of2 h1 (by omega)
    refine ⟨evS e ++ [c], S2, d_rt rfl rfl (st (no (by omega) (no (by omega) (ys hk ⟨_, _, rfl⟩ (s_ret (v_op (v_var rfl) (v_call (v_cons (v_var rfl) (v_cons (v_lst (v_cons v_c (v_cons v_c (v_cons v_c (v_cons v_c (v_cons v_c v_nil))))) (le_lit rfl)) v_nil)) e2) (addS (by simp; omega) S2))))))), ⟨evV_nd e hc, sepF_snoc no44, by rw [List.length_append]; simp; omega, by rw [smL_app, evS_sm]; exact smL_of (l := [c]) fun d hd => by rw [List.mem_singleton.mp hd]; exact hc2⟩, h2.le (by omega)⟩
  · obtain ⟨l, S2, e2, hb, h2⟩ := of3 h1 (by omega)
    refine ⟨l, S2, d_rt rfl rfl (st (no (by omega) (no (by omega) (no (by omega) (ys hk ⟨_, _, rfl⟩ (s_ret (v_call (v_cons (v_var rfl) (v_cons (v_lst (v_cons v_c (v_cons v_c (v_cons v_c (v_cons v_c (v_cons v_c (v_cons v_c (v_cons v_c (v_cons v_c (v_cons v_c v_nil))))))))) (le_lit rfl)) v_nil)) e2))))))), hb, h2.le (by omega)⟩
  · have ix := ix0S e hl S1
    have i3 := in3 (s0 e) S1
    by_cases c : s0 e = 43 ∨ s0 e = 60 ∨ s0 e = 62
    · rw [decide_eq_true c] at i3
      refine ⟨tlS e, S1, d_rt rfl rfl (st (no (by omega) (no (by omega) (no (by omega) (no (by omega) (ys hk ⟨_, _, rfl⟩ (s_ret (v_ifE_t (t_tru (v_op (v_op (v_var rfl) v_c ix) v_c i3)) p1)))))))), ⟨?_, sepF_of (fun m => no44 (e := e) (by rw [evS_ht]; exact List.mem_cons_of_mem _ m)), by have := congrArg List.length (evS_ht e); simp at this; omega, tlS_sm e⟩, hB⟩
      obtain ⟨w, i⟩ := e
      cases w with
      | add =>
        show evV (TL.numL i.natAbs) = none
        have hne := TL.numL_ne i.natAbs
        cases q : TL.numL i.natAbs with
        | nil => exact absurd q hne
        | cons d r =>
          have := TL.numL_digits i.natAbs d (by rw [q]; exact List.mem_cons_self)
          exact evV_dig (by omega) (by omega)
      | flo => rfl
      | cap => rfl
    · rw [decide_eq_false c] at i3
      refine ⟨[43] ++ evS e, S1, d_rt rfl rfl (st (no (by omega) (no (by omega) (no (by omega) (no (by omega) (ys hk ⟨_, _, rfl⟩ (s_ret (v_ifE_f (t_tru (v_op (v_op (v_var rfl) v_c ix) v_c i3)) (v_op (c43 S1) (v_var rfl) (addS (by simp; omega) S1)))))))))), ⟨?_, sepF_of (no44c (by decide) no44), by rw [List.length_append]; simp; omega, by rw [smL_app, evS_sm]; decide⟩, hB⟩
      show evV (43 :: evS e) = none
      rw [evS_ht]
      have : s0 e = 45 := by
        obtain ⟨w, i⟩ := e
        cases w with
        | add => show (if i < 0 then 45 else 43) = 45; by_cases n : i < 0; · rw [if_pos n]
                 · exact absurd (.inl (show (if i < 0 then 45 else 43) = 43 from if_neg n)) c
        | flo => exact absurd (.inr (.inr rfl)) c
        | cap => exact absurd (.inr (.inl rfl)) c
      rw [this]
      exact ev43 _ (digV_nd (l := []) rfl)
  · have sp := inSp (evS e) S1
    rw [tlS_32] at sp
    by_cases c : e.1 = .add
    · rw [decide_eq_false (by simpa using c)] at sp
      have ix := ix0S e hl S1
      have a1 : fAdd S1 (.str ⟨#[s0 e]⟩) (.str (mkS [48])) = some (.str (mkS ([s0 e] ++ [48]))) := addS (p := [s0 e]) (q := [48]) (by simp) S1
      have lt : (tlS e).length ≤ 50 := by have := congrArg List.length (evS_ht e); simp at this; omega
      have a2 : fAdd S1 (.str (mkS ([s0 e] ++ [48]))) (.str (mkS (tlS e))) = some (.str (mkS ([s0 e] ++ [48] ++ tlS e))) := addS (by simp; omega) S1
      refine ⟨[s0 e] ++ [48] ++ tlS e, S1, d_rt rfl rfl (st (no (by omega) (no (by omega) (no (by omega) (no (by omega) (no (by omega) (ys hk ⟨_, _, rfl⟩ (s_ret (v_ifE_f (t_tru (v_op v_c (v_var rfl) sp)) (v_op (v_op (v_op (v_var rfl) v_c ix) c48 a1) p1 a2)))))))))), ⟨?_, sepF_of (fun m => ?_), by simp; omega, by rw [smL_app, smL_app, tlS_sm]; exact (Bool.and_true _).trans (by rw [show smL [48] = true by decide, Bool.and_true]; exact s0_sm e)⟩, hB⟩
      · obtain ⟨w, i⟩ := e
        cases w with
        | add =>
          have hd : digV (48 :: TL.numL i.natAbs) = none := by
            unfold digV
            refine if_neg fun z => ?_
            rcases z.2.2 with y | y
            · have hne := TL.numL_ne i.natAbs
              exact hne (List.cons.inj y).2
            · exact y rfl
          show evV ((if i < 0 then 45 else 43) :: 48 :: TL.numL i.natAbs) = none
          split
          · exact ev45 _ hd
          · exact ev43 _ hd
        | flo => cases c
        | cap => cases c
      · have m : 44 ∈ s0 e :: 48 :: tlS e := m
        rcases List.mem_cons.mp m with m | m
        · exact no44 (e := e) (by rw [evS_ht, ← m]; exact List.mem_cons_self)
        · rcases List.mem_cons.mp m with m | m
          · cases m
          · exact no44 (e := e) (by rw [evS_ht]; exact List.mem_cons_of_mem _ m)
    · rw [decide_eq_true (by simpa using c)] at sp
      refine ⟨dblS e, S1, d_rt rfl rfl (st (no (by omega) (no (by omega) (no (by omega) (no (by omega) (no (by omega) (ys hk ⟨_, _, rfl⟩ (s_ret (v_ifE_t (t_tru (v_op v_c (v_var rfl) sp)) (v_un (v_var rfl) (repl_ok c hl S1))))))))))), ⟨?_, sepF_of (fun m => ?_), ?_, dbl_sm e⟩, hB⟩
      · obtain ⟨w, i⟩ := e
        have nn : numV (32 :: il i) = none := by
          have d0 : digV (32 :: il i) = none := digV_nd (l := []) (q := il i) (c := 32) rfl
          rw [numV_nn (by simp), d0]
          rfl
        cases w with
        | add => exact absurd rfl c
        | flo => show (numV (32 :: il i)).map (fun n => ((EW.flo, n) : Ev)) = none; rw [nn]; rfl
        | cap => show (numV (32 :: il i)).map (fun n => ((EW.cap, n) : Ev)) = none; rw [nn]; rfl
      · have m : 44 ∈ s0 e :: 61 :: 32 :: 32 :: il e.2 := m
        simp only [List.mem_cons] at m
        rcases m with m | m | m | m | m
        · exact no44 (e := e) (by rw [evS_ht, ← m]; exact List.mem_cons_self)
        · cases m
        · cases m
        · cases m
        · exact il44 _ m
      · show (s0 e :: 61 :: 32 :: 32 :: il e.2).length ≤ 300
        have := il_len (i := e.2) (by omega)
        simp
        omega
  · have a1 : fAdd S1 (.str (mkS (evS e))) (.str (mkS [43])) = some (.str (mkS (evS e ++ [43]))) := addS (by simp; omega) S1
    have a2 : fAdd S1 (.str (mkS (evS e ++ [43]))) (.str (mkS (evS e))) = some (.str (mkS (evS e ++ [43] ++ evS e))) := addS (by simp; omega) S1
    refine ⟨evS e ++ [43] ++ evS e, S1, d_rt rfl rfl (st (no (by omega) (no (by omega) (no (by omega) (no (by omega) (no (by omega) (no (by omega) (s_ret (v_op (v_op (v_var rfl) (c43 S1) a1) (v_var rfl) a2))))))))), ⟨?_, sepF_of (fun m => ?_), by simp; omega, by rw [smL_app, smL_app, evS_sm]; decide⟩, hB⟩
    · rw [List.append_assoc]
      exact evV_nd e rfl
    · rcases List.mem_append.mp m with m | m
      · rcases List.mem_append.mp m with m | m
        · exact no44 m
        · cases List.mem_singleton.mp m
      · exact no44 m
/-- so many of the spots -/
theorem pick02 {S : List PV} {n m c : Nat} {z : Int} (h : BoxAt S n z) (hz : z ≤ 800000000) (hm : m ≤ 100) (hc : c ≤ 100) : ∃ (T : List Int) (S' : List PV), m_law_pick [.mref n, .lst ((rngI 0 m).map .int), .int c] S = some (.lst (T.map .int), S') ∧ T.length = min c m ∧ T.Nodup ∧ (∀ i ∈ T, 0 ≤ i ∧ i < m) ∧ BoxAt S' n (z + 100) := by
  have lm := rng_len m 0
  obtain ⟨ρ', S', e, ⟨P, F, w, rfl, pp, lF⟩, hB⟩ := forL_invN (t := .nm 5) (mb := m_law_pickF1) (fun j ρ T => (∃ (P F : List Int) (w : SlV), ρ = [.val (.mref n), .val (.lst ((rngI 0 m).map .int)), .val (.int c), .own (.lst (P.map .int)), .own (.lst (F.map .int)), w] ∧ (F ++ P).Perm (rngI 0 m) ∧ F.length = j) ∧ BoxAt T n (z + j)) (xs := rngP 0 (min c m)) (k := 0) (ρ := [.val (.mref n), .val (.lst ((rngI 0 m).map .int)), .val (.int c), .own (.lst ((rngI 0 m).map .int)), .own (.lst []), .un]) (S := S) (fun x hx j ρ T hj hp => by
    obtain ⟨⟨P, F, w, rfl, pp, lF⟩, hB⟩ := hp
    rw [rngP_len] at hj
    have lP : F.length + P.length = m := by
      have := pp.length_eq
      rw [List.length_append, lm] at this
      exact this
    obtain ⟨r, T', e, r0, r1, hB'⟩ := take_ok (m := ((P.map PV.int).length : Int)) hB (by omega) (by rw [List.length_map]; omega) (by rw [List.length_map]; omega)
    obtain ⟨q, rfl⟩ := Int.eq_ofNat_of_zero_le r0
    rw [List.length_map] at r1
    have hq : q < P.length := by omega
    refine ⟨_, [.val (.mref n), .val (.lst ((rngI 0 m).map .int)), .val (.int c), .own (.lst ((P.eraseIdx q).map .int)), .own (.lst ((F ++ [P[q]]).map .int)), .val x], T', p_nm rfl rfl, ?_, ⟨P.eraseIdx q, F ++ [P[q]], _, rfl, ?_, by simp [lF]⟩, hB'.le (by omega)⟩
    · exact s_appPop (v_call (v_cons (v_var rfl) (v_cons (v_lenO rfl) v_nil)) e) rfl rfl (by decide) (by omega) hq (by omega) rfl
    · rw [List.append_assoc, List.singleton_append]
      refine ((List.Perm.append_left F ?_).trans pp)
      exact erase_perm hq) ⟨⟨rngI 0 m, [], .un, rfl, .refl _, rfl⟩, h.le (by omega)⟩
  rw [rngP_len] at hB lF
  refine ⟨F, S', ?_, by omega, ?_, fun i hi => ?_, hB.le (by omega)⟩
  · have mn : fMin2 S [.int (c : Int), .int ((rngI 0 m).map PV.int).length] = some (.int ((min c m : Nat) : Int)) := by
      rw [List.length_map, lm]
      exact min2_ok c m
    unfold m_law_pick m_law_pickB
    refine d_rt rfl rfl (s_seq (ρ1 := [.val (.mref n), .val (.lst ((rngI 0 m).map .int)), .val (.int c), .own (.lst ((rngI 0 m).map .int)), .own (.lst []), .un]) rfl ?_)
    refine s_seq (s_for (i_rng1 (v_fn (v_cons (v_fn (v_cons (v_var rfl) v_nil) (fq_intI _)) (v_cons (v_lenO rfl) v_nil)) mn) (by omega)) (by rw [Int.toNat_natCast]; exact e)) ?_
    exact s_frz rfl rfl (s_ret (v_var rfl))
  · have : (F ++ P).Nodup := pp.nodup_iff.mpr (rng_nd m 0)
    exact (List.nodup_append.mp this).1
  · have := rng_lo (pp.mem_iff.mp (List.mem_append_left _ hi))
    omega
end BL

namespace BL
open PySem PySem.Spec PyProof.Rows L2
theorem hand02S (S : List PV) : m_law_by_hand_right [] S = some (.bl true, S) := by kernel_rfl
theorem hand02 : m_law_by_hand_right [] [] = some (.bl true, []) := hand02S []
end BL

set_option exponentiation.threshold 5000
namespace BL
open PySem PySem.Spec PyProof.Rows L2
/-! a turn -/
theorem s_putO {i j : Nat} {mi ma : ME} {ρ ρ1 : List SlV} {S S1 S2 xs : List PV} {y : PV} {k : Int} (h1 : ma ρ S = some (y, S1)) (h2 : mi ρ S1 = some (.int k, S2)) (h : ρ[i]? = some (.own (.lst xs))) (h3 : ixP xs.length k = some j) (hw : ρ.set i (.own (.lst (xs.set j y))) = ρ1) : mPutO i mi ma ρ S = some (.nx ρ1 S2) := by
  unfold mPutO
  rw [h1]
  simp only [h2]
  rw [h]
  simp only [h3]
  rw [hw]
theorem lbad_at : ∀ {ps : List (List Nat)} {k j : Nat}, (∀ i, i < j → ∃ l, ps[i]? = some l ∧ (evV l).isNone = false) → (∃ l, ps[j]? = some l ∧ evV l = none) → lbadE k ps = some (k + j)
  | [], k, j, _, h => by obtain ⟨l, h, _⟩ := h; simp at h
  | p :: ps, k, 0, _, h => by
    obtain ⟨l, h1, h2⟩ := h
    have : p = l := by simpa using h1
    show (if (evV p).isNone = true then some k else lbadE (k + 1) ps) = _
    rw [this, h2]
    rfl
  | p :: ps, k, j + 1, g, h => by
    obtain ⟨l, h1, h2⟩ := g 0 (by omega)
    have e : p = l := by simpa using h1
    show (if (evV p).isNone = true then some k else lbadE (k + 1) ps) = _
    rw [e, h2]
    have ih := lbad_at (ps := ps) (k := k + 1) (j := j) (fun i hi => by simpa using g (i + 1) (by omega)) (by simpa using h)
    rw [show k + 1 + j = k + (j + 1) by omega] at ih
    exact ih
theorem sm_ok {l : List Nat} (h : smL l = true) : PyData.canLay0 (.str (mkS l)) = true := by
  show PySem.PyData.strOk (mkS l) = true
  unfold PySem.PyData.strOk
  show l.toArray.all (fun c => decide (c < 0x110000)) = true
  rw [List.all_toArray]
  exact List.all_eq_true.mpr fun c hc => decide_eq_true (by have := smL_mem h c hc; omega)
theorem pl_pcs {ps : List (List Nat)} (h : ∀ l ∈ ps, smL l = true) : (PV.lst (pcs ps)).pl 60 = true ∧ (PV.lst (pcs ps)).nb = true := by
  refine ⟨plL_all fun x hx => ?_, nbL_all fun x hx => ?_⟩ <;> obtain ⟨l, hl, rfl⟩ := List.mem_map.mp hx
  · exact sm_ok (h l hl)
  · rfl
theorem pcs_inj : ∀ {ps qs : List (List Nat)}, pcs ps = pcs qs → ps = qs
  | [], [], _ => rfl
  | [], _ :: _, h => by cases h
  | _ :: _, [], h => by cases h
  | p :: ps, q :: qs, h => by
    simp only [pcs, List.map_cons, List.cons.injEq, PV.str.injEq] at h
    rw [mk_inj.mp h.1, pcs_inj h.2]
theorem ne_pcs {ps : List (List Nat)} (h : ∀ l ∈ ps, smL l = true) (S : List PV) : fNe S (.lst (pcs ps)) (.lst [.str "-"]) = some (.bl (!decide (ps = [[45]]))) := by
  have e : (PV.lst [.str "-"]) = .lst (pcs [[45]]) := by
    show PV.lst [.str "-"] = .lst [.str (mkS [45])]
    rw [show ("-" : Str) = mkS [45] by decide +kernel]
  rw [e]
  have k : ∀ l ∈ [[45]], smL l = true := fun l hl => by rw [List.mem_singleton.mp hl]; decide
  by_cases c : ps = [[45]]
  · rw [c, fne_refl (pl_pcs k).1]
    rfl
  · rw [fne_t (pl_pcs h).1 (pl_pcs k).1 (pl_pcs h).2 (pl_pcs k).2 (fun z => c (pcs_inj (PV.lst.inj z)))]
    rw [decide_eq_false c]
    rfl
theorem ne_row02 (r : List Ev) (S : List PV) : fNe S (rowP r) (.tup []) = some (.bl (!decide (r = []))) := by
  cases r with
  | nil => exact fne_refl rfl S
  | cons a r =>
    rw [decide_eq_false (by simp)]
    exact fne_t (x := rowP (a :: r)) (pl_row 58 _).1 rfl (nb_row _).1 rfl (by simp [rowP]) S
abbrev R02 (n : Nat) (v1 : SlV) (r : List Ev) (v3 v4 v5 v6 : SlV) : List SlV := [.val (.mref n), v1, .val (rowP r), v3, v4, v5, v6]
/-- what stands in the pieces behind so many spots -/
def Pcs (r : List Ev) (d : List Int) (ps : List (List Nat)) : Prop := ps.length = r.length ∧ ∀ i (h : i < r.length), ((i : Int) ∈ d → ∃ l, ps[i]? = some l ∧ Bent l) ∧ ((i : Int) ∉ d → ps[i]? = some (evS r[i]))
theorem pcs_loop {r : List Ev} (lr : r.length ≤ 6) (hr : ∀ e ∈ r, e.2.natAbs ≤ 30) {T : List Int} (hn : T.Nodup) (hT : ∀ i ∈ T, 0 ≤ i ∧ i < r.length) (lT : T.length ≤ 100) {S : List PV} {n : Nat} {z : Int} (h : BoxAt S n z) (hz : z ≤ 700000000) (v1 v4 v5 v6 : SlV) :
    ∃ ps w5 S', forL (.nm 5) m_law_rightF1 (T.map .int) (R02 n v1 r (.own (.lst (pcs (r.map evS)))) v4 v5 v6) S = some (.nx (R02 n v1 r (.own (.lst (pcs ps))) v4 w5 v6) S') ∧ Pcs r T ps ∧ BoxAt S' n (z + 2 * T.length) := by
  obtain ⟨ρ', S', e, ps, w5, rfl, hp, hB⟩ := for_hist (t := .nm 5) (mb := m_law_rightF1) PV.int T (fun d ρ S => ∃ ps w5, ρ = R02 n v1 r (.own (.lst (pcs ps))) v4 w5 v6 ∧ Pcs r d ps ∧ BoxAt S n (z + 2 * d.length)) (fun d a q ρ S eT hP => by
    obtain ⟨ps, w5, rfl, ⟨lp, hp⟩, hB⟩ := hP
    have ha : a ∈ T := by rw [eT]; simp
    obtain ⟨a0, a1⟩ := hT a ha
    obtain ⟨j, rfl⟩ : ∃ j : Nat, a = (j : Int) := ⟨a.toNat, by omega⟩
    have hj : j < r.length := by omega
    have nd : (j : Int) ∉ d := fun m => by
      rw [eT] at hn
      exact (List.nodup_append.mp hn).2.2 _ m _ List.mem_cons_self rfl
    have hg := (hp j hj).2 nd
    have ld : d.length ≤ 100 := by have := congrArg List.length eT; simp at this; omega
    have hej := hr r[j] (List.getElem_mem hj)
    obtain ⟨l, S1, e1, hb, h1⟩ := bent_ok hB (by omega) (e := r[j]) (by omega)
    have hx : (pcs ps)[j]? = some (.str (mkS (evS r[j]))) := by rw [List.getElem?_map, hg]; rfl
    have lpc : (pcs ps).length = r.length := by rw [List.length_map]; exact lp
    refine ⟨_, R02 n v1 r (.own (.lst (pcs (ps.set j l)))) v4 (.val (.int (j : Int))) v6, S1, p_nm rfl rfl, ?_, ps.set j l, _, rfl, ⟨by rw [List.length_set]; exact lp, fun i hi => ⟨fun m => ?_, fun m => ?_⟩⟩, h1.le (by simp; omega)⟩
    · refine s_putO (v_call (v_cons (v_var rfl) (v_cons (v_ixO (v_var rfl) rfl (by rw [lpc]; exact ixP_nat hj) hx) v_nil)) e1) (v_var rfl) rfl (by rw [lpc]; exact ixP_nat hj) ?_
      show [_, _, _, SlV.own (.lst ((pcs ps).set j (.str (mkS l)))), _, _, _] = _
      rw [show (pcs ps).set j (.str (mkS l)) = pcs (ps.set j l) from (List.map_set).symm]
    · by_cases c : i = j
      · subst c
        exact ⟨l, by rw [List.getElem?_set_self (by omega)], hb⟩
      · rw [List.getElem?_set_ne (by omega)]
        rcases List.mem_append.mp m with m | m
        · exact (hp i hi).1 m
        · exact absurd (by have := List.mem_singleton.mp m; omega) c
    · have c : ¬ i = j := fun z => m (by rw [z]; simp)
      rw [List.getElem?_set_ne (by omega)]
      exact (hp i hi).2 fun z => m (List.mem_append_left _ z)) T [] _ S rfl ⟨r.map evS, v5, rfl, ⟨by simp, fun i hi => ⟨fun m => by (cases m), fun _ => by rw [List.getElem?_map, List.getElem?_eq_getElem hi]; rfl⟩⟩, h.le (by simp)⟩
  exact ⟨ps, w5, S', e, hp, hB⟩
theorem pcs_all {r : List Ev} (hr : ∀ e ∈ r, e.2.natAbs ≤ 30) {T : List Int} {ps : List (List Nat)} (h : Pcs r T ps) : ∀ l ∈ ps, sepF l = true ∧ l.length ≤ 300 ∧ smL l = true := fun l hl => by
  obtain ⟨i, hi, e⟩ := List.getElem_of_mem hl
  have hi2 : i < r.length := by rw [← h.1]; exact hi
  have g : ps[i]? = some l := by rw [List.getElem?_eq_getElem hi, e]
  by_cases c : (i : Int) ∈ T
  · obtain ⟨l', e1, hb⟩ := (h.2 i hi2).1 c
    rw [g] at e1
    cases e1
    exact ⟨hb.sep, hb.len, hb.sm⟩
  · have e1 := (h.2 i hi2).2 c
    rw [g] at e1
    cases e1
    have := hr r[i] (List.getElem_mem hi2)
    exact ⟨sepF_of no44, by have := evS_len (e := r[i]) (by omega); omega, evS_sm _⟩
theorem pcs_bad {r : List Ev} {t : Int} {T : List Int} {ps : List (List Nat)} (h : Pcs r (t :: T) ps) (asc : (t :: T).Pairwise (· ≤ ·)) (t0 : 0 ≤ t) (t1 : t < r.length) : ∃ j : Nat, t = (j : Int) ∧ lbadE 0 ps = some j := by
  obtain ⟨j, rfl⟩ : ∃ j : Nat, t = (j : Int) := ⟨t.toNat, by omega⟩
  refine ⟨j, rfl, ?_⟩
  have := lbad_at (ps := ps) (k := 0) (j := j) (fun i hi => ?_) ?_
  · rw [Nat.zero_add] at this; exact this
  · have hi2 : i < r.length := by omega
    have no : (i : Int) ∉ (j : Int) :: T := fun m => by
      rcases List.mem_cons.mp m with m | m
      · omega
      · have := (List.pairwise_cons.mp asc).1 _ m
        omega
    exact ⟨_, (h.2 i hi2).2 no, by rw [evV_evS]; rfl⟩
  · obtain ⟨l, e1, hb⟩ := (h.2 j (by omega)).1 List.mem_cons_self
    exact ⟨l, e1, hb.bad⟩
theorem turn02 {S : List PV} {n : Nat} {z : Int} (h : BoxAt S n z) (hz : z ≤ 500000000) (v1 v2 v3 v4 v5 : SlV) :
    ∃ w2 w3 w4 w5 S', m_law_rightF2 [.val (.mref n), v1, v2, v3, v4, v5, .un] S = some (.nx [.val (.mref n), v1, w2, w3, w4, w5, .un] S') ∧ BoxAt S' n (z + 1000) := by
  obtain ⟨r, S1, e1, lr, hr, h1⟩ := row_ok h (by omega)
  have nr := ne_row02 r S1
  have a0 : mAsg (.nm 2) (mCall m_law_row (mCons (mVar 0) (mCons (mC (.int 6)) (mCons (mC (.int 30)) mNil)))) [.val (.mref n), v1, v2, v3, v4, v5, .un] S = some (.nx (R02 n v1 r v3 v4 v5 .un) S1) := s_asg (v_call (v_cons (v_var rfl) (v_cons v_c (v_cons v_c v_nil))) e1) rfl rfl
  by_cases c : r = []
  · rw [decide_eq_true c] at nr
    exact ⟨_, _, _, _, S1, s_seq a0 (s_if_f (t_tru (v_op (v_var rfl) (v_tup v_nil (le_lit rfl)) nr)) s_skip), h1.le (by omega)⟩
  · rw [decide_eq_false c] at nr
    have l0 : 0 < r.length := List.length_pos_iff.mpr c
    have lc : lcL (.nm 6) mYes (mCall m_law_pair_text (mCons (mVar 6) mNil)) (R02 n v1 r v3 v4 v5 .un) (r.map evP) S1 = some (pcs (r.map evS), S1) := by
      rw [show pcs (r.map evS) = r.map (fun e => PV.str (mkS (evS e))) by unfold pcs; rw [List.map_map]; rfl]
      refine lc_all evP (fun e => PV.str (mkS (evS e))) fun e he => ⟨_, p_nm rfl rfl, v_call (v_cons (v_var rfl) v_nil) ?_⟩
      rw [← evT_mk]
      exact pt_ok (by have := hr e he; omega) S1
    have lpc : (pcs (r.map evS)).length = r.length := by rw [List.length_map, List.length_map]
    obtain ⟨a, S2, e2, a0', a1, h2⟩ := take_ok (m := 2) h1 (by omega) (by decide) (by decide)
    obtain ⟨q, rfl⟩ : ∃ q : Nat, a = (q : Int) := ⟨a.toNat, by omega⟩
    obtain ⟨T, S3, e3, lT, nT, bT, h3⟩ := pick02 (m := r.length) (c := 1 + q) h2 (by omega) (by omega) (by omega)
    have pT := srtL_perm T
    have aT := srtL_asc T
    have nT' : (srtL T).Nodup := pT.nodup_iff.mpr nT
    have bT' : ∀ i ∈ srtL T, 0 ≤ i ∧ i < r.length := fun i hi => bT i (pT.mem_iff.mp hi)
    have lT' : (srtL T).length = min (1 + q) r.length := by rw [pT.length_eq, lT]
    have fs : fSorted S3 [.lst (T.map .int)] = some (.lst ((srtL T).map .int)) := f_sorted T
    obtain ⟨t, T', eT⟩ : ∃ t T', srtL T = t :: T' := by
      cases q : srtL T with
      | nil => rw [q] at lT'; simp at lT'; omega
      | cons t T' => exact ⟨t, T', rfl⟩
    rw [eT] at aT nT' bT' lT' fs
    obtain ⟨ps, w5, S4, e4, hp, h4⟩ := pcs_loop lr hr nT' bT' (by omega) h3 (by omega) v1 (.val (.lst ((t :: T').map .int))) v5 .un
    obtain ⟨j, et, hb⟩ := pcs_bad hp aT (bT' t List.mem_cons_self).1 (bT' t List.mem_cons_self).2
    have al := pcs_all hr hp
    have np : ps ≠ [] := fun z => by have := hp.1; rw [z] at this; simp at this; omega
    have ne := ne_pcs (fun l hl => (al l hl).2.2) S4
    have rg : mLrg1 (mLenO 3) (R02 n v1 r (.own (.lst (pcs (r.map evS)))) v4 v5 .un) S1 = some (.lst ((rngI 0 r.length).map .int), S1) := by
      have := v_lrg1 (ρ := R02 n v1 r (.own (.lst (pcs (r.map evS)))) v4 v5 .un) (S := S1) (ma := mLenO 3) (t := (r.length : Int)) ((v_lenO rfl).trans (by rw [lpc])) (okRg_nat (by omega))
      rw [Int.sub_zero, Int.toNat_natCast, rngP_int] at this
      exact this
    have ad : fAdd S2 (.int 1) (.int (q : Int)) = some (.int ((1 + q : Nat) : Int)) := by
      rw [f_addI]
      congr 2
    have ix : fIx S4 (.lst ((t :: T').map .int)) (.int 0) = some (.int (j : Int)) := by rw [et]; exact ix_0 rfl
    have last : mFrz 3 (mIf (mAndT (mTru (mOp fNe (mVar 3) (mLst (mCons (mC (.str "-")) mNil)))) (mNotT (mTru (mFn (fSame 3) (mCons (mCall m_law_heard (mCons (mOp fJoin (mC (.str ", ")) (mVar 3)) mNil)) (mCons (mLst (mCons (mOp fIx (mVar 4) (mC (.int 0))) mNil)) mNil)))))) (mRet (mC (.bl false))) mSkip) (R02 n v1 r (.own (.lst (pcs ps))) (.val (.lst ((t :: T').map .int))) w5 .un) S4 = some (.nx (R02 n v1 r (.val (.lst (pcs ps))) (.val (.lst ((t :: T').map .int))) w5 .un) S4) := by
      refine s_frz (ρ1 := R02 n v1 r (.val (.lst (pcs ps))) (.val (.lst ((t :: T').map .int))) w5 .un) rfl rfl ?_
      by_cases d : ps = [[45]]
      · rw [decide_eq_true d] at ne
        exact s_if_f (t_and_f (t_tru (v_op (v_var rfl) (v_lst (v_cons v_c v_nil) (le_lit rfl)) ne))) s_skip
      · rw [decide_eq_false d] at ne
        have hd := heard02 np d (fun p hp => (al p hp).1) (fun p hp => (al p hp).2.1) (by rw [hp.1]; omega) hb S4
        have fj := fj_pcs (ps := ps) (fun p hp => (al p hp).2.1) (by rw [hp.1]; omega) S4
        have sm : fSame 3 S4 [.lst [.int (j : Int)], .lst [.int (j : Int)]] = some (.bl true) := by simp [fSame, PV.same, sameL, PV.deep, deepL]
        exact s_if_f (t_and_t (t_tru (v_op (v_var rfl) (v_lst (v_cons v_c v_nil) (le_lit rfl)) ne)) (t_not_f (t_tru (v_fn (v_cons (v_call (v_cons (v_op v_c (v_var rfl) fj) v_nil) hd) (v_cons (v_lst (v_cons (v_op (v_var rfl) v_c ix) v_nil) (le_lit rfl)) v_nil)) sm)))) s_skip
    refine ⟨.val (rowP r), .val (.lst (pcs ps)), .val (.lst ((t :: T').map .int)), w5, S4, ?_, h4.le (by omega)⟩
    refine s_seq a0 (s_if_t (t_tru (v_op (v_var rfl) (v_tup v_nil (le_lit rfl)) nr)) ?_)
    refine s_seq (s_newLc (i_seqT (v_var rfl)) rfl lc (by rw [lpc]; omega) rfl rfl) ?_
    refine s_seq (s_asg (v_fn (v_cons (v_call (v_cons (v_var rfl) (v_cons rg (v_cons (v_op v_c (v_call (v_cons (v_var rfl) (v_cons v_c v_nil)) e2) ad) v_nil))) e3) v_nil) fs) rfl rfl) ?_
    exact s_seq (s_for (i_seqL (v_var rfl)) e4) last
theorem right02 (S : List PV) (n : Nat) (h : BoxAt S n 0) : ∃ S', m_law_right [.mref n] S = some (.bl true, S') := by
  have hh := hand02S S
  obtain ⟨ρ', S1, eT, ⟨⟨w1, w2, w3, w4, w5, eρ⟩, h1⟩⟩ := forL_invN (t := .nm 1) (mb := m_law_rightF2) (fun j ρ T => ((∃ w1 w2 w3 w4 w5, ρ = [.val (.mref n), w1, w2, w3, w4, w5, .un]) ∧ BoxAt T n (1000 * j))) (xs := rngP 0 4) (k := 0) (ρ := [.val (.mref n), .un, .un, .un, .un, .un, .un]) (S := S) (fun y hy j ρ T hj hp => by
    obtain ⟨⟨w1, w2, w3, w4, w5, rfl⟩, hB⟩ := hp
    rw [rngP_len] at hj
    obtain ⟨u2, u3, u4, u5, S', e, hB'⟩ := turn02 hB (by omega) (.val y) w2 w3 w4 w5
    exact ⟨_, _, S', p_nm rfl rfl, e, ⟨_, _, _, _, _, rfl⟩, hB'.le (by omega)⟩) ⟨⟨_, _, _, _, _, rfl⟩, h.le (by omega)⟩
  exact ⟨S1, d_rt rfl rfl (s_seq (s_if_f (t_not_f (t_tru (v_call v_nil hh))) s_skip) (s_seq (s_for (i_rng1 v_c (by decide)) eT) (s_ret v_c)))⟩
end BL

namespace BL
open PySem PySem.Spec PyProof.Rows L2
open C8 (Cal Mak pe_c pe_mk)
def topS (i : Nat) : Stmt := PySem.Challenge.pw_boundedlevels_k02_wrong_texts_of_rows.main.body.getD i (.Pass ⟨0, 0, 0, 0⟩)
abbrev s_digits_in : Stmt := topS 5
abbrev n_digits_in : List Str := ["text", "sign"]
theorem sc_digits_in : FnScope n_digits_in ["text"] (defScope s_digits_in) := ⟨rfl, rfl, rfl, by decide +kernel, rfl, by decide +kernel, by decide +kernel⟩
abbrev s_number_in : Stmt := topS 6
abbrev n_number_in : List Str := ["text", "number"]
theorem sc_number_in : FnScope n_number_in ["text"] (defScope s_number_in) := ⟨rfl, rfl, rfl, by decide +kernel, rfl, by decide +kernel, by decide +kernel⟩
abbrev s_event_in : Stmt := topS 7
abbrev n_event_in : List Str := ["text", "word", "sign", "number"]
theorem sc_event_in : FnScope n_event_in ["text"] (defScope s_event_in) := ⟨rfl, rfl, rfl, by decide +kernel, rfl, by decide +kernel, by decide +kernel⟩
abbrev s_row_in : Stmt := topS 8
abbrev n_row_in : List Str := ["text", "row", "place", "piece", "event"]
theorem sc_row_in : FnScope n_row_in ["text"] (defScope s_row_in) := ⟨rfl, rfl, rfl, by decide +kernel, rfl, by decide +kernel, by decide +kernel⟩
abbrev s_law_box : Stmt := topS 10
abbrev n_law_box : List Str := ["_law_script", "_law_k", "_law_cell"]
theorem sc_law_box : FnScope n_law_box ["_law_script", "_law_k"] (defScope s_law_box) := ⟨rfl, rfl, rfl, by decide +kernel, rfl, by decide +kernel, by decide +kernel⟩
abbrev s_law_by_hand_right : Stmt := topS 20
abbrev n_law_by_hand_right : List Str := ["_law_wrong", "_law_got", "_law_flat", "_law_at_so"]
theorem sc_law_by_hand_right : FnScope n_law_by_hand_right [] (defScope s_law_by_hand_right) := ⟨rfl, rfl, rfl, by decide +kernel, rfl, by decide +kernel, by decide +kernel⟩
abbrev s_law_take : Stmt := topS 11
abbrev n_law_take : List Str := ["_law_box_here", "_law_size_so", "_law_some", "_law_once", "_law_far", "_law_again"]
theorem sc_law_take : FnScope n_law_take ["_law_box_here", "_law_size_so"] (defScope s_law_take) := ⟨rfl, rfl, rfl, by decide +kernel, rfl, by decide +kernel, by decide +kernel⟩
abbrev s_law_of : Stmt := topS 13
abbrev n_law_of : List Str := ["_law_box_here", "_law_goods_so"]
theorem sc_law_of : FnScope n_law_of ["_law_box_here", "_law_goods_so"] (defScope s_law_of) := ⟨rfl, rfl, rfl, by decide +kernel, rfl, by decide +kernel, by decide +kernel⟩
abbrev s_law_event : Stmt := topS 16
abbrev n_law_event : List Str := ["_law_box_here", "_law_wide", "_law_word_so"]
theorem sc_law_event : FnScope n_law_event ["_law_box_here", "_law_wide"] (defScope s_law_event) := ⟨rfl, rfl, rfl, by decide +kernel, rfl, by decide +kernel, by decide +kernel⟩
abbrev s_law_row : Stmt := topS 17
abbrev n_law_row : List Str := ["_law_box_here", "_law_most_so", "_law_wide", "_law_size_so", "_law_turn"]
theorem sc_law_row : FnScope n_law_row ["_law_box_here", "_law_most_so", "_law_wide"] (defScope s_law_row) := ⟨rfl, rfl, rfl, by decide +kernel, rfl, by decide +kernel, by decide +kernel⟩
abbrev s_law_pair_text : Stmt := topS 18
abbrev n_law_pair_text : List Str := ["_law_event_so", "_law_word_so", "_law_far"]
theorem sc_law_pair_text : FnScope n_law_pair_text ["_law_event_so"] (defScope s_law_pair_text) := ⟨rfl, rfl, rfl, by decide +kernel, rfl, by decide +kernel, by decide +kernel⟩
abbrev s_law_pick : Stmt := topS 14
abbrev n_law_pick : List Str := ["_law_box_here", "_law_goods_so", "_law_count_so", "_law_pool_so", "_law_found", "_law_turn"]
theorem sc_law_pick : FnScope n_law_pick ["_law_box_here", "_law_goods_so", "_law_count_so"] (defScope s_law_pick) := ⟨rfl, rfl, rfl, by decide +kernel, rfl, by decide +kernel, by decide +kernel⟩
abbrev s_law_bent : Stmt := topS 21
abbrev n_law_bent : List Str := ["_law_box_here", "_law_piece_so", "_law_way_so"]
theorem sc_law_bent : FnScope n_law_bent ["_law_box_here", "_law_piece_so"] (defScope s_law_bent) := ⟨rfl, rfl, rfl, by decide +kernel, rfl, by decide +kernel, by decide +kernel⟩
abbrev s_law_right : Stmt := topS 22
abbrev n_law_right : List Str := ["_law_box_here", "_law_turn", "_law_row_so", "_law_pieces", "_law_spots", "_law_k", "_law_own"]
theorem sc_law_right : FnScope n_law_right ["_law_box_here"] (defScope s_law_right) := ⟨rfl, rfl, rfl, by decide +kernel, rfl, by decide +kernel, by decide +kernel⟩
abbrev s_law_same : Stmt := topS 15
abbrev n_law_same : List Str := ["_law_got", "_law_due", "_law_mine", "_law_its"]
theorem sc_law_same : FnScope n_law_same ["_law_got", "_law_due"] (defScope s_law_same) := ⟨rfl, rfl, rfl, by decide +kernel, rfl, by decide +kernel, by decide +kernel⟩
abbrev s_law_cells : Stmt := topS 12
abbrev n_law_cells : List Str := ["_law_script", "_law_top_so", "_law_cells_so", "_law_k", "_law_cell", "_law_at_so"]
theorem sc_law_cells : FnScope n_law_cells ["_law_script", "_law_top_so"] (defScope s_law_cells) := ⟨rfl, rfl, rfl, by decide +kernel, rfl, by decide +kernel, by decide +kernel⟩
abbrev s_law : Stmt := topS 23
abbrev n_law : List Str := ["_law_script", "_law_cells_here", "_law_k"]
theorem sc_law : FnScope n_law ["_law_script"] (defScope s_law) := ⟨rfl, rfl, rfl, by decide +kernel, rfl, by decide +kernel, by decide +kernel⟩
abbrev s_law_heard : Stmt := topS 19
abbrev n_law_heard : List Str := ["_law_flat", "_law_caught", "_law_told_so"]
theorem sc_law_heard : FnScope n_law_heard ["_law_flat"] (defScope s_law_heard) := ⟨rfl, rfl, rfl, by decide +kernel, rfl, by decide +kernel, by decide +kernel⟩
end BL

namespace BL
open PySem PySem.Spec PyProof.Rows L2
open C8 (Cal Mak pe_c pe_mk)
abbrev s_BadText_init : Stmt := inClass (topS 2) 0
theorem sc_BadText_init : FnScope ["self", "place"] ["self", "place"] (defScope s_BadText_init) := ⟨rfl, rfl, rfl, by decide +kernel, rfl, by decide +kernel, by decide +kernel⟩
abbrev n_law_heard4 : List Str := ["_law_flat", "_law_caught", "_law_told_so", "error_so"]
theorem sc_law_heard4 : FnScope n_law_heard4 ["_law_flat"] (defScope s_law_heard) := ⟨rfl, rfl, rfl, by decide +kernel, rfl, by decide +kernel, by decide +kernel⟩
section
variable {P : Program} {w : World} {K : PySem.W.Frag} {mg : Str → Option Value} {base : Heap} {C : Addr}
theorem ok_ei_BadText {f : Addr} {fd : FuncData} {Ce : Addr} (F : Fun K "__init__" "BadText.__init__" s_BadText_init f fd) : FnOk P w K mg base CX0 1 f fd ["self", "place"] (spEI K Ce ["place"]) := by
  refine F.ok sc_BadText_init (fun vs H Q E h => ?_) (fun cdv A outer s H vs Q E hr h => ?_)
  · obtain ⟨a, ys, rfl, l, _⟩ := h
    simpa using l
  · exact ⟨_, pss_one (ps_ost (pv 0) (pv 1)), pure_ei1 h rfl⟩
theorem okr_row_in {f : Addr} {fd : FuncData} {Ce : Addr} (F : Fun K "row_in" "row_in" s_row_in f fd) (T : Bt mg) (T2 : Bt2 mg) (E1 : MakE P w K mg base "BadText" Ce ["place"]) (c_event_in : Cal P w K mg base 3 "event_in" (spM K C m_event_in) []) :
    FnOk P w K mg base (L2.CX P w) 5 f fd ["text"] (spR K C Ce ["place"] r_row_in) := okR2 F sc_row_in fun cdv A outer s H E hr =>
  (rseq2 (xifs (xtC l_eq (pt_cmpR (op_eqP hr.units) (xv (pv 0)) (xc pe_str) (nomark _))) (xsone (xret (xtup xnil))) xsnil)
    (rseq2 (xnewO (ps_set (i := 1) sc_row_in.nd rfl (by first | exact .inl rfl | exact .inr rfl) (pe_lst xnil)))
      (rhead2 (rfor2 (.tp [2, 3]) (ps_for passE rfl (ienu (by rfl) T.enumerate (xsplit (pe_splitAny (xv (pv 0)) (xc pe_str)))) (gtp (is := [2, 3]) rfl (pgs_cons (pg_name (i := 2) sc_row_in.nd rfl (by first | exact .inl rfl | exact .inr rfl)) (pgs_cons (pg_name (i := 3) sc_row_in.nd rfl (by first | exact .inl rfl | exact .inr rfl)) pgs_nil))) (pss_or (rseq2 (xasgT (.nm 4) (ps_set (i := 4) sc_row_in.nd rfl (by first | exact .inl rfl | exact .inr rfl) (xcall (pe_c c_event_in hr (by decide) (by rfl) (xcons (xv (pv 3)) xnil))))) (rlast2 (rhead (rif (xtC l_is (pt_cmpR op_isN (xv (pv 4)) (xc pe_non) (nomark _))) (rhead (xrai E1 hr (by decide) rfl takesE (xcons (xv (pv 2)) xnil) (by rfl))) rnone)))) (xscons (xasgT (.nm 4) (ps_set (i := 4) sc_row_in.nd rfl (by first | exact .inl rfl | exact .inr rfl) (xcall (pe_c c_event_in hr (by decide) (by rfl) (xcons (xv (pv 3)) xnil)))))
  (xscons (xifs (xtC l_is (pt_cmpR op_isN (xv (pv 4)) (xc pe_non) (nomark _))) (xsone xdead) xsnil)
  (xsone (xapp (ps_expr (pe_bm PySem.F.plainAttrs_list PySem.F.slot_list_append PySem.F.type_list_append mt_append (pv 1) (pa_cons (xv (pv 4)) pa_nil)))))))))))))
theorem ok__law_heard {f : Addr} {fd : FuncData} {Ce fI : Addr} (F : Fun K "_law_heard" "_law_heard" s_law_heard f fd) (T : Bt mg) (EC : ErrC K mg "BadText" Ce fI ["place"]) (en : ErrN K "BadText" Ce)
    (cr : CalR P w K mg base 5 "row_in" (spR K C Ce ["place"] r_row_in)) (c_row_in : Cal P w K mg base 4 "row_in" (spM K C m_row_in) []) : FnOk P w K mg base CX0 6 f fd ["_law_flat"] (spM K C m_law_heard) := okM F sc_law_heard4 fun cdv A outer s H E hr =>
  (xscons (xasgT (.tp [1, 2]) (ps_asg (xtup (xcons (xc pe_non) (xcons (xc pe_non) xnil))) (gtp (is := [1, 2]) rfl (pgs_cons (pg_name (i := 1) sc_law_heard4.nd rfl (by first | exact .inl rfl | exact .inr rfl)) (pgs_cons (pg_name (i := 2) sc_law_heard4.nd rfl (by first | exact .inl rfl | exact .inr rfl)) pgs_nil)))))
  (xscons (xtryO (i := 3) (j := 1) EC en (by decide) rfl rfl sc_law_heard4.nd rfl rfl (by rfl) (by decide)
      (fun W0 pn E' tk po => rhead (rasg (ps_set (i := 2) sc_law_heard4.nd rfl (by first | exact .inl rfl | exact .inr rfl) (rcall (pe_cR cr hr (by decide) (by rfl) tk (xcons (xv (pv 0)) xnil))))))
      (fun pn E' po => xsone (xasgT (.nm 2) (ps_set (i := 2) sc_law_heard4.nd rfl (by first | exact .inl rfl | exact .inr rfl) (xcall (pe_c c_row_in hr (by decide) (by rfl) (xcons (xv (pv 0)) xnil))))))
      (fun a ob pn => ps_set (i := 1) sc_law_heard4.nd rfl (by first | exact .inl rfl | exact .inr rfl) (pv 3)))
  (xsone (xret (xif (xtC l_is (pt_cmpR op_isN (xv (pv 1)) (xc pe_non) (nomark _))) (xv (pv 2)) (xlst (xcons (xxa en EC.xf (EC.no "place" (by simp)) (xv (pv 1))) xnil)))))))
end
end BL

namespace BL
open PySem PySem.Spec PyProof.Rows L2
open C8 (Cal Mak pe_c pe_mk)
open RZ (pi_zipA)
abbrev sCells : Stmt := s_law_cells
abbrev nCells : List Str := n_law_cells
theorem scCells : FnScope nCells ["_law_script", "_law_top_so"] (defScope sCells) := sc_law_cells
abbrev sSame : Stmt := s_law_same
abbrev nSame : List Str := n_law_same
theorem scSame : FnScope nSame ["_law_got", "_law_due"] (defScope sSame) := sc_law_same
theorem putlen (s f : V) : (putF "_floor" f (putF "_shift" s [])).length < 1000 := by
  show (if ("_shift" : Str) = "_floor" then _ else (("_shift" : Str), s) :: putF "_floor" f []).length < 1000
  rw [if_neg k3]
  show 2 < 1000
  decide
structure Good (ns : List Int) (H : Hp) (l : Addr) (cs0 : List Int) (H2 : Hp) : Prop where
  s : Same H H2
  n : H l = none
  e : H2 l = some (.lst (cs0.map V.int))
  h3 : cs0.length ≤ 3
  h4 : 3 < ns.length → cs0.length = 3

section
variable {P : Program} {w : World} {K : PySem.W.Frag} {mg : Str → Option Value} {base : Heap} {C : Addr}
theorem ok_cells {f : Addr} {fd : FuncData} (F : Fun K "_law_cells" "_law_cells" sCells f fd) (T : Bt mg) : FnOk P w K mg base CX0 1 f fd ["_law_script", "_law_top_so"] (spCells K) := by
  refine F.ok scCells (fun vs H Q E h => ?_) (fun cdv A outer s H vs Q E hr h => ?_)
  · obtain ⟨a, ns, rfl, _⟩ := h
    rfl
  · obtain ⟨a, ns, rfl, hS, hl, q⟩ := h
    refine ⟨_, (pss_cons (ps_set (i := 2) scCells.nd rfl (.inl rfl) (pe_orT (pe_callTy call_list_of (by rfl) T.list (by decide +kernel) (pa_cons (pe_slice sl_list (pv 0) po_none (po_some (pv 1))) pa_nil)) (pe_one (pe_lst (pa_cons pe_int pa_nil)))))
  (pss_cons (ps_for PassesOwn.never rfl (pi_enum (by rfl) T.enumerate (pa_cons (pe_slice sl_list (pv 0) (po_some (pv 1)) (po_some pe_int)) pa_nil)) (pg_tup rfl (pgs_cons (pg_name (i := 3) scCells.nd rfl (.inl rfl)) (pgs_cons (pg_name (i := 4) scCells.nd rfl (.inl rfl)) pgs_nil))) (pss_cons (ps_set (i := 5) scCells.nd rfl (.inl rfl) (pe_op op_mod (pe_callTy call_int1 (by rfl) T.int (by decide +kernel) (pa_cons (pv 3) pa_nil)) (pv 1)))
  (pss_one (ps_asg (pe_op op_add (pe_ix ix_list (pv 2) (pv 5) (fun _ _ => rfl)) (pe_op op_mul (pv 4) (pe_op op_add (pv 3) pe_int))) (pg_sub (pv 2) (pv 5) set_list)))))
  (pss_one (ps_ret (pv 2))))), ?_⟩
    refine ⟨_, rfl, _, rfl, _, rfl, a, _, rfl, hS, fun c1 nc1 => ?_⟩
    have e1 : (upd H c1 (.lst (cutV (ns.map V.int) none (some 3)))) c1 = some (.lst (cutV (ns.map V.int) none (some 3))) := upd_same
    refine ⟨c1, _, rfl, .inl (SqL.of e1), fun l nl => ?_⟩
    have n1 : H l = none := (same_upd nc1).free nl
    have s1 : Same H (upd (upd H c1 (.lst (cutV (ns.map V.int) none (some 3)))) l (.lst (cutV (ns.map V.int) none (some 3)))) := (same_upd nc1).trans (same_upd nl)
    have ecut : cutV (ns.map V.int) none (some 3) = (ns.take 3).map V.int := by
      unfold cutV
      rw [HT.sIx_none, List.drop_zero, show HT.sIx (ns.map V.int).length (ns.map V.int).length (some 3) = min 3 (ns.map V.int).length from HT.sIx_nat _ _ 3, List.length_map, Nat.sub_zero, List.map_take]
      by_cases c : 3 ≤ ns.length
      · rw [Nat.min_eq_left c]
      · rw [Nat.min_eq_right (by omega), List.take_of_length_le (by rw [List.length_map]; omega), List.take_of_length_le (by rw [List.length_map]; omega)]
    have ecut2 : cutV (ns.map V.int) (some 3) (some 63) = (ns.drop 3).map V.int := by
      unfold cutV
      rw [show HT.sIx (ns.map V.int).length 0 (some 3) = min 3 (ns.map V.int).length from HT.sIx_nat _ _ 3, show HT.sIx (ns.map V.int).length (ns.map V.int).length (some 63) = min 63 (ns.map V.int).length from HT.sIx_nat _ _ 63, List.length_map, List.map_drop]
      by_cases c : 3 ≤ ns.length
      · rw [Nat.min_eq_left c, List.take_of_length_le (by rw [List.length_drop, List.length_map]; omega)]
      · rw [Nat.min_eq_right (show ns.length ≤ 3 by omega), List.drop_of_length_le (by rw [List.length_map]; omega), List.drop_of_length_le (by rw [List.length_map]; omega), List.take_nil]
    refine ⟨!(cutV (ns.map V.int) none (some 3)).isEmpty, .inl ⟨_, SqL.of upd_same, rfl⟩, ?_⟩
    have key : ∀ (l : Addr) (H2 : Hp) (cs0 : List Int), Same H H2 → H l = none → H2 l = some (.lst (cs0.map V.int)) → cs0.length ≤ 3 → (3 < ns.length → cs0.length = 3) → Good ns H l cs0 H2 := fun _ _ _ h1 h2 h3 h4 h5 => ⟨h1, h2, h3, h4, h5⟩
    refine ite2 (fun c => ?yes) (fun c => ?no)
    case' yes => obtain ⟨cs0, g⟩ : ∃ cs0, Good ns H l cs0 _ := ⟨_, key l _ (ns.take 3) s1 n1 (by rw [← ecut]; exact upd_same) (by rw [List.length_take]; omega) (by rw [List.length_take]; omega)⟩
    case' no =>
      have e3 : ns = [] := by
        cases ns with
        | nil => rfl
        | cons x r => exact absurd (by rw [ecut]; rfl) c
      refine ⟨(by show 1 ≤ sizeLine; decide), fun l nl2 => ?_⟩
      obtain ⟨cs0, g⟩ : ∃ cs0, Good ns H l cs0 _ := ⟨_, key l _ [0] (s1.trans (same_upd nl2)) (s1.free nl2) upd_same (by decide) (fun h => by rw [e3] at h; cases h)⟩
    all_goals
      clear key
      obtain ⟨s2, nl0, hl2, h3, h4⟩ := g
      refine ⟨_, rfl, _, rfl, _, rfl, _, rfl, a, _, rfl, s2.seq hS, fun d nd => ?_⟩
      rw [ecut2]
      refine ⟨d, _, rfl, SqL.of upd_same, for_it walk_enum (fun i σ H3 => ∃ (cs : List Int) (v3 v4 v5 : Option V), σ = [some (.ref a), some (.int 3), some (.ref l), v3, v4, v5] ∧ Same H H3 ∧ H3 l = some (.lst (cs.map V.int)) ∧ cs.length = cs0.length ∧ H3 d = some (.lst ((ns.drop 3).map V.int)))
        ⟨cs0, none, none, none, rfl, s2.trans (same_upd nd), by rw [upd_ne (ne_of_none hl2 nd)]; exact hl2, rfl, upd_same⟩ (fun i σ H3 _ ⟨_, _, _, _, _, _, _, _, e⟩ => SqL.of e) ?turn ?done⟩
      case turn =>
        rintro i y σ H3 H4 hi ⟨cs, v3, v4, v5, rfl, s3, e3, l3, ed⟩ ⟨T', x1, x2, rfl, nT, rfl, f1, f2⟩
        have ex1 : V.int ((i : Nat) : Int) = x1 := Option.some.inj f1
        subst ex1
        have hi' : i < (ns.drop 3).length := by rw [List.length_map] at hi; exact hi
        have hd3 : (ns.drop 3).length = ns.length - 3 := List.length_drop
        have hlen : 3 < ns.length := by omega
        have ex2 : x2 = .int (ns.drop 3)[i] := by
          change (List.map V.int (List.drop 3 ns))[i]? = some x2 at f2
          rw [List.getElem?_map, List.getElem?_eq_getElem hi'] at f2
          exact (Option.some.inj f2).symm
        subst ex2
        have nTl : l ≠ T' := ne_of_none e3 nT
        have nTd : d ≠ T' := ne_of_none ed nT
        have e4 : (upd H3 T' (.tup [.int i, .int (ns.drop 3)[i]])) l = some (.lst (cs.map V.int)) := by rw [upd_ne nTl]; exact e3
        have hcs : cs.length = 3 := by rw [l3]; exact h4 hlen
        have hm := emod_le (a := (i : Int)) (b := 3) (by decide)
        obtain ⟨j, hj⟩ := Int.eq_ofNat_of_zero_le hm.1
        have hj3 : j < 3 := by omega
        have gj : (cs.map V.int)[j]? = some (.int (cs[j]'(by omega))) := by
          rw [List.getElem?_map, List.getElem?_eq_getElem (by omega)]
          rfl
        refine ⟨T', _, rfl, SqT.of upd_same, rfl, _, _, rfl, _, _, rfl, rfl, ?_⟩
        refine ⟨_, rfl, .inl ⟨_, rfl, _, rfl, _, _, rfl, rfl, (by show (0 : Int) < 3; decide), ?_⟩⟩
        refine ⟨_, rfl, _, rfl, l, _, _, _, rfl, rfl, SqL.of e4, by rw [hj]; exact atI_nat gj, _, rfl, _, rfl, _, _, rfl, rfl, _, _, rfl, rfl, .inr ⟨by omega, by omega⟩, _, _, rfl, rfl, _, rfl, _, rfl, l, _, _, j, rfl, rfl, e4, ?_, ?_⟩
        · rw [hj]
          unfold ixN
          rw [if_pos (by omega), if_pos (by rw [List.length_map]; omega)]
          rfl
        · refine ⟨cs.set j (cs[j]'(by omega) + (ns.drop 3)[i] * ((i : Int) + 2)), _, _, _, rfl, ?_, ?_, ?_, ?_⟩
          · intro p o e
            rw [upd_ne (ne_of_none e nl0), upd_ne (ne_of_none (s3 _ _ e) nT)]
            exact s3 _ _ e
          · rw [upd_same, List.map_set]
          · rw [List.length_set]; exact l3
          · rw [upd_ne ?_, upd_ne nTd]
            · exact ed
            · exact (ne_of_none hl2 nd).symm
      case done =>
        rintro σ H3 ⟨cs, v3, v4, v5, rfl, s3, e3, l3, ed⟩
        exact ⟨_, rfl, q l cs H3 s3 nl0 e3 (by omega)⟩

theorem same0 {f : Addr} {fd : FuncData} : FnOk P w K mg base CX0 0 f fd ["_law_got", "_law_due"] (spSame K 0) := ⟨fun _ _ _ _ h => h.elim, fun _ _ _ _ _ _ _ _ _ _ _ _ _ h => h.elim⟩
theorem same1 {f : Addr} {fd : FuncData} {n : Nat} (F : Fun K "_law_same" "_law_same" sSame f fd) (T : Bt mg) (c__law_same : Cal P w K mg base n "_law_same" (spSame K n) []) : FnOk P w K mg base CX0 (n + 1) f fd ["_law_got", "_law_due"] (spSame K (n + 1)) := by
  refine F.ok scSame (fun vs H Q E h => ?_) (fun cdv A outer s H vs Q E hr h => ?_)
  · obtain ⟨x, y, rfl, _⟩ := h
    rfl
  · obtain ⟨x, y, rfl, hE, q⟩ := h
    refine ⟨_, (pss_cons (ps_if (pt_val (pe_callB call_isiT (by rfl) T.isinstance (by decide +kernel) (pa_cons (pv 1) (pa_cons (pe_tup (pa_cons (pe_bltn (v := .ty "list") (by rfl) T.list (by decide +kernel) rfl) (pa_cons (pe_bltn (v := .ty "tuple") (by rfl) T.tuple (by decide +kernel) rfl) pa_nil))) pa_nil)))) (pss_cons (ps_if (pt_cmpR op_ne (pe_callB call_isi (by rfl) T.isinstance (by decide +kernel) (pa_cons (pv 0) (pa_cons (pe_bltn (v := .ty "list") (by rfl) T.list (by decide +kernel) rfl) pa_nil))) (pe_callB call_isi (by rfl) T.isinstance (by decide +kernel) (pa_cons (pv 1) (pa_cons (pe_bltn (v := .ty "list") (by rfl) T.list (by decide +kernel) rfl) pa_nil))) (nomark _)) (pss_one (ps_ret pe_bl)) pss_nil)
  (pss_cons (ps_if (pt_cmpR op_ne (pe_callB call_isi (by rfl) T.isinstance (by decide +kernel) (pa_cons (pv 0) (pa_cons (pe_bltn (v := .ty "tuple") (by rfl) T.tuple (by decide +kernel) rfl) pa_nil))) (pe_callB call_isi (by rfl) T.isinstance (by decide +kernel) (pa_cons (pv 1) (pa_cons (pe_bltn (v := .ty "tuple") (by rfl) T.tuple (by decide +kernel) rfl) pa_nil))) (nomark _)) (pss_one (ps_ret pe_bl)) pss_nil)
  (pss_one (ps_ret (pe_and (pe_cmpR op_eq (pe_callB call_len_seq (by rfl) T.len PySem.boot_len (pa_cons (pv 0) pa_nil)) (pe_callB call_len_seq (by rfl) T.len PySem.boot_len (pa_cons (pv 1) pa_nil)) (nomark _)) (pe_one (pe_callB (cr_all rfl) (by rfl) T.all (by decide +kernel) (pa_cons (pe_lc (own := [("_law_mine", 2), ("_law_its", 3)]) (g := gTup K 2 (gCons (gName 2) (gCons (gName 3) gNil))) (by rfl) scSame.nd (pi_zipA (by rfl) T.zip (pa_cons (pv 0) (pa_cons (pv 1) pa_nil))) (blkOk_by (own := [("_law_mine", 2), ("_law_its", 3)]) (N := nSame) (sc := defScope sSame) (by decide +kernel)) (fun _ _ _ _ _ => (pg_tup rfl (pgs_cons (pg_name (i := 2) scSame.nd rfl (.inl rfl)) (pgs_cons (pg_name (i := 3) scSame.nd rfl (.inl rfl)) pgs_nil)))) (fun _ _ _ _ _ => pts_nil) (fun _ _ _ _ _ => (pe_c c__law_same hr (Nat.le_refl _) (by rfl) (pa_cons (pv 2) (pa_cons (pv 3) pa_nil))))) pa_nil)))))))) pss_nil)
  (pss_cons (ps_if (pw_or (pt_cmpR op_isN (pv 1) pe_non (nomark _)) (pw_or1 (pt_val (pe_callB call_isiT (by rfl) T.isinstance (by decide +kernel) (pa_cons (pv 1) (pa_cons (pe_tup (pa_cons (pe_bltn (v := .ty "bool") (by rfl) T.bool (by decide +kernel) rfl) (pa_cons (pe_bltn (v := .ty "str") (by rfl) T.str (by decide +kernel) rfl) pa_nil))) pa_nil)))))).pt (pss_one (ps_ret (pe_and (pe_cmpR op_eq (pv 0) (pv 1) (nomark _)) (pe_and (pe_cmpR op_eq (pe_callB call_isi (by rfl) T.isinstance (by decide +kernel) (pa_cons (pv 0) (pa_cons (pe_bltn (v := .ty "bool") (by rfl) T.bool (by decide +kernel) rfl) pa_nil))) (pe_callB call_isi (by rfl) T.isinstance (by decide +kernel) (pa_cons (pv 1) (pa_cons (pe_bltn (v := .ty "bool") (by rfl) T.bool (by decide +kernel) rfl) pa_nil))) (nomark _)) (pe_one (pe_cmpR op_eq (pe_cmpR op_isN (pv 0) pe_non (nomark _)) (pe_cmpR op_isN (pv 1) pe_non (nomark _)) (nomark _))))))) pss_nil)
  (pss_one (ps_ret (pe_and (pe_callB call_isi (by rfl) T.isinstance (by decide +kernel) (pa_cons (pv 0) (pa_cons (pe_bltn (v := .ty "int") (by rfl) T.int (by decide +kernel) rfl) pa_nil))) (pe_and (pe_not (pe_callB call_isi (by rfl) T.isinstance (by decide +kernel) (pa_cons (pv 0) (pa_cons (pe_bltn (v := .ty "bool") (by rfl) T.bool (by decide +kernel) rfl) pa_nil)))) (pe_one (pe_cmpR op_eq (pv 0) (pv 1) (nomark _))))))))), ?_⟩
    cases hE with
    | non n =>
      refine ⟨_, rfl, (by show 2 ≤ sizeLine; decide), fun p np => ?_⟩
      refine ⟨_, p, _, _, _, false, rfl, upd_same, .cons (.ty _) (.cons (.ty _) .nil), .base .non, any_of (by decide +kernel), _, rfl, iteF ?_⟩
      refine ⟨_, rfl, rfl, _, rfl, iteD1 rfl (iteT ?_)⟩
      refine ⟨_, rfl, _, rfl, rfl, _, rfl, iteD1 rfl ?_⟩
      refine ⟨_, rfl, _, _, _, _, false, rfl, .ty _, .base .non, kit_ty (by decide +kernel), _, rfl, _, _, _, _, false, rfl, .ty _, .base .non, kit_ty (by decide +kernel), rfl, _, rfl, iteD1 rfl ?_⟩
      exact ⟨_, rfl, rfl, _, rfl, rfl, rfl, q _ (same_upd np)⟩
    | bl n c =>
      refine ⟨_, rfl, (by show 2 ≤ sizeLine; decide), fun p np => ?_⟩
      refine ⟨_, p, _, _, _, false, rfl, upd_same, .cons (.ty _) (.cons (.ty _) .nil), .base (.bl c), any_of (by decide +kernel), _, rfl, iteF ?_⟩
      refine ⟨_, rfl, rfl, _, rfl, iteD0 (fun h => by cases h) ?_⟩
      refine ⟨_, rfl, (by show 2 ≤ sizeLine; decide), fun p2 np2 => ?_⟩
      refine ⟨_, p2, _, _, _, true, rfl, upd_same, .cons (.ty _) (.cons (.ty _) .nil), .base (.bl c), any_of (by decide +kernel), _, rfl, iteT ?_⟩
      refine ⟨_, rfl, _, rfl, rfl, _, rfl, iteD1 rfl ?_⟩
      refine ⟨_, rfl, _, _, _, _, true, rfl, .ty _, .base (.bl c), kit_ty (by decide +kernel), _, rfl, _, _, _, _, true, rfl, .ty _, .base (.bl c), kit_ty (by decide +kernel), rfl, _, rfl, iteD1 rfl ?_⟩
      refine ⟨_, rfl, rfl, _, rfl, rfl, rfl, ?_⟩
      rw [decide_eq_true rfl]
      exact q _ ((same_upd np).trans (same_upd np2))
    | str n c =>
      refine ⟨_, rfl, (by show 2 ≤ sizeLine; decide), fun p np => ?_⟩
      refine ⟨_, p, _, _, _, false, rfl, upd_same, .cons (.ty _) (.cons (.ty _) .nil), .base (.str c), any_of (by decide +kernel), _, rfl, iteF ?_⟩
      refine ⟨_, rfl, rfl, _, rfl, iteD0 (fun h => by cases h) ?_⟩
      refine ⟨_, rfl, (by show 2 ≤ sizeLine; decide), fun p2 np2 => ?_⟩
      refine ⟨_, p2, _, _, _, true, rfl, upd_same, .cons (.ty _) (.cons (.ty _) .nil), .base (.str c), any_of (by decide +kernel), _, rfl, iteT ?_⟩
      refine ⟨_, rfl, _, rfl, rfl, _, rfl, iteD1 rfl ?_⟩
      refine ⟨_, rfl, _, _, _, _, false, rfl, .ty _, .base (.str c), kit_ty (by decide +kernel), _, rfl, _, _, _, _, false, rfl, .ty _, .base (.str c), kit_ty (by decide +kernel), rfl, _, rfl, iteD1 rfl ?_⟩
      refine ⟨_, rfl, rfl, _, rfl, rfl, rfl, ?_⟩
      rw [decide_eq_true rfl]
      exact q _ ((same_upd np).trans (same_upd np2))
    | int n c =>
      refine ⟨_, rfl, (by show 2 ≤ sizeLine; decide), fun p np => ?_⟩
      refine ⟨_, p, _, _, _, false, rfl, upd_same, .cons (.ty _) (.cons (.ty _) .nil), .base (.int c), any_of (by decide +kernel), _, rfl, iteF ?_⟩
      refine ⟨_, rfl, rfl, _, rfl, iteD0 (fun h => by cases h) ?_⟩
      refine ⟨_, rfl, (by show 2 ≤ sizeLine; decide), fun p2 np2 => ?_⟩
      refine ⟨_, p2, _, _, _, false, rfl, upd_same, .cons (.ty _) (.cons (.ty _) .nil), .base (.int c), any_of (by decide +kernel), _, rfl, iteF ?_⟩
      refine ⟨_, rfl, _, _, _, _, true, rfl, .ty _, .base (.int c), kit_ty (by decide +kernel), _, rfl, iteT ?_⟩
      refine ⟨_, rfl, _, _, _, _, false, rfl, .ty _, .base (.int c), kit_ty (by decide +kernel), _, rfl, _, rfl, iteT ?_⟩
      refine ⟨_, rfl, _, rfl, rfl, ?_⟩
      rw [decide_eq_true rfl]
      exact q _ ((same_upd np).trans (same_upd np2))
    | @lst n a b xs ys h1 h2 hl hz he =>
      refine ⟨_, rfl, (by show 2 ≤ sizeLine; decide), fun p np => ?_⟩
      have s1 : Same H (upd H p (.tup [.ty "list", .ty "tuple"])) := same_upd np
      have hp : (upd H p (.tup [.ty "list", .ty "tuple"])) p = some (.tup [.ty "list", .ty "tuple"]) := upd_same
      generalize (upd H p (.tup [.ty "list", .ty "tuple"])) = H1 at s1 hp ⊢
      have g1 := s1.seq h1
      have g2 := s1.seq h2
      refine ⟨_, p, _, _, _, true, rfl, hp, .cons (.ty _) (.cons (.ty _) .nil), ty_l g2, any_of (by decide +kernel), _, rfl, iteT ?_⟩
      refine ⟨_, rfl, _, _, _, _, true, rfl, .ty _, ty_l g1, kit_ty (by decide +kernel), _, rfl, _, _, _, _, true, rfl, .ty _, ty_l g2, kit_ty (by decide +kernel), rfl, _, rfl, iteNS rfl ?_⟩
      refine ⟨_, rfl, _, _, _, _, false, rfl, .ty _, ty_l g1, kit_ty (by decide +kernel), _, rfl, _, _, _, _, false, rfl, .ty _, ty_l g2, kit_ty (by decide +kernel), rfl, _, rfl, iteNS rfl ?_⟩
      refine ⟨_, rfl, a, xs, rfl, .inl g1, _, rfl, b, ys, rfl, .inl g2, rfl, _, rfl, iteD1 (by rw [hl]) ?_⟩
      refine ⟨_, rfl, _, rfl, a, b, xs, ys, rfl, .inl ⟨g1, g2, fun D nD => ?_⟩⟩
      have s2 : Same H (upd H1 D (.lst [])) := s1.trans (same_upd nD)
      refine lc_it (walk_zip (n := xs.length) (by rw [← hl, Nat.min_self])) (fun i H3 => Same H H3 ∧ H3 D = some (.lst ((List.replicate i true).map V.bl))) ⟨s2, upd_same⟩ (fun i H3 _ h => ⟨h.1.seq h1, h.1.seq h2⟩) ?_ ?_
      · rintro i z H3 H4 hi ⟨s3, e3⟩ ⟨T1, x1, x2, rfl, nT, rfl, f1, f2⟩
        have s4 : Same H (upd H3 T1 (.tup [x1, x2])) := s3.trans (same_upd nT)
        have e4 : (upd H3 T1 (.tup [x1, x2])) D = some (.lst ((List.replicate i true).map V.bl)) := by rw [upd_ne (ne_of_none e3 nT)]; exact e3
        refine ⟨T1, [x1, x2], rfl, SqT.of upd_same, rfl, x1, [x2], rfl, x2, [], rfl, rfl, rfl, ?_⟩
        dsimp only [tYes]
        refine iteT ?_
        refine ⟨_, rfl, _, rfl, x1, x2, rfl, (he i x1 x2 f1 f2).same s4, fun H5 s5 => ⟨_, s5 _ _ e4, ?_, ?_, ?_⟩⟩
        · rw [List.length_map, List.length_replicate]
          exact small1000 (by first | omega | (rw [List.length_map] at hi; omega))
        · intro p o e
          rw [upd_ne (fun z => by rw [z] at e; rw [s1.free nD] at e; cases e)]
          exact s5 _ _ (s4 _ _ e)
        · rw [upd_same, List.replicate_succ', List.map_append]
          rfl
      · rintro H3 ⟨s3, e3⟩
        refine ⟨D, _, rfl, SqL.of e3, ?_⟩
        rw [show (List.replicate xs.length true).all id = true by simp]
        exact q H3 s3
    | @tup n a b xs ys h1 h2 hl hz he =>
      refine ⟨_, rfl, (by show 2 ≤ sizeLine; decide), fun p np => ?_⟩
      have s1 : Same H (upd H p (.tup [.ty "list", .ty "tuple"])) := same_upd np
      have hp : (upd H p (.tup [.ty "list", .ty "tuple"])) p = some (.tup [.ty "list", .ty "tuple"]) := upd_same
      generalize (upd H p (.tup [.ty "list", .ty "tuple"])) = H1 at s1 hp ⊢
      have g1 := s1.seT h1
      have g2 := s1.seT h2
      refine ⟨_, p, _, _, _, true, rfl, hp, .cons (.ty _) (.cons (.ty _) .nil), ty_t g2, any_of (by decide +kernel), _, rfl, iteT ?_⟩
      refine ⟨_, rfl, _, _, _, _, false, rfl, .ty _, ty_t g1, kit_ty (by decide +kernel), _, rfl, _, _, _, _, false, rfl, .ty _, ty_t g2, kit_ty (by decide +kernel), rfl, _, rfl, iteNS rfl ?_⟩
      refine ⟨_, rfl, _, _, _, _, true, rfl, .ty _, ty_t g1, kit_ty (by decide +kernel), _, rfl, _, _, _, _, true, rfl, .ty _, ty_t g2, kit_ty (by decide +kernel), rfl, _, rfl, iteNS rfl ?_⟩
      refine ⟨_, rfl, a, xs, rfl, .inr g1, _, rfl, b, ys, rfl, .inr g2, rfl, _, rfl, iteD1 (by rw [hl]) ?_⟩
      refine ⟨_, rfl, _, rfl, a, b, xs, ys, rfl, .inr ⟨g1, g2, fun D nD => ?_⟩⟩
      have s2 : Same H (upd H1 D (.lst [])) := s1.trans (same_upd nD)
      refine lc_it (walk_zipT (n := xs.length) (by rw [← hl, Nat.min_self])) (fun i H3 => Same H H3 ∧ H3 D = some (.lst ((List.replicate i true).map V.bl))) ⟨s2, upd_same⟩ (fun i H3 _ h => ⟨h.1.seT h1, h.1.seT h2⟩) ?_ ?_
      · rintro i z H3 H4 hi ⟨s3, e3⟩ ⟨T1, x1, x2, rfl, nT, rfl, f1, f2⟩
        have s4 : Same H (upd H3 T1 (.tup [x1, x2])) := s3.trans (same_upd nT)
        have e4 : (upd H3 T1 (.tup [x1, x2])) D = some (.lst ((List.replicate i true).map V.bl)) := by rw [upd_ne (ne_of_none e3 nT)]; exact e3
        refine ⟨T1, [x1, x2], rfl, SqT.of upd_same, rfl, x1, [x2], rfl, x2, [], rfl, rfl, rfl, ?_⟩
        dsimp only [tYes]
        refine iteT ?_
        refine ⟨_, rfl, _, rfl, x1, x2, rfl, (he i x1 x2 f1 f2).same s4, fun H5 s5 => ⟨_, s5 _ _ e4, ?_, ?_, ?_⟩⟩
        · rw [List.length_map, List.length_replicate]
          exact small1000 (by first | omega | (rw [List.length_map] at hi; omega))
        · intro p o e
          rw [upd_ne (fun z => by rw [z] at e; rw [s1.free nD] at e; cases e)]
          exact s5 _ _ (s4 _ _ e)
        · rw [upd_same, List.replicate_succ', List.map_append]
          rfl
      · rintro H3 ⟨s3, e3⟩
        refine ⟨D, _, rfl, SqL.of e3, ?_⟩
        rw [show (List.replicate xs.length true).all id = true by simp]
        exact q H3 s3

theorem ok_law {f : Addr} {fd : FuncData} (F : Fun K "law" "law" s_law f fd) (T : Bt mg) (c__law_cells : Cal P w K mg base 1 "_law_cells" (spCells K) []) (c__law_box : Cal P w K mg base 1 "_law_box" (spM K C m_law_box) []) (c__law_right : Cal P w K mg base 8 "_law_right" (spM K C m_law_right) [])
    (right : ∀ (S : List PV) (n : Nat), BoxAt S n 0 → ∃ S', m_law_right [.mref n] S = some (.bl true, S')) : FnOk P w K mg base CX0 9 f fd ["_law_script"] (spLaw K) := by
  refine F.ok sc_law (fun vs H Q E h => ?_) (fun cdv A outer s H vs Q E hr h => ?_)
  · obtain ⟨a, ns, rfl, _⟩ := h
    rfl
  · obtain ⟨a, ns, rfl, hS, hl, q⟩ := h
    refine ⟨_, (pss_cons (ps_set (i := 1) sc_law.nd rfl (by first | exact .inl rfl | exact .inr rfl) (pe_c c__law_cells hr (by decide) (by rfl) (pa_cons (pv 0) (pa_cons pe_int pa_nil))))
  (xsone (C := C) (ms := lawAll 62302 m_law_right) (xret (xfn l_all (pe_callB (cr_all rfl) (by rfl) T.all (by decide +kernel) (xcons (xlc (.nm 2) (by decide) (pe_lc (own := [("_law_k", 2)]) (by rfl) sc_law.nd (irng1 (by rfl) T.range (xfn l_len (pe_callB call_len_seq (by rfl) T.len PySem.boot_len (xcons (xv (pv 1)) xnil)))) (blkOk_by (own := [("_law_k", 2)]) (N := n_law) (sc := defScope s_law) (by decide +kernel)) (fun _ _ _ _ _ => (pg_name (i := 2) sc_law.nd rfl (by first | exact .inl rfl | exact .inr rfl))) (fun _ _ _ _ _ => xyes) (fun _ _ _ _ _ => (xcall (pe_c c__law_right hr (by decide) (by rfl) (xcons (xcall (pe_c c__law_box hr (by decide) (by rfl) (xcons (xv (pv 1)) (xcons (xv (pv 2)) xnil)))) xnil)))))) xnil)))))), ?_⟩
    exact law_readB (k := 1) (all_ok right) hS hl q
end
end BL

namespace BL
open PySem PySem.Spec PyProof.Rows L2
open C8 (Cal Mak pe_c pe_mk)
section
variable {P : Program} {w : World} {K : PySem.W.Frag} {mg : Str → Option Value} {base : Heap} {C : Addr}
theorem ok_digits_in {f : Addr} {fd : FuncData} (F : Fun K "digits_in" "digits_in" s_digits_in f fd) (T : Bt mg)  :
    FnOk P w K mg base CX0 1 f fd ["text"] (spM K C m_digits_in) := okM F sc_digits_in fun cdv A outer s H E hr => (xscons (xifs (xorW (xtC l_eq (pt_cmpR (op_eqP hr.units) (xv (pv 0)) (xc pe_str) (nomark _))) (xorW1 (xnotT (xtB (pt_val (xfn l_all (pe_callB (cr_all rfl) (by rfl) T.all (by decide +kernel) (xcons (xlc (.nm 1) (by decide) (pe_lc (own := [("sign", 1)]) (by rfl) sc_digits_in.nd (istrI (xv (pv 0))) (blkOk_by (own := [("sign", 1)]) (N := n_digits_in) (sc := defScope s_digits_in) (by decide +kernel)) (fun _ _ _ _ _ => (pg_name (i := 1) sc_digits_in.nd rfl (by first | exact .inl rfl | exact .inr rfl))) (fun _ _ _ _ _ => xyes) (fun _ _ _ _ _ => (xop l_inS (pe_cmpR op_in_sign (xv (pv 1)) (xc pe_str) (by with_unfolding_all rfl)))))) xnil)))))))).pt (xsone (xret (xc pe_non))) xsnil)
  (xsone (xret (xif (xorW (xtC l_eq (pt_cmpR (op_eqP hr.units) (xv (pv 0)) (xc pe_str) (nomark _))) (xorW1 (xtC l_ne (pt_cmpR (op_neP hr.units) (xop l_ixS (pe_ix ix_str (xv (pv 0)) (xc pe_int) (fun _ _ => rfl))) (xc pe_str) (nomark _))))).pt (xfn l_intQ (pe_callTy call_intQ (by rfl) T.int (by decide +kernel) (xcons (xv (pv 0)) xnil))) (xc pe_non)))))
theorem ok_number_in {f : Addr} {fd : FuncData} (F : Fun K "number_in" "number_in" s_number_in f fd) (T : Bt mg) (c_digits_in : Cal P w K mg base 1 "digits_in" (spM K C m_digits_in) []) :
    FnOk P w K mg base CX0 2 f fd ["text"] (spM K C m_number_in) := okM F sc_number_in fun cdv A outer s H E hr => (xscons (xifs (xnotT (xtB (pt_val (xstarts (pe_m1 PySem.F.slot_str_startswith PySem.F.type_str_startswith mt_startswith (xv (pv 0)) (xc pe_str)))))) (xsone (xret (xcall (pe_c c_digits_in hr (by decide) (by rfl) (xcons (xv (pv 0)) xnil))))) xsnil)
  (xscons (xasgT (.nm 1) (ps_set (i := 1) sc_number_in.nd rfl (by first | exact .inl rfl | exact .inr rfl) (xcall (pe_c c_digits_in hr (by decide) (by rfl) (xcons (xslS (pe_slice sl_str (xv (pv 0)) (xpo (xc pe_int)) xpo0)) xnil)))))
  (xsone (xret (xif (xtTru (pt_truth (xv (pv 1)) (fun _ => rfl))) (xun l_neg (pe_un un_neg (xv (pv 1)))) (xc pe_non))))))
theorem ok_event_in {f : Addr} {fd : FuncData} (F : Fun K "event_in" "event_in" s_event_in f fd) (T : Bt mg) {di_SIGNS : Addr} (gi_SIGNS : mg "SIGNS" = some (.ref di_SIGNS)) (ki_SIGNS : TabI K w di_SIGNS [("floor", ">= "), ("cap", "<= ")]) (c_digits_in : Cal P w K mg base 1 "digits_in" (spM K C m_digits_in) []) (c_number_in : Cal P w K mg base 2 "number_in" (spM K C m_number_in) []) :
    FnOk P w K mg base CX0 3 f fd ["text"] (spM K C m_event_in) := okM F sc_event_in fun cdv A outer s H E hr => (xscons (xforT (.tp [1, 2]) (ps_for PassesOwn.never rfl (iitemsK (pi_itemsK (by rfl) gi_SIGNS ki_SIGNS)) (gtp (is := [1, 2]) rfl (pgs_cons (pg_name (i := 1) sc_event_in.nd rfl (by first | exact .inl rfl | exact .inr rfl)) (pgs_cons (pg_name (i := 2) sc_event_in.nd rfl (by first | exact .inl rfl | exact .inr rfl)) pgs_nil))) (xsone (xifs (xtB (pt_val (xstarts (pe_m1 PySem.F.slot_str_startswith PySem.F.type_str_startswith mt_startswith (xv (pv 0)) (xv (pv 2)))))) (xscons (xasgT (.nm 3) (ps_set (i := 3) sc_event_in.nd rfl (by first | exact .inl rfl | exact .inr rfl) (xcall (pe_c c_number_in hr (by decide) (by rfl) (xcons (xslS (pe_slice sl_str (xv (pv 0)) (xpo (xfn l_lenS (pe_callB call_len_str (by rfl) T.len PySem.boot_len (xcons (xv (pv 2)) xnil)))) xpo0)) xnil)))))
  (xsone (xret (xif (xtC l_is (pt_cmpR op_isN (xv (pv 3)) (xc pe_non) (nomark _))) (xc pe_non) (xtup (xcons (xv (pv 1)) (xcons (xv (pv 3)) xnil))))))) xsnil))))
  (xscons (xasgT (.nm 3) (ps_set (i := 3) sc_event_in.nd rfl (by first | exact .inl rfl | exact .inr rfl) (xc pe_non)))
  (xscons (xifs (xtB (pt_val (xstarts (pe_m1 PySem.F.slot_str_startswith PySem.F.type_str_startswith mt_startswith (xv (pv 0)) (xc pe_str))))) (xsone (xasgT (.nm 3) (ps_set (i := 3) sc_event_in.nd rfl (by first | exact .inl rfl | exact .inr rfl) (xcall (pe_c c_digits_in hr (by decide) (by rfl) (xcons (xslS (pe_slice sl_str (xv (pv 0)) (xpo (xc pe_int)) xpo0)) xnil)))))) (xsone (xifs (xtB (pt_val (xstarts (pe_m1 PySem.F.slot_str_startswith PySem.F.type_str_startswith mt_startswith (xv (pv 0)) (xc pe_str))))) (xsone (xasgT (.nm 3) (ps_set (i := 3) sc_event_in.nd rfl (by first | exact .inl rfl | exact .inr rfl) (xcall (pe_c c_number_in hr (by decide) (by rfl) (xcons (xv (pv 0)) xnil)))))) xsnil)))
  (xsone (xret (xif (xtC l_is (pt_cmpR op_isN (xv (pv 3)) (xc pe_non) (nomark _))) (xc pe_non) (xtup (xcons (xc pe_str) (xcons (xv (pv 3)) xnil)))))))))
theorem ok_row_in {f : Addr} {fd : FuncData} (F : Fun K "row_in" "row_in" s_row_in f fd) (T : Bt mg) (c_event_in : Cal P w K mg base 3 "event_in" (spM K C m_event_in) []) :
    FnOk P w K mg base CX0 4 f fd ["text"] (spM K C m_row_in) := okM F sc_row_in fun cdv A outer s H E hr => (xscons (xifs (xtC l_eq (pt_cmpR (op_eqP hr.units) (xv (pv 0)) (xc pe_str) (nomark _))) (xsone (xret (xtup xnil))) xsnil)
  (xscons (xnewO (ps_set (i := 1) sc_row_in.nd rfl (by first | exact .inl rfl | exact .inr rfl) (pe_lst xnil)))
  (xscons (xforT (.tp [2, 3]) (ps_for PassesOwn.never rfl (ienu (by rfl) T.enumerate (xsplit (pe_splitAny (xv (pv 0)) (xc pe_str)))) (gtp (is := [2, 3]) rfl (pgs_cons (pg_name (i := 2) sc_row_in.nd rfl (by first | exact .inl rfl | exact .inr rfl)) (pgs_cons (pg_name (i := 3) sc_row_in.nd rfl (by first | exact .inl rfl | exact .inr rfl)) pgs_nil))) (xscons (xasgT (.nm 4) (ps_set (i := 4) sc_row_in.nd rfl (by first | exact .inl rfl | exact .inr rfl) (xcall (pe_c c_event_in hr (by decide) (by rfl) (xcons (xv (pv 3)) xnil)))))
  (xscons (xifs (xtC l_is (pt_cmpR op_isN (xv (pv 4)) (xc pe_non) (nomark _))) (xsone xdead) xsnil)
  (xsone (xapp (ps_expr (pe_bm PySem.F.plainAttrs_list PySem.F.slot_list_append PySem.F.type_list_append mt_append (pv 1) (pa_cons (xv (pv 4)) pa_nil)))))))))
  (xsone (xfrz 1 (xret (xfn l_tuple (pe_callTy call_tuple_of (by rfl) T.tuple (by decide +kernel) (xcons (xv (pv 1)) xnil)))))))))
theorem ok_law_box {f : Addr} {fd : FuncData} (F : Fun K "_law_box" "_law_box" s_law_box f fd) (T : Bt mg)  :
    FnOk P w K mg base CX0 1 f fd ["_law_script", "_law_k"] (spM K C m_law_box) := okM F sc_law_box fun cdv A outer s H E hr => (xscons (xasgT (.nm 2) (ps_set (i := 2) sc_law_box.nd rfl (by first | exact .inl rfl | exact .inr rfl) (xif (xtC l_cmp (pt_cmpR op_lt (xv (pv 1)) (xfn l_len (pe_callB call_len_seq (by rfl) T.len PySem.boot_len (xcons (xv (pv 0)) xnil))) (nomark _))) (xop l_ix (pe_ix ix_P (xv (pv 0)) (xv (pv 1)) (fun _ _ => rfl))) (xc pe_int))))
  (xsone (xret (xnewM (pe_lst (xcons (xop l_mulQ (pe_op op_mulQ (xfn l_abs (pe_callB call_abs (by rfl) T.abs (by decide +kernel) (xcons (xv (pv 2)) xnil))) (xfn l_intQ (pe_callTy call_intQ (by rfl) T.int (by decide +kernel) (xcons (xop l_cmp (pe_cmpR op_ge (xfn l_abs (pe_callB call_abs (by rfl) T.abs (by decide +kernel) (xcons (xv (pv 2)) xnil))) (xop l_pow (pe_op op_pow (xc pe_int) (xc pe_int))) (nomark _))) xnil))))) (xcons (xop l_add (pe_op op_addP (xop l_add (pe_op op_addP (xop l_mod (pe_op op_mod (xfn l_intQ (pe_callTy call_intQ (by rfl) T.int (by decide +kernel) (xcons (xv (pv 2)) xnil))) (xc pe_int))) (xop l_mulQ (pe_op op_mulQ (xc pe_int) (xv (pv 1)))))) (xc pe_int))) (xcons (xc pe_int) xnil))))))))
theorem ok_law_by_hand_right {f : Addr} {fd : FuncData} (F : Fun K "_law_by_hand_right" "_law_by_hand_right" s_law_by_hand_right f fd) (T : Bt mg) (c__law_heard : Cal P w K mg base 6 "_law_heard" (spM K C m_law_heard) []) (c__law_same : Cal P w K mg base 4 "_law_same" (spSame K 4) []) :
    FnOk P w K mg base CX0 7 f fd [] (spM K C m_law_by_hand_right) := okM F sc_law_by_hand_right fun cdv A outer s H E hr => (xscons (xasgT (.nm 0) (ps_set (i := 0) sc_law_by_hand_right.nd rfl (by first | exact .inl rfl | exact .inr rfl) (xlst (xcons (xtup (xcons (xc pe_str) (xcons (xc pe_int) xnil))) (xcons (xtup (xcons (xc pe_str) (xcons (xc pe_int) xnil))) (xcons (xtup (xcons (xc pe_str) (xcons (xc pe_int) xnil))) (xcons (xtup (xcons (xc pe_str) (xcons (xc pe_int) xnil))) (xcons (xtup (xcons (xc pe_str) (xcons (xc pe_int) xnil))) (xcons (xtup (xcons (xc pe_str) (xcons (xc pe_int) xnil))) (xcons (xtup (xcons (xc pe_str) (xcons (xc pe_int) xnil))) (xcons (xtup (xcons (xc pe_str) (xcons (xc pe_int) xnil))) xnil)))))))))))
  (xscons (xasgT (.nm 0) (ps_set (i := 0) sc_law_by_hand_right.nd rfl (by first | exact .inl rfl | exact .inr rfl) (xop l_add (pe_op op_addP (xv (pv 0)) (xlst (xcons (xtup (xcons (xc pe_str) (xcons (xc pe_int) xnil))) (xcons (xtup (xcons (xc pe_str) (xcons (xc pe_int) xnil))) xnil)))))))
  (xscons (xasgT (.nm 0) (ps_set (i := 0) sc_law_by_hand_right.nd rfl (by first | exact .inl rfl | exact .inr rfl) (xop l_add (pe_op op_addP (xv (pv 0)) (xlst (xcons (xtup (xcons (xc pe_str) (xcons (xc pe_int) xnil))) (xcons (xtup (xcons (xc pe_str) (xcons (xc pe_int) xnil))) (xcons (xtup (xcons (xc pe_str) (xcons (xc pe_int) xnil))) (xcons (xtup (xcons (xc pe_str) (xcons (xc pe_int) xnil))) (xcons (xtup (xcons (xc pe_str) (xcons (xc pe_int) xnil))) (xcons (xtup (xcons (xc pe_str) (xcons (xc pe_int) xnil))) xnil)))))))))))
  (xscons (xasgT (.nm 0) (ps_set (i := 0) sc_law_by_hand_right.nd rfl (by first | exact .inl rfl | exact .inr rfl) (xop l_add (pe_op op_addP (xv (pv 0)) (xlst (xcons (xtup (xcons (xc pe_str) (xcons (xc pe_int) xnil))) (xcons (xtup (xcons (xc pe_str) (xcons (xc pe_int) xnil))) xnil)))))))
  (xscons (xasgT (.nm 0) (ps_set (i := 0) sc_law_by_hand_right.nd rfl (by first | exact .inl rfl | exact .inr rfl) (xop l_add (pe_op op_addP (xv (pv 0)) (xlst (xcons (xtup (xcons (xc pe_str) (xcons (xc pe_int) xnil))) (xcons (xtup (xcons (xc pe_str) (xcons (xc pe_int) xnil))) (xcons (xtup (xcons (xc pe_str) (xcons (xc pe_int) xnil))) (xcons (xtup (xcons (xc pe_str) (xcons (xc pe_int) xnil))) (xcons (xtup (xcons (xc pe_str) (xcons (xc pe_int) xnil))) (xcons (xtup (xcons (xc pe_str) (xcons (xc pe_int) xnil))) (xcons (xtup (xcons (xc pe_str) (xcons (xc pe_int) xnil))) xnil))))))))))))
  (xscons (xasgT (.nm 0) (ps_set (i := 0) sc_law_by_hand_right.nd rfl (by first | exact .inl rfl | exact .inr rfl) (xop l_add (pe_op op_addP (xv (pv 0)) (xlst (xcons (xtup (xcons (xc pe_str) (xcons (xc pe_int) xnil))) (xcons (xtup (xcons (xc pe_str) (xcons (xc pe_int) xnil))) (xcons (xtup (xcons (xc pe_str) (xcons (xc pe_int) xnil))) (xcons (xtup (xcons (xc pe_str) (xcons (xc pe_int) xnil))) (xcons (xtup (xcons (xc pe_str) (xcons (xc pe_int) xnil))) (xcons (xtup (xcons (xc pe_str) (xcons (xc pe_int) xnil))) (xcons (xtup (xcons (xc pe_str) (xcons (xc pe_int) xnil))) xnil))))))))))))
  (xscons (xasgT (.nm 0) (ps_set (i := 0) sc_law_by_hand_right.nd rfl (by first | exact .inl rfl | exact .inr rfl) (xop l_add (pe_op op_addP (xv (pv 0)) (xlst (xcons (xtup (xcons (xc pe_str) (xcons (xc pe_int) xnil))) xnil))))))
  (xscons (xasgT (.nm 0) (ps_set (i := 0) sc_law_by_hand_right.nd rfl (by first | exact .inl rfl | exact .inr rfl) (xop l_add (pe_op op_addP (xv (pv 0)) (xlst (xcons (xtup (xcons (xc pe_str) (xcons (xc pe_int) xnil))) (xcons (xtup (xcons (xc pe_str) (xcons (xc pe_int) xnil))) (xcons (xtup (xcons (xc pe_str) (xcons (xc pe_int) xnil))) (xcons (xtup (xcons (xc pe_str) (xcons (xc pe_int) xnil))) xnil)))))))))
  (xscons (xasgT (.nm 0) (ps_set (i := 0) sc_law_by_hand_right.nd rfl (by first | exact .inl rfl | exact .inr rfl) (xop l_add (pe_op op_addP (xv (pv 0)) (xlst (xcons (xtup (xcons (xc pe_str) (xcons (xc pe_int) xnil))) (xcons (xtup (xcons (xc pe_str) (xcons (xc pe_int) xnil))) (xcons (xtup (xcons (xc pe_str) (xcons (xc pe_int) xnil))) xnil))))))))
  (xscons (xasgT (.nm 0) (ps_set (i := 0) sc_law_by_hand_right.nd rfl (by first | exact .inl rfl | exact .inr rfl) (xop l_add (pe_op op_addP (xv (pv 0)) (xlst (xcons (xtup (xcons (xc pe_str) (xcons (xc pe_int) xnil))) (xcons (xtup (xcons (xc pe_str) (xcons (xc pe_int) xnil))) xnil)))))))
  (xscons (xasgT (.nm 0) (ps_set (i := 0) sc_law_by_hand_right.nd rfl (by first | exact .inl rfl | exact .inr rfl) (xop l_add (pe_op op_addP (xv (pv 0)) (xlst (xcons (xtup (xcons (xc pe_str) (xcons (xc pe_int) xnil))) (xcons (xtup (xcons (xc pe_str) (xcons (xc pe_int) xnil))) (xcons (xtup (xcons (xc pe_str) (xcons (xc pe_int) xnil))) (xcons (xtup (xcons (xc pe_str) (xcons (xc pe_int) xnil))) (xcons (xtup (xcons (xc pe_str) (xcons (xc pe_int) xnil))) (xcons (xtup (xcons (xc pe_str) (xcons (xc pe_int) xnil))) xnil)))))))))))
  (xscons (xasgT (.nm 0) (ps_set (i := 0) sc_law_by_hand_right.nd rfl (by first | exact .inl rfl | exact .inr rfl) (xop l_add (pe_op op_addP (xv (pv 0)) (xlst (xcons (xtup (xcons (xc pe_str) (xcons (xc pe_int) xnil))) xnil))))))
  (xscons (xsetLc (.tp [2, 3]) (i := 1) (own := [("_law_flat", 2), ("_law_at_so", 3)]) (by decide) (ps_setLc (i := 1) (own := [("_law_flat", 2), ("_law_at_so", 3)]) (by rfl) sc_law_by_hand_right.nd rfl rfl (sw_true rfl rfl rfl (by decide +kernel)) (iseq (xv (pv 0))) (blkOk_by (own := [("_law_flat", 2), ("_law_at_so", 3)]) (N := n_law_by_hand_right) (sc := defScope s_law_by_hand_right) (by decide +kernel)) (fun _ _ _ _ _ => (gtp (is := [2, 3]) rfl (pgs_cons (pg_name (i := 2) sc_law_by_hand_right.nd rfl (by first | exact .inl rfl | exact .inr rfl)) (pgs_cons (pg_name (i := 3) sc_law_by_hand_right.nd rfl (by first | exact .inl rfl | exact .inr rfl)) pgs_nil)))) (fun _ _ _ _ _ => xyes) (fun _ _ _ _ _ => (xcall (pe_c c__law_heard hr (by decide) (by rfl) (xcons (xv (pv 2)) xnil))))))
  (xscons (xifs (xnotT (xtB (pt_val (xsame (pe_c c__law_same hr (by decide) (by rfl) (xcons (xv (pv 1)) (xcons (xlc (.tp [2, 3]) (by decide) (pe_lc (own := [("_law_flat", 2), ("_law_at_so", 3)]) (by rfl) sc_law_by_hand_right.nd (iseq (xv (pv 0))) (blkOk_by (own := [("_law_flat", 2), ("_law_at_so", 3)]) (N := n_law_by_hand_right) (sc := defScope s_law_by_hand_right) (by decide +kernel)) (fun _ _ _ _ _ => (gtp (is := [2, 3]) rfl (pgs_cons (pg_name (i := 2) sc_law_by_hand_right.nd rfl (by first | exact .inl rfl | exact .inr rfl)) (pgs_cons (pg_name (i := 3) sc_law_by_hand_right.nd rfl (by first | exact .inl rfl | exact .inr rfl)) pgs_nil)))) (fun _ _ _ _ _ => xyes) (fun _ _ _ _ _ => (xlst (xcons (xv (pv 3)) xnil))))) xnil))))))) (xsone (xret (xc pe_bl))) xsnil)
  (xsone (xret (xsame (pe_c c__law_same hr (by decide) (by rfl) (xcons (xlst (xcons (xcall (pe_c c__law_heard hr (by decide) (by rfl) (xcons (xc pe_str) xnil))) (xcons (xcall (pe_c c__law_heard hr (by decide) (by rfl) (xcons (xc pe_str) xnil))) xnil))) (xcons (xlst (xcons (xtup xnil) (xcons (xtup (xcons (xtup (xcons (xc pe_str) (xcons (xun l_neg (pe_un un_neg (xc pe_int))) xnil))) (xcons (xtup (xcons (xc pe_str) (xcons (xun l_neg (pe_un un_neg (xc pe_int))) xnil))) xnil))) xnil))) xnil))))))))))))))))))))
end
end BL

namespace BL
open PySem PySem.Spec PyProof.Rows L2
open C8 (Cal Mak pe_c pe_mk)
section
variable {P : Program} {w : World} {K : PySem.W.Frag} {mg : Str → Option Value} {base : Heap} {C : Addr}
theorem ok_law_take {f : Addr} {fd : FuncData} (F : Fun K "_law_take" "_law_take" s_law_take f fd) (T : Bt mg)  :
    FnOk P w K mg base CX0 1 f fd ["_law_box_here", "_law_size_so"] (spM K C m_law_take) := okM F sc_law_take fun cdv A outer s H E hr => (xscons (xifs (xtC l_cmp (pt_cmpR op_gt (xop l_ix (pe_ix ix_P (xv (pv 0)) (xc pe_int) (fun _ _ => rfl))) (xc pe_int) (nomark _))) (xscons (xasgT (.nm 2) (ps_set (i := 2) sc_law_take.nd rfl (by first | exact .inl rfl | exact .inr rfl) (xop l_mod (pe_op op_mod (xfn l_intQ (pe_callTy call_intQ (by rfl) T.int (by decide +kernel) (xcons (xop l_ix (pe_ix ix_P (xv (pv 0)) (xc pe_int) (fun _ _ => rfl))) xnil))) (xv (pv 1))))))
  (xscons (xputM (ps_asg (xop l_div (pe_op op_fdivW (xop l_ix (pe_ix ix_P (xv (pv 0)) (xc pe_int) (fun _ _ => rfl))) (xv (pv 1)))) (pg_sub (xv (pv 0)) (xc pe_int) set_list)))
  (xsone (xret (xv (pv 2)))))) xsnil)
  (xscons (xputM (ps_asg (xop l_add (pe_op op_addP (xop l_ix (pe_ix ix_P (xv (pv 0)) (xc pe_int) (fun _ _ => rfl))) (xc pe_int))) (pg_sub (xv (pv 0)) (xc pe_int) set_list)))
  (xscons (xasgT (.nm 3) (ps_set (i := 3) sc_law_take.nd rfl (by first | exact .inl rfl | exact .inr rfl) (xop l_mod (pe_op op_mod (xfn l_intQ (pe_callTy call_intQ (by rfl) T.int (by decide +kernel) (xcons (xop l_mulQ (pe_op op_mulQ (xop l_add (pe_op op_addP (xop l_ix (pe_ix ix_P (xv (pv 0)) (xc pe_int) (fun _ _ => rfl))) (xop l_mulQ (pe_op op_mulQ (xc pe_int) (xop l_ix (pe_ix ix_P (xv (pv 0)) (xc pe_int) (fun _ _ => rfl))))))) (xop l_add (pe_op op_addP (xc pe_int) (xop l_ix (pe_ix ix_P (xv (pv 0)) (xc pe_int) (fun _ _ => rfl))))))) xnil))) (xc pe_int)))))
  (xscons (xasgT (.nm 4) (ps_set (i := 4) sc_law_take.nd rfl (by first | exact .inl rfl | exact .inr rfl) (xop l_add (pe_op op_addP (xop l_mod (pe_op op_mod (xfn l_intQ (pe_callTy call_intQ (by rfl) T.int (by decide +kernel) (xcons (xv (pv 3)) xnil))) (xc pe_int))) (xc pe_int)))))
  (xscons (xasgT (.nm 5) (ps_set (i := 5) sc_law_take.nd rfl (by first | exact .inl rfl | exact .inr rfl) (xop l_mod (pe_op op_mod (xfn l_intQ (pe_callTy call_intQ (by rfl) T.int (by decide +kernel) (xcons (xop l_mulQ (pe_op op_mulQ (xop l_add (pe_op op_addP (xop l_add (pe_op op_addP (xv (pv 3)) (xop l_ix (pe_ix ix_P (xv (pv 0)) (xc pe_int) (fun _ _ => rfl))))) (xop l_div (pe_op op_fdivW (xop l_ix (pe_ix ix_P (xv (pv 0)) (xc pe_int) (fun _ _ => rfl))) (xc pe_int))))) (xv (pv 4)))) xnil))) (xc pe_int)))))
  (xsone (xret (xop l_mod (pe_op op_mod (xfn l_intQ (pe_callTy call_intQ (by rfl) T.int (by decide +kernel) (xcons (xop l_div (pe_op op_fdivW (xop l_mod (pe_op op_mod (xfn l_intQ (pe_callTy call_intQ (by rfl) T.int (by decide +kernel) (xcons (xop l_add (pe_op op_addP (xop l_mulQ (pe_op op_mulQ (xv (pv 5)) (xc pe_int))) (xv (pv 3)))) xnil))) (xc pe_int))) (xc pe_int))) xnil))) (xv (pv 1)))))))))))
theorem ok_law_of {f : Addr} {fd : FuncData} (F : Fun K "_law_of" "_law_of" s_law_of f fd) (T : Bt mg) (c__law_take : Cal P w K mg base 1 "_law_take" (spM K C m_law_take) []) :
    FnOk P w K mg base CX0 2 f fd ["_law_box_here", "_law_goods_so"] (spM K C m_law_of) := okM F sc_law_of fun cdv A outer s H E hr => (xsone (xret (xop l_ix (pe_ix ix_P (xv (pv 1)) (xcall (pe_c c__law_take hr (by decide) (by rfl) (xcons (xv (pv 0)) (xcons (xfn l_len (pe_callB call_len_seq (by rfl) T.len PySem.boot_len (xcons (xv (pv 1)) xnil))) xnil)))) (fun _ _ => rfl)))))
theorem ok_law_event {f : Addr} {fd : FuncData} (F : Fun K "_law_event" "_law_event" s_law_event f fd) (T : Bt mg) (c__law_of : Cal P w K mg base 2 "_law_of" (spM K C m_law_of) []) (c__law_take : Cal P w K mg base 1 "_law_take" (spM K C m_law_take) []) :
    FnOk P w K mg base CX0 3 f fd ["_law_box_here", "_law_wide"] (spM K C m_law_event) := okM F sc_law_event fun cdv A outer s H E hr => (xscons (xasgT (.nm 2) (ps_set (i := 2) sc_law_event.nd rfl (by first | exact .inl rfl | exact .inr rfl) (xcall (pe_c c__law_of hr (by decide) (by rfl) (xcons (xv (pv 0)) (xcons (xlst (xcons (xc pe_str) (xcons (xc pe_str) (xcons (xc pe_str) (xcons (xc pe_str) xnil))))) xnil))))))
  (xsone (xret (xtup (xcons (xv (pv 2)) (xcons (xop l_sub (pe_op op_sub (xcall (pe_c c__law_take hr (by decide) (by rfl) (xcons (xv (pv 0)) (xcons (xop l_add (pe_op op_addP (xop l_mulQ (pe_op op_mulQ (xc pe_int) (xv (pv 1)))) (xc pe_int))) xnil)))) (xv (pv 1)))) xnil))))))
theorem ok_law_row {f : Addr} {fd : FuncData} (F : Fun K "_law_row" "_law_row" s_law_row f fd) (T : Bt mg) (c__law_event : Cal P w K mg base 3 "_law_event" (spM K C m_law_event) []) (c__law_take : Cal P w K mg base 1 "_law_take" (spM K C m_law_take) []) :
    FnOk P w K mg base CX0 4 f fd ["_law_box_here", "_law_most_so", "_law_wide"] (spM K C m_law_row) := okM F sc_law_row fun cdv A outer s H E hr => (xscons (xasgT (.nm 3) (ps_set (i := 3) sc_law_row.nd rfl (by first | exact .inl rfl | exact .inr rfl) (xif (xtC l_eq (pt_cmpR (op_eqP hr.units) (xcall (pe_c c__law_take hr (by decide) (by rfl) (xcons (xv (pv 0)) (xcons (xc pe_int) xnil)))) (xc pe_int) (nomark _))) (xcall (pe_c c__law_take hr (by decide) (by rfl) (xcons (xv (pv 0)) (xcons (xop l_add (pe_op op_addP (xv (pv 1)) (xc pe_int))) xnil)))) (xop l_add (pe_op op_addP (xc pe_int) (xcall (pe_c c__law_take hr (by decide) (by rfl) (xcons (xv (pv 0)) (xcons (xv (pv 1)) xnil)))))))))
  (xsone (xret (xfn l_tuple (pe_callTy call_tuple_of (by rfl) T.tuple (by decide +kernel) (xcons (xlc (.nm 4) (by decide) (pe_lc (own := [("_law_turn", 4)]) (by rfl) sc_law_row.nd (irng1 (by rfl) T.range (xv (pv 3))) (blkOk_by (own := [("_law_turn", 4)]) (N := n_law_row) (sc := defScope s_law_row) (by decide +kernel)) (fun _ _ _ _ _ => (pg_name (i := 4) sc_law_row.nd rfl (by first | exact .inl rfl | exact .inr rfl))) (fun _ _ _ _ _ => xyes) (fun _ _ _ _ _ => (xcall (pe_c c__law_event hr (by decide) (by rfl) (xcons (xv (pv 0)) (xcons (xv (pv 2)) xnil))))))) xnil))))))
theorem ok_law_pair_text {f : Addr} {fd : FuncData} (F : Fun K "_law_pair_text" "_law_pair_text" s_law_pair_text f fd) (T : Bt mg)  :
    FnOk P w K mg base CX0 1 f fd ["_law_event_so"] (spM K C m_law_pair_text) := okM F sc_law_pair_text fun cdv A outer s H E hr => (xscons (xasgT (.tp [1, 2]) (ps_asg (xv (pv 0)) (gtp (is := [1, 2]) rfl (pgs_cons (pg_name (i := 1) sc_law_pair_text.nd rfl (by first | exact .inl rfl | exact .inr rfl)) (pgs_cons (pg_name (i := 2) sc_law_pair_text.nd rfl (by first | exact .inl rfl | exact .inr rfl)) pgs_nil)))))
  (xscons (xifs (xtC l_eq (pt_cmpR (op_eqP hr.units) (xv (pv 1)) (xc pe_str) (nomark _))) (xsone (xret (xif (xtC l_cmp (pt_cmpR op_lt (xv (pv 2)) (xc pe_int) (nomark _))) (xfn l_strI (pe_callTy call_str_int (by rfl) T.str (by decide +kernel) (xcons (xv (pv 2)) xnil))) (xop l_add (pe_op op_addP (xc pe_str) (xfn l_strI (pe_callTy call_str_int (by rfl) T.str (by decide +kernel) (xcons (xv (pv 2)) xnil)))))))) xsnil)
  (xsone (xret (xop l_add (pe_op op_addP (xif (xtC l_eq (pt_cmpR (op_eqP hr.units) (xv (pv 1)) (xc pe_str) (nomark _))) (xc pe_str) (xc pe_str)) (xfn l_strI (pe_callTy call_str_int (by rfl) T.str (by decide +kernel) (xcons (xv (pv 2)) xnil)))))))))
theorem ok_law_pick {f : Addr} {fd : FuncData} (F : Fun K "_law_pick" "_law_pick" s_law_pick f fd) (T : Bt mg) (T2 : Bt2 mg) (c__law_take : Cal P w K mg base 1 "_law_take" (spM K C m_law_take) []) :
    FnOk P w K mg base CX0 2 f fd ["_law_box_here", "_law_goods_so", "_law_count_so"] (spM K C m_law_pick) := okM F sc_law_pick fun cdv A outer s H E hr => (xscons (xparF (i := 3) (j := 4) (ps_par (i := 3) (j := 4) rfl sc_law_pick.nd rfl rfl (by decide) rfl rfl (xfl (pe_callTy call_list_of (by rfl) T.list (by decide +kernel) (pa_cons (xv (pv 1)) pa_nil)) (xfo (pe_lst xnil) xfnil)) (by rfl)))
  (xscons (xforT (.nm 5) (ps_for PassesOwn.never rfl (irng1 (by rfl) T.range (xfn l_min2 (pe_callB (call_min2 rfl) (by rfl) T2.min (by decide +kernel) (xcons (xfn l_intQ (pe_callTy call_intQ (by rfl) T.int (by decide +kernel) (xcons (xv (pv 2)) xnil))) (xcons (xlenO (pe_callB call_len_seq (by rfl) T.len PySem.boot_len (pa_cons (pv 3) pa_nil))) xnil))))) (pg_name (i := 5) sc_law_pick.nd rfl (by first | exact .inl rfl | exact .inr rfl)) (xsone (xappPop (i := 3) (j := 4) (ps_expr (pe_bm PySem.F.plainAttrs_list PySem.F.slot_list_append PySem.F.type_list_append mt_append (pv 4) (pa_cons (pe_bm PySem.F.plainAttrs_list PySem.F.slot_list_pop PySem.F.type_list_pop mt_popAt (pv 3) (pa_cons (xcall (pe_c c__law_take hr (by decide) (by rfl) (xcons (xv (pv 0)) (xcons (xlenO (pe_callB call_len_seq (by rfl) T.len PySem.boot_len (pa_cons (pv 3) pa_nil))) xnil)))) pa_nil)) pa_nil)))))))
  (xsone (xfrz 4 (xret (xv (pv 4)))))))
end
end BL

namespace BL
open PySem PySem.Spec PyProof.Rows L2
open C8 (Cal Mak pe_c pe_mk)
section
variable {P : Program} {w : World} {K : PySem.W.Frag} {mg : Str → Option Value} {base : Heap} {C : Addr}
theorem ok_law_bent {f : Addr} {fd : FuncData} (F : Fun K "_law_bent" "_law_bent" s_law_bent f fd) (T : Bt mg) (c__law_of : Cal P w K mg base 2 "_law_of" (spM K C m_law_of) []) (c__law_take : Cal P w K mg base 1 "_law_take" (spM K C m_law_take) []) :
    FnOk P w K mg base CX0 3 f fd ["_law_box_here", "_law_piece_so"] (spM K C m_law_bent) := okM F sc_law_bent fun cdv A outer s H E hr => (xscons (xasgT (.nm 2) (ps_set (i := 2) sc_law_bent.nd rfl (by first | exact .inl rfl | exact .inr rfl) (xcall (pe_c c__law_take hr (by decide) (by rfl) (xcons (xv (pv 0)) (xcons (xc pe_int) xnil))))))
  (xscons (xifs (xtC l_eq (pt_cmpR (op_eqP hr.units) (xv (pv 2)) (xc pe_int) (nomark _))) (xsone (xret (xop l_add (pe_op op_addP (xv (pv 1)) (xc pe_str))))) xsnil)
  (xscons (xifs (xtC l_eq (pt_cmpR (op_eqP hr.units) (xv (pv 2)) (xc pe_int) (nomark _))) (xsone (xret (xop l_add (pe_op op_addP (xc pe_str) (xv (pv 1)))))) xsnil)
  (xscons (xifs (xtC l_eq (pt_cmpR (op_eqP hr.units) (xv (pv 2)) (xc pe_int) (nomark _))) (xsone (xret (xop l_add (pe_op op_addP (xv (pv 1)) (xcall (pe_c c__law_of hr (by decide) (by rfl) (xcons (xv (pv 0)) (xcons (xlst (xcons (xc pe_str) (xcons (xc pe_str) (xcons (xc pe_str) (xcons (xc pe_str) (xcons (xc pe_str) xnil)))))) xnil)))))))) xsnil)
  (xscons (xifs (xtC l_eq (pt_cmpR (op_eqP hr.units) (xv (pv 2)) (xc pe_int) (nomark _))) (xsone (xret (xcall (pe_c c__law_of hr (by decide) (by rfl) (xcons (xv (pv 0)) (xcons (xlst (xcons (xc pe_str) (xcons (xc pe_str) (xcons (xc pe_str) (xcons (xc pe_str) (xcons (xc pe_str) (xcons (xc pe_str) (xcons (xc pe_str) (xcons (xc pe_str) (xcons (xc pe_str) xnil)))))))))) xnil)))))) xsnil)
  (xscons (xifs (xtC l_eq (pt_cmpR (op_eqP hr.units) (xv (pv 2)) (xc pe_int) (nomark _))) (xsone (xret (xif (xtC l_inS (pt_cmpR op_in_sign (xop l_ixS (pe_ix ix_str (xv (pv 1)) (xc pe_int) (fun _ _ => rfl))) (xc pe_str) (by with_unfolding_all rfl))) (xslS (pe_slice sl_str (xv (pv 1)) (xpo (xc pe_int)) xpo0)) (xop l_add (pe_op op_addP (xc pe_str) (xv (pv 1))))))) xsnil)
  (xscons (xifs (xtC l_eq (pt_cmpR (op_eqP hr.units) (xv (pv 2)) (xc pe_int) (nomark _))) (xsone (xret (xifT (xtCT l_inS (ptt_cmp op_in_sign (xv (pv 1)) (by with_unfolding_all rfl))) (xreplC (CwR.pet_replC (xv (pv 1)))) (xop l_add (pe_op op_addP (xop l_add (pe_op op_addP (xop l_ixS (pe_ix ix_str (xv (pv 1)) (xc pe_int) (fun _ _ => rfl))) (xc pe_str))) (xslS (pe_slice sl_str (xv (pv 1)) (xpo (xc pe_int)) xpo0))))))) xsnil)
  (xsone (xret (xop l_add (pe_op op_addP (xop l_add (pe_op op_addP (xv (pv 1)) (xc pe_str))) (xv (pv 1)))))))))))))
theorem ok_law_right {f : Addr} {fd : FuncData} (F : Fun K "_law_right" "_law_right" s_law_right f fd) (T : Bt mg) (T2 : Bt2 mg) (c__law_bent : Cal P w K mg base 3 "_law_bent" (spM K C m_law_bent) []) (c__law_by_hand_right : Cal P w K mg base 7 "_law_by_hand_right" (spM K C m_law_by_hand_right) []) (c__law_heard : Cal P w K mg base 6 "_law_heard" (spM K C m_law_heard) []) (c__law_pair_text : Cal P w K mg base 1 "_law_pair_text" (spM K C m_law_pair_text) []) (c__law_pick : Cal P w K mg base 2 "_law_pick" (spM K C m_law_pick) []) (c__law_row : Cal P w K mg base 4 "_law_row" (spM K C m_law_row) []) (c__law_same : Cal P w K mg base 4 "_law_same" (spSame K 4) []) (c__law_take : Cal P w K mg base 1 "_law_take" (spM K C m_law_take) []) :
    FnOk P w K mg base CX0 8 f fd ["_law_box_here"] (spM K C m_law_right) := okM F sc_law_right fun cdv A outer s H E hr => (xscons (xifs (xnotT (xtB (pt_val (xcall0 (pe_c0 c__law_by_hand_right hr (by decide) (by rfl)))))) (xsone (xret (xc pe_bl))) xsnil)
  (xscons (xforT (.nm 1) (ps_for PassesOwn.never rfl (irng1 (by rfl) T.range (xc pe_int)) (pg_name (i := 1) sc_law_right.nd rfl (by first | exact .inl rfl | exact .inr rfl)) (xscons (xasgT (.nm 2) (ps_set (i := 2) sc_law_right.nd rfl (by first | exact .inl rfl | exact .inr rfl) (xcall (pe_c c__law_row hr (by decide) (by rfl) (xcons (xv (pv 0)) (xcons (xc pe_int) (xcons (xc pe_int) xnil)))))))
  (xsone (xifs (xtC l_ne (pt_cmpR (op_neP hr.units) (xv (pv 2)) (xtup xnil) (nomark _))) (xscons (xnewLc (i := 3) (by decide) (ps_setLc (i := 3) (own := [("_law_own", 6)]) (by rfl) sc_law_right.nd rfl rfl (sw_true rfl rfl rfl (by decide +kernel)) (iseq (xv (pv 2))) (blkOk_by (own := [("_law_own", 6)]) (N := n_law_right) (sc := defScope s_law_right) (by decide +kernel)) (fun _ _ _ _ _ => (pg_name (i := 6) sc_law_right.nd rfl (by first | exact .inl rfl | exact .inr rfl))) (fun _ _ _ _ _ => xyes) (fun _ _ _ _ _ => (xcall (pe_c c__law_pair_text hr (by decide) (by rfl) (xcons (xv (pv 6)) xnil))))))
  (xscons (xasgT (.nm 4) (ps_set (i := 4) sc_law_right.nd rfl (by first | exact .inl rfl | exact .inr rfl) (xfn l_sorted (pe_callB cr_sortedI (by rfl) T2.sorted (by decide +kernel) (xcons (xcall (pe_c c__law_pick hr (by decide) (by rfl) (xcons (xv (pv 0)) (xcons (xlrg1 (pe_listRg rfl (by rfl) T.list (prg_1 (by rfl) T.range (xlenO (pe_callB call_len_seq (by rfl) T.len PySem.boot_len (pa_cons (pv 3) pa_nil)))))) (xcons (xop l_add (pe_op op_addP (xc pe_int) (xcall (pe_c c__law_take hr (by decide) (by rfl) (xcons (xv (pv 0)) (xcons (xc pe_int) xnil)))))) xnil))))) xnil)))))
  (xscons (xforT (.nm 5) (ps_for PassesOwn.never rfl (iseq (xv (pv 4))) (pg_name (i := 5) sc_law_right.nd rfl (by first | exact .inl rfl | exact .inr rfl)) (xsone (xputO (ps_asg (xcall (pe_c c__law_bent hr (by decide) (by rfl) (xcons (xv (pv 0)) (xcons (xixO (pe_ix ix_list (pv 3) (xv (pv 5)) (fun _ _ => rfl))) xnil)))) (pg_sub (pv 3) (xv (pv 5)) set_list))))))
  (xsone (xfrz 3 (xifs (xandW (xtC l_ne (pt_cmpR (op_neP hr.units) (xv (pv 3)) (xlst (xcons (xc pe_str) xnil)) (nomark _))) (xandW1 (xnotT (xtB (pt_val (xsame (pe_c c__law_same hr (by decide) (by rfl) (xcons (xcall (pe_c c__law_heard hr (by decide) (by rfl) (xcons (xjoin (pe_join (xc pe_str) (xv (pv 3)))) xnil))) (xcons (xlst (xcons (xop l_ix (pe_ix ix_P (xv (pv 4)) (xc pe_int) (fun _ _ => rfl))) xnil)) xnil))))))))).pt (xsone (xret (xc pe_bl))) xsnil)))))) xsnil)))))
  (xsone (xret (xc pe_bl)))))
end
end BL

namespace BL
open PySem PySem.Spec PyProof.Rows L2
open C8 (Cal Mak pe_c pe_mk)
theorem all_mk {l : PySem.W.OpenLaw} {w : World} {K : PySem.W.Frag} {h : Heap} {mg : Str → Option Value} {fa f1 f2 f3 f4 f5 f6 f7 f8 f9 f10 f11 f12 f13 f14 f15 f16 f17 f18 : Addr} (X : K.In h) (G : h.Ns mainGlobals mg) (hfa : mg "law" = some (.ref fa))
    {od1 an1 : Option Addr} {sl1 : Array (Option Value)} {oc1 kV1 dc1 pm1 cd1 ct1 : Value}
    {od2 an2 : Option Addr} {sl2 : Array (Option Value)} {oc2 kV2 dc2 pm2 cd2 ct2 : Value}
    {od3 an3 : Option Addr} {sl3 : Array (Option Value)} {oc3 kV3 dc3 pm3 cd3 ct3 : Value}
    {od4 an4 : Option Addr} {sl4 : Array (Option Value)} {oc4 kV4 dc4 pm4 cd4 ct4 : Value}
    {od5 an5 : Option Addr} {sl5 : Array (Option Value)} {oc5 kV5 dc5 pm5 cd5 ct5 : Value}
    {od6 an6 : Option Addr} {sl6 : Array (Option Value)} {oc6 kV6 dc6 pm6 cd6 ct6 : Value}
    {od7 an7 : Option Addr} {sl7 : Array (Option Value)} {oc7 kV7 dc7 pm7 cd7 ct7 : Value}
    {od8 an8 : Option Addr} {sl8 : Array (Option Value)} {oc8 kV8 dc8 pm8 cd8 ct8 : Value}
    {od9 an9 : Option Addr} {sl9 : Array (Option Value)} {oc9 kV9 dc9 pm9 cd9 ct9 : Value}
    {od10 an10 : Option Addr} {sl10 : Array (Option Value)} {oc10 kV10 dc10 pm10 cd10 ct10 : Value}
    {od11 an11 : Option Addr} {sl11 : Array (Option Value)} {oc11 kV11 dc11 pm11 cd11 ct11 : Value}
    {od12 an12 : Option Addr} {sl12 : Array (Option Value)} {oc12 kV12 dc12 pm12 cd12 ct12 : Value}
    {od13 an13 : Option Addr} {sl13 : Array (Option Value)} {oc13 kV13 dc13 pm13 cd13 ct13 : Value}
    {od14 an14 : Option Addr} {sl14 : Array (Option Value)} {oc14 kV14 dc14 pm14 cd14 ct14 : Value}
    {od15 an15 : Option Addr} {sl15 : Array (Option Value)} {oc15 kV15 dc15 pm15 cd15 ct15 : Value}
    {od16 an16 : Option Addr} {sl16 : Array (Option Value)} {oc16 kV16 dc16 pm16 cd16 ct16 : Value}
    {od17 an17 : Option Addr} {sl17 : Array (Option Value)} {oc17 kV17 dc17 pm17 cd17 ct17 : Value}
    {od18 an18 : Option Addr} {sl18 : Array (Option Value)} {oc18 kV18 dc18 pm18 cd18 ct18 : Value}
    {d_SIGNS : Addr} {td_SIGNS_0 : _} {td_SIGNS_1 : _}
    {Ce_BadText N_BadText fE_BadText : Addr} {nm_BadText qn_BadText : Str} {bs_BadText bm_BadText : List Value} {sn_BadText : List Str} {sub_BadText : List Value} {ab_BadText : Bool} {col_BadText : Option Bool} {dd_BadText : Option Addr} {k0_BadText k1_BadText k2_BadText k3_BadText k5_BadText : Option Value} {odE_BadText anE_BadText : Option Addr} {slE_BadText : Array (Option Value)} {ocE_BadText kVE_BadText dcE_BadText pmE_BadText cdE_BadText ctE_BadText : Value}
    (a1 : PySem.W.nsIn K mainGlobals "digits_in" = some (some (.ref f1))) (l1 : K.lookup f1 = some ⟨oc1, od1, .func (PySem.W.fnOf "digits_in" "digits_in" (defArgs s_digits_in) (defBody s_digits_in) (defScope s_digits_in) .none kV1 dc1 pm1 an1 cd1 ct1), sl1⟩) (c1 : PySem.W.codeIn K cd1 "digits_in" = true) (k1 : PySem.W.keepIn K (.ref f1) = true)
    (a2 : PySem.W.nsIn K mainGlobals "number_in" = some (some (.ref f2))) (l2 : K.lookup f2 = some ⟨oc2, od2, .func (PySem.W.fnOf "number_in" "number_in" (defArgs s_number_in) (defBody s_number_in) (defScope s_number_in) .none kV2 dc2 pm2 an2 cd2 ct2), sl2⟩) (c2 : PySem.W.codeIn K cd2 "number_in" = true) (k2 : PySem.W.keepIn K (.ref f2) = true)
    (a3 : PySem.W.nsIn K mainGlobals "event_in" = some (some (.ref f3))) (l3 : K.lookup f3 = some ⟨oc3, od3, .func (PySem.W.fnOf "event_in" "event_in" (defArgs s_event_in) (defBody s_event_in) (defScope s_event_in) .none kV3 dc3 pm3 an3 cd3 ct3), sl3⟩) (c3 : PySem.W.codeIn K cd3 "event_in" = true) (k3 : PySem.W.keepIn K (.ref f3) = true)
    (a4 : PySem.W.nsIn K mainGlobals "row_in" = some (some (.ref f4))) (l4 : K.lookup f4 = some ⟨oc4, od4, .func (PySem.W.fnOf "row_in" "row_in" (defArgs s_row_in) (defBody s_row_in) (defScope s_row_in) .none kV4 dc4 pm4 an4 cd4 ct4), sl4⟩) (c4 : PySem.W.codeIn K cd4 "row_in" = true) (k4 : PySem.W.keepIn K (.ref f4) = true)
    (a5 : PySem.W.nsIn K mainGlobals "_law_box" = some (some (.ref f5))) (l5 : K.lookup f5 = some ⟨oc5, od5, .func (PySem.W.fnOf "_law_box" "_law_box" (defArgs s_law_box) (defBody s_law_box) (defScope s_law_box) .none kV5 dc5 pm5 an5 cd5 ct5), sl5⟩) (c5 : PySem.W.codeIn K cd5 "_law_box" = true) (k5 : PySem.W.keepIn K (.ref f5) = true)
    (a6 : PySem.W.nsIn K mainGlobals "_law_take" = some (some (.ref f6))) (l6 : K.lookup f6 = some ⟨oc6, od6, .func (PySem.W.fnOf "_law_take" "_law_take" (defArgs s_law_take) (defBody s_law_take) (defScope s_law_take) .none kV6 dc6 pm6 an6 cd6 ct6), sl6⟩) (c6 : PySem.W.codeIn K cd6 "_law_take" = true) (k6 : PySem.W.keepIn K (.ref f6) = true)
    (a7 : PySem.W.nsIn K mainGlobals "_law_cells" = some (some (.ref f7))) (l7 : K.lookup f7 = some ⟨oc7, od7, .func (PySem.W.fnOf "_law_cells" "_law_cells" (defArgs s_law_cells) (defBody s_law_cells) (defScope s_law_cells) .none kV7 dc7 pm7 an7 cd7 ct7), sl7⟩) (c7 : PySem.W.codeIn K cd7 "_law_cells" = true) (k7 : PySem.W.keepIn K (.ref f7) = true)
    (a8 : PySem.W.nsIn K mainGlobals "_law_of" = some (some (.ref f8))) (l8 : K.lookup f8 = some ⟨oc8, od8, .func (PySem.W.fnOf "_law_of" "_law_of" (defArgs s_law_of) (defBody s_law_of) (defScope s_law_of) .none kV8 dc8 pm8 an8 cd8 ct8), sl8⟩) (c8 : PySem.W.codeIn K cd8 "_law_of" = true) (k8 : PySem.W.keepIn K (.ref f8) = true)
    (a9 : PySem.W.nsIn K mainGlobals "_law_pick" = some (some (.ref f9))) (l9 : K.lookup f9 = some ⟨oc9, od9, .func (PySem.W.fnOf "_law_pick" "_law_pick" (defArgs s_law_pick) (defBody s_law_pick) (defScope s_law_pick) .none kV9 dc9 pm9 an9 cd9 ct9), sl9⟩) (c9 : PySem.W.codeIn K cd9 "_law_pick" = true) (k9 : PySem.W.keepIn K (.ref f9) = true)
    (a10 : PySem.W.nsIn K mainGlobals "_law_same" = some (some (.ref f10))) (l10 : K.lookup f10 = some ⟨oc10, od10, .func (PySem.W.fnOf "_law_same" "_law_same" (defArgs s_law_same) (defBody s_law_same) (defScope s_law_same) .none kV10 dc10 pm10 an10 cd10 ct10), sl10⟩) (c10 : PySem.W.codeIn K cd10 "_law_same" = true) (k10 : PySem.W.keepIn K (.ref f10) = true)
    (a11 : PySem.W.nsIn K mainGlobals "_law_event" = some (some (.ref f11))) (l11 : K.lookup f11 = some ⟨oc11, od11, .func (PySem.W.fnOf "_law_event" "_law_event" (defArgs s_law_event) (defBody s_law_event) (defScope s_law_event) .none kV11 dc11 pm11 an11 cd11 ct11), sl11⟩) (c11 : PySem.W.codeIn K cd11 "_law_event" = true) (k11 : PySem.W.keepIn K (.ref f11) = true)
    (a12 : PySem.W.nsIn K mainGlobals "_law_row" = some (some (.ref f12))) (l12 : K.lookup f12 = some ⟨oc12, od12, .func (PySem.W.fnOf "_law_row" "_law_row" (defArgs s_law_row) (defBody s_law_row) (defScope s_law_row) .none kV12 dc12 pm12 an12 cd12 ct12), sl12⟩) (c12 : PySem.W.codeIn K cd12 "_law_row" = true) (k12 : PySem.W.keepIn K (.ref f12) = true)
    (a13 : PySem.W.nsIn K mainGlobals "_law_pair_text" = some (some (.ref f13))) (l13 : K.lookup f13 = some ⟨oc13, od13, .func (PySem.W.fnOf "_law_pair_text" "_law_pair_text" (defArgs s_law_pair_text) (defBody s_law_pair_text) (defScope s_law_pair_text) .none kV13 dc13 pm13 an13 cd13 ct13), sl13⟩) (c13 : PySem.W.codeIn K cd13 "_law_pair_text" = true) (k13 : PySem.W.keepIn K (.ref f13) = true)
    (a14 : PySem.W.nsIn K mainGlobals "_law_heard" = some (some (.ref f14))) (l14 : K.lookup f14 = some ⟨oc14, od14, .func (PySem.W.fnOf "_law_heard" "_law_heard" (defArgs s_law_heard) (defBody s_law_heard) (defScope s_law_heard) .none kV14 dc14 pm14 an14 cd14 ct14), sl14⟩) (c14 : PySem.W.codeIn K cd14 "_law_heard" = true) (k14 : PySem.W.keepIn K (.ref f14) = true)
    (a15 : PySem.W.nsIn K mainGlobals "_law_by_hand_right" = some (some (.ref f15))) (l15 : K.lookup f15 = some ⟨oc15, od15, .func (PySem.W.fnOf "_law_by_hand_right" "_law_by_hand_right" (defArgs s_law_by_hand_right) (defBody s_law_by_hand_right) (defScope s_law_by_hand_right) .none kV15 dc15 pm15 an15 cd15 ct15), sl15⟩) (c15 : PySem.W.codeIn K cd15 "_law_by_hand_right" = true) (k15 : PySem.W.keepIn K (.ref f15) = true)
    (a16 : PySem.W.nsIn K mainGlobals "_law_bent" = some (some (.ref f16))) (l16 : K.lookup f16 = some ⟨oc16, od16, .func (PySem.W.fnOf "_law_bent" "_law_bent" (defArgs s_law_bent) (defBody s_law_bent) (defScope s_law_bent) .none kV16 dc16 pm16 an16 cd16 ct16), sl16⟩) (c16 : PySem.W.codeIn K cd16 "_law_bent" = true) (k16 : PySem.W.keepIn K (.ref f16) = true)
    (a17 : PySem.W.nsIn K mainGlobals "_law_right" = some (some (.ref f17))) (l17 : K.lookup f17 = some ⟨oc17, od17, .func (PySem.W.fnOf "_law_right" "_law_right" (defArgs s_law_right) (defBody s_law_right) (defScope s_law_right) .none kV17 dc17 pm17 an17 cd17 ct17), sl17⟩) (c17 : PySem.W.codeIn K cd17 "_law_right" = true) (k17 : PySem.W.keepIn K (.ref f17) = true)
    (a18 : PySem.W.nsIn K mainGlobals "law" = some (some (.ref f18))) (l18 : K.lookup f18 = some ⟨oc18, od18, .func (PySem.W.fnOf "law" "law" (defArgs s_law) (defBody s_law) (defScope s_law) .none kV18 dc18 pm18 an18 cd18 ct18), sl18⟩) (c18 : PySem.W.codeIn K cd18 "law" = true) (k18 : PySem.W.keepIn K (.ref f18) = true)
    (ad_SIGNS : PySem.W.nsIn K mainGlobals "SIGNS" = some (some (.ref d_SIGNS))) (ld_SIGNS : He.dicW K d_SIGNS = some (He.keysIn w.params ["floor", "cap"])) (vd_SIGNS_0 : PySem.W.nsIn K d_SIGNS "floor" = some (some (.str ">= " td_SIGNS_0))) (vd_SIGNS_1 : PySem.W.nsIn K d_SIGNS "cap" = some (some (.str "<= " td_SIGNS_1)))
    (z2_sum : PySem.W.nsIn K mainGlobals "sum" = some none)
    (z2_max : PySem.W.nsIn K mainGlobals "max" = some none)
    (z2_min : PySem.W.nsIn K mainGlobals "min" = some none)
    (z2_any : PySem.W.nsIn K mainGlobals "any" = some none)
    (z2_sorted : PySem.W.nsIn K mainGlobals "sorted" = some none)
    (z2_set : PySem.W.nsIn K mainGlobals "set" = some none)
    (aE_BadText : PySem.W.nsIn K mainGlobals "BadText" = some (some (.ref Ce_BadText)))
    (lE_BadText : K.lookup Ce_BadText = some (excClassObj nm_BadText qn_BadText Ce_BadText N_BadText bs_BadText bm_BadText true sn_BadText sub_BadText ab_BadText col_BadText dd_BadText k0_BadText k1_BadText k2_BadText k3_BadText k5_BadText "ValueError.__new__"))
    (rE_BadText : PySem.HandSPX.refsVE bm_BadText = true)
    (saE_BadText : PySem.W.findIn K (.ref Ce_BadText) "__setattr__" = some (some (.builtin "object.__setattr__")))
    (exE_BadText : PySem.W.subIn K (.ref Ce_BadText) (.type "BaseException") = some true)
    (tyE_BadText : PySem.W.typeIn K (.ref Ce_BadText) = some (.type "type"))
    (kE_BadText : PySem.W.keepIn K (.ref Ce_BadText) = true)
    (iE_BadText : PySem.W.findIn K (.ref Ce_BadText) "__init__" = some (some (.ref fE_BadText)))
    (tE_BadText : PySem.W.typeIn K (.ref fE_BadText) = some (.type "function"))
    (teE_BadText : PySem.W.exmOne K (.ref Ce_BadText) (.ref Ce_BadText) = some true)
    (gaE_BadText : PySem.W.findIn K (.ref Ce_BadText) "__getattribute__" = some (some (.builtin "BaseException.__getattribute__")))
    (ggE_BadText : PySem.W.findIn K (.ref Ce_BadText) "__getattr__" = some none)
    (hdE_BadText : PySem.W.hasDictIn K Ce_BadText = true)
    (clE_BadText : (PySem.W.clsIn K Ce_BadText).isSome = true)
    (caE_BadText : PySem.W.findIn K (.ref Ce_BadText) "__class__" = some (some (.builtin "object.__class__")))
    (spE_BadText : PySem.W.specialIn K (.builtin "object.__class__") "__get__" = some (some (.builtin "getset_descriptor.__get__")))
    (tkE_BadText : PySem.W.takesIn K (.builtin "object.__class__") = some true)
    (obE_BadText : PySem.W.mroIn K Ce_BadText (.type "object") = some true)
    (lI_BadText : K.lookup fE_BadText = some ⟨ocE_BadText, odE_BadText, .func (PySem.W.fnOf "__init__" "BadText.__init__" (defArgs s_BadText_init) (defBody s_BadText_init) (defScope s_BadText_init) .none kVE_BadText dcE_BadText pmE_BadText anE_BadText cdE_BadText ctE_BadText), slE_BadText⟩)
    (cI_BadText : PySem.W.codeIn K cdE_BadText "BadText.__init__" = true)
    (kI_BadText : PySem.W.keepIn K (.ref fE_BadText) = true)
    (no_place_BadText : PySem.W.findIn K (.ref Ce_BadText) "place" = some none)
    (z_len : PySem.W.nsIn K mainGlobals "len" = some none)
    (z_abs : PySem.W.nsIn K mainGlobals "abs" = some none)
    (z_int : PySem.W.nsIn K mainGlobals "int" = some none)
    (z_list : PySem.W.nsIn K mainGlobals "list" = some none)
    (z_enumerate : PySem.W.nsIn K mainGlobals "enumerate" = some none)
    (z_range : PySem.W.nsIn K mainGlobals "range" = some none)
    (z_all : PySem.W.nsIn K mainGlobals "all" = some none)
    (z_zip : PySem.W.nsIn K mainGlobals "zip" = some none)
    (z_tuple : PySem.W.nsIn K mainGlobals "tuple" = some none)
    (z_isinstance : PySem.W.nsIn K mainGlobals "isinstance" = some none)
    (z_bool : PySem.W.nsIn K mainGlobals "bool" = some none)
    (z_str : PySem.W.nsIn K mainGlobals "str" = some none) :
    ∃ fd : FuncData, (∀ (s : Shared) (v : Value), BindsTo s fd ⟨[v], []⟩ [("_law_script", v)]) ∧ ∀ base : Heap, K.In base → base.Ns mainGlobals mg → FnOk l.prog w K mg base CX0 9 fa fd ["_law_script"] (spLaw K) := by
  obtain ⟨C, -⟩ : ∃ C : Addr, True := ⟨fa, trivial⟩
  have e := hfa.symm.trans (PySem.W.mg_of X G a18)
  cases e
  have gd_SIGNS := PySem.W.mg_of X G ad_SIGNS
  have kd_SIGNS : TabK K w d_SIGNS [("floor", ">= "), ("cap", "<= ")] := by
    obtain ⟨es, nn, D⟩ := He.dicW_ok ld_SIGNS
    intro z v h
    by_cases c0 : z = "floor"
    · subst c0
      have : v = ">= " := (Option.some.inj (h.symm.trans (by rfl))).trans rfl
      subst this
      exact ⟨es, nn, _, D.at_, D.lit, vd_SIGNS_0, ⟨_, rfl⟩⟩
    by_cases c1 : z = "cap"
    · subst c1
      have : v = "<= " := (Option.some.inj (h.symm.trans (by rfl))).trans rfl
      subst this
      exact ⟨es, nn, _, D.at_, D.lit, vd_SIGNS_1, ⟨_, rfl⟩⟩
    simp [List.lookup, beq_eq_false_iff_ne.mpr c0, beq_eq_false_iff_ne.mpr c1] at h
  have T : Bt mg := ⟨PySem.W.mg_none_of X G z_len, PySem.W.mg_none_of X G z_abs, PySem.W.mg_none_of X G z_int, PySem.W.mg_none_of X G z_list, PySem.W.mg_none_of X G z_enumerate, PySem.W.mg_none_of X G z_range, PySem.W.mg_none_of X G z_all, PySem.W.mg_none_of X G z_zip, PySem.W.mg_none_of X G z_tuple, PySem.W.mg_none_of X G z_isinstance, PySem.W.mg_none_of X G z_bool, PySem.W.mg_none_of X G z_str⟩
  have F1 := fun_mk (st := s_digits_in) l1 c1 k1
  have b1 := F1.binds (ps := ["text"]) fun _ _ _ _ _ _ us hl => match us, hl with | [_], _ => rfl
  have m1 := PySem.W.mg_of X G a1
  have F2 := fun_mk (st := s_number_in) l2 c2 k2
  have b2 := F2.binds (ps := ["text"]) fun _ _ _ _ _ _ us hl => match us, hl with | [_], _ => rfl
  have m2 := PySem.W.mg_of X G a2
  have F3 := fun_mk (st := s_event_in) l3 c3 k3
  have b3 := F3.binds (ps := ["text"]) fun _ _ _ _ _ _ us hl => match us, hl with | [_], _ => rfl
  have m3 := PySem.W.mg_of X G a3
  have F4 := fun_mk (st := s_row_in) l4 c4 k4
  have b4 := F4.binds (ps := ["text"]) fun _ _ _ _ _ _ us hl => match us, hl with | [_], _ => rfl
  have m4 := PySem.W.mg_of X G a4
  have F5 := fun_mk (st := s_law_box) l5 c5 k5
  have b5 := F5.binds (ps := ["_law_script", "_law_k"]) fun _ _ _ _ _ _ us hl => match us, hl with | [_, _], _ => rfl
  have m5 := PySem.W.mg_of X G a5
  have F6 := fun_mk (st := s_law_take) l6 c6 k6
  have b6 := F6.binds (ps := ["_law_box_here", "_law_size_so"]) fun _ _ _ _ _ _ us hl => match us, hl with | [_, _], _ => rfl
  have m6 := PySem.W.mg_of X G a6
  have F7 := fun_mk (st := s_law_cells) l7 c7 k7
  have b7 := F7.binds (ps := ["_law_script", "_law_top_so"]) fun _ _ _ _ _ _ us hl => match us, hl with | [_, _], _ => rfl
  have m7 := PySem.W.mg_of X G a7
  have F8 := fun_mk (st := s_law_of) l8 c8 k8
  have b8 := F8.binds (ps := ["_law_box_here", "_law_goods_so"]) fun _ _ _ _ _ _ us hl => match us, hl with | [_, _], _ => rfl
  have m8 := PySem.W.mg_of X G a8
  have F9 := fun_mk (st := s_law_pick) l9 c9 k9
  have b9 := F9.binds (ps := ["_law_box_here", "_law_goods_so", "_law_count_so"]) fun _ _ _ _ _ _ us hl => match us, hl with | [_, _, _], _ => rfl
  have m9 := PySem.W.mg_of X G a9
  have F10 := fun_mk (st := s_law_same) l10 c10 k10
  have b10 := F10.binds (ps := ["_law_got", "_law_due"]) fun _ _ _ _ _ _ us hl => match us, hl with | [_, _], _ => rfl
  have m10 := PySem.W.mg_of X G a10
  have F11 := fun_mk (st := s_law_event) l11 c11 k11
  have b11 := F11.binds (ps := ["_law_box_here", "_law_wide"]) fun _ _ _ _ _ _ us hl => match us, hl with | [_, _], _ => rfl
  have m11 := PySem.W.mg_of X G a11
  have F12 := fun_mk (st := s_law_row) l12 c12 k12
  have b12 := F12.binds (ps := ["_law_box_here", "_law_most_so", "_law_wide"]) fun _ _ _ _ _ _ us hl => match us, hl with | [_, _, _], _ => rfl
  have m12 := PySem.W.mg_of X G a12
  have F13 := fun_mk (st := s_law_pair_text) l13 c13 k13
  have b13 := F13.binds (ps := ["_law_event_so"]) fun _ _ _ _ _ _ us hl => match us, hl with | [_], _ => rfl
  have m13 := PySem.W.mg_of X G a13
  have F14 := fun_mk (st := s_law_heard) l14 c14 k14
  have b14 := F14.binds (ps := ["_law_flat"]) fun _ _ _ _ _ _ us hl => match us, hl with | [_], _ => rfl
  have m14 := PySem.W.mg_of X G a14
  have F15 := fun_mk (st := s_law_by_hand_right) l15 c15 k15
  have b15 := F15.binds (ps := []) fun _ _ _ _ _ _ us hl => match us, hl with | [], _ => rfl
  have m15 := PySem.W.mg_of X G a15
  have F16 := fun_mk (st := s_law_bent) l16 c16 k16
  have b16 := F16.binds (ps := ["_law_box_here", "_law_piece_so"]) fun _ _ _ _ _ _ us hl => match us, hl with | [_, _], _ => rfl
  have m16 := PySem.W.mg_of X G a16
  have F17 := fun_mk (st := s_law_right) l17 c17 k17
  have b17 := F17.binds (ps := ["_law_box_here"]) fun _ _ _ _ _ _ us hl => match us, hl with | [_], _ => rfl
  have m17 := PySem.W.mg_of X G a17
  have F18 := fun_mk (st := s_law) l18 c18 k18
  have b18 := F18.binds (ps := ["_law_script"]) fun _ _ _ _ _ _ us hl => match us, hl with | [_], _ => rfl
  have m18 := PySem.W.mg_of X G a18
  refine ⟨PySem.W.fnOf "law" "law" (defArgs s_law) (defBody s_law) (defScope s_law) .none kV18 dc18 pm18 an18 cd18 ct18, fun s v => .of_eq rfl, fun base _ _ => ?_⟩
  have ki_SIGNS : TabI K w d_SIGNS [("floor", ">= "), ("cap", "<= ")] := tabI_of ld_SIGNS (by decide +kernel) fun k v hkv => by
    simp only [List.mem_cons, List.not_mem_nil, or_false, Prod.mk.injEq] at hkv
    rcases hkv with ⟨rfl, rfl⟩ | ⟨rfl, rfl⟩
    · exact ⟨_, vd_SIGNS_0⟩
    · exact ⟨_, vd_SIGNS_1⟩
  have same : ∀ n, Cal l.prog w K mg base n "_law_same" (spSame K n) [] := by
    intro n
    induction n with
    | zero => exact ⟨_, _, ["_law_got", "_law_due"], [], same0, m10, k10, b10, .nil⟩
    | succ n ih => exact ⟨_, _, ["_law_got", "_law_due"], [], same1 F10 T ih, m10, k10, b10, .nil⟩
  have T2 : Bt2 mg := ⟨PySem.W.mg_none_of X G z2_sum, PySem.W.mg_none_of X G z2_max, PySem.W.mg_none_of X G z2_min, PySem.W.mg_none_of X G z2_any, PySem.W.mg_none_of X G z2_sorted, PySem.W.mg_none_of X G z2_set⟩
  have FE_BadText := fun_mk (st := s_BadText_init) lI_BadText cI_BadText kI_BadText
  have bE_BadText := FE_BadText.binds (ps := ["self", "place"]) fun _ _ _ _ _ _ us hl => match us, hl with | [_, _], _ => rfl
  have gE_BadText := PySem.W.mg_of X G aE_BadText
  have noE_BadText : ∀ f ∈ (["place"] : List Str), PySem.W.findIn K (.ref Ce_BadText) f = some none := fun f h => by
    simp only [List.mem_cons, List.not_mem_nil, or_false] at h
    rcases h with rfl
    · exact no_place_BadText
  have EC_BadText : ErrC K mg "BadText" Ce_BadText fE_BadText ["place"] := ⟨⟨⟨_, _, _, _, _, _, _, _, _, _, _, _, _, _, _, lE_BadText, rE_BadText⟩, saE_BadText, exE_BadText, tyE_BadText, kE_BadText⟩, gE_BadText, iE_BadText, tE_BadText, noE_BadText, teE_BadText, ⟨gaE_BadText, ggE_BadText, exE_BadText, hdE_BadText⟩, ⟨clE_BadText, gaE_BadText, ggE_BadText, exE_BadText, caE_BadText, spE_BadText, tkE_BadText, obE_BadText⟩⟩
  have ME_BadText : MakE l.prog w K mg base "BadText" Ce_BadText ["place"] := ⟨fE_BadText, _, _, EC_BadText, ok_ei_BadText FE_BadText, bE_BadText⟩
  have c__law_cells : Cal l.prog w K mg base 1 "_law_cells" (spCells K) [] := ⟨_, _, ["_law_script", "_law_top_so"], [], ok_cells F7 T, m7, k7, b7, .nil⟩
  have c_digits_in : Cal l.prog w K mg base 1 "digits_in" (spM K C m_digits_in) [] := ⟨_, _, ["text"], [], ok_digits_in F1 T, m1, k1, b1, .nil⟩
  have c_number_in : Cal l.prog w K mg base 2 "number_in" (spM K C m_number_in) [] := ⟨_, _, ["text"], [], ok_number_in F2 T c_digits_in, m2, k2, b2, .nil⟩
  have c_event_in : Cal l.prog w K mg base 3 "event_in" (spM K C m_event_in) [] := ⟨_, _, ["text"], [], ok_event_in F3 T gd_SIGNS ki_SIGNS c_digits_in c_number_in, m3, k3, b3, .nil⟩
  have c_row_in : Cal l.prog w K mg base 4 "row_in" (spM K C m_row_in) [] := ⟨_, _, ["text"], [], ok_row_in F4 T c_event_in, m4, k4, b4, .nil⟩
  have c__law_box : Cal l.prog w K mg base 1 "_law_box" (spM K C m_law_box) [] := ⟨_, _, ["_law_script", "_law_k"], [], ok_law_box F5 T, m5, k5, b5, .nil⟩
  have cr_row_in : CalR l.prog w K mg base 5 "row_in" (spR K C Ce_BadText ["place"] r_row_in) := ⟨_, _, ["text"], okr_row_in F4 T T2 ME_BadText c_event_in, m4, k4, b4⟩
  have c__law_heard : Cal l.prog w K mg base 6 "_law_heard" (spM K C m_law_heard) [] := ⟨_, _, ["_law_flat"], [], ok__law_heard F14 T EC_BadText aE_BadText cr_row_in c_row_in, m14, k14, b14, .nil⟩
  have c__law_by_hand_right : Cal l.prog w K mg base 7 "_law_by_hand_right" (spM K C m_law_by_hand_right) [] := ⟨_, _, [], [], ok_law_by_hand_right F15 T c__law_heard (same 4), m15, k15, b15, .nil⟩
  have c__law_take : Cal l.prog w K mg base 1 "_law_take" (spM K C m_law_take) [] := ⟨_, _, ["_law_box_here", "_law_size_so"], [], ok_law_take F6 T, m6, k6, b6, .nil⟩
  have c__law_of : Cal l.prog w K mg base 2 "_law_of" (spM K C m_law_of) [] := ⟨_, _, ["_law_box_here", "_law_goods_so"], [], ok_law_of F8 T c__law_take, m8, k8, b8, .nil⟩
  have c__law_event : Cal l.prog w K mg base 3 "_law_event" (spM K C m_law_event) [] := ⟨_, _, ["_law_box_here", "_law_wide"], [], ok_law_event F11 T c__law_of c__law_take, m11, k11, b11, .nil⟩
  have c__law_row : Cal l.prog w K mg base 4 "_law_row" (spM K C m_law_row) [] := ⟨_, _, ["_law_box_here", "_law_most_so", "_law_wide"], [], ok_law_row F12 T c__law_event c__law_take, m12, k12, b12, .nil⟩
  have c__law_pair_text : Cal l.prog w K mg base 1 "_law_pair_text" (spM K C m_law_pair_text) [] := ⟨_, _, ["_law_event_so"], [], ok_law_pair_text F13 T, m13, k13, b13, .nil⟩
  have c__law_pick : Cal l.prog w K mg base 2 "_law_pick" (spM K C m_law_pick) [] := ⟨_, _, ["_law_box_here", "_law_goods_so", "_law_count_so"], [], ok_law_pick F9 T T2 c__law_take, m9, k9, b9, .nil⟩
  have c__law_bent : Cal l.prog w K mg base 3 "_law_bent" (spM K C m_law_bent) [] := ⟨_, _, ["_law_box_here", "_law_piece_so"], [], ok_law_bent F16 T c__law_of c__law_take, m16, k16, b16, .nil⟩
  have c__law_right : Cal l.prog w K mg base 8 "_law_right" (spM K C m_law_right) [] := ⟨_, _, ["_law_box_here"], [], ok_law_right F17 T T2 c__law_bent c__law_by_hand_right c__law_heard c__law_pair_text c__law_pick c__law_row (same 4) c__law_take, m17, k17, b17, .nil⟩
  exact ok_law F18 T c__law_cells c__law_box c__law_right  right02
end BL
open PySem PySem.W PyProof.Rows
set_option maxRecDepth 100000 in
set_option maxHeartbeats 0 in
theorem PySem.Challenge.cw_boundedlevels_k02_wrong_texts_of_rows_holds : PySem.Challenge.rw_boundedlevels_k02_wrong_texts_of_rows.Holds := by
  w_on; o_law; k_head; (case hw => w_witness2)
  k_fill
  refine L2.walk_of (l := PySem.Challenge.rw_boundedlevels_k02_wrong_texts_of_rows) (n := 63) (k := 9) (x := "_law_script") (CX := fun _ => L2.CX0) (sp := fun w => BL.spLaw _) rfl (by decide) rfl ⟨rfl, by decide, by decide⟩ (fun w h Y => PySem.W.kIn_of Y) ?F (fun _ _ a ns hl _ hS => ⟨a, ns, rfl, hS, hl, fun _ => rfl⟩) (fun _ _ _ _ _ h => h)
  case F =>
    intro w mg fa h KX G hmg
    refine' BL.all_mk KX G hmg ?a1 ?l1 ?c1 ?k1 ?a2 ?l2 ?c2 ?k2 ?a3 ?l3 ?c3 ?k3 ?a4 ?l4 ?c4 ?k4 ?a5 ?l5 ?c5 ?k5 ?a6 ?l6 ?c6 ?k6 ?a7 ?l7 ?c7 ?k7 ?a8 ?l8 ?c8 ?k8 ?a9 ?l9 ?c9 ?k9 ?a10 ?l10 ?c10 ?k10 ?a11 ?l11 ?c11 ?k11 ?a12 ?l12 ?c12 ?k12 ?a13 ?l13 ?c13 ?k13 ?a14 ?l14 ?c14 ?k14 ?a15 ?l15 ?c15 ?k15 ?a16 ?l16 ?c16 ?k16 ?a17 ?l17 ?c17 ?k17 ?a18 ?l18 ?c18 ?k18 ?ad_SIGNS ?ld_SIGNS ?vd_SIGNS_0 ?vd_SIGNS_1 ?z2_sum ?z2_max ?z2_min ?z2_any ?z2_sorted ?z2_set ?aE_BadText ?lE_BadText ?rE_BadText ?saE_BadText ?exE_BadText ?tyE_BadText ?kE_BadText ?iE_BadText ?tE_BadText ?teE_BadText ?gaE_BadText ?ggE_BadText ?hdE_BadText ?clE_BadText ?caE_BadText ?spE_BadText ?tkE_BadText ?obE_BadText ?lI_BadText ?cI_BadText ?kI_BadText ?no_place_BadText ?z_len ?z_abs ?z_int ?z_list ?z_enumerate ?z_range ?z_all ?z_zip ?z_tuple ?z_isinstance ?z_bool ?z_str
    (case a1 => first | k_is | rfl)
    (case l1 => first | k_is | rfl)
    (case c1 => first | k_is | rfl)
    (case k1 => first | k_is | rfl)
    (case a2 => first | k_is | rfl)
    (case l2 => first | k_is | rfl)
    (case c2 => first | k_is | rfl)
    (case k2 => first | k_is | rfl)
    (case a3 => first | k_is | rfl)
    (case l3 => first | k_is | rfl)
    (case c3 => first | k_is | rfl)
    (case k3 => first | k_is | rfl)
    (case a4 => first | k_is | rfl)
    (case l4 => first | k_is | rfl)
    (case c4 => first | k_is | rfl)
    (case k4 => first | k_is | rfl)
    (case a5 => first | k_is | rfl)
    (case l5 => first | k_is | rfl)
    (case c5 => first | k_is | rfl)
    (case k5 => first | k_is | rfl)
    (case a6 => first | k_is | rfl)
    (case l6 => first | k_is | rfl)
    (case c6 => first | k_is | rfl)
    (case k6 => first | k_is | rfl)
    (case a7 => first | k_is | rfl)
    (case l7 => first | k_is | rfl)
    (case c7 => first | k_is | rfl)
    (case k7 => first | k_is | rfl)
    (case a8 => first | k_is | rfl)
    (case l8 => first | k_is | rfl)
    (case c8 => first | k_is | rfl)
    (case k8 => first | k_is | rfl)
    (case a9 => first | k_is | rfl)
    (case l9 => first | k_is | rfl)
    (case c9 => first | k_is | rfl)
    (case k9 => first | k_is | rfl)
    (case a10 => first | k_is | rfl)
    (case l10 => first | k_is | rfl)
    (case c10 => first | k_is | rfl)
    (case k10 => first | k_is | rfl)
    (case a11 => first | k_is | rfl)
    (case l11 => first | k_is | rfl)
    (case c11 => first | k_is | rfl)
    (case k11 => first | k_is | rfl)
    (case a12 => first | k_is | rfl)
    (case l12 => first | k_is | rfl)
    (case c12 => first | k_is | rfl)
    (case k12 => first | k_is | rfl)
    (case a13 => first | k_is | rfl)
    (case l13 => first | k_is | rfl)
    (case c13 => first | k_is | rfl)
    (case k13 => first | k_is | rfl)
    (case a14 => first | k_is | rfl)
    (case l14 => first | k_is | rfl)
    (case c14 => first | k_is | rfl)
    (case k14 => first | k_is | rfl)
    (case a15 => first | k_is | rfl)
    (case l15 => first | k_is | rfl)
    (case c15 => first | k_is | rfl)
    (case k15 => first | k_is | rfl)
    (case a16 => first | k_is | rfl)
    (case l16 => first | k_is | rfl)
    (case c16 => first | k_is | rfl)
    (case k16 => first | k_is | rfl)
    (case a17 => first | k_is | rfl)
    (case l17 => first | k_is | rfl)
    (case c17 => first | k_is | rfl)
    (case k17 => first | k_is | rfl)
    (case a18 => first | k_is | rfl)
    (case l18 => first | k_is | rfl)
    (case c18 => first | k_is | rfl)
    (case k18 => first | k_is | rfl)
    (case ad_SIGNS => first | k_is | rfl)
    (case ld_SIGNS => first | k_is | rfl)
    (case vd_SIGNS_0 => first | k_is | rfl)
    (case vd_SIGNS_1 => first | k_is | rfl)
    (case z2_sum => first | k_is | rfl)
    (case z2_max => first | k_is | rfl)
    (case z2_min => first | k_is | rfl)
    (case z2_any => first | k_is | rfl)
    (case z2_sorted => first | k_is | rfl)
    (case z2_set => first | k_is | rfl)
    (case aE_BadText => first | k_is | rfl)
    (case lE_BadText => first | k_is | rfl)
    (case rE_BadText => first | k_is | rfl)
    (case saE_BadText => first | k_is | rfl)
    (case exE_BadText => first | k_is | rfl)
    (case tyE_BadText => first | k_is | rfl)
    (case kE_BadText => first | k_is | rfl)
    (case iE_BadText => first | k_is | rfl)
    (case tE_BadText => first | k_is | rfl)
    (case teE_BadText => first | k_is | rfl)
    (case gaE_BadText => first | k_is | rfl)
    (case ggE_BadText => first | k_is | rfl)
    (case hdE_BadText => first | k_is | rfl)
    (case clE_BadText => first | k_is | rfl)
    (case caE_BadText => first | k_is | rfl)
    (case spE_BadText => first | k_is | rfl)
    (case tkE_BadText => first | k_is | rfl)
    (case obE_BadText => first | k_is | rfl)
    (case lI_BadText => first | k_is | rfl)
    (case cI_BadText => first | k_is | rfl)
    (case kI_BadText => first | k_is | rfl)
    (case no_place_BadText => first | k_is | rfl)
    (case z_len => first | k_is | rfl)
    (case z_abs => first | k_is | rfl)
    (case z_int => first | k_is | rfl)
    (case z_list => first | k_is | rfl)
    (case z_enumerate => first | k_is | rfl)
    (case z_range => first | k_is | rfl)
    (case z_all => first | k_is | rfl)
    (case z_zip => first | k_is | rfl)
    (case z_tuple => first | k_is | rfl)
    (case z_isinstance => first | k_is | rfl)
    (case z_bool => first | k_is | rfl)
    (case z_str => first | k_is | rfl)
