import PyProof.Rows.All
import Wide.All
import OpenK.AllK
import Wide.FinOn
import HandS.ForMost
import HandS.Codes
import HandS.Flow
import HandS.Zip
import HandS.Conv
import HandS.IsInst
import HandS.Property
import HandS.Defaults
import HandS.Walk
import HandS.MakeKw
import HandS.ExcInit
import HandS.ExcField
import KE.KExcIs
import HandS.TupAny
import HandS.Wide
import HandS.NoneIn
import HandS.Star
import HandS.SlotsOwn
import HandS.OwnEq
import HandS.FStr
import KE.KOpsOwn
import HandS.Style
import HandS.Deep
import HandS.Text
import HandS.SetFor
import HandS.Strs
import HandS.SortInts
import HandS.TupMul
import KE.GoesMore
import HandS.HeadHook3
import KE.GoesEnum
import KE.DataMinMax
import HandS.SortKw
import KE.KTupSum
import HandS.ExcOwn
import HandS.WordsExc
import HandS.Exc
import HandS.MakeKwOnly
import HandS.ExcValue
import KE.KCallOwn
import PySem.Challenge.RW_boundedlevels_k00_errors
set_option Elab.async false
set_option linter.all false
set_option maxRecDepth 100000
set_option maxHeartbeats 4000000
namespace BL
open PySem PySem.Spec PyProof.Rows L2
/-! what is the same in all these laws, no text -/
def But (b : Addr) (H H' : Hp) : Prop := ∀ p o, p ≠ b → H p = some o → H' p = some o
theorem But.refl (b : Addr) (H : Hp) : But b H H := fun _ _ _ h => h
theorem But.trans {b : Addr} {H H1 H2 : Hp} (x : But b H H1) (y : But b H1 H2) : But b H H2 := fun p o e h => y p o e (x p o e h)
theorem But.same {b : Addr} {H H1 H2 : Hp} (x : But b H H1) (y : Same H1 H2) : But b H H2 := fun p o e h => y p o (x p o e h)
theorem But.of {b : Addr} {H H1 : Hp} (x : Same H H1) : But b H H1 := fun p o _ h => x p o h
theorem But.off {b : Addr} {H H1 : Hp} (x : But b H H1) (n : H b = none) : Same H H1 := fun p o h => x p o (ne_of_none h n) h
theorem same_upd {H : Hp} {p : Addr} {o : HO} (h : H p = none) : Same H (upd H p o) := fun b x e => by
  rw [upd_ne (ne_of_none e h)]
  exact e
theorem but_upd {H : Hp} {p : Addr} {o : HO} : But p H (upd H p o) := fun b x n e => by
  rw [upd_ne n]
  exact e
def Box (H : Hp) (b : Addr) (n : Nat) : Prop := ∃ x y z : Int, H b = some (.lst [.int x, .int y, .int z]) ∧ 0 ≤ z ∧ z ≤ n
theorem Box.same {H H' : Hp} {b : Addr} {n : Nat} (h : Box H b n) (s : Same H H') : Box H' b n := by
  obtain ⟨x, y, z, e, r⟩ := h
  exact ⟨x, y, z, s _ _ e, r⟩
theorem Box.le {H : Hp} {b : Addr} {n m : Nat} (h : Box H b n) (l : n ≤ m) : Box H b m := by
  obtain ⟨x, y, z, e, r, q⟩ := h
  exact ⟨x, y, z, e, r, by omega⟩
theorem Box.ne {H : Hp} {b p : Addr} {n : Nat} {o : HO} (h : Box H b n) (e : H p = some o) (k : ∀ xs, o ≠ .lst xs) : p ≠ b := by
  obtain ⟨x, y, z, f, _⟩ := h
  intro q
  rw [q, f] at e
  exact k _ (Option.some.inj e).symm
/-- the built-in names that these texts use are still built in -/
structure Bt (mg : Str → Option Value) : Prop where
  len : mg "len" = none
  abs : mg "abs" = none
  int : mg "int" = none
  list : mg "list" = none
  enumerate : mg "enumerate" = none
  range : mg "range" = none
  all : mg "all" = none
  zip : mg "zip" = none
  tuple : mg "tuple" = none
  isinstance : mg "isinstance" = none
  bool : mg "bool" = none
  str : mg "str" = none
/-! ### the draws -/
def spTake : Sp := fun vs H Q _ => ∃ (b : Addr) (m : Int) (n : Nat), vs = [.ref b, .int m] ∧ 0 < m ∧ m < 1073741824 ∧ Box H b n ∧ n ≤ 1000000000 ∧
  ∀ (r : Int) (H' : Hp), 0 ≤ r → r < m → But b H H' → Box H' b (n + 1) → Q (.int r) H'
def spBox (K : PySem.W.Frag) : Sp := fun vs H Q _ => ∃ (a : Addr) (cs : List Int) (k : Nat), vs = [.ref a, .int k] ∧ SqL K H a (cs.map V.int) ∧ k < cs.length ∧ cs.length ≤ 3 ∧
  ∀ (b : Addr) (H' : Hp), Same H H' → H b = none → Box H' b 0 → Q (.ref b) H'
def spCells (K : PySem.W.Frag) : Sp := fun vs H Q _ => ∃ (a : Addr) (ns : List Int), vs = [.ref a, .int 3] ∧ SqL K H a (ns.map V.int) ∧ ns.length ≤ 63 ∧
  ∀ (p : Addr) (cs : List Int) (H' : Hp), Same H H' → H p = none → H' p = some (.lst (cs.map V.int)) → cs.length ≤ 3 → Q (.ref p) H'
def spOf (K : PySem.W.Frag) : Sp := fun vs H Q _ => ∃ (b a : Addr) (xs : List V) (n : Nat), vs = [.ref b, .ref a] ∧ H a = some (.lst xs) ∧ a ≠ b ∧ xs ≠ [] ∧ xs.length ≤ 1000 ∧ Box H b n ∧ n ≤ 1000000000 ∧
  ∀ (i : Nat) (v : V) (H' : Hp), xs[i]? = some v → But b H H' → Box H' b (n + 1) → Q v H'
/-- law's: a list of at most 63 ints is handed in, True comes out -/
def spLaw (K : PySem.W.Frag) : Sp := fun vs H Q _ => ∃ (a : Addr) (ns : List Int), vs = [.ref a] ∧ SqL K H a (ns.map V.int) ∧ ns.length ≤ 63 ∧ ∀ H', Q (.bl true) H'
theorem atI3 {xs : List V} {i : Nat} {v : V} (h : xs[i]? = some v) : atI xs (i : Int) = some v := atI_nat h
theorem emod_le {a b : Int} (h : 0 < b) : 0 ≤ a % b ∧ a % b < b := ⟨Int.emod_nonneg _ (by omega), Int.emod_lt_of_pos _ h⟩
theorem ps_dead {X : Cx} {st : Stmt} : PS X st (fun _ _ _ => False) := ⟨fun _ _ _ _ _ _ h => h.elim⟩
theorem iteD0 {c A B : Prop} [Decidable c] (h : ¬ c) (b : B) : if decide c = true then A else B := by
  rw [if_neg (by simpa using h)]
  exact b
theorem iteD1 {c A B : Prop} [Decidable c] (h : c) (a : A) : if decide c = true then A else B := by
  rw [if_pos (by simpa using h)]
  exact a
theorem iteN1 {c A B : Prop} [Decidable c] (h : ¬ c) (a : A) : if (!decide c) = true then A else B := by
  rw [if_pos (by simpa using h)]
  exact a
theorem iteN0 {c A B : Prop} [Decidable c] (h : c) (b : B) : if (!decide c) = true then A else B := by
  rw [if_neg (by simpa using h)]
  exact b
theorem iteB1 {c : Bool} {A B : Prop} (h : c = true) (a : A) : if c = true then A else B := by
  rw [if_pos h]
  exact a
theorem iteB0 {c : Bool} {A B : Prop} (h : c = false) (b : B) : if c = true then A else B := by
  rw [h]
  exact iteF b
theorem iN (i : Int) : ¬ (V.int i = V.non) := fun h => by cases h
theorem rN (a : Addr) : ¬ (V.ref a = V.non) := fun h => by cases h
/-! ### a number or None -/
def oV : Option Int → V
  | none => .non
  | some i => .int i
def bnd (l : Int) (lo hi : Option Int) : Int :=
  let l1 := match lo with
    | none => l
    | some a => if l < a then a else l
  match hi with
    | none => l1
    | some b => if b < l1 then b else l1
def btw (l : Int) (lo hi : Option Int) : Bool :=
  (match lo with
    | none => true
    | some a => decide (a ≤ l)) && (match hi with
    | none => true
    | some b => decide (l ≤ b))
theorem _root_.L2.Same.seT {K : PySem.W.Frag} {H H' : Hp} {a : Addr} {xs : List V} (e : Same H H') (h : SqT K H a xs) : SqT K H' a xs := by
  rcases h with (h | ⟨o, h⟩) | h
  · exact .inl (.inl (e _ _ h))
  · exact .inl (.inr ⟨o, e _ _ h⟩)
  · exact .inr h
/-- two values that read alike, at most so deep -/
inductive Eqs (K : PySem.W.Frag) (H : Hp) : Nat → V → V → Prop
  | non (n : Nat) : Eqs K H n .non .non
  | bl (n : Nat) (b : Bool) : Eqs K H n (.bl b) (.bl b)
  | int (n : Nat) (i : Int) : Eqs K H n (.int i) (.int i)
  | str (n : Nat) (x : Str) : Eqs K H n (.str x) (.str x)
  | lst {n : Nat} {a b : Addr} {xs ys : List V} : SqL K H a xs → SqL K H b ys → xs.length = ys.length → xs.length ≤ 1000 → (∀ (i : Nat) (x y : V), xs[i]? = some x → ys[i]? = some y → Eqs K H n x y) → Eqs K H (n + 1) (.ref a) (.ref b)
  | tup {n : Nat} {a b : Addr} {xs ys : List V} : SqT K H a xs → SqT K H b ys → xs.length = ys.length → xs.length ≤ 1000 → (∀ (i : Nat) (x y : V), xs[i]? = some x → ys[i]? = some y → Eqs K H n x y) → Eqs K H (n + 1) (.ref a) (.ref b)
theorem Eqs.same {K : PySem.W.Frag} {H H' : Hp} {n : Nat} {x y : V} (h : Eqs K H n x y) (s : Same H H') : Eqs K H' n x y := by
  induction h with
  | non n => exact .non n
  | bl n b => exact .bl n b
  | int n i => exact .int n i
  | str n x => exact .str n x
  | lst h1 h2 l m _ ih => exact .lst (s.seq h1) (s.seq h2) l m ih
  | tup h1 h2 l m _ ih => exact .tup (s.seT h1) (s.seT h2) l m ih
theorem Eqs.oV {K : PySem.W.Frag} {H : Hp} (n : Nat) (o : Option Int) : Eqs K H n (oV o) (oV o) := by
  cases o with
  | none => exact .non n
  | some i => exact .int n i
theorem a2_nil {E : V → V → Prop} : ∀ (i : Nat) (x y : V), ([] : List V)[i]? = some x → ([] : List V)[i]? = some y → E x y := fun i x y h => by simp at h
theorem a2_cons {E : V → V → Prop} {v u : V} {vs us : List V} (h : E v u) (r : ∀ (i : Nat) (x y : V), vs[i]? = some x → us[i]? = some y → E x y) : ∀ (i : Nat) (x y : V), (v :: vs)[i]? = some x → (u :: us)[i]? = some y → E x y
  | 0, x, y, h1, h2 => by
    have e1 : v = x := Option.some.inj h1
    have e2 : u = y := Option.some.inj h2
    rw [← e1, ← e2]
    exact h
  | i + 1, x, y, h1, h2 => r i x y h1 h2
def spSame (K : PySem.W.Frag) : Nat → Sp
  | 0 => fun _ _ _ _ => False
  | n + 1 => fun vs H Q _ => ∃ x y, vs = [x, y] ∧ Eqs K H n x y ∧ ∀ H', Same H H' → Q (.bl true) H'
theorem ty_l {K : PySem.W.Frag} {H : Hp} {a : Addr} {xs : List V} (h : SqL K H a xs) : TyX K H (.ref a) (.type "list") := by
  rcases h with (h | ⟨o, h⟩) | ⟨o, its, n, l, c, _⟩
  · exact .base (.lst h)
  · exact .base (.frz h)
  · exact .kList l c
theorem ty_t {K : PySem.W.Frag} {H : Hp} {a : Addr} {xs : List V} (h : SqT K H a xs) : TyX K H (.ref a) (.type "tuple") := by
  rcases h with (h | ⟨o, h⟩) | ⟨o, its, n, l, c, _⟩
  · exact .base (.tup h)
  · exact .fTuple h
  · exact .kTuple l c
theorem any_of {K : PySem.W.Frag} {t a b : String} {r : Bool} (h : (match kitB t a with
    | some true => some true
    | some false => (match kitB t b with
      | some true => some true
      | some false => some false
      | none => none)
    | none => none) = some r) : PySem.W.kitAny K (.type t) [.type a, .type b] = some r := by
  unfold PySem.W.kitAny
  cases e : kitB t a with
  | none => rw [e] at h; cases h
  | some c =>
    rw [e] at h
    rw [kit_ty e]
    cases c with
    | true => exact h
    | false =>
      show PySem.W.kitAny K (.type t) [.type b] = some r
      unfold PySem.W.kitAny
      cases e2 : kitB t b with
      | none => rw [e2] at h; cases h
      | some c2 =>
        rw [e2] at h
        rw [kit_ty e2]
        cases c2 with
        | true => exact h
        | false => exact h
theorem walk_zipT {K : PySem.W.Frag} {a b : Addr} {xs ys : List V} {n : Nat} (hn : n = min xs.length ys.length) : Walk (RZ.ItzT K a b) n (fun H => SqT K H a xs ∧ SqT K H b ys) (YPair (fun i => xs[i]?) (fun i => ys[i]?)) := by
  refine ⟨fun i _ hi q => ?_, fun _ q => ⟨xs, ys, q.1, q.2, by omega⟩, fun i H v H' _ q y => ?_⟩
  · have h1 : i < xs.length := by omega
    have h2 : i < ys.length := by omega
    exact ⟨xs, ys, xs[i], ys[i], q.1, q.2, by simp [h1], by simp [h2]⟩
  · obtain ⟨T, x, z, h1, h2, h3, h4, h5⟩ := y
    exact ⟨T, x, z, h1, h2, h3, h4 xs q.1, h5 ys q.2⟩
/-! ### ways -/
def wF (s f c : Option Int) : List (Str × V) := putF "_cap" (oV c) (putF "_floor" (oV f) (putF "_shift" (oV s) []))
theorem k1 : ¬ (("_floor" : Str) = "_cap") := by decide +kernel
theorem k2 : ¬ (("_shift" : Str) = "_cap") := by decide +kernel
theorem k3 : ¬ (("_shift" : Str) = "_floor") := by decide +kernel
theorem wF_c (s f c : Option Int) : (wF s f c).lookup ("_cap" : Str) = some (oV c) := by
  unfold wF
  rw [lookup_putF, if_pos rfl]
theorem wF_f (s f c : Option Int) : (wF s f c).lookup ("_floor" : Str) = some (oV f) := by
  unfold wF
  rw [lookup_putF, if_neg k1, lookup_putF, if_pos rfl]
theorem wF_s (s f c : Option Int) : (wF s f c).lookup ("_shift" : Str) = some (oV s) := by
  unfold wF
  rw [lookup_putF, if_neg k2, lookup_putF, if_neg k3, lookup_putF, if_pos rfl]
def WayAt (C : Addr) (H : Hp) (p : Addr) (s f c : Option Int) : Prop := ∃ dx, H p = some (.ins C dx (wF s f c))
theorem WayAt.same {C : Addr} {H H' : Hp} {p : Addr} {s f c : Option Int} (h : WayAt C H p s f c) (e : Same H H') : WayAt C H' p s f c := by
  obtain ⟨dx, h⟩ := h
  exact ⟨dx, e _ _ h⟩
def nrm (s f c : Option Int) : Option Int :=
  match f, c with
  | some a, some b => if a = b then none else s
  | _, _ => s
def okW (s f c : Option Int) : Prop :=
  match f, c with
  | some a, some b => a ≤ b ∧ (s = none → a = b)
  | _, _ => s ≠ none
def spInitW (C : Addr) : Sp := fun vs H Q _ => ∃ (p dx : Addr) (s f c : Option Int), vs = [.ref p, oV s, oV f, oV c] ∧ H p = some (.ins C dx []) ∧ okW s f c ∧
  ∀ H', WayAt C H' p (nrm s f c) f c → (∀ b o, H b = some o → b ≠ p → H' b = some o) → Q .non H'
structure Prp (P : Program) (w : World) (K : PySem.W.Frag) (mg : Str → Option Value) (base : Heap) (C : Addr) (f h : Str) : Prop where
  ex : ∃ (p g : Addr) (fd : FuncData), PropOf K C f p g ∧ FnOk P w K mg base CX0 1 g fd ["self"] (getSp C h) ∧ Binds K fd ["self"] []
theorem PE.weak {X : Cx} {e : Expr} {t t' : TE} (h : PE X e t) (i : ∀ σ H Q, t' σ H Q → t σ H Q) : PE X e t' := ⟨fun pins s σ H Q I q => h.run pins s σ H Q I (i σ H Q q)⟩
/-- way.shift, way.floor, way.cap -/
def tWF (C : Addr) (sel : Option Int → Option Int → Option Int → Option Int) (ta : TE) : TE := fun σ H Q => ta σ H fun x H1 => ∃ a s f c, x = .ref a ∧ WayAt C H1 a s f c ∧ Q (oV (sel s f c)) H1
def tGet (C : Addr) (h : Str) (ta : TE) : TE := fun σ H Q => ta σ H fun x H1 => ∃ a dx fs v, x = .ref a ∧ H1 a = some (.ins C dx fs) ∧ fs.lookup h = some v ∧ Q v H1
section
variable {X : Cx} {j : Nat} {C : Addr} {e : Expr} {pos : Pos} {ta : TE} {f h : Str}
/-- how a reading grows with what is wanted -/
def Mono (t : TE) : Prop := ∀ (σ : L2.St) (H : Hp) (Q Q' : VK), (∀ v H', Q v H' → Q' v H') → t σ H Q → t σ H Q'
theorem mono_var (i : Nat) : Mono (tVar i) := fun σ H Q Q' m ⟨v, e, q⟩ => ⟨v, e, m _ _ q⟩
theorem pe_get (m : Mono ta) (he : PE X e ta) (c : Cls X.K C) (pr : Prp X.prog X.w X.K X.mg X.base C f h) (hr : Room j X.A) (hj : 2 ≤ j)
    (hab : attributeBase e f X.env (eval e X.env) = eval e X.env := by rfl) : PE X (.Attribute e f pos) (tGet C h ta) := by
  obtain ⟨p, g, fd, po, F, b⟩ := pr.ex
  refine PE.weak (pe_prop (sp := getSp C h) he c po F (hr.mono hj) b .nil pass0 hab) fun σ H Q q => ?_
  refine m σ H _ _ (fun v H' z => ?_) q
  obtain ⟨a, dx, fs, u, rfl, ha, hl, k⟩ := z
  exact ⟨a, dx, fs, rfl, ha, a, dx, fs, u, rfl, ha, hl, k⟩
theorem pe_sel {sel : Option Int → Option Int → Option Int → Option Int} (hs : ∀ s f c, (wF s f c).lookup h = some (oV (sel s f c))) (m : Mono ta) (he : PE X e ta) (c : Cls X.K C) (pr : Prp X.prog X.w X.K X.mg X.base C f h) (hr : Room j X.A) (hj : 2 ≤ j)
    (hab : attributeBase e f X.env (eval e X.env) = eval e X.env := by rfl) : PE X (.Attribute e f pos) (tWF C sel ta) := by
  refine PE.weak (pe_get m he c pr hr hj hab) fun σ H Q q => m σ H _ _ (fun v H' z => ?_) q
  obtain ⟨a, s, f, c, rfl, ⟨dx, ha⟩, k⟩ := z
  exact ⟨a, dx, _, _, rfl, ha, hs s f c, k⟩
end
/-- THE RULE for a def with defaults that lets nothing out -/
theorem okD {P : Program} {w : World} {K : PySem.W.Frag} {mg : Str → Option Value} {base : Heap} {x qual : Str} {params : Arguments} {body : List Stmt} {scope : Scope} {dvs : List V} {kws : List (Str × V)} {f : Addr} {fd : FuncData} {N ps : List Str} {k : Nat} {sp : Sp} (F : FunD K x qual params body scope dvs kws f fd) (S : FnScope N ps scope) (len : ∀ vs H Q E, sp vs H Q E → vs.length = ps.length)
    (hb : ∀ (cdv : Value) (A : Around) (outer : List Env) (s : Shared) (H : Hp) (vs : List V) (Q : VK) (E : XK), Room k (A.deeper (envOfC qual scope s.heap.objs.size f cdv)) → sp vs H Q E →
      ∃ t, PSs (cxOf CX0 P w K mg base N qual scope f cdv A outer s H E).nox body t ∧ t { nx := fun _ H' => Q .non H', rt := Q } (start N vs) H) : FnOk P w K mg base CX0 (k + 1) f fd ps sp :=
  F.ok S len fun cdv A outer s H vs Q E hr h => by
    obtain ⟨t, p, q⟩ := hb cdv A outer s H vs Q E hr h
    exact ⟨t, p.nox, q⟩
theorem pe_c0 {X : Cx} {k j : Nat} {x : Str} {sp : Sp} {dvs : List V} {p pos : Pos} (c : C8.Cal X.prog X.w X.K X.mg X.base k x sp dvs) (hr : Room j X.A) (hk : k ≤ j) (hg : Gl X x) (hdb : (x == ("__debug__" : Str)) = false := by decide) : PE X (.Call (.Name x p) [] [] pos) (tCall sp dvs C8.E0 tNil) := by
  obtain ⟨f, fd, ps, ds, F, hm, kp, b, d⟩ := c.ex
  exact pe_call0 F (hr.mono hk) hg hm kp b d pass0 hdb
end BL

namespace BL
open PySem PySem.Spec PyProof.Rows L2
/-! a caught exception that is kept beyond its except suite -/
/-- at a: an exception of the class at C, its dict at d -/
def ExK (C d a : Addr) : HO := .ext fun g => ∃ ob fl, g.get? a = some ob ∧ Zc (.ref C) (some d) ob ∧ ob.data = .fields fl
/-- at a: an exception of the class at C, it has no dict -/
def ExN (C a : Addr) : HO := .ext fun g => ∃ ob fl, g.get? a = some ob ∧ Zc (.ref C) none ob ∧ ob.data = .fields fl
theorem exk_ok {P : Program} {w : World} {H : Hp} {g : Heap} {a C d : Addr} {ob : Obj} {fl : Array Value} (e : g.get? a = some ob) (z : Zc (.ref C) (some d) ob) (q : ob.data = .fields fl) : ObjOk P w H g a (ExK C d a) :=
  ⟨⟨ob, fl, e, z, q⟩, ⟨ob, e⟩, fun _ _ ⟨o, f, x, y⟩ k => ⟨o, f, k o x, y⟩⟩
theorem exk_at {P : Program} {w : World} {H : Hp} {g : Heap} {a C d : Addr} (ok : HOk P w H g) (e : H a = some (ExK C d a)) : ∃ ob fl, g.get? a = some ob ∧ Zc (.ref C) (some d) ob ∧ ob.data = .fields fl := by
  have z : ObjOk P w H g a (.ext fun g => ∃ ob fl, g.get? a = some ob ∧ Zc (.ref C) (some d) ob ∧ ob.data = .fields fl) := ok a _ e
  exact z.1
section
variable {X : Cx} {pins : List (Addr × Obj)} {σ : L2.St} {H : Hp} {s : Shared}
theorem adopt {a C d : Addr} {ob : Obj} {fl : Array Value} (I : Inv X ((a, ob) :: pins) σ H s) (z : Zc (.ref C) (some d) ob) (q : ob.data = .fields fl) (new : a ∉ X.ex → X.s_0.heap.get? a = none) (ne : ∀ p ∈ X.pn ++ pins, p.1 ≠ a) :
    Inv X pins σ (upd H a (ExK C d a)) s := by
  obtain ⟨ea, na, nl, nf, nc⟩ := I.pin (a, ob) (List.mem_append_right _ (List.mem_cons_self ..))
  have up : ∀ {b : Addr}, b ≠ a → upd H a (ExK C d a) b = H b := fun n => upd_ne n
  have st : ∀ {b : Addr} {o : HO}, H b = some o → upd H a (ExK C d a) b = some o := fun {b o} e => by
    rw [up (ne_of_none e na)]
    exact e
  have ok : HOk X.prog X.w (upd H a (ExK C d a)) s.heap := fun b o e => by
    by_cases c : b = a
    · subst c
      rw [upd_same] at e
      cases e
      exact exk_ok ea z q
    · rw [up c] at e
      exact (I.hok b o e).stay (fun _ _ _ x => x) (fun _ x => st x) (fun _ _ x => st x)
  refine ⟨I.ok, I.os, I.bare, ⟨I.base.keep, I.base.slot, fun b o e n x => ?_, I.base.there, fun b xs e => st (I.base.tups b xs e), fun b o u e => st (I.base.frzs b o u e), fun b ps e => ?_⟩, I.loc, I.cell, ?_, fun x c e => ?_, fun p hp => ?_, ok, I.len⟩
  · rw [up fun c => by rw [c, new (c ▸ x)] at e; cases e]
    exact I.base.free b o e n x
  · obtain ⟨m, e'⟩ := I.base.tbls b ps e
    exact ⟨m, st e'⟩
  · rw [up (Ne.symm nl)]
    exact I.free
  · rw [up fun y => ?_]
    · exact I.freeC x c e
    · obtain ⟨v, cv⟩ := I.cell x c e
      obtain ⟨o', e1, e2⟩ := cv
      rw [y, ea] at e1
      cases e1
      exact nc _ e2
  · obtain ⟨p1, p2, p3⟩ := I.pin p (by
      rcases List.mem_append.mp hp with h | h
      · exact List.mem_append_left _ h
      · exact List.mem_append_right _ (List.mem_cons_of_mem _ h))
    exact ⟨p1, by rw [up (ne p hp)]; exact p2, p3⟩

/-- out of the suite, the exception held fast among the pins -/
theorem outOf {a : Addr} {ob : Obj} (I : Inv (X.suite a ((a, ob) :: (X.pn ++ pins))) [] σ H s) (ok : X.Ok) : Inv X ((a, ob) :: pins) σ H s := by
  refine ⟨ok, I.os, I.bare, I.base, I.loc, I.cell, I.free, I.freeC, fun p hp => I.pin p ?_, I.hok, I.len⟩
  show p ∈ ((a, ob) :: (X.pn ++ pins)) ++ []
  rw [List.append_nil]
  rcases List.mem_append.mp hp with h | h
  · exact List.mem_cons_of_mem _ (List.mem_append_left _ h)
  · rcases List.mem_cons.mp h with h | h
    · rw [h]
      exact List.mem_cons_self ..
    · exact List.mem_cons_of_mem _ (List.mem_append_right _ h)
theorem Sky_none {B g : Heap} {l : List Env} {a L : Addr} {Z : Obj → Prop} (k : L2.Sky B l a Z L g) : B.get? a = none := by
  rcases k with k | k | k
  · exact k.2.1
  · exact k.2.1
  · exact k.2.1
/-- what such a try wishes of the error in its body: it is one of the class named; the suite ts runs with it in slot i; behind it stands kept, and the slot is empty -/
def wKeep (K : PySem.W.Frag) (c : Value) (i : Nat) (ts : Addr → TS) (D : Ends) : WX := fun cls d τ G => ∃ C dd : Addr, cls = .ref C ∧ d = some dd ∧ PySem.W.exmOne K cls c = some true ∧ ∀ a, G a = none →
  ts a { nx := fun τ' G' => G' a = none → D.nx (τ'.set i none) (upd G' a (ExK C dd a)), rt := fun _ _ => False, bk := fun _ _ => False, ct := fun _ _ => False } (τ.set i (some (.ref a))) G
end
section
variable {X : Cx} {x n : Str} {c : Value} {i : Nat} {bd su : List Stmt} {b1 : Stmt} {q1 q2 pos : Pos} {tb : WX → TS} {ts : Addr → TS}
theorem ps_try_keep (st : X.stack = X.env :: X.outer) (fr : X.env.frame = some X.env.locals) (nd : X.N.Nodup) (at_ : X.N[i]? = some n) (lo : X.env.kindOf n = some .local) (nm : Names X x c)
    (body : ∀ (W : WX) (pn : List (Addr × Obj)) (E' : Value → Shared → Prop), Takes (X.tr pn E') W → PassesOwn (model X.prog X.w) X.A X.env E' → PSs (X.tr pn E') bd (tb W))
    (suite : ∀ (a : Addr) (ob : Obj) (pn : List (Addr × Obj)), PSs (X.suite a ((a, ob) :: pn)) (b1 :: su) (ts a)) :
    PS X (.Try bd [.ExceptHandler (some (.Name x q1)) (some n) (b1 :: su) q2] [] [] pos) (fun D τ G => tb (wKeep X.K c i ts D) D τ G) := by
  constructor
  intro pins s τ G D I wish
  have ok := I.ok
  have frames : X.A.frames = some (X.env :: X.outer) := by
    rw [ok.frames, st]
  apply wpAny_Try_except
  have run := (body (wKeep X.K c i ts D) (X.pn ++ pins) (fun e s₁ => wpAny (model X.prog X.w) X.A (noteFrame e X.env) (fun _ s₂ => wpAny (model X.prog X.w) X.A (setFlight e none)
    (fun _ s₃ => wpAny (model X.prog X.w) X.A (handleBy e X.env [.ExceptHandler (some (.Name x q1)) (some n) (b1 :: su) q2]) (SP X pins D) X.xe s₃) X.xe s₂) X.xe s₁) ?tk PassesOwn.looking).run [] s τ G D (I.toTry _) wish
  case tk =>
    rintro u s' ⟨a, B, sI, pins', τ', G', cls, d, rfl, J', nb, up, sky, na, os, ag, C, dd, rfl, rfl, yes, go⟩
    have J : Inv X pins τ' G' sI := J'.ofTry ok
    have sky2 : L2.Sky B (X.env :: X.outer) a (Zc (.ref C) (some dd)) X.env.locals s'.heap := st ▸ sky
    have bn := Sky_none sky2
    show wpAny _ X.A (noteFrame (.ref a) X.env) _ _ _
    refine L2.Sky.land Zc.steady frames fr sky2 fun g3 f3 u3 => ?_
    obtain ⟨o3, v3, e3, z3, d3⟩ := f3.there
    have off : ∀ {g : Heap} {o : Obj} {vs : Array Value}, g.FunFrames B (X.env :: X.outer) → g.get? a = some o → o.data = .fields vs → a ∉ frs (X.env :: X.outer) := by
      intro g o vs ff e dt m
      obtain ⟨_, o', e', no⟩ := ff.mem m
      rw [e] at e'
      cases e'
      exact no _ dt
    have out := off f3.2.2.1 e3 d3
    have notL : a ≠ X.env.locals := by
      intro z
      refine out (List.mem_filterMap.mpr ⟨X.env, List.mem_cons_self .., ?_⟩)
      rw [fr, z]
    have notF : a ∉ X.fs := by
      intro m
      obtain ⟨e, me, q⟩ := List.mem_filterMap.mp m
      exact out (List.mem_filterMap.mpr ⟨e, List.mem_cons_of_mem _ me, q⟩)
    -- the exception is new: it was not there when it was made
    have young : sI.heap.get? a = none := by
      cases e : sI.heap.get? a with
      | none => rfl
      | some o =>
        have := nb a o e (by rw [st]; exact out)
        rw [bn] at this
        cases this
    have new : a ∉ X.ex → X.s_0.heap.get? a = none := by
      intro nx
      cases e : X.s_0.heap.get? a with
      | none => rfl
      | some o =>
        obtain ⟨o', e'⟩ := J.base.there a o e nx
        rw [young] at e'
        cases e'
    have apart : ∀ p ∈ X.pn ++ pins, p.1 ≠ a := by
      intro p hp z
      have := (J.pin p hp).1
      rw [z, young] at this
      cases this
    have J3 : Inv X pins τ' G' { s' with heap := g3 } := J.landed nb f3.1 (up.trans u3) os ag
    have S3 := J3.suite e3 d3 na notL notF
    refine wpAny_handleBy_cons (codeAny_handlers_test ?_) (fun q => by cases q)
    have ty : PySem.W.Looks (model X.prog X.w) g3 (typeOf (.ref a)) (.ref C) := fun A Q E s k q => wpAny_typeOf_ref (k _ _ e3) (by
      rw [z3.1]
      exact q)
    have mt := PySem.W.exm_one (M := model X.prog X.w) J3.kIn ty yes
    have load : ∀ {Q : Value → Shared → Prop} {E : Value → Shared → Prop}, Q c { s' with heap := g3 } → wpAny (model X.prog X.w) (X.A.mark (some (.ref a))) (eval (.Name x q1) X.env) Q E { s' with heap := g3 } := by
      intro Q E q
      obtain ⟨gl, dbg, m | ⟨m, v, nn⟩⟩ := nm
      · exact ld_glob (X := X.suite a ((a, o3) :: (X.pn ++ pins))) S3 gl m q dbg
      · exact ld_blt (X := X.suite a ((a, o3) :: (X.pn ++ pins))) S3 gl m v q nn dbg
    refine load (mt.here (codeAny_handlers_suite_as ?_))
    refine HandSPX.lands_againZ f3 fun g4 f4 u4 => ?_
    obtain ⟨o4, v4, e4, z4, d4⟩ := f4.there
    have J4 : Inv X pins τ' G' { s' with heap := g4 } := J.landed nb f4.1 ((up.trans u3).trans u4) os ag
    have S4 := J4.suite e4 d4 na notL notF
    refine store_ok (X := X.suite a ((a, o4) :: (X.pn ++ pins))) (v := .ref a) S4 nd at_ (.inl lo) rfl (fun s5 S5 => ?_) (.inr lo)
    refine wpAny_mono ((suite a o4 (X.pn ++ pins)).run [] s5 _ G' _ S5 (go a na)) (fun f s6 sp => ?_) (fun _ _ z => z.elim)
    cases f with
    | next =>
      obtain ⟨τ6, G6, S6, q6⟩ := sp
      refine gone_ok (outOf S6 ok) nd at_ lo fun s7 J7 => ?_
      exact ⟨_, _, adopt J7 z4 d4 new apart, q6 (S6.pin (a, o4) (by show _ ∈ ((a, o4) :: (X.pn ++ pins)) ++ []; simp)).2.1⟩
    | brk =>
      obtain ⟨_, _, _, z⟩ := sp
      exact z.elim
    | cont =>
      obtain ⟨_, _, _, z⟩ := sp
      exact z.elim
    | ret u =>
      obtain ⟨_, _, _, _, _, z⟩ := sp
      exact z.elim
  refine wpAny_mono run (fun f s1 sp => ?_) (fun _ _ z => z)
  cases f with
  | next =>
    obtain ⟨τ', G', J', q⟩ := sp
    exact wpAny_execs_nil ⟨τ', G', J'.ofTry ok, q⟩
  | brk =>
    obtain ⟨τ', G', J', q⟩ := sp
    exact ⟨τ', G', J'.ofTry ok, q⟩
  | cont =>
    obtain ⟨τ', G', J', q⟩ := sp
    exact ⟨τ', G', J'.ofTry ok, q⟩
  | ret u =>
    obtain ⟨v, τ', G', J', r, q⟩ := sp
    exact ⟨v, τ', G', J'.ofTry ok, r, q⟩
end
section
variable {X : Cx} {e : Expr} {te : TE} {pos : Pos} {C : Addr} {f : Str}
/-- e.f, e a kept exception of the class at C -/
def tXk (C : Addr) (f : Str) (te : TE) : TE := fun σ H Q => te σ H fun x H1 => ∃ (a d : Addr) (fs : List (Str × V)) (v : V), x = .ref a ∧ H1 a = some (ExK C d a) ∧ H1 d = some (.xd fs) ∧ fs.lookup f = some v ∧ Q v H1
theorem pe_xk (T : XfC X.K C) (no : PySem.W.findIn X.K (.ref C) f = some none) (he : PE X e te) (hb : attributeBase e f X.env (eval e X.env) = eval e X.env := by rfl) : PE X (.Attribute e f pos) (tXk C f te) := by
  constructor
  intro pins s σ H Q I h
  refine attr_of hb (thn (he.run pins s σ H _ I h) fun u s1 hh => ?_)
  obtain ⟨x, H1, I1, rx, a, d, fs, v, rfl, ea, ed, l, q⟩ := hh
  obtain rfl : u = Value.ref a := rx
  obtain ⟨ob, fl, ha, hz, dt⟩ := exk_at I1.hok ea
  have dk : ObjOk X.prog X.w H1 s1.heap d (.xd fs) := I1.hok d _ ed
  obtain ⟨mA, ns, rel⟩ := dk
  obtain ⟨od, ho, look⟩ := lookIn_ns ns
  obtain ⟨u, hu, ru⟩ := RelO.some_of (v := v) (o := mA f) (by rw [← l]; exact rel f)
  have J : PySem.W.InstAt s1.heap a ob C (some od) := ⟨ha, hz.1, by unfold PySem.W.notCls; rw [dt] <;> rfl, by rw [hz.2]; exact ho⟩
  exact HandSPX.exc_get I1.kIn J T.ga T.gg T.exC (PySem.W.findObj_own T.hdC no rfl (by rw [look, hu])) (handed_of ru) ⟨v, H1, I1.tok _, ru, q⟩
/-- what the written part tells of a class of exceptions, for isinstance -/
structure XiC (K : PySem.W.Frag) (C : Addr) : Prop where
  cl : (PySem.W.clsIn K C).isSome = true
  ga : PySem.W.findIn K (.ref C) "__getattribute__" = some (some (.builtin "BaseException.__getattribute__"))
  gg : PySem.W.findIn K (.ref C) "__getattr__" = some none
  ex : PySem.W.subIn K (.ref C) (.type "BaseException") = some true
  ca : PySem.W.findIn K (.ref C) "__class__" = some (some (.builtin "object.__class__"))
  sp : PySem.W.specialIn K (.builtin "object.__class__") "__get__" = some (some (.builtin "getset_descriptor.__get__"))
  tk : PySem.W.takesIn K (.builtin "object.__class__") = some true
  ob : PySem.W.mroIn K C (.type "object") = some true
/-- isinstance(x, D): x a kept exception of the class at C -/
def rIsK (K : PySem.W.Frag) : List V → Hp → VK → Prop := fun xs H Q => ∃ (a C : Addr) (D : V) (u : Value) (b : Bool), xs = [.ref a, D] ∧ ClsV D u ∧ ((∃ d fs, H a = some (ExK C d a) ∧ H d = some (.xd fs)) ∨ H a = some (ExN C a)) ∧ XiC K C ∧ PySem.W.kitOne K (.ref C) u = some b ∧ Q (.bl b) H
theorem call_isK : CallR X (.builtin "isinstance") (rIsK X.K) := by
  intro pins s σ H xs us Q I r h
  obtain ⟨a, C, D, w, b, rfl, k, ee, T, yes, q⟩ := h
  obtain ⟨u1, u2, rfl, r1, r2⟩ := vals2 r
  obtain rfl : u1 = Value.ref a := r1
  obtain rfl := k.eq r2
  rcases ee with ⟨d, fs, ea, ed⟩ | ea
  · obtain ⟨ob, fl, ha, hz, dt⟩ := exk_at I.hok ea
    have dk : ObjOk X.prog X.w H s.heap d (.xd fs) := I.hok d _ ed
    obtain ⟨mA, ns, rel⟩ := dk
    obtain ⟨od, ho, look⟩ := lookIn_ns ns
    have J : PySem.W.InstAt s.heap a ob C (some od) := ⟨ha, hz.1, by unfold PySem.W.notCls; rw [dt] <;> rfl, by rw [hz.2]; exact ho⟩
    exact PySem.W.kia_one (PySem.W.kitx_exc T.cl T.ga T.gg T.ex T.ca T.sp T.tk T.ob) I.kIn J yes (fun z => by cases z) fun tk => ⟨.bl b, H, I.tok tk, rfl, q⟩
  · have z : ObjOk X.prog X.w H s.heap a (.ext fun g => ∃ ob fl, g.get? a = some ob ∧ Zc (.ref C) none ob ∧ ob.data = .fields fl) := I.hok a _ ea
    obtain ⟨ob, fl, ha, hz, dt⟩ := z.1
    have J : PySem.W.InstAt s.heap a ob C none := ⟨ha, hz.1, by unfold PySem.W.notCls; rw [dt] <;> rfl, by rw [hz.2]; trivial⟩
    exact PySem.W.kia_one (PySem.W.kitx_exc T.cl T.ga T.gg T.ex T.ca T.sp T.tk T.ob) I.kIn J yes (fun z => by cases z) fun tk => ⟨.bl b, H, I.tok tk, rfl, q⟩
end
end BL

namespace BL
open PySem PySem.Spec PyProof.Rows L2
/-! values as trees; what stands for them in the heap -/
inductive PV where
  | non | bl (b : Bool) | int (i : Int) | str (x : Str) | lst (xs : List PV) | tup (xs : List PV)
  | way (s f c : Option Int) | mref (n : Nat) | dic (kvs : List (PV × PV))
/-- F: what never changes any more; H: the heap; θ: where the changing things stand -/
structure Wd where
  F : Hp
  H : Hp
  θ : List Addr
/-- the class of errors of this name -/
def ErrN (K : PySem.W.Frag) (x : Str) (Ce : Addr) : Prop := PySem.W.nsIn K mainGlobals x = some (some (.ref Ce))
/-- an error that was caught: its class and its fields -/
def excK (x : Str) (fs : List Str) (ys : List PV) : List (PV × PV) := (.str x, .non) :: fs.zipWith (fun f y => (.str f, y)) ys
mutual
inductive Rep (K : PySem.W.Frag) (C : Addr) (F : Hp) (θ : List Addr) : V → PV → Prop
  | non : Rep K C F θ .non .non
  | bl (b : Bool) : Rep K C F θ (.bl b) (.bl b)
  | int (i : Int) : Rep K C F θ (.int i) (.int i)
  | str (x : Str) : Rep K C F θ (.str x) (.str x)
  | lst {a : Addr} {vs : List V} {xs : List PV} : F a = some (.lst vs) → RepAll K C F θ vs xs → Rep K C F θ (.ref a) (.lst xs)
  | tup {a : Addr} {vs : List V} {xs : List PV} : SqT K F a vs → RepAll K C F θ vs xs → Rep K C F θ (.ref a) (.tup xs)
  | way {a : Addr} {s f c : Option Int} : WayAt C F a s f c → Rep K C F θ (.ref a) (.way s f c)
  | mref {a : Addr} {n : Nat} : θ[n]? = some a → Rep K C F θ (.ref a) (.mref n)
  | exc {a d Ce : Addr} {x : Str} {fs : List Str} {us : List V} {ys : List PV} {kvs : List (PV × PV)} : kvs = excK x fs ys → ErrN K x Ce → F a = some (ExK Ce d a) → F d = some (.xd (fs.zip us).reverse) → us.length = fs.length → RepAll K C F θ us ys → Rep K C F θ (.ref a) (.dic kvs)
  | exn {a Ce : Addr} {x : Str} {kvs : List (PV × PV)} : kvs = excK x [] [] → ErrN K x Ce → F a = some (ExN Ce a) → Rep K C F θ (.ref a) (.dic kvs)
inductive RepAll (K : PySem.W.Frag) (C : Addr) (F : Hp) (θ : List Addr) : List V → List PV → Prop
  | nil : RepAll K C F θ [] []
  | cons {v : V} {vs : List V} {x : PV} {xs : List PV} : Rep K C F θ v x → RepAll K C F θ vs xs → RepAll K C F θ (v :: vs) (x :: xs)
end
section
variable {K : PySem.W.Frag} {C : Addr}
mutual
theorem Rep.mono {F F' : Hp} {θ r : List Addr} (s : Same F F') : ∀ {v : V} {x : PV}, Rep K C F θ v x → Rep K C F' (θ ++ r) v x
  | _, _, .non => .non
  | _, _, .bl b => .bl b
  | _, _, .int i => .int i
  | _, _, .str x => .str x
  | _, _, .lst h a => .lst (s _ _ h) (RepAll.mono s a)
  | _, _, .tup h a => .tup (s.seT h) (RepAll.mono s a)
  | _, _, .way h => .way (h.same s)
  | _, _, .mref h => .mref (by
      rw [List.getElem?_append_left (List.getElem?_eq_some_iff.mp h).1]
      exact h)
  | _, _, .exc e n h1 h2 l a => .exc e n (s _ _ h1) (s _ _ h2) l (RepAll.mono s a)
  | _, _, .exn e n h1 => .exn e n (s _ _ h1)
theorem RepAll.mono {F F' : Hp} {θ r : List Addr} (s : Same F F') : ∀ {vs : List V} {xs : List PV}, RepAll K C F θ vs xs → RepAll K C F' (θ ++ r) vs xs
  | _, _, .nil => .nil
  | _, _, .cons h a => .cons (Rep.mono s h) (RepAll.mono s a)
end
theorem RepAll.len {F : Hp} {θ : List Addr} : ∀ {vs : List V} {xs : List PV}, RepAll K C F θ vs xs → vs.length = xs.length
  | _, _, .nil => rfl
  | _, _, .cons _ a => congrArg Nat.succ (RepAll.len a)
theorem RepAll.app {F : Hp} {θ : List Addr} : ∀ {vs us : List V} {xs ys : List PV}, RepAll K C F θ vs xs → RepAll K C F θ us ys → RepAll K C F θ (vs ++ us) (xs ++ ys)
  | _, _, _, _, .nil, b => b
  | _, _, _, _, .cons h a, b => .cons h (RepAll.app a b)
theorem RepAll.at {F : Hp} {θ : List Addr} : ∀ {vs : List V} {xs : List PV} {i : Nat} {x : PV}, RepAll K C F θ vs xs → xs[i]? = some x → ∃ v, vs[i]? = some v ∧ Rep K C F θ v x
  | _, _, 0, _, .cons h _, e => ⟨_, rfl, by cases Option.some.inj e; exact h⟩
  | _, _, i + 1, _, .cons _ a, e => RepAll.at (i := i) a e
theorem RepAll.atV {F : Hp} {θ : List Addr} : ∀ {vs : List V} {xs : List PV} {i : Nat} {v : V}, RepAll K C F θ vs xs → vs[i]? = some v → ∃ x, xs[i]? = some x ∧ Rep K C F θ v x
  | _, _, 0, _, .cons h _, e => ⟨_, rfl, by cases Option.some.inj e; exact h⟩
  | _, _, i + 1, _, .cons _ a, e => RepAll.atV (i := i) a e
theorem RepAll.drop {F : Hp} {θ : List Addr} : ∀ (n : Nat) {vs : List V} {xs : List PV}, RepAll K C F θ vs xs → RepAll K C F θ (vs.drop n) (xs.drop n)
  | 0, _, _, a => a
  | n + 1, _, _, .nil => .nil
  | n + 1, _, _, .cons _ a => RepAll.drop n a
theorem RepAll.take {F : Hp} {θ : List Addr} : ∀ (n : Nat) {vs : List V} {xs : List PV}, RepAll K C F θ vs xs → RepAll K C F θ (vs.take n) (xs.take n)
  | 0, _, _, a => .nil
  | n + 1, _, _, .nil => .nil
  | n + 1, _, _, .cons h a => .cons h (RepAll.take n a)
theorem RepAll.rev {F : Hp} {θ : List Addr} : ∀ {vs : List V} {xs : List PV}, RepAll K C F θ vs xs → RepAll K C F θ vs.reverse xs.reverse
  | _, _, .nil => .nil
  | _, _, .cons h a => by
    rw [List.reverse_cons, List.reverse_cons]
    exact (RepAll.rev a).app (.cons h .nil)
theorem RepAll.set {F : Hp} {θ : List Addr} : ∀ {vs : List V} {xs : List PV} (i : Nat) {v : V} {x : PV}, RepAll K C F θ vs xs → Rep K C F θ v x → RepAll K C F θ (vs.set i v) (xs.set i x)
  | _, _, _, _, _, .nil, _ => .nil
  | _, _, 0, _, _, .cons _ a, r => .cons r a
  | _, _, i + 1, _, _, .cons h a, r => .cons h (RepAll.set i a r)
end
/-- a key of a dict -/
def kP : Key → PV
  | .inl i => .int i
  | .inr x => .str x
/-- a dict (its keys numbers and texts, or tuples of these), an instance: what stands there, and its values -/
def DO (K : PySem.W.Frag) : List (PV × PV) → HO → List V → Prop
  | (.non, _) :: kvs, o, us => ∃ hs : List (Key × V), o = .dK hs ∧ us = hs.map Prod.snd ∧ kvs.map Prod.fst = hs.map fun h => kP h.1
  | (.bl _, _) :: kvs, o, us => ∃ hs : List (List Key × V), o = .dT hs ∧ us = hs.map Prod.snd ∧ kvs.map Prod.fst = hs.map fun h => .tup (h.1.map kP)
  | (.str x, _) :: kvs, o, us => ∃ (Ce dx : Addr) (fs : List (Str × V)), o = .ins Ce dx fs ∧ ErrN K x Ce ∧ us = fs.map Prod.snd ∧ kvs.map Prod.fst = fs.map fun f => .str f.1
  | _, _, _ => False
theorem DO.isD {K : PySem.W.Frag} {es : List (PV × PV)} {o : HO} {us : List V} (d : DO K es o us) : (∃ hs, o = .dK hs) ∨ (∃ hs, o = .dT hs) ∨ ∃ a b c, o = .ins a b c := by
  unfold DO at d
  split at d
  · obtain ⟨hs, e, _⟩ := d; exact .inl ⟨hs, e⟩
  · obtain ⟨hs, e, _⟩ := d; exact .inr (.inl ⟨hs, e⟩)
  · obtain ⟨a, b, c, e, _⟩ := d; exact .inr (.inr ⟨a, b, c, e⟩)
  · exact d.elim
/-- what a changing thing at a holds -/
def Mut (K : PySem.W.Frag) (C : Addr) (W : Wd) (a : Addr) : PV → Prop
  | .lst xs => ∃ vs, W.H a = some (.lst vs) ∧ RepAll K C W.F W.θ vs xs
  | .dic es => ∃ o us, W.H a = some o ∧ DO K es o us ∧ RepAll K C W.F W.θ us (es.tail.map Prod.snd)
  | _ => False
/-- what an own list at a holds -/
def MutL (K : PySem.W.Frag) (C : Addr) (W : Wd) (a : Addr) : PV → Prop
  | .lst xs => ∃ vs, W.H a = some (.lst vs) ∧ RepAll K C W.F W.θ vs xs
  | _ => False
structure Inv1 (K : PySem.W.Frag) (C : Addr) (W : Wd) (S : List PV) : Prop where
  s : Same W.F W.H
  len : W.θ.length = S.length
  nd : W.θ.Nodup
  m : ∀ (n : Nat) (a : Addr) (x : PV), W.θ[n]? = some a → S[n]? = some x → W.F a = none ∧ Mut K C W a x
structure Gro (W W' : Wd) : Prop where
  f : Same W.F W'.F
  t : ∃ r, W'.θ = W.θ ++ r ∧ ∀ p ∈ r, W.H p = none
  h : ∀ p o, W.H p = some o → p ∉ W.θ → W'.H p = some o
  k : ∀ p o, W.H p = some o → ∃ o', W'.H p = some o'
  n : ∀ p o, W.H p = some o → W.F p = none → W'.F p = none
theorem Gro.refl (W : Wd) : Gro W W := ⟨Same.refl _, ⟨[], (List.append_nil _).symm, fun _ h => by cases h⟩, fun _ _ h _ => h, fun _ o h => ⟨o, h⟩, fun _ _ _ h => h⟩
theorem Gro.trans {W W1 W2 : Wd} (a : Gro W W1) (b : Gro W1 W2) : Gro W W2 := by
  obtain ⟨r, er, fr⟩ := a.t
  obtain ⟨q, eq, fq⟩ := b.t
  refine ⟨a.f.trans b.f, ⟨r ++ q, by rw [eq, er, List.append_assoc], fun p hp => ?_⟩, fun p o e ni => ?_, fun p o e => ?_, fun p o e z => ?_⟩
  · rcases List.mem_append.mp hp with hp | hp
    · exact fr p hp
    · cases e : W.H p with
      | none => rfl
      | some o =>
        obtain ⟨o', e'⟩ := a.k p o e
        rw [fq p hp] at e'
        cases e'
  · refine b.h p o (a.h p o e ni) fun m => ?_
    rw [er] at m
    rcases List.mem_append.mp m with m | m
    · exact ni m
    · rw [fr p m] at e
      cases e
  · obtain ⟨o', e'⟩ := a.k p o e
    exact b.k p o' e'
  · obtain ⟨o', e'⟩ := a.k p o e
    exact b.n p o' e' (a.n p o e z)
section
variable {K : PySem.W.Frag} {C : Addr}
abbrev RepW (K : PySem.W.Frag) (C : Addr) (W : Wd) (v : V) (x : PV) : Prop := Rep K C W.F W.θ v x
theorem Rep.ext {W W' : Wd} {v : V} {x : PV} (r : Rep K C W.F W.θ v x) (e : Gro W W') : Rep K C W'.F W'.θ v x := by
  obtain ⟨q, eq, _⟩ := e.t
  rw [eq]
  exact r.mono e.f
theorem RepAll.ext {W W' : Wd} {vs : List V} {xs : List PV} (r : RepAll K C W.F W.θ vs xs) (e : Gro W W') : RepAll K C W'.F W'.θ vs xs := by
  obtain ⟨q, eq, _⟩ := e.t
  rw [eq]
  exact r.mono e.f
theorem Mut.laid {W : Wd} {a : Addr} {x : PV} (m : Mut K C W a x) : ∃ o, W.H a = some o := by
  cases x with
  | lst xs => obtain ⟨vs, e, _⟩ := m; exact ⟨_, e⟩
  | dic es => obtain ⟨o, us, e, _⟩ := m; exact ⟨_, e⟩
  | _ => exact m.elim
theorem Mut.to {W W' : Wd} {a : Addr} {x : PV} (m : Mut K C W a x) (h : ∀ o, W.H a = some o → W'.H a = some o) (r : ∀ {vs xs}, RepAll K C W.F W.θ vs xs → RepAll K C W'.F W'.θ vs xs) : Mut K C W' a x := by
  cases x with
  | lst xs => obtain ⟨vs, e, z⟩ := m; exact ⟨_, h _ e, r z⟩
  | dic es => obtain ⟨o, us, e, d, z⟩ := m; exact ⟨o, us, h _ e, d, r z⟩
  | _ => exact m.elim
theorem Mut.ext {W W' : Wd} {a : Addr} {x : PV} (m : Mut K C W a x) (e : Gro W W') (n : a ∉ W.θ) : Mut K C W' a x := by
  exact m.to (fun o h => e.h _ _ h n) (fun r => r.ext e)
theorem MutL.mut {W : Wd} {a : Addr} {x : PV} (m : MutL K C W a x) : Mut K C W a x := by
  cases x with
  | lst xs => exact m
  | _ => exact m.elim
theorem MutL.laid {W : Wd} {a : Addr} {x : PV} (m : MutL K C W a x) : ∃ o, W.H a = some o := m.mut.laid
theorem MutL.to {W W' : Wd} {a : Addr} {x : PV} (m : MutL K C W a x) (h : ∀ o, W.H a = some o → W'.H a = some o) (r : ∀ {vs xs}, RepAll K C W.F W.θ vs xs → RepAll K C W'.F W'.θ vs xs) : MutL K C W' a x := by
  cases x with
  | lst xs => obtain ⟨vs, e, z⟩ := m; exact ⟨_, h _ e, r z⟩
  | _ => exact m.elim
theorem MutL.ext {W W' : Wd} {a : Addr} {x : PV} (m : MutL K C W a x) (e : Gro W W') (n : a ∉ W.θ) : MutL K C W' a x := m.to (fun o h => e.h _ _ h n) (fun r => r.ext e)
inductive SlV where
  | un | val (x : PV) | own (x : PV)
def OwnAt (K : PySem.W.Frag) (C : Addr) (W0 W : Wd) (a : Addr) (x : PV) : Prop := W0.H a = none ∧ W.F a = none ∧ a ∉ W.θ ∧ MutL K C W a x
def SlotOk (K : PySem.W.Frag) (C : Addr) (W0 W : Wd) (v : Option (Option V)) : SlV → Prop
  | .un => True
  | .val x => ∃ u, v = some (some u) ∧ RepW K C W u x
  | .own x => ∃ a, v = some (some (.ref a)) ∧ OwnAt K C W0 W a x
structure Rel (K : PySem.W.Frag) (C : Addr) (W0 W : Wd) (σ : L2.St) (ρ : List SlV) (S : List PV) : Prop where
  e : Gro W0 W
  i : Inv1 K C W S
  l : σ.length = ρ.length
  s : ∀ (j : Nat) (sl : SlV), ρ[j]? = some sl → SlotOk K C W0 W σ[j]? sl
  d : ∀ (j k : Nat) (x y : PV) (a : Addr), ρ[j]? = some (.own x) → ρ[k]? = some (.own y) → σ[j]? = some (some (.ref a)) → σ[k]? = some (some (.ref a)) → j = k
theorem OwnAt.ext {W0 W W' : Wd} {a : Addr} {x : PV} (m : OwnAt K C W0 W a x) (e : Gro W W') : OwnAt K C W0 W' a x := by
  obtain ⟨h1, h2, h3, h4⟩ := m
  obtain ⟨o, ho⟩ := h4.laid
  refine ⟨h1, e.n _ _ ho h2, ?_, h4.ext e h3⟩
  obtain ⟨r, er, fr⟩ := e.t
  rw [er]
  intro z
  rcases List.mem_append.mp z with z | z
  · exact h3 z
  · rw [fr _ z] at ho
    cases ho
theorem SlotOk.ext {W0 W W' : Wd} {v : Option (Option V)} {sl : SlV} (m : SlotOk K C W0 W v sl) (e : Gro W W') : SlotOk K C W0 W' v sl := by
  cases sl with
  | un => trivial
  | val x => obtain ⟨u, h, r⟩ := m; exact ⟨u, h, r.ext e⟩
  | own x => obtain ⟨a, h, r⟩ := m; exact ⟨a, h, r.ext e⟩
theorem Rel.ext {W0 W W' : Wd} {σ : L2.St} {ρ : List SlV} {S S' : List PV} (r : Rel K C W0 W σ ρ S) (e : Gro W W') (i : Inv1 K C W' S') : Rel K C W0 W' σ ρ S' :=
  ⟨r.e.trans e, i, r.l, fun j sl h => (r.s j sl h).ext e, r.d⟩
end
/-! ### what an expression, a test, arguments, a statement do, by trees -/
abbrev ME := List SlV → List PV → Option (PV × List PV)
abbrev MT := List SlV → List PV → Option (Bool × List PV)
abbrev MA := List SlV → List PV → Option (List PV × List PV)
inductive Ou where
  | nx (ρ : List SlV) (S : List PV) | rt (x : PV) (S : List PV) | bk (ρ : List SlV) (S : List PV) | ct (ρ : List SlV) (S : List PV)
abbrev MS := List SlV → List PV → Option Ou
section
variable (K : PySem.W.Frag) (C : Addr)
def tM (m : ME) : TE := fun σ H Q => ∃ W0 W ρ S x S', H = W.H ∧ Rel K C W0 W σ ρ S ∧ m ρ S = some (x, S') ∧ ∀ v W', Rel K C W0 W' σ ρ S' → Gro W W' → RepW K C W' v x → Q v W'.H
def tMT (m : MT) : TT := fun σ H Q => ∃ W0 W ρ S x S', H = W.H ∧ Rel K C W0 W σ ρ S ∧ m ρ S = some (x, S') ∧ ∀ W', Rel K C W0 W' σ ρ S' → Gro W W' → Q x W'.H
def tMA (m : MA) : TA := fun σ H Q => ∃ W0 W ρ S xs S', H = W.H ∧ Rel K C W0 W σ ρ S ∧ m ρ S = some (xs, S') ∧ ∀ vs W', Rel K C W0 W' σ ρ S' → Gro W W' → RepAll K C W'.F W'.θ vs xs → Q vs W'.H
/-- what is never lost from statement to statement -/
structure GroF (W W' : Wd) : Prop where
  f : Same W.F W'.F
  t : ∃ r, W'.θ = W.θ ++ r
theorem GroF.refl (W : Wd) : GroF W W := ⟨Same.refl _, [], (List.append_nil _).symm⟩
theorem GroF.trans {W W1 W2 : Wd} (a : GroF W W1) (b : GroF W1 W2) : GroF W W2 := by
  obtain ⟨r, er⟩ := a.t
  obtain ⟨q, eq⟩ := b.t
  exact ⟨a.f.trans b.f, r ++ q, by rw [eq, er, List.append_assoc]⟩
theorem Gro.groF {W W' : Wd} (e : Gro W W') : GroF W W' := by
  obtain ⟨r, er, _⟩ := e.t
  exact ⟨e.f, r, er⟩
def Pst (W0 W : Wd) (D : Ends) : Ou → Prop
  | .nx ρ S => ∀ σ W', GroF W W' → Rel K C W0 W' σ ρ S → D.nx σ W'.H
  | .rt x S => ∀ v W', Gro W0 W' → Inv1 K C W' S → RepW K C W' v x → D.rt v W'.H
  | .bk ρ S => ∀ σ W', GroF W W' → Rel K C W0 W' σ ρ S → D.bk σ W'.H
  | .ct ρ S => ∀ σ W', GroF W W' → Rel K C W0 W' σ ρ S → D.ct σ W'.H
def tMS (m : MS) : TS := fun D σ H => ∃ W0 W ρ S out, H = W.H ∧ Rel K C W0 W σ ρ S ∧ m ρ S = some out ∧ Pst K C W0 W D out
/-- a def's promise by its mirror -/
def spM (m : List PV → List PV → Option (PV × List PV)) : Sp := fun vs H Q _ => ∃ W S xs x S', H = W.H ∧ Inv1 K C W S ∧ RepAll K C W.F W.θ vs xs ∧ m xs S = some (x, S') ∧ ∀ v W', Gro W W' → Inv1 K C W' S' → RepW K C W' v x → Q v W'.H
end
theorem GroF.rep {K : PySem.W.Frag} {C : Addr} {W W' : Wd} {v : V} {x : PV} (e : GroF W W') (r : Rep K C W.F W.θ v x) : Rep K C W'.F W'.θ v x := by
  obtain ⟨q, eq⟩ := e.t
  rw [eq]
  exact r.mono e.f
theorem PT.weak {X : Cx} {e : Expr} {t t' : TT} (h : PT X e t) (i : ∀ σ H Q, t' σ H Q → t σ H Q) : PT X e t' := ⟨fun pins s σ H Q I q => h.run pins s σ H Q I (i σ H Q q)⟩
theorem PW.weak {X : Cx} {e : Expr} {t t' : TT} (h : PW X e t) (i : ∀ σ H Q, t' σ H Q → t σ H Q) : PW X e t' := ⟨fun wh pins s σ H Q I q => h.run wh pins s σ H Q I (i σ H Q q)⟩
theorem PA.weak {X : Cx} {e : List Expr} {t t' : TA} (h : PA X e t) (i : ∀ σ H Q, t' σ H Q → t σ H Q) : PA X e t' := ⟨fun pos pins s σ H Q I q => h.run pos pins s σ H Q I (i σ H Q q)⟩
theorem PS.weak {X : Cx} {e : Stmt} {t t' : TS} (h : PS X e t) (i : ∀ D σ H, t' D σ H → t D σ H) : PS X e t' := ⟨fun pins s σ H D I q => h.run pins s σ H D I (i D σ H q)⟩
theorem PSs.weak {X : Cx} {e : List Stmt} {t t' : TS} (h : PSs X e t) (i : ∀ D σ H, t' D σ H → t D σ H) : PSs X e t' := ⟨fun pins s σ H D I q => h.run pins s σ H D I (i D σ H q)⟩
end BL

namespace BL
open PySem PySem.Spec PyProof.Rows L2
/-! expressions by trees -/
theorem OpR.or {X : Cx} {f : Value → Value → Sem Value} {r r' : R2} (h : OpR X f r) (h' : OpR X f r') : OpR X f (fun x y H Q => r x y H Q ∨ r' x y H Q) := by
  intro pins s σ H x y v u Q I rx ry q
  rcases q with q | q
  · exact h pins s σ H x y v u Q I rx ry q
  · exact h' pins s σ H x y v u Q I rx ry q
theorem CallR.or {X : Cx} {f : Value} {r r' : List V → Hp → VK → Prop} (h : CallR X f r) (h' : CallR X f r') : CallR X f (fun xs H Q => r xs H Q ∨ r' xs H Q) := by
  intro pins s σ H xs us Q I rx q
  rcases q with q | q
  · exact h pins s σ H xs us Q I rx q
  · exact h' pins s σ H xs us Q I rx q
theorem PI.or {X : Cx} {tg e : Expr} {w w' : TI} (h : PI X tg e w) (h' : PI X tg e w') : PI X tg e (fun σ H R => w σ H R ∨ w' σ H R) := by
  refine ⟨fun pins s σ H R I q => ?_⟩
  rcases q with q | q
  · exact h.run pins s σ H R I q
  · exact h'.run pins s σ H R I q
theorem laid {K : PySem.W.Frag} {C : Addr} {W : Wd} {S : List PV} {p : Addr} (o : HO) (i : Inv1 K C W S) (n : W.H p = none) : Gro W ⟨upd W.F p o, upd W.H p o, W.θ⟩ ∧ Inv1 K C ⟨upd W.F p o, upd W.H p o, W.θ⟩ S := by
  have fn : W.F p = none := i.s.free n
  have g : Gro W ⟨upd W.F p o, upd W.H p o, W.θ⟩ := by
    refine ⟨same_upd fn, ⟨[], (List.append_nil _).symm, fun _ h => by cases h⟩, fun q o' e _ => ?_, fun q o' e => ?_, fun q o' e z => ?_⟩
    · show upd W.H p o q = _
      rw [upd_ne (ne_of_none e n)]
      exact e
    · exact ⟨o', by show upd W.H p o q = _; rw [upd_ne (ne_of_none e n)]; exact e⟩
    · show upd W.F p o q = _
      rw [upd_ne (ne_of_none e n)]
      exact z
  refine ⟨g, ⟨fun q o' e => ?_, i.len, i.nd, fun k a x h1 h2 => ?_⟩⟩
  · change upd W.F p o q = some o' at e
    show upd W.H p o q = some o'
    by_cases c : q = p
    · subst c
      rw [upd_same] at e ⊢
      exact e
    · rw [upd_ne c] at e ⊢
      exact i.s _ _ e
  · obtain ⟨z, m⟩ := i.m k a x h1 h2
    obtain ⟨o', ho⟩ := m.laid
    refine ⟨g.n _ _ ho z, ?_⟩
    refine m.to (fun o e => ?_) (fun r => r.ext g)
    show upd W.H p _ a = _
    rw [upd_ne (ne_of_none e n)]
    exact e
section
variable {X : Cx} {C : Addr} {e a b : Expr} {es : List Expr} {pos : Pos} {m ma mb : ME} {mt : MT} {mes : MA}
/-- reading a name -/
def mVar (i : Nat) : ME := fun ρ S => match ρ[i]? with
  | some (.val x) => some (x, S)
  | _ => none
theorem xv {i : Nat} (h : PE X e (tVar i)) : PE X e (tM X.K C (mVar i)) := PE.weak h fun σ H Q ⟨W0, W, ρ, S, x, S', eH, R, em, q⟩ => by
  subst eH
  unfold mVar at em
  split at em
  · rename_i y hy
    cases em
    obtain ⟨u, eu, ru⟩ := R.s i _ hy
    exact ⟨u, eu, q u W R (Gro.refl _) ru⟩
  · cases em
def mC (x : PV) : ME := fun _ S => some (x, S)
def cst : V → PV
  | .non => .non
  | .bl b => .bl b
  | .int i => .int i
  | .str x => .str x
  | _ => .non
def isCst : V → Bool
  | .non => true
  | .bl b => true
  | .int i => true
  | .str x => true
  | _ => false
theorem xc {v : V} (h : PE X e (tC v)) (c : isCst v = true := by rfl) : PE X e (tM X.K C (mC (cst v))) := PE.weak h fun σ H Q ⟨W0, W, ρ, S, x, S', eH, R, em, q⟩ => by
  subst eH
  cases em
  refine q v W R (Gro.refl _) ?_
  cases v with
  | non => exact .non
  | bl b => exact .bl b
  | int i => exact .int i
  | str x => exact .str x
  | _ => cases c
/-- two values in, one out -/
def LR2 (K : PySem.W.Frag) (C : Addr) (r : R2) (f : List PV → PV → PV → Option PV) : Prop := ∀ (W : Wd) (S : List PV) (v u : V) (x y z : PV) (Q : VK), Inv1 K C W S → RepW K C W v x → RepW K C W u y → f S x y = some z →
  (∀ w W', Gro W W' → Inv1 K C W' S → RepW K C W' w z → Q w W'.H) → r v u W.H Q
def mOp (f : List PV → PV → PV → Option PV) (ma mb : ME) : ME := fun ρ S => match ma ρ S with
  | some (x, S1) => match mb ρ S1 with
    | some (y, S2) => match f S2 x y with
      | some z => some (z, S2)
      | none => none
    | none => none
  | none => none
theorem mOp_inv {f : List PV → PV → PV → Option PV} {ρ : List SlV} {S S' : List PV} {z : PV} (h : mOp f ma mb ρ S = some (z, S')) : ∃ x S1 y, ma ρ S = some (x, S1) ∧ mb ρ S1 = some (y, S') ∧ f S' x y = some z := by
  unfold mOp at h
  split at h
  · rename_i x S1 e1
    split at h
    · rename_i y S2 e2
      split at h
      · rename_i w e3
        cases h
        exact ⟨x, S1, y, e1, e2, e3⟩
      · cases h
    · cases h
  · cases h
theorem xop {r : R2} {f : List PV → PV → PV → Option PV} (l : LR2 X.K C r f) (h : PE X e (tOp r (tM X.K C ma) (tM X.K C mb))) : PE X e (tM X.K C (mOp f ma mb)) := PE.weak h fun σ H Q ⟨W0, W, ρ, S, z, S', eH, R, em, q⟩ => by
  subst eH
  obtain ⟨x, S1, y, e1, e2, e3⟩ := mOp_inv em
  exact ⟨W0, W, ρ, S, x, S1, rfl, R, e1, fun v W1 R1 g1 r1 => ⟨W0, W1, ρ, S1, y, S', rfl, R1, e2, fun u W2 R2 g2 r2 => l W2 S' v u x y z Q R2.i (r1.ext g2) r2 e3 fun w W3 g3 i3 r3 => q w W3 (R2.ext g3 i3) ((g1.trans g2).trans g3) r3⟩⟩
theorem LR2.or {r r' : R2} {f : List PV → PV → PV → Option PV} {K : PySem.W.Frag} (h : ∀ (W : Wd) (S : List PV) (v u : V) (x y z : PV) (Q : VK), Inv1 K C W S → RepW K C W v x → RepW K C W u y → f S x y = some z →
  (∀ w W', Gro W W' → Inv1 K C W' S → RepW K C W' w z → Q w W'.H) → r v u W.H Q ∨ r' v u W.H Q) : LR2 K C (fun x y H Q => r x y H Q ∨ r' x y H Q) f := h
/-- one value in, one out -/
def LR1 (K : PySem.W.Frag) (C : Addr) (r : V → Hp → VK → Prop) (f : List PV → PV → Option PV) : Prop := ∀ (W : Wd) (S : List PV) (v : V) (x z : PV) (Q : VK), Inv1 K C W S → RepW K C W v x → f S x = some z →
  (∀ w W', Gro W W' → Inv1 K C W' S → RepW K C W' w z → Q w W'.H) → r v W.H Q
def mUn (f : List PV → PV → Option PV) (ma : ME) : ME := fun ρ S => match ma ρ S with
  | some (x, S1) => match f S1 x with
    | some z => some (z, S1)
    | none => none
  | none => none
theorem mUn_inv {f : List PV → PV → Option PV} {ρ : List SlV} {S S' : List PV} {z : PV} (h : mUn f ma ρ S = some (z, S')) : ∃ x, ma ρ S = some (x, S') ∧ f S' x = some z := by
  unfold mUn at h
  split at h
  · rename_i x S1 e1
    split at h
    · rename_i w e3
      cases h
      exact ⟨x, e1, e3⟩
    · cases h
  · cases h
theorem xun {r : V → Hp → VK → Prop} {f : List PV → PV → Option PV} (l : LR1 X.K C r f) (h : PE X e (tUn r (tM X.K C ma))) : PE X e (tM X.K C (mUn f ma)) := PE.weak h fun σ H Q ⟨W0, W, ρ, S, z, S', eH, R, em, q⟩ => by
  subst eH
  obtain ⟨x, e1, e3⟩ := mUn_inv em
  exact ⟨W0, W, ρ, S, x, S', rfl, R, e1, fun v W1 R1 g1 r1 => l W1 S' v x z Q R1.i r1 e3 fun w W3 g3 i3 r3 => q w W3 (R1.ext g3 i3) (g1.trans g3) r3⟩
/-! the arguments -/
def mNil : MA := fun _ S => some ([], S)
def mCons (ma : ME) (mr : MA) : MA := fun ρ S => match ma ρ S with
  | some (x, S1) => match mr ρ S1 with
    | some (xs, S2) => some (x :: xs, S2)
    | none => none
  | none => none
theorem mCons_inv {mr : MA} {ρ : List SlV} {S S' : List PV} {z : List PV} (h : mCons ma mr ρ S = some (z, S')) : ∃ x S1 xs, ma ρ S = some (x, S1) ∧ mr ρ S1 = some (xs, S') ∧ z = x :: xs := by
  unfold mCons at h
  split at h
  · rename_i x S1 e1
    split at h
    · rename_i y S2 e2
      cases h
      exact ⟨x, S1, y, e1, e2, rfl⟩
    · cases h
  · cases h
theorem xnil : PA X [] (tMA X.K C mNil) := PA.weak pa_nil fun σ H Q ⟨W0, W, ρ, S, z, S', eH, R, em, q⟩ => by
  subst eH
  cases em
  exact q [] W R (Gro.refl _) .nil
theorem xcons (ha : PE X e (tM X.K C ma)) (hr : PA X es (tMA X.K C mes)) (hs : starEach (e :: es) X.env = (false, eval e X.env) :: starEach es X.env := by rfl) : PA X (e :: es) (tMA X.K C (mCons ma mes)) := PA.weak (pa_cons ha hr hs) fun σ H Q ⟨W0, W, ρ, S, z, S', eH, R, em, q⟩ => by
  subst eH
  obtain ⟨x, S1, xs, e1, e2, rfl⟩ := mCons_inv em
  exact ⟨W0, W, ρ, S, x, S1, rfl, R, e1, fun v W1 R1 g1 r1 => ⟨W0, W1, ρ, S1, xs, S', rfl, R1, e2, fun us W2 R2 g2 r2 => q _ _ R2 (g1.trans g2) (.cons (r1.ext g2) r2)⟩⟩
/-- values in, one out -/
def LRn (K : PySem.W.Frag) (C : Addr) (r : List V → Hp → VK → Prop) (f : List PV → List PV → Option PV) : Prop := ∀ (W : Wd) (S : List PV) (vs : List V) (xs : List PV) (z : PV) (Q : VK), Inv1 K C W S → RepAll K C W.F W.θ vs xs → f S xs = some z →
  (∀ w W', Gro W W' → Inv1 K C W' S → RepW K C W' w z → Q w W'.H) → r vs W.H Q
def mFn (f : List PV → List PV → Option PV) (ma : MA) : ME := fun ρ S => match ma ρ S with
  | some (xs, S1) => match f S1 xs with
    | some z => some (z, S1)
    | none => none
  | none => none
theorem mFn_inv {f : List PV → List PV → Option PV} {ρ : List SlV} {S S' : List PV} {z : PV} (h : mFn f mes ρ S = some (z, S')) : ∃ xs, mes ρ S = some (xs, S') ∧ f S' xs = some z := by
  unfold mFn at h
  split at h
  · rename_i x S1 e1
    split at h
    · rename_i w e3
      cases h
      exact ⟨x, e1, e3⟩
    · cases h
  · cases h
theorem xfn {r : List V → Hp → VK → Prop} {f : List PV → List PV → Option PV} (l : LRn X.K C r f) (h : PE X e (tCB r (tMA X.K C mes))) : PE X e (tM X.K C (mFn f mes)) := PE.weak h fun σ H Q ⟨W0, W, ρ, S, z, S', eH, R, em, q⟩ => by
  subst eH
  obtain ⟨x, e1, e3⟩ := mFn_inv em
  exact ⟨W0, W, ρ, S, x, S', rfl, R, e1, fun v W1 R1 g1 r1 => l W1 S' v x z Q R1.i r1 e3 fun w W3 g3 i3 r3 => q w W3 (R1.ext g3 i3) (g1.trans g3) r3⟩
/-- tuples, lists -/
def mTup (ma : MA) : ME := fun ρ S => match ma ρ S with
  | some (xs, S1) => if xs.length ≤ 100000 then some (.tup xs, S1) else none
  | none => none
def mLst (ma : MA) : ME := fun ρ S => match ma ρ S with
  | some (xs, S1) => if xs.length ≤ 100000 then some (.lst xs, S1) else none
  | none => none
theorem lim : 100000 ≤ sizeLine := by decide
theorem xtup {x1} (h : PA X es (tMA X.K C mes)) : PE X (.Tuple es x1 pos) (tM X.K C (mTup mes)) := PE.weak (pe_tup h) fun σ H Q ⟨W0, W, ρ, S, z, S', eH, R, em, q⟩ => by
  subst eH
  unfold mTup at em
  split at em
  · rename_i xs S1 e1
    split at em
    · rename_i hl
      cases em
      refine ⟨W0, W, ρ, S, xs, S', rfl, R, e1, fun vs W1 R1 g1 r1 => ⟨by rw [r1.len]; exact Nat.le_trans hl lim, fun p np => ?_⟩⟩
      obtain ⟨g2, i2⟩ := laid (.tup vs) R1.i np
      exact q _ _ (R1.ext g2 i2) (g1.trans g2) (.tup (SqT.of upd_same) (r1.ext g2))
    · cases em
  · cases em
theorem xlst (h : PA X es (tMA X.K C mes)) : PE X (.List es pos) (tM X.K C (mLst mes)) := PE.weak (pe_lst h) fun σ H Q ⟨W0, W, ρ, S, z, S', eH, R, em, q⟩ => by
  subst eH
  unfold mLst at em
  split at em
  · rename_i xs S1 e1
    split at em
    · rename_i hl
      cases em
      refine ⟨W0, W, ρ, S, xs, S', rfl, R, e1, fun vs W1 R1 g1 r1 => ⟨by rw [r1.len]; exact Nat.le_trans hl lim, fun p np => ?_⟩⟩
      obtain ⟨g2, i2⟩ := laid (.lst vs) R1.i np
      exact q _ _ (R1.ext g2 i2) (g1.trans g2) (.lst upd_same (r1.ext g2))
    · cases em
  · cases em
/-- a call of a def by its mirror -/
def mCall (f : List PV → List PV → Option (PV × List PV)) (ma : MA) : ME := fun ρ S => match ma ρ S with
  | some (xs, S1) => f xs S1
  | none => none
theorem xcall {f : List PV → List PV → Option (PV × List PV)} {E : XK} (h : PE X e (tCall (spM X.K C f) [] E (tMA X.K C mes))) : PE X e (tM X.K C (mCall f mes)) := PE.weak h fun σ H Q ⟨W0, W, ρ, S, z, S', eH, R, em, q⟩ => by
  subst eH
  unfold mCall at em
  split at em
  · rename_i xs S1 e1
    exact ⟨W0, W, ρ, S, xs, S1, rfl, R, e1, fun vs W1 R1 g1 r1 => ⟨W1, S1, xs, z, S', rfl, R1.i, by rw [List.append_nil]; exact r1, em, fun v W2 g2 i2 r2 => q v W2 (R1.ext g2 i2) (g1.trans g2) r2⟩⟩
  · cases em
/-- tests -/
def mTru (ma : ME) : MT := fun ρ S => match ma ρ S with
  | some (.bl b, S1) => some (b, S1)
  | _ => none
theorem mTru_inv {ρ : List SlV} {S S' : List PV} {b : Bool} (h : mTru ma ρ S = some (b, S')) : ma ρ S = some (.bl b, S') := by
  unfold mTru at h
  split at h
  · cases h
    assumption
  · cases h
theorem xtB (h : PT X e (tB (tM X.K C ma))) : PT X e (tMT X.K C (mTru ma)) := PT.weak h fun σ H Q ⟨W0, W, ρ, S, z, S', eH, R, em, q⟩ => by
  subst eH
  exact ⟨W0, W, ρ, S, .bl z, S', rfl, R, mTru_inv em, fun v W1 R1 g1 r1 => by cases r1; exact ⟨z, rfl, q W1 R1 g1⟩⟩
theorem xtC {r : R2} {f : List PV → PV → PV → Option PV} (l : LR2 X.K C r f) (h : PT X e (tTest (tOp r (tM X.K C ma) (tM X.K C mb)))) : PT X e (tMT X.K C (mTru (mOp f ma mb))) := PT.weak h fun σ H Q ⟨W0, W, ρ, S, z, S', eH, R, em, q⟩ => by
  subst eH
  obtain ⟨x, S1, y, e1, e2, e3⟩ := mOp_inv (mTru_inv em)
  exact ⟨W0, W, ρ, S, x, S1, rfl, R, e1, fun v W1 R1 g1 r1 => ⟨W0, W1, ρ, S1, y, S', rfl, R1, e2, fun u W2 R2 g2 r2 => l W2 S' v u x y (.bl z) _ R2.i (r1.ext g2) r2 e3 fun w W3 g3 i3 r3 => by cases r3; exact ⟨z, rfl, q W3 (R2.ext g3 i3) ((g1.trans g2).trans g3)⟩⟩⟩
def mNotT (mt : MT) : MT := fun ρ S => match mt ρ S with
  | some (b, S1) => some (!b, S1)
  | none => none
theorem xnotT (h : PT X a (tMT X.K C mt)) : PT X (.UnaryOp .Not a pos) (tMT X.K C (mNotT mt)) := PT.weak (pt_not h) fun σ H Q ⟨W0, W, ρ, S, z, S', eH, R, em, q⟩ => by
  subst eH
  unfold mNotT at em
  split at em
  · rename_i b' S1 e1
    cases em
    exact ⟨W0, W, ρ, S, b', S', rfl, R, e1, fun W1 R1 g1 => q W1 R1 g1⟩
  · cases em
def mAndT (mt mu : MT) : MT := fun ρ S => match mt ρ S with
  | some (true, S1) => mu ρ S1
  | some (false, S1) => some (false, S1)
  | none => none
def mOrT (mt mu : MT) : MT := fun ρ S => match mt ρ S with
  | some (true, S1) => some (true, S1)
  | some (false, S1) => mu ρ S1
  | none => none
variable {mu : MT} {rest : List Expr}
theorem xw1 (h : PW X e mt') : PW X e mt' := h
theorem xandW1 (h : PT X a (tMT X.K C mt)) : PW X (.BoolOp .And [a] pos) (tMT X.K C mt) := pw_and1 h
theorem xorW1 (h : PT X a (tMT X.K C mt)) : PW X (.BoolOp .Or [a] pos) (tMT X.K C mt) := pw_or1 h
theorem xandW (ha : PT X a (tMT X.K C mt)) (hb : PW X (.BoolOp .And (b :: rest) pos) (tMT X.K C mu)) : PW X (.BoolOp .And (a :: b :: rest) pos) (tMT X.K C (mAndT mt mu)) := PW.weak (pw_and ha hb) fun σ H Q ⟨W0, W, ρ, S, z, S', eH, R, em, q⟩ => by
  subst eH
  unfold mAndT at em
  split at em
  · rename_i S1 e1
    exact ⟨W0, W, ρ, S, true, S1, rfl, R, e1, fun W1 R1 g1 => by refine iteT ?_; exact ⟨W0, W1, ρ, S1, z, S', rfl, R1, em, fun W2 R2 g2 => q W2 R2 (g1.trans g2)⟩⟩
  · rename_i S1 e1
    cases em
    exact ⟨W0, W, ρ, S, false, S', rfl, R, e1, fun W1 R1 g1 => by refine iteF ?_; exact q W1 R1 g1⟩
  · cases em
theorem xorW (ha : PT X a (tMT X.K C mt)) (hb : PW X (.BoolOp .Or (b :: rest) pos) (tMT X.K C mu)) : PW X (.BoolOp .Or (a :: b :: rest) pos) (tMT X.K C (mOrT mt mu)) := PW.weak (pw_or ha hb) fun σ H Q ⟨W0, W, ρ, S, z, S', eH, R, em, q⟩ => by
  subst eH
  unfold mOrT at em
  split at em
  · rename_i S1 e1
    cases em
    exact ⟨W0, W, ρ, S, true, S', rfl, R, e1, fun W1 R1 g1 => by refine iteT ?_; exact q W1 R1 g1⟩
  · rename_i S1 e1
    exact ⟨W0, W, ρ, S, false, S1, rfl, R, e1, fun W1 R1 g1 => by refine iteF ?_; exact ⟨W0, W1, ρ, S1, z, S', rfl, R1, em, fun W2 R2 g2 => q W2 R2 (g1.trans g2)⟩⟩
  · cases em
/-- and, or of bools as values -/
def mAndV (ma mb : ME) : ME := fun ρ S => match ma ρ S with
  | some (.bl true, S1) => mb ρ S1
  | some (.bl false, S1) => some (.bl false, S1)
  | _ => none
def mOrV (ma mb : ME) : ME := fun ρ S => match ma ρ S with
  | some (.bl true, S1) => some (.bl true, S1)
  | some (.bl false, S1) => mb ρ S1
  | _ => none
theorem xand (ha : PE X a (tM X.K C ma)) (hb : PE X (.BoolOp .And (b :: rest) pos) (tM X.K C mb)) : PE X (.BoolOp .And (a :: b :: rest) pos) (tM X.K C (mAndV ma mb)) := PE.weak (pe_and ha hb) fun σ H Q ⟨W0, W, ρ, S, z, S', eH, R, em, q⟩ => by
  subst eH
  unfold mAndV at em
  split at em
  · rename_i S1 e1
    exact ⟨W0, W, ρ, S, _, S1, rfl, R, e1, fun v W1 R1 g1 r1 => by cases r1; exact ⟨true, rfl, by refine iteT ?_; exact ⟨W0, W1, ρ, S1, z, S', rfl, R1, em, fun v W2 R2 g2 r2 => q v W2 R2 (g1.trans g2) r2⟩⟩⟩
  · rename_i S1 e1
    cases em
    exact ⟨W0, W, ρ, S, _, S', rfl, R, e1, fun v W1 R1 g1 r1 => by cases r1; exact ⟨false, rfl, by refine iteF ?_; exact q _ W1 R1 g1 (.bl false)⟩⟩
  · cases em
theorem xor' (ha : PE X a (tM X.K C ma)) (hb : PE X (.BoolOp .Or (b :: rest) pos) (tM X.K C mb)) : PE X (.BoolOp .Or (a :: b :: rest) pos) (tM X.K C (mOrV ma mb)) := PE.weak (pe_or ha hb) fun σ H Q ⟨W0, W, ρ, S, z, S', eH, R, em, q⟩ => by
  subst eH
  unfold mOrV at em
  split at em
  · rename_i S1 e1
    cases em
    exact ⟨W0, W, ρ, S, _, S', rfl, R, e1, fun v W1 R1 g1 r1 => by cases r1; exact ⟨true, rfl, by refine iteT ?_; exact q _ W1 R1 g1 (.bl true)⟩⟩
  · rename_i S1 e1
    exact ⟨W0, W, ρ, S, _, S1, rfl, R, e1, fun v W1 R1 g1 r1 => by cases r1; exact ⟨false, rfl, by refine iteF ?_; exact ⟨W0, W1, ρ, S1, z, S', rfl, R1, em, fun v W2 R2 g2 r2 => q v W2 R2 (g1.trans g2) r2⟩⟩⟩
  · cases em
def mNotV (ma : ME) : ME := fun ρ S => match ma ρ S with
  | some (.bl b, S1) => some (.bl (!b), S1)
  | _ => none
theorem xnot (ha : PE X a (tM X.K C ma)) : PE X (.UnaryOp .Not a pos) (tM X.K C (mNotV ma)) := PE.weak (pe_not ha) fun σ H Q ⟨W0, W, ρ, S, z, S', eH, R, em, q⟩ => by
  subst eH
  unfold mNotV at em
  split at em
  · rename_i b' S1 e1
    cases em
    exact ⟨W0, W, ρ, S, _, S', rfl, R, e1, fun v W1 R1 g1 r1 => by cases r1; exact ⟨b', rfl, q _ W1 R1 g1 (.bl _)⟩⟩
  · cases em
def mIfE (mt : MT) (ma mb : ME) : ME := fun ρ S => match mt ρ S with
  | some (true, S1) => ma ρ S1
  | some (false, S1) => mb ρ S1
  | none => none
theorem xif {c : Expr} (hc : PT X c (tMT X.K C mt)) (ha : PE X a (tM X.K C ma)) (hb : PE X b (tM X.K C mb)) : PE X (.IfExp c a b pos) (tM X.K C (mIfE mt ma mb)) := PE.weak (pe_ifExp hc ha hb) fun σ H Q ⟨W0, W, ρ, S, z, S', eH, R, em, q⟩ => by
  subst eH
  unfold mIfE at em
  split at em
  · rename_i S1 e1
    exact ⟨W0, W, ρ, S, true, S1, rfl, R, e1, fun W1 R1 g1 => by refine iteT ?_; exact ⟨W0, W1, ρ, S1, z, S', rfl, R1, em, fun v W2 R2 g2 r2 => q v W2 R2 (g1.trans g2) r2⟩⟩
  · rename_i S1 e1
    exact ⟨W0, W, ρ, S, false, S1, rfl, R, e1, fun W1 R1 g1 => by refine iteF ?_; exact ⟨W0, W1, ρ, S1, z, S', rfl, R1, em, fun v W2 R2 g2 r2 => q v W2 R2 (g1.trans g2) r2⟩⟩
  · cases em
end
end BL

namespace BL
open PySem PySem.Spec PyProof.Rows L2
/-! slots and own things -/
section
variable {K : PySem.W.Frag} {C : Addr} {W0 W : Wd} {σ : L2.St} {ρ : List SlV} {S : List PV}
theorem Rel.setv (R : Rel K C W0 W σ ρ S) (i : Nat) {v : V} {x : PV} (r : RepW K C W v x) (hi : i < ρ.length) : Rel K C W0 W (σ.set i (some v)) (ρ.set i (.val x)) S := by
  refine ⟨R.e, R.i, by rw [List.length_set, List.length_set]; exact R.l, fun j sl h => ?_, fun j k y z a h1 h2 g1 g2 => ?_⟩
  · by_cases c : i = j
    · subst c
      rw [List.getElem?_set_self hi] at h
      cases h
      exact ⟨v, by rw [List.getElem?_set_self (by rw [R.l]; exact hi)], r⟩
    · rw [List.getElem?_set_ne c] at h ⊢
      exact R.s j sl h
  · have n : ∀ (j : Nat) (y : PV), (ρ.set i (.val x))[j]? = some (.own y) → i ≠ j := fun j y h e => by
      subst e
      rw [List.getElem?_set_self hi] at h
      cases h
    have c1 := n j y h1
    have c2 := n k z h2
    rw [List.getElem?_set_ne c1] at h1 g1
    rw [List.getElem?_set_ne c2] at h2 g2
    exact R.d j k y z a h1 h2 g1 g2
theorem Rel.seto (R : Rel K C W0 W σ ρ S) (i : Nat) {a : Addr} {x : PV} (r : OwnAt K C W0 W a x) (hi : i < ρ.length) (hd : ∀ (j : Nat) (y : PV), ρ[j]? = some (.own y) → σ[j]? = some (some (.ref a)) → False) : Rel K C W0 W (σ.set i (some (.ref a))) (ρ.set i (.own x)) S := by
  refine ⟨R.e, R.i, by rw [List.length_set, List.length_set]; exact R.l, fun j sl h => ?_, fun j k y z b h1 h2 g1 g2 => ?_⟩
  · by_cases c : i = j
    · subst c
      rw [List.getElem?_set_self hi] at h
      cases h
      exact ⟨a, by rw [List.getElem?_set_self (by rw [R.l]; exact hi)], r⟩
    · rw [List.getElem?_set_ne c] at h ⊢
      exact R.s j sl h
  · have hi' : i < σ.length := by rw [R.l]; exact hi
    by_cases c1 : i = j
    · by_cases c2 : i = k
      · rw [← c1, ← c2]
      · subst c1
        rw [List.getElem?_set_self hi'] at g1
        cases Option.some.inj (Option.some.inj g1)
        rw [List.getElem?_set_ne c2] at h2 g2
        exact (hd k z h2 g2).elim
    · rw [List.getElem?_set_ne c1] at h1 g1
      by_cases c2 : i = k
      · subst c2
        rw [List.getElem?_set_self hi'] at g2
        cases Option.some.inj (Option.some.inj g2)
        exact (hd j y h1 g1).elim
      · rw [List.getElem?_set_ne c2] at h2 g2
        exact R.d j k y z b h1 h2 g1 g2
theorem Rel.setu (R : Rel K C W0 W σ ρ S) (i : Nat) (w : Option V) : Rel K C W0 W (σ.set i w) (ρ.set i .un) S := by
  refine ⟨R.e, R.i, by rw [List.length_set, List.length_set]; exact R.l, fun j sl h => ?_, fun j k y z a h1 h2 g1 g2 => ?_⟩
  · by_cases c : i = j
    · subst c
      by_cases hi : i < ρ.length
      · rw [List.getElem?_set_self hi] at h
        cases h
        trivial
      · rw [List.getElem?_eq_none (by rw [List.length_set]; omega)] at h
        cases h
    · rw [List.getElem?_set_ne c] at h ⊢
      exact R.s j sl h
  · have n : ∀ (j : Nat) (y : PV), (ρ.set i .un)[j]? = some (.own y) → i ≠ j := fun j y h e => by
      subst e
      by_cases hi : i < ρ.length
      · rw [List.getElem?_set_self hi] at h
        cases h
      · rw [List.getElem?_eq_none (by rw [List.length_set]; omega)] at h
        cases h
    have c1 := n j y h1
    have c2 := n k z h2
    rw [List.getElem?_set_ne c1] at h1 g1
    rw [List.getElem?_set_ne c2] at h2 g2
    exact R.d j k y z a h1 h2 g1 g2
/-- an own list becomes one that never changes -/
theorem Rel.frz (R : Rel K C W0 W σ ρ S) {i : Nat} {x : PV} (h : ρ[i]? = some (.own x)) : ∃ W', W'.H = W.H ∧ GroF W W' ∧ Rel K C W0 W' σ (ρ.set i (.val x)) S ∧ ∀ W1, Gro W1 W → (∀ a, σ[i]? = some (some (.ref a)) → W1.H a = none) → Gro W1 W' := by
  obtain ⟨a, ea, o1, o2, o3, o4⟩ := R.s i _ h
  have hi : i < ρ.length := (List.getElem?_eq_some_iff.mp h).1
  cases x with
  | lst xs =>
    obtain ⟨vs, eh, r⟩ := o4
    have sF : Same W.F (upd W.F a (.lst vs)) := same_upd o2
    refine ⟨⟨upd W.F a (.lst vs), W.H, W.θ⟩, rfl, ⟨sF, [], (List.append_nil _).symm⟩, ?_, fun W1 g1 nn => ⟨g1.f.trans sF, g1.t, g1.h, g1.k, fun p o e z => by
      show upd W.F a _ p = none
      rw [upd_ne (ne_of_none e (nn a ea))]
      exact g1.n p o e z⟩⟩
    have m : ∀ {v : V} {x : PV}, RepW K C W v x → Rep K C (upd W.F a (.lst vs)) W.θ v x := fun r => by
      have := r.mono (r := []) sF
      rwa [List.append_nil] at this
    have ma : ∀ {v : List V} {x : List PV}, RepAll K C W.F W.θ v x → RepAll K C (upd W.F a (.lst vs)) W.θ v x := fun r => by
      have := r.mono (r := []) sF
      rwa [List.append_nil] at this
    have mm : ∀ {b : Addr} {x : PV}, Mut K C W b x → Mut K C ⟨upd W.F a (.lst vs), W.H, W.θ⟩ b x := fun {b x} r => by
      exact r.to (fun _ e => e) (fun r => ma r)
    have mmL : ∀ {b : Addr} {x : PV}, MutL K C W b x → MutL K C ⟨upd W.F a (.lst vs), W.H, W.θ⟩ b x := fun {b x} r => by
      exact r.to (fun _ e => e) (fun r => ma r)
    refine ⟨⟨R.e.f.trans sF, R.e.t, R.e.h, R.e.k, fun p o e z => ?_⟩, ⟨fun b o e => ?_, R.i.len, R.i.nd, fun n b x e1 e2 => ?_⟩, by rw [List.length_set]; exact R.l, fun j sl hj => ?_, fun j k y z b h1 h2 g1 g2 => ?_⟩
    · show upd W.F a _ p = none
      rw [upd_ne (ne_of_none e o1)]
      exact R.e.n p o e z
    · change upd W.F a _ b = some o at e
      show W.H b = some o
      by_cases c : b = a
      · subst c
        rw [upd_same] at e
        rw [← e]
        exact eh
      · rw [upd_ne c] at e
        exact R.i.s _ _ e
    · obtain ⟨z, m⟩ := R.i.m n b x e1 e2
      refine ⟨?_, mm m⟩
      show upd W.F a _ b = none
      rw [upd_ne (fun c => o3 (by rw [← c]; exact List.mem_of_getElem? e1))]
      exact z
    · by_cases c : i = j
      · subst c
        rw [List.getElem?_set_self hi] at hj
        cases hj
        exact ⟨_, ea, .lst upd_same (ma r)⟩
      · rw [List.getElem?_set_ne c] at hj
        have sl' := R.s j sl hj
        cases sl with
        | un => trivial
        | val y => obtain ⟨u, e, r⟩ := sl'; exact ⟨u, e, m r⟩
        | own y =>
          obtain ⟨b, eb, p1, p2, p3, p4⟩ := sl'
          refine ⟨b, eb, p1, ?_, p3, mmL p4⟩
          show upd W.F a _ b = none
          rw [upd_ne (fun z => by
            subst z
            exact c (R.d i j _ _ _ h hj ea eb))]
          exact p2
    · have n : ∀ (j : Nat) (y : PV), (ρ.set i (.val (.lst xs)))[j]? = some (.own y) → i ≠ j := fun j y h e => by
        subst e
        rw [List.getElem?_set_self hi] at h
        cases h
      rw [List.getElem?_set_ne (n j y h1)] at h1
      rw [List.getElem?_set_ne (n k z h2)] at h2
      exact R.d j k y z b h1 h2 g1 g2
  | _ => exact o4.elim
/-- an own list gets other things -/
theorem Rel.ownUpd (R : Rel K C W0 W σ ρ S) {i : Nat} {x : PV} {a : Addr} {ys : List PV} {us : List V} (h : ρ[i]? = some (.own x)) (ea : σ[i]? = some (some (.ref a))) (r : RepAll K C W.F W.θ us ys) :
    Rel K C W0 ⟨W.F, upd W.H a (.lst us), W.θ⟩ σ (ρ.set i (.own (.lst ys))) S := by
  obtain ⟨a', ea', o1, o2, o3, o4⟩ := R.s i _ h
  rw [ea] at ea'
  cases Option.some.inj (Option.some.inj ea')
  have hi : i < ρ.length := (List.getElem?_eq_some_iff.mp h).1
  have mm : ∀ {b : Addr} {x : PV}, b ≠ a → Mut K C W b x → Mut K C ⟨W.F, upd W.H a (.lst us), W.θ⟩ b x := fun {b x} n r => by
    refine r.to (fun o e => ?_) (fun r => r)
    show upd W.H a _ b = _
    rw [upd_ne n]
    exact e
  have mmL : ∀ {b : Addr} {x : PV}, b ≠ a → MutL K C W b x → MutL K C ⟨W.F, upd W.H a (.lst us), W.θ⟩ b x := fun {b x} n r => by
    refine r.to (fun o e => ?_) (fun r => r)
    show upd W.H a _ b = _
    rw [upd_ne n]
    exact e
  refine ⟨⟨R.e.f, R.e.t, fun p o e n => ?_, fun p o e => ?_, R.e.n⟩, ⟨fun b o e => ?_, R.i.len, R.i.nd, fun n b x e1 e2 => ?_⟩, by rw [List.length_set]; exact R.l, fun j sl hj => ?_, fun j k y z b h1 h2 g1 g2 => ?_⟩
  · show upd W.H a _ p = _
    rw [upd_ne (ne_of_none e o1)]
    exact R.e.h p o e n
  · obtain ⟨o', e'⟩ := R.e.k p o e
    exact ⟨o', by show upd W.H a _ p = _; rw [upd_ne (ne_of_none e o1)]; exact e'⟩
  · change W.F b = some o at e
    show upd W.H a _ b = some o
    rw [upd_ne (ne_of_none e o2)]
    exact R.i.s _ _ e
  · obtain ⟨z, m⟩ := R.i.m n b x e1 e2
    exact ⟨z, mm (fun c => o3 (by rw [← c]; exact List.mem_of_getElem? e1)) m⟩
  · by_cases c : i = j
    · subst c
      rw [List.getElem?_set_self hi] at hj
      cases hj
      exact ⟨_, ea, o1, o2, o3, us, upd_same, r⟩
    · rw [List.getElem?_set_ne c] at hj
      have sl' := R.s j sl hj
      cases sl with
      | un => trivial
      | val y => exact sl'
      | own y =>
        obtain ⟨b, eb, p1, p2, p3, p4⟩ := sl'
        exact ⟨b, eb, p1, p2, p3, mmL (fun z => by subst z; exact c (R.d i j _ _ _ h hj ea eb)) p4⟩
  · have q : ∀ (j : Nat) (y : PV), (ρ.set i (.own (.lst ys)))[j]? = some (.own y) → ∃ y', ρ[j]? = some (.own y') := fun j y hj => by
      by_cases c : i = j
      · subst c
        exact ⟨_, h⟩
      · rw [List.getElem?_set_ne c] at hj
        exact ⟨_, hj⟩
    obtain ⟨y', h1⟩ := q j y h1
    obtain ⟨z', h2⟩ := q k z h2
    exact R.d j k y' z' b h1 h2 g1 g2
/-- a new own list -/
theorem laidO {p : Addr} {us : List V} {ys : List PV} (R : Rel K C W0 W σ ρ S) (r : RepAll K C W.F W.θ us ys) (n : W.H p = none) :
    Gro W ⟨W.F, upd W.H p (.lst us), W.θ⟩ ∧ Rel K C W0 ⟨W.F, upd W.H p (.lst us), W.θ⟩ σ ρ S ∧ OwnAt K C W0 ⟨W.F, upd W.H p (.lst us), W.θ⟩ p (.lst ys) ∧ (∀ (j : Nat) (y : PV), ρ[j]? = some (.own y) → σ[j]? = some (some (.ref p)) → False) := by
  have fn : W.F p = none := R.i.s.free n
  have g : Gro W ⟨W.F, upd W.H p (.lst us), W.θ⟩ := by
    refine ⟨Same.refl _, ⟨[], (List.append_nil _).symm, fun _ h => by cases h⟩, fun q o' e _ => ?_, fun q o' e => ?_, fun q o' e z => z⟩
    · show upd W.H p _ q = _
      rw [upd_ne (ne_of_none e n)]
      exact e
    · exact ⟨o', by show upd W.H p _ q = _; rw [upd_ne (ne_of_none e n)]; exact e⟩
  have i' : Inv1 K C ⟨W.F, upd W.H p (.lst us), W.θ⟩ S := by
    refine ⟨fun q o' e => ?_, R.i.len, R.i.nd, fun k a x h1 h2 => ?_⟩
    · show upd W.H p _ q = some o'
      rw [upd_ne (ne_of_none e fn)]
      exact R.i.s _ _ e
    · obtain ⟨z, m⟩ := R.i.m k a x h1 h2
      refine ⟨z, ?_⟩
      refine m.to (fun o e => ?_) (fun r => r)
      show upd W.H p _ a = _
      rw [upd_ne (ne_of_none e n)]
      exact e
  refine ⟨g, R.ext g i', ⟨?_, fn, fun m => ?_, us, upd_same, r⟩, fun j y h1 h2 => ?_⟩
  · cases e : W0.H p with
    | none => rfl
    | some o =>
      obtain ⟨o', e'⟩ := R.e.k p o e
      rw [n] at e'
      cases e'
  · change p ∈ W.θ at m
    obtain ⟨k, hk⟩ := List.getElem?_of_mem m
    have hk' : k < S.length := by rw [← R.i.len]; exact (List.getElem?_eq_some_iff.mp hk).1
    obtain ⟨_, m⟩ := R.i.m k p _ hk (List.getElem?_eq_getElem hk')
    obtain ⟨o, ho⟩ := m.laid
    rw [n] at ho
    cases ho
  · obtain ⟨a, ea, _, _, _, m⟩ := R.s j _ h1
    rw [h2] at ea
    cases Option.some.inj (Option.some.inj ea)
    obtain ⟨o, ho⟩ := m.laid
    rw [n] at ho
    cases ho
end
/-! statements -/
section
variable {X : Cx} {C : Addr} {e a b : Expr} {es : List Expr} {st : Stmt} {sts rest : List Stmt} {pos : Pos} {m ma mb : ME} {mt : MT} {ms mr ms' : MS} {mes : MA}
theorem Pst.gro {K : PySem.W.Frag} {W0 W W' : Wd} {D : Ends} {out : Ou} (p : Pst K C W0 W D out) (g : GroF W W') : Pst K C W0 W' D out := by
  cases out with
  | nx ρ S => exact fun σ W2 g2 R => p σ W2 (g.trans g2) R
  | rt x S => exact p
  | bk ρ S => exact fun σ W2 g2 R => p σ W2 (g.trans g2) R
  | ct ρ S => exact fun σ W2 g2 R => p σ W2 (g.trans g2) R
def mSkip : MS := fun ρ S => some (.nx ρ S)
def mSeq (ms mr : MS) : MS := fun ρ S => match ms ρ S with
  | some (.nx ρ1 S1) => mr ρ1 S1
  | o => o
theorem xsnil : PSs X [] (tMS X.K C mSkip) := PSs.weak pss_nil fun D σ H ⟨W0, W, ρ, S, out, eH, R, em, p⟩ => by
  subst eH
  cases em
  exact p σ W (GroF.refl _) R
theorem xscons (h : PS X st (tMS X.K C ms)) (hr : PSs X rest (tMS X.K C mr)) : PSs X (st :: rest) (tMS X.K C (mSeq ms mr)) := PSs.weak (pss_cons h hr) fun D σ H ⟨W0, W, ρ, S, out, eH, R, em, p⟩ => by
  subst eH
  unfold mSeq at em
  split at em
  · rename_i ρ1 S1 e1
    refine ⟨W0, W, ρ, S, _, rfl, R, e1, fun σ' W' g R' => ⟨W0, W', ρ1, S1, out, rfl, R', em, p.gro g⟩⟩
  · rename_i o hn
    refine ⟨W0, W, ρ, S, out, rfl, R, em, ?_⟩
    cases out with
    | nx ρ1 S1 => exact (hn ρ1 S1 em).elim
    | rt x S1 => exact p
    | bk ρ1 S1 => exact p
    | ct ρ1 S1 => exact p
theorem xsone (h : PS X st (tMS X.K C ms)) : PSs X [st] (tMS X.K C ms) := pss_one h
/-- an own thing is fixed ahead of a statement -/
def mFrz (i : Nat) (ms : MS) : MS := fun ρ S => match ρ[i]? with
  | some (.own x) => ms (ρ.set i (.val x)) S
  | _ => ms ρ S
theorem frz_lift {K : PySem.W.Frag} {i : Nat} {D : Ends} {σ : L2.St} {H : Hp} (h : tMS K C (mFrz i ms) D σ H) : tMS K C ms D σ H := by
  obtain ⟨W0, W, ρ, S, out, eH, R, em, p⟩ := h
  subst eH
  unfold mFrz at em
  split at em
  · rename_i x hx
    obtain ⟨W', e1, g, R', _⟩ := R.frz hx
    exact ⟨W0, W', _, S, out, e1.symm, R', em, p.gro g⟩
  · exact ⟨W0, W, ρ, S, out, rfl, R, em, p⟩
theorem xfrz (i : Nat) (h : PS X st (tMS X.K C ms)) : PS X st (tMS X.K C (mFrz i ms)) := PS.weak h fun D σ H h => frz_lift h
theorem xfrzs (i : Nat) (h : PSs X sts (tMS X.K C ms)) : PSs X sts (tMS X.K C (mFrz i ms)) := PSs.weak h fun D σ H h => frz_lift h
def mRet (ma : ME) : MS := fun ρ S => match ma ρ S with
  | some (x, S1) => some (.rt x S1)
  | none => none
theorem xret (h : PE X e (tM X.K C ma)) : PS X (.Return (some e) pos) (tMS X.K C (mRet ma)) := PS.weak (ps_ret h) fun D σ H ⟨W0, W, ρ, S, out, eH, R, em, p⟩ => by
  subst eH
  unfold mRet at em
  split at em
  · rename_i x S1 e1
    cases em
    exact ⟨W0, W, ρ, S, x, S1, rfl, R, e1, fun v W1 R1 g1 r1 => p v W1 R1.e R1.i r1⟩
  · cases em
def mRetN : MS := fun _ S => some (.rt .non S)
theorem xretN : PS X (.Return none pos) (tMS X.K C mRetN) := PS.weak ps_retN fun D σ H ⟨W0, W, ρ, S, out, eH, R, em, p⟩ => by
  subst eH
  cases em
  exact p _ W R.e R.i .non
def mDrop (ma : ME) : MS := fun ρ S => match ma ρ S with
  | some (_, S1) => some (.nx ρ S1)
  | none => none
theorem xdrop (h : PE X e (tM X.K C ma)) (hs : swapsWith e none pos.line X.env = pure false := by rfl) : PS X (.Expr e pos) (tMS X.K C (mDrop ma)) := PS.weak (ps_expr h hs) fun D σ H ⟨W0, W, ρ, S, out, eH, R, em, p⟩ => by
  subst eH
  unfold mDrop at em
  split at em
  · rename_i x S1 e1
    cases em
    exact ⟨W0, W, ρ, S, x, S1, rfl, R, e1, fun v W1 R1 g1 r1 => p σ W1 g1.groF R1⟩
  · cases em
def mIf (mt : MT) (ms mr : MS) : MS := fun ρ S => match mt ρ S with
  | some (true, S1) => ms ρ S1
  | some (false, S1) => mr ρ S1
  | none => none
theorem xifs {c : Expr} {sa sb : List Stmt} (hc : PT X c (tMT X.K C mt)) (ha : PSs X sa (tMS X.K C ms)) (hb : PSs X sb (tMS X.K C mr)) : PS X (.If c sa sb pos) (tMS X.K C (mIf mt ms mr)) := PS.weak (ps_if hc ha hb) fun D σ H ⟨W0, W, ρ, S, out, eH, R, em, p⟩ => by
  subst eH
  unfold mIf at em
  split at em
  · rename_i S1 e1
    exact ⟨W0, W, ρ, S, true, S1, rfl, R, e1, fun W1 R1 g1 => by refine iteT ?_; exact ⟨W0, W1, ρ, S1, out, rfl, R1, em, p.gro g1.groF⟩⟩
  · rename_i S1 e1
    exact ⟨W0, W, ρ, S, false, S1, rfl, R, e1, fun W1 R1 g1 => by refine iteF ?_; exact ⟨W0, W1, ρ, S1, out, rfl, R1, em, p.gro g1.groF⟩⟩
  · cases em
/-! targets -/
inductive Tg where
  | nm (i : Nat) | tp (is : List Nat) | tq (gs : List (Nat ⊕ List Nat))
def putAll : List Nat → List PV → List SlV → Option (List SlV)
  | [], [], ρ => some ρ
  | i :: is, x :: xs, ρ => if i < ρ.length then putAll is xs (ρ.set i (.val x)) else none
  | _, _, _ => none
def putAllQ : List (Nat ⊕ List Nat) → List PV → List SlV → Option (List SlV)
  | [], [], ρ => some ρ
  | .inl i :: gs, x :: xs, ρ => if i < ρ.length then putAllQ gs xs (ρ.set i (.val x)) else none
  | .inr is :: gs, .tup ys :: xs, ρ => match putAll is ys ρ with
    | some ρ1 => putAllQ gs xs ρ1
    | none => none
  | .inr is :: gs, .lst ys :: xs, ρ => match putAll is ys ρ with
    | some ρ1 => putAllQ gs xs ρ1
    | none => none
  | _, _, _ => none
def Tg.put : Tg → PV → List SlV → Option (List SlV)
  | .nm i, x, ρ => if i < ρ.length then some (ρ.set i (.val x)) else none
  | .tp is, .tup xs, ρ => putAll is xs ρ
  | .tp is, .lst xs, ρ => putAll is xs ρ
  | .tp _, _, _ => none
  | .tq gs, .tup xs, ρ => putAllQ gs xs ρ
  | .tq gs, .lst xs, ρ => putAllQ gs xs ρ
  | .tq _, _, _ => none
def idsQ : List (Nat ⊕ List Nat) → List Nat
  | [] => []
  | .inl i :: gs => i :: idsQ gs
  | .inr is :: gs => is ++ idsQ gs
def Tg.ids : Tg → List Nat
  | .nm i => [i]
  | .tp is => is
  | .tq gs => idsQ gs
def tgs : List Nat → TGs
  | [] => gNil
  | i :: is => gCons (gName i) (tgs is)
def gTp (K : PySem.W.Frag) (is : List Nat) : TG := fun v σ H Q => gTup K is.length (tgs is) v σ H Q ∨ gUnl K is.length (tgs is) v σ H Q
def tgsQ (K : PySem.W.Frag) : List (Nat ⊕ List Nat) → TGs
  | [] => gNil
  | .inl i :: gs => gCons (gName i) (tgsQ K gs)
  | .inr is :: gs => gCons (gTp K is) (tgsQ K gs)
def Tg.g (K : PySem.W.Frag) : Tg → TG
  | .nm i => gName i
  | .tp is => gTp K is
  | .tq gs => fun v σ H Q => gTup K gs.length (tgsQ K gs) v σ H Q ∨ gUnl K gs.length (tgsQ K gs) v σ H Q
theorem putAll_ok {K : PySem.W.Frag} {W0 W : Wd} {S : List PV} {Q : L2.St → Hp → Prop} : ∀ {is : List Nat} {σ : L2.St} {vs : List V} {xs : List PV} {ρ ρ' : List SlV}, Rel K C W0 W σ ρ S → RepAll K C W.F W.θ vs xs → putAll is xs ρ = some ρ' →
    (∀ σ', Rel K C W0 W σ' ρ' S → (∀ ws, (∀ i ∈ is, i ∈ ws) → wipe σ' ws = wipe σ ws) → Q σ' W.H) → tgs is vs σ W.H Q
  | [], σ, vs, [], ρ, ρ', R, r, e, q => by
    cases e
    cases r
    exact ⟨rfl, q σ R fun _ _ => rfl⟩
  | i :: is, σ, vs, x :: xs, ρ, ρ', R, r, e, q => by
    cases r with
    | cons r rr =>
      rename_i v vs
      unfold putAll at e
      split at e
      · rename_i hi
        refine ⟨v, vs, rfl, putAll_ok (R.setv i r hi) rr e fun σ' R' w => q σ' R' fun ws hw => ?_⟩
        rw [w ws fun j hj => hw j (List.mem_cons_of_mem _ hj)]
        exact wipe_set (hw i List.mem_cons_self)
      · cases e
  | [], _, _, _ :: _, _, _, _, _, e, _ => by cases e
  | _ :: _, _, _, [], _, _, _, _, e, _ => by cases e
where
  wipe_set {σ : L2.St} {i : Nat} {o : Option V} : ∀ {ws : List Nat}, i ∈ ws → wipe (σ.set i o) ws = wipe σ ws
  | w :: ws, h => by
    show (wipe (σ.set i o) ws).set w none = (wipe σ ws).set w none
    by_cases c : i ∈ ws
    · rw [wipe_set c]
    · have e : i = w := by
        rcases List.mem_cons.mp h with e | h
        · exact e
        · exact (c h).elim
      subst e
      have : ∀ {us : List Nat}, i ∉ us → wipe (σ.set i o) us = (wipe σ us).set i o := fun {us} hn => by
        induction us with
        | nil => rfl
        | cons u us ih =>
          show (wipe (σ.set i o) us).set u none = ((wipe σ us).set u none).set i o
          rw [ih fun z => hn (List.mem_cons_of_mem _ z)]
          exact List.set_comm _ _ fun z => hn (by rw [z]; exact List.mem_cons_self)
      rw [this c, List.set_set]
theorem putAll_len : ∀ {is : List Nat} {xs : List PV} {ρ ρ' : List SlV}, putAll is xs ρ = some ρ' → xs.length = is.length := fun {is} => by
  induction is with
  | nil => intro xs ρ ρ' e; cases xs with | nil => rfl | cons _ _ => cases e
  | cons i is ih =>
    intro xs ρ ρ' e
    cases xs with
    | nil => cases e
    | cons x xs =>
      unfold putAll at e
      split at e
      · exact congrArg Nat.succ (ih e)
      · cases e
theorem tp_ok {K : PySem.W.Frag} {W0 W : Wd} {S : List PV} {Q : L2.St → Hp → Prop} {is : List Nat} {σ : L2.St} {v : V} {x : PV} {ρ ρ' : List SlV} (R : Rel K C W0 W σ ρ S) (r : RepW K C W v x) (e : (Tg.tp is).put x ρ = some ρ')
    (q : ∀ σ', Rel K C W0 W σ' ρ' S → (∀ ws, (∀ i ∈ is, i ∈ ws) → wipe σ' ws = wipe σ ws) → Q σ' W.H) : gTp K is v σ W.H Q := by
  cases x with
  | tup xs =>
    cases r with
    | tup h a =>
      rename_i p vs
      exact .inl ⟨p, vs, rfl, R.i.s.seT h, by rw [a.len]; exact putAll_len e, putAll_ok R a e q⟩
  | lst xs =>
    cases r with
    | lst h a =>
      rename_i p vs
      exact .inr ⟨p, vs, rfl, R.i.s.seq (SqL.of h), by rw [a.len]; exact putAll_len e, putAll_ok R a e q⟩
  | _ => cases e
theorem putAllQ_len : ∀ {gs : List (Nat ⊕ List Nat)} {xs : List PV} {ρ ρ' : List SlV}, putAllQ gs xs ρ = some ρ' → xs.length = gs.length := fun {gs} => by
  induction gs with
  | nil => intro xs ρ ρ' e; cases xs with | nil => rfl | cons _ _ => cases e
  | cons g gs ih =>
    intro xs ρ ρ' e
    cases g with
    | inl i =>
      cases xs with
      | nil => cases e
      | cons x xs =>
        unfold putAllQ at e
        split at e
        · exact congrArg Nat.succ (ih e)
        · cases e
    | inr is =>
      cases xs with
      | nil => cases e
      | cons x xs =>
        cases x with
        | tup ys =>
          unfold putAllQ at e
          split at e
          · exact congrArg Nat.succ (ih e)
          · cases e
        | lst ys =>
          unfold putAllQ at e
          split at e
          · exact congrArg Nat.succ (ih e)
          · cases e
        | _ => cases e
theorem putAllQ_ok {K : PySem.W.Frag} {W0 W : Wd} {S : List PV} {Q : L2.St → Hp → Prop} : ∀ {gs : List (Nat ⊕ List Nat)} {σ : L2.St} {vs : List V} {xs : List PV} {ρ ρ' : List SlV}, Rel K C W0 W σ ρ S → RepAll K C W.F W.θ vs xs → putAllQ gs xs ρ = some ρ' →
    (∀ σ', Rel K C W0 W σ' ρ' S → (∀ ws, (∀ i ∈ idsQ gs, i ∈ ws) → wipe σ' ws = wipe σ ws) → Q σ' W.H) → tgsQ K gs vs σ W.H Q := fun {gs} => by
  induction gs with
  | nil =>
    intro σ vs xs ρ ρ' R r e q
    cases xs with
    | nil =>
      cases e
      cases r
      exact ⟨rfl, q σ R fun _ _ => rfl⟩
    | cons _ _ => cases e
  | cons g gs ih =>
    intro σ vs xs ρ ρ' R r e q
    cases xs with
    | nil => cases g <;> cases e
    | cons x xs =>
      cases r with
      | cons r rr =>
        rename_i v vs
        cases g with
        | inl i =>
          unfold putAllQ at e
          split at e
          · rename_i hi
            refine ⟨v, vs, rfl, ih (R.setv i r hi) rr e fun σ' R' w => q σ' R' fun ws hw => ?_⟩
            rw [w ws fun j hj => hw j (List.mem_cons_of_mem _ hj)]
            exact putAll_ok.wipe_set (hw i List.mem_cons_self)
          · cases e
        | inr is =>
          have key : ∀ ρ1, (Tg.tp is).put x ρ = some ρ1 → putAllQ gs xs ρ1 = some ρ' → tgsQ K (.inr is :: gs) (v :: vs) σ W.H Q := fun ρ1 e1 e2 => by
            refine ⟨v, vs, rfl, tp_ok R r e1 fun σ1 R1 w1 => ih R1 rr e2 fun σ' R' w => q σ' R' fun ws hw => ?_⟩
            rw [w ws fun j hj => hw j (List.mem_append_right _ hj)]
            exact w1 ws fun j hj => hw j (List.mem_append_left _ hj)
          cases x with
          | tup ys =>
            unfold putAllQ at e
            split at e
            · rename_i ρ1 e1
              exact key ρ1 e1 e
            · cases e
          | lst ys =>
            unfold putAllQ at e
            split at e
            · rename_i ρ1 e1
              exact key ρ1 e1 e
            · cases e
          | _ => cases e
theorem Tg.ok {K : PySem.W.Frag} {W0 W : Wd} {S : List PV} {Q : L2.St → Hp → Prop} (t : Tg) {σ : L2.St} {v : V} {x : PV} {ρ ρ' : List SlV} (R : Rel K C W0 W σ ρ S) (r : RepW K C W v x) (e : t.put x ρ = some ρ')
    (q : ∀ σ', Rel K C W0 W σ' ρ' S → (∀ ws, (∀ i ∈ t.ids, i ∈ ws) → wipe σ' ws = wipe σ ws) → Q σ' W.H) : t.g K v σ W.H Q := by
  cases t with
  | nm i =>
    simp only [Tg.put] at e
    split at e
    · rename_i hi
      cases e
      exact q _ (R.setv i r hi) fun ws hw => putAll_ok.wipe_set (hw i (List.mem_cons_self))
    · cases e
  | tp is => exact tp_ok R r e q
  | tq gs =>
    cases x with
    | tup xs =>
      cases r with
      | tup h a =>
        rename_i p vs
        exact .inl ⟨p, vs, rfl, R.i.s.seT h, by rw [a.len]; exact putAllQ_len e, putAllQ_ok R a e q⟩
    | lst xs =>
      cases r with
      | lst h a =>
        rename_i p vs
        exact .inr ⟨p, vs, rfl, R.i.s.seq (SqL.of h), by rw [a.len]; exact putAllQ_len e, putAllQ_ok R a e q⟩
    | _ => cases e
/-- name, .. = e -/
def mAsg (t : Tg) (ma : ME) : MS := fun ρ S => match ma ρ S with
  | some (x, S1) => match t.put x ρ with
    | some ρ1 => some (.nx ρ1 S1)
    | none => none
  | none => none
theorem xasgT (t : Tg) (h : PS X st (tAsg (tM X.K C ma) (t.g X.K))) : PS X st (tMS X.K C (mAsg t ma)) := PS.weak h fun D σ H ⟨W0, W, ρ, S, out, eH, R, em, p⟩ => by
  subst eH
  unfold mAsg at em
  split at em
  · rename_i x S1 e1
    split at em
    · rename_i ρ1 e2
      cases em
      exact ⟨W0, W, ρ, S, x, S1, rfl, R, e1, fun v W1 R1 g1 r1 => t.ok R1 r1 e2 fun σ' R' _ => p σ' W1 g1.groF R'⟩
    · cases em
  · cases em
/-- a, b = x, y -/
def mPar (i j : Nat) (ma : MA) : MS := fun ρ S => match ma ρ S with
  | some ([x, y], S1) => if i < ρ.length ∧ j < ρ.length then some (.nx ((ρ.set i (.val x)).set j (.val y)) S1) else none
  | _ => none
theorem xpar {i j : Nat} (h : PS X st (tPar i j (tMA X.K C mes))) : PS X st (tMS X.K C (mPar i j mes)) := PS.weak h fun D σ H ⟨W0, W, ρ, S, out, eH, R, em, p⟩ => by
  subst eH
  unfold mPar at em
  split at em
  · rename_i x y S1 e1
    split at em
    · rename_i hl
      cases em
      refine ⟨W0, W, ρ, S, _, S1, rfl, R, e1, fun vs W1 R1 g1 r1 => ?_⟩
      cases r1 with
      | cons r1 rr =>
        cases rr with
        | cons r2 rr =>
          cases rr
          exact ⟨_, _, rfl, p _ W1 g1.groF ((R1.setv i r1 hl.1).setv j r2 (by rw [List.length_set]; exact hl.2))⟩
    · cases em
  · cases em
/-! own lists -/
def mNewO (i : Nat) (mes : MA) : MS := fun ρ S => match mes ρ S with
  | some (xs, S1) => if xs.length ≤ 100000 ∧ i < ρ.length then some (.nx (ρ.set i (.own (.lst xs))) S1) else none
  | none => none
theorem xnewO {i : Nat} (h : PS X st (tAsg (tLst (tMA X.K C mes)) (gName i))) : PS X st (tMS X.K C (mNewO i mes)) := PS.weak h fun D σ H ⟨W0, W, ρ, S, out, eH, R, em, p⟩ => by
  subst eH
  unfold mNewO at em
  split at em
  · rename_i xs S1 e1
    split at em
    · rename_i hl
      cases em
      refine ⟨W0, W, ρ, S, xs, S1, rfl, R, e1, fun vs W1 R1 g1 r1 => ⟨by rw [r1.len]; exact Nat.le_trans hl.1 lim, fun q nq => ?_⟩⟩
      obtain ⟨g2, R2, o2, d2⟩ := laidO R1 r1 nq
      exact p _ _ (g1.trans g2).groF (R2.seto i o2 hl.2 d2)
    · cases em
  · cases em
/-- x.append(e), x an own list -/
def mApp (i : Nat) (ma : ME) : MS := fun ρ S => match ma ρ S with
  | some (y, S1) => match ρ[i]? with
    | some (.own (.lst xs)) => if xs.length ≤ 100000 then some (.nx (ρ.set i (.own (.lst (xs ++ [y])))) S1) else none
    | _ => none
  | none => none
theorem xapp {i : Nat} (h : PS X st (tDrop (tBM X.K "list" rAppend (tVar i) (tCons (tM X.K C ma) tNil)))) : PS X st (tMS X.K C (mApp i ma)) := PS.weak h fun D σ H ⟨W0, W, ρ, S, out, eH, R, em, p⟩ => by
  subst eH
  unfold mApp at em
  split at em
  · rename_i y S1 e1
    split at em
    · rename_i xs hx
      split at em
      · rename_i hl
        cases em
        obtain ⟨a, ea, o1, o2, o3, us, eh, ru⟩ := R.s i _ hx
        refine ⟨_, ea, .inl ⟨rfl, us, SqL.of eh⟩, W0, W, ρ, S, y, S1, rfl, R, e1, fun v W1 R1 g1 r1 => ?_⟩
        obtain ⟨a', ea', _, _, _, us', eh', ru'⟩ := R1.s i _ hx
        rw [ea] at ea'
        cases Option.some.inj (Option.some.inj ea')
        refine ⟨a, us', v, rfl, rfl, eh', by rw [ru'.len]; exact Nat.lt_of_le_of_lt hl (by decide), ?_⟩
        refine p σ ⟨W1.F, upd W1.H a (.lst (us' ++ [v])), W1.θ⟩ ⟨g1.groF.f, g1.groF.t⟩ (R1.ownUpd hx ea (ru'.app (.cons r1 .nil)))
      · cases em
    · cases em
  · cases em
def ixP (n : Nat) (i : Int) : Option Nat := if 0 ≤ i then (if i < n then some i.toNat else none) else if -(n : Int) ≤ i then some (i + n).toNat else none
theorem ixP_eq (n : Nat) (i : Int) : ixP n i = ixN n i := rfl
theorem ixP_lt {n : Nat} {i : Int} {k : Nat} (h : ixP n i = some k) : k < n := (ixN_seq (by rw [← ixP_eq]; exact h)).2.1
/-- x[i] = e, x an own list -/
def mPutO (i : Nat) (mi ma : ME) : MS := fun ρ S => match ma ρ S with
  | some (y, S1) => match mi ρ S1 with
    | some (.int k, S2) => match ρ[i]? with
      | some (.own (.lst xs)) => match ixP xs.length k with
        | some j => some (.nx (ρ.set i (.own (.lst (xs.set j y)))) S2)
        | none => none
      | _ => none
    | _ => none
  | none => none
theorem xputO {i : Nat} {mi : ME} (h : PS X st (tAsg (tM X.K C ma) (gSub (tVar i) (tM X.K C mi) rSetL))) : PS X st (tMS X.K C (mPutO i mi ma)) := PS.weak h fun D σ H ⟨W0, W, ρ, S, out, eH, R, em, p⟩ => by
  subst eH
  unfold mPutO at em
  split at em
  · rename_i y S1 e1
    split at em
    · rename_i k S2 e2
      split at em
      · rename_i xs hx
        split at em
        · rename_i j hj
          cases em
          refine ⟨W0, W, ρ, S, y, S1, rfl, R, e1, fun v W1 R1 g1 r1 => ?_⟩
          obtain ⟨a, ea, _⟩ := R1.s i _ hx
          refine ⟨_, ea, W0, W1, ρ, S1, _, S2, rfl, R1, e2, fun w W2 R2 g2 r2 => ?_⟩
          cases r2
          obtain ⟨a', ea', o1, o2, o3, us', eh', ru'⟩ := R2.s i _ hx
          rw [ea] at ea'
          cases Option.some.inj (Option.some.inj ea')
          exact ⟨a, us', k, j, rfl, rfl, eh', by rw [ru'.len, ← ixP_eq]; exact hj, p σ ⟨W2.F, upd W2.H a (.lst (us'.set j v)), W2.θ⟩ ⟨(g1.trans g2).groF.f, (g1.trans g2).groF.t⟩ (R2.ownUpd hx ea (ru'.set j (r1.ext g2)))⟩
        · cases em
      · cases em
    · cases em
  · cases em
/-- x[i] of an own list -/
def mIxO (i : Nat) (mi : ME) : ME := fun ρ S => match mi ρ S with
  | some (.int k, S1) => match ρ[i]? with
    | some (.own (.lst xs)) => match ixP xs.length k with
      | some j => match xs[j]? with
        | some y => some (y, S1)
        | none => none
      | none => none
    | _ => none
  | _ => none
theorem xixO {i : Nat} {mi : ME} (h : PE X e (tOp (rIxL X.K) (tVar i) (tM X.K C mi))) : PE X e (tM X.K C (mIxO i mi)) := PE.weak h fun σ H Q ⟨W0, W, ρ, S, z, S', eH, R, em, q⟩ => by
  subst eH
  unfold mIxO at em
  split at em
  · rename_i k S1 e1
    split at em
    · rename_i xs hx
      split at em
      · rename_i j hj
        split at em
        · rename_i y hy
          cases em
          obtain ⟨a, ea, o1, o2, o3, us, eh, ru⟩ := R.s i _ hx
          refine ⟨_, ea, W0, W, ρ, S, _, S', rfl, R, e1, fun w W1 R1 g1 r1 => ?_⟩
          cases r1
          obtain ⟨a', ea', _, _, _, us', eh', ru'⟩ := R1.s i _ hx
          rw [ea] at ea'
          cases Option.some.inj (Option.some.inj ea')
          obtain ⟨v, ev, rv⟩ := ru'.at hy
          refine ⟨a, us', k, v, rfl, rfl, SqL.of eh', ?_, q v W1 R1 g1 rv⟩
          unfold atI
          rw [ru'.len, ← ixP_eq, hj]
          exact ev
        · cases em
      · cases em
    · cases em
  · cases em
/-- len(x) of an own list -/
def mLenO (i : Nat) : ME := fun ρ S => match ρ[i]? with
  | some (.own (.lst xs)) => some (.int xs.length, S)
  | _ => none
end
end BL

namespace BL
open PySem PySem.Spec PyProof.Rows L2
/-! loops -/
abbrev MI := List SlV → List PV → Option (List PV × List PV)
structure ItOk (K : PySem.W.Frag) (C : Addr) (W : Wd) (J : It) (xs : List PV) : Prop where
  go : ∀ i W1 S, GroF W W1 → Inv1 K C W1 S → i < xs.length → J.go i W1.H
  stop : ∀ W1 S, GroF W W1 → Inv1 K C W1 S → J.stop xs.length W1.H
  yld : ∀ i W1 S v H' x, GroF W W1 → Inv1 K C W1 S → xs[i]? = some x → J.yld i W1.H v H' → ∃ W2, W2.H = H' ∧ Gro W1 W2 ∧ Inv1 K C W2 S ∧ RepW K C W2 v x
def tMI (K : PySem.W.Frag) (C : Addr) (mi : MI) : TI := fun σ H R => ∃ W0 W ρ S xs S', H = W.H ∧ Rel K C W0 W σ ρ S ∧ mi ρ S = some (xs, S') ∧ ∀ J W', Rel K C W0 W' σ ρ S' → Gro W W' → ItOk K C W' J xs → R J W'.H
theorem PI.weak {X : Cx} {tg e : Expr} {t t' : TI} (h : PI X tg e t) (i : ∀ σ H Q, t' σ H Q → t σ H Q) : PI X tg e t' := ⟨fun pins s σ H Q I q => h.run pins s σ H Q I (i σ H Q q)⟩
def forL (t : Tg) (mb : MS) : List PV → List SlV → List PV → Option Ou
  | [], ρ, S => some (.nx ρ S)
  | x :: xs, ρ, S => match t.put x ρ with
    | some ρ1 => match mb ρ1 S with
      | some (.nx ρ2 S2) => forL t mb xs ρ2 S2
      | some (.ct ρ2 S2) => forL t mb xs ρ2 S2
      | some (.bk ρ2 S2) => some (.nx ρ2 S2)
      | some (.rt x S2) => some (.rt x S2)
      | none => none
    | none => none
def mFor (t : Tg) (mi : MI) (mb : MS) : MS := fun ρ S => match mi ρ S with
  | some (xs, S1) => forL t mb xs ρ S1
  | none => none
section
variable {X : Cx} {C : Addr} {e a b : Expr} {es : List Expr} {st : Stmt} {sts rest : List Stmt} {pos : Pos} {m ma mb : ME} {mt : MT} {ms mr ms' : MS} {mes : MA} {mi : MI}
theorem xforT (t : Tg) (h : PS X st (tFor (tMI X.K C mi) (t.g X.K) (tMS X.K C ms))) : PS X st (tMS X.K C (mFor t mi ms)) := PS.weak h fun D σ H ⟨W0, W, ρ, S, out, eH, R, em, p⟩ => by
  subst eH
  unfold mFor at em
  split at em
  · rename_i xs S1 e1
    refine ⟨W0, W, ρ, S, xs, S1, rfl, R, e1, fun J W1 R1 g1 ok => ?_⟩
    refine ⟨fun i m σ H => m = xs.length - i ∧ i ≤ xs.length ∧ ∃ W2 ρ2 S2, H = W2.H ∧ GroF W1 W2 ∧ Rel X.K C W0 W2 σ ρ2 S2 ∧ forL t ms (xs.drop i) ρ2 S2 = some out ∧ Pst X.K C W0 W2 D out, ⟨xs.length, (Nat.sub_zero _).symm, Nat.zero_le _, W1, ρ, S1, rfl, GroF.refl _, R1, em, p.gro g1.groF⟩, ?_⟩
    rintro i m σ H ⟨rfl, hi, W2, ρ2, S2, rfl, g2, R2, e2, p2⟩
    by_cases hlt : i < xs.length
    · refine .inr ⟨ok.go i W2 S2 g2 R2.i hlt, fun σ' H' => ∃ W3 ρ3 S3, H' = W3.H ∧ GroF W1 W3 ∧ Rel X.K C W0 W3 σ' ρ3 S3 ∧ forL t ms (xs.drop (i + 1)) ρ3 S3 = some out ∧ Pst X.K C W0 W3 D out, fun σ' H' n => ⟨xs.length - (i + 1), by omega, rfl, hlt, n⟩, fun v H' y => ?_⟩
      rw [List.drop_eq_getElem_cons hlt] at e2
      obtain ⟨W3, rfl, g3, i3, r3⟩ := ok.yld i W2 S2 v H' xs[i] g2 R2.i (List.getElem?_eq_getElem hlt) y
      have R3 := R2.ext g3 i3
      unfold forL at e2
      split at e2
      · rename_i ρ3 e3
        refine t.ok R3 r3 e3 fun σ' R' _ => ?_
        have p3 := p2.gro g3.groF
        have g3' := g2.trans g3.groF
        split at e2
        · rename_i ρ4 S4 e4
          exact ⟨W0, W3, ρ3, S2, _, rfl, R', e4, fun σ2 W4 g4 R4 => ⟨W4, ρ4, S4, rfl, g3'.trans g4, R4, e2, p3.gro g4⟩⟩
        · rename_i ρ4 S4 e4
          exact ⟨W0, W3, ρ3, S2, _, rfl, R', e4, fun σ2 W4 g4 R4 => ⟨W4, ρ4, S4, rfl, g3'.trans g4, R4, e2, p3.gro g4⟩⟩
        · rename_i ρ4 S4 e4
          cases e2
          exact ⟨W0, W3, ρ3, S2, _, rfl, R', e4, fun σ2 W4 g4 R4 => p3 σ2 W4 g4 R4⟩
        · rename_i x4 S4 e4
          cases e2
          exact ⟨W0, W3, ρ3, S2, _, rfl, R', e4, fun v W4 g4 i4 r4 => p3 v W4 g4 i4 r4⟩
        · cases e2
      · cases e2
    · have e : i = xs.length := by omega
      subst e
      rw [List.drop_length] at e2
      cases e2
      exact .inl ⟨ok.stop W2 S2 g2 R2.i, p2 σ W2 (GroF.refl _) R2⟩
  · cases em
/-- while, at most so many turns -/
def whiL (mt : MT) (ms : MS) : Nat → List SlV → List PV → Option Ou
  | 0, _, _ => none
  | n + 1, ρ, S => match mt ρ S with
    | some (true, S1) => match ms ρ S1 with
      | some (.nx ρ2 S2) => whiL mt ms n ρ2 S2
      | some (.ct ρ2 S2) => whiL mt ms n ρ2 S2
      | some (.bk ρ2 S2) => some (.nx ρ2 S2)
      | some (.rt x S2) => some (.rt x S2)
      | none => none
    | some (false, S1) => some (.nx ρ S1)
    | none => none
theorem xwhi (n : Nat) (h : PS X st (tWhile (tMT X.K C mt) (tMS X.K C ms))) : PS X st (tMS X.K C (whiL mt ms n)) := PS.weak h fun D σ H ⟨W0, W, ρ, S, out, eH, R, em, p⟩ => by
  subst eH
  refine ⟨fun n σ H => ∃ W2 ρ2 S2, H = W2.H ∧ GroF W W2 ∧ Rel X.K C W0 W2 σ ρ2 S2 ∧ whiL mt ms n ρ2 S2 = some out ∧ Pst X.K C W0 W2 D out, ⟨n, W, ρ, S, rfl, GroF.refl _, R, em, p⟩, ?_⟩
  rintro m σ H ⟨W2, ρ2, S2, rfl, g2, R2, e2, p2⟩
  cases m with
  | zero => cases e2
  | succ m =>
    unfold whiL at e2
    split at e2
    · rename_i S3 e3
      refine ⟨W0, W2, ρ2, S2, true, S3, rfl, R2, e3, fun W3 R3 g3 => ?_⟩
      refine iteT ⟨fun σ' H' => ∃ W4 ρ4 S4, H' = W4.H ∧ GroF W W4 ∧ Rel X.K C W0 W4 σ' ρ4 S4 ∧ whiL mt ms m ρ4 S4 = some out ∧ Pst X.K C W0 W4 D out, fun σ' H' n => ⟨m, Nat.lt_succ_self _, n⟩, ?_⟩
      have p3 := p2.gro g3.groF
      have g3' := g2.trans g3.groF
      split at e2
      · rename_i ρ4 S4 e4
        exact ⟨W0, W3, ρ2, S3, _, rfl, R3, e4, fun σ2 W4 g4 R4 => ⟨W4, ρ4, S4, rfl, g3'.trans g4, R4, e2, p3.gro g4⟩⟩
      · rename_i ρ4 S4 e4
        exact ⟨W0, W3, ρ2, S3, _, rfl, R3, e4, fun σ2 W4 g4 R4 => ⟨W4, ρ4, S4, rfl, g3'.trans g4, R4, e2, p3.gro g4⟩⟩
      · rename_i ρ4 S4 e4
        cases e2
        exact ⟨W0, W3, ρ2, S3, _, rfl, R3, e4, fun σ2 W4 g4 R4 => p3 σ2 W4 g4 R4⟩
      · rename_i x4 S4 e4
        cases e2
        exact ⟨W0, W3, ρ2, S3, _, rfl, R3, e4, fun v W4 g4 i4 r4 => p3 v W4 g4 i4 r4⟩
      · cases e2
    · rename_i S3 e3
      cases e2
      exact ⟨W0, W2, ρ2, S2, false, S3, rfl, R2, e3, fun W3 R3 g3 => iteF (p2 σ W3 g3.groF R3)⟩
    · cases e2
/-! comprehensions -/
def wipM (ρ : List SlV) : List Nat → List SlV
  | [] => ρ
  | v :: vs => (wipM ρ vs).set v .un
def lcL (t : Tg) (mt : MT) (me : ME) (ρ : List SlV) : List PV → List PV → Option (List PV × List PV)
  | [], S => some ([], S)
  | x :: xs, S => match t.put x ρ with
    | some ρ1 => match mt ρ1 S with
      | some (true, S1) => match me ρ1 S1 with
        | some (y, S2) => match lcL t mt me ρ xs S2 with
          | some (ys, S3) => some (y :: ys, S3)
          | none => none
        | none => none
      | some (false, S1) => lcL t mt me ρ xs S1
      | none => none
    | none => none
def mLc (t : Tg) (mi : MI) (mt : MT) (me : ME) (vs : List Nat) : ME := fun ρ S => match mi ρ S with
  | some (xs, S1) => match lcL t mt me (wipM ρ vs) xs S1 with
    | some (ys, S2) => if ys.length ≤ 100000 then some (.lst ys, S2) else none
    | none => none
  | none => none
def mYes : MT := fun _ S => some (true, S)
theorem xyes : PTs X [] (tMT X.K C mYes) := ⟨fun pins s σ H Q I ⟨W0, W, ρ, S, b, S', eH, R, em, q⟩ => by
  subst eH
  cases em
  exact pts_nil.run pins s σ W.H Q I (q W R (Gro.refl _))⟩
theorem wip_rel {K : PySem.W.Frag} {W0 W : Wd} {σ : L2.St} {ρ : List SlV} {S : List PV} (R : Rel K C W0 W σ ρ S) : ∀ vs : List Nat, Rel K C W0 W (wipe σ vs) (wipM ρ vs) S
  | [] => R
  | v :: vs => (wip_rel R vs).setu v none
theorem Rel.unapp {K : PySem.W.Frag} {W0 W : Wd} {σ τ : L2.St} {ρ π : List SlV} {S : List PV} (R : Rel K C W0 W (σ ++ τ) (ρ ++ π) S) (l : σ.length = ρ.length) : Rel K C W0 W σ ρ S := by
  refine ⟨R.e, R.i, l, fun j sl h => ?_, fun j k x y a h1 h2 g1 g2 => ?_⟩
  · have hj : j < ρ.length := (List.getElem?_eq_some_iff.mp h).1
    have := R.s j sl (by rw [List.getElem?_append_left hj]; exact h)
    rwa [List.getElem?_append_left (by rw [l]; exact hj)] at this
  · have hj : j < ρ.length := (List.getElem?_eq_some_iff.mp h1).1
    have hk : k < ρ.length := (List.getElem?_eq_some_iff.mp h2).1
    exact R.d j k x y a (by rw [List.getElem?_append_left hj]; exact h1) (by rw [List.getElem?_append_left hk]; exact h2) (by rw [List.getElem?_append_left (by rw [l]; exact hj)]; exact g1) (by rw [List.getElem?_append_left (by rw [l]; exact hk)]; exact g2)
theorem Rel.snoc {K : PySem.W.Frag} {W0 W : Wd} {σ : L2.St} {ρ : List SlV} {S : List PV} {p : Addr} {x : PV} (R : Rel K C W0 W σ ρ S) (o : OwnAt K C W0 W p x) (hd : ∀ (j : Nat) (y : PV), ρ[j]? = some (.own y) → σ[j]? = some (some (.ref p)) → False) : Rel K C W0 W (σ ++ [some (.ref p)]) (ρ ++ [.own x]) S := by
  have g : ∀ (j : Nat) (sl : SlV), (ρ ++ [.own x])[j]? = some sl → (ρ[j]? = some sl ∧ (σ ++ [some (V.ref p)])[j]? = σ[j]?) ∨ (j = ρ.length ∧ sl = .own x ∧ (σ ++ [some (V.ref p)])[j]? = some (some (.ref p))) := fun j sl h => by
    by_cases c : j < ρ.length
    · rw [List.getElem?_append_left c] at h
      exact .inl ⟨h, List.getElem?_append_left (by rw [R.l]; exact c)⟩
    · rw [List.getElem?_append_right (by omega)] at h
      have e : j = ρ.length := by
        have := (List.getElem?_eq_some_iff.mp h).1
        simp at this
        omega
      subst e
      rw [Nat.sub_self] at h
      cases h
      refine .inr ⟨rfl, rfl, ?_⟩
      rw [← R.l, List.getElem?_append_right (Nat.le_refl _), Nat.sub_self]
      rfl
  refine ⟨R.e, R.i, by rw [List.length_append, List.length_append, R.l]; rfl, fun j sl h => ?_, fun j k y z a h1 h2 g1 g2 => ?_⟩
  · rcases g j sl h with ⟨h1, h2⟩ | ⟨_, h1, h2⟩
    · rw [h2]
      exact R.s j sl h1
    · rw [h2, h1]
      exact ⟨p, rfl, o⟩
  · rcases g j _ h1 with ⟨a1, b1⟩ | ⟨a1, _, b1⟩ <;> rcases g k _ h2 with ⟨a2, b2⟩ | ⟨a2, _, b2⟩
    · rw [b1] at g1
      rw [b2] at g2
      exact R.d j k y z a a1 a2 g1 g2
    · rw [b1] at g1
      rw [b2] at g2
      cases Option.some.inj (Option.some.inj g2)
      exact (hd j y a1 g1).elim
    · rw [b1] at g1
      rw [b2] at g2
      cases Option.some.inj (Option.some.inj g1)
      exact (hd k z a2 g2).elim
    · rw [a1, a2]
theorem Rel.snocD {K : PySem.W.Frag} {W0 W : Wd} {σ : L2.St} {ρ : List SlV} {S : List PV} {p : Addr} {x : PV} (R : Rel K C W0 W (σ ++ [some (.ref p)]) (ρ ++ [.own x]) S) (l : σ.length = ρ.length) : OwnAt K C W0 W p x ∧ ∀ (j : Nat) (y : PV), ρ[j]? = some (.own y) → σ[j]? = some (some (.ref p)) → False := by
  have e1 : (ρ ++ [SlV.own x])[ρ.length]? = some (.own x) := by rw [List.getElem?_append_right (Nat.le_refl _), Nat.sub_self]; rfl
  have e2 : (σ ++ [some (V.ref p)])[ρ.length]? = some (some (.ref p)) := by rw [← l, List.getElem?_append_right (Nat.le_refl _), Nat.sub_self]; rfl
  constructor
  · obtain ⟨a, ea, o⟩ := R.s _ _ e1
    rw [e2] at ea
    cases Option.some.inj (Option.some.inj ea)
    exact o
  · intro j y h1 h2
    have hj : j < ρ.length := (List.getElem?_eq_some_iff.mp h1).1
    have := R.d j ρ.length y x p (by rw [List.getElem?_append_left hj]; exact h1) e1 (by rw [List.getElem?_append_left (by rw [l]; exact hj)]; exact h2) e2
    omega
/-- a comprehension's reading, from the trees -/
theorem lc_lift {K : PySem.W.Frag} {t : Tg} {vs : List Nat} {σ : L2.St} {H : Hp} {Q : VK} (hv : ∀ i ∈ t.ids, i ∈ vs) (h : tM K C (mLc t mi mt ma vs) σ H Q) : tLc (tMI K C mi) (t.g K) (tMT K C mt) (tM K C ma) vs σ H Q := by
  obtain ⟨W0, W, ρ, S, z, S', eH, R, em, q⟩ := h
  subst eH
  unfold mLc at em
  split at em
  · rename_i xs S1 e1
    split at em
    · rename_i ys S2 e2
      split at em
      · rename_i hl
        cases em
        refine ⟨W0, W, ρ, S, xs, S1, rfl, R, e1, fun J W1 R1 g1 ok D nD => ?_⟩
        have lw : (wipe σ vs).length = (wipM ρ vs).length := (wip_rel R1 vs).l
        -- what holds ahead of turn i
        refine ⟨fun i m H => m = xs.length - i ∧ i ≤ xs.length ∧ ∃ W2 S3 acc zs, H = W2.H ∧ Gro W1 W2 ∧ Rel K C W0 W2 (σ ++ [some (.ref D)]) (ρ ++ [.own (.lst acc)]) S3 ∧ lcL t mt ma (wipM ρ vs) (xs.drop i) S3 = some (zs, S') ∧ acc ++ zs = ys, ⟨xs.length, (Nat.sub_zero _).symm, Nat.zero_le _, ?_⟩, ?_⟩
        · obtain ⟨g2, R2, o2, d2⟩ := laidO (us := []) (ys := []) R1 .nil nD
          exact ⟨_, S1, [], ys, rfl, g2, R2.snoc o2 d2, e2, rfl⟩
        rintro i m H ⟨rfl, hi, W2, S3, acc, zs, rfl, g2, R2, e3, ez⟩
        have R2' := R2.unapp R.l
        obtain ⟨o2, d2⟩ := R2.snocD R.l
        have back : ∀ {W3 : Wd} {S4 : List PV}, Gro W2 W3 → Inv1 K C W3 S4 → Rel K C W0 W3 (σ ++ [some (.ref D)]) (ρ ++ [.own (.lst acc)]) S4 := fun g i => R2.ext g i
        by_cases hlt : i < xs.length
        · refine .inr ⟨ok.go i W2 S3 g2.groF R2.i hlt, fun H' => ∃ W2 S3 acc zs, H' = W2.H ∧ Gro W1 W2 ∧ Rel K C W0 W2 (σ ++ [some (.ref D)]) (ρ ++ [.own (.lst acc)]) S3 ∧ lcL t mt ma (wipM ρ vs) (xs.drop (i + 1)) S3 = some (zs, S') ∧ acc ++ zs = ys, fun H' n => ⟨xs.length - (i + 1), by omega, rfl, hlt, n⟩, fun v H' y => ?_⟩
          rw [List.drop_eq_getElem_cons hlt] at e3
          obtain ⟨W3, rfl, g3, i3, r3⟩ := ok.yld i W2 S3 v H' xs[i] g2.groF R2.i (List.getElem?_eq_getElem hlt) y
          have R3 := (wip_rel R2' vs).ext g3 i3
          unfold lcL at e3
          split at e3
          · rename_i ρ3 e4
            refine t.ok R3 r3 e4 fun σ' R' w => ⟨by rw [w vs hv]; exact wipe_wipe σ vs, ?_⟩
            split at e3
            · rename_i S4 e5
              split at e3
              · rename_i y4 S5 e6
                split at e3
                · rename_i ys5 S6 e7
                  cases e3
                  refine ⟨W0, W3, ρ3, S3, true, S4, rfl, R', e5, fun W4 R4 g4 => iteT ?_⟩
                  refine ⟨W0, W4, ρ3, S4, y4, S5, rfl, R4, e6, fun u W5 R5 g5 r5 => ?_⟩
                  have g25 := (g3.trans g4).trans g5
                  obtain ⟨a', ea', o1, o2', o3, us, eh, ru⟩ := (back g25 R5.i).s ρ.length (.own (.lst acc)) (by rw [List.getElem?_append_right (Nat.le_refl _), Nat.sub_self]; rfl)
                  have e2' : (σ ++ [some (V.ref D)])[ρ.length]? = some (some (.ref D)) := by rw [← R.l, List.getElem?_append_right (Nat.le_refl _), Nat.sub_self]; rfl
                  rw [e2'] at ea'
                  cases Option.some.inj (Option.some.inj ea')
                  have hlen : acc.length < sizeLine := by
                    have : ys.length ≤ 100000 := hl
                    rw [← ez, List.length_append] at this
                    exact Nat.lt_of_le_of_lt (Nat.le_trans (Nat.le_add_right _ _) this) (by decide)
                  refine ⟨us, eh, by rw [ru.len]; exact hlen, ⟨W5.F, upd W5.H D (.lst (us ++ [u])), W5.θ⟩, S5, acc ++ [y4], ys5, rfl, ?_, ?_, e7, by rw [List.append_assoc]; exact ez⟩
                  · have gg := g2.trans g25
                    refine ⟨gg.f, gg.t, fun p o e n => ?_, fun p o e => ?_, gg.n⟩
                    · show upd W5.H D _ p = _
                      rw [upd_ne (ne_of_none e nD)]
                      exact gg.h p o e n
                    · obtain ⟨o', e'⟩ := gg.k p o e
                      exact ⟨o', by show upd W5.H D _ p = _; rw [upd_ne (ne_of_none e nD)]; exact e'⟩
                  · have := (back g25 R5.i).ownUpd (i := ρ.length) (a := D) (us := us ++ [u]) (ys := acc ++ [y4]) (by rw [List.getElem?_append_right (Nat.le_refl _), Nat.sub_self]; rfl) e2' (ru.app (.cons r5 .nil))
                    rw [List.set_append_right _ _ (Nat.le_refl _), Nat.sub_self] at this
                    exact this
                · cases e3
              · cases e3
            · rename_i S4 e5
              refine ⟨W0, W3, ρ3, S3, false, S4, rfl, R', e5, fun W4 R4 g4 => iteF ?_⟩
              have g24 := g3.trans g4
              exact ⟨W4, S4, acc, zs, rfl, g2.trans g24, back g24 R4.i, e3, ez⟩
            · cases e3
          · cases e3
        · have e : i = xs.length := by omega
          subst e
          rw [List.drop_length] at e3
          cases e3
          rw [List.append_nil] at ez
          subst ez
          refine .inl ⟨ok.stop W2 S' g2.groF R2.i, ?_⟩
          have h' : (ρ ++ [SlV.own (.lst acc)])[ρ.length]? = some (.own (.lst acc)) := by rw [List.getElem?_append_right (Nat.le_refl _), Nat.sub_self]; rfl
          obtain ⟨W3, eH3, g3, R3, gF⟩ := R2.frz h'
          rw [List.set_append_right _ _ (Nat.le_refl _), Nat.sub_self] at R3
          obtain ⟨u, eu, ru⟩ := R3.s ρ.length (.val (.lst acc)) (by rw [List.getElem?_append_right (Nat.le_refl _), Nat.sub_self]; rfl)
          have e2' : (σ ++ [some (V.ref D)])[ρ.length]? = some (some (.ref D)) := by rw [← R.l, List.getElem?_append_right (Nat.le_refl _), Nat.sub_self]; rfl
          rw [e2'] at eu
          cases Option.some.inj (Option.some.inj eu)
          have gg : Gro W1 W3 := gF W1 g2 fun a ea => by
            rw [e2'] at ea
            cases Option.some.inj (Option.some.inj ea)
            exact nD
          rw [← eH3]
          exact q _ W3 (R3.unapp R.l) (g1.trans gg) ru
      · cases em
    · cases em
  · cases em
where
  wipe_wipe (σ : L2.St) : ∀ vs : List Nat, wipe (wipe σ vs) vs = wipe σ vs := fun vs => by
    have h : ∀ (us : List Nat) (τ : L2.St), (∀ v ∈ us, τ[v]? = some none ∨ τ[v]? = none) → wipe τ us = τ := fun us => by
      induction us with
      | nil => intro τ _; rfl
      | cons u us ih =>
        intro τ hτ
        show (wipe τ us).set u none = τ
        rw [ih τ fun v hv => hτ v (List.mem_cons_of_mem _ hv)]
        rcases hτ u List.mem_cons_self with h | h
        · apply List.ext_getElem?
          intro j
          by_cases c : u = j
          · subst c
            rw [List.getElem?_set_self (List.getElem?_eq_some_iff.mp h).1, h]
          · rw [List.getElem?_set_ne c]
        · exact List.set_eq_of_length_le (by simpa using h)
    refine h vs _ fun v hv => ?_
    have : ∀ (us : List Nat) (v : Nat), v ∈ us → (wipe σ us)[v]? = some none ∨ (wipe σ us)[v]? = none := fun us => by
      induction us with
      | nil => intro v h; cases h
      | cons u us ih =>
        intro v hv
        show ((wipe σ us).set u none)[v]? = _ ∨ ((wipe σ us).set u none)[v]? = _
        by_cases c : u = v
        · subst c
          by_cases hl : u < (wipe σ us).length
          · exact .inl (List.getElem?_set_self hl)
          · exact .inr (List.getElem?_eq_none (by rw [List.length_set]; omega))
        · rw [List.getElem?_set_ne c]
          rcases List.mem_cons.mp hv with e | hv
          · exact (c e.symm).elim
          · exact ih v hv
    exact this vs v hv
end
end BL

namespace BL
open PySem PySem.Spec PyProof.Rows L2
/-! ### what written expressions give, by data -/
section
variable {K : PySem.W.Frag}
mutual
theorem dpm {H H' : Hp} (s : Same H H') : ∀ {v : V} {d : PyData}, Dp K H v d → Dp K H' v d
  | _, _, .non => .non
  | _, _, .bl b => .bl b
  | _, _, .int i => .int i
  | _, _, .str x => .str x
  | _, _, .lst h a => .lst (s.seq h) (dpam s a)
  | _, _, .tup h a => .tup (s.seT h) (dpam s a)
theorem dpam {H H' : Hp} (s : Same H H') : ∀ {vs : List V} {ds : List PyData}, DpAll K H vs ds → DpAll K H' vs ds
  | _, _, .nil => .nil
  | _, _, .cons h a => .cons (dpm s h) (dpam s a)
end
theorem dpa_len {H : Hp} : ∀ {vs : List V} {ds : List PyData}, DpAll K H vs ds → vs.length = ds.length
  | _, _, .nil => rfl
  | _, _, .cons h a => congrArg Nat.succ (dpa_len a)
theorem dpa_app {H : Hp} {us : List V} {es : List PyData} : ∀ {vs : List V} {ds : List PyData}, DpAll K H vs ds → DpAll K H us es → DpAll K H (vs ++ us) (ds ++ es)
  | _, _, .nil, b => b
  | _, _, .cons h a, b => .cons h (dpa_app a b)
def okd : Nat → PyData → Bool
  | 0, .list _ => false
  | 0, .tuple _ => false
  | n + 1, .list ds => decide (ds.length ≤ 1000) && ds.all (okd n)
  | n + 1, .tuple ds => decide (ds.length ≤ 1000) && ds.all (okd n)
  | _, _ => true
theorem dpa_at {H : Hp} {R : V → V → Prop} : ∀ {vs us : List V} {ds : List PyData}, DpAll K H vs ds → DpAll K H us ds → (∀ d ∈ ds, ∀ x y, Dp K H x d → Dp K H y d → R x y) → ∀ (i : Nat) (x y : V), vs[i]? = some x → us[i]? = some y → R x y
  | _, _, _, .nil, .nil, _, _, _, _, h, _ => by simp at h
  | _, _, _, .cons h a, .cons g b, r, 0, x, y, e1, e2 => by
    have e1 := Option.some.inj e1
    have e2 := Option.some.inj e2
    subst e1
    subst e2
    exact r _ (List.mem_cons_self) _ _ h g
  | _, _, _, .cons h a, .cons g b, r, i + 1, x, y, e1, e2 => dpa_at a b (fun d m => r d (List.mem_cons_of_mem _ m)) i x y e1 e2
theorem eqs_dp {H : Hp} : ∀ (n : Nat) (d : PyData) (x y : V), okd n d = true → Dp K H x d → Dp K H y d → Eqs K H n x y := by
  intro n
  induction n with
  | zero =>
    intro d x y h a b
    cases a with
    | non => cases b; exact .non 0
    | bl c => cases b; exact .bl 0 c
    | int c => cases b; exact .int 0 c
    | str c => cases b; exact .str 0 c
    | lst _ _ => cases h
    | tup _ _ => cases h
  | succ n ih =>
    intro d x y h a b
    cases a with
    | non => cases b; exact .non _
    | bl c => cases b; exact .bl _ c
    | int c => cases b; exact .int _ c
    | str c => cases b; exact .str _ c
    | lst s1 a1 =>
      cases b with
      | lst s2 a2 =>
        unfold okd at h
        rw [Bool.and_eq_true, decide_eq_true_eq, List.all_eq_true] at h
        exact .lst s1 s2 (by rw [dpa_len a1, dpa_len a2]) (by rw [dpa_len a1]; exact h.1) (dpa_at a1 a2 fun d m x y p q => ih d x y (h.2 d m) p q)
    | tup s1 a1 =>
      cases b with
      | tup s2 a2 =>
        unfold okd at h
        rw [Bool.and_eq_true, decide_eq_true_eq, List.all_eq_true] at h
        exact .tup s1 s2 (by rw [dpa_len a1, dpa_len a2]) (by rw [dpa_len a1]; exact h.1) (dpa_at a1 a2 fun d m x y p q => ih d x y (h.2 d m) p q)
abbrev RT := Hp → V → Prop
/-- te gives a value of which R holds, whatever is laid beside; what stood stands -/
def GV (te : TE) (σ : L2.St) (H : Hp) (R : RT) : Prop := ∀ H1, Same H H1 → ∀ Q : VK, (∀ v H', Same H1 H' → R H' v → Q v H') → te σ H1 Q
def GA (K : PySem.W.Frag) (ta : TA) (σ : L2.St) (H : Hp) (ds : List PyData) : Prop := ∀ H1, Same H H1 → ∀ Q : List V → Hp → Prop, (∀ vs H', Same H1 H' → DpAll K H' vs ds → Q vs H') → ta σ H1 Q
abbrev RD (K : PySem.W.Frag) (d : PyData) : RT := fun H v => Dp K H v d
abbrev RL (K : PySem.W.Frag) (ds : List PyData) : RT := fun H v => ∃ l xs, v = .ref l ∧ H l = some (.lst xs) ∧ DpAll K H xs ds
theorem rl_mono {ds : List PyData} {H H' : Hp} {v : V} (s : Same H H') (h : RL K ds H v) : RL K ds H' v := by
  obtain ⟨l, xs, e, f, g⟩ := h
  exact ⟨l, xs, e, s _ _ f, dpam s g⟩
theorem rl_rd {ds : List PyData} {H : Hp} {v : V} (h : RL K ds H v) : Dp K H v (.list ds) := by
  obtain ⟨l, xs, rfl, f, g⟩ := h
  exact .lst (SqL.of f) g
variable {σ : L2.St} {H : Hp} {te ta tb : TE}
theorem gv_imp {R R' : RT} (g : GV te σ H R) (i : ∀ H v, R H v → R' H v) : GV te σ H R' := fun H1 s Q q => g H1 s Q fun v H' s' r => q v H' s' (i _ _ r)
theorem gv_int (i : Int) : GV (tC (.int i)) σ H (RD K (.int i)) := fun H1 _ Q q => q _ H1 (Same.refl _) (.int i)
theorem gv_non : GV (tC .non) σ H (RD K .none) := fun H1 _ Q q => q _ H1 (Same.refl _) .non
theorem gv_bl (b : Bool) : GV (tC (.bl b)) σ H (RD K (.bool b)) := fun H1 _ Q q => q _ H1 (Same.refl _) (.bl b)
theorem gv_str (x : Str) : GV (tC (.str x)) σ H (RD K (.str x)) := fun H1 _ Q q => q _ H1 (Same.refl _) (.str x)
theorem gv_var {i : Nat} {v : V} {R : RT} (e : σ[i]? = some (some v)) (r : ∀ H', Same H H' → R H' v) : GV (tVar i) σ H R := fun H1 s Q q => ⟨v, e, q v H1 (Same.refl _) (r H1 s)⟩
theorem gv_neg {i : Int} (g : GV te σ H (RD K (.int i))) : GV (tUn (rU fun i => .int (-i)) te) σ H (RD K (.int (-i))) := fun H1 s Q q => g H1 s _ fun v H' s' r => by
  cases r
  exact ⟨_, rfl, q _ _ s' (.int _)⟩
theorem gv_sub {i j : Int} (g : GV ta σ H (RD K (.int i))) (f : GV tb σ H (RD K (.int j))) : GV (tOp (rI0 fun i j => .int (i - j)) ta tb) σ H (RD K (.int (i - j))) := fun H1 s Q q => g H1 s _ fun v H2 s2 r => f H2 (s.trans s2) _ fun u H3 s3 t => by
  cases r
  cases t
  exact ⟨_, _, rfl, rfl, q _ _ (s2.trans s3) (.int _)⟩
theorem gv_add {i j : Int} (g : GV ta σ H (RD K (.int i))) (f : GV tb σ H (RD K (.int j))) : GV (tOp (rI0 fun i j => .int (i + j)) ta tb) σ H (RD K (.int (i + j))) := fun H1 s Q q => g H1 s _ fun v H2 s2 r => f H2 (s.trans s2) _ fun u H3 s3 t => by
  cases r
  cases t
  exact ⟨_, _, rfl, rfl, q _ _ (s2.trans s3) (.int _)⟩
theorem gv_pow {i j : Int} (g : GV ta σ H (RD K (.int i))) (f : GV tb σ H (RD K (.int j))) (c : CPow i j) : GV (tOp (rI CPow fun i j => .int (i ^ j.toNat)) ta tb) σ H (RD K (.int (i ^ j.toNat))) := fun H1 s Q q => g H1 s _ fun v H2 s2 r => f H2 (s.trans s2) _ fun u H3 s3 t => by
  cases r
  cases t
  exact ⟨_, _, rfl, rfl, c, q _ _ (s2.trans s3) (.int _)⟩
theorem gv_mul {i j : Int} (g : GV ta σ H (RD K (.int i))) (f : GV tb σ H (RD K (.int j))) (c : CMul i j) : GV (tOp (rI CMul fun i j => .int (i * j)) ta tb) σ H (RD K (.int (i * j))) := fun H1 s Q q => g H1 s _ fun v H2 s2 r => f H2 (s.trans s2) _ fun u H3 s3 t => by
  cases r
  cases t
  exact ⟨_, _, rfl, rfl, c, q _ _ (s2.trans s3) (.int _)⟩
theorem ga_nil : GA K tNil σ H [] := fun H1 _ Q q => q [] H1 (Same.refl _) .nil
theorem ga_cons {d : PyData} {ds : List PyData} {t : TA} (g : GV te σ H (RD K d)) (f : GA K t σ H ds) : GA K (tCons te t) σ H (d :: ds) := fun H1 s Q q => g H1 s _ fun v H2 s2 r => f H2 (s.trans s2) _ fun us H3 s3 t => q _ _ (s2.trans s3) (.cons (dpm s3 r) t)
theorem gv_tup {ds : List PyData} {t : TA} (f : GA K t σ H ds) (hl : ds.length ≤ sizeLine) : GV (tTup t) σ H (RD K (.tuple ds)) := fun H1 s Q q => f H1 s _ fun vs H2 s2 r => ⟨by rw [dpa_len r]; exact hl, fun p np => q _ _ (s2.trans (same_upd np)) (.tup (SqT.of upd_same) (dpam (same_upd np) r))⟩
theorem gv_lst {ds : List PyData} {t : TA} (f : GA K t σ H ds) (hl : ds.length ≤ sizeLine) : GV (tLst t) σ H (RL K ds) := fun H1 s Q q => f H1 s _ fun vs H2 s2 r => ⟨by rw [dpa_len r]; exact hl, fun p np => q _ _ (s2.trans (same_upd np)) ⟨p, vs, rfl, upd_same, dpam (same_upd np) r⟩⟩
theorem gv_cat {ds es : List PyData} (g : GV ta σ H (RL K ds)) (f : GV tb σ H (RL K es)) (hl : ds.length + es.length ≤ sizeLine) : GV (tOp rCat ta tb) σ H (RL K (ds ++ es)) := fun H1 s Q q => g H1 s _ fun v H2 s2 r => f H2 (s.trans s2) _ fun u H3 s3 t => by
  obtain ⟨l, xs, rfl, e1, a1⟩ := rl_mono s3 r
  obtain ⟨m, ys, rfl, e2, a2⟩ := t
  exact ⟨l, m, xs, ys, rfl, rfl, e1, e2, by rw [dpa_len a1, dpa_len a2]; exact hl, fun p np => q _ _ ((s2.trans s3).trans (same_upd np)) ⟨p, _, rfl, upd_same, dpam (same_upd np) (dpa_app a1 a2)⟩⟩
theorem gv_rl {ds : List PyData} (g : GV te σ H (RL K ds)) : GV te σ H (RD K (.list ds)) := gv_imp g fun _ _ => rl_rd
/-- x = e; S: the slots behind it -/
theorem asg {R : RT} {i : Nat} {D : Ends} (S : V → L2.St) (e : ∀ v, σ.set i (some v) = S v) (g : GV te σ H R) (k : ∀ v H', Same H H' → R H' v → D.nx (S v) H') : tAsg te (gName i) D σ H := g H (Same.refl _) _ fun v H' s r => by
  show D.nx (σ.set i (some v)) H'
  rw [e]
  exact k v H' s r
theorem par {R R' : RT} {i j : Nat} {D : Ends} (S : V → V → L2.St) (e : ∀ v w, (σ.set i (some v)).set j (some w) = S v w) (g : GV ta σ H R) (h : GV tb σ H R') (m : ∀ H H' v, Same H H' → R H v → R H' v) (k : ∀ v w H', Same H H' → R H' v → R' H' w → D.nx (S v w) H') : tPar i j (tCons ta (tCons tb tNil)) D σ H := g H (Same.refl _) _ fun v H1 s1 r => h H1 s1 _ fun w H2 s2 r2 => ⟨v, w, rfl, by
  rw [e]
  exact k v w H2 (s1.trans s2) (m _ _ _ s2 r) r2⟩
/-- the two sides read alike -/
theorem gv_same {d : PyData} {n : Nat} (g : GV ta σ H (RD K d)) (f : GV tb σ H (RD K d)) (ok : okd n d = true) : GV (tCall (spSame K (n + 1)) [] C8.E0 (tCons ta (tCons tb tNil))) σ H (RD K (.bool true)) := fun H1 s Q q => g H1 s _ fun v H2 s2 r => f H2 (s.trans s2) _ fun u H3 s3 t =>
  ⟨v, u, rfl, eqs_dp n d v u ok (dpm s3 r) t, fun H4 s4 => q _ _ ((s2.trans s3).trans s4) (.bl true)⟩
end
end BL

namespace BL
open PySem PySem.Spec PyProof.Rows L2
/-! values -/
section
variable {K : PySem.W.Frag} {C : Addr}
def fAdd (_ : List PV) : PV → PV → Option PV
  | .int i, .int j => some (.int (i + j))
  | .lst a, .lst b => if a.length + b.length ≤ 100000 then some (.lst (a ++ b)) else none
  | .tup a, .tup b => if a.length + b.length ≤ 100000 then some (.tup (a ++ b)) else none
  | .str a, .str b => if a.length + b.length ≤ 100000 then some (.str (a ++ b)) else none
  | _, _ => none
abbrev rAddS : R2 := fun x y H Q => ∃ i j, x = .str i ∧ y = .str j ∧ i.length + j.length ≤ sizeLine ∧ Q (.str (i ++ j)) H
abbrev rAddP (K : PySem.W.Frag) : R2 := fun x y H Q => (rI0 fun i j => .int (i + j)) x y H Q ∨ (fun x y H Q => rCat x y H Q ∨ (fun x y H Q => rCatA K x y H Q ∨ rAddS x y H Q) x y H Q) x y H Q
theorem op_addP {X : Cx} : OpR X (binaryOp .Add) (rAddP X.K) := op_add.or (op_cat.or (op_catA.or op_add_str))
theorem l_add : LR2 K C (rAddP K) fAdd := fun W S v u x y z Q i rx ry e q => by
  unfold fAdd at e
  split at e
  · cases e
    cases rx
    cases ry
    exact .inl ⟨_, _, rfl, rfl, q _ W (Gro.refl _) i (.int _)⟩
  · split at e
    · rename_i a b hl
      cases e
      cases rx with
      | lst h1 a1 =>
        cases ry with
        | lst h2 a2 =>
          refine .inr (.inl ⟨_, _, _, _, rfl, rfl, i.s _ _ h1, i.s _ _ h2, by rw [a1.len, a2.len]; exact Nat.le_trans hl lim, fun p np => ?_⟩)
          obtain ⟨g, i2⟩ := laid (.lst (_ ++ _)) i np
          exact q _ _ g i2 (.lst upd_same ((a1.app a2).ext g))
    · cases e
  · split at e
    · rename_i a b hl
      cases e
      cases rx with
      | tup h1 a1 =>
        cases ry with
        | tup h2 a2 =>
          refine .inr (.inr (.inl ?_))
          refine ⟨_, _, _, _, rfl, rfl, i.s.seT h1, i.s.seT h2, by rw [a1.len, a2.len]; exact Nat.le_trans hl lim, ?_⟩
          refine ⟨fun hn => ?_, fun hn hm => ?_, fun hn hm p np => ?_⟩
          · subst hn
            cases a1
            exact q _ W (Gro.refl _) i (.tup h2 a2)
          · subst hm
            cases a2
            rw [List.append_nil] at q
            exact q _ W (Gro.refl _) i (.tup h1 a1)
          · obtain ⟨g, i2⟩ := laid (.tup (_ ++ _)) i np
            exact q _ _ g i2 (.tup (SqT.of upd_same) ((a1.app a2).ext g))
    · cases e
  · split at e
    · rename_i a b hl
      cases e
      cases rx
      cases ry
      exact .inr (.inr (.inr ⟨_, _, rfl, rfl, Nat.le_trans hl lim, q _ W (Gro.refl _) i (.str _)⟩))
    · cases e
  · cases e
def fSub (_ : List PV) : PV → PV → Option PV
  | .int i, .int j => some (.int (i - j))
  | _, _ => none
theorem l_sub : LR2 K C (rI0 fun i j => .int (i - j)) fSub := fun W S v u x y z Q i rx ry e q => by
  unfold fSub at e
  split at e
  · cases e
    cases rx
    cases ry
    exact ⟨_, _, rfl, rfl, q _ W (Gro.refl _) i (.int _)⟩
  · cases e
theorem log2_lt {i : Int} {k : Nat} (h : i.natAbs < 2 ^ k) : i.natAbs.log2 ≤ k := by
  by_cases z : i.natAbs = 0
  · rw [z]
    exact Nat.zero_le _
  · exact Nat.le_of_lt ((Nat.log2_lt z).mpr h)
def fMul (_ : List PV) : PV → PV → Option PV
  | .int i, .int j => if i.natAbs < 2 ^ 64 ∨ j.natAbs < 2 ^ 64 ∨ (i.natAbs < 2 ^ 4000 ∧ j.natAbs < 2 ^ 4000) then some (.int (i * j)) else none
  | _, _ => none
abbrev rMulP : R2 := fun x y H Q => (rI CMul fun i j => .int (i * j)) x y H Q ∨ (rI CMulW fun i j => .int (i * j)) x y H Q
theorem op_mulP {X : Cx} : OpR X (binaryOp .Mult) rMulP := BL.OpR.or op_mul op_mulW
theorem l_mul : LR2 K C rMulP fMul := fun W S v u x y z Q i rx ry e q => by
  unfold fMul at e
  split at e
  · split at e
    · rename_i h
      cases e
      cases rx
      cases ry
      rcases h with h | h | h
      · exact .inl ⟨_, _, rfl, rfl, .inl ⟨by omega, by omega⟩, q _ W (Gro.refl _) i (.int _)⟩
      · exact .inl ⟨_, _, rfl, rfl, .inr ⟨by omega, by omega⟩, q _ W (Gro.refl _) i (.int _)⟩
      · refine .inr ⟨_, _, rfl, rfl, ?_, q _ W (Gro.refl _) i (.int _)⟩
        have h1 := log2_lt h.1
        have h2 := log2_lt h.2
        unfold CMulW
        omega
    · cases e
  · cases e
def fDiv (_ : List PV) : PV → PV → Option PV
  | .int i, .int j => if 0 < j ∧ j.natAbs < 2 ^ 4000 then some (.int (i / j)) else none
  | _, _ => none
theorem l_div : LR2 K C (rI CDivW fun i j => .int (i / j)) fDiv := fun W S v u x y z Q i rx ry e q => by
  unfold fDiv at e
  split at e
  · split at e
    · rename_i h
      cases e
      cases rx
      cases ry
      refine ⟨_, _, rfl, rfl, ⟨h.1, ?_⟩, q _ W (Gro.refl _) i (.int _)⟩
      have h2 := log2_lt h.2
      omega
    · cases e
  · cases e
def fMod (_ : List PV) : PV → PV → Option PV
  | .int i, .int j => if 0 < j then some (.int (i % j)) else none
  | _, _ => none
theorem l_mod : LR2 K C (rI (fun _ j => 0 < j) fun i j => .int (i % j)) fMod := fun W S v u x y z Q i rx ry e q => by
  unfold fMod at e
  split at e
  · split at e
    · rename_i h
      cases e
      cases rx
      cases ry
      exact ⟨_, _, rfl, rfl, h, q _ W (Gro.refl _) i (.int _)⟩
    · cases e
  · cases e
def fPow (_ : List PV) : PV → PV → Option PV
  | .int i, .int j => if 0 ≤ j ∧ j ≤ 1000000 ∧ i.natAbs < 2 ^ 64 then some (.int (i ^ j.toNat)) else none
  | _, _ => none
theorem l_pow : LR2 K C (rI CPow fun i j => .int (i ^ j.toNat)) fPow := fun W S v u x y z Q i rx ry e q => by
  unfold fPow at e
  split at e
  · split at e
    · rename_i h
      cases e
      cases rx
      cases ry
      exact ⟨_, _, rfl, rfl, h, q _ W (Gro.refl _) i (.int _)⟩
    · cases e
  · cases e
def fNeg (_ : List PV) : PV → Option PV
  | .int i => some (.int (-i))
  | _ => none
theorem l_neg : LR1 K C (rU fun i => .int (-i)) fNeg := fun W S v x z Q i rx e q => by
  unfold fNeg at e
  split at e
  · cases e
    cases rx
    exact ⟨_, rfl, q _ W (Gro.refl _) i (.int _)⟩
  · cases e
/-! comparing -/
def fCmp (p : Int → Int → Bool) (_ : List PV) : PV → PV → Option PV
  | .int i, .int j => some (.bl (p i j))
  | _, _ => none
theorem l_cmp {p : Int → Int → Bool} : LR2 K C (rI0 fun i j => .bl (p i j)) (fCmp p) := fun W S v u x y z Q i rx ry e q => by
  unfold fCmp at e
  split at e
  · cases e
    cases rx
    cases ry
    exact ⟨_, _, rfl, rfl, q _ W (Gro.refl _) i (.bl _)⟩
  · cases e
abbrev fLt := fCmp fun i j => decide (i < j)
abbrev fLe := fCmp fun i j => decide (i ≤ j)
abbrev fGt := fCmp fun i j => decide (j < i)
abbrev fGe := fCmp fun i j => decide (j ≤ i)
def PV.isNon : PV → Bool
  | .non => true
  | _ => false
theorem Rep.isNon {F : Hp} {θ : List Addr} {v : V} {x : PV} (r : Rep K C F θ v x) : decide (v = .non) = x.isNon := by
  cases r <;> rfl
def fIs (_ : List PV) : PV → PV → Option PV
  | x, .non => some (.bl x.isNon)
  | _, _ => none
def fNot (_ : List PV) : PV → PV → Option PV
  | x, .non => some (.bl (!x.isNon))
  | _, _ => none
theorem l_is : LR2 K C (fun x y H Q => y = .non ∧ Q (.bl (decide (x = .non))) H) fIs := fun W S v u x y z Q i rx ry e q => by
  unfold fIs at e
  split at e
  · cases e
    cases ry
    refine ⟨rfl, ?_⟩
    rw [rx.isNon]
    exact q _ W (Gro.refl _) i (.bl _)
  · cases e
theorem l_not : LR2 K C (fun x y H Q => y = .non ∧ Q (.bl (!decide (x = .non))) H) fNot := fun W S v u x y z Q i rx ry e q => by
  unfold fNot at e
  split at e
  · cases e
    cases ry
    refine ⟨rfl, ?_⟩
    rw [rx.isNon]
    exact q _ W (Gro.refl _) i (.bl _)
  · cases e
/-- plain data in a tree -/
def PV.toD : PV → Option PyData
  | .non => some .none
  | .bl b => some (.bool b)
  | .int i => some (.int i)
  | .str x => some (.str x)
  | .lst xs => match toDs xs with
    | some ds => some (.list ds)
    | none => none
  | .tup xs => match toDs xs with
    | some ds => some (.tuple ds)
    | none => none
  | _ => none
where toDs : List PV → Option (List PyData)
  | [] => some []
  | x :: xs => match PV.toD x, toDs xs with
    | some d, some ds => some (d :: ds)
    | _, _ => none
mutual
theorem Rep.dp {F : Hp} {θ : List Addr} : ∀ {v : V} {x : PV} {d : PyData}, Rep K C F θ v x → x.toD = some d → Dp K F v d
  | _, _, _, .non, e => by unfold PV.toD at e; cases e; exact .non
  | _, _, _, .bl b, e => by unfold PV.toD at e; cases e; exact .bl b
  | _, _, _, .int b, e => by unfold PV.toD at e; cases e; exact .int b
  | _, _, _, .str b, e => by unfold PV.toD at e; cases e; exact .str b
  | _, _, _, .lst h a, e => by
    unfold PV.toD at e
    split at e
    · rename_i ds ed
      cases e
      exact .lst (SqL.of h) (RepAll.dp a ed)
    · cases e
  | _, _, _, .tup h a, e => by
    unfold PV.toD at e
    split at e
    · rename_i ds ed
      cases e
      exact .tup h (RepAll.dp a ed)
    · cases e
  | _, _, _, .way _, e => by unfold PV.toD at e; cases e
  | _, _, _, .mref _, e => by unfold PV.toD at e; cases e
theorem RepAll.dp {F : Hp} {θ : List Addr} : ∀ {vs : List V} {xs : List PV} {ds : List PyData}, RepAll K C F θ vs xs → PV.toD.toDs xs = some ds → DpAll K F vs ds
  | _, _, _, .nil, e => by unfold PV.toD.toDs at e; cases e; exact .nil
  | _, _, _, .cons h a, e => by
    unfold PV.toD.toDs at e
    split at e
    · rename_i d ds e1 e2
      cases e
      exact .cons (Rep.dp h e1) (RepAll.dp a e2)
    · cases e
end
def PV.scal : PV → PV → Option Bool
  | .non, .non => some true
  | .non, .int _ => some false | .int _, .non => some false
  | .non, .bl _ => some false | .bl _, .non => some false
  | .non, .str _ => some false | .str _, .non => some false
  | .int i, .int j => some (decide (i = j))
  | .bl i, .bl j => some (decide (i = j))
  | .str i, .str j => some (decide (i = j))
  | .int _, .str _ => some false | .str _, .int _ => some false
  | .bl _, .str _ => some false | .str _, .bl _ => some false
  | _, _ => none
theorem Rep.scal {F : Hp} {θ : List Addr} {v u : V} {x y : PV} {b : Bool} (r : Rep K C F θ v x) (t : Rep K C F θ u y) (e : x.scal y = some b) : L2.scal v u = true ∧ decide (v = u) = b := by
  unfold PV.scal at e
  split at e
  all_goals first
    | (cases e; cases r; cases t; exact ⟨rfl, by simp⟩)
    | cases e
def eqP (x y : PV) : Option Bool := match x.scal y with
  | some b => some b
  | none => match x.toD, y.toD with
    | some d, some e => if SeqAt.shaped d && SeqAt.shaped e then some (PyData.eqv d e) else none
    | _, _ => none
def fEq (_ : List PV) (x y : PV) : Option PV := match eqP x y with
  | some b => some (.bl b)
  | none => none
def fNe (_ : List PV) (x y : PV) : Option PV := match eqP x y with
  | some b => some (.bl (!b))
  | none => none
abbrev rEqP (K : PySem.W.Frag) : R2 := fun x y H Q => rEq x y H Q ∨ rEqD K x y H Q
abbrev rNeP (K : PySem.W.Frag) : R2 := fun x y H Q => rNe x y H Q ∨ rNeD K x y H Q
theorem Dp.monoS {H H' : Hp} (s : Same H H') {v : V} {d : PyData} (h : Dp K H v d) : Dp K H' v d := dpm s h
theorem l_eq : LR2 K C (rEqP K) fEq := fun W S v u x y z Q i rx ry e q => by
  unfold fEq eqP at e
  split at e
  · rename_i b hb
    cases e
    split at hb
    · rename_i b' hs
      cases hb
      obtain ⟨h1, h2⟩ := rx.scal ry hs
      exact .inl ⟨h1, by rw [h2]; exact q _ W (Gro.refl _) i (.bl _)⟩
    · split at hb
      · rename_i d d' e1 e2
        split at hb
        · rename_i hc
          cases hb
          rw [Bool.and_eq_true] at hc
          exact .inr ⟨d, d', dpm i.s (rx.dp e1), dpm i.s (ry.dp e2), hc.1, hc.2, q _ W (Gro.refl _) i (.bl _)⟩
        · cases hb
      · cases hb
  · cases e
theorem l_ne : LR2 K C (rNeP K) fNe := fun W S v u x y z Q i rx ry e q => by
  unfold fNe eqP at e
  split at e
  · rename_i b hb
    cases e
    split at hb
    · rename_i b' hs
      cases hb
      obtain ⟨h1, h2⟩ := rx.scal ry hs
      exact .inl ⟨h1, by rw [h2]; exact q _ W (Gro.refl _) i (.bl _)⟩
    · split at hb
      · rename_i d d' e1 e2
        split at hb
        · rename_i hc
          cases hb
          rw [Bool.and_eq_true] at hc
          exact .inr ⟨d, d', dpm i.s (rx.dp e1), dpm i.s (ry.dp e2), hc.1, hc.2, q _ W (Gro.refl _) i (.bl _)⟩
        · cases hb
      · cases hb
  · cases e
/-! x in xs -/
def PV.flat : PV → Bool
  | .non => true | .bl _ => true | .int _ => true | .str _ => true
  | _ => false
def inP (x : PV) : List PV → Option Bool
  | [] => some false
  | y :: ys => match eqS x y, inP x ys with
    | some a, some b => some (a || b)
    | _, _ => none
where eqS : PV → PV → Option Bool
  | .int i, .int j => some (decide (i = j))
  | .str i, .str j => some (decide (i = j))
  | .non, .non => some true
  | .int _, .str _ => some false | .str _, .int _ => some false
  | .int _, .non => some false | .non, .int _ => some false
  | .str _, .non => some false | .non, .str _ => some false
  | _, _ => none
def items : PV → Option (List PV)
  | .lst xs => some xs
  | .tup xs => some xs
  | _ => none
def fIn (_ : List PV) (x y : PV) : Option PV := match items y with
  | some ys => match inP x ys with
    | some b => some (.bl b)
    | none => none
  | none => none
def fNin (_ : List PV) (x y : PV) : Option PV := match items y with
  | some ys => match inP x ys with
    | some b => some (.bl (!b))
    | none => none
  | none => none
/-! x[i] -/
def fIx (S : List PV) (x y : PV) : Option PV := match y with
  | .int k => match (match x with
      | .lst xs => some xs
      | .tup xs => some xs
      | .mref n => match S[n]? with
        | some (.lst xs) => some xs
        | _ => none
      | _ => none) with
    | some xs => match ixP xs.length k with
      | some j => xs[j]?
      | none => none
    | none => none
  | _ => none
abbrev rIxP (K : PySem.W.Frag) : R2 := fun x y H Q => rIxL K x y H Q ∨ rIxT K x y H Q
theorem ix_P {X : Cx} : IxR X (rIxP X.K) := ix_list.or ix_tup
theorem at_ok {F : Hp} {θ : List Addr} {vs : List V} {xs : List PV} {k : Int} {j : Nat} {y : PV} (a : RepAll K C F θ vs xs) (hj : ixP xs.length k = some j) (hy : xs[j]? = some y) : ∃ v, atI vs k = some v ∧ Rep K C F θ v y := by
  obtain ⟨v, ev, rv⟩ := a.at hy
  refine ⟨v, ?_, rv⟩
  unfold atI
  rw [a.len, ← ixP_eq, hj]
  exact ev
theorem l_ix : LR2 K C (rIxP K) fIx := fun W S v u x y z Q i rx ry e q => by
  unfold fIx at e
  split at e
  · rename_i k
    cases ry
    cases x with
    | lst xs =>
      simp only [] at e
      split at e
      · rename_i j hj
        cases rx with
        | lst h a =>
          obtain ⟨w, ew, rw⟩ := at_ok a hj e
          exact .inl ⟨_, _, _, _, rfl, rfl, i.s.seq (SqL.of h), ew, q w W (Gro.refl _) i rw⟩
      · cases e
    | tup xs =>
      simp only [] at e
      split at e
      · rename_i j hj
        cases rx with
        | tup h a =>
          obtain ⟨w, ew, rw⟩ := at_ok a hj e
          exact .inr ⟨_, _, _, _, rfl, rfl, i.s.seT h, ew, q w W (Gro.refl _) i rw⟩
      · cases e
    | mref n =>
      simp only [] at e
      split at e
      · rename_i xs hx
        split at hx
        · rename_i ys hs
          cases hx
          split at e
          · rename_i j hj
            cases rx with
            | mref hn =>
              obtain ⟨_, vs, eh, a⟩ := i.m n _ _ hn hs
              obtain ⟨w, ew, rw⟩ := at_ok a hj e
              exact .inl ⟨_, _, _, _, rfl, rfl, SqL.of eh, ew, q w W (Gro.refl _) i rw⟩
          · cases e
        · cases hx
      · cases e
    | _ => cases e
  · cases e
/-! built-in functions -/
def fLen (S : List PV) : List PV → Option PV
  | [.lst xs] => some (.int xs.length)
  | [.tup xs] => some (.int xs.length)
  | [.mref n] => match S[n]? with
    | some (.lst xs) => some (.int xs.length)
    | _ => none
  | _ => none
theorem l_len : LRn K C (fun xs H Q => ∃ p ys, xs = [.ref p] ∧ (SqL K H p ys ∨ SqT K H p ys) ∧ Q (.int ys.length) H) fLen := fun W S vs xs z Q i r e q => by
  unfold fLen at e
  split at e
  · cases e
    cases r with
    | cons r rr =>
      cases rr
      cases r with
      | lst h a => exact ⟨_, _, rfl, .inl (i.s.seq (SqL.of h)), by rw [a.len]; exact q _ W (Gro.refl _) i (.int _)⟩
  · cases e
    cases r with
    | cons r rr =>
      cases rr
      cases r with
      | tup h a => exact ⟨_, _, rfl, .inr (i.s.seT h), by rw [a.len]; exact q _ W (Gro.refl _) i (.int _)⟩
  · split at e
    · rename_i n xs hs
      cases e
      cases r with
      | cons r rr =>
        cases rr
        cases r with
        | mref hn =>
          obtain ⟨_, vs, eh, a⟩ := i.m _ _ _ hn hs
          exact ⟨_, _, rfl, .inl (SqL.of eh), by rw [a.len]; exact q _ W (Gro.refl _) i (.int _)⟩
    · cases e
  · cases e
def fAbs (_ : List PV) : List PV → Option PV
  | [.int i] => some (.int (if i < 0 then -i else i))
  | _ => none
theorem l_abs : LRn K C (fun xs H Q => ∃ i, xs = [.int i] ∧ Q (.int (if i < 0 then -i else i)) H) fAbs := fun W S vs xs z Q i r e q => by
  unfold fAbs at e
  split at e
  · cases e
    cases r with
    | cons r rr =>
      cases rr
      cases r
      exact ⟨_, rfl, q _ W (Gro.refl _) i (.int _)⟩
  · cases e
def fInt (_ : List PV) : List PV → Option PV
  | [.int i] => some (.int i)
  | [.bl b] => some (.int (if b then 1 else 0))
  | _ => none
theorem l_int : LRn K C (fun xs H Q => (∃ i, xs = [.int i] ∧ Q (.int i) H) ∨ ∃ k, xs = [.bl k] ∧ Q (.int (if k then 1 else 0)) H) fInt := fun W S vs xs z Q i r e q => by
  unfold fInt at e
  split at e
  · cases e
    cases r with
    | cons r rr =>
      cases rr
      cases r
      exact .inl ⟨_, rfl, q _ W (Gro.refl _) i (.int _)⟩
  · cases e
    cases r with
    | cons r rr =>
      cases rr
      cases r
      exact .inr ⟨_, rfl, q _ W (Gro.refl _) i (.int _)⟩
  · cases e
def bls : List PV → Option (List Bool)
  | [] => some []
  | .bl b :: xs => match bls xs with
    | some bs => some (b :: bs)
    | none => none
  | _ => none
theorem bls_ok {F : Hp} {θ : List Addr} : ∀ {vs : List V} {xs : List PV} {bs : List Bool}, RepAll K C F θ vs xs → bls xs = some bs → vs = bs.map V.bl
  | _, [], bs, r, e => by
    cases e
    cases r
    rfl
  | _, x :: xs, bs, r, e => by
    cases r with
    | cons r rr =>
      cases x with
      | bl b =>
        unfold bls at e
        split at e
        · rename_i bs' e'
          cases e
          cases r
          rw [bls_ok rr e']
          rfl
        · cases e
      | _ => cases e
def intsP : List PV → Option (List Int)
  | [] => some []
  | .int b :: xs => match intsP xs with
    | some bs => some (b :: bs)
    | none => none
  | _ => none
theorem intsP_ok {F : Hp} {θ : List Addr} : ∀ {vs : List V} {xs : List PV} {bs : List Int}, RepAll K C F θ vs xs → intsP xs = some bs → vs = bs.map V.int
  | _, [], bs, r, e => by
    cases e
    cases r
    rfl
  | _, x :: xs, bs, r, e => by
    cases r with
    | cons r rr =>
      cases x with
      | int b =>
        unfold intsP at e
        split at e
        · rename_i bs' e'
          cases e
          cases r
          rw [intsP_ok rr e']
          rfl
        · cases e
      | _ => cases e
def fAll (_ : List PV) : List PV → Option PV
  | [.lst xs] => match bls xs with
    | some bs => some (.bl (bs.all id))
    | none => none
  | _ => none
def fAny (_ : List PV) : List PV → Option PV
  | [.lst xs] => match bls xs with
    | some bs => some (.bl (bs.any id))
    | none => none
  | _ => none
def fSum (_ : List PV) : List PV → Option PV
  | [.lst xs] => match intsP xs with
    | some bs => some (.int bs.sum)
    | none => none
  | _ => none
theorem l_all : LRn K C (rAll K) fAll := fun W S vs xs z Q i r e q => by
  unfold fAll at e
  split at e
  · split at e
    · rename_i bs hb
      cases e
      cases r with
      | cons r rr =>
        cases rr
        cases r with
        | lst h a => exact ⟨_, bs, rfl, by rw [← bls_ok a hb]; exact i.s.seq (SqL.of h), q _ W (Gro.refl _) i (.bl _)⟩
    · cases e
  · cases e
theorem l_any : LRn K C (rAny K) fAny := fun W S vs xs z Q i r e q => by
  unfold fAny at e
  split at e
  · split at e
    · rename_i bs hb
      cases e
      cases r with
      | cons r rr =>
        cases rr
        cases r with
        | lst h a => exact ⟨_, bs, rfl, by rw [← bls_ok a hb]; exact i.s.seq (SqL.of h), q _ W (Gro.refl _) i (.bl _)⟩
    · cases e
  · cases e
theorem l_sum : LRn K C (rSum K) fSum := fun W S vs xs z Q i r e q => by
  unfold fSum at e
  split at e
  · split at e
    · rename_i bs hb
      cases e
      cases r with
      | cons r rr =>
        cases rr
        cases r with
        | lst h a => exact ⟨_, bs, rfl, by rw [← intsP_ok a hb]; exact i.s.seq (SqL.of h), q _ W (Gro.refl _) i (.int _)⟩
    · cases e
  · cases e
def maxI : List Int → Int
  | [] => 0
  | [x] => x
  | x :: xs => max x (maxI xs)
def minI : List Int → Int
  | [] => 0
  | [x] => x
  | x :: xs => min x (minI xs)
theorem maxI_spec : ∀ {xs : List Int}, xs ≠ [] → maxI xs ∈ xs ∧ ∀ y ∈ xs, y ≤ maxI xs
  | [x], _ => ⟨List.mem_cons_self, fun y h => by simp at h; rw [h]; exact Int.le_refl _⟩
  | x :: z :: xs, _ => by
    obtain ⟨h1, h2⟩ := maxI_spec (xs := z :: xs) (by simp)
    have e : maxI (x :: z :: xs) = max x (maxI (z :: xs)) := rfl
    rw [e]
    refine ⟨?_, fun y hy => ?_⟩
    · by_cases c : x ≤ maxI (z :: xs)
      · rw [Int.max_eq_right c]
        exact List.mem_cons_of_mem _ h1
      · rw [Int.max_eq_left (by omega)]
        exact List.mem_cons_self
    · rcases List.mem_cons.mp hy with h | h
      · rw [h]; omega
      · have := h2 y h; omega
theorem minI_spec : ∀ {xs : List Int}, xs ≠ [] → minI xs ∈ xs ∧ ∀ y ∈ xs, minI xs ≤ y
  | [x], _ => ⟨List.mem_cons_self, fun y h => by simp at h; rw [h]; exact Int.le_refl _⟩
  | x :: z :: xs, _ => by
    obtain ⟨h1, h2⟩ := minI_spec (xs := z :: xs) (by simp)
    have e : minI (x :: z :: xs) = min x (minI (z :: xs)) := rfl
    rw [e]
    refine ⟨?_, fun y hy => ?_⟩
    · by_cases c : x ≤ minI (z :: xs)
      · rw [Int.min_eq_left c]
        exact List.mem_cons_self
      · rw [Int.min_eq_right (by omega)]
        exact List.mem_cons_of_mem _ h1
    · rcases List.mem_cons.mp hy with h | h
      · rw [h]; omega
      · have := h2 y h; omega
def fMax (_ : List PV) : List PV → Option PV
  | [.lst xs] => match intsP xs with
    | some [] => none
    | some bs => some (.int (maxI bs))
    | none => none
  | _ => none
def fMin (_ : List PV) : List PV → Option PV
  | [.lst xs] => match intsP xs with
    | some [] => none
    | some bs => some (.int (minI bs))
    | none => none
  | _ => none
theorem l_max : LRn K C (rMax K) fMax := fun W S vs xs z Q i r e q => by
  unfold fMax at e
  split at e
  · split at e
    · cases e
    · rename_i bs hne hb
      cases e
      cases r with
      | cons r rr =>
        cases rr
        cases r with
        | lst h a =>
          have hn : bs ≠ [] := hne
          obtain ⟨h1, h2⟩ := maxI_spec hn
          refine ⟨_, bs, rfl, by rw [← intsP_ok a hb]; exact i.s.seq (SqL.of h), List.length_pos_iff.mpr hn, fun m hm hy => ?_⟩
          have e : m = maxI bs := Int.le_antisymm (h2 m hm) (hy _ h1)
          rw [e]
          exact q _ W (Gro.refl _) i (.int _)
    · cases e
  · cases e
theorem l_min : LRn K C (rMin K) fMin := fun W S vs xs z Q i r e q => by
  unfold fMin at e
  split at e
  · split at e
    · cases e
    · rename_i bs hne hb
      cases e
      cases r with
      | cons r rr =>
        cases rr
        cases r with
        | lst h a =>
          have hn : bs ≠ [] := hne
          obtain ⟨h1, h2⟩ := minI_spec hn
          refine ⟨_, bs, rfl, by rw [← intsP_ok a hb]; exact i.s.seq (SqL.of h), List.length_pos_iff.mpr hn, fun m hm hy => ?_⟩
          have e : m = minI bs := Int.le_antisymm (hy _ h1) (h2 m hm)
          rw [e]
          exact q _ W (Gro.refl _) i (.int _)
    · cases e
  · cases e
def fList (_ : List PV) : List PV → Option PV
  | [.lst xs] => some (.lst xs)
  | [.tup xs] => some (.lst xs)
  | _ => none
theorem l_list : LRn K C (fun xs H Q => ∃ p ys, xs = [.ref p] ∧ (SqL K H p ys ∨ SqT K H p ys) ∧ ∀ l, H l = none → Q (.ref l) (upd H l (.lst ys))) fList := fun W S vs xs z Q i r e q => by
  unfold fList at e
  split at e
  · cases e
    cases r with
    | cons r rr =>
      cases rr
      cases r with
      | lst h a =>
        refine ⟨_, _, rfl, .inl (i.s.seq (SqL.of h)), fun p np => ?_⟩
        obtain ⟨g, i2⟩ := laid (.lst _) i np
        exact q _ _ g i2 (.lst upd_same (a.ext g))
  · cases e
    cases r with
    | cons r rr =>
      cases rr
      cases r with
      | tup h a =>
        refine ⟨_, _, rfl, .inr (i.s.seT h), fun p np => ?_⟩
        obtain ⟨g, i2⟩ := laid (.lst _) i np
        exact q _ _ g i2 (.lst upd_same (a.ext g))
  · cases e
def fTuple (_ : List PV) : List PV → Option PV
  | [.lst xs] => some (.tup xs)
  | [.tup xs] => some (.tup xs)
  | _ => none
theorem l_tuple : LRn K C (fun xs H Q => ∃ p ys, xs = [.ref p] ∧ ((SqL K H p ys ∧ ∀ l, H l = none → Q (.ref l) (upd H l (.tup ys))) ∨ (SqT K H p ys ∧ Q (.ref p) H))) fTuple := fun W S vs xs z Q i r e q => by
  unfold fTuple at e
  split at e
  · cases e
    cases r with
    | cons r rr =>
      cases rr
      cases r with
      | lst h a =>
        refine ⟨_, _, rfl, .inl ⟨i.s.seq (SqL.of h), fun p np => ?_⟩⟩
        obtain ⟨g, i2⟩ := laid (.tup _) i np
        exact q _ _ g i2 (.tup (SqT.of upd_same) (a.ext g))
  · cases e
    cases r with
    | cons r rr =>
      cases rr
      cases r with
      | tup h a => exact ⟨_, _, rfl, .inr ⟨i.s.seT h, q _ W (Gro.refl _) i (.tup h a)⟩⟩
  · cases e
end
end BL

namespace BL
open PySem PySem.Spec PyProof.Rows L2
/-! ### operators that a class defines -/
/-- an own def by its address, found at the class -/
structure Own (P : Program) (w : World) (K : PySem.W.Frag) (mg : Str → Option Value) (base : Heap) (k : Nat) (C : Addr) (nm : Str) (sp : Sp) : Prop where
  ex : ∃ (f : Addr) (fd : FuncData) (ps : List Str), PySem.W.findIn K (.ref C) nm = some (some (.ref f)) ∧ PySem.W.isFn K (.ref f) = true ∧ PySem.W.fnIn K f = true ∧ FnOk P w K mg base CX0 k f fd ps sp ∧ Binds K fd ps []
def rBin (C : Addr) (sp : Sp) : R2 := fun x y H Q => ∃ a b dx dy fs gs, x = .ref a ∧ y = .ref b ∧ H a = some (.ins C dx fs) ∧ H b = some (.ins C dy gs) ∧ sp [x, y] H Q C8.E0
def rBinI (C : Addr) (sp : Sp) : R2 := fun x y H Q => ∃ a i dx fs, x = .ref a ∧ y = .int i ∧ H a = some (.ins C dx fs) ∧ sp [x, y] H Q C8.E0
section
variable {X : Cx} {n j : Nat} {C : Addr} {sp : Sp}
theorem op_rsh (o : Own X.prog X.w X.K X.mg X.base n C "__rshift__" sp) (hc : PySem.W.selfFirst X.K C = true) (hr : Room j X.A) (hj : n ≤ j) : OpR X (binaryOp .RShift) (rBin C sp) := by
  obtain ⟨f, fd, ps, hs, hf, _, F, hb⟩ := o.ex
  intro pins s σ H x y v u Q I rx ry h
  obtain ⟨a, b, dx, dy, fs, gs, rfl, rfl, ha, hb', q⟩ := h
  cases (show v = Value.ref a from rx)
  cases (show u = Value.ref b from ry)
  obtain ⟨mA, O, _⟩ := ins_get I.hok ha
  obtain ⟨od, J, _⟩ := O.look
  obtain ⟨mB, O', _⟩ := ins_get I.hok hb'
  obtain ⟨od', J', _⟩ := O'.look
  obtain ⟨m, hF⟩ := I.fr
  refine PySem.W.binop_K (op := .RShift) hF I.ok.mod.kin J J'.type hc hs hf ?_
  refine wpAny_mono (run_fn (us := [.ref a, .ref b]) (vs := [.ref a, .ref b]) F (hr.mono hj) hb .nil pass0 I (.cons rfl (.cons rfl .nil)) q) (fun w s' z => ?_) fun _ _ x => x
  obtain ⟨z', H', I', rz, qz⟩ := z
  exact SlX.cmpback rz ⟨z', H', I', rz, qz⟩
/-- way * number -/
theorem op_times (o : Own X.prog X.w X.K X.mg X.base n C "__mul__" sp) (hc : PySem.W.selfFirst X.K C = true) (hm : PySem.W.findIn X.K (.ref C) "__rmul__" = some none) (h1 : PySem.W.findIn X.K (.type "int") "__mul__" = some (some (.builtin "int.__mul__"))) (h2 : PySem.W.findIn X.K (.type "int") "__rmul__" = some (some (.builtin "int.__rmul__")))
    (hsub : PySem.W.subIn X.K (.type "int") (.ref C) = some false) (hr : Room j X.A) (hj : n ≤ j) : OpR X (binaryOp .Mult) (rBinI C sp) := by
  obtain ⟨f, fd, ps, hs, hf, _, F, hb⟩ := o.ex
  intro pins s σ H x y v u Q I rx ry h
  obtain ⟨a, i, dx, fs, rfl, rfl, ha, q⟩ := h
  cases (show v = Value.ref a from rx)
  obtain ⟨t, rfl⟩ := (show ∃ t, u = Value.int i t from ry)
  obtain ⟨mA, O, _⟩ := ins_get I.hok ha
  obtain ⟨od, J, _⟩ := O.look
  obtain ⟨m, hF⟩ := I.fr
  refine PySem.W.ksp_binT (op := .Mult) (T := "int") hF I.ok.mod.kin J rfl hc hs hf hm (.inl rfl) h1 h2 hsub ?_
  refine wpAny_mono (run_fn (us := [.ref a, .int i t]) (vs := [.ref a, .int i]) F (hr.mono hj) hb .nil pass0 I (.cons rfl (.cons ⟨t, rfl⟩ .nil)) q) (fun w s' z => ?_) fun _ _ x => x
  obtain ⟨z', H', I', rz, qz⟩ := z
  exact SlX.cmpback rz ⟨z', H', I', rz, qz⟩
/-- way == way -/
theorem op_eqO (o : Own X.prog X.w X.K X.mg X.base n C "__eq__" sp) (hr : Room j X.A) (hj : n ≤ j) : OpR X (compareOp .Eq) (rBin C sp) := by
  obtain ⟨f, fd, ps, hs, hf, _, F, hb⟩ := o.ex
  intro pins s σ H x y v u Q I rx ry h
  obtain ⟨a, b, dx, dy, fs, gs, rfl, rfl, ha, hb', q⟩ := h
  cases (show v = Value.ref a from rx)
  cases (show u = Value.ref b from ry)
  obtain ⟨mA, O, _⟩ := ins_get I.hok ha
  obtain ⟨od, J, _⟩ := O.look
  obtain ⟨mB, O', _⟩ := ins_get I.hok hb'
  obtain ⟨od', J', _⟩ := O'.look
  obtain ⟨m, hF⟩ := I.fr
  show wpAny (model X.prog X.w) X.A (richCompare .Eq (.ref a) (.ref b)) (EP X pins σ Q) X.xe s
  refine PySem.W.cmp_K (op := .Eq) (tb := .ref C) hr.units0 hF I.ok.mod.kin J J'.type (by simp [PySem.W.notFirst]) hs hf ?_
  refine wpAny_mono (run_fn (us := [.ref a, .ref b]) (vs := [.ref a, .ref b]) F (hr.mono hj) hb .nil pass0 I (.cons rfl (.cons rfl .nil)) q) (fun w s' z => ?_) fun _ _ x => x
  obtain ⟨z', H', I', rz, qz⟩ := z
  exact SlX.cmpback rz ⟨z', H', I', rz, qz⟩
/-- way(e) -/
def tCalled (C : Addr) (sp : Sp) (tf : TE) (t : TA) : TE := fun σ H Q => tf σ H fun y H1 => ∃ a, y = V.ref a ∧ t σ H1 fun vs H2 => (∃ dx fs, H2 a = some (.ins C dx fs)) ∧ sp (V.ref a :: vs) H2 Q C8.E0
def MonoA (t : TA) : Prop := ∀ (σ : L2.St) (H : Hp) (Q Q' : List V → Hp → Prop), (∀ v H', Q v H' → Q' v H') → t σ H Q → t σ H Q'
theorem PE.of {X : Cx} {e : Expr} {t t' : TE} (h : PE X e t) (i : ∀ σ H Q, t' σ H Q → t σ H Q) : PE X e t' := ⟨fun pins s σ H Q I q => h.run pins s σ H Q I (i σ H Q q)⟩
theorem pe_called {fe e : Expr} {es : List Expr} {tf : TE} {t : TA} {pos : Pos} (o : Own X.prog X.w X.K X.mg X.base n C "__call__" sp) (hr : Room j X.A) (hj : n ≤ j) (hf : PE X fe tf) (mf : Mono tf) (ha : PA X (e :: es) t) (ma : MonoA t)
    (ht : eval (.Call fe (e :: es) [] pos) X.env = (do callWith pos (← eval fe X.env) [] (backTo pos (starEach (e :: es) X.env)) (backToKw pos (keywordEach [] X.env))) := by rfl)
    (he : starEach (e :: es) X.env = (false, eval e X.env) :: starEach es X.env := by rfl) (hpl : (backTo pos (starEach es X.env)).any (·.1) = false := by rfl) : PE X (.Call fe (e :: es) [] pos) (tCalled C sp tf t) := by
  obtain ⟨f, fd, ps, hs, hfn, hfi, F, hb⟩ := o.ex
  have G : FnR X.prog X.w X.K X.mg X.base CX0 n f sp := fun A outer s H us vs Q E hr e0 r hs => by
    have hl := F.len _ _ _ _ hs
    have hl2 : (us ++ []).length = ps.length := by rw [List.append_nil, ← r.length, hl]
    have hb' := hb s us (fun a o h => (e0.bs a o (e0.mod.kin a o h)).1) hl2
    rw [List.append_nil] at hb'
    exact F.run A outer s H ⟨us, []⟩ us vs Q E hr e0 hb' r hs
  refine PE.of (StX.pe_callO hf ⟨hs, hfn, hfi⟩ G (hr.mono hj) pass0 ha ht he hpl) fun σ H Q q => ?_
  refine mf σ H _ _ (fun y H1 z => ?_) q
  obtain ⟨a, ey, k⟩ := z
  exact ⟨a, ey, ma σ H1 _ _ (fun vs H2 z => ⟨.inr z.1, z.2⟩) k⟩
/-- way._floor and so on: the same reading as that of the properties -/
theorem pe_hid {e : Expr} {h : Str} {pos : Pos} {ta : TE} {sel : Option Int → Option Int → Option Int → Option Int} (hs : ∀ s f c, (wF s f c).lookup h = some (oV (sel s f c))) (m : Mono ta) (he : PE X e ta) (c : Cls X.K C) (na : NoAttr X.K C h)
    (hb : attributeBase e h X.env (eval e X.env) = eval e X.env := by rfl) : PE X (.Attribute e h pos) (tWF C sel ta) := by
  refine PE.of (pe_fld he hb) fun σ H Q q => m σ H _ _ (fun v H' z => ?_) q
  obtain ⟨a, s, f, c', rfl, ⟨dx, ha⟩, k⟩ := z
  exact ⟨a, C, dx, _, _, rfl, ha, c, na, hs s f c', k⟩
/-- a property whatever it gives -/
structure Pr2 (P : Program) (w : World) (K : PySem.W.Frag) (mg : Str → Option Value) (base : Heap) (k : Nat) (C : Addr) (f : Str) (sp : Sp) : Prop where
  ex : ∃ (p g : Addr) (fd : FuncData), PropOf K C f p g ∧ FnOk P w K mg base CX0 k g fd ["self"] sp ∧ Binds K fd ["self"] []
theorem pe_pr2 {e : Expr} {f : Str} {pos : Pos} {ta : TE} (he : PE X e ta) (c : Cls X.K C) (pr : Pr2 X.prog X.w X.K X.mg X.base n C f sp) (hr : Room j X.A) (hj : n + 1 ≤ j)
    (hab : attributeBase e f X.env (eval e X.env) = eval e X.env := by rfl) : PE X (.Attribute e f pos) (tProp C sp [] C8.E0 ta) := by
  obtain ⟨p, g, fd, po, F, b⟩ := pr.ex
  exact pe_prop he c po F (hr.mono hj) b .nil pass0 hab
end
/-! ### ways, purely -/
def ld (s f c : Option Int) (x : Int) : Int := match s with
  | none => f.getD 0
  | some s => bnd (x + s) f c
def leO (f c : Option Int) : Prop := ∀ x y, f = some x → c = some y → x ≤ y
def wfW (s f c : Option Int) : Prop := leO f c ∧ (s = none → ∃ a, f = some a ∧ c = some a) ∧ (∀ a, f = some a → c = some a → s = none)
def rsS (s1 s2 : Option Int) : Option Int := match s1, s2 with
  | some a, some b => some (a + b)
  | _, _ => none
def rsB (s2 f2 c2 o o2 : Option Int) : Option Int := match o with
  | none => o2
  | some z => some (ld s2 f2 c2 z)
theorem bnd_none (l : Int) : bnd l none none = l := by
  have h : bnd l none none = l := rfl
  exact h.trans (Int.add_zero l ▸ (by simp))
theorem bnd_lo (l a : Int) : bnd l (some a) none = max l a := by unfold bnd; simp only []; omega
theorem bnd_hi (l b : Int) : bnd l none (some b) = min l b := by unfold bnd; simp only []; omega
theorem bnd_two (l a b : Int) : bnd l (some a) (some b) = min (max l a) b := by unfold bnd; simp only []; omega
theorem bnd_le {l m : Int} (f c : Option Int) (h : l ≤ m) : bnd l f c ≤ bnd m f c := by
  cases f <;> cases c <;> simp only [bnd_none, bnd_lo, bnd_hi, bnd_two] <;> omega
theorem ld_le {l m : Int} (s f c : Option Int) (h : l ≤ m) : ld s f c l ≤ ld s f c m := by
  unfold ld
  cases s with
  | none => exact Int.le_refl _
  | some s => exact bnd_le f c (by omega)
theorem rs_ok {s1 f1 c1 s2 f2 c2 : Option Int} (h1 : wfW s1 f1 c1) (h2 : wfW s2 f2 c2) : okW (rsS s1 s2) (rsB s2 f2 c2 f1 f2) (rsB s2 f2 c2 c1 c2) := by
  obtain ⟨l1, n1, _⟩ := h1
  obtain ⟨l2, n2, _⟩ := h2
  cases s1 with
  | none =>
    obtain ⟨a, rfl, rfl⟩ := n1 rfl
    exact ⟨Int.le_refl _, fun _ => rfl⟩
  | some a1 =>
    cases s2 with
    | none =>
      obtain ⟨b, rfl, rfl⟩ := n2 rfl
      cases f1 <;> cases c1 <;> exact ⟨Int.le_refl _, fun _ => rfl⟩
    | some a2 =>
      cases f1 with
      | none =>
        cases c1 with
        | none => exact (by
            unfold okW rsB
            cases f2 with
            | none => exact fun z => by cases z
            | some x => cases c2 with
              | none => exact fun z => by cases z
              | some y => exact ⟨l2 x y rfl rfl, fun z => by cases z⟩)
        | some y1 =>
          unfold okW rsB
          cases f2 with
          | none => exact fun z => by cases z
          | some x =>
            refine ⟨?_, fun z => by cases z⟩
            unfold ld
            cases c2 with
            | none => simp only [bnd_lo]; omega
            | some y => have := l2 x y rfl rfl; simp only [bnd_two]; omega
      | some x1 =>
        cases c1 with
        | none =>
          unfold okW rsB
          cases c2 with
          | none => exact fun z => by cases z
          | some y =>
            refine ⟨?_, fun z => by cases z⟩
            unfold ld
            cases f2 with
            | none => simp only [bnd_hi]; omega
            | some x => have := l2 x y rfl rfl; simp only [bnd_two]; omega
        | some y1 => exact ⟨ld_le _ _ _ (l1 x1 y1 rfl rfl), fun z => by cases z⟩
theorem nrm_wf {s f c : Option Int} (h : okW s f c) : wfW (nrm s f c) f c := by
  unfold okW at h
  cases f with
  | none =>
    refine ⟨fun x y z => (by cases z), fun e => ?_, fun a z => (by cases z)⟩
    exact absurd e h
  | some a =>
    cases c with
    | none =>
      refine ⟨fun x y _ z => (by cases z), fun e => ?_, fun b _ z => (by cases z)⟩
      exact absurd e h
    | some b =>
      refine ⟨fun x y z w => (by cases z; cases w; exact h.1), fun e => ?_, fun d z w => ?_⟩
      · by_cases q : a = b
        · exact ⟨a, rfl, by rw [q]⟩
        · simp only [nrm, if_neg q] at e
          exact absurd (h.2 e) q
      · cases z
        cases w
        unfold nrm
        exact if_pos rfl
/-- a way made of such parts leads as they say -/
theorem ld_nrm {s f c : Option Int} (h : okW s f c) (x : Int) (z : Int) (hz : ∀ a, s = some a → bnd (x + a) f c = z) (h0 : s = none → f = some z) : ld (nrm s f c) f c x = z := by
  unfold okW at h
  cases s with
  | none =>
    have e := h0 rfl
    subst e
    cases c with
    | none => exact absurd rfl h
    | some b =>
      have q := h.2 rfl
      subst q
      unfold nrm ld
      simp
  | some a =>
    have e := hz a rfl
    cases f with
    | none => exact e
    | some p =>
      cases c with
      | none => exact e
      | some q =>
        unfold nrm
        by_cases r : p = q
        · subst r
          simp only [if_true]
          unfold ld
          simp only [Option.getD]
          rw [bnd_two] at e
          omega
        · simp only [if_neg r]
          exact e
theorem ld_rs {s1 f1 c1 s2 f2 c2 : Option Int} (h1 : wfW s1 f1 c1) (h2 : wfW s2 f2 c2) (x : Int) : ld (nrm (rsS s1 s2) (rsB s2 f2 c2 f1 f2) (rsB s2 f2 c2 c1 c2)) (rsB s2 f2 c2 f1 f2) (rsB s2 f2 c2 c1 c2) x = ld s2 f2 c2 (ld s1 f1 c1 x) := by
  refine ld_nrm (rs_ok h1 h2) x _ (fun a ha => ?_) (fun hn => ?_)
  · cases s1 with
    | none => cases ha
    | some a1 =>
      cases s2 with
      | none => cases ha
      | some a2 =>
        have l1 := h1.1
        have l2 := h2.1
        cases ha
        unfold ld rsB
        cases f1 <;> cases c1 <;> cases f2 <;> cases c2 <;> simp only [ld, bnd_none, bnd_lo, bnd_hi, bnd_two] <;> (try have l1 := l1 _ _ rfl rfl) <;> (try have l2 := l2 _ _ rfl rfl) <;> omega
  · cases s1 with
    | none =>
      obtain ⟨a, rfl, rfl⟩ := h1.2.1 rfl
      rfl
    | some a1 =>
      cases s2 with
      | some a2 => cases hn
      | none =>
        obtain ⟨b, rfl, rfl⟩ := h2.2.1 rfl
        cases f1 <;> rfl
theorem ld_hi {s x : Int} {f c : Option Int} (l : leO f c) (hf : f.getD 0 ≤ x + s) (hc : c.getD 0 ≤ x + s) : ld (some s) f c x = c.getD (x + s) := by
  cases f <;> cases c <;> simp only [ld, bnd_none, bnd_lo, bnd_hi, bnd_two, Option.getD] at hf hc ⊢ <;> (try have l := l _ _ rfl rfl) <;> omega
theorem ld_lo {s x : Int} {f c : Option Int} (l : leO f c) (hf : x + s ≤ f.getD 0) (hc : x + s ≤ c.getD 0) : ld (some s) f c x = f.getD (x + s) := by
  cases f <;> cases c <;> simp only [ld, bnd_none, bnd_lo, bnd_hi, bnd_two, Option.getD] at hf hc ⊢ <;> (try have l := l _ _ rfl rfl) <;> omega
def big (a b c d e g : Int) : Int := (a.natAbs + b.natAbs + c.natAbs + d.natAbs + e.natAbs + g.natAbs : Nat)
theorem big_ge (a b c d e g : Int) : a + b ≤ big a b c d e g ∧ a + c ≤ big a b c d e g ∧ d + e ≤ big a b c d e g ∧ d + g ≤ big a b c d e g ∧ -a - b ≤ big a b c d e g ∧ -a - c ≤ big a b c d e g ∧ -d - e ≤ big a b c d e g ∧ -d - g ≤ big a b c d e g ∧ b - a ≤ big a b c d e g ∧ c - a ≤ big a b c d e g ∧ e - d ≤ big a b c d e g ∧ g - d ≤ big a b c d e g ∧ a - b ≤ big a b c d e g ∧ a - c ≤ big a b c d e g ∧ d - e ≤ big a b c d e g ∧ d - g ≤ big a b c d e g := by
  unfold big
  omega
theorem strict {s : Int} {f c : Option Int} (h : wfW (some s) f c) (x y : Int) (p : f = some x) (q : c = some y) : x < y := by
  have := h.1 x y p q
  by_cases z : x = y
  · have k := h.2.2 x p (by rw [q, z])
    cases k
  · omega
/-- ways that lead alike are one: both with a shift -/
theorem way_ext0 {s1 s2 : Int} {f1 c1 f2 c2 : Option Int} (h1 : wfW (some s1) f1 c1) (h2 : wfW (some s2) f2 c2) (h : ∀ x, ld (some s1) f1 c1 x = ld (some s2) f2 c2 x) : s1 = s2 ∧ f1 = f2 ∧ c1 = c2 := by
  have B := big_ge s1 (f1.getD 0) (c1.getD 0) s2 (f2.getD 0) (c2.getD 0)
  generalize big s1 (f1.getD 0) (c1.getD 0) s2 (f2.getD 0) (c2.getD 0) = M at B
  have a1 := h M
  have a2 := h (M + 1)
  have b1 := h (-M)
  have b2 := h (-M - 1)
  rw [ld_hi h1.1 (by omega) (by omega), ld_hi h2.1 (by omega) (by omega)] at a1 a2
  rw [ld_lo h1.1 (by omega) (by omega), ld_lo h2.1 (by omega) (by omega)] at b1 b2
  have ec : c1 = c2 := by
    cases c1 <;> cases c2 <;> simp only [Option.getD] at a1 a2
    · rfl
    · omega
    · omega
    · rw [a1]
  have ef : f1 = f2 := by
    cases f1 <;> cases f2 <;> simp only [Option.getD] at b1 b2
    · rfl
    · omega
    · omega
    · rw [b1]
  subst ec
  subst ef
  refine ⟨?_, rfl, rfl⟩
  cases c1 with
  | none => simp only [Option.getD] at a1; omega
  | some c =>
    cases f1 with
    | none => simp only [Option.getD] at b1; omega
    | some f =>
      have d := strict h1 f c rfl rfl
      have e3 := h (f - s1)
      have e4 := h (f - s1 + 1)
      simp only [ld, bnd_two] at e3 e4
      omega
theorem no_const {s : Int} {f c : Option Int} {a : Int} (h : wfW (some s) f c) (e : ∀ x, ld (some s) f c x = a) : False := by
  have B := big_ge s (f.getD 0) (c.getD 0) 0 0 0
  generalize big s (f.getD 0) (c.getD 0) 0 0 0 = M at B
  have a1 := e M
  have a2 := e (M + 1)
  have b1 := e (-M)
  have b2 := e (-M - 1)
  rw [ld_hi h.1 (by omega) (by omega)] at a1 a2
  rw [ld_lo h.1 (by omega) (by omega)] at b1 b2
  cases c with
  | none => simp only [Option.getD] at a1 a2; omega
  | some c =>
    cases f with
    | none => simp only [Option.getD] at b1 b2; omega
    | some f =>
      have d := strict h f c rfl rfl
      simp only [Option.getD] at a1 b1
      omega
theorem way_ext {s1 f1 c1 s2 f2 c2 : Option Int} (h1 : wfW s1 f1 c1) (h2 : wfW s2 f2 c2) (h : ∀ x, ld s1 f1 c1 x = ld s2 f2 c2 x) : s1 = s2 ∧ f1 = f2 ∧ c1 = c2 := by
  cases s1 with
  | none =>
    obtain ⟨a, rfl, rfl⟩ := h1.2.1 rfl
    cases s2 with
    | none =>
      obtain ⟨b, rfl, rfl⟩ := h2.2.1 rfl
      have e : a = b := h 0
      rw [e]
      exact ⟨rfl, rfl, rfl⟩
    | some s => exact (no_const h2 (a := a) fun x => (h x).symm).elim
  | some s1 =>
    cases s2 with
    | none =>
      obtain ⟨b, rfl, rfl⟩ := h2.2.1 rfl
      exact (no_const h1 (a := b) fun x => h x).elim
    | some s2 =>
      obtain ⟨e, g⟩ := way_ext0 h1 h2 h
      rw [e]
      exact ⟨rfl, g⟩
end BL

namespace BL
open PySem PySem.Spec PyProof.Rows L2
/-! ### a way done so many times -/
def itr (s f c : Option Int) : Nat → Int → Int
  | 0, x => x
  | n + 1, x => ld s f c (itr s f c n x)
theorem itr_add (s f c : Option Int) (m : Nat) : ∀ (n : Nat) (x : Int), itr s f c (m + n) x = itr s f c n (itr s f c m x)
  | 0, x => rfl
  | n + 1, x => by
    show ld s f c (itr s f c (m + n) x) = ld s f c (itr s f c n (itr s f c m x))
    rw [itr_add s f c m n x]
def muB (f c o : Option Int) (m : Int) : Option Int := match o with
  | none => none
  | some z => some (bnd (z + m) f c)
theorem sgn (s : Int) (k : Nat) : (0 ≤ s → 0 ≤ s * k) ∧ (s ≤ 0 → s * k ≤ 0) := by
  constructor
  · intro h
    exact Int.mul_nonneg h (by omega)
  · intro h
    have := Int.mul_nonneg (show 0 ≤ -s by omega) (show (0 : Int) ≤ k by omega)
    rw [Int.neg_mul] at this
    omega
theorem mu_step {f c : Option Int} (l : leO f c) (s t x : Int) (h : (0 ≤ s → 0 ≤ t) ∧ (s ≤ 0 → t ≤ 0)) :
    bnd (x + (s + (t + s))) (muB f c f (t + s)) (muB f c c (t + s)) = bnd (bnd (x + (s + t)) (muB f c f t) (muB f c c t) + s) f c := by
  cases f with
  | none =>
    cases c with
    | none => simp only [muB, bnd_none]; omega
    | some c =>
      simp only [muB, bnd_hi]
      by_cases q : 0 ≤ s
      · have := h.1 q
        omega
      · have := h.2 (by omega)
        omega
  | some f =>
    cases c with
    | none =>
      simp only [muB, bnd_lo]
      by_cases q : 0 ≤ s
      · have := h.1 q
        omega
      · have := h.2 (by omega)
        omega
    | some c =>
      have l := l f c rfl rfl
      simp only [muB, bnd_two]
      by_cases q : 0 ≤ s
      · have := h.1 q
        have e1 : min (max (c + t) f) c = c := by omega
        have e2 : min (max (c + (t + s)) f) c = c := by omega
        have e3 : max (f + t) f = f + t := by omega
        have e4 : max (f + (t + s)) f = f + (t + s) := by omega
        rw [e1, e2, e3, e4]
        omega
      · have := h.2 (by omega)
        have e1 : min (max (f + t) f) c = f := by omega
        have e2 : min (max (f + (t + s)) f) c = f := by omega
        have e3 : min (max (c + t) f) c = max (c + t) f := by omega
        have e4 : min (max (c + (t + s)) f) c = max (c + (t + s)) f := by omega
        rw [e1, e2, e3, e4]
        omega
theorem mu_bnd {s : Int} {f c : Option Int} (l : leO f c) : ∀ (k : Nat) (x : Int), bnd (x + (s + s * k)) (muB f c f (s * k)) (muB f c c (s * k)) = itr (some s) f c (k + 1) x
  | 0, x => by
    show bnd (x + (s + s * ((0 : Nat) : Int))) (muB f c f (s * ((0 : Nat) : Int))) (muB f c c (s * ((0 : Nat) : Int))) = bnd (x + s) f c
    rw [show s * ((0 : Nat) : Int) = 0 from Int.mul_zero s]
    cases f <;> cases c <;> simp only [muB, bnd_none, bnd_lo, bnd_hi, bnd_two] <;> (try have l := l _ _ rfl rfl) <;> omega
  | k + 1, x => by
    show _ = ld (some s) f c (itr (some s) f c (k + 1) x)
    rw [← mu_bnd l k x]
    have e : s * ((k + 1 : Nat) : Int) = s * k + s := by
      rw [show ((k + 1 : Nat) : Int) = (k : Int) + 1 by omega, Int.mul_add, Int.mul_one]
    rw [e]
    exact mu_step l s (s * k) x (sgn s k)
theorem mu_ok {s : Int} {f c : Option Int} (l : leO f c) (m t : Int) : okW (some t) (muB f c f m) (muB f c c m) := by
  unfold okW
  cases f with
  | none => cases c <;> exact fun z => by cases z
  | some a =>
    cases c with
    | none => exact fun z => by cases z
    | some b => exact ⟨bnd_le _ _ (by have := l a b rfl rfl; omega), fun z => by cases z⟩
/-- so many times, at least once -/
def muS (s f c : Option Int) (k : Nat) : Option Int × Option Int × Option Int := match s with
  | none => (none, f, c)
  | some s => (nrm (some (s + s * k)) (muB f c f (s * k)) (muB f c c (s * k)), muB f c f (s * k), muB f c c (s * k))
theorem const_itr {a : Int} : ∀ (k : Nat) (x : Int), itr none (some a) (some a) (k + 1) x = a
  | 0, _ => rfl
  | k + 1, x => rfl
theorem mu_wf {s f c : Option Int} (h : wfW s f c) (k : Nat) : wfW (muS s f c k).1 (muS s f c k).2.1 (muS s f c k).2.2 := by
  cases s with
  | none => exact h
  | some s => exact nrm_wf (mu_ok (s := s) h.1 _ _)
theorem mu_ld {s f c : Option Int} (h : wfW s f c) (k : Nat) (x : Int) : ld (muS s f c k).1 (muS s f c k).2.1 (muS s f c k).2.2 x = itr s f c (k + 1) x := by
  cases s with
  | none =>
    obtain ⟨a, rfl, rfl⟩ := h.2.1 rfl
    rw [const_itr]
    rfl
  | some s => exact ld_nrm (mu_ok (s := s) h.1 _ _) x _ (fun a e => by cases e; exact mu_bnd h.1 k x) (fun e => by cases e)
/-- the way of so many times -/
def mul (s f c : Option Int) : Nat → Option Int × Option Int × Option Int
  | 0 => (some 0, none, none)
  | k + 1 => muS s f c k
theorem mul_wf {s f c : Option Int} (h : wfW s f c) : ∀ n, wfW (mul s f c n).1 (mul s f c n).2.1 (mul s f c n).2.2
  | 0 => ⟨fun x y z => (by cases z), fun z => (by cases z), fun a z => (by cases z)⟩
  | k + 1 => mu_wf h k
theorem mul_ld {s f c : Option Int} (h : wfW s f c) : ∀ (n : Nat) (x : Int), ld (mul s f c n).1 (mul s f c n).2.1 (mul s f c n).2.2 x = itr s f c n x
  | 0, x => by
    show bnd (x + 0) none none = x
    rw [bnd_none, Int.add_zero]
  | k + 1, x => mu_ld h k x
/-! ### the promises -/
def spHeld : Sp := fun vs H Q _ => ∃ (l : Int) (lo hi : Option Int), vs = [.int l, oV lo, oV hi] ∧ leO lo hi ∧ Q (.int (bnd l lo hi)) H
def spLed (C : Addr) : Sp := fun vs H Q _ => ∃ (p : Addr) (s f c : Option Int) (x : Int), vs = [.ref p, .int x] ∧ WayAt C H p s f c ∧ wfW s f c ∧ Q (.int (ld s f c x)) H
def spRsh (C : Addr) : Sp := fun vs H Q _ => ∃ (p q : Addr) (s1 f1 c1 s2 f2 c2 : Option Int), vs = [.ref p, .ref q] ∧ WayAt C H p s1 f1 c1 ∧ WayAt C H q s2 f2 c2 ∧ wfW s1 f1 c1 ∧ wfW s2 f2 c2 ∧
  ∀ r H', Same H H' → WayAt C H' r (nrm (rsS s1 s2) (rsB s2 f2 c2 f1 f2) (rsB s2 f2 c2 c1 c2)) (rsB s2 f2 c2 f1 f2) (rsB s2 f2 c2 c1 c2) → Q (.ref r) H'
def spMul (C : Addr) : Sp := fun vs H Q _ => ∃ (p : Addr) (s f c : Option Int) (n : Nat), vs = [.ref p, .int n] ∧ WayAt C H p s f c ∧ wfW s f c ∧ (∀ a, s = some a → -(2 ^ 64) < a ∧ a < 2 ^ 64) ∧
  ∀ r H', Same H H' → WayAt C H' r (mul s f c n).1 (mul s f c n).2.1 (mul s f c n).2.2 → Q (.ref r) H'
def weq (s1 f1 c1 s2 f2 c2 : Option Int) : Bool := decide (s1 = s2) && (decide (f1 = f2) && decide (c1 = c2))
def spEqW (C : Addr) : Sp := fun vs H Q _ => ∃ (p q : Addr) (s1 f1 c1 s2 f2 c2 : Option Int), vs = [.ref p, .ref q] ∧ WayAt C H p s1 f1 c1 ∧ WayAt C H q s2 f2 c2 ∧ Q (.bl (weq s1 f1 c1 s2 f2 c2)) H
def bt : Option Int → Str
  | none => "-"
  | some i => Str.ofString (toString i)
def spBT : Sp := fun vs H Q _ => ∃ o : Option Int, vs = [oV o] ∧ (∀ i, o = some i → i.natAbs.log2 < 1920) ∧ Q (.str (bt o)) H
def spText (C : Addr) : Sp := fun vs H Q _ => ∃ (p : Addr) (s f c : Option Int), vs = [.ref p] ∧ WayAt C H p s f c ∧ (∀ i, s = some i ∨ f = some i ∨ c = some i → i.natAbs.log2 < 1920) ∧ Q (.str (((((Str.empty ++ bt s) ++ (" " : Str)) ++ bt f) ++ (" " : Str)) ++ bt c)) H
theorem dec_oV (a b : Option Int) : decide (oV a = oV b) = decide (a = b) := by
  cases a <;> cases b <;> simp [oV]
theorem scal_oV (a b : Option Int) : scal (oV a) (oV b) = true := by
  cases a <;> cases b <;> rfl
end BL

namespace BL
open PySem PySem.Spec PyProof.Rows L2
open C8 (Cal Mak pe_c pe_mk)
/-! what a loop walks -/
section
variable {X : Cx} {C : Addr} {e a b tg : Expr} {es : List Expr} {pos : Pos} {m ma mb : ME} {mt : MT} {ms mr : MS} {mes : MA} {mi : MI}
def mSeqI (ma : ME) : MI := fun ρ S => match ma ρ S with
  | some (.lst xs, S1) => some (xs, S1)
  | some (.tup xs, S1) => some (xs, S1)
  | _ => none
theorem it_list {K : PySem.W.Frag} {W : Wd} {a : Addr} {vs : List V} {xs : List PV} (h : W.F a = some (.lst vs)) (r : RepAll K C W.F W.θ vs xs) : ItOk K C W (Itl K a) xs := by
  have h1 : ∀ W1 S, GroF W W1 → Inv1 K C W1 S → SqL K W1.H a vs := fun W1 S g i => i.s.seq (SqL.of (g.f _ _ h))
  have hr : ∀ W1, GroF W W1 → RepAll K C W1.F W1.θ vs xs := fun W1 g => by
    obtain ⟨q, eq⟩ := g.t
    rw [eq]
    exact r.mono g.f
  refine ⟨fun i W1 S g i1 hi => ?_, fun W1 S g i1 => ⟨vs, h1 W1 S g i1, by rw [r.len]; exact Nat.le_refl _⟩, fun i W1 S v H' x g i1 hx y => ?_⟩
  · obtain ⟨v, ev, _⟩ := r.at (List.getElem?_eq_getElem hi)
    exact ⟨vs, v, h1 W1 S g i1, ev⟩
  · obtain ⟨rfl, hv⟩ := y
    obtain ⟨u, eu, ru⟩ := (hr W1 g).at hx
    have := hv vs (h1 W1 S g i1)
    rw [eu] at this
    cases Option.some.inj this
    exact ⟨W1, rfl, Gro.refl _, i1, ru⟩
theorem it_tup {K : PySem.W.Frag} {W : Wd} {a : Addr} {vs : List V} {xs : List PV} (h : SqT K W.F a vs) (r : RepAll K C W.F W.θ vs xs) : ItOk K C W (Itt K a) xs := by
  have h1 : ∀ W1 S, GroF W W1 → Inv1 K C W1 S → SqT K W1.H a vs := fun W1 S g i => i.s.seT (g.f.seT h)
  have hr : ∀ W1, GroF W W1 → RepAll K C W1.F W1.θ vs xs := fun W1 g => by
    obtain ⟨q, eq⟩ := g.t
    rw [eq]
    exact r.mono g.f
  refine ⟨fun i W1 S g i1 hi => ?_, fun W1 S g i1 => ⟨vs, h1 W1 S g i1, by rw [r.len]; exact Nat.le_refl _⟩, fun i W1 S v H' x g i1 hx y => ?_⟩
  · obtain ⟨v, ev, _⟩ := r.at (List.getElem?_eq_getElem hi)
    exact ⟨vs, v, h1 W1 S g i1, ev⟩
  · obtain ⟨rfl, hv⟩ := y
    obtain ⟨u, eu, ru⟩ := (hr W1 g).at hx
    have := hv vs (h1 W1 S g i1)
    rw [eu] at this
    cases Option.some.inj this
    exact ⟨W1, rfl, Gro.refl _, i1, ru⟩
theorem iseq (h : PE X e (tM X.K C ma)) : PI X tg e (tMI X.K C (mSeqI ma)) := PI.weak (BL.PI.or (pi_list h) (pi_tup h)) fun σ H R0 ⟨W0, W, ρ, S, xs, S', eH, R, em, q⟩ => by
  subst eH
  unfold mSeqI at em
  split at em
  · rename_i ys S1 e1
    cases em
    refine .inl ⟨W0, W, ρ, S, _, S', rfl, R, e1, fun v W1 R1 g1 r1 => ?_⟩
    cases r1 with
    | lst h a => exact ⟨_, rfl, ⟨_, R1.i.s.seq (SqL.of h)⟩, q _ W1 R1 g1 (it_list h a)⟩
  · rename_i ys S1 e1
    cases em
    refine .inr ⟨W0, W, ρ, S, _, S', rfl, R, e1, fun v W1 R1 g1 r1 => ?_⟩
    cases r1 with
    | tup h a => exact ⟨_, rfl, ⟨_, R1.i.s.seT h⟩, q _ W1 R1 g1 (it_tup h a)⟩
  · cases em
/-- the ints from lo on, so many -/
def rngP (lo : Int) : Nat → List PV
  | 0 => []
  | n + 1 => .int lo :: rngP (lo + 1) n
theorem rngP_len (lo : Int) (n : Nat) : (rngP lo n).length = n := by
  induction n generalizing lo with
  | zero => rfl
  | succ n ih => exact congrArg Nat.succ (ih _)
theorem rngP_at : ∀ (n : Nat) (lo : Int) (i : Nat), i < n → (rngP lo n)[i]? = some (.int (lo + i))
  | n + 1, lo, 0, _ => by
    show some (PV.int lo) = some (PV.int (lo + ((0 : Nat) : Int)))
    rw [show lo + ((0 : Nat) : Int) = lo by omega]
  | n + 1, lo, i + 1, h => by
    show (rngP (lo + 1) n)[i]? = _
    rw [rngP_at n (lo + 1) i (by omega), show lo + 1 + (i : Int) = lo + ((i + 1 : Nat) : Int) by omega]
theorem it_rng {K : PySem.W.Frag} {W : Wd} (lo : Int) (n : Nat) : ItOk K C W (Itr lo n) (rngP lo n) := by
  refine ⟨fun i W1 S g i1 hi => by rw [rngP_len] at hi; exact hi, fun W1 S g i1 => by rw [rngP_len]; exact Nat.le_refl n, fun i W1 S v H' x g i1 hx y => ?_⟩
  obtain ⟨rfl, rfl⟩ := y
  have hi : i < n := by
    have := (List.getElem?_eq_some_iff.mp hx).1
    rwa [rngP_len] at this
  rw [rngP_at n lo i hi] at hx
  cases hx
  exact ⟨W1, rfl, Gro.refl _, i1, .int _⟩
def mRng1 (ma : ME) : MI := fun ρ S => match ma ρ S with
  | some (.int j, S1) => if -(2 ^ 62) ≤ j ∧ j < 2 ^ 62 then some (rngP 0 j.toNat, S1) else none
  | _ => none
def mRng2 (ma mb : ME) : MI := fun ρ S => match ma ρ S with
  | some (.int i, S1) => match mb ρ S1 with
    | some (.int j, S2) => if -(2 ^ 62) ≤ i ∧ i < 2 ^ 62 ∧ -(2 ^ 62) ≤ j ∧ j < 2 ^ 62 then some (rngP i (j - i).toNat, S2) else none
    | _ => none
  | _ => none
theorem irng1 {p : Pos} (hg : Gl X "range") (hm : X.mg "range" = none) (ha : PE X a (tM X.K C ma)) (hst : starEach (a :: []) X.env = (false, eval a X.env) :: starEach [] X.env := by rfl) (hs : starEach [a] X.env = [(false, eval a X.env)] := by rfl) : PI X tg (.Call (.Name "range" p) [a] [] pos) (tMI X.K C (mRng1 ma)) := PI.weak (pi_range1 hg hm (pa_cons ha pa_nil hst) hs) fun σ H R0 ⟨W0, W, ρ, S, xs, S', eH, R, em, q⟩ => by
  subst eH
  unfold mRng1 at em
  split at em
  · rename_i j S1 e1
    split at em
    · rename_i hj
      cases em
      refine ⟨W0, W, ρ, S, _, S', rfl, R, e1, fun v W1 R1 g1 r1 => ?_⟩
      cases r1
      exact ⟨j, rfl, hj.1, hj.2, q _ W1 R1 g1 (it_rng 0 _)⟩
    · cases em
  · cases em
theorem irng2 {p : Pos} (hg : Gl X "range") (hm : X.mg "range" = none) (ha : PE X a (tM X.K C ma)) (hb : PE X b (tM X.K C mb)) (hst : starEach (a :: [b]) X.env = (false, eval a X.env) :: starEach [b] X.env := by rfl) (hst2 : starEach (b :: []) X.env = (false, eval b X.env) :: starEach [] X.env := by rfl)
    (hs : starEach [a, b] X.env = [(false, eval a X.env), (false, eval b X.env)] := by rfl) (hs2 : starEach [b] X.env = [(false, eval b X.env)] := by rfl) : PI X tg (.Call (.Name "range" p) [a, b] [] pos) (tMI X.K C (mRng2 ma mb)) := PI.weak (pi_range2 hg hm (pa_cons ha (pa_cons hb pa_nil hst2) hst) hs hs2) fun σ H R0 ⟨W0, W, ρ, S, xs, S', eH, R, em, q⟩ => by
  subst eH
  unfold mRng2 at em
  split at em
  · rename_i i S1 e1
    split at em
    · rename_i j S2 e2
      split at em
      · rename_i hj
        cases em
        refine ⟨W0, W, ρ, S, _, S1, rfl, R, e1, fun v W1 R1 g1 r1 => ⟨W0, W1, ρ, S1, _, S', rfl, R1, e2, fun u W2 R2 g2 r2 => ?_⟩⟩
        cases r1
        cases r2
        exact ⟨i, j, rfl, hj, q _ W2 R2 (g1.trans g2) (it_rng i _)⟩
      · cases em
    · cases em
  · cases em
/-- enumerate, zip -/
def enuP : Int → List PV → List PV
  | _, [] => []
  | k, x :: xs => .tup [.int k, x] :: enuP (k + 1) xs
theorem enuP_len : ∀ (k : Int) (xs : List PV), (enuP k xs).length = xs.length
  | _, [] => rfl
  | k, _ :: xs => congrArg Nat.succ (enuP_len (k + 1) xs)
theorem enuP_at : ∀ {xs : List PV} {k : Int} {i : Nat} {x : PV}, (enuP k xs)[i]? = some x → ∃ y, xs[i]? = some y ∧ x = .tup [.int (k + i), y]
  | y :: ys, k, 0, x, h => ⟨y, rfl, by
    cases Option.some.inj h
    rw [show k + ((0 : Nat) : Int) = k by omega]⟩
  | y :: ys, k, i + 1, x, h => by
    obtain ⟨z, h1, h2⟩ := enuP_at (xs := ys) (k := k + 1) (i := i) h
    exact ⟨z, h1, by rw [h2, show k + 1 + (i : Int) = k + ((i + 1 : Nat) : Int) by omega]⟩
def mEnu (ma : ME) : MI := fun ρ S => match ma ρ S with
  | some (.lst xs, S1) => some (enuP 0 xs, S1)
  | _ => none
theorem it_enu {K : PySem.W.Frag} {W : Wd} {a : Addr} {vs : List V} {xs : List PV} (h : W.F a = some (.lst vs)) (r : RepAll K C W.F W.θ vs xs) : ItOk K C W (Ite K a) (enuP 0 xs) := by
  have h1 : ∀ W1 S, GroF W W1 → Inv1 K C W1 S → SqL K W1.H a vs := fun W1 S g i => i.s.seq (SqL.of (g.f _ _ h))
  have hr : ∀ W1, GroF W W1 → RepAll K C W1.F W1.θ vs xs := fun W1 g => by
    obtain ⟨q, eq⟩ := g.t
    rw [eq]
    exact r.mono g.f
  refine ⟨fun i W1 S g i1 hi => ?_, fun W1 S g i1 => ⟨vs, h1 W1 S g i1, by rw [r.len, enuP_len]; exact Nat.le_refl _⟩, fun i W1 S v H' x g i1 hx y => ?_⟩
  · rw [enuP_len] at hi
    obtain ⟨v, ev, _⟩ := r.at (List.getElem?_eq_getElem hi)
    exact ⟨vs, v, h1 W1 S g i1, ev⟩
  · obtain ⟨T, u, rfl, nT, rfl, hv⟩ := y
    obtain ⟨z, hz, rfl⟩ := enuP_at hx
    obtain ⟨u', eu, ru⟩ := (hr W1 g).at hz
    have := hv vs (h1 W1 S g i1)
    rw [eu] at this
    cases Option.some.inj this
    obtain ⟨g2, i2⟩ := laid (.tup [.int (i : Nat), u]) i1 nT
    refine ⟨_, rfl, g2, i2, .tup (SqT.of upd_same) (.cons ?_ (.cons (ru.ext g2) .nil))⟩
    rw [Int.zero_add]
    exact .int _
theorem ienu {p tpos : Pos} {elts : List Expr} {kk : Nat} (hg : Gl X "enumerate") (hm : X.mg "enumerate" = none) (ha : PE X e (tM X.K C ma)) (hst : starEach (e :: []) X.env = (false, eval e X.env) :: starEach [] X.env := by rfl) (hs : starEach [e] X.env = [(false, eval e X.env)] := by rfl) :
    PI X (.Tuple elts kk tpos) (.Call (.Name "enumerate" p) [e] [] pos) (tMI X.K C (mEnu ma)) := PI.weak (pi_enum hg hm (pa_cons ha pa_nil hst) hs) fun σ H R0 ⟨W0, W, ρ, S, xs, S', eH, R, em, q⟩ => by
  subst eH
  unfold mEnu at em
  split at em
  · rename_i ys S1 e1
    cases em
    refine ⟨W0, W, ρ, S, _, S', rfl, R, e1, fun v W1 R1 g1 r1 => ?_⟩
    cases r1 with
    | lst h a => exact ⟨_, _, rfl, R1.i.s.seq (SqL.of h), q _ W1 R1 g1 (it_enu h a)⟩
  · cases em
end
end BL

namespace BL
open PySem PySem.Spec PyProof.Rows L2
open C8 (Cal Mak pe_c pe_mk)
theorem nd_inj {a : Addr} : ∀ {l : List Addr} {m n : Nat}, l.Nodup → l[m]? = some a → l[n]? = some a → m = n
  | _ :: _, 0, 0, _, _, _ => rfl
  | x :: l, 0, n + 1, nd, h1, h2 => by
    cases Option.some.inj h1
    exact ((List.nodup_cons.mp nd).1 (List.mem_of_getElem? (i := n) h2)).elim
  | x :: l, m + 1, 0, nd, h1, h2 => by
    cases Option.some.inj h2
    exact ((List.nodup_cons.mp nd).1 (List.mem_of_getElem? (i := m) h1)).elim
  | x :: l, m + 1, n + 1, nd, h1, h2 => congrArg Nat.succ (nd_inj (List.nodup_cons.mp nd).2 h1 h2)
/-! comprehensions -/
section
variable {X : Cx} {C : Addr} {e a b tg : Expr} {es : List Expr} {st : Stmt} {pos : Pos} {m ma mb me : ME} {mt : MT} {ms mr : MS} {mes : MA} {mi : MI}
theorem xlc (t : Tg) {own : List (Str × Nat)} (hv : ∀ i ∈ t.ids, i ∈ own.map (·.2)) (h : PE X e (tLc (tMI X.K C mi) (t.g X.K) (tMT X.K C mt) (tM X.K C me) (own.map (·.2)))) : PE X e (tM X.K C (mLc t mi mt me (own.map (·.2)))) := PE.weak h fun σ H Q q => lc_lift hv q
theorem xsetLc (t : Tg) {i : Nat} {own : List (Str × Nat)} (hv : ∀ i ∈ t.ids, i ∈ own.map (·.2)) (h : PS X st (tAsg (tLc (tMI X.K C mi) (t.g X.K) (tMT X.K C mt) (tM X.K C me) (own.map (·.2))) (gName i))) : PS X st (tMS X.K C (mAsg (.nm i) (mLc t mi mt me (own.map (·.2))))) :=
  xasgT (.nm i) (PS.weak h fun D σ H q => by
    show tLc _ _ _ _ _ σ H _
    exact lc_lift hv q)
theorem gtp {is : List Nat} {k : Nat} (hc : X.calm = true) (h : PGs X es (tgs is)) (hn : (assignEach es X.env).length = is.length := by rfl) (hst : (assignEach es X.env).findIdx? (·.1) = none := by rfl) : PG X (.Tuple es k pos) ((Tg.tp is).g X.K) := ⟨fun pins s σ H v u Q I r q => q.elim ((pg_tup hc h hn hst).run pins s σ H v u Q I r) ((pg_unl hc h hn hst).run pins s σ H v u Q I r)⟩
theorem gtq {gs : List (Nat ⊕ List Nat)} {k : Nat} (hc : X.calm = true) (h : PGs X es (tgsQ X.K gs)) (hn : (assignEach es X.env).length = gs.length := by rfl) (hst : (assignEach es X.env).findIdx? (·.1) = none := by rfl) : PG X (.Tuple es k pos) ((Tg.tq gs).g X.K) := ⟨fun pins s σ H v u Q I r q => q.elim ((pg_tup hc h hn hst).run pins s σ H v u Q I r) ((pg_unl hc h hn hst).run pins s σ H v u Q I r)⟩
/-! calls -/
theorem xcall0 {f : List PV → List PV → Option (PV × List PV)} {E : XK} (h : PE X e (tCall (spM X.K C f) [] E tNil)) : PE X e (tM X.K C (mCall f mNil)) := PE.weak h fun σ H Q ⟨W0, W, ρ, S, z, S', eH, R, em, q⟩ => by
  subst eH
  exact ⟨W, S, [], z, S', rfl, R.i, .nil, em, fun v W2 g2 i2 r2 => q v W2 (R.ext g2 i2) g2 r2⟩
/-- all by names: ps tells in which order the names' values stand among the parameters -/
def getAll (ps : List Nat) (xs : List PV) : Option (List PV) := ps.mapM fun i => xs[i]?
end
/-- new things beside what stood -/
theorem laidS {K : PySem.W.Frag} {C : Addr} {W : Wd} {S : List PV} {p : Addr} {o : HO} {H' : Hp} (i : Inv1 K C W S) (n : W.H p = none) (s : Same W.H H') (e : H' p = some o) : Gro W ⟨upd W.F p o, H', W.θ⟩ ∧ Inv1 K C ⟨upd W.F p o, H', W.θ⟩ S := by
  have fn : W.F p = none := i.s.free n
  have g : Gro W ⟨upd W.F p o, H', W.θ⟩ := by
    refine ⟨same_upd fn, ⟨[], (List.append_nil _).symm, fun _ h => by cases h⟩, fun q o' e _ => s _ _ e, fun q o' e => ⟨o', s _ _ e⟩, fun q o' e z => ?_⟩
    show upd W.F p o q = _
    rw [upd_ne (ne_of_none e n)]
    exact z
  refine ⟨g, ⟨fun q o' h => ?_, i.len, i.nd, fun k a x h1 h2 => ?_⟩⟩
  · change upd W.F p o q = some o' at h
    show H' q = some o'
    by_cases c : q = p
    · subst c
      rw [upd_same] at h
      rw [← h]
      exact e
    · rw [upd_ne c] at h
      exact s _ _ (i.s _ _ h)
  · obtain ⟨z, m⟩ := i.m k a x h1 h2
    obtain ⟨o', ho⟩ := m.laid
    refine ⟨g.n _ _ ho z, ?_⟩
    exact m.to (fun _ e => s _ _ e) (fun r => r.ext g)
/-! ways -/
def oP : PV → Option (Option Int)
  | .non => some none
  | .int i => some (some i)
  | _ => none
def PO' : Option Int → PV
  | none => .non
  | some i => .int i
theorem oP_PO (o : Option Int) : oP (PO' o) = some o := by cases o <;> rfl
def okWb (s f c : Option Int) : Bool := match f, c with
  | some a, some b => decide (a ≤ b) && (match s with | none => decide (a = b) | some _ => true)
  | _, _ => match s with | none => false | some _ => true
theorem okWb_ok {s f c : Option Int} (h : okWb s f c = true) : okW s f c := by
  unfold okWb at h
  unfold okW
  cases f with
  | none => cases s with | none => cases h | some x => exact fun z => by cases z
  | some a =>
    cases c with
    | none => cases s with | none => cases h | some x => exact fun z => by cases z
    | some b =>
      cases s with
      | none => simp only [Bool.and_eq_true, decide_eq_true_eq] at h; exact ⟨h.1, fun _ => h.2⟩
      | some x => simp only [Bool.and_true, decide_eq_true_eq] at h; exact ⟨h, fun z => by cases z⟩
def way3 (x y z : PV) : Option PV := match oP x, oP y, oP z with
  | some s, some f, some c => if okWb s f c then some (.way (nrm s f c) f c) else none
  | _, _, _ => none
def fWay (_ : List PV) : List PV → Option PV
  | [x] => way3 x .non .non
  | [x, y] => way3 x y .non
  | [x, y, z] => way3 x y z
  | _ => none
section
variable {X : Cx} {C : Addr} {e a b tg : Expr} {es : List Expr} {st : Stmt} {pos : Pos} {m ma mb me mf : ME} {mt : MT} {ms mr : MS} {mes : MA} {mi : MI}
theorem Rep.oV {K : PySem.W.Frag} {F : Hp} {θ : List Addr} {v : V} {x : PV} {o : Option Int} (r : Rep K C F θ v x) (h : oP x = some o) : v = oV o := by
  unfold oP at h
  split at h
  · cases h; cases r; rfl
  · cases h; cases r; rfl
  · cases h
theorem Rep.po {K : PySem.W.Frag} {F : Hp} {θ : List Addr} (o : Option Int) : Rep K C F θ (BL.oV o) (PO' o) := by
  cases o with
  | none => exact .non
  | some i => exact .int i
theorem xway {dvs : List V} {n : Nat} {E : XK} (hd : (n = 1 ∧ dvs = [.non, .non]) ∨ (n = 2 ∧ dvs = [.non]) ∨ (n = 3 ∧ dvs = [])) (hn : ∀ ρ S xs S', mes ρ S = some (xs, S') → xs.length = n) (h : PE X e (tMake C (spInitW C) dvs E (tMA X.K C mes))) : PE X e (tM X.K C (mFn fWay mes)) := PE.weak h fun σ H Q ⟨W0, W, ρ, S, z, S', eH, R, em, q⟩ => by
  subst eH
  obtain ⟨xs, e1, e3⟩ := mFn_inv em
  have hl := hn _ _ _ _ e1
  refine ⟨W0, W, ρ, S, xs, S', rfl, R, e1, fun vs W1 R1 g1 r1 => fun x dx nx ndx nex => ?_⟩
  have key : ∀ (s f c : Option Int), .ref x :: (vs ++ dvs) = [V.ref x, oV s, oV f, oV c] → okW s f c → z = .way (nrm s f c) f c → spInitW C (.ref x :: (vs ++ dvs)) (upd (upd W1.H dx (.own x)) x (.ins C dx [])) (fun v H2 => v = .non ∧ Q (.ref x) H2) E := by
    intro s f c ev ok ez
    subst ez
    refine ⟨x, dx, s, f, c, ev, upd_same, ok, fun H' hw hk => ⟨rfl, ?_⟩⟩
    obtain ⟨dx', hx⟩ := hw
    have sm : Same W1.H H' := fun p o e => hk p o (by rw [upd_ne (ne_of_none e nx), upd_ne (ne_of_none e ndx)]; exact e) (ne_of_none e nx)
    obtain ⟨g2, i2⟩ := laidS R1.i nx sm hx
    exact q _ _ (R1.ext g2 i2) (g1.trans g2) (.way ⟨dx', upd_same⟩)
  have un : ∀ {x y z' : PV}, way3 x y z' = some z → ∃ s f c, oP x = some s ∧ oP y = some f ∧ oP z' = some c ∧ okW s f c ∧ z = .way (nrm s f c) f c := by
    intro x y z' h
    unfold way3 at h
    split at h
    · rename_i s f c h1 h2 h3
      split at h
      · rename_i ok
        cases h
        exact ⟨s, f, c, h1, h2, h3, okWb_ok ok, rfl⟩
      · cases h
    · cases h
  unfold fWay at e3
  split at e3
  · obtain ⟨s, f, c, h1, h2, h3, ok, ez⟩ := un e3
    cases r1 with
    | cons r rr =>
      cases rr
      rcases hd with ⟨_, hd⟩ | ⟨hn, _⟩ | ⟨hn, _⟩
      · subst hd
        cases h2
        cases h3
        exact key s none none (by rw [r.oV h1]; rfl) ok ez
      · rw [hn] at hl; cases hl
      · rw [hn] at hl; cases hl
  · obtain ⟨s, f, c, h1, h2, h3, ok, ez⟩ := un e3
    cases r1 with
    | cons r rr =>
      cases rr with
      | cons r' rr =>
        cases rr
        rcases hd with ⟨hn, hd⟩ | ⟨_, hd⟩ | ⟨hn, _⟩
        · rw [hn] at hl; cases hl
        · subst hd
          cases h3
          exact key s f none (by rw [r.oV h1, r'.oV h2]; rfl) ok ez
        · rw [hn] at hl; cases hl
  · obtain ⟨s, f, c, h1, h2, h3, ok, ez⟩ := un e3
    cases r1 with
    | cons r rr =>
      cases rr with
      | cons r' rr =>
        cases rr with
        | cons r'' rr =>
          cases rr
          rcases hd with ⟨hn, hd⟩ | ⟨hn, hd⟩ | ⟨_, hd⟩
          · rw [hn] at hl; cases hl
          · rw [hn] at hl; cases hl
          · subst hd
            exact key s f c (by rw [r.oV h1, r'.oV h2, r''.oV h3]; rfl) ok ez
  · cases e3
def MLen (mes : MA) (n : Nat) : Prop := ∀ ρ S xs S', mes ρ S = some (xs, S') → xs.length = n
theorem mlen_nil : MLen mNil 0 := fun _ _ _ _ h => by cases h; rfl
theorem mlen_cons {n : Nat} (h : MLen mes n) : MLen (mCons ma mes) (n + 1) := fun _ _ _ _ e => by
  obtain ⟨x, S1, xs, _, e2, rfl⟩ := mCons_inv e
  exact congrArg Nat.succ (h _ _ _ _ e2)
theorem mono_tM {K : PySem.W.Frag} : Mono (tM K C m) := fun σ H Q Q' i ⟨W0, W, ρ, S, z, S', eH, R, em, q⟩ => ⟨W0, W, ρ, S, z, S', eH, R, em, fun v W' a b c => i _ _ (q v W' a b c)⟩
theorem mono_tMA {K : PySem.W.Frag} : MonoA (tMA K C mes) := fun σ H Q Q' i ⟨W0, W, ρ, S, z, S', eH, R, em, q⟩ => ⟨W0, W, ρ, S, z, S', eH, R, em, fun v W' a b c => i _ _ (q v W' a b c)⟩
/-- way.shift and so on -/
def mSel (sel : Option Int → Option Int → Option Int → Option Int) (ma : ME) : ME := fun ρ S => match ma ρ S with
  | some (.way s f c, S1) => some (PO' (sel s f c), S1)
  | _ => none
theorem xsel {sel : Option Int → Option Int → Option Int → Option Int} (h : PE X e (tWF C sel (tM X.K C ma))) : PE X e (tM X.K C (mSel sel ma)) := PE.weak h fun σ H Q ⟨W0, W, ρ, S, z, S', eH, R, em, q⟩ => by
  subst eH
  unfold mSel at em
  split at em
  · rename_i s f c S1 e1
    cases em
    refine ⟨W0, W, ρ, S, _, S', rfl, R, e1, fun v W1 R1 g1 r1 => ?_⟩
    cases r1 with
    | way h => exact ⟨_, s, f, c, rfl, h.same R1.i.s, q _ W1 R1 g1 (.po _)⟩
  · cases em
/-- way(e) -/
def mCalled (f : List PV → List PV → Option (PV × List PV)) (mf : ME) (mes : MA) : ME := fun ρ S => match mf ρ S with
  | some (.way s g c, S1) => match mes ρ S1 with
    | some (xs, S2) => f (.way s g c :: xs) S2
    | none => none
  | _ => none
theorem xcalled {f : List PV → List PV → Option (PV × List PV)} (h : PE X e (tCalled C (spM X.K C f) (tM X.K C mf) (tMA X.K C mes))) : PE X e (tM X.K C (mCalled f mf mes)) := PE.weak h fun σ H Q ⟨W0, W, ρ, S, z, S', eH, R, em, q⟩ => by
  subst eH
  unfold mCalled at em
  split at em
  · rename_i s g c S1 e1
    split at em
    · rename_i xs S2 e2
      refine ⟨W0, W, ρ, S, _, S1, rfl, R, e1, fun v W1 R1 g1 r1 => ?_⟩
      have r1' := r1
      cases r1 with
      | way h =>
        refine ⟨_, rfl, W0, W1, ρ, S1, xs, S2, rfl, R1, e2, fun vs W2 R2 g2 r2 => ⟨?_, ?_⟩⟩
        · obtain ⟨dx, hx⟩ := h.same g2.f
          exact ⟨dx, _, R2.i.s _ _ hx⟩
        · exact ⟨W2, S2, _, z, S', rfl, R2.i, .cons (r1'.ext g2) r2, em, fun v W3 g3 i3 r3 => q v W3 (R2.ext g3 i3) ((g1.trans g2).trans g3) r3⟩
    · cases em
  · cases em
/-- two ways by the class's own operator -/
def mBin (f : List PV → List PV → Option (PV × List PV)) (ma mb : ME) : ME := fun ρ S => match ma ρ S with
  | some (.way s g c, S1) => match mb ρ S1 with
    | some (.way s' g' c', S2) => f [.way s g c, .way s' g' c'] S2
    | _ => none
  | _ => none
theorem bin_lift {K : PySem.W.Frag} {f : List PV → List PV → Option (PV × List PV)} {σ : L2.St} {H : Hp} {Q : VK} (h : tM K C (mBin f ma mb) σ H Q) : tOp (rBin C (spM K C f)) (tM K C ma) (tM K C mb) σ H Q := by
  obtain ⟨W0, W, ρ, S, z, S', eH, R, em, q⟩ := h
  subst eH
  unfold mBin at em
  split at em
  · rename_i s g c S1 e1
    split at em
    · rename_i s' g' c' S2 e2
      refine ⟨W0, W, ρ, S, _, S1, rfl, R, e1, fun v W1 R1 g1 r1 => ⟨W0, W1, ρ, S1, _, S2, rfl, R1, e2, fun u W2 R2 g2 r2 => ?_⟩⟩
      have r1' := r1.ext g2
      have r2' := r2
      cases r1 with
      | way h =>
        cases r2 with
        | way h2 =>
          obtain ⟨dx, hx⟩ := h.same g2.f
          obtain ⟨dy, hy⟩ := h2
          exact ⟨_, _, dx, dy, _, _, rfl, rfl, R2.i.s _ _ hx, R2.i.s _ _ hy, W2, S2, _, z, S', rfl, R2.i, .cons r1' (.cons r2' .nil), em, fun v W3 g3 i3 r3 => q v W3 (R2.ext g3 i3) ((g1.trans g2).trans g3) r3⟩
    · cases em
  · cases em
theorem xbin {f : List PV → List PV → Option (PV × List PV)} (h : PE X e (tOp (rBin C (spM X.K C f)) (tM X.K C ma) (tM X.K C mb))) : PE X e (tM X.K C (mBin f ma mb)) := PE.weak h fun σ H Q q => bin_lift q
theorem xbinT {f : List PV → List PV → Option (PV × List PV)} (h : PT X e (tTest (tOp (rBin C (spM X.K C f)) (tM X.K C ma) (tM X.K C mb)))) : PT X e (tMT X.K C (mTru (mBin f ma mb))) := PT.weak h fun σ H Q ⟨W0, W, ρ, S, z, S', eH, R, em, q⟩ => by
  subst eH
  exact bin_lift ⟨W0, W, ρ, S, .bl z, S', rfl, R, mTru_inv em, fun v W1 R1 g1 r1 => by cases r1; exact ⟨z, rfl, q W1 R1 g1⟩⟩
/-- way * number -/
def mBinI (f : List PV → List PV → Option (PV × List PV)) (ma mb : ME) : ME := fun ρ S => match ma ρ S with
  | some (.way s g c, S1) => match mb ρ S1 with
    | some (.int i, S2) => f [.way s g c, .int i] S2
    | _ => none
  | _ => none
theorem xbinI {f : List PV → List PV → Option (PV × List PV)} (h : PE X e (tOp (rBinI C (spM X.K C f)) (tM X.K C ma) (tM X.K C mb))) : PE X e (tM X.K C (mBinI f ma mb)) := PE.weak h fun σ H Q ⟨W0, W, ρ, S, z, S', eH, R, em, q⟩ => by
  subst eH
  unfold mBinI at em
  split at em
  · rename_i s g c S1 e1
    split at em
    · rename_i i S2 e2
      refine ⟨W0, W, ρ, S, _, S1, rfl, R, e1, fun v W1 R1 g1 r1 => ⟨W0, W1, ρ, S1, _, S2, rfl, R1, e2, fun u W2 R2 g2 r2 => ?_⟩⟩
      have r1' := r1.ext g2
      have r2' := r2
      cases r1 with
      | way h =>
        cases r2
        obtain ⟨dx, hx⟩ := h.same g2.f
        exact ⟨_, i, dx, _, rfl, rfl, R2.i.s _ _ hx, W2, S2, _, z, S', rfl, R2.i, .cons r1' (.cons r2' .nil), em, fun v W3 g3 i3 r3 => q v W3 (R2.ext g3 i3) ((g1.trans g2).trans g3) r3⟩
    · cases em
  · cases em
/-- isinstance(x, Way) of a way -/
def mIsW (ma : ME) : ME := fun ρ S => match ma ρ S with
  | some (.way _ _ _, S1) => some (.bl true, S1)
  | _ => none
theorem xisW (h : PE X e (tCB (fun xs H Q => ∃ a dx fs, xs = [.ref a, .ref C] ∧ H a = some (.ins C dx fs) ∧ Q (.bl true) H) (tCons (tM X.K C ma) (tCons (tC (.ref C)) tNil)))) : PE X e (tM X.K C (mIsW ma)) := PE.weak h fun σ H Q ⟨W0, W, ρ, S, z, S', eH, R, em, q⟩ => by
  subst eH
  unfold mIsW at em
  split at em
  · rename_i s g c S1 e1
    cases em
    refine ⟨W0, W, ρ, S, _, S', rfl, R, e1, fun v W1 R1 g1 r1 => ?_⟩
    cases r1 with
    | way h =>
      obtain ⟨dx, hx⟩ := h
      exact ⟨_, dx, _, rfl, R1.i.s _ _ hx, q _ W1 R1 g1 (.bl true)⟩
  · cases em
/-- what must never be reached -/
def mDead : MS := fun _ _ => none
theorem xdead : PS X st (tMS X.K C mDead) := ⟨fun _ _ _ _ _ _ ⟨_, _, _, _, _, _, _, em, _⟩ => by cases em⟩
/-- isinstance(x, T), T a built-in class -/
def tyN : PV → Option String
  | .non => some "NoneType" | .bl _ => some "bool" | .int _ => some "int" | .str _ => some "str" | .lst _ => some "list" | .tup _ => some "tuple"
  | _ => none
def mIsT (T : String) (ma : ME) : ME := fun ρ S => match ma ρ S with
  | some (x, S1) => match tyN x with
    | some t => match kitB t T with
      | some b => some (.bl b, S1)
      | none => none
    | none => none
  | none => none
theorem xisT {T : String} (h : PE X e (tCB (rIsi X.K) (tCons (tM X.K C ma) (tCons (tC (.ty T)) tNil)))) : PE X e (tM X.K C (mIsT T ma)) := PE.weak h fun σ H Q ⟨W0, W, ρ, S, z, S', eH, R, em, q⟩ => by
  subst eH
  unfold mIsT at em
  split at em
  · rename_i x S1 e1
    split at em
    · rename_i t e2
      split at em
      · rename_i b' e3
        cases em
        refine ⟨W0, W, ρ, S, x, S', rfl, R, e1, fun v W1 R1 g1 r1 => ?_⟩
        refine ⟨v, _, .type t, _, b', rfl, .ty _, ?_, kit_ty e3, q _ W1 R1 g1 (.bl _)⟩
        cases r1 with
        | non => cases e2; exact .base .non
        | bl b => cases e2; exact .base (.bl b)
        | int b => cases e2; exact .base (.int b)
        | str b => cases e2; exact .base (.str b)
        | lst h a => cases e2; exact ty_l (SqL.of (R1.i.s _ _ h))
        | tup h a => cases e2; exact ty_t (R1.i.s.seT h)
        | way h => cases e2
        | mref h => cases e2
        | exc _ _ _ _ _ _ => cases e2
        | exn _ _ _ => cases e2
      · cases em
    · cases em
  · cases em
/-- len of an own list -/
theorem xlenO {i : Nat} (h : PE X e (tCB (fun xs H Q => ∃ p ys, xs = [.ref p] ∧ (SqL X.K H p ys ∨ SqT X.K H p ys) ∧ Q (.int ys.length) H) (tCons (tVar i) tNil))) : PE X e (tM X.K C (mLenO i)) := PE.weak h fun σ H Q ⟨W0, W, ρ, S, z, S', eH, R, em, q⟩ => by
  subst eH
  unfold mLenO at em
  split at em
  · rename_i xs hx
    cases em
    obtain ⟨a, ea, o1, o2, o3, us, eh, ru⟩ := R.s i _ hx
    exact ⟨_, ea, a, us, rfl, .inl (SqL.of eh), by rw [ru.len]; exact q _ W R (Gro.refl _) (.int _)⟩
  · cases em
/-- a list that will be changed by others: laid where the changing things are -/
def mNewM (mes : MA) : ME := fun ρ S => match mes ρ S with
  | some (xs, S1) => if xs.length ≤ 100000 then some (.mref S1.length, S1 ++ [.lst xs]) else none
  | none => none
theorem xnewM (h : PE X e (tLst (tMA X.K C mes))) : PE X e (tM X.K C (mNewM mes)) := PE.weak h fun σ H Q ⟨W0, W, ρ, S, z, S', eH, R, em, q⟩ => by
  subst eH
  unfold mNewM at em
  split at em
  · rename_i xs S1 e1
    split at em
    · rename_i hl
      cases em
      refine ⟨W0, W, ρ, S, xs, S1, rfl, R, e1, fun vs W1 R1 g1 r1 => ⟨by rw [r1.len]; exact Nat.le_trans hl lim, fun p np => ?_⟩⟩
      have fn : W1.F p = none := R1.i.s.free np
      have hp : p ∉ W1.θ := fun m => by
        obtain ⟨k, hk⟩ := List.getElem?_of_mem m
        have hk' : k < S1.length := by rw [← R1.i.len]; exact (List.getElem?_eq_some_iff.mp hk).1
        obtain ⟨_, m⟩ := R1.i.m k p _ hk (List.getElem?_eq_getElem hk')
        obtain ⟨o, ho⟩ := m.laid
        rw [np] at ho
        cases ho
      have g2 : Gro W1 ⟨W1.F, upd W1.H p (.lst vs), W1.θ ++ [p]⟩ := by
        refine ⟨Same.refl _, ⟨[p], rfl, fun q hq => by simp at hq; rw [hq]; exact np⟩, fun q o' e _ => ?_, fun q o' e => ?_, fun q o' e z => z⟩
        · show upd W1.H p _ q = _
          rw [upd_ne (ne_of_none e np)]
          exact e
        · exact ⟨o', by show upd W1.H p _ q = _; rw [upd_ne (ne_of_none e np)]; exact e⟩
      have i2 : Inv1 X.K C ⟨W1.F, upd W1.H p (.lst vs), W1.θ ++ [p]⟩ (S1 ++ [.lst xs]) := by
        refine ⟨fun q o' e => ?_, by rw [List.length_append, List.length_append, R1.i.len]; rfl, ?_, fun k a x h1 h2 => ?_⟩
        · show upd W1.H p _ q = some o'
          rw [upd_ne (ne_of_none e fn)]
          exact R1.i.s _ _ e
        · exact List.nodup_append.mpr ⟨R1.i.nd, by simp, fun a ha b hb => by simp at hb; rw [hb]; exact fun z => hp (by rw [← z]; exact ha)⟩
        · by_cases hk : k < W1.θ.length
          · have h1' : W1.θ[k]? = some a := by
              have : (W1.θ ++ [p])[k]? = some a := h1
              rwa [List.getElem?_append_left hk] at this
            rw [List.getElem?_append_left (by rw [← R1.i.len]; exact hk)] at h2
            obtain ⟨z, m⟩ := R1.i.m k a x h1' h2
            refine ⟨z, ?_⟩
            refine m.to (fun o e => ?_) (fun r => r.ext g2)
            show upd W1.H p _ a = _
            rw [upd_ne (ne_of_none e np)]
            exact e
          · have h1' : (W1.θ ++ [p])[k]? = some a := h1
            rw [List.getElem?_append_right (by omega)] at h1'
            have ek : k = W1.θ.length := by
              have := (List.getElem?_eq_some_iff.mp h1').1
              simp at this
              omega
            subst ek
            rw [Nat.sub_self] at h1'
            cases h1'
            rw [R1.i.len, List.getElem?_append_right (Nat.le_refl _), Nat.sub_self] at h2
            cases h2
            exact ⟨fn, vs, upd_same, r1.ext g2⟩
      refine q _ _ (R1.ext g2 i2) (g1.trans g2) (.mref ?_)
      show (W1.θ ++ [p])[S1.length]? = some p
      rw [← R1.i.len, List.getElem?_append_right (Nat.le_refl _), Nat.sub_self]
      rfl
    · cases em
  · cases em
/-- o[i] = e, o a thing that others may change -/
def mPutM (mo mi ma : ME) : MS := fun ρ S => match ma ρ S with
  | some (y, S1) => match mo ρ S1 with
    | some (.mref n, S2) => match mi ρ S2 with
      | some (.int k, S3) => match S3[n]? with
        | some (.lst xs) => match ixP xs.length k with
          | some j => some (.nx ρ (S3.set n (.lst (xs.set j y))))
          | none => none
        | _ => none
      | _ => none
    | _ => none
  | none => none
theorem xputM {mo mi : ME} (h : PS X st (tAsg (tM X.K C ma) (gSub (tM X.K C mo) (tM X.K C mi) rSetL))) : PS X st (tMS X.K C (mPutM mo mi ma)) := PS.weak h fun D σ H ⟨W0, W, ρ, S, out, eH, R, em, p⟩ => by
  subst eH
  unfold mPutM at em
  split at em
  · rename_i y S1 e1
    split at em
    · rename_i n S2 e2
      split at em
      · rename_i k S3 e3
        split at em
        · rename_i xs hx
          split at em
          · rename_i j hj
            cases em
            refine ⟨W0, W, ρ, S, y, S1, rfl, R, e1, fun v W1 R1 g1 r1 => ⟨W0, W1, ρ, S1, _, S2, rfl, R1, e2, fun o W2 R2 g2 r2 => ⟨W0, W2, ρ, S2, _, S3, rfl, R2, e3, fun w W3 R3 g3 r3 => ?_⟩⟩⟩
            cases r3
            have r2' := r2.ext g3
            cases r2' with
            | mref hn =>
              rename_i a
              obtain ⟨fz, us, eh, ru⟩ := R3.i.m n a _ hn hx
              have ma : a ∈ W3.θ := List.mem_of_getElem? hn
              have rv := (r1.ext g2).ext g3
              refine ⟨a, us, k, j, rfl, rfl, eh, by rw [ru.len, ← ixP_eq]; exact hj, p σ ⟨W3.F, upd W3.H a (.lst (us.set j v)), W3.θ⟩ ⟨((g1.trans g2).trans g3).groF.f, ((g1.trans g2).trans g3).groF.t⟩ ?_⟩
              have mm : ∀ {b : Addr} {x : PV}, b ≠ a → Mut X.K C W3 b x → Mut X.K C ⟨W3.F, upd W3.H a (.lst (us.set j v)), W3.θ⟩ b x := fun {b x} n r => by
                refine r.to (fun o e => ?_) (fun r => r)
                show upd W3.H a _ b = _
                rw [upd_ne n]
                exact e
              have mmL : ∀ {b : Addr} {x : PV}, b ≠ a → MutL X.K C W3 b x → MutL X.K C ⟨W3.F, upd W3.H a (.lst (us.set j v)), W3.θ⟩ b x := fun {b x} n r => by
                refine r.to (fun o e => ?_) (fun r => r)
                show upd W3.H a _ b = _
                rw [upd_ne n]
                exact e
              refine ⟨⟨R3.e.f, R3.e.t, fun q o e nq => ?_, fun q o e => ?_, R3.e.n⟩, ⟨fun b o e => ?_, by rw [List.length_set]; exact R3.i.len, R3.i.nd, fun m b x h1 h2 => ?_⟩, R3.l, fun i sl hi => ?_, R3.d⟩
              · have e' := R3.e.h q o e nq
                show upd W3.H a _ q = _
                rw [upd_ne ?_]
                · exact e'
                · intro z
                  subst z
                  obtain ⟨r, er, fr⟩ := R3.e.t
                  rw [er] at ma
                  rcases List.mem_append.mp ma with ma | ma
                  · exact nq ma
                  · rw [fr _ ma] at e
                    cases e
              · obtain ⟨o', e'⟩ := R3.e.k q o e
                by_cases c : q = a
                · exact ⟨.lst (us.set j v), by rw [c]; exact upd_same⟩
                · exact ⟨o', by show upd W3.H a _ q = _; rw [upd_ne c]; exact e'⟩
              · show upd W3.H a _ b = some o
                rw [upd_ne (fun z => by
                  rw [z] at e
                  have e : W3.F a = some o := e
                  rw [fz] at e
                  cases e)]
                exact R3.i.s _ _ e
              · by_cases c : n = m
                · subst c
                  have hl : n < S3.length := (List.getElem?_eq_some_iff.mp hx).1
                  rw [List.getElem?_set_self hl] at h2
                  cases h2
                  have h1 : W3.θ[n]? = some b := h1
                  rw [hn] at h1
                  cases h1
                  exact ⟨fz, _, upd_same, ru.set j rv⟩
                · rw [List.getElem?_set_ne c] at h2
                  obtain ⟨z, m'⟩ := R3.i.m m b x h1 h2
                  refine ⟨z, mm (fun hz => ?_) m'⟩
                  subst hz
                  have h1 : W3.θ[m]? = some b := h1
                  exact c (nd_inj R3.i.nd hn h1)
              · have sl' := R3.s i sl hi
                cases sl with
                | un => trivial
                | val y => exact sl'
                | own y =>
                  obtain ⟨b, eb, p1, p2, p3, p4⟩ := sl'
                  exact ⟨b, eb, p1, p2, p3, mmL (fun z => p3 (by rw [z]; exact ma)) p4⟩
          · cases em
        · cases em
      · cases em
    · cases em
  · cases em
end
/-! defs -/
def mDef (np nN : Nat) (m : MS) : List PV → List PV → Option (PV × List PV) := fun xs S => if xs.length = np then match m (xs.map .val ++ List.replicate (nN - np) .un) S with
    | some (.rt x S') => some (x, S')
    | some (.nx _ S') => some (.non, S')
    | _ => none
  else none
theorem okM {P : Program} {w : World} {K : PySem.W.Frag} {mg : Str → Option Value} {base : Heap} {C : Addr} {x qual : Str} {st : Stmt} {f : Addr} {fd : FuncData} {N ps : List Str} {k : Nat} {m : MS} (F : Fun K x qual st f fd) (Sc : FnScope N ps (defScope st))
    (hb : ∀ (cdv : Value) (A : Around) (outer : List Env) (s : Shared) (H : Hp) (E : XK), Room k (A.deeper (envOfC qual (defScope st) s.heap.objs.size f cdv)) → PSs (cxOf CX0 P w K mg base N qual (defScope st) f cdv A outer s H E).nox (defBody st) (tMS K C m)) :
    FnOk P w K mg base CX0 (k + 1) f fd ps (spM K C (mDef ps.length N.length m)) := by
  refine F.ok Sc (fun vs H Q E h => ?_) (fun cdv A outer s H vs Q E hr h => ?_)
  · obtain ⟨W, S, xs, x, S', eH, i, r, em, q⟩ := h
    unfold mDef at em
    split at em
    · rename_i hl
      rw [r.len, hl]
    · cases em
  · refine ⟨_, hb cdv A outer s H E hr, ?_⟩
    obtain ⟨W, S, xs, x, S', eH, i, r, em, q⟩ := h
    subst eH
    unfold mDef at em
    split at em
    · rename_i hl
      have hl2 : vs.length = ps.length := by rw [r.len, hl]
      have R : Rel K C W W (L2.start N vs) (xs.map .val ++ List.replicate (N.length - ps.length) .un) S := by
        refine ⟨Gro.refl _, i, ?_, fun j sl hj => ?_, fun j k y z a h1 _ _ _ => ?_⟩
        · unfold L2.start
          rw [List.length_append, List.length_append, List.length_map, List.length_map, List.length_replicate, List.length_replicate, r.len, hl]
        · by_cases c : j < xs.length
          · rw [List.getElem?_append_left (by rw [List.length_map]; exact c), List.getElem?_map, List.getElem?_eq_getElem c] at hj
            cases hj
            obtain ⟨v, ev, rv⟩ := r.at (List.getElem?_eq_getElem c)
            refine ⟨v, ?_, rv⟩
            unfold L2.start
            rw [List.getElem?_append_left (by rw [List.length_map, r.len]; exact c), List.getElem?_map, ev]
            rfl
          · rw [List.getElem?_append_right (by rw [List.length_map]; omega), List.getElem?_replicate] at hj
            split at hj
            · cases hj
              trivial
            · cases hj
        · by_cases c : j < xs.length
          · rw [List.getElem?_append_left (by rw [List.length_map]; exact c), List.getElem?_map, List.getElem?_eq_getElem c] at h1
            cases h1
          · rw [List.getElem?_append_right (by rw [List.length_map]; omega), List.getElem?_replicate] at h1
            split at h1
            · cases h1
            · cases h1
      split at em
      · rename_i y S1 e1
        cases em
        exact ⟨W, W, _, S, _, rfl, R, e1, fun v W' g i r => q v W' g i r⟩
      · rename_i ρ1 S1 e1
        cases em
        exact ⟨W, W, _, S, _, rfl, R, e1, fun σ W' g R' => q _ W' R'.e R'.i .non⟩
      · cases em
    · cases em
end BL

namespace BL
open PySem PySem.Spec PyProof.Rows L2
open C8 (Cal Mak pe_c pe_mk)
theorem op_eqP {X : Cx} (hu : X.A.units + 64 < cLine) : OpR X (compareOp .Eq) (rEqP X.K) := BL.OpR.or op_eq (op_eqD hu)
theorem op_neP {X : Cx} (hu : X.A.units + 64 < cLine) : OpR X (compareOp .NotEq) (rNeP X.K) := BL.OpR.or op_ne (op_neD hu)
/-! x in xs -/
def PV.toV : PV → Option V
  | .non => some .non | .bl b => some (.bl b) | .int i => some (.int i) | .str x => some (.str x)
  | _ => none
def toVs : List PV → Option (List V)
  | [] => some []
  | x :: xs => match x.toV, toVs xs with
    | some v, some vs => some (v :: vs)
    | _, _ => none
theorem Rep.toV {K : PySem.W.Frag} {C : Addr} {F : Hp} {θ : List Addr} {v u : V} {x : PV} (r : Rep K C F θ v x) (h : x.toV = some u) : v = u ∧ flatV u = true := by
  cases r <;> (try cases h) <;> exact ⟨rfl, rfl⟩
theorem RepAll.toVs {K : PySem.W.Frag} {C : Addr} {F : Hp} {θ : List Addr} : ∀ {vs us : List V} {xs : List PV}, RepAll K C F θ vs xs → BL.toVs xs = some us → vs = us ∧ us.all flatV = true
  | _, _, [], .nil, h => by cases h; exact ⟨rfl, rfl⟩
  | _, _, x :: xs, .cons r rr, h => by
    unfold BL.toVs at h
    split at h
    · rename_i v vs h1 h2
      cases h
      obtain ⟨e1, f1⟩ := r.toV h1
      obtain ⟨e2, f2⟩ := RepAll.toVs rr h2
      rw [e1, e2]
      exact ⟨rfl, by rw [List.all_cons, f1, f2]; rfl⟩
    · cases h
def fInB (neg : Bool) (_ : List PV) (x y : PV) : Option PV := match x.toV, (match items y with | some ys => toVs ys | none => none) with
  | some v, some vs => some (.bl (if neg then !inV v vs else inV v vs))
  | _, _ => none
theorem l_inB {K : PySem.W.Frag} {C : Addr} {neg : Bool} : LR2 K C (rIn K neg) (fInB neg) := fun W S v u x y z Q i rx ry e q => by
  unfold fInB at e
  split at e
  · rename_i v' vs' h1 h2
    cases e
    obtain ⟨ev, fv⟩ := rx.toV h1
    subst ev
    cases ry with
    | lst h a =>
      obtain ⟨e2, f2⟩ := a.toVs h2
      subst e2
      exact ⟨_, _, rfl, .inl (i.s.seq (SqL.of h)), fv, f2, q _ W (Gro.refl _) i (.bl _)⟩
    | tup h a =>
      obtain ⟨e2, f2⟩ := a.toVs h2
      subst e2
      exact ⟨_, _, rfl, .inr (i.s.seT h), fv, f2, q _ W (Gro.refl _) i (.bl _)⟩
    | _ => cases h2
  · cases e
section
variable {X : Cx} {C : Addr} {e a b tg : Expr} {es : List Expr} {st : Stmt} {pos : Pos} {m ma mb me mf : ME} {mt : MT} {ms mr : MS} {mes : MA} {mi : MI}
/-! slices -/
abbrev MO := List SlV → List PV → Option (Option Int × List PV)
def tMO (K : PySem.W.Frag) (C : Addr) (m : MO) : TO := fun σ H Q => ∃ W0 W ρ S x S', H = W.H ∧ Rel K C W0 W σ ρ S ∧ m ρ S = some (x, S') ∧ ∀ W', Rel K C W0 W' σ ρ S' → Gro W W' → Q x W'.H
theorem PO.weak {X : Cx} {e : Option Expr} {t t' : TO} (h : PO X e t) (i : ∀ σ H Q, t' σ H Q → t σ H Q) : PO X e t' := ⟨fun pins s σ H Q I q => h.run pins s σ H Q I (i σ H Q q)⟩
def mP0 : MO := fun _ S => some (none, S)
def mP1 (ma : ME) : MO := fun ρ S => match ma ρ S with
  | some (.int i, S1) => some (some i, S1)
  | _ => none
theorem xpo0 : PO X none (tMO X.K C mP0) := PO.weak po_none fun σ H Q ⟨W0, W, ρ, S, z, S', eH, R, em, q⟩ => by
  subst eH
  cases em
  exact q W R (Gro.refl _)
theorem xpo (h : PE X e (tM X.K C ma)) : PO X (some e) (tMO X.K C (mP1 ma)) := PO.weak (po_some h) fun σ H Q ⟨W0, W, ρ, S, z, S', eH, R, em, q⟩ => by
  subst eH
  unfold mP1 at em
  split at em
  · rename_i i S1 e1
    cases em
    exact ⟨W0, W, ρ, S, _, S', rfl, R, e1, fun v W1 R1 g1 r1 => by cases r1; exact ⟨i, rfl, q W1 R1 g1⟩⟩
  · cases em
def cutP (xs : List PV) (lo hi : Option Int) : List PV := (xs.drop (HT.sIx xs.length 0 lo)).take (HT.sIx xs.length xs.length hi - HT.sIx xs.length 0 lo)
theorem cut_rep {K : PySem.W.Frag} {F : Hp} {θ : List Addr} {vs : List V} {xs : List PV} (r : RepAll K C F θ vs xs) (lo hi : Option Int) : RepAll K C F θ (cutV vs lo hi) (cutP xs lo hi) := by
  unfold cutV cutP
  rw [r.len]
  exact (r.drop _).take _
def fSl (x : PV) (lo hi : Option Int) : Option PV := match x with
  | .lst xs => some (.lst (cutP xs lo hi))
  | .tup xs => some (.tup (cutP xs lo hi))
  | _ => none
def mSl (ma : ME) (ml mh : MO) : ME := fun ρ S => match ma ρ S with
  | some (x, S1) => match ml ρ S1 with
    | some (l, S2) => match mh ρ S2 with
      | some (h, S3) => match fSl x l h with
        | some z => some (z, S3)
        | none => none
      | none => none
    | none => none
  | none => none
abbrev rSlP (K : PySem.W.Frag) : V → Option Int → Option Int → Hp → VK → Prop := fun x lo hi H Q => rSlL K x lo hi H Q ∨ rSlA K x lo hi H Q
theorem sl_P : SlR X (rSlP X.K) := sl_list.or sl_tupA
theorem xsl {ml mh : MO} (h : PE X e (tSl (rSlP X.K) (tM X.K C ma) (tMO X.K C ml) (tMO X.K C mh))) : PE X e (tM X.K C (mSl ma ml mh)) := PE.weak h fun σ H Q ⟨W0, W, ρ, S, z, S', eH, R, em, q⟩ => by
  subst eH
  unfold mSl at em
  split at em
  · rename_i x S1 e1
    split at em
    · rename_i l S2 e2
      split at em
      · rename_i h S3 e3
        split at em
        · rename_i z' e4
          cases em
          refine ⟨W0, W, ρ, S, x, S1, rfl, R, e1, fun v W1 R1 g1 r1 => ⟨W0, W1, ρ, S1, l, S2, rfl, R1, e2, fun W2 R2 g2 => ⟨W0, W2, ρ, S2, h, S', rfl, R2, e3, fun W3 R3 g3 => ?_⟩⟩⟩
          have g := (g1.trans g2).trans g3
          have r3 := (r1.ext g2).ext g3
          cases r3 with
          | lst hh a =>
            cases e4
            refine .inl ⟨_, _, rfl, R3.i.s.seq (SqL.of hh), fun p np => ?_⟩
            obtain ⟨g4, i4⟩ := laid (.lst (cutV _ l h)) R3.i np
            exact q _ _ (R3.ext g4 i4) (g.trans g4) (.lst upd_same (cut_rep (a.ext g4) l h))
          | tup hh a =>
            cases e4
            refine .inr ⟨_, _, rfl, R3.i.s.seT hh, fun hw => ?_, fun hw p np => ?_⟩
            · rename_i vs xs
              have ec : cutP xs l h = xs := by
                unfold cutP
                rw [a.len] at hw
                rw [hw.1, hw.2, List.drop_zero, Nat.sub_zero, List.take_length]
              rw [ec] at q
              exact q _ _ R3 g (.tup hh a)
            · obtain ⟨g4, i4⟩ := laid (.tup (cutV _ l h)) R3.i np
              exact q _ _ (R3.ext g4 i4) (g.trans g4) (.tup (SqT.of upd_same) (cut_rep (a.ext g4) l h))
          | _ => cases e4
        · cases em
      · cases em
    · cases em
  · cases em
/-- xs[::-1] of a list -/
def fRev (_ : List PV) : PV → Option PV
  | .lst xs => some (.lst xs.reverse)
  | _ => none
theorem xrev (h : PE X e (tRevL X.K (tM X.K C ma))) : PE X e (tM X.K C (mUn fRev ma)) := PE.weak h fun σ H Q ⟨W0, W, ρ, S, z, S', eH, R, em, q⟩ => by
  subst eH
  obtain ⟨x, e1, e3⟩ := mUn_inv em
  refine ⟨W0, W, ρ, S, x, S', rfl, R, e1, fun v W1 R1 g1 r1 => ?_⟩
  unfold fRev at e3
  split at e3
  · cases e3
    cases r1 with
    | lst hh a =>
      refine ⟨_, _, rfl, R1.i.s.seq (SqL.of hh), fun p np => ?_⟩
      obtain ⟨g4, i4⟩ := laid (.lst (List.reverse _)) R1.i np
      exact q _ _ (R1.ext g4 i4) (g1.trans g4) (.lst upd_same ((a.ext g4).rev))
  · cases e3
/-! keywords -/
theorem PK.weak {X : Cx} {e : List Keyword} {t t' : TA} (h : PK X e t) (i : ∀ σ H Q, t' σ H Q → t σ H Q) : PK X e t' := ⟨fun pos pins s σ H Q I q => h.run pos pins s σ H Q I (i σ H Q q)⟩
theorem xknil : PK X [] (tMA X.K C mNil) := PK.weak pk_nil fun σ H Q ⟨W0, W, ρ, S, z, S', eH, R, em, q⟩ => by
  subst eH
  cases em
  exact q [] W R (Gro.refl _) .nil
theorem xkcons {nm : Option Str} {kpos : Pos} {kws : List Keyword} (ha : PE X e (tM X.K C ma)) (hr : PK X kws (tMA X.K C mes)) : PK X (⟨nm, e, kpos⟩ :: kws) (tMA X.K C (mCons ma mes)) := PK.weak (pk_cons ha hr) fun σ H Q ⟨W0, W, ρ, S, z, S', eH, R, em, q⟩ => by
  subst eH
  obtain ⟨x, S1, xs, e1, e2, rfl⟩ := mCons_inv em
  exact ⟨W0, W, ρ, S, x, S1, rfl, R, e1, fun v W1 R1 g1 r1 => ⟨W0, W1, ρ, S1, xs, S', rfl, R1, e2, fun us W2 R2 g2 r2 => q _ _ R2 (g1.trans g2) (.cons (r1.ext g2) r2)⟩⟩
end
/-- a def called by keywords alone -/
structure CalK (P : Program) (w : World) (K : PySem.W.Frag) (mg : Str → Option Value) (base : Heap) (k : Nat) (x : Str) (ks : List Str) (sp : Sp) (gV : List V → List V → List V) : Prop where
  ex : ∃ (f : Addr) (fd : FuncData) (ps : List Str) (g : List Value → List Value → List Value), FnOk P w K mg base CX0 k f fd ps sp ∧ mg x = some (.ref f) ∧ PySem.W.keepIn K (.ref f) = true ∧ KBn K fd ps 0 ks g gV
def tCK (m : Nat) (sp : Sp) (gV : List V → List V → List V) (tk : TA) : TE := fun σ H Q => tk σ H fun zs H2 => zs.length = m ∧ sp (gV [] zs) H2 Q C8.E0
theorem pe_ck0 {X : Cx} {k j : Nat} {x : Str} {ks : List Str} {sp : Sp} {gV : List V → List V → List V} {kws : List Keyword} {tk : TA} {p pos : Pos} (c : CalK X.prog X.w X.K X.mg X.base k x ks sp gV) (hr : Room j X.A) (hk : k ≤ j) (hg : Gl X x) (hkw : PK X kws tk)
    (hall : (backToKw pos (keywordEach kws X.env)).all (·.1.isSome) = true := by rfl) (hks : (backToKw pos (keywordEach kws X.env)).filterMap (·.1) = ks := by rfl) (hdb : (x == ("__debug__" : Str)) = false := by decide)
    (hpl : ((backTo pos (starEach [] X.env)).any (·.1) || (backToKw pos (keywordEach kws X.env)).any (·.1.isNone)) = false := by rfl) : PE X (.Call (.Name x p) [] kws pos) (tCK ks.length sp gV tk) := by
  obtain ⟨f, fd, ps, g, F, hm, kp, hb⟩ := c.ex
  refine ⟨fun pins s σ H Q I h => ?_⟩
  refine wpAny_Call_Name_kw (ld_glob I hg hm ?_ hdb)
  refine PySem.W.callWith_KW0 (h₀ := X.base) I.ok.mod.kin kp hall (thn (hkw.run pos pins s σ H _ I h) fun ws s2 ⟨zs, H2, I2, rz, l2, q2⟩ => ⟨I2.kIn, ?_⟩) hpl
  rw [hks]
  exact run_fnN (us := []) (vs := []) F (hr.mono hk) hb pass0 I2 .nil rz rfl l2 q2
/-- the values in the parameters' order -/
def permP (is : List Nat) (xs : List PV) : List PV := is.map fun i => xs.getD i .non
def mCallK (f : List PV → List PV → Option (PV × List PV)) (is : List Nat) (ma : MA) : ME := fun ρ S => match ma ρ S with
  | some (xs, S1) => if xs.length = is.length then f (permP is xs) S1 else none
  | none => none
theorem perm_rep {K : PySem.W.Frag} {C : Addr} {F : Hp} {θ : List Addr} {vs : List V} {xs : List PV} (r : RepAll K C F θ vs xs) : ∀ (is : List Nat), (∀ i ∈ is, i < xs.length) → RepAll K C F θ (is.map fun i => vs.getD i .non) (permP is xs)
  | [], _ => .nil
  | i :: is, h => by
    have hi := h i List.mem_cons_self
    obtain ⟨v, ev, rv⟩ := r.at (List.getElem?_eq_getElem hi)
    refine .cons ?_ (perm_rep r is fun j hj => h j (List.mem_cons_of_mem _ hj))
    show Rep K C F θ (vs.getD i .non) (xs.getD i .non)
    rw [List.getD_eq_getElem?_getD, ev, List.getD_eq_getElem?_getD, List.getElem?_eq_getElem hi]
    exact rv
theorem xck {X : Cx} {C : Addr} {e : Expr} {mes : MA} {f : List PV → List PV → Option (PV × List PV)} {n : Nat} {gV : List V → List V → List V} {is : List Nat} (h : PE X e (tCK n (spM X.K C f) gV (tMA X.K C mes))) (hl : n = is.length := by rfl) (hi : ∀ i ∈ is, i < is.length := by decide) (hg : ∀ zs, gV [] zs = is.map fun i => zs.getD i .non := by intro _; rfl) : PE X e (tM X.K C (mCallK f is mes)) := PE.weak h fun σ H Q ⟨W0, W, ρ, S, z, S', eH, R, em, q⟩ => by
  subst eH
  unfold mCallK at em
  split at em
  · rename_i xs S1 e1
    split at em
    · rename_i hx
      refine ⟨W0, W, ρ, S, xs, S1, rfl, R, e1, fun vs W1 R1 g1 r1 => ⟨by rw [r1.len, hx, hl], ?_⟩⟩
      rw [hg]
      exact ⟨W1, S1, permP is xs, z, S', rfl, R1.i, perm_rep r1 is fun i h => by rw [hx]; exact hi i h, em, fun v W2 g2 i2 r2 => q v W2 (R1.ext g2 i2) (g1.trans g2) r2⟩
    · cases em
  · cases em
section
variable {X : Cx} {C : Addr} {e a b tg : Expr} {es : List Expr} {st : Stmt} {pos : Pos} {m ma mb me mf : ME} {mt : MT} {ms mr : MS} {mes : MA} {mi : MI}
/-! list(range(..)) -/
theorem rgV_rep {K : PySem.W.Frag} {F : Hp} {θ : List Addr} (a b : Int) : RepAll K C F θ (rgV a b) (rngP a (b - a).toNat) := by
  unfold rgV
  generalize (b - a).toNat = n
  have : ∀ (n : Nat) (a : Int) (f : Nat → V), (∀ i, f i = V.int (a + (i : Nat))) → RepAll K C F θ ((List.range n).map f) (rngP a n) := fun n => by
    induction n with
    | zero => intro a f _; exact .nil
    | succ n ih =>
      intro a f hf
      rw [List.range_succ_eq_map, List.map_cons, List.map_map]
      refine .cons ?_ (ih (a + 1) _ fun i => ?_)
      · rw [hf 0, show a + ((0 : Nat) : Int) = a by omega]
        exact .int a
      · show f (i + 1) = _
        rw [hf (i + 1), show a + ((i + 1 : Nat) : Int) = a + 1 + (i : Int) by omega]
  exact this n a _ fun i => rfl
def okRg (a b : Int) : Bool := decide (-(2 ^ 62) ≤ a) && decide (a < 2 ^ 62) && decide (-(2 ^ 62) ≤ b) && decide (b < 2 ^ 62) && decide ((b - a).toNat ≤ 100000)
theorem okRg_ok {a b : Int} (h : okRg a b = true) : RgOk a b := by
  unfold okRg at h
  simp only [Bool.and_eq_true, decide_eq_true_eq] at h
  obtain ⟨⟨⟨⟨h1, h2⟩, h3⟩, h4⟩, h5⟩ := h
  exact ⟨h1, h2, h3, h4, Nat.le_trans h5 (by decide)⟩
def mLrg1 (ma : ME) : ME := fun ρ S => match ma ρ S with
  | some (.int j, S1) => if okRg 0 j then some (.lst (rngP 0 (j - 0).toNat), S1) else none
  | _ => none
def mLrg2 (ma mb : ME) : ME := fun ρ S => match ma ρ S with
  | some (.int i, S1) => match mb ρ S1 with
    | some (.int j, S2) => if okRg i j then some (.lst (rngP i (j - i).toNat), S2) else none
    | _ => none
  | _ => none
theorem xlrg1 (h : PE X e (tLstRg (tRg1 (tM X.K C ma)))) : PE X e (tM X.K C (mLrg1 ma)) := PE.weak h fun σ H Q ⟨W0, W, ρ, S, z, S', eH, R, em, q⟩ => by
  subst eH
  unfold mLrg1 at em
  split at em
  · rename_i j S1 e1
    split at em
    · rename_i ok
      cases em
      refine ⟨W0, W, ρ, S, _, S', rfl, R, e1, fun v W1 R1 g1 r1 => ?_⟩
      cases r1
      refine ⟨j, rfl, okRg_ok ok, fun p np => ?_⟩
      obtain ⟨g4, i4⟩ := laid (.lst (rgV 0 j)) R1.i np
      exact q _ _ (R1.ext g4 i4) (g1.trans g4) (.lst upd_same (rgV_rep 0 j))
    · cases em
  · cases em
theorem xlrg2 (h : PE X e (tLstRg (tRg2 (tM X.K C ma) (tM X.K C mb)))) : PE X e (tM X.K C (mLrg2 ma mb)) := PE.weak h fun σ H Q ⟨W0, W, ρ, S, z, S', eH, R, em, q⟩ => by
  subst eH
  unfold mLrg2 at em
  split at em
  · rename_i i S1 e1
    split at em
    · rename_i j S2 e2
      split at em
      · rename_i ok
        cases em
        refine ⟨W0, W, ρ, S, _, S1, rfl, R, e1, fun v W1 R1 g1 r1 => ⟨W0, W1, ρ, S1, _, S', rfl, R1, e2, fun u W2 R2 g2 r2 => ?_⟩⟩
        cases r1
        cases r2
        refine ⟨i, j, rfl, rfl, okRg_ok ok, fun p np => ?_⟩
        obtain ⟨g4, i4⟩ := laid (.lst (rgV i j)) R2.i np
        exact q _ _ (R2.ext g4 i4) ((g1.trans g2).trans g4) (.lst upd_same (rgV_rep i j))
      · cases em
    · cases em
  · cases em
/-! zip -/
def zipP : List PV → List PV → List PV
  | x :: xs, y :: ys => .tup [x, y] :: zipP xs ys
  | _, _ => []
theorem zipP_len : ∀ (xs ys : List PV), (zipP xs ys).length = min xs.length ys.length
  | [], _ => by simp [zipP]
  | _ :: _, [] => by simp [zipP]
  | x :: xs, y :: ys => by simp [zipP, zipP_len xs ys]
theorem zipP_at : ∀ {xs ys : List PV} {i : Nat} {z : PV}, (zipP xs ys)[i]? = some z → ∃ x y, xs[i]? = some x ∧ ys[i]? = some y ∧ z = .tup [x, y]
  | [], _, _, _, h => by simp [zipP] at h
  | _ :: _, [], _, _, h => by simp [zipP] at h
  | x :: xs, y :: ys, 0, z, h => by cases Option.some.inj h; exact ⟨x, y, rfl, rfl, rfl⟩
  | x :: xs, y :: ys, i + 1, z, h => zipP_at (xs := xs) (ys := ys) (i := i) h
def mZip (ma mb : ME) : MI := fun ρ S => match ma ρ S with
  | some (.lst xs, S1) => match mb ρ S1 with
    | some (.lst ys, S2) => some (zipP xs ys, S2)
    | _ => none
  | some (.tup xs, S1) => match mb ρ S1 with
    | some (.tup ys, S2) => some (zipP xs ys, S2)
    | _ => none
  | _ => none
theorem grow_all {K : PySem.W.Frag} {W W1 : Wd} {vs : List V} {xs : List PV} (r : RepAll K C W.F W.θ vs xs) (g : GroF W W1) : RepAll K C W1.F W1.θ vs xs := by
  obtain ⟨q, eq⟩ := g.t
  rw [eq]
  exact r.mono g.f
theorem it_zipL {K : PySem.W.Frag} {W : Wd} {a b : Addr} {vs us : List V} {xs ys : List PV} (h : W.F a = some (.lst vs)) (r : RepAll K C W.F W.θ vs xs) (h' : W.F b = some (.lst us)) (r' : RepAll K C W.F W.θ us ys) : ItOk K C W (Itz K a b) (zipP xs ys) := by
  have h1 : ∀ W1 S, GroF W W1 → Inv1 K C W1 S → SqL K W1.H a vs ∧ SqL K W1.H b us := fun W1 S g i => ⟨i.s.seq (SqL.of (g.f _ _ h)), i.s.seq (SqL.of (g.f _ _ h'))⟩
  refine ⟨fun i W1 S g i1 hi => ?_, fun W1 S g i1 => ⟨vs, us, (h1 W1 S g i1).1, (h1 W1 S g i1).2, by rw [r.len, r'.len, zipP_len]; omega⟩, fun i W1 S v H' x g i1 hx y => ?_⟩
  · rw [zipP_len] at hi
    obtain ⟨v, ev, _⟩ := r.at (i := i) (List.getElem?_eq_getElem (by omega))
    obtain ⟨u, eu, _⟩ := r'.at (i := i) (List.getElem?_eq_getElem (by omega))
    exact ⟨vs, us, v, u, (h1 W1 S g i1).1, (h1 W1 S g i1).2, ev, eu⟩
  · obtain ⟨T, u, w, rfl, nT, rfl, hv, hw⟩ := y
    obtain ⟨p, q, hp, hq, rfl⟩ := zipP_at hx
    obtain ⟨u', eu, ru⟩ := (grow_all r g).at hp
    obtain ⟨w', ew, rw'⟩ := (grow_all r' g).at hq
    have e1 := hv vs (h1 W1 S g i1).1
    have e2 := hw us (h1 W1 S g i1).2
    rw [eu] at e1
    rw [ew] at e2
    cases Option.some.inj e1
    cases Option.some.inj e2
    obtain ⟨g2, i2⟩ := laid (.tup [u, w]) i1 nT
    exact ⟨_, rfl, g2, i2, .tup (SqT.of upd_same) (.cons (ru.ext g2) (.cons (rw'.ext g2) .nil))⟩
theorem it_zipT {K : PySem.W.Frag} {W : Wd} {a b : Addr} {vs us : List V} {xs ys : List PV} (h : SqT K W.F a vs) (r : RepAll K C W.F W.θ vs xs) (h' : SqT K W.F b us) (r' : RepAll K C W.F W.θ us ys) : ItOk K C W (RZ.ItzT K a b) (zipP xs ys) := by
  have h1 : ∀ W1 S, GroF W W1 → Inv1 K C W1 S → SqT K W1.H a vs ∧ SqT K W1.H b us := fun W1 S g i => ⟨i.s.seT (g.f.seT h), i.s.seT (g.f.seT h')⟩
  refine ⟨fun i W1 S g i1 hi => ?_, fun W1 S g i1 => ⟨vs, us, (h1 W1 S g i1).1, (h1 W1 S g i1).2, by rw [r.len, r'.len, zipP_len]; omega⟩, fun i W1 S v H' x g i1 hx y => ?_⟩
  · rw [zipP_len] at hi
    obtain ⟨v, ev, _⟩ := r.at (i := i) (List.getElem?_eq_getElem (by omega))
    obtain ⟨u, eu, _⟩ := r'.at (i := i) (List.getElem?_eq_getElem (by omega))
    exact ⟨vs, us, v, u, (h1 W1 S g i1).1, (h1 W1 S g i1).2, ev, eu⟩
  · obtain ⟨T, u, w, rfl, nT, rfl, hv, hw⟩ := y
    obtain ⟨p, q, hp, hq, rfl⟩ := zipP_at hx
    obtain ⟨u', eu, ru⟩ := (grow_all r g).at hp
    obtain ⟨w', ew, rw'⟩ := (grow_all r' g).at hq
    have e1 := hv vs (h1 W1 S g i1).1
    have e2 := hw us (h1 W1 S g i1).2
    rw [eu] at e1
    rw [ew] at e2
    cases Option.some.inj e1
    cases Option.some.inj e2
    obtain ⟨g2, i2⟩ := laid (.tup [u, w]) i1 nT
    exact ⟨_, rfl, g2, i2, .tup (SqT.of upd_same) (.cons (ru.ext g2) (.cons (rw'.ext g2) .nil))⟩
theorem izip {p tpos : Pos} {elts : List Expr} {kk : Nat} (hg : Gl X "zip") (hm : X.mg "zip" = none) (ha : PE X a (tM X.K C ma)) (hb : PE X b (tM X.K C mb)) (hst2 : starEach (b :: []) X.env = (false, eval b X.env) :: starEach [] X.env := by rfl)
    (hs : starEach [a, b] X.env = (false, eval a X.env) :: starEach [b] X.env := by rfl) (hpl : (backTo pos (starEach [b] X.env)).any (·.1) = false := by rfl) :
    PI X (.Tuple elts kk tpos) (.Call (.Name "zip" p) [a, b] [] pos) (tMI X.K C (mZip ma mb)) := PI.weak (RZ.pi_zipA hg hm (pa_cons ha (pa_cons hb pa_nil hst2) hs) hs hpl) fun σ H R0 ⟨W0, W, ρ, S, xs, S', eH, R, em, q⟩ => by
  subst eH
  unfold mZip at em
  split at em
  · rename_i ys S1 e1
    split at em
    · rename_i zs S2 e2
      cases em
      refine ⟨W0, W, ρ, S, _, S1, rfl, R, e1, fun v W1 R1 g1 r1 => ⟨W0, W1, ρ, S1, _, S', rfl, R1, e2, fun u W2 R2 g2 r2 => ?_⟩⟩
      have r1' := r1.ext g2
      cases r1' with
      | lst h a1 =>
        cases r2 with
        | lst h' a2 => exact ⟨_, _, _, _, rfl, .inl ⟨R2.i.s.seq (SqL.of h), R2.i.s.seq (SqL.of h'), q _ W2 R2 (g1.trans g2) (it_zipL h a1 h' a2)⟩⟩
    · cases em
  · rename_i ys S1 e1
    split at em
    · rename_i zs S2 e2
      cases em
      refine ⟨W0, W, ρ, S, _, S1, rfl, R, e1, fun v W1 R1 g1 r1 => ⟨W0, W1, ρ, S1, _, S', rfl, R1, e2, fun u W2 R2 g2 r2 => ?_⟩⟩
      have r1' := r1.ext g2
      cases r1' with
      | tup h a1 =>
        cases r2 with
        | tup h' a2 => exact ⟨_, _, _, _, rfl, .inr ⟨R2.i.s.seT h, R2.i.s.seT h', q _ W2 R2 (g1.trans g2) (it_zipT h a1 h' a2)⟩⟩
    · cases em
  · cases em
/-! truth of any value -/
def truP : PV → Option Bool
  | .non => some false | .bl b => some b | .int i => some (i != 0)
  | .str y => if y.length ≤ 100000 then some ((y.length : Int) != 0) else none
  | .lst xs => some (!xs.isEmpty) | .tup xs => some (!xs.isEmpty)
  | _ => none
def mTruL (ma : ME) : MT := fun ρ S => match ma ρ S with
  | some (x, S1) => match truP x with
    | some b => some (b, S1)
    | none => none
  | none => none
theorem emp_rep {K : PySem.W.Frag} {F : Hp} {θ : List Addr} {vs : List V} {xs : List PV} (r : RepAll K C F θ vs xs) : (!xs.isEmpty) = !vs.isEmpty := by cases r <;> rfl
theorem xtTru (h : PT X e (fun σ H Q => (tM X.K C ma) σ H fun x H' => ∃ k, TruV X.K x H' k ∧ Q k H')) : PT X e (tMT X.K C (mTruL ma)) := PT.weak h fun σ H Q ⟨W0, W, ρ, S, z, S', eH, R, em, q⟩ => by
  subst eH
  unfold mTruL at em
  split at em
  · rename_i x S1 e1
    split at em
    · rename_i b' e2
      cases em
      refine ⟨W0, W, ρ, S, x, S', rfl, R, e1, fun v W1 R1 g1 r1 => ⟨z, ?_, q W1 R1 g1⟩⟩
      cases r1 with
      | non => cases e2; rfl
      | bl b => cases e2; rfl
      | int b => cases e2; rfl
      | str b =>
        unfold truP at e2
        simp only [] at e2
        split at e2
        · rename_i hl
          cases e2
          exact ⟨Nat.le_trans hl lim, rfl⟩
        · cases e2
      | lst h a => cases e2; exact .inl ⟨_, R1.i.s.seq (SqL.of h), emp_rep a⟩
      | tup h a => cases e2; exact .inr (.inl ⟨_, R1.i.s.seT h, emp_rep a⟩)
      | way h => cases e2
      | mref h => cases e2
      | exc _ _ _ _ _ _ => cases e2
      | exn _ _ _ => cases e2
    · cases em
  · cases em
/-! max, min of two -/
def fMax2 (_ : List PV) : List PV → Option PV
  | [.int i, .int j] => some (.int (if j > i then j else i))
  | _ => none
def fMin2 (_ : List PV) : List PV → Option PV
  | [.int i, .int j] => some (.int (if j < i then j else i))
  | _ => none
theorem l_max2 {K : PySem.W.Frag} : LRn K C (fun xs H Q => ∃ i j, xs = [.int i, .int j] ∧ Q (.int (if j > i then j else i)) H) fMax2 := fun W S vs xs z Q i r e q => by
  unfold fMax2 at e
  split at e
  · cases e
    cases r with
    | cons r rr =>
      cases rr with
      | cons r' rr =>
        cases rr
        cases r
        cases r'
        exact ⟨_, _, rfl, q _ W (Gro.refl _) i (.int _)⟩
  · cases e
theorem l_min2 {K : PySem.W.Frag} : LRn K C (fun xs H Q => ∃ i j, xs = [.int i, .int j] ∧ Q (.int (if j < i then j else i)) H) fMin2 := fun W S vs xs z Q i r e q => by
  unfold fMin2 at e
  split at e
  · cases e
    cases r with
    | cons r rr =>
      cases rr with
      | cons r' rr =>
        cases rr
        cases r
        cases r'
        exact ⟨_, _, rfl, q _ W (Gro.refl _) i (.int _)⟩
  · cases e
/-! what reads alike -/
mutual
def PV.same : PV → PV → Bool
  | .non, .non => true
  | .bl a, .bl b => a == b
  | .int a, .int b => decide (a = b)
  | .str a, .str b => decide (a = b)
  | .lst a, .lst b => sameL a b
  | .tup a, .tup b => sameL a b
  | _, _ => false
def sameL : List PV → List PV → Bool
  | [], [] => true
  | x :: xs, y :: ys => PV.same x y && sameL xs ys
  | _, _ => false
end
mutual
def PV.deep : Nat → PV → Bool
  | 0, .lst _ => false
  | 0, .tup _ => false
  | n + 1, .lst xs => decide (xs.length ≤ 1000) && deepL n xs
  | n + 1, .tup xs => decide (xs.length ≤ 1000) && deepL n xs
  | _, _ => true
def deepL : Nat → List PV → Bool
  | _, [] => true
  | n, x :: xs => PV.deep n x && deepL n xs
end
mutual
theorem same_eqs {K : PySem.W.Frag} {F : Hp} {θ : List Addr} : ∀ (n : Nat) (x y : PV) (v u : V), x.same y = true → x.deep n = true → Rep K C F θ v x → Rep K C F θ u y → Eqs K F n v u
  | n, .non, y, v, u, e, d, r, t => by
    cases y <;> first | (cases r; cases t; exact .non n) | (unfold PV.same at e; cases e)
  | n, .bl a, y, v, u, e, d, r, t => by
    cases y <;> unfold PV.same at e <;> first | (cases e; done) | (cases r; cases t; rw [show _ = _ from of_decide_eq_true e]; exact .bl n _) | (cases r; cases t; have := eq_of_beq e; subst this; exact .bl n _)
  | n, .int a, y, v, u, e, d, r, t => by
    cases y <;> unfold PV.same at e <;> first | (cases e; done) | (cases r; cases t; have := of_decide_eq_true e; subst this; exact .int n _)
  | n, .str a, y, v, u, e, d, r, t => by
    cases y <;> unfold PV.same at e <;> first | (cases e; done) | (cases r; cases t; have := of_decide_eq_true e; subst this; exact .str n _)
  | n, .lst a, y, v, u, e, d, r, t => by
    cases y <;> unfold PV.same at e <;> first
      | (cases e; done)
      | (cases n with
         | zero => unfold PV.deep at d; cases d
         | succ n =>
           unfold PV.deep at d
           rw [Bool.and_eq_true, decide_eq_true_eq] at d
           cases r with
           | lst h1 a1 =>
             cases t with
             | lst h2 a2 =>
               obtain ⟨hl, hx⟩ := sameL_eqs n a _ _ _ e d.2 a1 a2
               exact .lst (SqL.of h1) (SqL.of h2) hl (by rw [a1.len]; exact d.1) hx)
  | n, .tup a, y, v, u, e, d, r, t => by
    cases y <;> unfold PV.same at e <;> first
      | (cases e; done)
      | (cases n with
         | zero => unfold PV.deep at d; cases d
         | succ n =>
           unfold PV.deep at d
           rw [Bool.and_eq_true, decide_eq_true_eq] at d
           cases r with
           | tup h1 a1 =>
             cases t with
             | tup h2 a2 =>
               obtain ⟨hl, hx⟩ := sameL_eqs n a _ _ _ e d.2 a1 a2
               exact .tup h1 h2 hl (by rw [a1.len]; exact d.1) hx)
  | n, .way _ _ _, y, v, u, e, d, r, t => by cases y <;> (unfold PV.same at e; cases e)
  | n, .mref _, y, v, u, e, d, r, t => by cases y <;> (unfold PV.same at e; cases e)
  | n, .dic _, y, v, u, e, d, r, t => by cases y <;> (unfold PV.same at e; cases e)
theorem sameL_eqs {K : PySem.W.Frag} {F : Hp} {θ : List Addr} : ∀ (n : Nat) (xs ys : List PV) (vs us : List V), sameL xs ys = true → deepL n xs = true → RepAll K C F θ vs xs → RepAll K C F θ us ys → vs.length = us.length ∧ ∀ (i : Nat) (x y : V), vs[i]? = some x → us[i]? = some y → Eqs K F n x y
  | n, [], ys, vs, us, e, d, r, t => by
    cases ys with
    | nil => cases r; cases t; exact ⟨rfl, fun i x y h => by simp at h⟩
    | cons y ys => unfold sameL at e; cases e
  | n, x :: xs, ys, vs, us, e, d, r, t => by
    cases ys with
    | nil => unfold sameL at e; cases e
    | cons y ys =>
      unfold sameL at e
      unfold deepL at d
      rw [Bool.and_eq_true] at e d
      cases r with
      | cons r rr =>
        cases t with
        | cons t tt =>
          obtain ⟨hl, hx⟩ := sameL_eqs n xs ys _ _ e.2 d.2 rr tt
          refine ⟨congrArg Nat.succ hl, fun i p q hp hq => ?_⟩
          cases i with
          | zero =>
            cases Option.some.inj hp
            cases Option.some.inj hq
            exact same_eqs n x y _ _ e.1 d.1 r t
          | succ i => exact hx i p q hp hq
end
def fSame (n : Nat) (_ : List PV) : List PV → Option PV
  | [x, y] => if x.same y && x.deep n then some (.bl true) else none
  | _ => none
theorem xsame {n : Nat} (h : PE X e (tCall (spSame X.K (n + 1)) [] C8.E0 (tMA X.K C mes))) : PE X e (tM X.K C (mFn (fSame n) mes)) := PE.weak h fun σ H Q ⟨W0, W, ρ, S, z, S', eH, R, em, q⟩ => by
  subst eH
  obtain ⟨xs, e1, e3⟩ := mFn_inv em
  refine ⟨W0, W, ρ, S, xs, S', rfl, R, e1, fun vs W1 R1 g1 r1 => ?_⟩
  unfold fSame at e3
  split at e3
  · split at e3
    · rename_i hs
      cases e3
      rw [Bool.and_eq_true] at hs
      cases r1 with
      | cons r rr =>
        cases rr with
        | cons r' rr =>
          cases rr
          refine ⟨_, _, rfl, (same_eqs n _ _ _ _ hs.1 hs.2 r r').same R1.i.s, fun H' sm => ?_⟩
          have g : Gro W1 ⟨W1.F, H', W1.θ⟩ := ⟨Same.refl _, ⟨[], (List.append_nil _).symm, fun _ h => by cases h⟩, fun p o e _ => sm _ _ e, fun p o e => ⟨o, sm _ _ e⟩, fun p o e z => z⟩
          have i2 : Inv1 X.K C ⟨W1.F, H', W1.θ⟩ S' := by
            refine ⟨R1.i.s.trans sm, R1.i.len, R1.i.nd, fun k a x h1 h2 => ?_⟩
            obtain ⟨z, m⟩ := R1.i.m k a x h1 h2
            refine ⟨z, ?_⟩
            exact m.to (fun _ e => sm _ _ e) (fun r => r)
          exact q _ _ (R1.ext g i2) (g1.trans g) (.bl true)
    · cases e3
  · cases e3
end
/-- what the class of ways must have -/
structure WT (K : PySem.W.Frag) (C : Addr) : Prop where
  cl : Cls K C
  nS : NoAttr K C "_shift"
  nF : NoAttr K C "_floor"
  nC : NoAttr K C "_cap"
/-- more built-in names -/
structure Bt2 (mg : Str → Option Value) : Prop where
  sum : mg "sum" = none
  max : mg "max" = none
  min : mg "min" = none
  any : mg "any" = none
  sorted : mg "sorted" = none
  set : mg "set" = none
theorem getD_rel : ∀ {zs : List V} {ws : List Value} (r : Vals zs ws) (i : Nat), RelV (zs.getD i .non) (ws.getD i .none)
  | [], _, .nil, _ => rfl
  | _ :: _, _, .cons r rr, 0 => r
  | _ :: _, _, .cons r rr, i + 1 => getD_rel rr i
end BL

namespace BL
open PySem PySem.Spec PyProof.Rows L2
/-! the readings unfolded -/
section
variable {ρ : List SlV} {S : List PV} {ma mb mf : ME} {mt mu : MT} {ms mr : MS} {mes : MA} {mi : MI}
@[simp] theorem e_var (i : Nat) : mVar i ρ S = match ρ[i]? with | some (.val x) => some (x, S) | _ => none := rfl
@[simp] theorem e_c (x : PV) : mC x ρ S = some (x, S) := rfl
@[simp] theorem e_op (f : List PV → PV → PV → Option PV) : mOp f ma mb ρ S = match ma ρ S with | some (x, S1) => (match mb ρ S1 with | some (y, S2) => (match f S2 x y with | some z => some (z, S2) | none => none) | none => none) | none => none := rfl
@[simp] theorem e_un (f : List PV → PV → Option PV) : mUn f ma ρ S = match ma ρ S with | some (x, S1) => (match f S1 x with | some z => some (z, S1) | none => none) | none => none := rfl
@[simp] theorem e_nil : mNil ρ S = some ([], S) := rfl
@[simp] theorem e_cons : mCons ma mes ρ S = match ma ρ S with | some (x, S1) => (match mes ρ S1 with | some (xs, S2) => some (x :: xs, S2) | none => none) | none => none := rfl
@[simp] theorem e_fn (f : List PV → List PV → Option PV) : mFn f mes ρ S = match mes ρ S with | some (xs, S1) => (match f S1 xs with | some z => some (z, S1) | none => none) | none => none := rfl
@[simp] theorem e_tup : mTup mes ρ S = match mes ρ S with | some (xs, S1) => if xs.length ≤ 100000 then some (.tup xs, S1) else none | none => none := rfl
@[simp] theorem e_lst : mLst mes ρ S = match mes ρ S with | some (xs, S1) => if xs.length ≤ 100000 then some (.lst xs, S1) else none | none => none := rfl
@[simp] theorem e_newM : mNewM mes ρ S = match mes ρ S with | some (xs, S1) => if xs.length ≤ 100000 then some (.mref S1.length, S1 ++ [.lst xs]) else none | none => none := rfl
@[simp] theorem e_call (f : List PV → List PV → Option (PV × List PV)) : mCall f mes ρ S = match mes ρ S with | some (xs, S1) => f xs S1 | none => none := rfl
@[simp] theorem e_callK (f : List PV → List PV → Option (PV × List PV)) (is : List Nat) : mCallK f is mes ρ S = match mes ρ S with | some (xs, S1) => if xs.length = is.length then f (permP is xs) S1 else none | none => none := rfl
@[simp] theorem e_called (f : List PV → List PV → Option (PV × List PV)) : mCalled f mf mes ρ S = match mf ρ S with | some (.way s g c, S1) => (match mes ρ S1 with | some (xs, S2) => f (.way s g c :: xs) S2 | none => none) | _ => none := rfl
@[simp] theorem e_bin (f : List PV → List PV → Option (PV × List PV)) : mBin f ma mb ρ S = match ma ρ S with | some (.way s g c, S1) => (match mb ρ S1 with | some (.way s' g' c', S2) => f [.way s g c, .way s' g' c'] S2 | _ => none) | _ => none := rfl
@[simp] theorem e_binI (f : List PV → List PV → Option (PV × List PV)) : mBinI f ma mb ρ S = match ma ρ S with | some (.way s g c, S1) => (match mb ρ S1 with | some (.int i, S2) => f [.way s g c, .int i] S2 | _ => none) | _ => none := rfl
@[simp] theorem e_sel (sel : Option Int → Option Int → Option Int → Option Int) : mSel sel ma ρ S = match ma ρ S with | some (.way s f c, S1) => some (PO' (sel s f c), S1) | _ => none := rfl
@[simp] theorem e_isW : mIsW ma ρ S = match ma ρ S with | some (.way _ _ _, S1) => some (.bl true, S1) | _ => none := rfl
@[simp] theorem e_tru : mTru ma ρ S = match ma ρ S with | some (.bl b, S1) => some (b, S1) | _ => none := rfl
@[simp] theorem e_truL : mTruL ma ρ S = match ma ρ S with | some (x, S1) => (match truP x with | some b => some (b, S1) | none => none) | none => none := rfl
@[simp] theorem e_notT : mNotT mt ρ S = match mt ρ S with | some (b, S1) => some (!b, S1) | none => none := rfl
@[simp] theorem e_andT : mAndT mt mu ρ S = match mt ρ S with | some (true, S1) => mu ρ S1 | some (false, S1) => some (false, S1) | none => none := rfl
@[simp] theorem e_orT : mOrT mt mu ρ S = match mt ρ S with | some (true, S1) => some (true, S1) | some (false, S1) => mu ρ S1 | none => none := rfl
@[simp] theorem e_andV : mAndV ma mb ρ S = match ma ρ S with | some (.bl true, S1) => mb ρ S1 | some (.bl false, S1) => some (.bl false, S1) | _ => none := rfl
@[simp] theorem e_orV : mOrV ma mb ρ S = match ma ρ S with | some (.bl true, S1) => some (.bl true, S1) | some (.bl false, S1) => mb ρ S1 | _ => none := rfl
@[simp] theorem e_notV : mNotV ma ρ S = match ma ρ S with | some (.bl b, S1) => some (.bl (!b), S1) | _ => none := rfl
@[simp] theorem e_ifE : mIfE mt ma mb ρ S = match mt ρ S with | some (true, S1) => ma ρ S1 | some (false, S1) => mb ρ S1 | none => none := rfl
@[simp] theorem e_skip : mSkip ρ S = some (.nx ρ S) := rfl
def thenO (o : Option Ou) (mr : MS) : Option Ou := match o with | some (.nx ρ1 S1) => mr ρ1 S1 | o => o
@[simp] theorem then_nx (ρ1 : List SlV) (S1 : List PV) : thenO (some (.nx ρ1 S1)) mr = mr ρ1 S1 := rfl
@[simp] theorem then_rt (x : PV) (S1 : List PV) : thenO (some (.rt x S1)) mr = some (.rt x S1) := rfl
@[simp] theorem then_no : thenO none mr = none := rfl
@[simp] theorem then_bk (ρ1 : List SlV) (S1 : List PV) : thenO (some (.bk ρ1 S1)) mr = some (.bk ρ1 S1) := rfl
@[simp] theorem then_ct (ρ1 : List SlV) (S1 : List PV) : thenO (some (.ct ρ1 S1)) mr = some (.ct ρ1 S1) := rfl
@[simp] theorem e_seq : mSeq ms mr ρ S = thenO (ms ρ S) mr := rfl
@[simp] theorem e_frz (i : Nat) : mFrz i ms ρ S = match ρ[i]? with | some (.own x) => ms (ρ.set i (.val x)) S | _ => ms ρ S := rfl
@[simp] theorem e_ret : mRet ma ρ S = match ma ρ S with | some (x, S1) => some (.rt x S1) | none => none := rfl
@[simp] theorem e_retN : mRetN ρ S = some (.rt .non S) := rfl
@[simp] theorem e_drop : mDrop ma ρ S = match ma ρ S with | some (_, S1) => some (.nx ρ S1) | none => none := rfl
@[simp] theorem e_if : mIf mt ms mr ρ S = match mt ρ S with | some (true, S1) => ms ρ S1 | some (false, S1) => mr ρ S1 | none => none := rfl
@[simp] theorem e_asg (t : Tg) : mAsg t ma ρ S = match ma ρ S with | some (x, S1) => (match t.put x ρ with | some ρ1 => some (.nx ρ1 S1) | none => none) | none => none := rfl
@[simp] theorem e_par (i j : Nat) : mPar i j mes ρ S = match mes ρ S with | some ([x, y], S1) => if i < ρ.length ∧ j < ρ.length then some (.nx ((ρ.set i (.val x)).set j (.val y)) S1) else none | _ => none := rfl
@[simp] theorem e_newO (i : Nat) : mNewO i mes ρ S = match mes ρ S with | some (xs, S1) => if xs.length ≤ 100000 ∧ i < ρ.length then some (.nx (ρ.set i (.own (.lst xs))) S1) else none | none => none := rfl
@[simp] theorem e_app (i : Nat) : mApp i ma ρ S = match ma ρ S with | some (y, S1) => (match ρ[i]? with | some (.own (.lst xs)) => if xs.length ≤ 100000 then some (.nx (ρ.set i (.own (.lst (xs ++ [y])))) S1) else none | _ => none) | none => none := rfl
@[simp] theorem e_putM {mo mi : ME} : mPutM mo mi ma ρ S = match ma ρ S with
  | some (y, S1) => (match mo ρ S1 with
    | some (.mref n, S2) => (match mi ρ S2 with
      | some (.int k, S3) => (match S3[n]? with
        | some (.lst xs) => (match ixP xs.length k with
          | some j => some (.nx ρ (S3.set n (.lst (xs.set j y))))
          | none => none)
        | _ => none)
      | _ => none)
    | _ => none)
  | none => none := rfl
@[simp] theorem e_ixO (i : Nat) : mIxO i ma ρ S = match ma ρ S with
  | some (.int k, S1) => (match ρ[i]? with
    | some (.own (.lst xs)) => (match ixP xs.length k with
      | some j => (match xs[j]? with
        | some y => some (y, S1)
        | none => none)
      | none => none)
    | _ => none)
  | _ => none := rfl
@[simp] theorem e_lenO (i : Nat) : mLenO i ρ S = match ρ[i]? with | some (.own (.lst xs)) => some (.int xs.length, S) | _ => none := rfl
@[simp] theorem e_for (t : Tg) : mFor t mi ms ρ S = match mi ρ S with | some (xs, S1) => forL t ms xs ρ S1 | none => none := rfl
@[simp] theorem e_lc (t : Tg) (vs : List Nat) : mLc t mi mt ma vs ρ S = match mi ρ S with
  | some (xs, S1) => (match lcL t mt ma (wipM ρ vs) xs S1 with
    | some (ys, S2) => if ys.length ≤ 100000 then some (.lst ys, S2) else none
    | none => none)
  | none => none := rfl
@[simp] theorem e_yes : mYes ρ S = some (true, S) := rfl
@[simp] theorem e_seqI : mSeqI ma ρ S = match ma ρ S with | some (.lst xs, S1) => some (xs, S1) | some (.tup xs, S1) => some (xs, S1) | _ => none := rfl
@[simp] theorem e_rng1 : mRng1 ma ρ S = match ma ρ S with | some (.int j, S1) => if -(2 ^ 62) ≤ j ∧ j < 2 ^ 62 then some (rngP 0 j.toNat, S1) else none | _ => none := rfl
@[simp] theorem e_rng2 : mRng2 ma mb ρ S = match ma ρ S with
  | some (.int i, S1) => (match mb ρ S1 with
    | some (.int j, S2) => if -(2 ^ 62) ≤ i ∧ i < 2 ^ 62 ∧ -(2 ^ 62) ≤ j ∧ j < 2 ^ 62 then some (rngP i (j - i).toNat, S2) else none
    | _ => none)
  | _ => none := rfl
@[simp] theorem e_lrg1 : mLrg1 ma ρ S = match ma ρ S with | some (.int j, S1) => if okRg 0 j then some (.lst (rngP 0 (j - 0).toNat), S1) else none | _ => none := rfl
@[simp] theorem e_lrg2 : mLrg2 ma mb ρ S = match ma ρ S with
  | some (.int i, S1) => (match mb ρ S1 with
    | some (.int j, S2) => if okRg i j then some (.lst (rngP i (j - i).toNat), S2) else none
    | _ => none)
  | _ => none := rfl
@[simp] theorem e_enu : mEnu ma ρ S = match ma ρ S with | some (.lst xs, S1) => some (enuP 0 xs, S1) | _ => none := rfl
@[simp] theorem e_sl {ml mh : MO} : mSl ma ml mh ρ S = match ma ρ S with
  | some (x, S1) => (match ml ρ S1 with
    | some (l, S2) => (match mh ρ S2 with
      | some (h, S3) => (match fSl x l h with
        | some z => some (z, S3)
        | none => none)
      | none => none)
    | none => none)
  | none => none := rfl
@[simp] theorem e_p0 : mP0 ρ S = some (none, S) := rfl
@[simp] theorem e_p1 : mP1 ma ρ S = match ma ρ S with | some (.int i, S1) => some (some i, S1) | _ => none := rfl
@[simp] theorem e_isT (T : String) : mIsT T ma ρ S = match ma ρ S with
  | some (x, S1) => (match tyN x with
    | some t => (match kitB t T with
      | some b => some (.bl b, S1)
      | none => none)
    | none => none)
  | none => none := rfl
@[simp] theorem e_zip : mZip ma mb ρ S = match ma ρ S with
  | some (.lst xs, S1) => (match mb ρ S1 with
    | some (.lst ys, S2) => some (zipP xs ys, S2)
    | _ => none)
  | some (.tup xs, S1) => (match mb ρ S1 with
    | some (.tup ys, S2) => some (zipP xs ys, S2)
    | _ => none)
  | _ => none := rfl
@[simp] theorem e_put_nm (i : Nat) (x : PV) : (Tg.nm i).put x ρ = if i < ρ.length then some (ρ.set i (.val x)) else none := rfl
@[simp] theorem e_put_tp (is : List Nat) (xs : List PV) : (Tg.tp is).put (.tup xs) ρ = putAll is xs ρ := rfl
@[simp] theorem e_put_tpl (is : List Nat) (xs : List PV) : (Tg.tp is).put (.lst xs) ρ = putAll is xs ρ := rfl
@[simp] theorem e_pa0 : putAll [] [] ρ = some ρ := rfl
@[simp] theorem e_pa1 (i : Nat) (is : List Nat) (x : PV) (xs : List PV) : putAll (i :: is) (x :: xs) ρ = if i < ρ.length then putAll is xs (ρ.set i (.val x)) else none := rfl
def retO (o : Option Ou) : Option (PV × List PV) := match o with
  | some (.rt x S') => some (x, S')
  | some (.nx _ S') => some (.non, S')
  | _ => none
@[simp] theorem ret_rt (x : PV) (S1 : List PV) : retO (some (.rt x S1)) = some (x, S1) := rfl
@[simp] theorem ret_nx (ρ1 : List SlV) (S1 : List PV) : retO (some (.nx ρ1 S1)) = some (.non, S1) := rfl
theorem e_def {np nN : Nat} {m : MS} {xs : List PV} : mDef np nN m xs S = if xs.length = np then retO (m (xs.map .val ++ List.replicate (nN - np) .un) S) else none := rfl
@[simp] theorem f_addI (i j : Int) : fAdd S (.int i) (.int j) = some (.int (i + j)) := rfl
@[simp] theorem f_addL (a b : List PV) : fAdd S (.lst a) (.lst b) = if a.length + b.length ≤ 100000 then some (.lst (a ++ b)) else none := rfl
@[simp] theorem f_addT (a b : List PV) : fAdd S (.tup a) (.tup b) = if a.length + b.length ≤ 100000 then some (.tup (a ++ b)) else none := rfl
@[simp] theorem f_sub (i j : Int) : fSub S (.int i) (.int j) = some (.int (i - j)) := rfl
@[simp] theorem f_mul (i j : Int) : fMul S (.int i) (.int j) = if i.natAbs < 2 ^ 64 ∨ j.natAbs < 2 ^ 64 ∨ (i.natAbs < 2 ^ 4000 ∧ j.natAbs < 2 ^ 4000) then some (.int (i * j)) else none := rfl
@[simp] theorem f_div (i j : Int) : fDiv S (.int i) (.int j) = if 0 < j ∧ j.natAbs < 2 ^ 4000 then some (.int (i / j)) else none := rfl
@[simp] theorem f_mod (i j : Int) : fMod S (.int i) (.int j) = if 0 < j then some (.int (i % j)) else none := rfl
@[simp] theorem f_neg (i : Int) : fNeg S (.int i) = some (.int (-i)) := rfl
@[simp] theorem f_cmp (p : Int → Int → Bool) (i j : Int) : fCmp p S (.int i) (.int j) = some (.bl (p i j)) := rfl
@[simp] theorem f_is (x : PV) : fIs S x .non = some (.bl x.isNon) := rfl
@[simp] theorem f_not (x : PV) : fNot S x .non = some (.bl (!x.isNon)) := rfl
@[simp] theorem n_int (i : Int) : (PV.int i).isNon = false := rfl
@[simp] theorem n_non : PV.non.isNon = true := rfl
@[simp] theorem n_tup (xs : List PV) : (PV.tup xs).isNon = false := rfl
@[simp] theorem n_lst (xs : List PV) : (PV.lst xs).isNon = false := rfl
@[simp] theorem n_way (s f c : Option Int) : (PV.way s f c).isNon = false := rfl
@[simp] theorem f_eqI (i j : Int) : fEq S (.int i) (.int j) = some (.bl (decide (i = j))) := rfl
@[simp] theorem f_neI (i j : Int) : fNe S (.int i) (.int j) = some (.bl (!decide (i = j))) := rfl
@[simp] theorem p_non : PO' none = .non := rfl
@[simp] theorem p_int (i : Int) : PO' (some i) = .int i := rfl
@[simp] theorem f_lenL (xs : List PV) : fLen S [.lst xs] = some (.int xs.length) := rfl
@[simp] theorem f_lenT (xs : List PV) : fLen S [.tup xs] = some (.int xs.length) := rfl
@[simp] theorem f_abs (i : Int) : fAbs S [.int i] = some (.int (if i < 0 then -i else i)) := rfl
@[simp] theorem f_int (i : Int) : fInt S [.int i] = some (.int i) := rfl
@[simp] theorem f_intb (b : Bool) : fInt S [.bl b] = some (.int (if b then 1 else 0)) := rfl
@[simp] theorem f_tupL (xs : List PV) : fTuple S [.lst xs] = some (.tup xs) := rfl
@[simp] theorem f_lstT (xs : List PV) : fList S [.tup xs] = some (.lst xs) := rfl
@[simp] theorem f_lstL (xs : List PV) : fList S [.lst xs] = some (.lst xs) := rfl
@[simp] theorem f_max2 (i j : Int) : fMax2 S [.int i, .int j] = some (.int (if j > i then j else i)) := rfl
@[simp] theorem f_min2 (i j : Int) : fMin2 S [.int i, .int j] = some (.int (if j < i then j else i)) := rfl
end
theorem ix_at {S xs : List PV} {k : Nat} (h : k < xs.length) : fIx S (.tup xs) (.int (k : Int)) = xs[k]? ∧ fIx S (.lst xs) (.int (k : Int)) = xs[k]? := by
  have e : ixP xs.length (k : Int) = some k := by
    unfold ixP
    rw [if_pos (by omega), if_pos (by omega), Int.toNat_natCast]
  constructor
  · show (match ixP xs.length (k : Int) with | some j => xs[j]? | none => none) = _
    rw [e]
  · show (match ixP xs.length (k : Int) with | some j => xs[j]? | none => none) = _
    rw [e]
/-- the box of draws -/
def BoxAt (S : List PV) (n : Nat) (z : Int) : Prop := ∃ x y z', S[n]? = some (.lst [.int x, .int y, .int z']) ∧ 0 ≤ z' ∧ z' ≤ z
theorem BoxAt.le {S : List PV} {n : Nat} {z w : Int} (h : BoxAt S n z) (l : z ≤ w) : BoxAt S n w := by
  obtain ⟨x, y, z', e, a, b⟩ := h
  exact ⟨x, y, z', e, a, by omega⟩
end BL

namespace BL
open PySem PySem.Spec PyProof.Rows L2
/-! ### what written expressions of ways give -/
abbrev RW (C : Addr) (s f c : Option Int) : RT := fun H v => ∃ p, v = .ref p ∧ WayAt C H p s f c
theorem rw_mono {C : Addr} {s f c : Option Int} {H H' : Hp} {v : V} (e : Same H H') (h : RW C s f c H v) : RW C s f c H' v := by
  obtain ⟨p, rfl, w⟩ := h
  exact ⟨p, rfl, w.same e⟩
def dO : Option Int → PyData
  | none => .none
  | some i => .int i
def okB : Option Int → Option Int → Option Int → Bool
  | s, some a, some b => decide (a ≤ b) && (s.isSome || decide (a = b))
  | s, _, _ => s.isSome
theorem dp_cast {K : PySem.W.Frag} {H : Hp} {v : V} {d d' : PyData} (e : d = d') (h : Dp K H v d) : Dp K H v d' := e ▸ h
theorem made_same {C x dx : Addr} {H H' : Hp} (nx : H x = none) (ndx : H dx = none) (k : ∀ b o, (upd (upd H dx (.own x)) x (.ins C dx [])) b = some o → b ≠ x → H' b = some o) : Same H H' := fun p o e =>
  k p o (by rw [upd_ne (ne_of_none e nx), upd_ne (ne_of_none e ndx)]; exact e) (ne_of_none e nx)

section
variable {K : PySem.W.Frag} {C : Addr} {σ : L2.St} {H : Hp} {te ta tb : TE} {t : TA} {s f c lo hi : Option Int} {e : Int}
theorem okB_of (h : okB s f c = true) : okW s f c := by
  unfold okB at h
  unfold okW
  cases f with
  | none => cases s with
    | none => cases h
    | some z => exact fun z => by cases z
  | some a =>
    cases c with
    | none => cases s with
      | none => cases h
      | some z => exact fun z => by cases z
    | some b =>
      simp only [Bool.and_eq_true, decide_eq_true_eq, Bool.or_eq_true] at h
      refine ⟨h.1, fun z => ?_⟩
      subst z
      rcases h.2 with g | g
      · cases g
      · exact g
theorem dp_o {v : V} {o : Option Int} (h : Dp K H v (dO o)) : v = oV o := by
  cases o with
  | none => cases h; rfl
  | some i => cases h; rfl
theorem gv_way3 (g : GA K t σ H [dO s, dO f, dO c]) (ok : okB s f c = true) : GV (tMake C (spInitW C) [] C8.E0 t) σ H (RW C (nrm s f c) f c) := fun H1 s1 Q q => g H1 s1 _ fun vs H2 s2 r x dx nx ndx nex => by
  cases r with
  | cons r1 r =>
    cases r with
    | cons r2 r =>
      cases r with
      | cons r3 r =>
        cases r
        rw [dp_o r1, dp_o r2, dp_o r3]
        exact ⟨x, dx, s, f, c, rfl, upd_same, okB_of ok, fun H3 W k => ⟨rfl, q _ _ (s2.trans (made_same nx ndx k)) ⟨x, rfl, W⟩⟩⟩
theorem gv_way2 (g : GA K t σ H [dO s, dO f]) (ok : okB s f none = true) : GV (tMake C (spInitW C) [.non] C8.E0 t) σ H (RW C (nrm s f none) f none) := fun H1 s1 Q q => g H1 s1 _ fun vs H2 s2 r x dx nx ndx nex => by
  cases r with
  | cons r1 r =>
    cases r with
    | cons r2 r =>
      cases r
      rw [dp_o r1, dp_o r2]
      exact ⟨x, dx, s, f, none, rfl, upd_same, okB_of ok, fun H3 W k => ⟨rfl, q _ _ (s2.trans (made_same nx ndx k)) ⟨x, rfl, W⟩⟩⟩
theorem gv_way1 (g : GA K t σ H [dO s]) (ok : okB s none none = true) : GV (tMake C (spInitW C) [.non, .non] C8.E0 t) σ H (RW C (nrm s none none) none none) := fun H1 s1 Q q => g H1 s1 _ fun vs H2 s2 r x dx nx ndx nex => by
  cases r with
  | cons r1 r =>
    cases r
    rw [dp_o r1]
    exact ⟨x, dx, s, none, none, rfl, upd_same, okB_of ok, fun H3 W k => ⟨rfl, q _ _ (s2.trans (made_same nx ndx k)) ⟨x, rfl, W⟩⟩⟩

theorem okw_wf {s f c : Option Int} (h : okB s f c = true) : wfW (nrm s f c) f c := nrm_wf (okB_of h)
/-- a check that such parts are a way's -/
def wfB : Option Int → Option Int → Option Int → Bool
  | none, some a, some b => decide (a = b)
  | none, _, _ => false
  | some _, some a, some b => decide (a < b)
  | some _, _, _ => true
theorem wfB_of {s f c : Option Int} (h : wfB s f c = true) : wfW s f c := by
  cases s with
  | none =>
    cases f with
    | none => cases h
    | some a =>
      cases c with
      | none => cases h
      | some b =>
        have e : a = b := of_decide_eq_true h
        subst e
        exact ⟨fun x y p q => (by cases p; cases q; exact Int.le_refl _), fun _ => ⟨a, rfl, rfl⟩, fun _ _ _ => rfl⟩
  | some z =>
    cases f with
    | none => exact ⟨fun x y p => (by cases p), fun p => (by cases p), fun x p => (by cases p)⟩
    | some a =>
      cases c with
      | none => exact ⟨fun x y _ p => (by cases p), fun p => (by cases p), fun x _ p => (by cases p)⟩
      | some b =>
        have e : a < b := of_decide_eq_true h
        exact ⟨fun x y p q => (by cases p; cases q; omega), fun p => (by cases p), fun x p q => (by cases p; cases q; omega)⟩
def smB : Option Int → Bool
  | none => true
  | some a => decide (-(2 ^ 64) < a) && decide (a < 2 ^ 64)
def lgB : Option Int → Bool
  | none => true
  | some a => decide (a.natAbs.log2 < 1920)
theorem gv_cast {s f c s' f' c' : Option Int} (g : GV te σ H (RW C s f c)) (e : (s, f, c) = (s', f', c')) : GV te σ H (RW C s' f' c') := by
  cases e
  exact g
theorem gv_rsh {s1 f1 c1 s2 f2 c2 : Option Int} (g : GV ta σ H (RW C s1 f1 c1)) (h : GV tb σ H (RW C s2 f2 c2)) (w1 : wfB s1 f1 c1 = true) (w2 : wfB s2 f2 c2 = true) : GV (tOp (rBin C (spRsh C)) ta tb) σ H (RW C (nrm (rsS s1 s2) (rsB s2 f2 c2 f1 f2) (rsB s2 f2 c2 c1 c2)) (rsB s2 f2 c2 f1 f2) (rsB s2 f2 c2 c1 c2)) :=
  fun H1 s1' Q q => g H1 s1' _ fun v H2 s2' r => h H2 (s1'.trans s2') _ fun u H3 s3' d => by
    obtain ⟨p, rfl, w⟩ := rw_mono s3' r
    obtain ⟨p2, rfl, w'⟩ := d
    obtain ⟨d1, h1⟩ := id w
    obtain ⟨d2, h2⟩ := id w'
    exact ⟨p, p2, d1, d2, _, _, rfl, rfl, h1, h2, p, p2, _, _, _, _, _, _, rfl, w, w', wfB_of w1, wfB_of w2, fun r H4 s4 z => q _ _ ((s2'.trans s3').trans s4) ⟨r, rfl, z⟩⟩
theorem gv_times {s f c : Option Int} {i : Int} (n : Nat) (g : GV ta σ H (RW C s f c)) (h : GV tb σ H (RD K (.int i))) (e : i = (n : Int)) (w1 : wfB s f c = true) (sm : smB s = true) : GV (tOp (rBinI C (spMul C)) ta tb) σ H (RW C (mul s f c n).1 (mul s f c n).2.1 (mul s f c n).2.2) :=
  fun H1 s1' Q q => g H1 s1' _ fun v H2 s2' r => h H2 (s1'.trans s2') _ fun u H3 s3' d => by
    obtain ⟨p, rfl, w⟩ := rw_mono s3' r
    cases d
    obtain ⟨d1, h1⟩ := id w
    refine ⟨p, _, d1, _, rfl, rfl, h1, p, _, _, _, n, by rw [e], w, wfB_of w1, fun a ha => ?_, fun r H4 s4 z => q _ _ ((s2'.trans s3').trans s4) ⟨r, rfl, z⟩⟩
    subst ha
    unfold smB at sm
    rw [Bool.and_eq_true, decide_eq_true_eq, decide_eq_true_eq] at sm
    exact sm
theorem gv_sel {s f c : Option Int} (sel : Option Int → Option Int → Option Int → Option Int) (g : GV te σ H (RW C s f c)) : GV (tWF C sel te) σ H (RD K (dO (sel s f c))) := fun H1 s1 Q q => g H1 s1 _ fun v H2 s2 r => by
  obtain ⟨p, rfl, w⟩ := r
  refine ⟨p, s, f, c, rfl, w, q _ _ s2 ?_⟩
  cases sel s f c with
  | none => exact .non
  | some i => exact .int i
theorem gv_eqw {s1 f1 c1 s2 f2 c2 : Option Int} (g : GV ta σ H (RW C s1 f1 c1)) (h : GV tb σ H (RW C s2 f2 c2)) : GV (tOp (rBin C (spEqW C)) ta tb) σ H (RD K (.bool (weq s1 f1 c1 s2 f2 c2))) :=
  fun H1 s1' Q q => g H1 s1' _ fun v H2 s2' r => h H2 (s1'.trans s2') _ fun u H3 s3' d => by
    obtain ⟨p, rfl, w⟩ := rw_mono s3' r
    obtain ⟨p2, rfl, w'⟩ := d
    obtain ⟨d1, h1⟩ := id w
    obtain ⟨d2, h2⟩ := id w'
    exact ⟨p, p2, d1, d2, _, _, rfl, rfl, h1, h2, p, p2, _, _, _, _, _, _, rfl, w, w', q _ _ (s2'.trans s3') (.bl _)⟩
def txt (s f c : Option Int) : Str := (((((Str.empty ++ bt s) ++ (" " : Str)) ++ bt f) ++ (" " : Str)) ++ bt c)
theorem gv_text {s f c : Option Int} (g : GV te σ H (RW C s f c)) (l : (lgB s && (lgB f && lgB c)) = true) : GV (tProp C (spText C) [] C8.E0 te) σ H (RD K (.str (txt s f c))) := fun H1 s1 Q q => g H1 s1 _ fun v H2 s2 r => by
  obtain ⟨p, rfl, w⟩ := r
  obtain ⟨d1, h1⟩ := id w
  rw [Bool.and_eq_true, Bool.and_eq_true] at l
  refine ⟨p, d1, _, rfl, h1, p, s, f, c, rfl, w, fun i hi => ?_, q _ _ s2 (.str _)⟩
  rcases hi with rfl | rfl | rfl
  · exact of_decide_eq_true l.1
  · exact of_decide_eq_true l.2.1
  · exact of_decide_eq_true l.2.2
theorem gv_cats {x y : Str} (g : GV ta σ H (RD K (.str x))) (h : GV tb σ H (RD K (.str y))) (l : x.length + y.length ≤ sizeLine) : GV (tOp (fun x y H Q => ∃ i j, x = .str i ∧ y = .str j ∧ i.length + j.length ≤ sizeLine ∧ Q (.str (i ++ j)) H) ta tb) σ H (RD K (.str (x ++ y))) :=
  fun H1 s1' Q q => g H1 s1' _ fun v H2 s2' r => h H2 (s1'.trans s2') _ fun u H3 s3' d => by
    cases r
    cases d
    exact ⟨_, _, rfl, rfl, l, q _ _ (s2'.trans s3') (.str _)⟩
def rMulS : R2 := fun x y H Q => ∃ a i, x = .str a ∧ y = .int i ∧ MulOk a i ∧ Q (.str (Txt.mul a i)) H
theorem op_mulS {X : Cx} : OpR X (binaryOp .Mult) rMulS := by
  intro pins s σ H x y v u Q I rx ry h
  obtain ⟨a, i, rfl, rfl, hk, q⟩ := h
  obtain ⟨t, rfl⟩ := rx
  obtain ⟨t', rfl⟩ := ry
  exact SB.mul hk fun t' tk => ⟨.str _, H, I.tok _, ⟨_, rfl⟩, q⟩
theorem gv_muls {x : Str} {i : Int} (g : GV ta σ H (RD K (.str x))) (h : GV tb σ H (RD K (.int i))) (l : MulOk x i) : GV (tOp rMulS ta tb) σ H (RD K (.str (Txt.mul x i))) :=
  fun H1 s1' Q q => g H1 s1' _ fun v H2 s2' r => h H2 (s1'.trans s2') _ fun u H3 s3' d => by
    cases r
    cases d
    exact ⟨_, _, rfl, rfl, l, q _ _ (s2'.trans s3') (.str _)⟩
end
end BL

namespace L2
open PySem PySem.Spec PyProof.Rows
theorem Room.units1 {k : Nat} {A : Around} (r : Room k A) : A.units + 65 < cLine := by have := r.un; omega
end L2
namespace BL
open PySem PySem.Spec PyProof.Rows L2
open C8 (Cal Mak pe_c pe_mk)
/-! more operators by trees -/
section
variable {X : Cx} {C : Addr} {e a b tg : Expr} {es : List Expr} {st : Stmt} {pos : Pos} {m ma mb me mf : ME} {mt : MT} {ms mr : MS} {mes : MA} {mi : MI}
theorem CallR.or' {X : Cx} {f : Value} {r r' : List V → Hp → VK → Prop} (h : CallR X f r) (h' : CallR X f r') : CallR X f (fun xs H Q => r xs H Q ∨ r' xs H Q) := BL.CallR.or h h'
theorem rep_flat {K : PySem.W.Frag} {F : Hp} {θ : List Addr} {vs : List V} {xs : List PV} (r : RepAll K C F θ vs xs) : ∀ n : Nat, RepAll K C F θ (List.replicate n vs).flatten (List.replicate n xs).flatten
  | 0 => .nil
  | n + 1 => by
    rw [List.replicate_succ, List.replicate_succ, List.flatten_cons, List.flatten_cons]
    exact r.app (rep_flat r n)
theorem flat_len {α : Type} (xs : List α) : ∀ n : Nat, (List.replicate n xs).flatten.length = n * xs.length
  | 0 => by simp
  | n + 1 => by rw [List.replicate_succ, List.flatten_cons, List.length_append, flat_len xs n, Nat.succ_mul, Nat.add_comm]
/-- times: numbers, lists, texts -/
def fMulQ (S : List PV) : PV → PV → Option PV
  | .lst xs, .int k => if -(2 ^ 63) ≤ k ∧ k < 2 ^ 63 ∧ xs.length * k.toNat ≤ 100000 then some (.lst (List.replicate k.toNat xs).flatten) else none
  | .str x, .int k => if decide (x.length ≤ 100) && decide (0 ≤ k) && decide (k ≤ 1000) then some (.str (Txt.mul x k)) else none
  | x, y => fMul S x y
abbrev rMulQ : R2 := fun x y H Q => (rMulP x y H Q ∨ rRep x y H Q) ∨ rMulS x y H Q
theorem op_mulQ {X : Cx} : OpR X (binaryOp .Mult) rMulQ := BL.OpR.or (BL.OpR.or op_mulP op_rep) op_mulS
theorem mulOk_small {x : Str} {k : Int} (h1 : x.length ≤ 100) (h2 : 0 ≤ k) (h3 : k ≤ 1000) : MulOk x k := by
  refine ⟨by simp; omega, fun p _ => ?_, fun p _ => ?_⟩
  · have : (9223372036854775807 : Int) / 1000 ≤ (2 ^ 63 - 1) / k := by
      have e : ((2 : Int) ^ 63 - 1) = 9223372036854775807 := by decide
      rw [e]
      refine (Int.le_ediv_iff_mul_le (by omega)).mpr ?_
      have : (9223372036854775807 : Int) / 1000 = 9223372036854775 := by decide
      rw [this]
      omega
    have e2 : (9223372036854775807 : Int) / 1000 = 9223372036854775 := by decide
    omega
  · have : x.length * k.toNat ≤ 100 * 1000 := Nat.mul_le_mul h1 (by omega)
    unfold PySem.Builtin.Str.tooLong
    simp
    have := lim
    omega
theorem l_mulQ {K : PySem.W.Frag} : LR2 K C rMulQ fMulQ := fun W S v u x y z Q i rx ry e q => by
  unfold fMulQ at e
  split at e
  · rename_i xs k
    split at e
    · rename_i h
      cases e
      cases rx with
      | lst hF ra =>
      cases ry
      refine .inl (.inr ⟨_, k, _, rfl, rfl, i.s _ _ hF, h.1, h.2.1, by rw [ra.len]; exact Nat.le_trans h.2.2 lim, fun p np => ?_⟩)
      obtain ⟨g, i2⟩ := laid (.lst (List.replicate k.toNat _).flatten) i np
      exact q _ _ g i2 (.lst upd_same ((rep_flat ra _).ext g))
    · cases e
  · rename_i t k
    split at e
    · rename_i h
      cases e
      cases rx
      cases ry
      simp only [Bool.and_eq_true, decide_eq_true_eq] at h
      exact .inr ⟨t, k, rfl, rfl, mulOk_small h.1.1 h.1.2 h.2, q _ W (Gro.refl _) i (.str _)⟩
    · cases e
  · exact .inl (.inl (l_mul W S v u x y z Q i rx ry e q))
/-- int(..) of a number, a bool, a text -/
def fIntQ (S : List PV) : List PV → Option PV
  | [.str a] => if a.length ≤ 640 then (match PySem.intText? a with
    | some n => some (.int n)
    | none => none) else none
  | xs => fInt S xs
theorem call_intQ {X : Cx} : CallR X (.type "int") (fun xs H Q => ((∃ i, xs = [.int i] ∧ Q (.int i) H) ∨ ∃ k, xs = [.bl k] ∧ Q (.int (if k then 1 else 0)) H) ∨ (∃ a n, xs = [.str a] ∧ PySem.intText? a = some n ∧ a.length ≤ 640 ∧ Q (.int n) H)) := BL.CallR.or call_int1 call_int_str
theorem l_intQ {K : PySem.W.Frag} : LRn K C (fun xs H Q => ((∃ i, xs = [.int i] ∧ Q (.int i) H) ∨ ∃ k, xs = [.bl k] ∧ Q (.int (if k then 1 else 0)) H) ∨ (∃ a n, xs = [.str a] ∧ PySem.intText? a = some n ∧ a.length ≤ 640 ∧ Q (.int n) H)) fIntQ := fun W S vs xs z Q i r e q => by
  unfold fIntQ at e
  split at e
  · rename_i a
    split at e
    · rename_i hl
      split at e
      · rename_i n hn
        cases e
        cases r with
        | cons r rr =>
          cases rr
          cases r
          exact .inr ⟨_, _, rfl, hn, hl, q _ W (Gro.refl _) i (.int _)⟩
      · cases e
    · cases e
  · exact .inl (l_int W S vs xs z Q i r e q)
/-- x in xs by what is equal, at any depth -/
def fInD (neg : Bool) (_ : List PV) (x y : PV) : Option PV := match x.toD, (match y with | .lst ys => PV.toD.toDs ys | _ => none) with
  | some d, some ds => if SeqAt.shaped d && SeqAt.shaped (.list ds) then some (.bl (if neg then !(ds.any fun z => PyData.eqv z d) else ds.any fun z => PyData.eqv z d)) else none
  | _, _ => none
theorem l_inD {K : PySem.W.Frag} : LR2 K C (rInD K) (fInD false) := fun W S v u x y z Q i rx ry e q => by
  unfold fInD at e
  split at e
  · rename_i d ds h1 h2
    split at e
    · rename_i h
      cases e
      rw [Bool.and_eq_true] at h
      cases ry with
      | lst hF ra => exact ⟨d, ds, Dp.monoS i.s (rx.dp h1), Dp.monoS i.s (.lst (SqL.of hF) (RepAll.dp ra h2)), h.1, h.2, q _ W (Gro.refl _) i (.bl _)⟩
      | _ => cases h2
    · cases e
  · cases e
theorem l_notInD {K : PySem.W.Frag} : LR2 K C (rNotInD K) (fInD true) := fun W S v u x y z Q i rx ry e q => by
  unfold fInD at e
  split at e
  · rename_i d ds h1 h2
    split at e
    · rename_i h
      cases e
      rw [Bool.and_eq_true] at h
      cases ry with
      | lst hF ra => exact ⟨d, ds, Dp.monoS i.s (rx.dp h1), Dp.monoS i.s (.lst (SqL.of hF) (RepAll.dp ra h2)), h.1, h.2, q _ W (Gro.refl _) i (.bl _)⟩
      | _ => cases h2
    · cases e
  · cases e
end
section
variable {ρ : List SlV} {S : List PV}
@[simp] theorem fq_mulI (i j : Int) : fMulQ S (.int i) (.int j) = if i.natAbs < 2 ^ 64 ∨ j.natAbs < 2 ^ 64 ∨ (i.natAbs < 2 ^ 4000 ∧ j.natAbs < 2 ^ 4000) then some (.int (i * j)) else none := rfl
@[simp] theorem fq_mulL (xs : List PV) (k : Int) : fMulQ S (.lst xs) (.int k) = if -(2 ^ 63) ≤ k ∧ k < 2 ^ 63 ∧ xs.length * k.toNat ≤ 100000 then some (.lst (List.replicate k.toNat xs).flatten) else none := rfl
@[simp] theorem fq_intI (i : Int) : fIntQ S [.int i] = some (.int i) := rfl
@[simp] theorem fq_intb (b : Bool) : fIntQ S [.bl b] = some (.int (if b then 1 else 0)) := rfl
end
end BL

namespace L2
open PySem PySem.Spec PyProof.Rows
/-! a set of the numbers of a list, in order -/
section
variable {P : Program} {w : World} {A : Around} {E : Value → Shared → Prop} {s : Shared}
/-- a set as it is born -/
abbrev born (w : World) : Obj := ⟨.type "set", none, .set #[] 0 (.fresh 0 0 (!w.params.followText "set-order")), #[]⟩
/-- the heap with it -/
abbrev bornH (w : World) (s : Shared) : Heap := s.heap.push (born w)
abbrev Filled (w : World) (s : Shared) (ns : List Int) (s₂ : Shared) : Prop := ∃ g tk c, s₂ = { s with heap := g, toks := tk } ∧ SetR w g s.heap.objs.size (fun j => decide (j ∈ ns)) c ∧ c ≤ ns.length ∧ ∀ b o, s.heap.get? b = some o → g.get? b = some o
set_option maxHeartbeats 8000000 in
theorem set_of_ints {l : Addr} {vs : Array Value} (ns : List Int) {Q : Value → Shared → Prop} (calm : A.handled = none) (hl : s.heap.IsList l vs) (hi : IntsAre vs.toList ns) (room : ns.length + 1 < scanBound)
    (k : ∀ s₂, Filled w s ns s₂ → Q (.ref s.heap.objs.size) s₂) : wpAny (model P w) A (call (.type "set") [.ref l]) Q E s := by
  have len : vs.size = ns.length := by have q := IntsAre.length hi; rwa [Array.length_toList] at q
  obtain ⟨mc, mt, mro⟩ := F.called_set.mro
  have a1 := F.called_set.made
  have a2 := F.called_set.sub
  refine wpAny_call (codeAny_of_tree ?_)
  show wpAny _ _ (callAny (.type "set") _) _ _ _
  refine wpAny_pure ⟨Code.quiet_builtin _ (by decide +kernel), codeAny_builtin F.entry_type_call ?_⟩
  rw [Around.under_plain (weight_type_call_type "set" [.ref l] []) rfl]
  have a3 := F.called_set.notType
  have a4 := F.called_set.canCreate
  have a5 := F.typeCall_set_1 (.ref l)
  repeat (any_goals (first | assumption | wp_step))
  refine codeAny_mono (code_set_led1 (.ref l) (E := E) (Q₁ := fun x t => x = .ref s.heap.objs.size ∧ t = { s with heap := bornH w s }) ⟨rfl, rfl⟩) fun r t hr => ?_
  cases r with
  | error e => exact hr
  | ok fl =>
    cases fl with
    | ret x =>
      obtain ⟨rfl, rfl⟩ := hr
      have at0 : (bornH w s).get? s.heap.objs.size = some (born w) := Heap.get?_push_size _ rfl
      have ty0 : Shared.TypeIs { s with heap := bornH w s } (.ref s.heap.objs.size) "set" := ⟨_, at0, rfl⟩
      have b1 := F.called_set.init.lookup
      have b2 := F.called_set.init.bind (.ref s.heap.objs.size)
      repeat (any_goals (first | assumption | wp_step))
      refine codeAny_mono (codeAny_call_builtin (R := wants (fun r t => r = .none ∧ Filled w s ns t) E) F.called_set.init.plain F.entry_set_init (check_set_init_1 ty0 ?_)) fun r t hr => ?_
      · obtain ⟨⟨lc, ld, lx, ls⟩, hol, hcl, nl, hdl⟩ := hl
        simp only at hcl hdl
        subst hcl
        subst hdl
        have at1 : (bornH w s).get? l = some { cls := .type "list", dict := ld, data := .seq vs nl, slots := ls } := Heap.get?_push_of_some _ hol
        have c1 := F.sub_list_set
        have c2 := F.sub_list_frozenset
        have c3 : (Value.type "list" == Value.type "dict") = false := by decide
        have isl : (bornH w s).IsList l vs := ⟨_, at1, rfl, nl, rfl⟩
        unfold Builtin.«set.__init__» noKeywords Builtin.Frozenset.updateFrom
        generalize hPI : pyIter = PI
        wp_walk
        subst hPI
        refine wpAny_pyIter_list isl ?_
        refine wpAny_bind (wpAny_runValue ?_)
        have lt : l < s.heap.objs.size := Heap.lt_size hol
        have cal : A.in1.in1.in1.handled = none := by simp [calm]
        have sz : (bornH w s).objs.size = s.heap.objs.size + 1 := Heap.size_push ..
        have ne1 : l ≠ (bornH w s).objs.size := by rw [sz]; exact Nat.ne_of_lt (Nat.lt_succ_of_lt lt)
        have out : s.heap.objs.size ∉ [(bornH w s).objs.size, l] := by
          rw [sz]
          intro m
          rcases List.mem_cons.mp m with m | m
          · exact absurd m (Nat.ne_of_lt (Nat.lt_succ_self _))
          · exact absurd (List.mem_singleton.mp m) (Nat.ne_of_gt lt)
        have each : ∀ (i : Nat) (v : Value), vs[i]? = some v → ∃ j t, ns[i]? = some j ∧ v = .int j t := fun i v hv => by
          have il : i < ns.length := by rw [← len]; exact (Array.getElem?_eq_some_iff.mp hv).1
          obtain ⟨t, e⟩ := PyProof.Rows.IntsAre.int_at hi i v (by rw [Array.getElem?_toList]; exact hv)
          refine ⟨ns[i], t, List.getElem?_eq_getElem il, ?_⟩
          rw [e, List.getD_eq_getElem?_getD, List.getElem?_eq_getElem il]
          rfl
        refine set_update_ints ((Walks.list cal _ l ne1 vs).toS) s.heap.objs.size out ns len room each (vs.size - 0) 0 _ (by omega) (Nat.zero_le _) ⟨⟨_, Heap.get?_push_size _ rfl, rfl, rfl⟩, isl.push _⟩ ?start ?fin
        case start => exact ⟨0, Nat.le_refl 0, setR_new_at (Heap.get?_push_of_some _ at0)⟩
        case fin =>
          intro t' c' mv hc hS
          obtain ⟨g, tg, td, tt, to⟩ := t'
          have e1 : tg = s.gens := mv.gens
          have e2 : td = s.drawn := mv.drawn
          have e3 : to = s.os := mv.os
          subst e1
          subst e2
          subst e3
          show wpAny _ _ _ _ _ _
          refine wpAny_pure ?_
          show wpAny _ _ (ret Value.none) _ _ _
          rw [len] at hc
          refine wpAny_pure ⟨rfl, g, tt, c', rfl, hS, hc, fun b o e => ?_⟩
          have lb : b < s.heap.objs.size := Heap.lt_size e
          refine mv.heap b o (fun m => ?_) (Heap.get?_push_of_some _ (Heap.get?_push_of_some _ e))
          rcases List.mem_cons.mp m with m | m
          · exact absurd m (Nat.ne_of_lt lb)
          · exact absurd ((List.mem_singleton.mp m).trans sz) (Nat.ne_of_lt (Nat.lt_succ_of_lt lb))
      · cases r with
        | error e => exact hr
        | ok f2 =>
          cases f2 with
          | ret y =>
            obtain ⟨rfl, g, tk, c, rfl, q1, q2, q3⟩ := hr
            repeat (any_goals (first | assumption | wp_step))
            exact k _ ⟨g, tk, c, rfl, q1, q2, q3⟩
          | _ => exact hr.elim
    | _ => exact hr.elim
end
section
variable {X : Cx}
def rSetLi (K : PySem.W.Frag) (w : World) : List V → Hp → VK → Prop := fun xs H Q => ∃ (a : Addr) (ns : List Int), xs = [.ref a] ∧ SqL K H a (ns.map V.int) ∧ ns.length ≤ 1000 ∧ ∀ p c, H p = none → c ≤ ns.length → Q (.ref p) (upd H p (SetO w p (fun j => decide (j ∈ ns)) c))
theorem cr_setL (hc : X.calm = true) : CallR X (.type "set") (rSetLi X.K X.w) := by
  intro pins s σ H xs us Q I r h
  obtain ⟨a, ns, rfl, hq, hl, q⟩ := h
  rw [Vals.ref1 r]
  obtain ⟨its, rv, pl, _⟩ := I.list hq
  refine set_of_ints ns (I.ok.hd hc) pl.isList (by simpa using ints_of_vals rv) (by unfold scanBound; omega) fun t ht => ?_
  obtain ⟨g, tk, c, rfl, q1, q2, q3⟩ := ht
  exact ⟨.ref s.heap.objs.size, upd H s.heap.objs.size (SetO X.w s.heap.objs.size (fun j => decide (j ∈ ns)) c), I.laid (t' := tk) q3 (Nat.le_refl _) (setO_new q1), rfl, q _ c (I.hok.fresh (Nat.le_refl _)) q2⟩
end
end L2

namespace BL
open PySem PySem.Spec PyProof.Rows L2
open C8 (Cal Mak pe_c pe_mk)
section
variable {X : Cx} {C : Addr} {e a b tg : Expr} {es : List Expr} {st : Stmt} {pos : Pos} {m ma mb mc me mf : ME} {mt : MT} {ms mr : MS} {mes : MA} {mi : MI}
/-! isinstance with two classes -/
def kit2 (t a b : String) : Option Bool := match kitB t a with
  | some true => some true
  | some false => (match kitB t b with
    | some true => some true
    | some false => some false
    | none => none)
  | none => none
def mIsT2 (T U : String) (ma : ME) : ME := fun ρ S => match ma ρ S with
  | some (x, S1) => match tyN x with
    | some t => match kit2 t T U with
      | some b => some (.bl b, S1)
      | none => none
    | none => none
  | none => none
theorem tyx_of {K : PySem.W.Frag} {W : Wd} {S : List PV} {v : V} {x : PV} {t : String} (i : Inv1 K C W S) (r : RepW K C W v x) (e : tyN x = some t) : TyX K W.H v (.type t) := by
  cases r with
  | non => cases e; exact .base .non
  | bl b => cases e; exact .base (.bl b)
  | int b => cases e; exact .base (.int b)
  | str b => cases e; exact .base (.str b)
  | lst h a => cases e; exact ty_l (SqL.of (i.s _ _ h))
  | tup h a => cases e; exact ty_t (i.s.seT h)
  | way h => cases e
  | mref h => cases e
  | exc _ _ _ _ _ _ => cases e
  | exn _ _ _ => cases e
theorem xisT2 {T U : String} (h : PE X e (tCB (rIsiT X.K) (tCons (tM X.K C ma) (tCons (tTup (tCons (tC (.ty T)) (tCons (tC (.ty U)) tNil))) tNil)))) : PE X e (tM X.K C (mIsT2 T U ma)) := PE.weak h fun σ H Q ⟨W0, W, ρ, S, z, S', eH, R, em, q⟩ => by
  subst eH
  unfold mIsT2 at em
  split at em
  · rename_i x S1 e1
    split at em
    · rename_i t e2
      split at em
      · rename_i b' e3
        cases em
        refine ⟨W0, W, ρ, S, x, S', rfl, R, e1, fun v W1 R1 g1 r1 => ?_⟩
        refine ⟨(by show 2 ≤ sizeLine; decide), fun p np => ?_⟩
        obtain ⟨g2, i2⟩ := laid (.tup [.ty T, .ty U]) R1.i np
        exact ⟨v, p, _, _, _, b', rfl, upd_same, .cons (.ty _) (.cons (.ty _) .nil), tyx_of i2 (r1.ext g2) e2, any_of e3, q _ _ (R1.ext g2 i2) (g1.trans g2) (.bl _)⟩
      · cases em
    · cases em
  · cases em
/-! numbers in order -/
def insI (x : Int) : List Int → List Int
  | [] => [x]
  | y :: ys => if x < y then x :: y :: ys else if x = y then y :: ys else y :: insI x ys
def srtI : List Int → List Int
  | [] => []
  | x :: xs => insI x (srtI xs)
theorem insI_mem (x : Int) : ∀ (ys : List Int) (z : Int), z ∈ insI x ys ↔ z = x ∨ z ∈ ys
  | [], z => by simp [insI]
  | y :: ys, z => by
    unfold insI
    split
    · simp
    · split
      · rename_i h; subst h; simp
      · simp [insI_mem x ys z]
        constructor
        · rintro (h | h | h) <;> simp [h]
        · rintro (h | h | h) <;> simp [h]
theorem srtI_mem : ∀ (xs : List Int) (z : Int), z ∈ srtI xs ↔ z ∈ xs
  | [], z => by simp [srtI]
  | x :: xs, z => by simp [srtI, insI_mem, srtI_mem xs z]
theorem insI_asc (x : Int) : ∀ (ys : List Int), ys.Pairwise (· < ·) → (insI x ys).Pairwise (· < ·)
  | [], _ => by simp [insI]
  | y :: ys, h => by
    obtain ⟨h1, h2⟩ := List.pairwise_cons.mp h
    unfold insI
    split
    · rename_i c
      refine List.pairwise_cons.mpr ⟨fun z hz => ?_, h⟩
      rcases List.mem_cons.mp hz with e | hz
      · omega
      · have := h1 z hz; omega
    · split
      · exact h
      · refine List.pairwise_cons.mpr ⟨fun z hz => ?_, insI_asc x ys h2⟩
        rcases (insI_mem x ys z).mp hz with e | hz
        · omega
        · exact h1 z hz
theorem srtI_asc : ∀ (xs : List Int), (srtI xs).Pairwise (· < ·)
  | [] => .nil
  | x :: xs => insI_asc x _ (srtI_asc xs)
theorem asc_eq : ∀ {xs ys : List Int}, xs.Pairwise (· < ·) → ys.Pairwise (· < ·) → (∀ z, z ∈ xs ↔ z ∈ ys) → xs = ys
  | [], [], _, _, _ => rfl
  | [], y :: ys, _, _, h => absurd ((h y).mpr List.mem_cons_self) (by simp)
  | x :: xs, [], _, _, h => absurd ((h x).mp List.mem_cons_self) (by simp)
  | x :: xs, y :: ys, h1, h2, h => by
    obtain ⟨a1, a2⟩ := List.pairwise_cons.mp h1
    obtain ⟨b1, b2⟩ := List.pairwise_cons.mp h2
    have e : x = y := by
      rcases List.mem_cons.mp ((h x).mp List.mem_cons_self) with e | e
      · exact e
      · rcases List.mem_cons.mp ((h y).mpr List.mem_cons_self) with f | f
        · exact f.symm
        · have := b1 x e; have := a1 y f; omega
    subst e
    congr 1
    refine asc_eq a2 b2 fun z => ⟨fun hz => ?_, fun hz => ?_⟩
    · rcases List.mem_cons.mp ((h z).mp (List.mem_cons_of_mem _ hz)) with e | e
      · have := a1 z hz; omega
      · exact e
    · rcases List.mem_cons.mp ((h z).mpr (List.mem_cons_of_mem _ hz)) with e | e
      · have := b1 z hz; omega
      · exact e
theorem rep_ints {K : PySem.W.Frag} {F : Hp} {θ : List Addr} : ∀ ns : List Int, RepAll K C F θ (ns.map V.int) (ns.map PV.int)
  | [] => .nil
  | n :: ns => .cons (.int n) (rep_ints ns)
/-- sorted(set(..)) of numbers -/
def fSset (_ : List PV) : PV → Option PV
  | .lst xs => match intsP xs with
    | some ns => if ns.length < 64 then some (.lst ((srtI ns).map .int)) else none
    | none => none
  | _ => none
theorem xsset (h : PE X e (tCB (rSortedSet X.w) (tCons (tCB (rSetLi X.K X.w) (tCons (tM X.K C ma) tNil)) tNil))) : PE X e (tM X.K C (mUn fSset ma)) := PE.weak h fun σ H Q ⟨W0, W, ρ, S, z, S', eH, R, em, q⟩ => by
  subst eH
  obtain ⟨x, e1, e2⟩ := mUn_inv em
  unfold fSset at e2
  split at e2
  · rename_i xs
    split at e2
    · rename_i ns hn
      split at e2
      · rename_i hl
        cases e2
        refine ⟨W0, W, ρ, S, _, S', rfl, R, e1, fun v W1 R1 g1 r1 => ?_⟩
        cases r1 with
        | lst hF ra =>
          refine ⟨_, ns, rfl, by rw [← intsP_ok ra hn]; exact R1.i.s.seq (SqL.of hF), by omega, fun p c np hc => ?_⟩
          obtain ⟨g2, i2⟩ := laid (SetO X.w p (fun j => decide (j ∈ ns)) c) R1.i np
          refine ⟨p, _, c, rfl, upd_same, by omega, fun ns' p' h1 h2 h3 np' => ?_⟩
          have e : ns' = srtI ns := asc_eq h1 (srtI_asc ns) fun z => by rw [h2, srtI_mem]; simp
          subst e
          obtain ⟨g3, i3⟩ := laid (.lst ((srtI ns).map V.int)) i2 np'
          exact q _ _ ((R1.ext g2 i2).ext g3 i3) ((g1.trans g2).trans g3) (.lst upd_same (rep_ints _))
      · cases e2
    · cases e2
  · cases e2
/-- sorted(..) of a list of numbers -/
def insL (x : Int) : List Int → List Int
  | [] => [x]
  | y :: ys => if x ≤ y then x :: y :: ys else y :: insL x ys
def srtL : List Int → List Int
  | [] => []
  | x :: xs => insL x (srtL xs)
theorem insL_perm (x : Int) : ∀ ys : List Int, (insL x ys).Perm (x :: ys)
  | [] => .refl _
  | y :: ys => by
    unfold insL
    split
    · exact .refl _
    · exact ((insL_perm x ys).cons y).trans (.swap x y ys)
theorem srtL_perm : ∀ xs : List Int, (srtL xs).Perm xs
  | [] => .refl _
  | x :: xs => (insL_perm x _).trans ((srtL_perm xs).cons x)
theorem insL_asc (x : Int) : ∀ (ys : List Int), ys.Pairwise (· ≤ ·) → (insL x ys).Pairwise (· ≤ ·)
  | [], _ => by simp [insL]
  | y :: ys, h => by
    obtain ⟨h1, h2⟩ := List.pairwise_cons.mp h
    unfold insL
    split
    · refine List.pairwise_cons.mpr ⟨fun z hz => ?_, h⟩
      rcases List.mem_cons.mp hz with e | hz
      · omega
      · have := h1 z hz; omega
    · refine List.pairwise_cons.mpr ⟨fun z hz => ?_, insL_asc x ys h2⟩
      rcases List.mem_cons.mp ((insL_perm x ys).mem_iff.mp hz) with e | hz
      · omega
      · exact h1 z hz
theorem srtL_asc : ∀ (xs : List Int), (srtL xs).Pairwise (· ≤ ·)
  | [] => .nil
  | x :: xs => insL_asc x _ (srtL_asc xs)
theorem le_eq : ∀ {xs ys : List Int}, xs.Pairwise (· ≤ ·) → ys.Pairwise (· ≤ ·) → xs.Perm ys → xs = ys
  | [], ys, _, _, h => (List.nil_perm.mp h).symm
  | x :: xs, [], _, _, h => absurd h.length_eq (by simp)
  | x :: xs, y :: ys, h1, h2, h => by
    obtain ⟨a1, a2⟩ := List.pairwise_cons.mp h1
    obtain ⟨b1, b2⟩ := List.pairwise_cons.mp h2
    have e : x = y := by
      have k1 : y ≤ x := by
        rcases List.mem_cons.mp (h.mem_iff.mp List.mem_cons_self) with e | e
        · omega
        · exact b1 x e
      have k2 : x ≤ y := by
        rcases List.mem_cons.mp (h.mem_iff.mpr List.mem_cons_self) with e | e
        · omega
        · exact a1 y e
      omega
    subst e
    congr 1
    exact le_eq a2 b2 (List.Perm.cons_inv h)
def fSorted (_ : List PV) : List PV → Option PV
  | [.lst xs] => match intsP xs with
    | some ns => some (.lst ((srtL ns).map .int))
    | none => none
  | _ => none
theorem l_sorted {K : PySem.W.Frag} : LRn K C (rSortedI K) fSorted := fun W S vs xs z Q i r e q => by
  unfold fSorted at e
  split at e
  · split at e
    · rename_i ns hn
      cases e
      cases r with
      | cons r rr =>
        cases rr
        cases r with
        | lst h a =>
          refine ⟨_, ns, rfl, by rw [← intsP_ok a hn]; exact i.s.seq (SqL.of h), fun ns' p h1 h2 np => ?_⟩
          have e : ns' = srtL ns := le_eq h2 (srtL_asc ns) (h1.trans (srtL_perm ns).symm)
          subst e
          obtain ⟨g3, i3⟩ := laid (.lst ((srtL ns).map V.int)) i np
          exact q _ _ g3 i3 (.lst upd_same (rep_ints _))
    · cases e
  · cases e
/-! a star among the items of a display -/
def mStar (ma : ME) (mr : MA) : MA := fun ρ S => match ma ρ S with
  | some (x, S1) => match items x with
    | some xs => match mr ρ S1 with
      | some (ys, S2) => some (xs ++ ys, S2)
      | none => none
    | none => none
  | none => none
theorem xstar {p : Pos} (ha : PE X e (tM X.K C ma)) (hr : PA X es (tMA X.K C mes)) (hs : starEach (.Starred e p :: es) X.env = (true, eval e X.env) :: starEach es X.env := by rfl) : PA X (.Starred e p :: es) (tMA X.K C (mStar ma mes)) := PA.weak (StX.pa_star ha hr hs) fun σ H Q ⟨W0, W, ρ, S, z, S', eH, R, em, q⟩ => by
  subst eH
  unfold mStar at em
  split at em
  · rename_i x S1 e1
    split at em
    · rename_i xs e2
      split at em
      · rename_i ys S2 e3
        cases em
        refine ⟨W0, W, ρ, S, x, S1, rfl, R, e1, fun v W1 R1 g1 r1 => ?_⟩
        cases r1 with
        | lst h a =>
          cases e2
          exact ⟨_, _, rfl, .inr (R1.i.s.seq (SqL.of h)), W0, W1, ρ, S1, ys, S', rfl, R1, e3, fun us W2 R2 g2 r2 => q _ W2 R2 (g1.trans g2) ((a.ext g2).app r2)⟩
        | tup h a =>
          cases e2
          exact ⟨_, _, rfl, .inl (R1.i.s.seT h), W0, W1, ρ, S1, ys, S', rfl, R1, e3, fun us W2 R2 g2 r2 => q _ W2 R2 (g1.trans g2) ((a.ext g2).app r2)⟩
        | _ => cases e2
      · cases em
    · cases em
  · cases em
/-! a chain of two comparisons of numbers -/
def mChain (p r : Int → Int → Bool) (ma mb mc : ME) : ME := fun ρ S => match ma ρ S with
  | some (.int i, S1) => match mb ρ S1 with
    | some (.int j, S2) => if p i j then (match mc ρ S2 with
      | some (.int k, S3) => some (.bl (r j k), S3)
      | _ => none) else some (.bl false, S2)
    | _ => none
  | _ => none
theorem chain_lift {K : PySem.W.Frag} {p r : Int → Int → Bool} {σ : L2.St} {H : Hp} {Q : VK} (h : tM K C (mChain p r ma mb mc) σ H Q) : tChain (rI0 fun i j => .bl (p i j)) (rI0 fun i j => .bl (r i j)) (tM K C ma) (tM K C mb) (tM K C mc) σ H Q := by
  obtain ⟨W0, W, ρ, S, z, S', eH, R, em, q⟩ := h
  subst eH
  unfold mChain at em
  split at em
  · rename_i i S1 e1
    split at em
    · rename_i j S2 e2
      refine ⟨W0, W, ρ, S, _, S1, rfl, R, e1, fun v W1 R1 g1 r1 => ⟨W0, W1, ρ, S1, _, S2, rfl, R1, e2, fun u W2 R2 g2 r2 => ?_⟩⟩
      cases r1
      cases r2
      refine ⟨i, j, rfl, rfl, p i j, rfl, ?_⟩
      split at em
      · rename_i hp
        split at em
        · rename_i k S3 e3
          cases em
          rw [hp]
          refine iteT ⟨W0, W2, ρ, S2, _, S', rfl, R2, e3, fun w W3 R3 g3 r3 => ?_⟩
          cases r3
          exact ⟨j, k, rfl, rfl, q _ W3 R3 ((g1.trans g2).trans g3) (.bl _)⟩
        · cases em
      · rename_i hp
        cases em
        rw [Bool.not_eq_true] at hp
        rw [hp]
        exact iteF (q _ W2 R2 (g1.trans g2) (.bl _))
    · cases em
  · cases em
theorem xchain {p r : Int → Int → Bool} (h : PE X e (tChain (rI0 fun i j => .bl (p i j)) (rI0 fun i j => .bl (r i j)) (tM X.K C ma) (tM X.K C mb) (tM X.K C mc))) : PE X e (tM X.K C (mChain p r ma mb mc)) := PE.weak h fun σ H Q q => chain_lift q
theorem xchainT {p r : Int → Int → Bool} (h : PT X e (tTest (tChain (rI0 fun i j => .bl (p i j)) (rI0 fun i j => .bl (r i j)) (tM X.K C ma) (tM X.K C mb) (tM X.K C mc)))) : PT X e (tMT X.K C (mTru (mChain p r ma mb mc))) := PT.weak h fun σ H Q ⟨W0, W, ρ, S, z, S', eH, R, em, q⟩ => by
  subst eH
  exact chain_lift ⟨W0, W, ρ, S, _, S', rfl, R, mTru_inv em, fun v W1 R1 g1 r1 => by cases r1; exact ⟨z, rfl, q W1 R1 g1⟩⟩
/-! own lists by a sum of lists -/
def mNewA (i : Nat) (ma mb : ME) : MS := fun ρ S => match ma ρ S with
  | some (.lst xs, S1) => match mb ρ S1 with
    | some (.lst ys, S2) => if xs.length + ys.length ≤ 100000 ∧ i < ρ.length then some (.nx (ρ.set i (.own (.lst (xs ++ ys)))) S2) else none
    | _ => none
  | _ => none
theorem xnewA {i : Nat} (h : PS X st (tAsg (tOp rCat (tM X.K C ma) (tM X.K C mb)) (gName i))) : PS X st (tMS X.K C (mNewA i ma mb)) := PS.weak h fun D σ H ⟨W0, W, ρ, S, out, eH, R, em, p⟩ => by
  subst eH
  unfold mNewA at em
  split at em
  · rename_i xs S1 e1
    split at em
    · rename_i ys S2 e2
      split at em
      · rename_i hl
        cases em
        refine ⟨W0, W, ρ, S, _, S1, rfl, R, e1, fun v W1 R1 g1 r1 => ⟨W0, W1, ρ, S1, _, S2, rfl, R1, e2, fun u W2 R2 g2 r2 => ?_⟩⟩
        cases r1 with
        | lst h1 a1 =>
          cases r2 with
          | lst h2 a2 =>
            refine ⟨_, _, _, _, rfl, rfl, R2.i.s _ _ (g2.f _ _ h1), R2.i.s _ _ h2, by rw [a1.len, a2.len]; exact Nat.le_trans hl.1 lim, fun q nq => ?_⟩
            obtain ⟨g3, R3, o3, d3⟩ := laidO R2 ((a1.ext g2).app a2) nq
            exact p _ _ ((g1.trans g2).trans g3).groF (R3.seto i o3 hl.2 d3)
      · cases em
    · cases em
  · cases em
end
section
variable {ρ : List SlV} {S : List PV} {ma mb mc : ME} {mes : MA}
@[simp] theorem e_isT2 (T U : String) : mIsT2 T U ma ρ S = match ma ρ S with
  | some (x, S1) => (match tyN x with
    | some t => (match kit2 t T U with
      | some b => some (.bl b, S1)
      | none => none)
    | none => none)
  | none => none := rfl
@[simp] theorem e_star : mStar ma mes ρ S = match ma ρ S with
  | some (x, S1) => (match items x with
    | some xs => (match mes ρ S1 with
      | some (ys, S2) => some (xs ++ ys, S2)
      | none => none)
    | none => none)
  | none => none := rfl
end
end BL

namespace BL
open PySem PySem.Spec PyProof.Rows L2
/-! comprehensions whose list is kept as an own one; two clauses -/
theorem put_own {i : Nat} {y : PV} : ∀ {is : List Nat} {xs : List PV} {ρ ρ' : List SlV}, putAll is xs ρ = some ρ' → ρ'[i]? = some (.own y) → ρ[i]? = some (.own y)
  | [], [], ρ, ρ', e, h => by cases e; exact h
  | [], _ :: _, _, _, e, _ => by cases e
  | j :: is, [], _, _, e, _ => by cases e
  | j :: is, x :: xs, ρ, ρ', e, h => by
    unfold putAll at e
    split at e
    · rename_i hj
      have := put_own e h
      by_cases c : j = i
      · subst c
        rw [List.getElem?_set_self hj] at this
        cases this
      · rwa [List.getElem?_set_ne c] at this
    · cases e
theorem put_ownQ {i : Nat} {y : PV} : ∀ {gs : List (Nat ⊕ List Nat)} {xs : List PV} {ρ ρ' : List SlV}, putAllQ gs xs ρ = some ρ' → ρ'[i]? = some (.own y) → ρ[i]? = some (.own y) := fun {gs} => by
  induction gs with
  | nil => intro xs ρ ρ' e h; cases xs with | nil => cases e; exact h | cons _ _ => cases e
  | cons g gs ih =>
    intro xs ρ ρ' e h
    cases xs with
    | nil => cases g <;> cases e
    | cons x xs =>
      cases g with
      | inl j =>
        unfold putAllQ at e
        split at e
        · rename_i hj
          have := ih e h
          by_cases c : j = i
          · subst c
            rw [List.getElem?_set_self hj] at this
            cases this
          · rwa [List.getElem?_set_ne c] at this
        · cases e
      | inr is =>
        cases x with
        | tup ys =>
          unfold putAllQ at e
          split at e
          · rename_i e1
            exact put_own e1 (ih e h)
          · cases e
        | lst ys =>
          unfold putAllQ at e
          split at e
          · rename_i e1
            exact put_own e1 (ih e h)
          · cases e
        | _ => cases e
theorem Tg.put_own {t : Tg} {i : Nat} {x y : PV} {ρ ρ' : List SlV} (e : t.put x ρ = some ρ') (h : ρ'[i]? = some (.own y)) : ρ[i]? = some (.own y) := by
  cases t with
  | nm j =>
    simp only [Tg.put] at e
    split at e
    · rename_i hj
      cases e
      by_cases c : j = i
      · subst c
        rw [List.getElem?_set_self hj] at h
        cases h
      · rwa [List.getElem?_set_ne c] at h
    · cases e
  | tp is =>
    cases x with
    | tup xs => exact BL.put_own e h
    | lst xs => exact BL.put_own e h
    | _ => cases e
  | tq gs =>
    cases x with
    | tup xs => exact put_ownQ e h
    | lst xs => exact put_ownQ e h
    | _ => cases e
theorem wipM_own {i : Nat} {y : PV} {ρ : List SlV} : ∀ {vs : List Nat}, (wipM ρ vs)[i]? = some (.own y) → ρ[i]? = some (.own y) ∧ i ∉ vs
  | [], h => ⟨h, (fun m => by cases m)⟩
  | v :: vs, h => by
    change ((wipM ρ vs).set v .un)[i]? = _ at h
    by_cases c : v = i
    · subst c
      by_cases l : v < (wipM ρ vs).length
      · rw [List.getElem?_set_self l] at h
        cases h
      · rw [List.getElem?_eq_none (by rw [List.length_set]; omega)] at h
        cases h
    · rw [List.getElem?_set_ne c] at h
      obtain ⟨a, b⟩ := wipM_own h
      exact ⟨a, fun m => (List.mem_cons.mp m).elim (fun e => c e.symm) b⟩
theorem wipe_at {i : Nat} {σ : L2.St} : ∀ {vs : List Nat}, i ∉ vs → (wipe σ vs)[i]? = σ[i]?
  | [], _ => rfl
  | v :: vs, h => by
    show ((wipe σ vs).set v none)[i]? = _
    rw [List.getElem?_set_ne (fun e => h (by rw [e]; exact List.mem_cons_self))]
    exact wipe_at fun m => h (List.mem_cons_of_mem _ m)
theorem wipe_two (σ : L2.St) (vs : List Nat) : wipe (wipe σ vs) vs = wipe σ vs := lc_lift.wipe_wipe σ vs
section
variable {K : PySem.W.Frag} {C : Addr} {W0 W : Wd} {σ : L2.St} {ρ : List SlV} {S : List PV} {ma mb : ME} {mt mt1 : MT} {mi mi1 : MI}
/-- the slots behind a target keep their own things apart from D -/
theorem apart {t : Tg} {vs : List Nat} {x : PV} {ρ3 : List SlV} {σ' : L2.St} {D : Addr} (e : t.put x (wipM ρ vs) = some ρ3) (w : wipe σ' vs = wipe (wipe σ vs) vs) (hd : ∀ (j : Nat) (y : PV), ρ[j]? = some (.own y) → σ[j]? = some (some (.ref D)) → False) :
    ∀ (j : Nat) (y : PV), ρ3[j]? = some (.own y) → σ'[j]? = some (some (.ref D)) → False := fun j y h1 h2 => by
  obtain ⟨h3, h4⟩ := wipM_own (t.put_own e h1)
  refine hd j y h3 ?_
  rw [wipe_two] at w
  rw [← wipe_at h4, ← w, wipe_at h4]
  exact h2
theorem last_ref {D : Addr} (l : σ.length = ρ.length) : (σ ++ [some (V.ref D)])[ρ.length]? = some (some (.ref D)) := by rw [← l, List.getElem?_append_right (Nat.le_refl _), Nat.sub_self]; rfl
theorem last_own {x : PV} : (ρ ++ [SlV.own x])[ρ.length]? = some (.own x) := by rw [List.getElem?_append_right (Nat.le_refl _), Nat.sub_self]; rfl
theorem set_last {x y : PV} : (ρ ++ [SlV.own x]).set ρ.length (.own y) = ρ ++ [.own y] := by rw [List.set_append_right _ _ (Nat.le_refl _), Nat.sub_self]; rfl
/-- one more item in the list at D -/
theorem more {D : Addr} {acc : List PV} {y : PV} {u : V} (l : σ.length = ρ.length) (R : Rel K C W0 W (σ ++ [some (.ref D)]) (ρ ++ [.own (.lst acc)]) S) (r : RepW K C W u y) : ∃ us, W.H D = some (.lst us) ∧ us.length = acc.length ∧ Rel K C W0 ⟨W.F, upd W.H D (.lst (us ++ [u])), W.θ⟩ (σ ++ [some (.ref D)]) (ρ ++ [.own (.lst (acc ++ [y]))]) S := by
  obtain ⟨a', ea', o1, o2, o3, us, eh, ru⟩ := R.s ρ.length _ last_own
  rw [last_ref l] at ea'
  cases Option.some.inj (Option.some.inj ea')
  have := R.ownUpd (us := us ++ [u]) (ys := acc ++ [y]) last_own (last_ref l) (ru.app (.cons r .nil))
  rw [set_last] at this
  exact ⟨us, eh, ru.len, this⟩
theorem gro_new {W1 W2 : Wd} {D : Addr} {o : HO} (g : Gro W1 W2) (nD : W1.H D = none) : Gro W1 ⟨W2.F, upd W2.H D o, W2.θ⟩ := by
  refine ⟨g.f, g.t, fun p o e n => ?_, fun p o e => ?_, g.n⟩
  · show upd W2.H D _ p = _
    rw [upd_ne (ne_of_none e nD)]
    exact g.h p o e n
  · obtain ⟨o', e'⟩ := g.k p o e
    exact ⟨o', by show upd W2.H D _ p = _; rw [upd_ne (ne_of_none e nD)]; exact e'⟩
/-- a list of one clause, its end left open -/
theorem lc_gen {t : Tg} {vs : List Nat} {Q : VK} {xs ys S1 S' : List PV} (hv : ∀ i ∈ t.ids, i ∈ vs) (R : Rel K C W0 W σ ρ S) (e1 : mi ρ S = some (xs, S1)) (e2 : lcL t mt ma (wipM ρ vs) xs S1 = some (ys, S')) (hl : ys.length ≤ 100000)
    (fin : ∀ D W1 W2, W1.H D = none → Gro W W1 → Gro W1 W2 → Rel K C W0 W2 (σ ++ [some (.ref D)]) (ρ ++ [.own (.lst ys)]) S' → Q (.ref D) W2.H) : tLc (tMI K C mi) (t.g K) (tMT K C mt) (tM K C ma) vs σ W.H Q := by
  refine ⟨W0, W, ρ, S, xs, S1, rfl, R, e1, fun J W1 R1 g1 ok D nD => ?_⟩
  refine ⟨fun i m H => m = xs.length - i ∧ i ≤ xs.length ∧ ∃ W2 S3 acc zs, H = W2.H ∧ Gro W1 W2 ∧ Rel K C W0 W2 (σ ++ [some (.ref D)]) (ρ ++ [.own (.lst acc)]) S3 ∧ lcL t mt ma (wipM ρ vs) (xs.drop i) S3 = some (zs, S') ∧ acc ++ zs = ys, ⟨xs.length, (Nat.sub_zero _).symm, Nat.zero_le _, ?_⟩, ?_⟩
  · obtain ⟨g2, R2, o2, d2⟩ := laidO (us := []) (ys := []) R1 .nil nD
    exact ⟨_, S1, [], ys, rfl, g2, R2.snoc o2 d2, e2, rfl⟩
  rintro i m H ⟨rfl, hi, W2, S3, acc, zs, rfl, g2, R2, e3, ez⟩
  have R2' := R2.unapp R.l
  by_cases hlt : i < xs.length
  · refine .inr ⟨ok.go i W2 S3 g2.groF R2.i hlt, fun H' => ∃ W2 S3 acc zs, H' = W2.H ∧ Gro W1 W2 ∧ Rel K C W0 W2 (σ ++ [some (.ref D)]) (ρ ++ [.own (.lst acc)]) S3 ∧ lcL t mt ma (wipM ρ vs) (xs.drop (i + 1)) S3 = some (zs, S') ∧ acc ++ zs = ys, fun H' n => ⟨xs.length - (i + 1), by omega, rfl, hlt, n⟩, fun v H' y => ?_⟩
    rw [List.drop_eq_getElem_cons hlt] at e3
    obtain ⟨W3, rfl, g3, i3, r3⟩ := ok.yld i W2 S3 v H' xs[i] g2.groF R2.i (List.getElem?_eq_getElem hlt) y
    have R3 := (wip_rel R2' vs).ext g3 i3
    unfold lcL at e3
    split at e3
    · rename_i ρ3 e4
      refine t.ok R3 r3 e4 fun σ' R' w => ⟨by rw [w vs hv]; exact wipe_two σ vs, ?_⟩
      split at e3
      · rename_i S4 e5
        split at e3
        · rename_i y4 S5 e6
          split at e3
          · rename_i ys5 S6 e7
            cases e3
            refine ⟨W0, W3, ρ3, S3, true, S4, rfl, R', e5, fun W4 R4 g4 => iteT ?_⟩
            refine ⟨W0, W4, ρ3, S4, y4, S5, rfl, R4, e6, fun u W5 R5 g5 r5 => ?_⟩
            have g25 := (g3.trans g4).trans g5
            obtain ⟨us, eh, lu, R6⟩ := more R.l (R2.ext g25 R5.i) r5
            have hlen : acc.length < sizeLine := by
              rw [← ez, List.length_append] at hl
              exact Nat.lt_of_le_of_lt (Nat.le_trans (Nat.le_add_right _ _) hl) (by decide)
            exact ⟨us, eh, by rw [lu]; exact hlen, _, S5, acc ++ [y4], ys5, rfl, gro_new (g2.trans g25) nD, R6, e7, by rw [List.append_assoc]; exact ez⟩
          · cases e3
        · cases e3
      · rename_i S4 e5
        refine ⟨W0, W3, ρ3, S3, false, S4, rfl, R', e5, fun W4 R4 g4 => iteF ?_⟩
        have g24 := g3.trans g4
        exact ⟨W4, S4, acc, zs, rfl, g2.trans g24, R2.ext g24 R4.i, e3, ez⟩
      · cases e3
    · cases e3
  · have e : i = xs.length := by omega
    subst e
    rw [List.drop_length] at e3
    cases e3
    rw [List.append_nil] at ez
    subst ez
    exact .inl ⟨ok.stop W2 S' g2.groF R2.i, fin D W1 W2 nD g1 g2 R2⟩
/-- two clauses -/
def lc2L (t : Tg) (mt : MT) (t1 : Tg) (mi1 : MI) (mt1 : MT) (me : ME) (vs1 : List Nat) (ρ : List SlV) : List PV → List PV → Option (List PV × List PV)
  | [], S => some ([], S)
  | x :: xs, S => match t.put x ρ with
    | some ρ1 => match mt ρ1 S with
      | some (true, S1) => match mi1 ρ1 S1 with
        | some (xs1, S2) => match lcL t1 mt1 me (wipM ρ1 vs1) xs1 S2 with
          | some (ys, S3) => match lc2L t mt t1 mi1 mt1 me vs1 ρ xs S3 with
            | some (zs, S4) => some (ys ++ zs, S4)
            | none => none
          | none => none
        | none => none
      | some (false, S1) => lc2L t mt t1 mi1 mt1 me vs1 ρ xs S1
      | none => none
    | none => none
theorem lc2_gen {t t1 : Tg} {vs vs1 : List Nat} {Q : VK} {xs ys S1 S' : List PV} (hv : ∀ i ∈ t.ids, i ∈ vs) (hv1 : ∀ i ∈ t1.ids, i ∈ vs1) (R : Rel K C W0 W σ ρ S) (e1 : mi ρ S = some (xs, S1)) (e2 : lc2L t mt t1 mi1 mt1 ma vs1 (wipM ρ vs) xs S1 = some (ys, S')) (hl : ys.length ≤ 100000)
    (fin : ∀ D W1 W2, W1.H D = none → Gro W W1 → Gro W1 W2 → Rel K C W0 W2 (σ ++ [some (.ref D)]) (ρ ++ [.own (.lst ys)]) S' → Q (.ref D) W2.H) : tLc2 (tMI K C mi) (t.g K) (tMT K C mt) (tMI K C mi1) (t1.g K) (tMT K C mt1) (tM K C ma) vs vs1 σ W.H Q := by
  refine ⟨W0, W, ρ, S, xs, S1, rfl, R, e1, fun J W1 R1 g1 ok D nD => ?_⟩
  refine ⟨fun i m H => m = xs.length - i ∧ i ≤ xs.length ∧ ∃ W2 S3 acc zs, H = W2.H ∧ Gro W1 W2 ∧ Rel K C W0 W2 (σ ++ [some (.ref D)]) (ρ ++ [.own (.lst acc)]) S3 ∧ lc2L t mt t1 mi1 mt1 ma vs1 (wipM ρ vs) (xs.drop i) S3 = some (zs, S') ∧ acc ++ zs = ys, ⟨xs.length, (Nat.sub_zero _).symm, Nat.zero_le _, ?_⟩, ?_⟩
  · obtain ⟨g2, R2, o2, d2⟩ := laidO (us := []) (ys := []) R1 .nil nD
    exact ⟨_, S1, [], ys, rfl, g2, R2.snoc o2 d2, e2, rfl⟩
  rintro i m H ⟨rfl, hi, W2, S3, acc, zs, rfl, g2, R2, e3, ez⟩
  have R2' := R2.unapp R.l
  by_cases hlt : i < xs.length
  · refine .inr ⟨ok.go i W2 S3 g2.groF R2.i hlt, fun H' => ∃ W2 S3 acc zs, H' = W2.H ∧ Gro W1 W2 ∧ Rel K C W0 W2 (σ ++ [some (.ref D)]) (ρ ++ [.own (.lst acc)]) S3 ∧ lc2L t mt t1 mi1 mt1 ma vs1 (wipM ρ vs) (xs.drop (i + 1)) S3 = some (zs, S') ∧ acc ++ zs = ys, fun H' n => ⟨xs.length - (i + 1), by omega, rfl, hlt, n⟩, fun v H' y => ?_⟩
    rw [List.drop_eq_getElem_cons hlt] at e3
    obtain ⟨W3, rfl, g3, i3, r3⟩ := ok.yld i W2 S3 v H' xs[i] g2.groF R2.i (List.getElem?_eq_getElem hlt) y
    have R3 := (wip_rel R2' vs).ext g3 i3
    obtain ⟨o2, d2⟩ := R2.snocD R.l
    unfold lc2L at e3
    split at e3
    · rename_i ρ3 e4
      refine t.ok R3 r3 e4 fun σ' R' w => ⟨by rw [w vs hv]; exact wipe_two σ vs, ?_⟩
      have ap := apart e4 (w vs hv) d2
      split at e3
      · rename_i S4 e5
        split at e3
        · rename_i xs1 S5 e6
          split at e3
          · rename_i ys1 S6 e7
            split at e3
            · rename_i zs1 S7 e8
              cases e3
              refine ⟨W0, W3, ρ3, S3, true, S4, rfl, R', e5, fun W4 R4 g4 => iteT ?_⟩
              refine ⟨W0, W4, ρ3, S4, xs1, S5, rfl, R4, e6, fun J1 W5 R5 g5 ok1 => ?_⟩
              have g25 := (g3.trans g4).trans g5
              have g35 := g4.trans g5
              have RA := R2.ext g25 R5.i
              have RB := R5.snoc (o2.ext g25) ap
              refine ⟨fun j k H => k = xs1.length - j ∧ j ≤ xs1.length ∧ ∃ W6 S8 ac yr, H = W6.H ∧ Gro W1 W6 ∧ GroF W5 W6 ∧ Rel K C W0 W6 (σ ++ [some (.ref D)]) (ρ ++ [.own (.lst ac)]) S8 ∧ Rel K C W0 W6 (σ' ++ [some (.ref D)]) (ρ3 ++ [.own (.lst ac)]) S8 ∧ lcL t1 mt1 ma (wipM ρ3 vs1) (xs1.drop j) S8 = some (yr, S6) ∧ ac ++ yr = acc ++ ys1, ⟨xs1.length, (Nat.sub_zero _).symm, Nat.zero_le _, W5, S5, acc, ys1, rfl, g2.trans g25, GroF.refl _, RA, RB, e7, rfl⟩, ?_⟩
              rintro j k H ⟨rfl, hj, W6, S8, ac, yr, rfl, g6, gF, RA6, RB6, e9, ey⟩
              by_cases hlt1 : j < xs1.length
              · refine .inr ⟨ok1.go j W6 S8 gF RB6.i hlt1, fun H' => ∃ W6 S8 ac yr, H' = W6.H ∧ Gro W1 W6 ∧ GroF W5 W6 ∧ Rel K C W0 W6 (σ ++ [some (.ref D)]) (ρ ++ [.own (.lst ac)]) S8 ∧ Rel K C W0 W6 (σ' ++ [some (.ref D)]) (ρ3 ++ [.own (.lst ac)]) S8 ∧ lcL t1 mt1 ma (wipM ρ3 vs1) (xs1.drop (j + 1)) S8 = some (yr, S6) ∧ ac ++ yr = acc ++ ys1, fun H' n => ⟨xs1.length - (j + 1), by omega, rfl, hlt1, n⟩, fun v1 H' y1 => ?_⟩
                rw [List.drop_eq_getElem_cons hlt1] at e9
                obtain ⟨W7, rfl, g7, i7, r7⟩ := ok1.yld j W6 S8 v1 H' xs1[j] gF RB6.i (List.getElem?_eq_getElem hlt1) y1
                have R7 := (wip_rel (RB6.unapp R5.l) vs1).ext g7 i7
                unfold lcL at e9
                split at e9
                · rename_i ρ7 e10
                  refine t1.ok R7 r7 e10 fun σ7 R8 w1 => ⟨by rw [w1 vs1 hv1]; exact wipe_two σ' vs1, ?_⟩
                  split at e9
                  · rename_i S9 e11
                    split at e9
                    · rename_i y11 S10 e12
                      split at e9
                      · rename_i yr' S11 e13
                        cases e9
                        refine ⟨W0, W7, ρ7, S8, true, S9, rfl, R8, e11, fun W8 R9 g8 => iteT ?_⟩
                        refine ⟨W0, W8, ρ7, S9, y11, S10, rfl, R9, e12, fun u W9 R10 g9 r10 => ?_⟩
                        have g69 := (g7.trans g8).trans g9
                        obtain ⟨us, eh, lu, RA9⟩ := more R.l (RA6.ext g69 R10.i) r10
                        obtain ⟨us', eh', lu', RB9⟩ := more R5.l (RB6.ext g69 R10.i) r10
                        rw [eh] at eh'
                        cases HO.lst.inj (Option.some.inj eh')
                        have hlen : ac.length < sizeLine := by
                          have : (ac ++ y11 :: yr').length ≤ 100000 := by
                            rw [ey]
                            rw [← ez] at hl
                            simp only [List.length_append] at hl ⊢
                            omega
                          rw [List.length_append] at this
                          exact Nat.lt_of_le_of_lt (Nat.le_trans (Nat.le_add_right _ _) this) (by decide)
                        exact ⟨us, eh, by rw [lu]; exact hlen, _, S10, ac ++ [y11], yr', rfl, gro_new (g6.trans g69) nD, gF.trans ⟨g69.groF.f, g69.groF.t⟩, RA9, RB9, e13, by rw [List.append_assoc]; exact ey⟩
                      · cases e9
                    · cases e9
                  · rename_i S9 e11
                    refine ⟨W0, W7, ρ7, S8, false, S9, rfl, R8, e11, fun W8 R9 g8 => iteF ?_⟩
                    have g68 := g7.trans g8
                    exact ⟨W8, S9, ac, yr, rfl, g6.trans g68, gF.trans g68.groF, RA6.ext g68 R9.i, RB6.ext g68 R9.i, e9, ey⟩
                  · cases e9
                · cases e9
              · have e : j = xs1.length := by omega
                subst e
                rw [List.drop_length] at e9
                cases e9
                rw [List.append_nil] at ey
                subst ey
                exact .inl ⟨ok1.stop W6 S6 gF RB6.i, W6, S6, acc ++ ys1, zs1, rfl, g6, RA6, e8, by rw [List.append_assoc]; exact ez⟩
            · cases e3
          · cases e3
        · cases e3
      · rename_i S4 e5
        refine ⟨W0, W3, ρ3, S3, false, S4, rfl, R', e5, fun W4 R4 g4 => iteF ?_⟩
        have g24 := g3.trans g4
        exact ⟨W4, S4, acc, zs, rfl, g2.trans g24, R2.ext g24 R4.i, e3, ez⟩
      · cases e3
    · cases e3
  · have e : i = xs.length := by omega
    subst e
    rw [List.drop_length] at e3
    cases e3
    rw [List.append_nil] at ez
    subst ez
    exact .inl ⟨ok.stop W2 S' g2.groF R2.i, fin D W1 W2 nD g1 g2 R2⟩
/-- the list at D never changes any more -/
theorem froze {D : Addr} {W1 W2 : Wd} {ys S' : List PV} {Q : VK} (l : σ.length = ρ.length) (nD : W1.H D = none) (g1 : Gro W W1) (g2 : Gro W1 W2) (R2 : Rel K C W0 W2 (σ ++ [some (.ref D)]) (ρ ++ [.own (.lst ys)]) S') (q : ∀ v W', Rel K C W0 W' σ ρ S' → Gro W W' → RepW K C W' v (.lst ys) → Q v W'.H) : Q (.ref D) W2.H := by
  obtain ⟨W3, eH3, g3, R3, gF⟩ := R2.frz last_own
  rw [List.set_append_right _ _ (Nat.le_refl _), Nat.sub_self] at R3
  obtain ⟨u, eu, ru⟩ := R3.s ρ.length (.val (.lst ys)) (by rw [List.getElem?_append_right (Nat.le_refl _), Nat.sub_self]; rfl)
  rw [last_ref l] at eu
  cases Option.some.inj (Option.some.inj eu)
  have gg : Gro W1 W3 := gF W1 g2 fun a ea => by
    rw [last_ref l] at ea
    cases Option.some.inj (Option.some.inj ea)
    exact nD
  rw [← eH3]
  exact q _ W3 (R3.unapp l) (g1.trans gg) ru
def mLc2 (t : Tg) (mi : MI) (mt : MT) (t1 : Tg) (mi1 : MI) (mt1 : MT) (me : ME) (vs vs1 : List Nat) : ME := fun ρ S => match mi ρ S with
  | some (xs, S1) => match lc2L t mt t1 mi1 mt1 me vs1 (wipM ρ vs) xs S1 with
    | some (ys, S2) => if ys.length ≤ 100000 then some (.lst ys, S2) else none
    | none => none
  | none => none
theorem lc2_lift {t t1 : Tg} {vs vs1 : List Nat} {H : Hp} {Q : VK} (hv : ∀ i ∈ t.ids, i ∈ vs) (hv1 : ∀ i ∈ t1.ids, i ∈ vs1) (h : tM K C (mLc2 t mi mt t1 mi1 mt1 ma vs vs1) σ H Q) : tLc2 (tMI K C mi) (t.g K) (tMT K C mt) (tMI K C mi1) (t1.g K) (tMT K C mt1) (tM K C ma) vs vs1 σ H Q := by
  obtain ⟨W0, W, ρ, S, z, S', eH, R, em, q⟩ := h
  subst eH
  unfold mLc2 at em
  split at em
  · rename_i xs S1 e1
    split at em
    · rename_i ys S2 e2
      split at em
      · rename_i hl
        cases em
        exact lc2_gen hv hv1 R e1 e2 hl fun D W1 W2 nD g1 g2 R2 => froze R.l nD g1 g2 R2 q
      · cases em
    · cases em
  · cases em
end
section
variable {X : Cx} {C : Addr} {e : Expr} {st : Stmt} {ma : ME} {mt mt1 : MT} {mi mi1 : MI}
theorem xlc2 {t t1 : Tg} {vs vs1 : List Nat} (hv : ∀ i ∈ t.ids, i ∈ vs) (hv1 : ∀ i ∈ t1.ids, i ∈ vs1) (h : PE X e (tLc2 (tMI X.K C mi) (t.g X.K) (tMT X.K C mt) (tMI X.K C mi1) (t1.g X.K) (tMT X.K C mt1) (tM X.K C ma) vs vs1)) : PE X e (tM X.K C (mLc2 t mi mt t1 mi1 mt1 ma vs vs1)) := PE.weak h fun σ H Q q => lc2_lift hv hv1 q
theorem xsetLc2 {t t1 : Tg} {vs vs1 : List Nat} {i : Nat} (hv : ∀ i ∈ t.ids, i ∈ vs) (hv1 : ∀ i ∈ t1.ids, i ∈ vs1) (h : PS X st (tAsg (tLc2 (tMI X.K C mi) (t.g X.K) (tMT X.K C mt) (tMI X.K C mi1) (t1.g X.K) (tMT X.K C mt1) (tM X.K C ma) vs vs1) (gName i))) : PS X st (tMS X.K C (mAsg (.nm i) (mLc2 t mi mt t1 mi1 mt1 ma vs vs1))) := PS.weak h fun D σ H ⟨W0, W, ρ, S, out, eH, R, em, p⟩ => by
  subst eH
  unfold mAsg at em
  split at em
  · rename_i x S1 e1
    split at em
    · rename_i ρ1 e2
      cases em
      refine lc2_lift hv hv1 ⟨W0, W, ρ, S, x, S1, rfl, R, e1, fun v W1 R1 g1 r1 => ?_⟩
      refine Tg.ok (.nm i) R1 r1 e2 fun σ' R' w => p σ' W1 g1.groF R'
    · cases em
  · cases em
/-- name = [..], the list an own one -/
def mNewLc (i : Nat) (t : Tg) (mi : MI) (mt : MT) (me : ME) (vs : List Nat) : MS := fun ρ S => match mi ρ S with
  | some (xs, S1) => match lcL t mt me (wipM ρ vs) xs S1 with
    | some (ys, S2) => if ys.length ≤ 100000 ∧ i < ρ.length then some (.nx (ρ.set i (.own (.lst ys))) S2) else none
    | none => none
  | none => none
theorem xnewLc {t : Tg} {vs : List Nat} {i : Nat} (hv : ∀ i ∈ t.ids, i ∈ vs) (h : PS X st (tAsg (tLc (tMI X.K C mi) (t.g X.K) (tMT X.K C mt) (tM X.K C ma) vs) (gName i))) : PS X st (tMS X.K C (mNewLc i t mi mt ma vs)) := PS.weak h fun D σ H ⟨W0, W, ρ, S, out, eH, R, em, p⟩ => by
  subst eH
  unfold mNewLc at em
  split at em
  · rename_i xs S1 e1
    split at em
    · rename_i ys S2 e2
      split at em
      · rename_i hl
        cases em
        refine lc_gen hv R e1 e2 hl.1 fun D W1 W2 nD g1 g2 R2 => ?_
        obtain ⟨o2, d2⟩ := R2.snocD R.l
        exact p _ W2 (g1.trans g2).groF ((R2.unapp R.l).seto i o2 hl.2 d2)
      · cases em
    · cases em
  · cases em
end
section
variable {ρ : List SlV} {S : List PV} {ma mb : ME} {mt mt1 : MT} {mi mi1 : MI}
@[simp] theorem e_lc2 (t t1 : Tg) (vs vs1 : List Nat) : mLc2 t mi mt t1 mi1 mt1 ma vs vs1 ρ S = match mi ρ S with
  | some (xs, S1) => (match lc2L t mt t1 mi1 mt1 ma vs1 (wipM ρ vs) xs S1 with
    | some (ys, S2) => if ys.length ≤ 100000 then some (.lst ys, S2) else none
    | none => none)
  | none => none := rfl
@[simp] theorem e_newLc (i : Nat) (t : Tg) (vs : List Nat) : mNewLc i t mi mt ma vs ρ S = match mi ρ S with
  | some (xs, S1) => (match lcL t mt ma (wipM ρ vs) xs S1 with
    | some (ys, S2) => if ys.length ≤ 100000 ∧ i < ρ.length then some (.nx (ρ.set i (.own (.lst ys))) S2) else none
    | none => none)
  | none => none := rfl
@[simp] theorem e_newA (i : Nat) : mNewA i ma mb ρ S = match ma ρ S with
  | some (.lst xs, S1) => (match mb ρ S1 with
    | some (.lst ys, S2) => if xs.length + ys.length ≤ 100000 ∧ i < ρ.length then some (.nx (ρ.set i (.own (.lst (xs ++ ys)))) S2) else none
    | _ => none)
  | _ => none := rfl
@[simp] theorem e_chain (p r : Int → Int → Bool) (mc : ME) : mChain p r ma mb mc ρ S = match ma ρ S with
  | some (.int i, S1) => (match mb ρ S1 with
    | some (.int j, S2) => if p i j then (match mc ρ S2 with
      | some (.int k, S3) => some (.bl (r j k), S3)
      | _ => none) else some (.bl false, S2)
    | _ => none)
  | _ => none := rfl
@[simp] theorem f_sorted (ns : List Int) : fSorted S [.lst (ns.map .int)] = some (.lst ((srtL ns).map .int)) := by
  have : ∀ ns : List Int, intsP (ns.map .int) = some ns := fun ns => by
    induction ns with
    | nil => rfl
    | cons n ns ih => simp [intsP, ih]
  simp [fSorted, this]
end
end BL

namespace L2
open PySem PySem.Spec PyProof.Rows HT
/-! a tuple from its end to its front -/
section
variable {prog : Program} {w : World} {A : Around} {E : Value → Shared → Prop} {s : Shared}
theorem back_places (n : Nat) : Builtin.Slice.sliceAdjust none none (-1) (n : Int) = ((n : Int) - 1, -1) ∧ Builtin.Slice.slicePlaces ((n : Int) - 1) (-1) (-1) = n := by
  constructor
  · rfl
  · unfold Builtin.Slice.slicePlaces
    simp
    omega
theorem applied_back {sl : Addr} {vk : Value} {n : Nat} {Q : Int × Int × Nat → Shared → Prop} (hs : s.heap.IsSliceOf sl .none .none vk) (pk : IsPart vk (some (-1)))
    (h : Q ((n : Int) - 1, -1, n) s) : wpAny (model prog w) A (Builtin.Slice.sliceApplied (.ref sl) (pure (n : Int))) Q E s := by
  obtain ⟨so, h1, h2, h3⟩ := id hs
  unfold Builtin.Slice.sliceApplied Builtin.Slice.sliceFields
  refine wpAny_bind (wpAny_bind (wpAny_field h1 h3 (x := .none) rfl (wpAny_bind (wpAny_field h1 h3 (x := .none) rfl (wpAny_bind (wpAny_field h1 h3 (x := vk) rfl (wpAny_pure ?_)))))))
  refine wpAny_bind (slicePart_ pk ?_)
  show wpAny _ _ (if ((-1 : Int) == 0) = true then _ else _) _ _ s
  rw [if_neg (by decide)]
  refine wpAny_bind (slicePart_none (wpAny_bind (slicePart_none (wpAny_bind (wpAny_pure ?_)))))
  show wpAny _ _ (match Builtin.Slice.sliceAdjust none none (-1) (n : Int) with | (l, u) => pure (l, (-1 : Int), Builtin.Slice.slicePlaces l u (-1))) _ _ s
  rw [(back_places n).1]
  show wpAny _ _ (pure ((n : Int) - 1, (-1 : Int), Builtin.Slice.slicePlaces ((n : Int) - 1) (-1) (-1))) _ _ s
  rw [(back_places n).2]
  exact wpAny_pure h
theorem pick_back (vs : List Value) : ((List.range vs.length).filterMap fun (m : Nat) => vs.toArray[((vs.length : Int) - 1 + (m : Int) * (-1)).toNat]?) = vs.reverse := by
  have key : ∀ k, k ≤ vs.length → ((List.range k).filterMap fun (m : Nat) => vs.toArray[((vs.length : Int) - 1 + (m : Int) * (-1)).toNat]?) = vs.reverse.take k := by
    intro k
    induction k with
    | zero => intro _; simp
    | succ k ih =>
      intro hk
      have e : (((vs.length : Int) - 1 + (k : Int) * (-1)).toNat) = vs.length - 1 - k := by omega
      have hr : vs.reverse[k]? = some vs[vs.length - 1 - k] := by
        rw [List.getElem?_reverse (by omega)]
        exact List.getElem?_eq_getElem (by omega)
      rw [List.range_succ, List.filterMap_append, ih (by omega), List.take_add_one, hr]
      congr 1
      simp only [List.filterMap_cons, List.filterMap_nil, e]
      have : vs.toArray[vs.length - 1 - k]? = some vs[vs.length - 1 - k] := by
        rw [List.getElem?_toArray]
        exact List.getElem?_eq_getElem (by omega)
      rw [this]
      rfl
  rw [key _ (Nat.le_refl _)]
  exact List.take_of_length_le (by simp)
theorem tuple_back {t sl : Addr} {vs : List Value} {vk : Value} {Q : Value → Shared → Prop} (tt : IsTup s.heap t vs.toArray) (hs : s.heap.IsSliceOf sl .none .none vk) (pk : IsPart vk (some (-1))) (hz : vs.length ≤ sizeLine)
    (h : Q (.ref s.heap.objs.size) { s with heap := s.heap.push { cls := .type "tuple", data := .seq vs.reverse.toArray } }) : wpAny (model prog w) A (getItem (.ref t) (.ref sl)) Q E s := by
  have room : sizeOk (.seq vs.reverse.toArray) := by
    show vs.reverse.toArray.size ≤ sizeLine
    rw [List.size_toArray, List.length_reverse]
    exact hz
  obtain ⟨so, h1, h2, h3⟩ := id hs
  have kind : s.TypeIs (.ref sl) "slice" := ⟨so, h1, h2⟩
  have no : ¬ ((((vs.length : Int) - 1) == 0 && (-1 : Int) == 1 && vs.length == vs.toArray.size) = true) := by simp
  unfold getItem
  try with_reducible refine wpAny_holding ?_
  first | refine wpAny_bind (wpAny_pure ?_) | skip
  refine wpAny_bind (wpAny_sequenceKey tt.typeIs (by decide) ?_)
  refine wpAny_bind (wpAny_callSpecial?_slot (name := Str.ofString "__getitem__") tt.typeIs PyProof.Rows.slot_tuple_getitem (wpAny_call_entry PyProof.Rows.slot_tuple_getitem tt.typeIs entry_tuple_getitem ?_ (args_tuple_getitem _ _)))
  show wpAny _ _ (Builtin.Tuple.tupleItemsOf (.ref t) >>= _) _ _ s
  refine wpAny_bind (tupleItemsOf_ tt (wpAny_bind (wpAny_typeOf kind ?_)))
  rw [if_pos (by decide)]
  have sz : vs.toArray.size = vs.length := List.size_toArray
  rw [sz]
  refine wpAny_bind (applied_back hs pk ?_)
  show wpAny _ _ (if (((vs.length : Int) - 1) == 0 && (-1 : Int) == 1 && vs.length == vs.toArray.size) = true then _ else _) _ _ s
  rw [if_neg no, pick_back]
  first
    | exact wpAny_bind (m := Builtin.Tuple.tupleExact _) (wpAny_newObj_type (wpAny_pure ⟨_, rfl, wpAny_pure h⟩) room)
    | exact wpAny_bind (m := Builtin.Tuple.tupleExact _) (wpAny_newObj_type (wpAny_bind (wpAny_pure (wpAny_pure ⟨_, rfl, wpAny_pure h⟩))) room)
    | exact wpAny_bind (wpAny_bind (m := Builtin.Tuple.tupleExact _) (wpAny_newObj_type (wpAny_pure (wpAny_pure ⟨_, rfl, wpAny_pure h⟩)) room))
    | exact wpAny_bind (wpAny_bind (m := Builtin.Tuple.tupleExact _) (wpAny_newObj_type (wpAny_pure ⟨_, rfl, wpAny_pure h⟩) room))
end
end L2

namespace L2
open PySem PySem.Spec PyProof.Rows
section
variable {X : Cx}
/-- t[::-1], a tuple or a list -/
def tRevT (K : PySem.W.Frag) (te : TE) : TE := fun σ H Q => te σ H fun x H1 => ∃ a xs, x = .ref a ∧ SqT K H1 a xs ∧ ∀ p, H1 p = none → Q (.ref p) (upd H1 p (.tup xs.reverse))
theorem pe_revT {e : Expr} {te : TE} {k : Nat} {p1 p2 p3 pos : Pos} (he : PE X e te) : PE X (.Subscript e (.Slice none none (some (.UnaryOp .USub (.Constant (.int 1) k p1) p2)) p3) pos) (tRevT X.K te) := by
  refine ⟨fun pins s σ H Q I h => ?_⟩
  refine Subscript_ (thn (he.run pins s σ H _ I h) fun v s1 ⟨x, H1, I1, r1, a, xs, ex, hx, q⟩ => ?_)
  subst ex
  cases r1
  have mk : PO X (some (.UnaryOp .USub (.Constant (.int 1) k p1) p2)) (tPart (tUn (rU fun i => .int (-i)) (tC (.int 1)))) := po_some (pe_un un_neg pe_int)
  refine wpAny_Slice (thn (po_none.run pins s1 σ H1 (fun o K => o = none ∧ K = H1) I1 ⟨rfl, rfl⟩) fun vl s2 ⟨l, H2, I2, pl, el, e2⟩ => ?_)
  subst el
  subst e2
  refine thn (po_none.run pins s2 σ H2 (fun o K => o = none ∧ K = H2) I2 ⟨rfl, rfl⟩) fun vu s3 ⟨u, H3, I3, pu, eu, e3⟩ => ?_
  subst eu
  subst e3
  refine thn (mk.run pins s3 σ H3 (fun o K => o = some (-1) ∧ K = H3) I3 ⟨1, rfl, -1, rfl, rfl, rfl⟩) fun vk s4 ⟨o, H4, I4, pk, eo, e4⟩ => ?_
  subst eo
  subst e4
  cases pl
  cases pu
  have I5 : Inv X pins σ H4 { s4 with heap := s4.heap.push { cls := .type "slice", data := .fields #[.none, .none, vk] } } := I4.kept (t' := s4.toks) fun b ob z => Heap.get?_push_of_some _ z
  obtain ⟨its, r, ht, hz⟩ := I5.tuple hx
  have hlen := r.length
  show wpAny (model X.prog X.w) X.A (subscriptTail e (.Slice none none (some (.UnaryOp .USub (.Constant (.int 1) k p1) p2)) p3) (.ref a) (.ref s4.heap.objs.size)) (EP X pins σ Q) X.xe _
  refine tail_any (ops := [.ref a, .ref s4.heap.objs.size]) ht.typeIs (PyProof.Rows.slot_tuple_getitem.lookup) ?_ (by with_unfolding_all rfl)
  refine tuple_back (vs := its) ht (Heap.IsSliceOf.new _ .none .none vk) pk (by omega) ?_
  refine ⟨.ref _, _, I5.laid (t' := s4.toks) (o := .tup xs.reverse) (fun b ob z => Heap.get?_push_of_some _ z) (Nat.le_refl _) ?_, rfl, q _ (I5.hok.fresh (Nat.le_refl _))⟩
  exact ⟨by rw [List.length_reverse]; exact hz, its.reverse, r.reverse, ⟨_, Heap.get?_push_size _ rfl, rfl, _, rfl⟩⟩
end
end L2
namespace BL
open PySem PySem.Spec PyProof.Rows L2
theorem PE.or {X : Cx} {e : Expr} {t t' : TE} (h : PE X e t) (h' : PE X e t') : PE X e (fun σ H Q => t σ H Q ∨ t' σ H Q) := ⟨fun pins s σ H Q I q => q.elim (h.run pins s σ H Q I) (h'.run pins s σ H Q I)⟩
def fRevQ (_ : List PV) : PV → Option PV
  | .lst xs => some (.lst xs.reverse)
  | .tup xs => some (.tup xs.reverse)
  | _ => none
section
variable {X : Cx} {C : Addr} {e : Expr} {ma : ME}
theorem xrevQ (h : PE X e (fun σ H Q => tRevL X.K (tM X.K C ma) σ H Q ∨ tRevT X.K (tM X.K C ma) σ H Q)) : PE X e (tM X.K C (mUn fRevQ ma)) := PE.weak h fun σ H Q ⟨W0, W, ρ, S, z, S', eH, R, em, q⟩ => by
  subst eH
  obtain ⟨x, e1, e2⟩ := mUn_inv em
  unfold fRevQ at e2
  split at e2
  · cases e2
    refine .inl ⟨W0, W, ρ, S, _, S', rfl, R, e1, fun v W1 R1 g1 r1 => ?_⟩
    cases r1 with
    | lst h a =>
      refine ⟨_, _, rfl, R1.i.s.seq (SqL.of h), fun p np => ?_⟩
      obtain ⟨g2, i2⟩ := laid (.lst _) R1.i np
      exact q _ _ (R1.ext g2 i2) (g1.trans g2) (.lst upd_same (a.rev.ext g2))
  · cases e2
    refine .inr ⟨W0, W, ρ, S, _, S', rfl, R, e1, fun v W1 R1 g1 r1 => ?_⟩
    cases r1 with
    | tup h a =>
      refine ⟨_, _, rfl, R1.i.s.seT h, fun p np => ?_⟩
      obtain ⟨g2, i2⟩ := laid (.tup _) R1.i np
      exact q _ _ (R1.ext g2 i2) (g1.trans g2) (.tup (SqT.of upd_same) (a.rev.ext g2))
  · cases e2
end
@[simp] theorem f_revL (S xs : List PV) : fRevQ S (.lst xs) = some (.lst xs.reverse) := rfl
@[simp] theorem f_revT (S xs : List PV) : fRevQ S (.tup xs) = some (.tup xs.reverse) := rfl
/-- a def that is called too deep: no promise -/
theorem okNone {P : Program} {w : World} {K : PySem.W.Frag} {mg : Str → Option Value} {base : Heap} {C : Addr} {f : Addr} {fd : FuncData} {ps : List Str} {k : Nat} : FnOk P w K mg base CX0 k f fd ps (spM K C (fun _ _ => none)) :=
  ⟨(fun _ _ _ _ h => by obtain ⟨_, _, _, _, _, _, _, _, e, _⟩ := h; cases e), (fun _ _ _ _ _ _ _ _ _ _ _ _ _ h => by obtain ⟨_, _, _, _, _, _, _, _, e, _⟩ := h; cases e)⟩
end BL

namespace BL
open PySem PySem.Spec PyProof.Rows L2
open C8 (Cal Mak pe_c pe_mk)
def m_law_boxCB (cc : Int) : MS := (mSeq (mAsg (.nm 2) (mIfE (mTru (mOp fLt (mVar 1) (mFn fLen (mCons (mVar 0) mNil)))) (mOp fIx (mVar 0) (mVar 1)) (mC (.int 0))))
  (mRet (mNewM (mCons (mOp fMulQ (mFn fAbs (mCons (mVar 2) mNil)) (mFn fIntQ (mCons (mOp fGe (mFn fAbs (mCons (mVar 2) mNil)) (mOp fPow (mC (.int 10)) (mC (.int 18)))) mNil))) (mCons (mOp fAdd (mOp fAdd (mOp fMod (mFn fIntQ (mCons (mVar 2) mNil)) (mC (.int 2305843009213693951))) (mOp fMulQ (mC (.int 39373)) (mVar 1))) (mC (.int cc))) (mCons (mC (.int 0)) mNil))))))
def m_law_boxC (cc : Int) : List PV → List PV → Option (PV × List PV) := mDef 2 3 (m_law_boxCB cc)
def m_law_takeB : MS := (mSeq (mIf (mTru (mOp fGt (mOp fIx (mVar 0) (mC (.int 0))) (mC (.int 0)))) (mSeq (mAsg (.nm 2) (mOp fMod (mFn fIntQ (mCons (mOp fIx (mVar 0) (mC (.int 0))) mNil)) (mVar 1)))
  (mSeq (mPutM (mVar 0) (mC (.int 0)) (mOp fDiv (mOp fIx (mVar 0) (mC (.int 0))) (mVar 1)))
  (mRet (mVar 2)))) mSkip)
  (mSeq (mPutM (mVar 0) (mC (.int 2)) (mOp fAdd (mOp fIx (mVar 0) (mC (.int 2))) (mC (.int 1))))
  (mSeq (mAsg (.nm 3) (mOp fMod (mFn fIntQ (mCons (mOp fMulQ (mOp fAdd (mOp fIx (mVar 0) (mC (.int 1))) (mOp fMulQ (mC (.int 48271)) (mOp fIx (mVar 0) (mC (.int 2))))) (mOp fAdd (mC (.int 39373)) (mOp fIx (mVar 0) (mC (.int 2))))) mNil)) (mC (.int 2147483647))))
  (mSeq (mAsg (.nm 4) (mOp fAdd (mOp fMod (mFn fIntQ (mCons (mVar 3) mNil)) (mC (.int 40009))) (mC (.int 7))))
  (mSeq (mAsg (.nm 5) (mOp fMod (mFn fIntQ (mCons (mOp fMulQ (mOp fAdd (mOp fAdd (mVar 3) (mOp fIx (mVar 0) (mC (.int 2)))) (mOp fDiv (mOp fIx (mVar 0) (mC (.int 1))) (mC (.int 1000003)))) (mVar 4)) mNil)) (mC (.int 2147483629))))
  (mRet (mOp fMod (mFn fIntQ (mCons (mOp fDiv (mOp fMod (mFn fIntQ (mCons (mOp fAdd (mOp fMulQ (mVar 5) (mC (.int 48271))) (mVar 3)) mNil)) (mC (.int 2147483587))) (mC (.int 64))) mNil)) (mVar 1))))))))
def m_law_take : List PV → List PV → Option (PV × List PV) := mDef 2 6 m_law_takeB
def m_law_ofB : MS := (mRet (mOp fIx (mVar 1) (mCall m_law_take (mCons (mVar 0) (mCons (mFn fLen (mCons (mVar 1) mNil)) mNil)))))
def m_law_of : List PV → List PV → Option (PV × List PV) := mDef 2 2 m_law_ofB
def m_heldB : MS := (mSeq (mIf (mAndT (mTru (mOp fNot (mVar 1) (mC .non))) (mTru (mOp fLt (mVar 0) (mVar 1)))) (mRet (mVar 1)) mSkip)
  (mSeq (mIf (mAndT (mTru (mOp fNot (mVar 2) (mC .non))) (mTru (mOp fGt (mVar 0) (mVar 2)))) (mRet (mVar 2)) mSkip)
  (mRet (mVar 0))))
def m_held : List PV → List PV → Option (PV × List PV) := mDef 3 3 m_heldB
def m_ledB : MS := (mSeq (mIf (mTru (mOp fIs (mSel (fun s _ _ => s) (mVar 0)) (mC .non))) (mRet (mSel (fun _ f _ => f) (mVar 0))) mSkip)
  (mRet (mCall m_held (mCons (mOp fAdd (mVar 1) (mSel (fun s _ _ => s) (mVar 0))) (mCons (mSel (fun _ f _ => f) (mVar 0)) (mCons (mSel (fun _ _ c => c) (mVar 0)) mNil))))))
def m_led : List PV → List PV → Option (PV × List PV) := mDef 2 2 m_ledB
def m_callB : MS := (mRet (mCall m_led (mCons (mVar 0) (mCons (mVar 1) mNil))))
def m_call : List PV → List PV → Option (PV × List PV) := mDef 2 2 m_callB
def m_rshB : MS := (mSeq (mIf (mNotT (mTru (mIsW (mVar 1)))) mDead mSkip)
  (mSeq (mAsg (.nm 2) (mOrV (mOp fIs (mSel (fun s _ _ => s) (mVar 0)) (mC .non)) (mOp fIs (mSel (fun s _ _ => s) (mVar 1)) (mC .non))))
  (mSeq (mAsg (.nm 3) (mIfE (mTru (mVar 2)) (mC .non) (mOp fAdd (mSel (fun s _ _ => s) (mVar 0)) (mSel (fun s _ _ => s) (mVar 1)))))
  (mSeq (mAsg (.nm 4) (mIfE (mTru (mOp fIs (mSel (fun _ f _ => f) (mVar 0)) (mC .non))) (mSel (fun _ f _ => f) (mVar 1)) (mCall m_led (mCons (mVar 1) (mCons (mSel (fun _ f _ => f) (mVar 0)) mNil)))))
  (mSeq (mAsg (.nm 5) (mIfE (mTru (mOp fIs (mSel (fun _ _ c => c) (mVar 0)) (mC .non))) (mSel (fun _ _ c => c) (mVar 1)) (mCall m_led (mCons (mVar 1) (mCons (mSel (fun _ _ c => c) (mVar 0)) mNil)))))
  (mRet (mFn fWay (mCons (mVar 3) (mCons (mVar 4) (mCons (mVar 5) mNil))))))))))
def m_rsh : List PV → List PV → Option (PV × List PV) := mDef 2 6 m_rshB
def m_mulB : MS := (mSeq (mIf (mNotT (mTru (mIsT "int" (mVar 1)))) mDead mSkip)
  (mSeq (mIf (mTru (mOp fEq (mVar 1) (mC (.int 0)))) (mRet (mFn fWay (mCons (mC (.int 0)) mNil))) mSkip)
  (mSeq (mIf (mTru (mOp fIs (mSel (fun s _ _ => s) (mVar 0)) (mC .non))) (mRet (mFn fWay (mCons (mC .non) (mCons (mSel (fun _ f _ => f) (mVar 0)) (mCons (mSel (fun _ _ c => c) (mVar 0)) mNil))))) mSkip)
  (mSeq (mAsg (.nm 2) (mOp fMulQ (mSel (fun s _ _ => s) (mVar 0)) (mOp fSub (mVar 1) (mC (.int 1)))))
  (mSeq (mAsg (.nm 3) (mIfE (mTru (mOp fIs (mSel (fun _ f _ => f) (mVar 0)) (mC .non))) (mC .non) (mCall m_held (mCons (mOp fAdd (mSel (fun _ f _ => f) (mVar 0)) (mVar 2)) (mCons (mSel (fun _ f _ => f) (mVar 0)) (mCons (mSel (fun _ _ c => c) (mVar 0)) mNil))))))
  (mSeq (mAsg (.nm 4) (mIfE (mTru (mOp fIs (mSel (fun _ _ c => c) (mVar 0)) (mC .non))) (mC .non) (mCall m_held (mCons (mOp fAdd (mSel (fun _ _ c => c) (mVar 0)) (mVar 2)) (mCons (mSel (fun _ f _ => f) (mVar 0)) (mCons (mSel (fun _ _ c => c) (mVar 0)) mNil))))))
  (mRet (mFn fWay (mCons (mOp fAdd (mSel (fun s _ _ => s) (mVar 0)) (mVar 2)) (mCons (mVar 3) (mCons (mVar 4) mNil)))))))))))
def m_mul : List PV → List PV → Option (PV × List PV) := mDef 2 5 m_mulB
def m_eqB : MS := (mRet (mAndV (mIsW (mVar 1)) (mAndV (mOp fEq (mSel (fun s _ _ => s) (mVar 0)) (mSel (fun s _ _ => s) (mVar 1))) (mAndV (mOp fEq (mSel (fun _ f _ => f) (mVar 0)) (mSel (fun _ f _ => f) (mVar 1))) (mOp fEq (mSel (fun _ _ c => c) (mVar 0)) (mSel (fun _ _ c => c) (mVar 1)))))))
def m_eq : List PV → List PV → Option (PV × List PV) := mDef 2 2 m_eqB
def m_is_numberB : MS := (mRet (mAndV (mIsT "int" (mVar 0)) (mNotV (mIsT "bool" (mVar 0)))))
def m_is_number : List PV → List PV → Option (PV × List PV) := mDef 1 1 m_is_numberB
def m_level_behindB : MS := (mSeq (mAsg (.tp [2, 3]) (mVar 0))
  (mSeq (mIf (mTru (mOp fEq (mVar 2) (mC (.str "add")))) (mRet (mOp fAdd (mVar 1) (mVar 3))) mSkip)
  (mSeq (mIf (mTru (mOp fEq (mVar 2) (mC (.str "floor")))) (mRet (mFn fMax2 (mCons (mVar 1) (mCons (mVar 3) mNil)))) mSkip)
  (mRet (mFn fMin2 (mCons (mVar 1) (mCons (mVar 3) mNil)))))))
def m_level_behind : List PV → List PV → Option (PV × List PV) := mDef 2 4 m_level_behindB
def m_end_ofF1 : MS := (mAsg (.nm 2) (mCall m_level_behind (mCons (mVar 3) (mCons (mVar 2) mNil))))
def m_end_ofB : MS := (mSeq (mAsg (.nm 2) (mVar 1))
  (mSeq (mFor (.nm 3) (mSeqI (mVar 0)) m_end_ofF1)
  (mRet (mVar 2))))
def m_end_of : List PV → List PV → Option (PV × List PV) := mDef 2 4 m_end_ofB
def m_event_wayB : MS := (mSeq (mAsg (.tp [1, 2]) (mVar 0))
  (mSeq (mIf (mTru (mOp fEq (mVar 1) (mC (.str "add")))) (mRet (mFn fWay (mCons (mVar 2) mNil))) mSkip)
  (mSeq (mIf (mTru (mOp fEq (mVar 1) (mC (.str "floor")))) (mRet (mFn fWay (mCons (mC (.int 0)) (mCons (mVar 2) mNil)))) mSkip)
  (mRet (mFn fWay (mCons (mC (.int 0)) (mCons (mC .non) (mCons (mVar 2) mNil))))))))
def m_event_way : List PV → List PV → Option (PV × List PV) := mDef 1 3 m_event_wayB
def m_way_ofF1 : MS := (mAsg (.nm 1) (mBin m_rsh (mVar 1) (mCall m_event_way (mCons (mVar 2) mNil))))
def m_way_ofB : MS := (mSeq (mAsg (.nm 1) (mFn fWay (mCons (mC (.int 0)) mNil)))
  (mSeq (mFor (.nm 2) (mSeqI (mVar 0)) m_way_ofF1)
  (mRet (mVar 1))))
def m_way_of : List PV → List PV → Option (PV × List PV) := mDef 1 3 m_way_ofB
def m_telling_startsB : MS := (mSeq (mAsg (.nm 2) (mLc (.nm 5) (mSeqI (mTup (mCons (mVar 0) (mCons (mVar 1) mNil)))) (mTru (mOp fNot (mSel (fun s _ _ => s) (mVar 5)) (mC .non))) (mSel (fun s _ _ => s) (mVar 5)) [5]))
  (mSeq (mAsg (.nm 3) (mLc2 (.nm 5) (mSeqI (mTup (mCons (mVar 0) (mCons (mVar 1) mNil)))) mYes (.nm 6) (mSeqI (mTup (mCons (mSel (fun _ f _ => f) (mVar 5)) (mCons (mSel (fun _ _ c => c) (mVar 5)) mNil)))) (mTru (mOp fNot (mVar 6) (mC .non))) (mVar 6) [5, 6] [6]))
  (mSeq (mAsg (.nm 4) (mUn fSset (mOp fAdd (mLst (mCons (mC (.int 0)) mNil)) (mLc2 (.nm 6) (mSeqI (mVar 3)) mYes (.nm 7) (mSeqI (mVar 2)) mYes (mOp fSub (mVar 6) (mVar 7)) [6, 7] [7]))))
  (mRet (mLst (mCons (mOp fSub (mOp fIx (mVar 4) (mC (.int 0))) (mC (.int 1))) (mStar (mVar 4) (mCons (mOp fAdd (mOp fIx (mVar 4) (mUn fNeg (mC (.int 1)))) (mC (.int 1))) mNil))))))))
def m_telling_starts : List PV → List PV → Option (PV × List PV) := mDef 2 8 m_telling_startsB
def m_first_partingF1 : MS := (mIf (mTru (mOp fNe (mCalled m_call (mVar 0) (mCons (mVar 3) mNil)) (mCalled m_call (mVar 1) (mCons (mVar 3) mNil)))) (mRet (mVar 3)) mSkip)
def m_first_partingB : MS := (mSeq (mFor (.nm 3) (mSeqI (mVar 2)) m_first_partingF1)
  (mRet (mC .non)))
def m_first_parting : List PV → List PV → Option (PV × List PV) := mDef 3 4 m_first_partingB
def m_parting_startB : MS := (mSeq (mPar 2 3 (mCons (mCall m_way_of (mCons (mVar 0) mNil)) (mCons (mCall m_way_of (mCons (mVar 1) mNil)) mNil)))
  (mRet (mCall m_first_parting (mCons (mVar 2) (mCons (mVar 3) (mCons (mCall m_telling_starts (mCons (mVar 2) (mCons (mVar 3) mNil))) mNil))))))
def m_parting_start : List PV → List PV → Option (PV × List PV) := mDef 2 4 m_parting_startB
def m_alikeB : MS := (mRet (mBin m_eq (mCall m_way_of (mCons (mVar 0) mNil)) (mCall m_way_of (mCons (mVar 1) mNil))))
def m_alike : List PV → List PV → Option (PV × List PV) := mDef 2 2 m_alikeB
def m_is_partingB : MS := (mRet (mAndV (mCall m_is_number (mCons (mVar 2) mNil)) (mOp fNe (mCall m_end_of (mCons (mVar 0) (mCons (mVar 2) mNil))) (mCall m_end_of (mCons (mVar 1) (mCons (mVar 2) mNil))))))
def m_is_parting : List PV → List PV → Option (PV × List PV) := mDef 3 3 m_is_partingB
def m_law_listsB (rc : List PV → List PV → Option (PV × List PV)) : MS := (mRet (mIfE (mTru (mIsT2 "list" "tuple" (mVar 0))) (mLc (.nm 1) (mSeqI (mVar 0)) mYes (mCall rc (mCons (mVar 1) mNil)) [1]) (mVar 0)))
def m_law_lists : Nat → List PV → List PV → Option (PV × List PV)
  | 0 => fun _ _ => none
  | n + 1 => mDef 1 2 (m_law_listsB (m_law_lists n))
def m_law_doneB : MS := (mSeq (mIf (mTru (mOp fEq (mOp fIx (mVar 1) (mC (.int 0))) (mC (.str "add")))) (mRet (mOp fAdd (mVar 0) (mOp fIx (mVar 1) (mC (.int 1))))) mSkip)
  (mRet (mIfE (mTru (mOp fEq (mOp fIx (mVar 1) (mC (.int 0))) (mC (.str "floor")))) (mFn fMax2 (mCons (mVar 0) (mCons (mOp fIx (mVar 1) (mC (.int 1))) mNil))) (mFn fMin2 (mCons (mVar 0) (mCons (mOp fIx (mVar 1) (mC (.int 1))) mNil))))))
def m_law_done : List PV → List PV → Option (PV × List PV) := mDef 2 2 m_law_doneB
def m_law_endedF1 : MS := (mAsg (.nm 1) (mCall m_law_done (mCons (mVar 1) (mCons (mVar 2) mNil))))
def m_law_endedB : MS := (mSeq (mFor (.nm 2) (mSeqI (mVar 0)) m_law_endedF1)
  (mRet (mVar 1)))
def m_law_ended : List PV → List PV → Option (PV × List PV) := mDef 2 3 m_law_endedB
def m_law_sizeB : MS := (mRet (mCall m_law_of (mCons (mVar 0) (mCons (mLst (mCons (mC (.int 1)) (mCons (mC (.int 1)) (mCons (mC (.int 1)) (mCons (mC (.int 7)) (mCons (mOp fPow (mC (.int 10)) (mC (.int 28))) mNil)))))) mNil))))
def m_law_size : List PV → List PV → Option (PV × List PV) := mDef 1 1 m_law_sizeB
def m_law_rungF1 : MS := (mSeq (mAsg (.nm 5) (mCall m_law_of (mCons (mVar 0) (mCons (mLst (mCons (mC (.str "add")) (mCons (mC (.str "add")) (mCons (mC (.str "floor")) (mCons (mC (.str "cap")) mNil))))) mNil))))
  (mApp 3 (mTup (mCons (mVar 5) (mCons (mOp fMulQ (mOp fSub (mCall m_law_take (mCons (mVar 0) (mCons (mC (.int 13)) mNil))) (mC (.int 6))) (mVar 2)) mNil)))))
def m_law_rungB : MS := (mSeq (mNewO 3 mNil)
  (mSeq (mFor (.nm 4) (mRng1 (mCall m_law_take (mCons (mVar 0) (mCons (mOp fAdd (mVar 1) (mC (.int 1))) mNil)))) m_law_rungF1)
  (mFrz 3 (mRet (mFn fTuple (mCons (mVar 3) mNil))))))
def m_law_rung : List PV → List PV → Option (PV × List PV) := mDef 3 6 m_law_rungB
def m_law_nearB : MS := (mSeq (mPar 3 4 (mCons (mCall m_law_take (mCons (mVar 0) (mCons (mOp fAdd (mFn fLen (mCons (mVar 1) mNil)) (mC (.int 1))) mNil))) (mCons (mCall m_law_take (mCons (mVar 0) (mCons (mC (.int 6)) mNil))) mNil)))
  (mSeq (mPar 5 6 (mCons (mSl (mVar 1) mP0 (mP1 (mVar 3))) (mCons (mSl (mVar 1) (mP1 (mVar 3)) mP0) mNil)))
  (mSeq (mIf (mOrT (mTru (mOp fEq (mVar 4) (mC (.int 0)))) (mTru (mOp fEq (mVar 6) (mTup mNil)))) (mRet (mOp fAdd (mOp fAdd (mVar 5) (mTup (mCons (mTup (mCons (mC (.str "add")) (mCons (mC (.int 0)) mNil))) mNil))) (mVar 6))) mSkip)
  (mSeq (mIf (mTru (mOp fEq (mVar 4) (mC (.int 1)))) (mRet (mOp fAdd (mOp fAdd (mVar 5) (mSl (mVar 6) mP0 (mP1 (mC (.int 1))))) (mVar 6))) mSkip)
  (mSeq (mIf (mTru (mOp fEq (mVar 4) (mC (.int 2)))) (mRet (mOp fAdd (mVar 5) (mSl (mVar 6) (mP1 (mC (.int 1))) mP0))) mSkip)
  (mSeq (mIf (mTru (mOp fEq (mVar 4) (mC (.int 3)))) (mRet (mOp fAdd (mOp fAdd (mOp fAdd (mVar 5) (mSl (mVar 6) (mP1 (mC (.int 1))) (mP1 (mC (.int 2))))) (mSl (mVar 6) mP0 (mP1 (mC (.int 1))))) (mSl (mVar 6) (mP1 (mC (.int 2))) mP0))) mSkip)
  (mSeq (mIf (mTru (mOp fEq (mVar 4) (mC (.int 4)))) (mSeq (mAsg (.tp [7, 8]) (mOp fIx (mVar 6) (mC (.int 0))))
  (mRet (mOp fAdd (mOp fAdd (mVar 5) (mTup (mCons (mTup (mCons (mVar 7) (mCons (mOp fAdd (mVar 8) (mOp fMulQ (mCall m_law_of (mCons (mVar 0) (mCons (mLst (mCons (mUn fNeg (mC (.int 1))) (mCons (mC (.int 1)) mNil))) mNil))) (mVar 2))) mNil))) mNil))) (mSl (mVar 6) (mP1 (mC (.int 1))) mP0)))) mSkip)
  (mRet (mVar 1)))))))))
def m_law_near : List PV → List PV → Option (PV × List PV) := mDef 3 9 m_law_nearB
def m_law_parts_themB : MS := (mRet (mAndV (mIsT "int" (mVar 2)) (mAndV (mNotV (mIsT "bool" (mVar 2))) (mOp fNe (mCall m_law_ended (mCons (mVar 0) (mCons (mVar 2) mNil))) (mCall m_law_ended (mCons (mVar 1) (mCons (mVar 2) mNil)))))))
def m_law_parts_them : List PV → List PV → Option (PV × List PV) := mDef 3 3 m_law_parts_themB
def m_law_startsF1 : MS := (mApp 1 (mOp fAdd (mOp fMulQ (mVar 2) (mVar 0)) (mVar 3)))
def m_law_startsF2 : MS := (mFor (.nm 3) (mSeqI (mIfE (mTru (mOp fGt (mVar 0) (mC (.int 1)))) (mTup (mCons (mUn fNeg (mC (.int 1))) (mCons (mC (.int 0)) (mCons (mC (.int 1)) mNil)))) (mTup (mCons (mC (.int 0)) mNil)))) m_law_startsF1)
def m_law_startsB : MS := (mSeq (mNewO 1 mNil)
  (mSeq (mFor (.nm 2) (mRng2 (mUn fNeg (mC (.int 90))) (mC (.int 91))) m_law_startsF2)
  (mFrz 1 (mRet (mVar 1)))))
def m_law_starts : List PV → List PV → Option (PV × List PV) := mDef 1 4 m_law_startsB
end BL

namespace BL
open PySem PySem.Spec PyProof.Rows L2
/-- the scope of a comprehension, the value of an assignment -/
def scopeOf : Expr → PySem.Scope
  | .ListComp _ _ sc _ => sc
  | _ => defScope (.Pass ⟨0, 0, 0, 0⟩)
def eltOf : Expr → Expr
  | .ListComp e _ _ _ => e
  | e => e
def argOf : Expr → Expr
  | .Call _ (a :: _) _ _ => a
  | e => e
def stVal : Stmt → Expr
  | .Assign _ e _ => e
  | _ => .Constant .none 0 ⟨0, 0, 0, 0⟩
/-! a module's constant tuple; x in it; lists that a def makes and hands over -/
section
variable {X : Cx} {C : Addr} {pos : Pos} {st : Stmt} {rest : List Stmt} {e : Expr} {ms mr : MS} {ma : ME} {mes : MA}
theorem xgtup {x : Str} {a : Addr} {vs : List V} {xs : List PV} (hg : Gl X x) (hm : X.mg x = some (.ref a)) (hk : ∀ F : Hp, SqT X.K F a vs) (hr : ∀ (F : Hp) (θ : List Addr), RepAll X.K C F θ vs xs) (hd : (x == ("__debug__" : Str)) = false := by decide) : PE X (.Name x pos) (tM X.K C (mC (.tup xs))) := PE.weak (pe_glob (v := .ref a) hg hm rfl hd) fun σ H Q ⟨W0, W, ρ, S, z, S', eH, R, em, q⟩ => by
  subst eH
  cases em
  exact q _ W R (Gro.refl _) (.tup (hk W.F) (hr _ _))
def rInDT (K : PySem.W.Frag) : R2 := fun x y H Q => ∃ d ds, Dp K H x d ∧ Dp K H y (.tuple ds) ∧ SeqAt.shaped d = true ∧ SeqAt.shaped (.tuple ds) = true ∧ Q (.bl (ds.any fun z => PyData.eqv z d)) H
theorem room_in_shapedT {A : Around} {ds : List PyData} {d : PyData} (h : SeqAt.shaped d = true) (hu : A.units + 65 < cLine) : A.units + 1 + min (PyData.depthAll ds) d.depth < cLine := by
  have h1 := SeqAt.depth_of_shaped h
  have h2 : min (PyData.depthAll ds) d.depth ≤ d.depth := Nat.min_le_right _ _
  omega
theorem op_inDT (hu : X.A.units + 65 < cLine) : OpR X (compareOp .In) (rInDT X.K) := by
  intro pins s σ H x y v u Q I rx ry h
  obtain ⟨d, ds, hd, he, sd, se, q⟩ := h
  obtain ⟨as, r1⟩ := Dp.reads I d x v hd rx
  obtain ⟨bs, r2⟩ := Dp.reads I (.tuple ds) y u he ry
  exact SeqAt.in_tuple_reads r2 r1 (SeqAt.canLay_of_shaped se) (SeqAt.canLay_of_shaped sd) (room_in_shapedT sd hu) ⟨.bl _, H, I, rfl, q⟩
def fInDT (_ : List PV) (x y : PV) : Option PV := match x.toD, (match y with | .tup ys => PV.toD.toDs ys | _ => none) with
  | some d, some ds => if SeqAt.shaped d && SeqAt.shaped (.tuple ds) then some (.bl (ds.any fun z => PyData.eqv z d)) else none
  | _, _ => none
theorem l_inDT {K : PySem.W.Frag} : LR2 K C (rInDT K) fInDT := fun W S v u x y z Q i rx ry e q => by
  unfold fInDT at e
  split at e
  · rename_i d ds h1 h2
    split at e
    · rename_i h
      cases e
      rw [Bool.and_eq_true] at h
      cases ry with
      | tup hF ra => exact ⟨d, ds, Dp.monoS i.s (rx.dp h1), Dp.monoS i.s (.tup hF (RepAll.dp ra h2)), h.1, h.2, q _ W (Gro.refl _) i (.bl _)⟩
      | _ => cases h2
    · cases e
  · cases e
def fMulT (_ : List PV) : PV → PV → Option PV
  | .tup xs, .int k => if xs.length ≠ 0 ∧ 2 ≤ k ∧ k ≤ 1000 ∧ xs.length ≤ 1000 then some (.tup (List.replicate k.toNat xs).flatten) else none
  | _, _ => none
theorem l_mulT {K : PySem.W.Frag} : LR2 K C (rRepT K) fMulT := fun W S v u x y z Q i rx ry e q => by
  unfold fMulT at e
  split at e
  · rename_i xs k
    split at e
    · rename_i h
      cases e
      cases rx with
      | tup hF ra =>
      cases ry
      refine ⟨_, k, _, rfl, rfl, i.s.seT hF, fun z => h.1 (by rw [← ra.len, z]; rfl), h.2.1, h.2.2.1, by rw [ra.len]; exact h.2.2.2, fun p np => ?_⟩
      obtain ⟨g, i2⟩ := laid (.tup (List.replicate k.toNat _).flatten) i np
      exact q _ _ g i2 (.tup (SqT.of upd_same) ((rep_flat ra _).ext g))
    · cases e
  · cases e
/-! -/
/-- what a block does that ends with an own list handed over -/
def tMSO (K : PySem.W.Frag) (C : Addr) (m : MS) : TS := fun D σ H => ∃ W0 W ρ S x S', H = W.H ∧ Rel K C W0 W σ ρ S ∧ m ρ S = some (.rt x S') ∧ ∀ a W', Gro W0 W' → Inv1 K C W' S' → OwnAt K C W0 W' a x → D.rt (.ref a) W'.H
def spO (K : PySem.W.Frag) (C : Addr) (m : List PV → List PV → Option (PV × List PV)) : Sp := fun vs H Q _ => ∃ W S xs x S', H = W.H ∧ Inv1 K C W S ∧ RepAll K C W.F W.θ vs xs ∧ m xs S = some (x, S') ∧ ∀ a W', Gro W W' → Inv1 K C W' S' → OwnAt K C W W' a x → Q (.ref a) W'.H
def mSeqN (ms mr : MS) : MS := fun ρ S => match ms ρ S with
  | some (.nx ρ1 S1) => mr ρ1 S1
  | _ => none
theorem xsconsO (h : PS X st (tMS X.K C ms)) (hr : PSs X rest (tMSO X.K C mr)) : PSs X (st :: rest) (tMSO X.K C (mSeqN ms mr)) := PSs.weak (pss_cons h hr) fun D σ H ⟨W0, W, ρ, S, x, S', eH, R, em, p⟩ => by
  subst eH
  unfold mSeqN at em
  split at em
  · rename_i ρ1 S1 e1
    exact ⟨W0, W, ρ, S, _, rfl, R, e1, fun σ' W' g R' => ⟨W0, W', ρ1, S1, x, S', rfl, R', em, p⟩⟩
  · cases em
def mRetO (i : Nat) : MS := fun ρ S => match ρ[i]? with
  | some (.own x) => some (.rt x S)
  | _ => none
theorem xretO {i : Nat} (h : PE X e (tVar i)) : PSs X [.Return (some e) pos] (tMSO X.K C (mRetO i)) := PSs.weak (pss_one (ps_ret h)) fun D σ H ⟨W0, W, ρ, S, x, S', eH, R, em, p⟩ => by
  subst eH
  unfold mRetO at em
  split at em
  · rename_i y hy
    cases em
    obtain ⟨a, ea, o⟩ := R.s i _ hy
    exact ⟨_, ea, p a W R.e R.i o⟩
  · cases em
def mDefO (np nN : Nat) (m : MS) : List PV → List PV → Option (PV × List PV) := fun xs S => if xs.length = np then match m (xs.map .val ++ List.replicate (nN - np) .un) S with
    | some (.rt x S') => some (x, S')
    | _ => none
  else none
theorem start_rel {K : PySem.W.Frag} {N ps : List Str} {vs : List V} {xs : List PV} {W : Wd} {S : List PV} (i : Inv1 K C W S) (r : RepAll K C W.F W.θ vs xs) (hl : xs.length = ps.length) : Rel K C W W (L2.start N vs) (xs.map .val ++ List.replicate (N.length - ps.length) .un) S := by
  refine ⟨Gro.refl _, i, ?_, fun j sl hj => ?_, fun j k y z a h1 _ _ _ => ?_⟩
  · unfold L2.start
    rw [List.length_append, List.length_append, List.length_map, List.length_map, List.length_replicate, List.length_replicate, r.len, hl]
  · by_cases c : j < xs.length
    · rw [List.getElem?_append_left (by rw [List.length_map]; exact c), List.getElem?_map, List.getElem?_eq_getElem c] at hj
      cases hj
      obtain ⟨v, ev, rv⟩ := r.at (List.getElem?_eq_getElem c)
      refine ⟨v, ?_, rv⟩
      unfold L2.start
      rw [List.getElem?_append_left (by rw [List.length_map, r.len]; exact c), List.getElem?_map, ev]
      rfl
    · rw [List.getElem?_append_right (by rw [List.length_map]; omega), List.getElem?_replicate] at hj
      split at hj
      · cases hj
        trivial
      · cases hj
  · by_cases c : j < xs.length
    · rw [List.getElem?_append_left (by rw [List.length_map]; exact c), List.getElem?_map, List.getElem?_eq_getElem c] at h1
      cases h1
    · rw [List.getElem?_append_right (by rw [List.length_map]; omega), List.getElem?_replicate] at h1
      split at h1
      · cases h1
      · cases h1
theorem okMO {P : Program} {w : World} {K : PySem.W.Frag} {mg : Str → Option Value} {base : Heap} {C : Addr} {x qual : Str} {st : Stmt} {f : Addr} {fd : FuncData} {N ps : List Str} {k : Nat} {m : MS} (F : Fun K x qual st f fd) (Sc : FnScope N ps (defScope st))
    (hb : ∀ (cdv : Value) (A : Around) (outer : List Env) (s : Shared) (H : Hp) (E : XK), Room k (A.deeper (envOfC qual (defScope st) s.heap.objs.size f cdv)) → PSs (cxOf CX0 P w K mg base N qual (defScope st) f cdv A outer s H E).nox (defBody st) (tMSO K C m)) :
    FnOk P w K mg base CX0 (k + 1) f fd ps (spO K C (mDefO ps.length N.length m)) := by
  refine F.ok Sc (fun vs H Q E h => ?_) (fun cdv A outer s H vs Q E hr h => ?_)
  · obtain ⟨W, S, xs, x, S', eH, i, r, em, q⟩ := h
    unfold mDefO at em
    split at em
    · rename_i hl
      rw [r.len, hl]
    · cases em
  · refine ⟨_, hb cdv A outer s H E hr, ?_⟩
    obtain ⟨W, S, xs, x, S', eH, i, r, em, q⟩ := h
    subst eH
    unfold mDefO at em
    split at em
    · rename_i hl
      have hl2 : vs.length = ps.length := by rw [r.len, hl]
      have R := start_rel (N := N) i r hl
      split at em
      · rename_i y S1 e1
        cases em
        exact ⟨W, W, _, S, _, _, rfl, R, e1, fun a W' g i o => q a W' g i o⟩
      · cases em
    · cases em
theorem spO_of {K : PySem.W.Frag} {C : Addr} {m : List PV → List PV → Option (PV × List PV)} {vs : List V} {H : Hp} {Q : VK} {E : XK} (h : spM K C m vs H Q E) : spO K C m vs H Q E := by
  obtain ⟨W, S, xs, x, S', eH, i, r, em, q⟩ := h
  refine ⟨W, S, xs, x, S', eH, i, r, em, fun a W' g i' o => ?_⟩
  have R : Rel K C W W' [some (.ref a)] [.own x] S' := by
    refine ⟨g, i', rfl, fun j sl hj => ?_, fun j k y z b h1 h2 _ _ => ?_⟩
    · cases j with
      | zero => cases hj; exact ⟨a, rfl, o⟩
      | succ j => cases hj
    · cases j with
      | zero => cases k with
        | zero => rfl
        | succ k => cases h2
      | succ j => cases h1
  obtain ⟨W2, e2, g2, R2, _⟩ := R.frz (i := 0) rfl
  obtain ⟨u, eu, ru⟩ := R2.s 0 _ rfl
  cases eu
  rw [← e2]
  exact q _ W2 R2.e R2.i ru
def mNewC (i : Nat) (f : List PV → List PV → Option (PV × List PV)) (ma : MA) : MS := fun ρ S => match ma ρ S with
  | some (xs, S1) => match f xs S1 with
    | some (y, S2) => if i < ρ.length then some (.nx (ρ.set i (.own y)) S2) else none
    | none => none
  | none => none
theorem xnewC {i : Nat} {f : List PV → List PV → Option (PV × List PV)} {E : XK} (h : PS X st (tAsg (tCall (spO X.K C f) [] E (tMA X.K C mes)) (gName i))) : PS X st (tMS X.K C (mNewC i f mes)) := PS.weak h fun D σ H ⟨W0, W, ρ, S, out, eH, R, em, p⟩ => by
  subst eH
  unfold mNewC at em
  split at em
  · rename_i xs S1 e1
    split at em
    · rename_i y S2 e2
      split at em
      · rename_i hl
        cases em
        refine ⟨W0, W, ρ, S, xs, S1, rfl, R, e1, fun vs W1 R1 g1 r1 => ⟨W1, S1, xs, y, S2, rfl, R1.i, by rw [List.append_nil]; exact r1, e2, fun a W2 g2 i2 o => ?_⟩⟩
        have R2 := R1.ext g2 i2
        obtain ⟨o1, o2, o3, o4⟩ := o
        refine p _ W2 (g1.trans g2).groF (R2.seto i ⟨?_, o2, o3, o4⟩ hl fun j z hj hs => ?_)
        · cases c : W0.H a with
          | none => rfl
          | some ob =>
            obtain ⟨o', e'⟩ := R1.e.k a ob c
            rw [o1] at e'
            cases e'
        · obtain ⟨b, eb, p1, p2, p3, p4⟩ := R1.s j _ hj
          rw [hs] at eb
          cases eb
          obtain ⟨ob, eo⟩ := p4.laid
          rw [o1] at eo
          cases eo
      · cases em
    · cases em
  · cases em
/-- an own list lent to a list that is compared and thrown away -/
def flatL : PV → Bool
  | .lst xs => xs.all PV.flat
  | _ => false
def mLoan (i j : Nat) (mb : ME) (mt : MT) : MS := fun ρ S => match ρ[i]? with
  | some (.own x) => match mb (ρ.set i (.val x)) S with
    | some (y, S1) => match mt ((ρ.set i (.val x)).set j (.val y)) S1 with
      | some (false, S2) => if S2.all flatL = true ∧ j < ρ.length ∧ j ≠ i then some (.nx (ρ.set j .un) S2) else none
      | _ => none
    | none => none
  | _ => none
theorem flat_all {K : PySem.W.Frag} {F F' : Hp} {θ : List Addr} : ∀ {vs : List V} {xs : List PV}, xs.all PV.flat = true → RepAll K C F θ vs xs → RepAll K C F' θ vs xs
  | _, _, _, .nil => .nil
  | _, x :: xs, h, .cons r a => by
    rw [List.all_cons, Bool.and_eq_true] at h
    refine .cons ?_ (flat_all h.2 a)
    have h1 := h.1
    cases r with
    | non => exact .non
    | bl b => exact .bl b
    | int i => exact .int i
    | str y => exact .str y
    | exc _ _ _ _ _ _ => cases h1
    | exn _ _ _ => cases h1
    | lst _ _ => cases h1
    | tup _ _ => cases h1
    | way _ => cases h1
    | mref _ => cases h1
theorem xloan {stB stC : Stmt} {i j : Nat} {mt : MT} {tb : TS} (hB : PS X stB (tAsg (tM X.K C ma) (gName j))) (hC : PS X stC (tIfS (tMT X.K C mt) tb tNext)) (hr : PSs X rest (tMS X.K C mr)) : PSs X (stB :: stC :: rest) (tMS X.K C (mSeq (mLoan i j ma mt) mr)) := PSs.weak (pss_cons hB (pss_cons hC hr)) fun D σ H ⟨W0, W, ρ, S, out, eH, R, em, p⟩ => by
  subst eH
  unfold mSeq at em
  unfold mLoan at em
  cases hx : ρ[i]? with
  | none => rw [hx] at em; cases em; 
  | some sl =>
  rw [hx] at em
  cases sl with
  | un => cases em
  | val _ => cases em
  | own x =>
  simp only at em
  obtain ⟨W', eH', gF, R', _⟩ := R.frz hx
  cases h1 : ma (ρ.set i (.val x)) S with
  | none => rw [h1] at em; cases em
  | some y1 =>
  obtain ⟨y, S1⟩ := y1
  rw [h1] at em
  simp only at em
  cases h2 : mt ((ρ.set i (.val x)).set j (.val y)) S1 with
  | none => rw [h2] at em; cases em
  | some b2 =>
  obtain ⟨b, S2⟩ := b2
  rw [h2] at em
  cases b with
  | true => cases em
  | false =>
  simp only at em
  split at em
  · rename_i e0
    split at e0
    · rename_i hc
      cases e0
      refine ⟨W0, W', _, S, y, S1, eH'.symm, R', h1, fun v W1 R1 g1 r1 => ?_⟩
      refine ⟨W0, W1, _, S1, false, S2, rfl, R1.setv j r1 (by rw [List.length_set]; exact hc.2.1), h2, fun W2 R2 g2 => ?_⟩
      have g := g1.trans g2
      have eθ : W'.θ = W.θ := by
        obtain ⟨r, er⟩ := gF.t
        have l1 := R.i.len
        have l2 := R'.i.len
        rw [er, List.length_append] at l2
        have : r = [] := List.length_eq_zero_iff.mp (by omega)
        rw [er, this, List.append_nil]
      have sF : Same W.F W2.F := gF.f.trans g.f
      have G : Gro W ⟨W.F, W2.H, W2.θ⟩ := by
        refine ⟨Same.refl _, ?_, fun q o e ni => ?_, fun q o e => ?_, fun q o e z => z⟩
        · obtain ⟨r, er, fr⟩ := g.t
          refine ⟨r, by rw [← eθ]; exact er, fun q hq => ?_⟩
          rw [← eH']; exact fr q hq
        · exact g.h q o (by rw [eH']; exact e) (by rw [eθ]; exact ni)
        · exact g.k q o (by rw [eH']; exact e)
      have I : Inv1 X.K C ⟨W.F, W2.H, W2.θ⟩ S2 := by
        refine ⟨sF.trans R2.i.s, R2.i.len, R2.i.nd, fun n a z e1 e2 => ?_⟩
        obtain ⟨m1, m2⟩ := R2.i.m n a z e1 e2
        refine ⟨?_, ?_⟩
        · cases c : W.F a with
          | none => rfl
          | some o =>
            have := sF _ _ c
            rw [m1] at this
            cases this
        · have fl := List.all_eq_true.mp hc.1 z (List.mem_of_getElem? e2)
          cases z with
          | lst xs =>
            obtain ⟨vs, h3, h4⟩ := m2
            exact ⟨vs, h3, flat_all fl h4⟩
          | dic es => cases fl
          | _ => exact m2.elim
      exact ⟨W0, ⟨W.F, W2.H, W2.θ⟩, _, S2, out, rfl, (R.ext G I).setu j (some v), em, p.gro G.groF⟩
    · cases e0
  · rename_i o hn
    exfalso
    split at em
    · rename_i hc; exact hn _ _ (if_pos hc)
    · cases em
theorem e_defO {np nN : Nat} {m : MS} {xs : List PV} {S : List PV} : mDefO np nN m xs S = if xs.length = np then (match m (xs.map .val ++ List.replicate (nN - np) .un) S with | some (.rt x S') => some (x, S') | _ => none) else none := rfl
end
end BL

/-! enumerate over a tuple, tuple(range(n)) -/
namespace BL
open PySem
set_option maxHeartbeats 1000000 in
theorem enumT_new {v : Value} {o : Obj} {H : Heap → Prop} (B : Begins v o H) :
    Meets (Builtin.«enumerate.__new__» ⟨[.type "enumerate", v], []⟩) (fun _ R s => H s.heap ∧
      R (.ok (.ret (.ref (s.heap.push o).objs.size))) { s with heap := (s.heap.push o).push { cls := .type "enumerate", data := .fields #[.none, .bool false, .ref s.heap.objs.size, rawInt 0, .none, .none] } }) :=
  .of_wp fun prog w A R s h => by
    obtain ⟨hp, g, d, tk, os⟩ := s; obtain ⟨h1, h⟩ := h
    have hsub := sub_enumerate
    have q1 : ∀ {A' : Around} {E : Value → Shared → Prop} {Q : Value → Shared → Prop}, Q (.ref hp.objs.size) ⟨hp.push o, g, d, tk, os⟩ → wpAny (model prog w) A' (pyIter v) Q E ⟨hp, g, d, tk, os⟩ :=
      fun q => B.iter prog w _ _ ⟨hp, g, d, tk, os⟩ _ h1 q
    wp_walk using q1
    refine wpAny_stack_any fun st => wpAny_pure ?_
    split
    · rename_i c _ _ _ _ _
      cases (c == Value.type "enumerate")
      · wp_walk using q1
        exact ⟨_, rfl, h⟩
      · wp_walk using q1
        exact ⟨_, rfl, h⟩
    · wp_walk using q1
      exact ⟨_, rfl, h⟩
theorem enumT_begins {prog : Program} {w : World} {A : Around} {E : Value → Shared → Prop} {s : Shared} {v : Value} {o : Obj} {H : Heap → Prop} {Q : Value → Shared → Prop} (B : Begins v o H) (h1 : H s.heap)
    (h : ∀ h', IsEnum h' (s.heap.objs.size + 1) s.heap.objs.size 0 .none → h'.get? s.heap.objs.size = some o → h'.objs.size = s.heap.objs.size + 2 →
      (∀ b o, s.heap.get? b = some o → h'.get? b = some o) → Q (.ref (s.heap.objs.size + 1)) { s with heap := h' }) :
    wpAny (model prog w) A (call (.type "enumerate") [v]) Q E s := by
  refine callType_new F.called_enumerate (by decide) (F.typeCall_enumerate_1 _) (F.newCall_enumerate_1 _) (fun obj => F.args_object_init_2 obj _) F.entry_enumerate_new
    (enumT_new B) ⟨h1, ?_⟩
  have hz : (s.heap.push o).objs.size = s.heap.objs.size + 1 := Heap.size_push ..
  show _ ∧ _
  rw [hz]
  have he : IsEnum ((s.heap.push o).push { cls := .type "enumerate", data := .fields #[.none, .bool false, .ref s.heap.objs.size, rawInt 0, .none, .none] }) (s.heap.objs.size + 1) s.heap.objs.size 0 .none := by
    have := Heap.get?_push_size (s.heap.push o) (o := { cls := .type "enumerate", data := .fields #[.none, .bool false, .ref s.heap.objs.size, rawInt 0, .none, .none] }) rfl
    rw [hz] at this; exact this
  refine ⟨⟨_, he, rfl⟩, h _ he (Heap.get?_push_of_some _ (Heap.get?_push_size _ B.free)) (by rw [Heap.size_push, hz]) fun b o x => Heap.get?_push_of_some _ (Heap.get?_push_of_some _ x)⟩
end BL
namespace BL
open PySem PySem.Spec PyProof.Rows L2
/-- the tuple at a, each item in a new pair -/
def IteT (K : PySem.W.Frag) (a : Addr) : It :=
  ⟨fun i H => ∃ (xs : List V) (x : V), SqT K H a xs ∧ xs[i]? = some x, fun i H v H' => ∃ T x, v = .ref T ∧ H T = none ∧ H' = upd H T (.tup [.int (i : Nat), x]) ∧ ∀ xs, SqT K H a xs → xs[i]? = some x, fun i H => ∃ xs : List V, SqT K H a xs ∧ xs.length ≤ i⟩
theorem turn_enumT {P : Program} {w : World} {K : PySem.W.Frag} {elts : List Expr} {kk : Nat} {tpos : Pos} (a e it : Addr) :
    Turn P w K (.Tuple elts kk tpos) (IteT K a) [e, it] e (fun i h => (∃ old, IsEnum h e it ((i : Nat) : Int) old) ∧ h.IsTupleIter it a i ∧ e ≠ it) where
  mem := by simp
  obj := fun i h st b hb => by
    obtain ⟨⟨old, he⟩, ⟨o, ho, hc, hd⟩, _⟩ := st
    have e' : b = e ∨ b = it := by simpa using hb
    rcases e' with z | z
    · rw [z]; exact ⟨_, he, fun v q => nomatch q⟩
    · rw [z]; exact ⟨o, ho, fun v q => by rw [hd] at q; cases q⟩
  keep := fun i h h' st k => let ⟨⟨old, he⟩, hi, hne⟩ := st; ⟨⟨old, k e (by simp) _ he⟩, hi.at fun o q => k it (by simp) o q, hne⟩
  item := by
    intro X hP hw hK hc i pins s σ H E I hf st hg
    subst hP hw hK
    obtain ⟨⟨old, he⟩, hit, hne⟩ := st
    obtain ⟨xs, x, hq, hx⟩ := hg
    obtain ⟨its, rv, p, hz⟩ := I.tuple hq
    obtain ⟨u, hu, ru⟩ := rv.get hx
    have hel : e < s.heap.objs.size := Heap.lt_size he
    have hil : it < s.heap.objs.size := by obtain ⟨_, q, _⟩ := hit; exact Heap.lt_size q
    have hlt : i < its.toArray.size := by
      have := (List.getElem?_eq_some_iff.mp hu).1
      simpa using this
    have hai : a ≠ it := fun z => by
      obtain ⟨o1, q1, c1, _⟩ := p
      obtain ⟨o2, q2, c2, _⟩ := hit
      rw [z] at q1
      rw [q1] at q2
      cases q2
      rw [c1] at c2
      exact absurd c2 (by decide)
    have hae : a ≠ e := fun z => by
      obtain ⟨o1, q1, c1, _⟩ := p
      rw [z] at q1
      have q2 : s.heap.get? e = some _ := he
      rw [q1] at q2
      cases q2
      exact absurd (show Value.type "enumerate" = Value.type "tuple" from c1) (by decide)
    have hd : X.A.in1.handled = none := I.ok.hd hc
    refine wpAny_pyNext_enum_itemD (Draws.tuple hd it a hai its.toArray) he ⟨hit, p⟩ hlt hne (by simp [hne, Ne.symm hae]) fun x' h' tk hx' ho hit' hT hsz hk => ?_
    have hu' : its.toArray[i]? = some u := by simpa using hu
    rw [hu'] at hx'
    cases Option.some.inj hx'
    refine ⟨_, rfl, wpAny_letOwnedTupleGo_enum (s := { s with heap := h', toks := tk + 1 }) ho fun h'' he' sb => ?_⟩
    have hT2 : h''.get? s.heap.objs.size = some { cls := .type "tuple", data := .seq #[.int i tk, u] } := (sb.2 _ (Nat.ne_of_gt hel)).trans hT
    have new : ObjOk X.prog X.w (upd H s.heap.objs.size (.tup [.int (i : Nat), x])) h'' s.heap.objs.size (.tup [.int (i : Nat), x]) :=
      ⟨by show 2 ≤ sizeLine; decide, [.int i tk, u], .cons ⟨_, rfl⟩ (.cons ru .nil), ⟨_, hT2, rfl, _, rfl⟩⟩
    have I1 : Inv X pins σ (upd H s.heap.objs.size (.tup [.int (i : Nat), x])) { s with heap := h'', toks := tk + 1 } :=
      I.turnedNew (ch := [e, it]) (fun b ob hb q => (sb.2 b (fun z => hb (by simp [z]))).trans (hk b ob (fun z => hb (by simp [z])) (fun z => hb (by simp [z])) q)) hf (Nat.le_refl _) new
    refine ⟨.ref s.heap.objs.size, _, I1, rfl, ⟨_, x, rfl, I.hok.fresh (Nat.le_refl _), rfl, fun ys hy => by rw [I.tuple_inj hy hq]; exact hx⟩, ⟨⟨u, ?_⟩, hit'.1.at fun o q => (sb.2 it (Ne.symm hne)).trans q, hne⟩, fun b hb => ?_⟩
    · have e1 : ((i + 1 : Nat) : Int) = (i : Int) + 1 := by omega
      rw [e1]; exact he'
    · have hb' : b < s.heap.objs.size := by
        have e' : b = e ∨ b = it := by simpa using hb
        rcases e' with z | z
        · rw [z]; exact hel
        · rw [z]; exact hil
      rw [upd_ne (Nat.ne_of_lt hb')]
      exact (hf b hb).1
  done := by
    intro X hP hw hK hc i pins s σ H E I hf st hg
    subst hP hw hK
    obtain ⟨⟨old, he⟩, hit, hne⟩ := st
    obtain ⟨xs, hq, hx⟩ := hg
    obtain ⟨its, rv, p, hz⟩ := I.tuple hq
    obtain ⟨f0, f1, f2, f3, f4, f5⟩ := hf it (by simp)
    have hl := rv.length
    have hT : s.TypeIs (.ref e) "enumerate" := ⟨_, he, rfl⟩
    unfold pyNext
    refine wpAny_bind (wpAny_attempt (wpAny_callSpecial?_slot (name := Str.ofString "__next__") hT F.slot_enumerate_next
      (wpAny_call_entry F.slot_enumerate_next hT F.entry_enumerate_next ?_ (F.args_enumerate_next_1 _))))
    show wpAny _ _ (field (.ref e) 2 >>= _) _ _ _
    refine wpAny_bind (wpAny_field he rfl (x := .ref it) rfl ?_)
    refine wpAny_bind (wpAny_nextOf_tuple_end (I.ok.hd hc) hit p (by simp; omega) fun h' x he' hx' => ?_)
    obtain ⟨o, ho, hc'⟩ := hx'
    refine wpAny_bind (wpAny_isInstance (T := "StopIteration") (b := true) ⟨o, ho, hc'⟩ isSubtype_stop ?_)
    exact wpAny_pure ⟨rfl, I.turned (t' := s.toks) (fun b o hb q => he' b o hb q) f0 f1 f3 f4 f5⟩
  self := fun A i s Q E st h => let ⟨⟨_, he⟩, _⟩ := st; wpAny_pyIter_enum he h
def iEnumT (K : PySem.W.Frag) (ta : TA) : TI := fun σ H R => ta σ H fun vs H1 => ∃ a xs, vs = [.ref a] ∧ SqT K H1 a xs ∧ R (IteT K a) H1
theorem pi_enumT {X : Cx} {e : Expr} {ta : TA} {p pos tpos : Pos} {elts : List Expr} {kk : Nat} (hg : Gl X "enumerate") (hm : X.mg "enumerate" = none) (ha : PA X [e] ta) (hs : starEach [e] X.env = [(false, eval e X.env)] := by rfl) :
    PI X (.Tuple elts kk tpos) (.Call (.Name "enumerate" p) [e] [] pos) (iEnumT X.K ta) := by
  refine ⟨fun pins s σ H R I h => ?_⟩
  refine Call_ (ld_blt I hg hm boot_enumerate (PyProof.Rows.callWith_type1 (thn (ha.run pos pins s σ H _ I h) fun us s1 ⟨vs, H1, I1, r1, q1⟩ => ?_) hs rfl))
  obtain ⟨a, xs, ex, hq, q⟩ := q1
  subst ex
  cases r1 with
  | cons r rr =>
    cases rr
    cases r
    obtain ⟨its, rv, p', hz⟩ := I1.tuple hq
    refine enumT_begins (begins_tuple a its.toArray) p' fun h' he hit hsz hk => wpAny_pyIter_enum he ?_
    have I2 : Inv X pins σ H1 { s1 with heap := h' } := I1.kept (t' := s1.toks) hk
    refine ⟨s1.heap.objs.size + 1, [s1.heap.objs.size + 1, s1.heap.objs.size], _, _, H1, rfl, I2, turn_enumT a (s1.heap.objs.size + 1) s1.heap.objs.size, ⟨⟨.none, he⟩, ⟨_, hit, rfl, rfl⟩, Nat.succ_ne_self _⟩, fun b hb => ?_, q⟩
    have e' : b = s1.heap.objs.size + 1 ∨ b = s1.heap.objs.size := by simpa using hb
    have hle : s1.heap.objs.size ≤ b := by
      rcases e' with z | z
      · rw [z]; exact Nat.le_add_right _ _
      · rw [z]; exact Nat.le_refl _
    exact I1.fpOk hle (I1.hok.fresh hle)
def mEnuT (ma : ME) : MI := fun ρ S => match ma ρ S with
  | some (.tup xs, S1) => some (enuP 0 xs, S1)
  | _ => none
theorem it_enuT {K : PySem.W.Frag} {C : Addr} {W : Wd} {a : Addr} {vs : List V} {xs : List PV} (h : SqT K W.F a vs) (r : RepAll K C W.F W.θ vs xs) : ItOk K C W (IteT K a) (enuP 0 xs) := by
  have h1 : ∀ W1 S, GroF W W1 → Inv1 K C W1 S → SqT K W1.H a vs := fun W1 S g i => i.s.seT (SqT.ext h g.f)
  have hr : ∀ W1, GroF W W1 → RepAll K C W1.F W1.θ vs xs := fun W1 g => by
    obtain ⟨q, eq⟩ := g.t
    rw [eq]
    exact r.mono g.f
  refine ⟨fun i W1 S g i1 hi => ?_, fun W1 S g i1 => ⟨vs, h1 W1 S g i1, by rw [r.len, enuP_len]; exact Nat.le_refl _⟩, fun i W1 S v H' x g i1 hx y => ?_⟩
  · rw [enuP_len] at hi
    obtain ⟨v, ev, _⟩ := r.at (List.getElem?_eq_getElem hi)
    exact ⟨vs, v, h1 W1 S g i1, ev⟩
  · obtain ⟨T, u, rfl, nT, rfl, hv⟩ := y
    obtain ⟨z, hz, rfl⟩ := enuP_at hx
    obtain ⟨u', eu, ru⟩ := (hr W1 g).at hz
    have := hv vs (h1 W1 S g i1)
    rw [eu] at this
    cases Option.some.inj this
    obtain ⟨g2, i2⟩ := laid (.tup [.int (i : Nat), u]) i1 nT
    refine ⟨_, rfl, g2, i2, .tup (SqT.of upd_same) (.cons ?_ (.cons (ru.ext g2) .nil))⟩
    rw [Int.zero_add]
    exact .int _
section
variable {X : Cx} {C : Addr} {e : Expr} {ma : ME} {pos : Pos}
theorem ienuT {p tpos : Pos} {elts : List Expr} {kk : Nat} (hg : Gl X "enumerate") (hm : X.mg "enumerate" = none) (ha : PE X e (tM X.K C ma)) (hst : starEach (e :: []) X.env = (false, eval e X.env) :: starEach [] X.env := by rfl) (hs : starEach [e] X.env = [(false, eval e X.env)] := by rfl) :
    PI X (.Tuple elts kk tpos) (.Call (.Name "enumerate" p) [e] [] pos) (tMI X.K C (mEnuT ma)) := PI.weak (pi_enumT hg hm (pa_cons ha pa_nil hst) hs) fun σ H R0 ⟨W0, W, ρ, S, xs, S', eH, R, em, q⟩ => by
  subst eH
  unfold mEnuT at em
  split at em
  · rename_i ys S1 e1
    cases em
    refine ⟨W0, W, ρ, S, _, S', rfl, R, e1, fun v W1 R1 g1 r1 => ?_⟩
    cases r1 with
    | tup h a => exact ⟨_, _, rfl, R1.i.s.seT h, q _ W1 R1 g1 (it_enuT h a)⟩
  · cases em
def mTrg1 (ma : ME) : ME := fun ρ S => match ma ρ S with
  | some (.int j, S1) => if okRg 0 j then some (.tup (rngP 0 (j - 0).toNat), S1) else none
  | _ => none
theorem xtrg1 (h : PE X e (tTupRg (tRg1 (tM X.K C ma)))) : PE X e (tM X.K C (mTrg1 ma)) := PE.weak h fun σ H Q ⟨W0, W, ρ, S, z, S', eH, R, em, q⟩ => by
  subst eH
  unfold mTrg1 at em
  split at em
  · rename_i j S1 e1
    split at em
    · rename_i ok
      cases em
      refine ⟨W0, W, ρ, S, _, S', rfl, R, e1, fun v W1 R1 g1 r1 => ?_⟩
      cases r1
      refine ⟨j, rfl, okRg_ok ok, fun p np => ?_⟩
      obtain ⟨g4, i4⟩ := laid (.tup (rgV 0 j)) R1.i np
      exact q _ _ (R1.ext g4 i4) (g1.trans g4) (.tup (SqT.of upd_same) (rgV_rep 0 j))
    · cases em
  · cases em
end
section
variable {ρ : List SlV} {S : List PV} {ma : ME}
@[simp] theorem e_enuT : mEnuT ma ρ S = match ma ρ S with | some (.tup xs, S1) => some (enuP 0 xs, S1) | _ => none := rfl
@[simp] theorem e_trg1 : mTrg1 ma ρ S = match ma ρ S with | some (.int j, S1) => if okRg 0 j then some (.tup (rngP 0 (j - 0).toNat), S1) else none | _ => none := rfl
end
end BL

/-! a written table of texts; range downwards -/
namespace BL
open PySem PySem.Spec PyProof.Rows L2
def tabP (t : List (Str × Str)) (_ : List PV) : PV → Option PV
  | .str z => match t.lookup z with
    | some v => some (.str v)
    | none => none
  | _ => none
def TabK (K : PySem.W.Frag) (w : World) (a : Addr) (t : List (Str × Str)) : Prop := ∀ z v, t.lookup z = some v → KDct K w a z (.str v)
def rngD (hi : Int) : Nat → List PV
  | 0 => []
  | n + 1 => .int hi :: rngD (hi - 1) n
theorem rngD_len : ∀ (n : Nat) (hi : Int), (rngD hi n).length = n
  | 0, _ => rfl
  | n + 1, hi => congrArg Nat.succ (rngD_len n _)
theorem rngD_at : ∀ (n : Nat) (hi : Int) (i : Nat), i < n → (rngD hi n)[i]? = some (.int (hi + i * (-1)))
  | n + 1, hi, 0, _ => by
    show some (PV.int hi) = some (PV.int (hi + ((0 : Nat) : Int) * (-1)))
    rw [show hi + ((0 : Nat) : Int) * (-1) = hi by omega]
  | n + 1, hi, i + 1, h => by
    show (rngD (hi - 1) n)[i]? = _
    rw [rngD_at n (hi - 1) i (by omega), show hi - 1 + (i : Int) * (-1) = hi + ((i + 1 : Nat) : Int) * (-1) by omega]
theorem it_rngD {K : PySem.W.Frag} {C : Addr} {W : Wd} (hi : Int) (n : Nat) : ItOk K C W (Itc hi (-1) n) (rngD hi n) := by
  refine ⟨fun i W1 S g i1 h => by rw [rngD_len] at h; exact h, fun W1 S g i1 => by rw [rngD_len]; exact Nat.le_refl n, fun i W1 S v H' x g i1 hx y => ?_⟩
  obtain ⟨rfl, rfl⟩ := y
  have h : i < n := by
    have := (List.getElem?_eq_some_iff.mp hx).1
    rwa [rngD_len] at this
  rw [rngD_at n hi i h] at hx
  cases hx
  exact ⟨W1, rfl, Gro.refl _, i1, .int _⟩
def mRng3 (ma mb mc : ME) : MI := fun ρ S => match ma ρ S with
  | some (.int i, S1) => match mb ρ S1 with
    | some (.int j, S2) => match mc ρ S2 with
      | some (.int k, S3) => if k = -1 ∧ -(2 ^ 62) ≤ i ∧ i < 2 ^ 62 ∧ -(2 ^ 62) ≤ j ∧ j < 2 ^ 62 then some (rngD i (i - j).toNat, S3) else none
      | _ => none
    | _ => none
  | _ => none
section
variable {X : Cx} {C : Addr} {e a b c tg : Expr} {ma mb mc : ME} {pos : Pos}
theorem xtab {x : Str} {d : Addr} {t : List (Str × Str)} {p : Pos} (hg : Gl X x) (hm : X.mg x = some (.ref d)) (hk : TabK X.K X.w d t) (hi : PE X e (tM X.K C ma)) (hs : PlainIx e) (hd : (x == ("__debug__" : Str)) = false := by decide) : PE X (.Subscript (.Name x p) e pos) (tM X.K C (mUn (tabP t) ma)) :=
  PE.weak (pe_ix ix_kdict (pe_glob (v := .ref d) hg hm rfl hd) hi hs) fun σ H Q ⟨W0, W, ρ, S, z, S', eH, R, em, q⟩ => by
    subst eH
    obtain ⟨y, e1, e2⟩ := mUn_inv em
    unfold tabP at e2
    split at e2
    · rename_i s
      split at e2
      · rename_i v hv
        cases e2
        refine ⟨W0, W, ρ, S, _, S', rfl, R, e1, fun u W1 R1 g1 r1 => ?_⟩
        cases r1
        exact ⟨d, s, .str v, rfl, rfl, hk s v hv, q _ W1 R1 g1 (.str _)⟩
      · cases e2
    · cases e2
theorem irng3 {p : Pos} (hg : Gl X "range") (hm : X.mg "range" = none) (ha : PE X a (tM X.K C ma)) (hb : PE X b (tM X.K C mb)) (hc : PE X c (tM X.K C mc))
    (h1 : starEach (a :: [b, c]) X.env = (false, eval a X.env) :: starEach [b, c] X.env := by rfl) (h2 : starEach (b :: [c]) X.env = (false, eval b X.env) :: starEach [c] X.env := by rfl) (h3 : starEach (c :: []) X.env = (false, eval c X.env) :: starEach [] X.env := by rfl)
    (hpl : (backTo pos (starEach [b, c] X.env)).any (·.1) = false := by rfl) : PI X tg (.Call (.Name "range" p) [a, b, c] [] pos) (tMI X.K C (mRng3 ma mb mc)) :=
  PI.weak (pi_range3 hg hm (pa_cons ha (pa_cons hb (pa_cons hc pa_nil h3) h2) h1) h1 hpl) fun σ H R0 ⟨W0, W, ρ, S, xs, S', eH, R, em, q⟩ => by
  subst eH
  unfold mRng3 at em
  split at em
  · rename_i i S1 e1
    split at em
    · rename_i j S2 e2
      split at em
      · rename_i k S3 e3
        split at em
        · rename_i hj
          cases em
          obtain ⟨rfl, b1, b2, b3, b4⟩ := hj
          refine ⟨W0, W, ρ, S, _, S1, rfl, R, e1, fun v W1 R1 g1 r1 => ⟨W0, W1, ρ, S1, _, S2, rfl, R1, e2, fun u W2 R2 g2 r2 => ⟨W0, W2, ρ, S2, _, S', rfl, R2, e3, fun t W3 R3 g3 r3 => ?_⟩⟩⟩
          cases r1
          cases r2
          cases r3
          exact ⟨i, j, -1, _, rfl, RgC.neg b1 b2 b3 b4, q _ W3 R3 ((g1.trans g2).trans g3) (it_rngD i _)⟩
        · cases em
      · cases em
    · cases em
  · cases em
end
section
variable {ρ : List SlV} {S : List PV} {ma mb mc : ME}
@[simp] theorem e_rng3 : mRng3 ma mb mc ρ S = match ma ρ S with
  | some (.int i, S1) => (match mb ρ S1 with
    | some (.int j, S2) => (match mc ρ S2 with
      | some (.int k, S3) => if k = -1 ∧ -(2 ^ 62) ≤ i ∧ i < 2 ^ 62 ∧ -(2 ^ 62) ≤ j ∧ j < 2 ^ 62 then some (rngD i (i - j).toNat, S3) else none
      | _ => none)
    | _ => none)
  | _ => none := rfl
end
end BL

namespace BL
open PySem PySem.Spec PyProof.Rows L2
/-! enumerate over a list or a tuple -/
section
variable {X : Cx} {C : Addr} {ma : ME} {e : Expr}
def mEnuQ (ma : ME) : MI := fun ρ S => match ma ρ S with
  | some (.lst xs, S1) => some (enuP 0 xs, S1)
  | some (.tup xs, S1) => some (enuP 0 xs, S1)
  | _ => none
theorem ienuQ {p tpos : Pos} {elts : List Expr} {kk : Nat} (hg : Gl X "enumerate") (hm : X.mg "enumerate" = none) (ha : PE X e (tM X.K C ma)) (hst : starEach (e :: []) X.env = (false, eval e X.env) :: starEach [] X.env := by rfl) (hs : starEach [e] X.env = [(false, eval e X.env)] := by rfl) :
    PI X (.Tuple elts kk tpos) (.Call (.Name "enumerate" p) [e] [] pos) (tMI X.K C (mEnuQ ma)) := PI.weak (PI.or (ienu hg hm ha hst hs) (ienuT hg hm ha hst hs)) fun σ H R0 ⟨W0, W, ρ, S, xs, S', eH, R, em, q⟩ => by
  subst eH
  unfold mEnuQ at em
  split at em
  · rename_i ys S1 e1
    cases em
    exact .inl ⟨W0, W, ρ, S, _, S', rfl, R, by unfold mEnu; rw [e1], q⟩
  · rename_i ys S1 e1
    cases em
    exact .inr ⟨W0, W, ρ, S, _, S', rfl, R, by unfold mEnuT; rw [e1], q⟩
  · cases em
@[simp] theorem e_enuQ {ρ : List SlV} {S : List PV} : mEnuQ ma ρ S = match ma ρ S with | some (.lst xs, S1) => some (enuP 0 xs, S1) | some (.tup xs, S1) => some (enuP 0 xs, S1) | _ => none := rfl
end
end BL

namespace BL
open PySem PySem.Spec PyProof.Rows L2
/-! x or y by truth, as a value -/
variable {X : Cx} {C : Addr} {ma mb : ME} {a b : Expr} {rest : List Expr} {pos : Pos}
def mOrL (ma mb : ME) : ME := fun ρ S => match ma ρ S with
  | some (x, S1) => match truP x with
    | some true => some (x, S1)
    | some false => mb ρ S1
    | none => none
  | none => none
theorem xorL (ha : PE X a (tM X.K C ma)) (hb : PE X (.BoolOp .Or (b :: rest) pos) (tM X.K C mb)) : PE X (.BoolOp .Or (a :: b :: rest) pos) (tM X.K C (mOrL ma mb)) := PE.weak (pe_orT ha hb) fun σ H Q ⟨W0, W, ρ, S, z, S', eH, R, em, q⟩ => by
  subst eH
  unfold mOrL at em
  split at em
  · rename_i x S1 e1
    have tv : ∀ {v : V} {W1 : Wd} {k : Bool}, Rep X.K C W1.F W1.θ v x → Rel X.K C W0 W1 σ ρ S1 → truP x = some k → TruV X.K v W1.H k := fun {v W1 k} r1 R1 e2 => by
      cases r1 with
      | non => cases e2; rfl
      | bl b => cases e2; rfl
      | int b => cases e2; rfl
      | str b =>
        unfold truP at e2
        simp only [] at e2
        split at e2
        · rename_i hl
          cases e2
          exact ⟨Nat.le_trans hl lim, rfl⟩
        · cases e2
      | lst h a => cases e2; exact .inl ⟨_, R1.i.s.seq (SqL.of h), emp_rep a⟩
      | tup h a => cases e2; exact .inr (.inl ⟨_, R1.i.s.seT h, emp_rep a⟩)
      | way h => cases e2
      | mref h => cases e2
      | exc _ _ _ _ _ _ => cases e2
      | exn _ _ _ => cases e2
    split at em
    · rename_i e2
      cases em
      exact ⟨W0, W, ρ, S, _, S', rfl, R, e1, fun v W1 R1 g1 r1 => ⟨true, tv r1 R1 e2, by refine iteT ?_; exact q v W1 R1 g1 r1⟩⟩
    · rename_i e2
      exact ⟨W0, W, ρ, S, x, S1, rfl, R, e1, fun v W1 R1 g1 r1 => ⟨false, tv r1 R1 e2, by refine iteF ?_; exact ⟨W0, W1, ρ, S1, z, S', rfl, R1, em, fun v W2 R2 g2 r2 => q v W2 R2 (g1.trans g2) r2⟩⟩⟩
    · cases em
  · cases em
@[simp] theorem e_orL {ρ : List SlV} {S : List PV} : mOrL ma mb ρ S = match ma ρ S with | some (x, S1) => (match truP x with | some true => some (x, S1) | some false => mb ρ S1 | none => none) | none => none := rfl
end BL

namespace BL
open PySem PySem.Spec PyProof.Rows L2
/-! a, b = x, y and a, b, c = x, y, z, own lists among what is stored -/
section
variable {K : PySem.W.Frag} {C : Addr}
def FrV (K : PySem.W.Frag) (C : Addr) (W0 Ws W : Wd) (σ : L2.St) (ρ : List SlV) (v : V) : SlV → Prop
  | .val x => RepW K C W v x
  | .own x => ∃ a, v = .ref a ∧ OwnAt K C W0 W a x ∧ Ws.H a = none ∧ ∀ (j : Nat) (y : PV), ρ[j]? = some (.own y) → σ[j]? = some (some (.ref a)) → False
  | .un => False
inductive FrA (K : PySem.W.Frag) (C : Addr) (W0 Ws W : Wd) (σ : L2.St) (ρ : List SlV) : List V → List SlV → Prop
  | nil : FrA K C W0 Ws W σ ρ [] []
  | cons {v : V} {z : SlV} {vs : List V} {zs : List SlV} : FrV K C W0 Ws W σ ρ v z → FrA K C W0 Ws W σ ρ vs zs → (∀ (x : PV) (a : Addr), z = .own x → v = .ref a → ∀ (k : Nat) (y : PV), zs[k]? = some (.own y) → vs[k]? = some (.ref a) → False) → FrA K C W0 Ws W σ ρ (v :: vs) (z :: zs)
theorem FrV.start {W0 Ws W2 W : Wd} {σ : L2.St} {ρ : List SlV} {v : V} {z : SlV} (g : Gro Ws W2) (h : FrV K C W0 W2 W σ ρ v z) : FrV K C W0 Ws W σ ρ v z := by
  cases z with
  | un => exact h
  | val x => exact h
  | own x =>
    obtain ⟨a, e, o, n, d⟩ := h
    refine ⟨a, e, o, ?_, d⟩
    cases c : Ws.H a with
    | none => rfl
    | some o' =>
      obtain ⟨o'', e''⟩ := g.k a o' c
      rw [n] at e''
      cases e''
theorem FrA.start {W0 Ws W2 W : Wd} {σ : L2.St} {ρ : List SlV} {vs : List V} {zs : List SlV} (g : Gro Ws W2) (h : FrA K C W0 W2 W σ ρ vs zs) : FrA K C W0 Ws W σ ρ vs zs := by
  induction h with
  | nil => exact .nil
  | cons h1 _ h3 ih => exact .cons (h1.start g) ih h3
theorem FrA.at {W0 Ws W : Wd} {σ : L2.St} {ρ : List SlV} {vs : List V} {zs : List SlV} (h : FrA K C W0 Ws W σ ρ vs zs) : ∀ (k : Nat) (z : SlV), zs[k]? = some z → ∃ v, vs[k]? = some v ∧ FrV K C W0 Ws W σ ρ v z := by
  induction h with
  | nil => intro k z e; cases e
  | cons h1 _ h3 ih =>
    intro k z e
    cases k with
    | zero => cases e; exact ⟨_, rfl, h1⟩
    | succ k => exact ih k z e
theorem FrA.len {W0 Ws W : Wd} {σ : L2.St} {ρ : List SlV} {vs : List V} {zs : List SlV} (h : FrA K C W0 Ws W σ ρ vs zs) : vs.length = zs.length := by
  induction h with
  | nil => rfl
  | cons _ _ _ ih => exact congrArg Nat.succ ih
/-- one slot is filled -/
theorem Rel.setF {W0 Ws W : Wd} {σ : L2.St} {ρ : List SlV} {S : List PV} (R : Rel K C W0 W σ ρ S) {i : Nat} {v : V} {z : SlV} (h : FrV K C W0 Ws W σ ρ v z) (hi : i < ρ.length) : Rel K C W0 W (σ.set i (some v)) (ρ.set i z) S := by
  cases z with
  | un => exact h.elim
  | val x => exact R.setv i h hi
  | own x =>
    obtain ⟨a, rfl, o, _, d⟩ := h
    exact R.seto i o hi d
theorem FrV.setF {W0 Ws W : Wd} {σ : L2.St} {ρ : List SlV} {i : Nat} {v u : V} {z y : SlV} (l : σ.length = ρ.length) (h : FrV K C W0 Ws W σ ρ u y) (ap : ∀ (x x' : PV) (a : Addr), z = .own x → v = .ref a → y = .own x' → u = .ref a → False) (hi : i < ρ.length) : FrV K C W0 Ws W (σ.set i (some v)) (ρ.set i z) u y := by
  cases y with
  | un => exact h
  | val x => exact h
  | own x' =>
    obtain ⟨a, rfl, o, n, d⟩ := h
    refine ⟨a, rfl, o, n, fun j w h1 h2 => ?_⟩
    by_cases c : i = j
    · subst c
      rw [List.getElem?_set_self hi] at h1
      rw [List.getElem?_set_self (by rw [l]; exact hi)] at h2
      cases h1
      cases Option.some.inj (Option.some.inj h2)
      exact ap w x' a rfl rfl rfl rfl
    · rw [List.getElem?_set_ne c] at h1 h2
      exact d j w h1 h2
abbrev MF := List SlV → List PV → Option (List SlV × List PV)
def tMF (K : PySem.W.Frag) (C : Addr) (m : MF) : TA := fun σ H Q => ∃ W0 W ρ S zs S', H = W.H ∧ Rel K C W0 W σ ρ S ∧ m ρ S = some (zs, S') ∧ ∀ vs W', Rel K C W0 W' σ ρ S' → Gro W W' → FrA K C W0 W W' σ ρ vs zs → Q vs W'.H
end
section
variable {X : Cx} {C : Addr} {ma : ME} {mes : MA} {mf : MF} {a : Expr} {es : List Expr} {st : Stmt}
def mfNil : MF := fun ρ S => some ([], S)
theorem xfnil : PA X [] (tMF X.K C mfNil) := PA.weak pa_nil fun σ H Q ⟨W0, W, ρ, S, zs, S', eH, R, em, q⟩ => by
  subst eH
  cases em
  exact q [] W R (Gro.refl _) .nil
def mfV (ma : ME) (mf : MF) : MF := fun ρ S => match ma ρ S with
  | some (x, S1) => match mf ρ S1 with
    | some (zs, S2) => some (.val x :: zs, S2)
    | none => none
  | none => none
theorem xfv (ha : PE X a (tM X.K C ma)) (hr : PA X es (tMF X.K C mf)) (hs : starEach (a :: es) X.env = (false, eval a X.env) :: starEach es X.env := by rfl) : PA X (a :: es) (tMF X.K C (mfV ma mf)) := PA.weak (pa_cons ha hr hs) fun σ H Q ⟨W0, W, ρ, S, zs, S', eH, R, em, q⟩ => by
  subst eH
  unfold mfV at em
  split at em
  · rename_i x S1 e1
    split at em
    · rename_i ys S2 e2
      cases em
      exact ⟨W0, W, ρ, S, x, S1, rfl, R, e1, fun v W1 R1 g1 r1 => ⟨W0, W1, ρ, S1, ys, S', rfl, R1, e2, fun vs W2 R2 g2 f2 => q (v :: vs) W2 R2 (g1.trans g2) (.cons (show RepW X.K C W2 v x from Rep.ext r1 g2) (f2.start g1) fun _ _ z => nomatch z)⟩⟩
    · cases em
  · cases em
def mfO (mes : MA) (mf : MF) : MF := fun ρ S => match mes ρ S with
  | some (xs, S1) => if xs.length ≤ 100000 then (match mf ρ S1 with
    | some (zs, S2) => some (.own (.lst xs) :: zs, S2)
    | none => none) else none
  | none => none
theorem xfo (ha : PE X a (tLst (tMA X.K C mes))) (hr : PA X es (tMF X.K C mf)) (hs : starEach (a :: es) X.env = (false, eval a X.env) :: starEach es X.env := by rfl) : PA X (a :: es) (tMF X.K C (mfO mes mf)) := PA.weak (pa_cons ha hr hs) fun σ H Q ⟨W0, W, ρ, S, zs, S', eH, R, em, q⟩ => by
  subst eH
  unfold mfO at em
  split at em
  · rename_i xs S1 e1
    split at em
    · rename_i hl
      split at em
      · rename_i ys S2 e2
        cases em
        refine ⟨W0, W, ρ, S, xs, S1, rfl, R, e1, fun vs W1 R1 g1 r1 => ⟨by rw [r1.len]; exact Nat.le_trans hl lim, fun p np => ?_⟩⟩
        obtain ⟨g2, R2, o2, d2⟩ := laidO R1 r1 np
        refine ⟨W0, _, ρ, S1, ys, S', rfl, R2, e2, fun us W3 R3 g3 f3 => q (.ref p :: us) W3 R3 ((g1.trans g2).trans g3) (.cons ⟨p, rfl, o2.ext g3, ?_, d2⟩ (f3.start (g1.trans g2)) fun x a _ e k y ek eu => ?_)⟩
        · cases c : W.H p with
          | none => rfl
          | some o =>
            obtain ⟨o', e'⟩ := g1.k p o c
            rw [np] at e'
            cases e'
        · cases e
          obtain ⟨v, ev, fv⟩ := f3.at k _ ek
          rw [eu] at ev
          cases ev
          obtain ⟨a, ea, _, nn, _⟩ := fv
          cases ea
          have : (upd W1.H p (.lst vs)) p = none := nn
          rw [upd_same] at this
          cases this
      · cases em
    · cases em
  · cases em
def mParF (i j : Nat) (mf : MF) : MS := fun ρ S => match mf ρ S with
  | some ([y, z], S1) => if i < ρ.length ∧ j < ρ.length ∧ i ≠ j then some (.nx ((ρ.set i y).set j z) S1) else none
  | _ => none
theorem xparF {i j : Nat} (h : PS X st (tPar i j (tMF X.K C mf))) : PS X st (tMS X.K C (mParF i j mf)) := PS.weak h fun D σ H ⟨W0, W, ρ, S, out, eH, R, em, p⟩ => by
  subst eH
  unfold mParF at em
  split at em
  · rename_i y z S1 e1
    split at em
    · rename_i hl
      cases em
      refine ⟨W0, W, ρ, S, _, S1, rfl, R, e1, fun vs W1 R1 g1 f1 => ?_⟩
      cases f1 with
      | cons h1 f2 a1 =>
        cases f2 with
        | cons h2 f3 _ =>
          cases f3
          refine ⟨_, _, rfl, p _ W1 g1.groF ((R1.setF h1 hl.1).setF (h2.setF R1.l (fun x x' a e1 e2 e3 e4 => a1 x a e1 e2 0 x' (by rw [← e3]; rfl) (by rw [← e4]; rfl)) hl.1) (by rw [List.length_set]; exact hl.2.1))⟩
    · cases em
  · cases em
def mParF3 (i j l : Nat) (mf : MF) : MS := fun ρ S => match mf ρ S with
  | some ([x, y, z], S1) => if i < ρ.length ∧ j < ρ.length ∧ l < ρ.length ∧ i ≠ j then some (.nx (((ρ.set i x).set j y).set l z) S1) else none
  | _ => none
theorem xparF3 {i j l : Nat} (h : PS X st (tPar3 i j l (tMF X.K C mf))) : PS X st (tMS X.K C (mParF3 i j l mf)) := PS.weak h fun D σ H ⟨W0, W, ρ, S, out, eH, R, em, p⟩ => by
  subst eH
  unfold mParF3 at em
  split at em
  · rename_i x y z S1 e1
    split at em
    · rename_i hl
      cases em
      refine ⟨W0, W, ρ, S, _, S1, rfl, R, e1, fun vs W1 R1 g1 f1 => ?_⟩
      cases f1 with
      | cons h1 f2 a1 =>
        cases f2 with
        | cons h2 f3 a2 =>
          cases f3 with
          | cons h3 f4 a3 =>
            cases f4
            have R2 := R1.setF h1 hl.1
            have k2 := h2.setF R1.l (fun x x' a e1 e2 e3 e4 => a1 x a e1 e2 0 x' (by rw [← e3]; rfl) (by rw [← e4]; rfl)) hl.1
            have k3 := h3.setF R1.l (fun x x' a e1 e2 e3 e4 => a1 x a e1 e2 1 x' (by rw [← e3]; rfl) (by rw [← e4]; rfl)) hl.1
            have R3 := R2.setF k2 (by rw [List.length_set]; exact hl.2.1)
            have k4 := k3.setF R2.l (fun x x' a e1 e2 e3 e4 => a2 x a e1 e2 0 x' (by rw [← e3]; rfl) (by rw [← e4]; rfl)) (by rw [List.length_set]; exact hl.2.1)
            exact ⟨_, _, _, rfl, p _ W1 g1.groF (R3.setF k4 (by rw [List.length_set, List.length_set]; exact hl.2.2.1))⟩
    · cases em
  · cases em
variable {ρ : List SlV} {S : List PV}
@[simp] theorem e_fnil : mfNil ρ S = some ([], S) := rfl
@[simp] theorem e_fv : mfV ma mf ρ S = match ma ρ S with | some (x, S1) => (match mf ρ S1 with | some (zs, S2) => some (.val x :: zs, S2) | none => none) | none => none := rfl
@[simp] theorem e_fo : mfO mes mf ρ S = match mes ρ S with | some (xs, S1) => if xs.length ≤ 100000 then (match mf ρ S1 with | some (zs, S2) => some (.own (.lst xs) :: zs, S2) | none => none) else none | none => none := rfl
@[simp] theorem e_parF (i j : Nat) : mParF i j mf ρ S = match mf ρ S with | some ([y, z], S1) => if i < ρ.length ∧ j < ρ.length ∧ i ≠ j then some (.nx ((ρ.set i y).set j z) S1) else none | _ => none := rfl
@[simp] theorem e_parF3 (i j l : Nat) : mParF3 i j l mf ρ S = match mf ρ S with | some ([x, y, z], S1) => if i < ρ.length ∧ j < ρ.length ∧ l < ρ.length ∧ i ≠ j then some (.nx (((ρ.set i x).set j y).set l z) S1) else none | _ => none := rfl
end
end BL

namespace BL
open PySem PySem.Spec PyProof.Rows L2
/-! y.append(x.pop(i)), x and y two own lists -/
section
variable {K : PySem.W.Frag} {C : Addr}
theorem RepAll.erase {F : Hp} {θ : List Addr} : ∀ {vs : List V} {xs : List PV} (i : Nat), RepAll K C F θ vs xs → RepAll K C F θ (vs.eraseIdx i) (xs.eraseIdx i)
  | _, _, _, .nil => .nil
  | _, _, 0, .cons _ r => r
  | _, _, i + 1, .cons h r => .cons h (RepAll.erase i r)
end
section
variable {X : Cx} {C : Addr} {st : Stmt}
theorem ixQ {n k : Nat} {i : Int} (h : ixP n i = some k) : seqIndex? i n = some k := (ixN_seq (by rw [← ixP_eq]; exact h)).1
def mAppPop (j i : Nat) (mi : ME) : MS := fun ρ S => match mi ρ S with
  | some (.int k, S1) => match ρ[i]? with
    | some (.own (.lst xs)) => match ρ[j]? with
      | some (.own (.lst ys)) => if i ≠ j ∧ ys.length ≤ 100000 ∧ -(2 ^ 62) ≤ k ∧ k < 2 ^ 62 then (match ixP xs.length k with
        | some n => (match xs[n]? with
          | some y => some (.nx ((ρ.set i (.own (.lst (xs.eraseIdx n)))).set j (.own (.lst (ys ++ [y])))) S1)
          | none => none)
        | none => none) else none
      | _ => none
    | _ => none
  | _ => none
theorem xappPop {i j : Nat} {mi : ME} (h : PS X st (tDrop (tBM X.K "list" rAppend (tVar j) (tCons (tBM X.K "list" rPopAt (tVar i) (tCons (tM X.K C mi) tNil)) tNil)))) : PS X st (tMS X.K C (mAppPop j i mi)) := PS.weak h fun D σ H ⟨W0, W, ρ, S, out, eH, R, em, p⟩ => by
  subst eH
  unfold mAppPop at em
  split at em
  · rename_i k S1 e1
    split at em
    · rename_i xs hx
      split at em
      · rename_i ys hy
        split at em
        · rename_i hc
          obtain ⟨ij, hl, k0, k1⟩ := hc
          split at em
          · rename_i n hn
            split at em
            · rename_i y hyn
              cases em
              obtain ⟨a, ea, o1, o2, o3, us, eh, ru⟩ := R.s j _ hy
              obtain ⟨b, eb, q1, q2, q3, ui, ehi, rui⟩ := R.s i _ hx
              refine ⟨_, ea, .inl ⟨rfl, us, SqL.of eh⟩, _, eb, .inl ⟨rfl, ui, SqL.of ehi⟩, W0, W, ρ, S, .int k, S1, rfl, R, e1, fun v W1 R1 g1 r1 => ?_⟩
              cases r1
              obtain ⟨b', eb', _, _, _, ui', ehi', rui'⟩ := R1.s i _ hx
              rw [eb] at eb'
              cases Option.some.inj (Option.some.inj eb')
              obtain ⟨u, hu, ry⟩ := rui'.at hyn
              have R2 := R1.ownUpd hx eb (rui'.erase n)
              refine ⟨b, ui', k, n, u, rfl, rfl, ehi', by omega, by omega, by rw [rui'.len]; exact ixQ hn, hu, ?_⟩
              have hy2 : (ρ.set i (.own (.lst (xs.eraseIdx n))))[j]? = some (.own (.lst ys)) := by rw [List.getElem?_set_ne ij]; exact hy
              obtain ⟨a', ea', _, _, _, us', eh', ru'⟩ := R2.s j _ hy2
              rw [ea] at ea'
              cases Option.some.inj (Option.some.inj ea')
              refine ⟨a, us', u, rfl, rfl, eh', by rw [ru'.len]; exact Nat.lt_of_le_of_lt hl (by decide), ?_⟩
              exact p σ ⟨W1.F, upd (upd W1.H b (.lst (ui'.eraseIdx n))) a (.lst (us' ++ [u])), W1.θ⟩ ⟨g1.groF.f, g1.groF.t⟩ (R2.ownUpd hy2 ea (ru'.app (.cons ry .nil)))
            · cases em
          · cases em
        · cases em
      · cases em
    · cases em
  · cases em
@[simp] theorem e_appPop {ρ : List SlV} {S : List PV} {mi : ME} (j i : Nat) : mAppPop j i mi ρ S = match mi ρ S with
  | some (.int k, S1) => match ρ[i]? with
    | some (.own (.lst xs)) => match ρ[j]? with
      | some (.own (.lst ys)) => if i ≠ j ∧ ys.length ≤ 100000 ∧ -(2 ^ 62) ≤ k ∧ k < 2 ^ 62 then (match ixP xs.length k with
        | some n => (match xs[n]? with
          | some y => some (.nx ((ρ.set i (.own (.lst (xs.eraseIdx n)))).set j (.own (.lst (ys ++ [y])))) S1)
          | none => none)
        | none => none) else none
      | _ => none
    | _ => none
  | _ => none := rfl
/-- list(e) as a new own list, among several values -/
def lsT : PV → Option (List PV)
  | .lst xs => some xs
  | .tup xs => some xs
  | _ => none
def mfL (ma : ME) (mf : MF) : MF := fun ρ S => match ma ρ S with
  | some (x, S1) => match lsT x with
    | some xs => (match mf ρ S1 with
      | some (zs, S2) => some (.own (.lst xs) :: zs, S2)
      | none => none)
    | none => none
  | none => none
theorem lsT_rep {K : PySem.W.Frag} {W0 W : Wd} {σ : L2.St} {ρ : List SlV} {S : List PV} {v : V} {x : PV} {xs : List PV} (R : Rel K C W0 W σ ρ S) (h : lsT x = some xs) (r : RepW K C W v x) : ∃ p us, v = .ref p ∧ (SqL K W.H p us ∨ SqT K W.H p us) ∧ RepAll K C W.F W.θ us xs := by
  unfold lsT at h
  split at h
  · cases h
    cases r with
    | lst h a => exact ⟨_, _, rfl, .inl (R.i.s.seq (SqL.of h)), a⟩
  · cases h
    cases r with
    | tup h a => exact ⟨_, _, rfl, .inr (R.i.s.seT h), a⟩
  · cases h
theorem xfl {ma : ME} {mf : MF} {a : Expr} {es : List Expr} (ha : PE X a (tCB (fun xs H Q => ∃ p ys, xs = [.ref p] ∧ (SqL X.K H p ys ∨ SqT X.K H p ys) ∧ ∀ l, H l = none → Q (.ref l) (upd H l (.lst ys))) (tCons (tM X.K C ma) tNil))) (hr : PA X es (tMF X.K C mf)) (hs : starEach (a :: es) X.env = (false, eval a X.env) :: starEach es X.env := by rfl) : PA X (a :: es) (tMF X.K C (mfL ma mf)) := PA.weak (pa_cons ha hr hs) fun σ H Q ⟨W0, W, ρ, S, zs, S', eH, R, em, q⟩ => by
  subst eH
  unfold mfL at em
  split at em
  · rename_i x S1 e1
    split at em
    · rename_i xs hx
      split at em
      · rename_i ys S2 e2
        cases em
        refine ⟨W0, W, ρ, S, x, S1, rfl, R, e1, fun v W1 R1 g1 r1 => ?_⟩
        obtain ⟨p0, vs, rfl, hq, ra⟩ := lsT_rep R1 hx r1
        refine ⟨p0, vs, rfl, hq, fun p np => ?_⟩
        obtain ⟨g2, R2, o2, d2⟩ := laidO R1 ra np
        refine ⟨W0, _, ρ, S1, ys, S', rfl, R2, e2, fun us W3 R3 g3 f3 => q (.ref p :: us) W3 R3 ((g1.trans g2).trans g3) (.cons ⟨p, rfl, o2.ext g3, ?_, d2⟩ (f3.start (g1.trans g2)) fun x a _ e k y ek eu => ?_)⟩
        · cases c : W.H p with
          | none => rfl
          | some o =>
            obtain ⟨o', e'⟩ := g1.k p o c
            rw [np] at e'
            cases e'
        · cases e
          obtain ⟨v, ev, fv⟩ := f3.at k _ ek
          rw [eu] at ev
          cases ev
          obtain ⟨a, ea, _, nn, _⟩ := fv
          cases ea
          have : (upd W1.H p (.lst vs)) p = none := nn
          rw [upd_same] at this
          cases this
      · cases em
    · cases em
  · cases em
@[simp] theorem e_fl {ρ : List SlV} {S : List PV} {ma : ME} {mf : MF} : mfL ma mf ρ S = match ma ρ S with
  | some (x, S1) => match lsT x with
    | some xs => (match mf ρ S1 with
      | some (zs, S2) => some (.own (.lst xs) :: zs, S2)
      | none => none)
    | none => none
  | none => none := rfl
@[simp] theorem lsT_l (xs : List PV) : lsT (.lst xs) = some xs := rfl
@[simp] theorem lsT_t (xs : List PV) : lsT (.tup xs) = some xs := rfl
end
end BL

namespace BL
open PySem PySem.Spec PyProof.Rows L2
/-! xs.index(n) of whole numbers -/
def fIndex (_ : List PV) : PV → PV → Option PV
  | .lst xs, .int v => match intsP xs with
    | some ns => match ns.findIdx? (· == v) with
      | some j => some (.int (j : Int))
      | none => none
    | none => none
  | _, _ => none
def rngS (lo k : Int) : Nat → List PV
  | 0 => []
  | n + 1 => .int lo :: rngS (lo + k) k n
theorem rngS_len (k : Int) : ∀ (n : Nat) (lo : Int), (rngS lo k n).length = n
  | 0, _ => rfl
  | n + 1, lo => congrArg Nat.succ (rngS_len k n _)
theorem rngS_at (k : Int) : ∀ (n : Nat) (lo : Int) (i : Nat), i < n → (rngS lo k n)[i]? = some (.int (lo + i * k))
  | n + 1, lo, 0, _ => by
    show some (PV.int lo) = some (PV.int (lo + ((0 : Nat) : Int) * k))
    rw [show lo + ((0 : Nat) : Int) * k = lo by simp]
  | n + 1, lo, i + 1, h => by
    show (rngS (lo + k) k n)[i]? = _
    rw [rngS_at k n (lo + k) i (by omega), show lo + k + (i : Int) * k = lo + ((i + 1 : Nat) : Int) * k by rw [Int.natCast_add, Int.add_mul]; simp; omega]
theorem it_rngS {K : PySem.W.Frag} {C : Addr} {W : Wd} (lo k : Int) (n : Nat) : ItOk K C W (Itc lo k n) (rngS lo k n) := by
  refine ⟨fun i W1 S g i1 h => by rw [rngS_len] at h; exact h, fun W1 S g i1 => by rw [rngS_len]; exact Nat.le_refl n, fun i W1 S v H' x g i1 hx y => ?_⟩
  obtain ⟨rfl, rfl⟩ := y
  have h : i < n := by
    have := (List.getElem?_eq_some_iff.mp hx).1
    rwa [rngS_len] at this
  rw [rngS_at k n lo i h] at hx
  cases hx
  exact ⟨W1, rfl, Gro.refl _, i1, .int _⟩
/-- range with any step, n numbers -/
def mRngS (n : Nat) (ma mb mc : ME) : MI := fun ρ S => match ma ρ S with
  | some (.int i, S1) => match mb ρ S1 with
    | some (.int j, S2) => match mc ρ S2 with
      | some (.int k, S3) => if k ≠ 0 ∧ k.natAbs < 1073741824 ∧ Builtin.Range.small i j k = true ∧ Builtin.Range.rangeSize i j k = n then some (rngS i k n, S3) else none
      | _ => none
    | _ => none
  | _ => none
section
variable {X : Cx} {C : Addr} {e a b c tg : Expr} {ma mb mc : ME} {pos : Pos}
theorem irngS {p : Pos} (n : Nat) (hg : Gl X "range") (hm : X.mg "range" = none) (ha : PE X a (tM X.K C ma)) (hb : PE X b (tM X.K C mb)) (hc : PE X c (tM X.K C mc))
    (h1 : starEach (a :: [b, c]) X.env = (false, eval a X.env) :: starEach [b, c] X.env := by rfl) (h2 : starEach (b :: [c]) X.env = (false, eval b X.env) :: starEach [c] X.env := by rfl) (h3 : starEach (c :: []) X.env = (false, eval c X.env) :: starEach [] X.env := by rfl)
    (hpl : (backTo pos (starEach [b, c] X.env)).any (·.1) = false := by rfl) : PI X tg (.Call (.Name "range" p) [a, b, c] [] pos) (tMI X.K C (mRngS n ma mb mc)) :=
  PI.weak (pi_range3 hg hm (pa_cons ha (pa_cons hb (pa_cons hc pa_nil h3) h2) h1) h1 hpl) fun σ H R0 ⟨W0, W, ρ, S, xs, S', eH, R, em, q⟩ => by
  subst eH
  unfold mRngS at em
  split at em
  · rename_i i S1 e1
    split at em
    · rename_i j S2 e2
      split at em
      · rename_i k S3 e3
        split at em
        · rename_i hj
          cases em
          refine ⟨W0, W, ρ, S, _, S1, rfl, R, e1, fun v W1 R1 g1 r1 => ⟨W0, W1, ρ, S1, _, S2, rfl, R1, e2, fun u W2 R2 g2 r2 => ⟨W0, W2, ρ, S2, _, S', rfl, R2, e3, fun t W3 R3 g3 r3 => ?_⟩⟩⟩
          cases r1
          cases r2
          cases r3
          exact ⟨i, j, k, n, rfl, hj, q _ W3 R3 ((g1.trans g2).trans g3) (it_rngS i k n)⟩
        · cases em
      · cases em
    · cases em
  · cases em
end
section
variable {X : Cx} {C : Addr} {e : Expr} {ma mb : ME}
theorem xindex (h : PE X e (tBM X.K "list" (rIndex X.K) (tM X.K C ma) (tMA X.K C (mCons mb mNil)))) : PE X e (tM X.K C (mOp fIndex ma mb)) := PE.weak h fun σ H Q ⟨W0, W, ρ, S, z, S', eH, R, em, q⟩ => by
  subst eH
  obtain ⟨x, S1, y, e1, e2, e3⟩ := mOp_inv em
  unfold fIndex at e3
  split at e3
  · rename_i xs v
    split at e3
    · rename_i ns hb
      split at e3
      · rename_i j hj
        cases e3
        obtain ⟨hl, hp, hn⟩ := List.findIdx?_eq_some_iff_getElem.mp hj
        refine ⟨W0, W, ρ, S, _, S1, rfl, R, e1, fun w W1 R1 g1 r1 => ?_⟩
        have r1' := r1
        cases r1 with
        | lst h a =>
          rename_i p vs
          refine ⟨.inl ⟨rfl, _, R1.i.s.seq (SqL.of h)⟩, W0, W1, ρ, S1, [.int v], S', rfl, R1, by unfold mCons; rw [e2]; rfl, fun us W2 R2 g2 r2 => ?_⟩
          cases r2 with
          | cons r2 rr =>
            cases rr
            cases r2
            have r3 := r1'.ext g2
            cases r3 with
            | lst h2 a2 =>
              have ev := intsP_ok a2 hb
              subst ev
              refine ⟨p, _, .int v, j, .int ns[j], rfl, rfl, R2.i.s.seq (SqL.of h2), rfl, ?_, ?_, hp, fun m z' hm hz => ?_, q _ W2 R2 (g1.trans g2) (.int _)⟩
              · rw [List.all_eq_true]
                intro u hu
                obtain ⟨i, _, rfl⟩ := List.mem_map.mp hu
                rfl
              · rw [List.getElem?_map, List.getElem?_eq_getElem hl]
                rfl
              · have lm : m < ns.length := by omega
                rw [List.getElem?_map, List.getElem?_eq_getElem lm] at hz
                cases hz
                have := hn m hm
                show (ns[m] == v) = false
                simpa using this
      · cases e3
    · cases e3
  · cases e3
end
end BL

namespace L2
open PySem PySem.Spec PyProof.Rows
/-! zip of three lists -/
def Itz3 (K : PySem.W.Frag) (a b c : Addr) : It :=
  ⟨fun i H => ∃ (xs ys zs : List V) (x y u : V), SqL K H a xs ∧ SqL K H b ys ∧ SqL K H c zs ∧ xs[i]? = some x ∧ ys[i]? = some y ∧ zs[i]? = some u,
    fun i H v H' => ∃ T x y u, v = .ref T ∧ H T = none ∧ H' = upd H T (.tup [x, y, u]) ∧ (∀ xs, SqL K H a xs → xs[i]? = some x) ∧ (∀ ys, SqL K H b ys → ys[i]? = some y) ∧ ∀ zs, SqL K H c zs → zs[i]? = some u,
    fun i H => ∃ xs ys zs : List V, SqL K H a xs ∧ SqL K H b ys ∧ SqL K H c zs ∧ i ≤ xs.length ∧ i ≤ ys.length ∧ i ≤ zs.length ∧ (i = xs.length ∨ i = ys.length ∨ i = zs.length)⟩
theorem turn_zip3 {P : Program} {w : World} {K : PySem.W.Frag} {elts : List Expr} {kk : Nat} {tpos : Pos} {a b c z TI TO i1 i2 i3 : Addr} (D : ZipSep3 z TI TO i1 i2 i3 [i1, a] [i2, b] [i3, c]) (na : a ≠ i1) (nb : b ≠ i2) (nc : c ≠ i3) :
    Turn P w K (.Tuple elts kk tpos) (Itz3 K a b c) [z, TI, TO, i1, i2, i3] z (fun i h => IsZip h z TI TO .none ∧ IsTupOf3 h TI (.ref i1) (.ref i2) (.ref i3) ∧ (∃ x y u, IsTupOf3 h TO x y u) ∧ h.IsListIter i1 a i ∧ h.IsListIter i2 b i ∧ h.IsListIter i3 c i) where
  mem := by simp
  obj := fun i h st c' hc => by
    obtain ⟨hz, hTI, ⟨x, y, u, hTO⟩, ⟨o1, e1, _, d1⟩, ⟨o2, e2, _, d2⟩, ⟨o3, e3, _, d3⟩⟩ := st
    have e' : c' = z ∨ c' = TI ∨ c' = TO ∨ c' = i1 ∨ c' = i2 ∨ c' = i3 := by simpa using hc
    rcases e' with q | q | q | q | q | q
    · rw [q]; exact ⟨_, hz, fun v q => nomatch q⟩
    · rw [q]; exact ⟨_, hTI, fun v q => nomatch q⟩
    · rw [q]; exact ⟨_, hTO, fun v q => nomatch q⟩
    · rw [q]; exact ⟨o1, e1, fun v q => by rw [d1] at q; cases q⟩
    · rw [q]; exact ⟨o2, e2, fun v q => by rw [d2] at q; cases q⟩
    · rw [q]; exact ⟨o3, e3, fun v q => by rw [d3] at q; cases q⟩
  keep := fun i h h' st k => by
    obtain ⟨hz, hTI, ⟨x, y, u, hTO⟩, h1, h2, h3⟩ := st
    exact ⟨k z (by simp) _ hz, k TI (by simp) _ hTI, ⟨x, y, u, k TO (by simp) _ hTO⟩, h1.at fun o q => k i1 (by simp) o q, h2.at fun o q => k i2 (by simp) o q, h3.at fun o q => k i3 (by simp) o q⟩
  item := by
    intro X hP hw hK hc i pins s σ H E I hf st hg
    subst hP hw hK
    obtain ⟨hz, hTI, ⟨x0, y0, u0, hTO⟩, h1, h2, h3⟩ := st
    obtain ⟨xs, ys, zs, x, y, u, hqx, hqy, hqz, hx, hy, hu⟩ := hg
    obtain ⟨its, rv, p, _⟩ := I.list hqx
    obtain ⟨its2, rv2, p2, _⟩ := I.list hqy
    obtain ⟨its3, rv3, p3, _⟩ := I.list hqz
    obtain ⟨v1, hv1, rv1'⟩ := rv.get hx
    obtain ⟨v2, hv2, rv2'⟩ := rv2.get hy
    obtain ⟨v3, hv3, rv3'⟩ := rv3.get hu
    have hzl : z < s.heap.objs.size := Heap.lt_size hz
    have hh : X.A.handled = none := I.ok.hd hc
    have lt : ∀ {l : List Value} {v : Value}, l[i]? = some v → i < l.toArray.size := fun e => by
      have := (List.getElem?_eq_some_iff.mp e).1
      simpa using this
    refine wpAny_pyNext_zipD3_item D (Draws.list (A := X.A.in1) hh i1 a na its.toArray) (Draws.list (A := X.A.in1) hh i2 b nb its2.toArray) (Draws.list (A := X.A.in1) hh i3 c nc its3.toArray) hz hTI hTO ⟨h1, p.isList⟩ ⟨h2, p2.isList⟩ ⟨h3, p3.isList⟩ (lt hv1) (lt hv2) (lt hv3) fun x1 x2 x3 h' tk e1 e2 e3 z' TO' s1 s2 s3 hT hsz hk => ?_
    obtain rfl : x1 = v1 := by
      have q : its[i]? = some x1 := by simpa using e1
      rw [hv1] at q; exact (Option.some.inj q).symm
    obtain rfl : x2 = v2 := by
      have q : its2[i]? = some x2 := by simpa using e2
      rw [hv2] at q; exact (Option.some.inj q).symm
    obtain rfl : x3 = v3 := by
      have q : its3[i]? = some x3 := by simpa using e3
      rw [hv3] at q; exact (Option.some.inj q).symm
    refine ⟨_, rfl, wpAny_letOwnedTupleGo_zip (s := { s with heap := h', toks := tk }) z' fun h'' z'' sb => ?_⟩
    have hT2 : h''.get? s.heap.objs.size = some { cls := .type "tuple", data := .seq #[x1, x2, x3] } := (sb.2 _ (Nat.ne_of_gt hzl)).trans hT
    have new : ObjOk X.prog X.w (upd H s.heap.objs.size (.tup [x, y, u])) h'' s.heap.objs.size (.tup [x, y, u]) :=
      ⟨by show 3 ≤ sizeLine; decide, [x1, x2, x3], .cons rv1' (.cons rv2' (.cons rv3' .nil)), ⟨_, hT2, rfl, _, rfl⟩⟩
    have I1 : Inv X pins σ (upd H s.heap.objs.size (.tup [x, y, u])) { s with heap := h'', toks := tk } :=
      I.turnedNew (t' := tk) (ch := [z, TI, TO, i1, i2, i3]) (fun c' o hb q => (sb.2 c' (fun q' => hb (by simp [q']))).trans (hk c' o (fun q' => hb (by simp [q'])) (fun q' => hb (by simp [q'])) (fun q' => hb (by simp [q'])) (fun q' => hb (by simp [q'])) (fun q' => hb (by simp [q'])) q)) hf (Nat.le_refl _) new
    refine ⟨.ref s.heap.objs.size, _, I1, rfl, ⟨_, x, y, u, rfl, I.hok.fresh (Nat.le_refl _), rfl, fun l hl => by rw [I.list_inj hl hqx]; exact hx, fun l hl => by rw [I.list_inj hl hqy]; exact hy, fun l hl => by rw [I.list_inj hl hqz]; exact hu⟩, ⟨z'', ?_, ⟨x1, x2, x3, ?_⟩, ?_, ?_, ?_⟩, fun c' hcm => ?_⟩
    · exact (sb.2 _ D.TIz).trans (hk _ _ D.TIz D.TITO D.TIi1 D.TIi2 D.TIi3 hTI)
    · exact (sb.2 _ D.TOz).trans TO'
    · exact s1.1.at fun o q => (sb.2 _ D.zi1.symm).trans q
    · exact s2.1.at fun o q => (sb.2 _ D.zi2.symm).trans q
    · exact s3.1.at fun o q => (sb.2 _ D.zi3.symm).trans q
    · have hlt : c' < s.heap.objs.size := by
        have e' : c' = z ∨ c' = TI ∨ c' = TO ∨ c' = i1 ∨ c' = i2 ∨ c' = i3 := by simpa using hcm
        rcases e' with q | q | q | q | q | q
        · rw [q]; exact hzl
        · rw [q]; exact Heap.lt_size hTI
        · rw [q]; exact Heap.lt_size hTO
        · rw [q]; obtain ⟨_, e1, _⟩ := h1; exact Heap.lt_size e1
        · rw [q]; obtain ⟨_, e2, _⟩ := h2; exact Heap.lt_size e2
        · rw [q]; obtain ⟨_, e3, _⟩ := h3; exact Heap.lt_size e3
      rw [upd_ne (Nat.ne_of_lt hlt)]
      exact (hf c' hcm).1
  done := by
    intro X hP hw hK hc i pins s σ H E I hf st hg
    subst hP hw hK
    obtain ⟨hz, hTI, ⟨x0, y0, u0, hTO⟩, h1, h2, h3⟩ := st
    obtain ⟨xs, ys, zs, hqx, hqy, hqz, n1, n2, n3, hend⟩ := hg
    obtain ⟨its, rv, p, _⟩ := I.list hqx
    obtain ⟨its2, rv2, p2, _⟩ := I.list hqy
    obtain ⟨its3, rv3, p3, _⟩ := I.list hqz
    have l1 : xs.length = its.toArray.size := by rw [rv.length]; simp
    have l2 : ys.length = its2.toArray.size := by rw [rv2.length]; simp
    have l3 : zs.length = its3.toArray.size := by rw [rv3.length]; simp
    have hh : X.A.handled = none := I.ok.hd hc
    exact wpAny_pyNext_zipD3_end D (Draws.list (A := X.A.in1) hh i1 a na its.toArray) (Draws.list (A := X.A.in1) hh i2 b nb its2.toArray) (Draws.list (A := X.A.in1) hh i3 c nc its3.toArray) hz hTI hTO ⟨h1, p.isList⟩ ⟨h2, p2.isList⟩ ⟨h3, p3.isList⟩ (by omega) (by omega) (by omega) (by omega) fun h' tk hk => ⟨rfl, I.turnedL (t' := tk) (ch := [z, TI, TO, i1, i2, i3]) (fun c' o hb q =>
      hk c' o (fun q' => hb (by simp [q'])) (fun q' => hb (by simp [q'])) (fun q' => hb (by simp [q'])) (fun q' => hb (by simp [q'])) (fun q' => hb (by simp [q'])) q) hf⟩
  self := fun A i s Q E st h => wpAny_pyIter_zip st.1 h
def iZip3 (K : PySem.W.Frag) (ta : TA) : TI := fun σ H R => ta σ H fun vs H1 => ∃ a b c xs ys zs, vs = [.ref a, .ref b, .ref c] ∧ SqL K H1 a xs ∧ SqL K H1 b ys ∧ SqL K H1 c zs ∧ R (Itz3 K a b c) H1
theorem pi_zip3 {X : Cx} {e e2 e3 : Expr} {ta : TA} {p pos tpos : Pos} {elts : List Expr} {kk : Nat} (hg : Gl X "zip") (hm : X.mg "zip" = none) (ha : PA X [e, e2, e3] ta)
    (hs : starEach [e, e2, e3] X.env = (false, eval e X.env) :: starEach [e2, e3] X.env := by rfl) (hpl : (backTo pos (starEach [e2, e3] X.env)).any (·.1) = false := by rfl) :
    PI X (.Tuple elts kk tpos) (.Call (.Name "zip" p) [e, e2, e3] [] pos) (iZip3 X.K ta) := by
  refine ⟨fun pins s σ H R I h => ?_⟩
  refine Call_ (ld_blt I hg hm PyProof.Rows.boot_zip (PyProof.Rows.callWith_type1 (thn (ha.run pos pins s σ H _ I h) fun us s1 ⟨vs, H1, I1, r1, q1⟩ => ?_) hs hpl))
  obtain ⟨a, b, c, xs, ys, zs, ex, hqx, hqy, hqz, q⟩ := q1
  subst ex
  cases r1 with
  | cons r rr =>
    cases rr with
    | cons r' rr =>
      cases rr with
      | cons r'' rr =>
      cases rr
      cases r
      cases r'
      cases r''
      obtain ⟨its, rv, p1, _⟩ := I1.list hqx
      obtain ⟨its2, rv2, p2, _⟩ := I1.list hqy
      obtain ⟨its3, rv3, p3, _⟩ := I1.list hqz
      have la : a < s1.heap.objs.size := p1.lt
      have lb : b < s1.heap.objs.size := p2.lt
      have lc : c < s1.heap.objs.size := p3.lt
      refine zip_begins3 (begins_list a its.toArray) (begins_list b its2.toArray) (begins_list c its3.toArray) p1.isList p2.isList p3.isList fun h' hz hTI hTO g1 g2 g3 hsz hk => wpAny_pyIter_zip hz ?_
      have I2 : Inv X pins σ H1 { s1 with heap := h' } := I1.kept (t' := s1.toks) hk
      have sep := zip_sep3 (N := s1.heap.objs.size) (fp1 := [a]) (fp2 := [b]) (fp3 := [c]) (fun x hx => by rw [List.mem_singleton.mp hx]; exact la) (fun x hx => by rw [List.mem_singleton.mp hx]; exact lb) (fun x hx => by rw [List.mem_singleton.mp hx]; exact lc)
      refine ⟨s1.heap.objs.size + 5, [s1.heap.objs.size + 5, s1.heap.objs.size + 3, s1.heap.objs.size + 4, s1.heap.objs.size, s1.heap.objs.size + 1, s1.heap.objs.size + 2], _, _, H1, rfl, I2, turn_zip3 sep (Nat.ne_of_lt la) (Nat.ne_of_lt (Nat.lt_succ_of_lt lb)) (Nat.ne_of_lt (Nat.lt_succ_of_lt (Nat.lt_succ_of_lt lc))), ⟨hz, hTI, ⟨_, _, _, hTO⟩, ⟨_, g1, rfl, rfl⟩, ⟨_, g2, rfl, rfl⟩, ⟨_, g3, rfl, rfl⟩⟩, fun c' hcm => ?_, q⟩
      have e' : c' = s1.heap.objs.size + 5 ∨ c' = s1.heap.objs.size + 3 ∨ c' = s1.heap.objs.size + 4 ∨ c' = s1.heap.objs.size ∨ c' = s1.heap.objs.size + 1 ∨ c' = s1.heap.objs.size + 2 := by simpa using hcm
      have hle : s1.heap.objs.size ≤ c' := by
        rcases e' with z | z | z | z | z | z
        · rw [z]; exact Nat.le_add_right _ _
        · rw [z]; exact Nat.le_add_right _ _
        · rw [z]; exact Nat.le_add_right _ _
        · rw [z]; exact Nat.le_refl _
        · rw [z]; exact Nat.le_add_right _ _
        · rw [z]; exact Nat.le_add_right _ _
      exact I1.fpOk hle (I1.hok.fresh hle)
end L2
namespace L2
open PySem PySem.Spec PyProof.Rows
/-! max, min of a list of numbers, with default=None -/
section
variable {X : Cx}
def rMxD (K : PySem.W.Frag) : List V → List V → Hp → VK → Prop := fun vs zs H Q => ∃ (a : Addr) (ns : List Int), vs = [.ref a] ∧ zs = [.non] ∧ SqL K H a (ns.map V.int) ∧ (ns = [] → Q .non H) ∧ ∀ n ns', ns = n :: ns' → Q (.int (ns'.foldl max n)) H
def rMnD (K : PySem.W.Frag) : List V → List V → Hp → VK → Prop := fun vs zs H Q => ∃ (a : Addr) (ns : List Int), vs = [.ref a] ∧ zs = [.non] ∧ SqL K H a (ns.map V.int) ∧ (ns = [] → Q .non H) ∧ ∀ n ns', ns = n :: ns' → Q (.int (ns'.foldl min n)) H
theorem dp_ints {K : PySem.W.Frag} {H : Hp} : ∀ ns : List Int, DpAll K H (ns.map V.int) (ns.map PyData.int)
  | [] => .nil
  | n :: ns => .cons (.int n) (dp_ints ns)
theorem alike_ints (ns : List Int) : PySem.W.AlikeAll (ns.map PyData.int) := ⟨fun x hx y hy => by
  obtain ⟨i, _, rfl⟩ := List.mem_map.mp hx
  obtain ⟨j, _, rfl⟩ := List.mem_map.mp hy
  rfl, fun x hx => by
  obtain ⟨i, _, rfl⟩ := List.mem_map.mp hx
  intro e; cases e⟩
theorem depth_ints : ∀ ns : List Int, PyData.depthAll (ns.map PyData.int) ≤ 1
  | [] => by simp [PyData.depthAll]
  | n :: ns => by
    have := depth_ints ns
    simp [PyData.depthAll, PyData.depth]
    omega
theorem cr_maxDf (hc : X.calm = true) (hu : X.A.units + 65 < cLine) : CallRK X (.builtin "max") [Str.ofString "default"] (rMxD X.K) := by
  intro pins s σ H xs zs us ws Q I r rz h
  obtain ⟨a, ns, rfl, rfl, hs, q0, q1⟩ := h
  obtain ⟨its, rv, p, _⟩ := I.list hs
  rw [Vals.ref1 r]
  cases rz with
  | cons rn rr =>
  cases rr
  cases rn
  obtain ⟨as, hr⟩ := Dp.readsAll I _ _ its (dp_ints ns) rv
  have hd := depth_ints ns
  refine PySem.W.max_list_default (I.ok.hd hc) p.isList (by simpa using hr) (alike_ints ns) (by omega) (fun e h' tk hk => ⟨.non, H, I.kept hk, rfl, q0 (by cases ns with | nil => rfl | cons _ _ => cases e)⟩) fun y ys i v h' tk bs e hv hr' hk => ?_
  cases ns with
  | nil => cases e
  | cons n ns' =>
  rw [List.map_cons] at e
  cases e
  rw [PySem.W.maxD_ints] at hr'
  cases hr'
  exact ⟨.int _, H, I.kept hk, ⟨_, rfl⟩, q1 n ns' rfl⟩
theorem cr_minDf (hc : X.calm = true) (hu : X.A.units + 65 < cLine) : CallRK X (.builtin "min") [Str.ofString "default"] (rMnD X.K) := by
  intro pins s σ H xs zs us ws Q I r rz h
  obtain ⟨a, ns, rfl, rfl, hs, q0, q1⟩ := h
  obtain ⟨its, rv, p, _⟩ := I.list hs
  rw [Vals.ref1 r]
  cases rz with
  | cons rn rr =>
  cases rr
  cases rn
  obtain ⟨as, hr⟩ := Dp.readsAll I _ _ its (dp_ints ns) rv
  have hd := depth_ints ns
  refine PySem.W.min_list_default (I.ok.hd hc) p.isList (by simpa using hr) (alike_ints ns) (by omega) (fun e h' tk hk => ⟨.non, H, I.kept hk, rfl, q0 (by cases ns with | nil => rfl | cons _ _ => cases e)⟩) fun y ys i v h' tk bs e hv hr' hk => ?_
  cases ns with
  | nil => cases e
  | cons n ns' =>
  rw [List.map_cons] at e
  cases e
  rw [PySem.W.minD_ints] at hr'
  cases hr'
  exact ⟨.int _, H, I.kept hk, ⟨_, rfl⟩, q1 n ns' rfl⟩
end
end L2
namespace BL
open PySem PySem.Spec PyProof.Rows L2
section
variable {X : Cx} {C : Addr} {pos : Pos} {e a b c : Expr} {ma mb mc : ME} {mes : MA}
def fMaxD (_ : List PV) : List PV → Option PV
  | [.lst xs] => match intsP xs with
    | some [] => some .non
    | some (n :: ns) => some (.int (ns.foldl max n))
    | none => none
  | _ => none
def fMinD (_ : List PV) : List PV → Option PV
  | [.lst xs] => match intsP xs with
    | some [] => some .non
    | some (n :: ns) => some (.int (ns.foldl min n))
    | none => none
  | _ => none
theorem xmaxD (h : PE X e (tCKw (rMxD X.K) (tMA X.K C mes) (tCons (tC .non) tNil))) : PE X e (tM X.K C (mFn fMaxD mes)) := PE.weak h fun σ H Q ⟨W0, W, ρ, S, z, S', eH, R, em, q⟩ => by
  subst eH
  obtain ⟨xs, e1, e3⟩ := mFn_inv em
  refine ⟨W0, W, ρ, S, xs, S', rfl, R, e1, fun vs W1 R1 g1 r1 => ?_⟩
  unfold fMaxD at e3
  split at e3
  · rename_i ys
    cases hi : intsP ys with
    | none => rw [hi] at e3; cases e3
    | some ns =>
    rw [hi] at e3
    cases r1 with
    | cons r rr =>
    cases rr
    cases r with
    | lst hF ra =>
    have ev := intsP_ok ra hi
    subst ev
    refine ⟨_, ns, rfl, rfl, R1.i.s.seq (SqL.of hF), fun e0 => ?_, fun n ns' e0 => ?_⟩
    · subst e0
      cases e3
      exact q .non W1 R1 g1 .non
    · subst e0
      cases e3
      exact q _ W1 R1 g1 (.int _)
  · cases e3
theorem xminD (h : PE X e (tCKw (rMnD X.K) (tMA X.K C mes) (tCons (tC .non) tNil))) : PE X e (tM X.K C (mFn fMinD mes)) := PE.weak h fun σ H Q ⟨W0, W, ρ, S, z, S', eH, R, em, q⟩ => by
  subst eH
  obtain ⟨xs, e1, e3⟩ := mFn_inv em
  refine ⟨W0, W, ρ, S, xs, S', rfl, R, e1, fun vs W1 R1 g1 r1 => ?_⟩
  unfold fMinD at e3
  split at e3
  · rename_i ys
    cases hi : intsP ys with
    | none => rw [hi] at e3; cases e3
    | some ns =>
    rw [hi] at e3
    cases r1 with
    | cons r rr =>
    cases rr
    cases r with
    | lst hF ra =>
    have ev := intsP_ok ra hi
    subst ev
    refine ⟨_, ns, rfl, rfl, R1.i.s.seq (SqL.of hF), fun e0 => ?_, fun n ns' e0 => ?_⟩
    · subst e0
      cases e3
      exact q .non W1 R1 g1 .non
    · subst e0
      cases e3
      exact q _ W1 R1 g1 (.int _)
  · cases e3
/-! zip of three by trees -/
def zipP3 : List PV → List PV → List PV → List PV
  | x :: xs, y :: ys, z :: zs => .tup [x, y, z] :: zipP3 xs ys zs
  | _, _, _ => []
theorem zipP3_len : ∀ (xs ys zs : List PV), (zipP3 xs ys zs).length = min (min xs.length ys.length) zs.length
  | [], _, _ => by simp [zipP3]
  | _ :: _, [], _ => by simp [zipP3]
  | _ :: _, _ :: _, [] => by simp [zipP3]
  | x :: xs, y :: ys, z :: zs => by simp [zipP3, zipP3_len xs ys zs]
theorem zipP3_at : ∀ {xs ys zs : List PV} {i : Nat} {w : PV}, (zipP3 xs ys zs)[i]? = some w → ∃ x y z, xs[i]? = some x ∧ ys[i]? = some y ∧ zs[i]? = some z ∧ w = .tup [x, y, z]
  | [], _, _, _, _, h => by simp [zipP3] at h
  | _ :: _, [], _, _, _, h => by simp [zipP3] at h
  | _ :: _, _ :: _, [], _, _, h => by simp [zipP3] at h
  | x :: xs, y :: ys, z :: zs, 0, w, h => by cases Option.some.inj h; exact ⟨x, y, z, rfl, rfl, rfl, rfl⟩
  | x :: xs, y :: ys, z :: zs, i + 1, w, h => zipP3_at (xs := xs) (ys := ys) (zs := zs) (i := i) h
def mZip3 (ma mb mc : ME) : MI := fun ρ S => match ma ρ S with
  | some (.lst xs, S1) => match mb ρ S1 with
    | some (.lst ys, S2) => match mc ρ S2 with
      | some (.lst zs, S3) => some (zipP3 xs ys zs, S3)
      | _ => none
    | _ => none
  | _ => none
theorem it_zip3 {K : PySem.W.Frag} {W : Wd} {a b c : Addr} {vs us ws : List V} {xs ys zs : List PV} (h : W.F a = some (.lst vs)) (r : RepAll K C W.F W.θ vs xs) (h' : W.F b = some (.lst us)) (r' : RepAll K C W.F W.θ us ys) (h'' : W.F c = some (.lst ws)) (r'' : RepAll K C W.F W.θ ws zs) : ItOk K C W (Itz3 K a b c) (zipP3 xs ys zs) := by
  have h1 : ∀ W1 S, GroF W W1 → Inv1 K C W1 S → SqL K W1.H a vs ∧ SqL K W1.H b us ∧ SqL K W1.H c ws := fun W1 S g i => ⟨i.s.seq (SqL.of (g.f _ _ h)), i.s.seq (SqL.of (g.f _ _ h')), i.s.seq (SqL.of (g.f _ _ h''))⟩
  refine ⟨fun i W1 S g i1 hi => ?_, fun W1 S g i1 => ⟨vs, us, ws, (h1 W1 S g i1).1, (h1 W1 S g i1).2.1, (h1 W1 S g i1).2.2, by rw [r.len, zipP3_len]; omega, by rw [r'.len, zipP3_len]; omega, by rw [r''.len, zipP3_len]; omega, by rw [r.len, r'.len, r''.len, zipP3_len]; omega⟩, fun i W1 S v H' x g i1 hx y => ?_⟩
  · rw [zipP3_len] at hi
    obtain ⟨v, ev, _⟩ := r.at (i := i) (List.getElem?_eq_getElem (by omega))
    obtain ⟨u, eu, _⟩ := r'.at (i := i) (List.getElem?_eq_getElem (by omega))
    obtain ⟨w, ew, _⟩ := r''.at (i := i) (List.getElem?_eq_getElem (by omega))
    exact ⟨vs, us, ws, v, u, w, (h1 W1 S g i1).1, (h1 W1 S g i1).2.1, (h1 W1 S g i1).2.2, ev, eu, ew⟩
  · obtain ⟨T, u, w, t, rfl, nT, rfl, hv, hw, ht⟩ := y
    obtain ⟨p, q, q2, hp, hq, hq2, rfl⟩ := zipP3_at hx
    obtain ⟨u', eu, ru⟩ := (grow_all r g).at hp
    obtain ⟨w', ew, rw'⟩ := (grow_all r' g).at hq
    obtain ⟨t', et, rt⟩ := (grow_all r'' g).at hq2
    have e1 := hv vs (h1 W1 S g i1).1
    have e2 := hw us (h1 W1 S g i1).2.1
    have e3 := ht ws (h1 W1 S g i1).2.2
    rw [eu] at e1
    rw [ew] at e2
    rw [et] at e3
    cases Option.some.inj e1
    cases Option.some.inj e2
    cases Option.some.inj e3
    obtain ⟨g2, i2⟩ := laid (.tup [u, w, t]) i1 nT
    exact ⟨_, rfl, g2, i2, .tup (SqT.of upd_same) (.cons (ru.ext g2) (.cons (rw'.ext g2) (.cons (rt.ext g2) .nil)))⟩
theorem izip3 {p tpos : Pos} {elts : List Expr} {kk : Nat} (hg : Gl X "zip") (hm : X.mg "zip" = none) (ha : PE X a (tM X.K C ma)) (hb : PE X b (tM X.K C mb)) (hc : PE X c (tM X.K C mc)) (hst3 : starEach (c :: []) X.env = (false, eval c X.env) :: starEach [] X.env := by rfl) (hst2 : starEach (b :: [c]) X.env = (false, eval b X.env) :: starEach [c] X.env := by rfl)
    (hs : starEach [a, b, c] X.env = (false, eval a X.env) :: starEach [b, c] X.env := by rfl) (hpl : (backTo pos (starEach [b, c] X.env)).any (·.1) = false := by rfl) :
    PI X (.Tuple elts kk tpos) (.Call (.Name "zip" p) [a, b, c] [] pos) (tMI X.K C (mZip3 ma mb mc)) := PI.weak (pi_zip3 hg hm (pa_cons ha (pa_cons hb (pa_cons hc pa_nil hst3) hst2) hs) hs hpl) fun σ H R0 ⟨W0, W, ρ, S, xs, S', eH, R, em, q⟩ => by
  subst eH
  unfold mZip3 at em
  split at em
  · rename_i ys S1 e1
    split at em
    · rename_i zs S2 e2
      split at em
      · rename_i ws S3 e3
        cases em
        refine ⟨W0, W, ρ, S, _, S1, rfl, R, e1, fun v W1 R1 g1 r1 => ⟨W0, W1, ρ, S1, _, S2, rfl, R1, e2, fun u W2 R2 g2 r2 => ⟨W0, W2, ρ, S2, _, S', rfl, R2, e3, fun t W3 R3 g3 r3 => ?_⟩⟩⟩
        have r1' := (r1.ext g2).ext g3
        have r2' := r2.ext g3
        cases r1' with
        | lst h a1 =>
          cases r2' with
          | lst h' a2 =>
            cases r3 with
            | lst h'' a3 => exact ⟨_, _, _, _, _, _, rfl, R3.i.s.seq (SqL.of h), R3.i.s.seq (SqL.of h'), R3.i.s.seq (SqL.of h''), q _ W3 R3 ((g1.trans g2).trans g3) (it_zip3 h a1 h' a2 h'' a3)⟩
      · cases em
    · cases em
  · cases em
end
section
variable {ρ : List SlV} {S : List PV} {ma mb mc : ME}
@[simp] theorem e_zip3 : mZip3 ma mb mc ρ S = match ma ρ S with
  | some (.lst xs, S1) => (match mb ρ S1 with
    | some (.lst ys, S2) => (match mc ρ S2 with
      | some (.lst zs, S3) => some (zipP3 xs ys zs, S3)
      | _ => none)
    | _ => none)
  | _ => none := rfl
end
end BL

namespace L2
open PySem PySem.Spec PyProof.Rows
def ItzTL (K : PySem.W.Frag) (a b : Addr) : It :=
  ⟨fun i H => ∃ (xs ys : List V) (x y : V), SqT K H a xs ∧ SqL K H b ys ∧ xs[i]? = some x ∧ ys[i]? = some y,
    fun i H v H' => ∃ T x y, v = .ref T ∧ H T = none ∧ H' = upd H T (.tup [x, y]) ∧ (∀ xs, SqT K H a xs → xs[i]? = some x) ∧ ∀ ys, SqL K H b ys → ys[i]? = some y,
    fun i H => ∃ xs ys : List V, SqT K H a xs ∧ SqL K H b ys ∧ i ≤ xs.length ∧ i ≤ ys.length ∧ (i = xs.length ∨ i = ys.length)⟩
theorem turn_zipTL {P : Program} {w : World} {K : PySem.W.Frag} {elts : List Expr} {kk : Nat} {tpos : Pos} {a b z TI TO i1 i2 : Addr} (D : ZipSep2 z TI TO i1 i2 [i1, a] [i2, b]) (na : a ≠ i1) (nb : b ≠ i2) :
    Turn P w K (.Tuple elts kk tpos) (ItzTL K a b) [z, TI, TO, i1, i2] z (fun i h => IsZip h z TI TO .none ∧ IsTupOf2 h TI (.ref i1) (.ref i2) ∧ (∃ x y, IsTupOf2 h TO x y) ∧ h.IsTupleIter i1 a i ∧ h.IsListIter i2 b i) where
  mem := by simp
  obj := fun i h st c' hc => by
    obtain ⟨hz, hTI, ⟨x, y, hTO⟩, ⟨o1, e1, _, d1⟩, ⟨o2, e2, _, d2⟩⟩ := st
    have e' : c' = z ∨ c' = TI ∨ c' = TO ∨ c' = i1 ∨ c' = i2 := by simpa using hc
    rcases e' with q | q | q | q | q
    · rw [q]; exact ⟨_, hz, fun v q => nomatch q⟩
    · rw [q]; exact ⟨_, hTI, fun v q => nomatch q⟩
    · rw [q]; exact ⟨_, hTO, fun v q => nomatch q⟩
    · rw [q]; exact ⟨o1, e1, fun v q => by rw [d1] at q; cases q⟩
    · rw [q]; exact ⟨o2, e2, fun v q => by rw [d2] at q; cases q⟩
  keep := fun i h h' st k => by
    obtain ⟨hz, hTI, ⟨x, y, hTO⟩, h1, h2⟩ := st
    exact ⟨k z (by simp) _ hz, k TI (by simp) _ hTI, ⟨x, y, k TO (by simp) _ hTO⟩, h1.at fun o q => k i1 (by simp) o q, h2.at fun o q => k i2 (by simp) o q⟩
  item := by
    intro X hP hw hK hc i pins s σ H E I hf st hg
    subst hP hw hK
    obtain ⟨hz, hTI, ⟨x0, y0, hTO⟩, h1, h2⟩ := st
    obtain ⟨xs, ys, x, y, hqx, hqy, hx, hy⟩ := hg
    obtain ⟨its, rv, p, _⟩ := I.tuple hqx
    obtain ⟨its2, rv2, p2, _⟩ := I.list hqy
    obtain ⟨v1, hv1, rv1'⟩ := rv.get hx
    obtain ⟨v2, hv2, rv2'⟩ := rv2.get hy
    have hzl : z < s.heap.objs.size := Heap.lt_size hz
    have hh : X.A.handled = none := I.ok.hd hc
    have lt : ∀ {l : List Value} {v : Value}, l[i]? = some v → i < l.toArray.size := fun e => by
      have := (List.getElem?_eq_some_iff.mp e).1
      simpa using this
    refine wpAny_pyNext_zipD2_item D (Draws.tuple (A := X.A.in1) hh i1 a na its.toArray) (Draws.list (A := X.A.in1) hh i2 b nb its2.toArray) hz hTI hTO ⟨h1, p⟩ ⟨h2, p2.isList⟩ (lt hv1) (lt hv2) fun x1 x2 h' tk e1 e2 z' TO' s1 s2 hT hsz hk => ?_
    obtain rfl : x1 = v1 := by
      have q : its[i]? = some x1 := by simpa using e1
      rw [hv1] at q; exact (Option.some.inj q).symm
    obtain rfl : x2 = v2 := by
      have q : its2[i]? = some x2 := by simpa using e2
      rw [hv2] at q; exact (Option.some.inj q).symm
    refine ⟨_, rfl, wpAny_letOwnedTupleGo_zip (s := { s with heap := h', toks := tk }) z' fun h'' z'' sb => ?_⟩
    have hT2 : h''.get? s.heap.objs.size = some { cls := .type "tuple", data := .seq #[x1, x2] } := (sb.2 _ (Nat.ne_of_gt hzl)).trans hT
    have new : ObjOk X.prog X.w (upd H s.heap.objs.size (.tup [x, y])) h'' s.heap.objs.size (.tup [x, y]) :=
      ⟨by show 2 ≤ sizeLine; decide, [x1, x2], .cons rv1' (.cons rv2' .nil), ⟨_, hT2, rfl, _, rfl⟩⟩
    have I1 : Inv X pins σ (upd H s.heap.objs.size (.tup [x, y])) { s with heap := h'', toks := tk } :=
      I.turnedNew (t' := tk) (ch := [z, TI, TO, i1, i2]) (fun c' o hb q => (sb.2 c' (fun q' => hb (by simp [q']))).trans (hk c' o (fun q' => hb (by simp [q'])) (fun q' => hb (by simp [q'])) (fun q' => hb (by simp [q'])) (fun q' => hb (by simp [q'])) q)) hf (Nat.le_refl _) new
    refine ⟨.ref s.heap.objs.size, _, I1, rfl, ⟨_, x, y, rfl, I.hok.fresh (Nat.le_refl _), rfl, fun l hl => by rw [I.tuple_inj hl hqx]; exact hx, fun l hl => by rw [I.list_inj hl hqy]; exact hy⟩, ⟨z'', ?_, ⟨x1, x2, ?_⟩, ?_, ?_⟩, fun c' hcm => ?_⟩
    · exact (sb.2 _ D.TIz).trans (hk _ _ D.TIz D.TITO D.TIi1 D.TIi2 hTI)
    · exact (sb.2 _ D.TOz).trans TO'
    · exact s1.1.at fun o q => (sb.2 _ D.zi1.symm).trans q
    · exact s2.1.at fun o q => (sb.2 _ D.zi2.symm).trans q
    · have hlt : c' < s.heap.objs.size := by
        have e' : c' = z ∨ c' = TI ∨ c' = TO ∨ c' = i1 ∨ c' = i2 := by simpa using hcm
        rcases e' with q | q | q | q | q
        · rw [q]; exact hzl
        · rw [q]; exact Heap.lt_size hTI
        · rw [q]; exact Heap.lt_size hTO
        · rw [q]; obtain ⟨_, e1, _⟩ := h1; exact Heap.lt_size e1
        · rw [q]; obtain ⟨_, e2, _⟩ := h2; exact Heap.lt_size e2
      rw [upd_ne (Nat.ne_of_lt hlt)]
      exact (hf c' hcm).1
  done := by
    intro X hP hw hK hc i pins s σ H E I hf st hg
    subst hP hw hK
    obtain ⟨hz, hTI, ⟨x0, y0, hTO⟩, h1, h2⟩ := st
    obtain ⟨xs, ys, hqx, hqy, n1, n2, hend⟩ := hg
    obtain ⟨its, rv, p, _⟩ := I.tuple hqx
    obtain ⟨its2, rv2, p2, _⟩ := I.list hqy
    have l1 : xs.length = its.toArray.size := by rw [rv.length]; simp
    have l2 : ys.length = its2.toArray.size := by rw [rv2.length]; simp
    have hh : X.A.handled = none := I.ok.hd hc
    exact wpAny_pyNext_zipD2_end D (Draws.tuple (A := X.A.in1) hh i1 a na its.toArray) (Draws.list (A := X.A.in1) hh i2 b nb its2.toArray) hz hTI hTO ⟨h1, p⟩ ⟨h2, p2.isList⟩ (by omega) (by omega) (by omega) fun h' tk hk => ⟨rfl, I.turnedL (t' := tk) (ch := [z, TI, TO, i1, i2]) (fun c' o hb q =>
      hk c' o (fun q' => hb (by simp [q'])) (fun q' => hb (by simp [q'])) (fun q' => hb (by simp [q'])) (fun q' => hb (by simp [q'])) q) hf⟩
  self := fun A i s Q E st h => wpAny_pyIter_zip st.1 h
def ItzLT (K : PySem.W.Frag) (a b : Addr) : It :=
  ⟨fun i H => ∃ (xs ys : List V) (x y : V), SqL K H a xs ∧ SqT K H b ys ∧ xs[i]? = some x ∧ ys[i]? = some y,
    fun i H v H' => ∃ T x y, v = .ref T ∧ H T = none ∧ H' = upd H T (.tup [x, y]) ∧ (∀ xs, SqL K H a xs → xs[i]? = some x) ∧ ∀ ys, SqT K H b ys → ys[i]? = some y,
    fun i H => ∃ xs ys : List V, SqL K H a xs ∧ SqT K H b ys ∧ i ≤ xs.length ∧ i ≤ ys.length ∧ (i = xs.length ∨ i = ys.length)⟩
theorem turn_zipLT {P : Program} {w : World} {K : PySem.W.Frag} {elts : List Expr} {kk : Nat} {tpos : Pos} {a b z TI TO i1 i2 : Addr} (D : ZipSep2 z TI TO i1 i2 [i1, a] [i2, b]) (na : a ≠ i1) (nb : b ≠ i2) :
    Turn P w K (.Tuple elts kk tpos) (ItzLT K a b) [z, TI, TO, i1, i2] z (fun i h => IsZip h z TI TO .none ∧ IsTupOf2 h TI (.ref i1) (.ref i2) ∧ (∃ x y, IsTupOf2 h TO x y) ∧ h.IsListIter i1 a i ∧ h.IsTupleIter i2 b i) where
  mem := by simp
  obj := fun i h st c' hc => by
    obtain ⟨hz, hTI, ⟨x, y, hTO⟩, ⟨o1, e1, _, d1⟩, ⟨o2, e2, _, d2⟩⟩ := st
    have e' : c' = z ∨ c' = TI ∨ c' = TO ∨ c' = i1 ∨ c' = i2 := by simpa using hc
    rcases e' with q | q | q | q | q
    · rw [q]; exact ⟨_, hz, fun v q => nomatch q⟩
    · rw [q]; exact ⟨_, hTI, fun v q => nomatch q⟩
    · rw [q]; exact ⟨_, hTO, fun v q => nomatch q⟩
    · rw [q]; exact ⟨o1, e1, fun v q => by rw [d1] at q; cases q⟩
    · rw [q]; exact ⟨o2, e2, fun v q => by rw [d2] at q; cases q⟩
  keep := fun i h h' st k => by
    obtain ⟨hz, hTI, ⟨x, y, hTO⟩, h1, h2⟩ := st
    exact ⟨k z (by simp) _ hz, k TI (by simp) _ hTI, ⟨x, y, k TO (by simp) _ hTO⟩, h1.at fun o q => k i1 (by simp) o q, h2.at fun o q => k i2 (by simp) o q⟩
  item := by
    intro X hP hw hK hc i pins s σ H E I hf st hg
    subst hP hw hK
    obtain ⟨hz, hTI, ⟨x0, y0, hTO⟩, h1, h2⟩ := st
    obtain ⟨xs, ys, x, y, hqx, hqy, hx, hy⟩ := hg
    obtain ⟨its, rv, p, _⟩ := I.list hqx
    obtain ⟨its2, rv2, p2, _⟩ := I.tuple hqy
    obtain ⟨v1, hv1, rv1'⟩ := rv.get hx
    obtain ⟨v2, hv2, rv2'⟩ := rv2.get hy
    have hzl : z < s.heap.objs.size := Heap.lt_size hz
    have hh : X.A.handled = none := I.ok.hd hc
    have lt : ∀ {l : List Value} {v : Value}, l[i]? = some v → i < l.toArray.size := fun e => by
      have := (List.getElem?_eq_some_iff.mp e).1
      simpa using this
    refine wpAny_pyNext_zipD2_item D (Draws.list (A := X.A.in1) hh i1 a na its.toArray) (Draws.tuple (A := X.A.in1) hh i2 b nb its2.toArray) hz hTI hTO ⟨h1, p.isList⟩ ⟨h2, p2⟩ (lt hv1) (lt hv2) fun x1 x2 h' tk e1 e2 z' TO' s1 s2 hT hsz hk => ?_
    obtain rfl : x1 = v1 := by
      have q : its[i]? = some x1 := by simpa using e1
      rw [hv1] at q; exact (Option.some.inj q).symm
    obtain rfl : x2 = v2 := by
      have q : its2[i]? = some x2 := by simpa using e2
      rw [hv2] at q; exact (Option.some.inj q).symm
    refine ⟨_, rfl, wpAny_letOwnedTupleGo_zip (s := { s with heap := h', toks := tk }) z' fun h'' z'' sb => ?_⟩
    have hT2 : h''.get? s.heap.objs.size = some { cls := .type "tuple", data := .seq #[x1, x2] } := (sb.2 _ (Nat.ne_of_gt hzl)).trans hT
    have new : ObjOk X.prog X.w (upd H s.heap.objs.size (.tup [x, y])) h'' s.heap.objs.size (.tup [x, y]) :=
      ⟨by show 2 ≤ sizeLine; decide, [x1, x2], .cons rv1' (.cons rv2' .nil), ⟨_, hT2, rfl, _, rfl⟩⟩
    have I1 : Inv X pins σ (upd H s.heap.objs.size (.tup [x, y])) { s with heap := h'', toks := tk } :=
      I.turnedNew (t' := tk) (ch := [z, TI, TO, i1, i2]) (fun c' o hb q => (sb.2 c' (fun q' => hb (by simp [q']))).trans (hk c' o (fun q' => hb (by simp [q'])) (fun q' => hb (by simp [q'])) (fun q' => hb (by simp [q'])) (fun q' => hb (by simp [q'])) q)) hf (Nat.le_refl _) new
    refine ⟨.ref s.heap.objs.size, _, I1, rfl, ⟨_, x, y, rfl, I.hok.fresh (Nat.le_refl _), rfl, fun l hl => by rw [I.list_inj hl hqx]; exact hx, fun l hl => by rw [I.tuple_inj hl hqy]; exact hy⟩, ⟨z'', ?_, ⟨x1, x2, ?_⟩, ?_, ?_⟩, fun c' hcm => ?_⟩
    · exact (sb.2 _ D.TIz).trans (hk _ _ D.TIz D.TITO D.TIi1 D.TIi2 hTI)
    · exact (sb.2 _ D.TOz).trans TO'
    · exact s1.1.at fun o q => (sb.2 _ D.zi1.symm).trans q
    · exact s2.1.at fun o q => (sb.2 _ D.zi2.symm).trans q
    · have hlt : c' < s.heap.objs.size := by
        have e' : c' = z ∨ c' = TI ∨ c' = TO ∨ c' = i1 ∨ c' = i2 := by simpa using hcm
        rcases e' with q | q | q | q | q
        · rw [q]; exact hzl
        · rw [q]; exact Heap.lt_size hTI
        · rw [q]; exact Heap.lt_size hTO
        · rw [q]; obtain ⟨_, e1, _⟩ := h1; exact Heap.lt_size e1
        · rw [q]; obtain ⟨_, e2, _⟩ := h2; exact Heap.lt_size e2
      rw [upd_ne (Nat.ne_of_lt hlt)]
      exact (hf c' hcm).1
  done := by
    intro X hP hw hK hc i pins s σ H E I hf st hg
    subst hP hw hK
    obtain ⟨hz, hTI, ⟨x0, y0, hTO⟩, h1, h2⟩ := st
    obtain ⟨xs, ys, hqx, hqy, n1, n2, hend⟩ := hg
    obtain ⟨its, rv, p, _⟩ := I.list hqx
    obtain ⟨its2, rv2, p2, _⟩ := I.tuple hqy
    have l1 : xs.length = its.toArray.size := by rw [rv.length]; simp
    have l2 : ys.length = its2.toArray.size := by rw [rv2.length]; simp
    have hh : X.A.handled = none := I.ok.hd hc
    exact wpAny_pyNext_zipD2_end D (Draws.list (A := X.A.in1) hh i1 a na its.toArray) (Draws.tuple (A := X.A.in1) hh i2 b nb its2.toArray) hz hTI hTO ⟨h1, p.isList⟩ ⟨h2, p2⟩ (by omega) (by omega) (by omega) fun h' tk hk => ⟨rfl, I.turnedL (t' := tk) (ch := [z, TI, TO, i1, i2]) (fun c' o hb q =>
      hk c' o (fun q' => hb (by simp [q'])) (fun q' => hb (by simp [q'])) (fun q' => hb (by simp [q'])) (fun q' => hb (by simp [q'])) q) hf⟩
  self := fun A i s Q E st h => wpAny_pyIter_zip st.1 h
def iZipM (K : PySem.W.Frag) (ta : TA) : TI := fun σ H R => ta σ H fun vs H1 => ∃ a b xs ys, vs = [.ref a, .ref b] ∧ ((SqT K H1 a xs ∧ SqL K H1 b ys ∧ R (ItzTL K a b) H1) ∨ (SqL K H1 a xs ∧ SqT K H1 b ys ∧ R (ItzLT K a b) H1))
theorem pi_zipM {X : Cx} {e e2 : Expr} {ta : TA} {p pos tpos : Pos} {elts : List Expr} {kk : Nat} (hg : Gl X "zip") (hm : X.mg "zip" = none) (ha : PA X [e, e2] ta)
    (hs : starEach [e, e2] X.env = (false, eval e X.env) :: starEach [e2] X.env := by rfl) (hpl : (backTo pos (starEach [e2] X.env)).any (·.1) = false := by rfl) :
    PI X (.Tuple elts kk tpos) (.Call (.Name "zip" p) [e, e2] [] pos) (iZipM X.K ta) := by
  refine ⟨fun pins s σ H R I h => ?_⟩
  refine Call_ (ld_blt I hg hm PyProof.Rows.boot_zip (PyProof.Rows.callWith_type1 (thn (ha.run pos pins s σ H _ I h) fun us s1 ⟨vs, H1, I1, r1, q1⟩ => ?_) hs hpl))
  obtain ⟨a, b, xs, ys, ex, q⟩ := q1
  subst ex
  cases r1 with
  | cons r rr =>
    cases rr with
    | cons r' rr =>
      cases rr
      cases r
      cases r'
      rcases q with ⟨hqx, hqy, q⟩ | ⟨hqx, hqy, q⟩
      · obtain ⟨its, rv, p1, _⟩ := I1.tuple hqx
        obtain ⟨its2, rv2, p2, _⟩ := I1.list hqy
        have la : a < s1.heap.objs.size := by obtain ⟨_, e, _⟩ := p1; exact Heap.lt_size e
        have lb : b < s1.heap.objs.size := p2.lt
        refine zip_begins2 (begins_tuple a its.toArray) (begins_list b its2.toArray) p1 p2.isList fun h' hz hTI hTO g1 g2 hsz hk => wpAny_pyIter_zip hz ?_
        have I2 : Inv X pins σ H1 { s1 with heap := h' } := I1.kept (t' := s1.toks) hk
        have sep := zip_sep2 (N := s1.heap.objs.size) (fp1 := [a]) (fp2 := [b]) (fun x hx => by rw [List.mem_singleton.mp hx]; exact la) (fun x hx => by rw [List.mem_singleton.mp hx]; exact lb)
        refine ⟨s1.heap.objs.size + 4, [s1.heap.objs.size + 4, s1.heap.objs.size + 2, s1.heap.objs.size + 3, s1.heap.objs.size, s1.heap.objs.size + 1], _, _, H1, rfl, I2, turn_zipTL sep (Nat.ne_of_lt la) (Nat.ne_of_lt (Nat.lt_succ_of_lt lb)), ⟨hz, hTI, ⟨_, _, hTO⟩, ⟨_, g1, rfl, rfl⟩, ⟨_, g2, rfl, rfl⟩⟩, fun c' hcm => ?_, q⟩
        have e' : c' = s1.heap.objs.size + 4 ∨ c' = s1.heap.objs.size + 2 ∨ c' = s1.heap.objs.size + 3 ∨ c' = s1.heap.objs.size ∨ c' = s1.heap.objs.size + 1 := by simpa using hcm
        have hle : s1.heap.objs.size ≤ c' := by
          rcases e' with z | z | z | z | z
          · rw [z]; exact Nat.le_add_right _ _
          · rw [z]; exact Nat.le_add_right _ _
          · rw [z]; exact Nat.le_add_right _ _
          · rw [z]; exact Nat.le_refl _
          · rw [z]; exact Nat.le_add_right _ _
        exact I1.fpOk hle (I1.hok.fresh hle)
      · obtain ⟨its, rv, p1, _⟩ := I1.list hqx
        obtain ⟨its2, rv2, p2, _⟩ := I1.tuple hqy
        have la : a < s1.heap.objs.size := p1.lt
        have lb : b < s1.heap.objs.size := by obtain ⟨_, e, _⟩ := p2; exact Heap.lt_size e
        refine zip_begins2 (begins_list a its.toArray) (begins_tuple b its2.toArray) p1.isList p2 fun h' hz hTI hTO g1 g2 hsz hk => wpAny_pyIter_zip hz ?_
        have I2 : Inv X pins σ H1 { s1 with heap := h' } := I1.kept (t' := s1.toks) hk
        have sep := zip_sep2 (N := s1.heap.objs.size) (fp1 := [a]) (fp2 := [b]) (fun x hx => by rw [List.mem_singleton.mp hx]; exact la) (fun x hx => by rw [List.mem_singleton.mp hx]; exact lb)
        refine ⟨s1.heap.objs.size + 4, [s1.heap.objs.size + 4, s1.heap.objs.size + 2, s1.heap.objs.size + 3, s1.heap.objs.size, s1.heap.objs.size + 1], _, _, H1, rfl, I2, turn_zipLT sep (Nat.ne_of_lt la) (Nat.ne_of_lt (Nat.lt_succ_of_lt lb)), ⟨hz, hTI, ⟨_, _, hTO⟩, ⟨_, g1, rfl, rfl⟩, ⟨_, g2, rfl, rfl⟩⟩, fun c' hcm => ?_, q⟩
        have e' : c' = s1.heap.objs.size + 4 ∨ c' = s1.heap.objs.size + 2 ∨ c' = s1.heap.objs.size + 3 ∨ c' = s1.heap.objs.size ∨ c' = s1.heap.objs.size + 1 := by simpa using hcm
        have hle : s1.heap.objs.size ≤ c' := by
          rcases e' with z | z | z | z | z
          · rw [z]; exact Nat.le_add_right _ _
          · rw [z]; exact Nat.le_add_right _ _
          · rw [z]; exact Nat.le_add_right _ _
          · rw [z]; exact Nat.le_refl _
          · rw [z]; exact Nat.le_add_right _ _
        exact I1.fpOk hle (I1.hok.fresh hle)
end L2
namespace BL
open PySem PySem.Spec PyProof.Rows L2
section
variable {X : Cx} {C : Addr} {pos : Pos} {e a b : Expr} {ma mb : ME}
theorem it_zipTL {K : PySem.W.Frag} {W : Wd} {a b : Addr} {vs us : List V} {xs ys : List PV} (h : SqT K W.F a vs) (r : RepAll K C W.F W.θ vs xs) (h' : W.F b = some (.lst us)) (r' : RepAll K C W.F W.θ us ys) : ItOk K C W (ItzTL K a b) (zipP xs ys) := by
  have h1 : ∀ W1 S, GroF W W1 → Inv1 K C W1 S → SqT K W1.H a vs ∧ SqL K W1.H b us := fun W1 S g i => ⟨i.s.seT (g.f.seT h), i.s.seq (SqL.of (g.f _ _ h'))⟩
  refine ⟨fun i W1 S g i1 hi => ?_, fun W1 S g i1 => ⟨vs, us, (h1 W1 S g i1).1, (h1 W1 S g i1).2, by rw [r.len, r'.len, zipP_len]; omega⟩, fun i W1 S v H' x g i1 hx y => ?_⟩
  · rw [zipP_len] at hi
    obtain ⟨v, ev, _⟩ := r.at (i := i) (List.getElem?_eq_getElem (by omega))
    obtain ⟨u, eu, _⟩ := r'.at (i := i) (List.getElem?_eq_getElem (by omega))
    exact ⟨vs, us, v, u, (h1 W1 S g i1).1, (h1 W1 S g i1).2, ev, eu⟩
  · obtain ⟨T, u, w, rfl, nT, rfl, hv, hw⟩ := y
    obtain ⟨p, q, hp, hq, rfl⟩ := zipP_at hx
    obtain ⟨u', eu, ru⟩ := (grow_all r g).at hp
    obtain ⟨w', ew, rw'⟩ := (grow_all r' g).at hq
    have e1 := hv vs (h1 W1 S g i1).1
    have e2 := hw us (h1 W1 S g i1).2
    rw [eu] at e1
    rw [ew] at e2
    cases Option.some.inj e1
    cases Option.some.inj e2
    obtain ⟨g2, i2⟩ := laid (.tup [u, w]) i1 nT
    exact ⟨_, rfl, g2, i2, .tup (SqT.of upd_same) (.cons (ru.ext g2) (.cons (rw'.ext g2) .nil))⟩
theorem it_zipLT {K : PySem.W.Frag} {W : Wd} {a b : Addr} {vs us : List V} {xs ys : List PV} (h : W.F a = some (.lst vs)) (r : RepAll K C W.F W.θ vs xs) (h' : SqT K W.F b us) (r' : RepAll K C W.F W.θ us ys) : ItOk K C W (ItzLT K a b) (zipP xs ys) := by
  have h1 : ∀ W1 S, GroF W W1 → Inv1 K C W1 S → SqL K W1.H a vs ∧ SqT K W1.H b us := fun W1 S g i => ⟨i.s.seq (SqL.of (g.f _ _ h)), i.s.seT (g.f.seT h')⟩
  refine ⟨fun i W1 S g i1 hi => ?_, fun W1 S g i1 => ⟨vs, us, (h1 W1 S g i1).1, (h1 W1 S g i1).2, by rw [r.len, r'.len, zipP_len]; omega⟩, fun i W1 S v H' x g i1 hx y => ?_⟩
  · rw [zipP_len] at hi
    obtain ⟨v, ev, _⟩ := r.at (i := i) (List.getElem?_eq_getElem (by omega))
    obtain ⟨u, eu, _⟩ := r'.at (i := i) (List.getElem?_eq_getElem (by omega))
    exact ⟨vs, us, v, u, (h1 W1 S g i1).1, (h1 W1 S g i1).2, ev, eu⟩
  · obtain ⟨T, u, w, rfl, nT, rfl, hv, hw⟩ := y
    obtain ⟨p, q, hp, hq, rfl⟩ := zipP_at hx
    obtain ⟨u', eu, ru⟩ := (grow_all r g).at hp
    obtain ⟨w', ew, rw'⟩ := (grow_all r' g).at hq
    have e1 := hv vs (h1 W1 S g i1).1
    have e2 := hw us (h1 W1 S g i1).2
    rw [eu] at e1
    rw [ew] at e2
    cases Option.some.inj e1
    cases Option.some.inj e2
    obtain ⟨g2, i2⟩ := laid (.tup [u, w]) i1 nT
    exact ⟨_, rfl, g2, i2, .tup (SqT.of upd_same) (.cons (ru.ext g2) (.cons (rw'.ext g2) .nil))⟩
/-- zip of a tuple and a list, or of a list and a tuple -/
def mZipM (ma mb : ME) : MI := fun ρ S => match ma ρ S with
  | some (.tup xs, S1) => match mb ρ S1 with
    | some (.lst ys, S2) => some (zipP xs ys, S2)
    | _ => none
  | some (.lst xs, S1) => match mb ρ S1 with
    | some (.tup ys, S2) => some (zipP xs ys, S2)
    | _ => none
  | _ => none
theorem izipM {p tpos : Pos} {elts : List Expr} {kk : Nat} (hg : Gl X "zip") (hm : X.mg "zip" = none) (ha : PE X a (tM X.K C ma)) (hb : PE X b (tM X.K C mb)) (hst2 : starEach (b :: []) X.env = (false, eval b X.env) :: starEach [] X.env := by rfl)
    (hs : starEach [a, b] X.env = (false, eval a X.env) :: starEach [b] X.env := by rfl) (hpl : (backTo pos (starEach [b] X.env)).any (·.1) = false := by rfl) :
    PI X (.Tuple elts kk tpos) (.Call (.Name "zip" p) [a, b] [] pos) (tMI X.K C (mZipM ma mb)) := PI.weak (pi_zipM hg hm (pa_cons ha (pa_cons hb pa_nil hst2) hs) hs hpl) fun σ H R0 ⟨W0, W, ρ, S, xs, S', eH, R, em, q⟩ => by
  subst eH
  unfold mZipM at em
  split at em
  · rename_i ys S1 e1
    split at em
    · rename_i zs S2 e2
      cases em
      refine ⟨W0, W, ρ, S, _, S1, rfl, R, e1, fun v W1 R1 g1 r1 => ⟨W0, W1, ρ, S1, _, S', rfl, R1, e2, fun u W2 R2 g2 r2 => ?_⟩⟩
      have r1' := r1.ext g2
      cases r1' with
      | tup h a1 =>
        cases r2 with
        | lst h' a2 => exact ⟨_, _, _, _, rfl, .inl ⟨R2.i.s.seT h, R2.i.s.seq (SqL.of h'), q _ W2 R2 (g1.trans g2) (it_zipTL h a1 h' a2)⟩⟩
    · cases em
  · rename_i ys S1 e1
    split at em
    · rename_i zs S2 e2
      cases em
      refine ⟨W0, W, ρ, S, _, S1, rfl, R, e1, fun v W1 R1 g1 r1 => ⟨W0, W1, ρ, S1, _, S', rfl, R1, e2, fun u W2 R2 g2 r2 => ?_⟩⟩
      have r1' := r1.ext g2
      cases r1' with
      | lst h a1 =>
        cases r2 with
        | tup h' a2 => exact ⟨_, _, _, _, rfl, .inr ⟨R2.i.s.seq (SqL.of h), R2.i.s.seT h', q _ W2 R2 (g1.trans g2) (it_zipLT h a1 h' a2)⟩⟩
    · cases em
  · cases em
/-- zip of two things of any kind -/
def mZipX (ma mb : ME) : MI := fun ρ S => match ma ρ S with
  | some (x, S1) => match mb ρ S1 with
    | some (y, S2) => match items x, items y with
      | some xs, some ys => some (zipP xs ys, S2)
      | _, _ => none
    | none => none
  | none => none
theorem izipX {p tpos : Pos} {elts : List Expr} {kk : Nat} (hg : Gl X "zip") (hm : X.mg "zip" = none) (ha : PE X a (tM X.K C ma)) (hb : PE X b (tM X.K C mb)) (hst2 : starEach (b :: []) X.env = (false, eval b X.env) :: starEach [] X.env := by rfl)
    (hs : starEach [a, b] X.env = (false, eval a X.env) :: starEach [b] X.env := by rfl) (hpl : (backTo pos (starEach [b] X.env)).any (·.1) = false := by rfl) :
    PI X (.Tuple elts kk tpos) (.Call (.Name "zip" p) [a, b] [] pos) (tMI X.K C (mZipX ma mb)) := PI.weak (PI.or (izip hg hm ha hb hst2 hs hpl) (izipM hg hm ha hb hst2 hs hpl)) fun σ H R0 ⟨W0, W, ρ, S, xs, S', eH, R, em, q⟩ => by
  subst eH
  unfold mZipX at em
  split at em
  · rename_i x S1 e1
    split at em
    · rename_i y S2 e2
      cases x with
      | tup us =>
        cases y with
        | tup ws => exact .inl ⟨W0, W, ρ, S, xs, S', rfl, R, by unfold mZip; rw [e1]; simp only [e2]; exact em, q⟩
        | lst ws => exact .inr ⟨W0, W, ρ, S, xs, S', rfl, R, by unfold mZipM; rw [e1]; simp only [e2]; exact em, q⟩
        | _ => cases em
      | lst us =>
        cases y with
        | lst ws => exact .inl ⟨W0, W, ρ, S, xs, S', rfl, R, by unfold mZip; rw [e1]; simp only [e2]; exact em, q⟩
        | tup ws => exact .inr ⟨W0, W, ρ, S, xs, S', rfl, R, by unfold mZipM; rw [e1]; simp only [e2]; exact em, q⟩
        | _ => cases em
      | _ => cases em
    · cases em
  · cases em
end
end BL
namespace BL
open PySem PySem.Spec PyProof.Rows L2
/-- tuple() of a list that others may change -/
def fTupM (S : List PV) : List PV → Option PV
  | [.mref n] => match S[n]? with
    | some (.lst xs) => some (.tup xs)
    | _ => none
  | _ => none
section
variable {K : PySem.W.Frag} {C : Addr}
theorem l_tupM : LRn K C (fun xs H Q => ∃ p ys, xs = [.ref p] ∧ ((SqL K H p ys ∧ ∀ l, H l = none → Q (.ref l) (upd H l (.tup ys))) ∨ (SqT K H p ys ∧ Q (.ref p) H))) fTupM := fun W S vs xs z Q i r e q => by
  unfold fTupM at e
  split at e
  · split at e
    · rename_i n xs hs
      cases e
      cases r with
      | cons r rr =>
        cases rr
        cases r with
        | mref hn =>
          obtain ⟨_, vs, eh, a⟩ := i.m _ _ _ hn hs
          refine ⟨_, _, rfl, .inl ⟨SqL.of eh, fun p np => ?_⟩⟩
          obtain ⟨g, i2⟩ := laid (.tup _) i np
          exact q _ _ g i2 (.tup (SqT.of upd_same) (a.ext g))
    · cases e
  · cases e
end
end BL

/-! the sum of a tuple of whole numbers -/
namespace BL
open PySem PySem.Spec PyProof.Rows L2
def rSumT (K : PySem.W.Frag) : List V → Hp → VK → Prop := fun vs H Q => ∃ (a : Addr) (ns : List Int), vs = [V.ref a] ∧ SqT K H a (ns.map V.int) ∧ Q (.int ns.sum) H
theorem cr_sumT {X : Cx} (hc : X.calm = true) : CallR X (.builtin "sum") (rSumT X.K) := by
  intro pins s σ H vs us Q I r h
  obtain ⟨a, ns, rfl, hs, q⟩ := h
  obtain ⟨its, rv, hl, _⟩ := I.tuple hs
  rw [Vals.ref1 r]
  obtain ⟨xs, e⟩ := rv.ints.allInts.items
  have hn : numsOf (intItems xs).toList = ns := by rw [← e]; exact rv.ints.numsOf
  rw [nums_intItems] at hn
  rw [e] at hl
  refine PySem.W.ktm_sumG (I.ok.hd hc) hl fun h' tk t' hk => ?_
  rw [preSum_eq, List.take_of_length_le (by simp), hn]
  exact ⟨.int _, H, I.kept hk, ⟨_, rfl⟩, q⟩
def fSumT (_ : List PV) : List PV → Option PV
  | [.tup xs] => match intsP xs with
    | some bs => some (.int bs.sum)
    | none => none
  | _ => none
section
variable {K : PySem.W.Frag} {C : Addr}
theorem l_sumT : LRn K C (rSumT K) fSumT := fun W S vs xs z Q i r e q => by
  unfold fSumT at e
  split at e
  · split at e
    · rename_i bs hb
      cases e
      cases r with
      | cons r rr =>
        cases rr
        cases r with
        | tup h a => exact ⟨_, bs, rfl, by rw [← intsP_ok a hb]; exact i.s.seT h, q _ W (Gro.refl _) i (.int _)⟩
    · cases e
  · cases e
end
end BL

namespace L2
open PySem PySem.Spec PyProof.Rows
def Itz3T (K : PySem.W.Frag) (a b c : Addr) : It :=
  ⟨fun i H => ∃ (xs ys zs : List V) (x y u : V), SqT K H a xs ∧ SqL K H b ys ∧ SqL K H c zs ∧ xs[i]? = some x ∧ ys[i]? = some y ∧ zs[i]? = some u,
    fun i H v H' => ∃ T x y u, v = .ref T ∧ H T = none ∧ H' = upd H T (.tup [x, y, u]) ∧ (∀ xs, SqT K H a xs → xs[i]? = some x) ∧ (∀ ys, SqL K H b ys → ys[i]? = some y) ∧ ∀ zs, SqL K H c zs → zs[i]? = some u,
    fun i H => ∃ xs ys zs : List V, SqT K H a xs ∧ SqL K H b ys ∧ SqL K H c zs ∧ i ≤ xs.length ∧ i ≤ ys.length ∧ i ≤ zs.length ∧ (i = xs.length ∨ i = ys.length ∨ i = zs.length)⟩
theorem turn_zip3T {P : Program} {w : World} {K : PySem.W.Frag} {elts : List Expr} {kk : Nat} {tpos : Pos} {a b c z TI TO i1 i2 i3 : Addr} (D : ZipSep3 z TI TO i1 i2 i3 [i1, a] [i2, b] [i3, c]) (na : a ≠ i1) (nb : b ≠ i2) (nc : c ≠ i3) :
    Turn P w K (.Tuple elts kk tpos) (Itz3T K a b c) [z, TI, TO, i1, i2, i3] z (fun i h => IsZip h z TI TO .none ∧ IsTupOf3 h TI (.ref i1) (.ref i2) (.ref i3) ∧ (∃ x y u, IsTupOf3 h TO x y u) ∧ h.IsTupleIter i1 a i ∧ h.IsListIter i2 b i ∧ h.IsListIter i3 c i) where
  mem := by simp
  obj := fun i h st c' hc => by
    obtain ⟨hz, hTI, ⟨x, y, u, hTO⟩, ⟨o1, e1, _, d1⟩, ⟨o2, e2, _, d2⟩, ⟨o3, e3, _, d3⟩⟩ := st
    have e' : c' = z ∨ c' = TI ∨ c' = TO ∨ c' = i1 ∨ c' = i2 ∨ c' = i3 := by simpa using hc
    rcases e' with q | q | q | q | q | q
    · rw [q]; exact ⟨_, hz, fun v q => nomatch q⟩
    · rw [q]; exact ⟨_, hTI, fun v q => nomatch q⟩
    · rw [q]; exact ⟨_, hTO, fun v q => nomatch q⟩
    · rw [q]; exact ⟨o1, e1, fun v q => by rw [d1] at q; cases q⟩
    · rw [q]; exact ⟨o2, e2, fun v q => by rw [d2] at q; cases q⟩
    · rw [q]; exact ⟨o3, e3, fun v q => by rw [d3] at q; cases q⟩
  keep := fun i h h' st k => by
    obtain ⟨hz, hTI, ⟨x, y, u, hTO⟩, h1, h2, h3⟩ := st
    exact ⟨k z (by simp) _ hz, k TI (by simp) _ hTI, ⟨x, y, u, k TO (by simp) _ hTO⟩, h1.at fun o q => k i1 (by simp) o q, h2.at fun o q => k i2 (by simp) o q, h3.at fun o q => k i3 (by simp) o q⟩
  item := by
    intro X hP hw hK hc i pins s σ H E I hf st hg
    subst hP hw hK
    obtain ⟨hz, hTI, ⟨x0, y0, u0, hTO⟩, h1, h2, h3⟩ := st
    obtain ⟨xs, ys, zs, x, y, u, hqx, hqy, hqz, hx, hy, hu⟩ := hg
    obtain ⟨its, rv, p, _⟩ := I.tuple hqx
    obtain ⟨its2, rv2, p2, _⟩ := I.list hqy
    obtain ⟨its3, rv3, p3, _⟩ := I.list hqz
    obtain ⟨v1, hv1, rv1'⟩ := rv.get hx
    obtain ⟨v2, hv2, rv2'⟩ := rv2.get hy
    obtain ⟨v3, hv3, rv3'⟩ := rv3.get hu
    have hzl : z < s.heap.objs.size := Heap.lt_size hz
    have hh : X.A.handled = none := I.ok.hd hc
    have lt : ∀ {l : List Value} {v : Value}, l[i]? = some v → i < l.toArray.size := fun e => by
      have := (List.getElem?_eq_some_iff.mp e).1
      simpa using this
    refine wpAny_pyNext_zipD3_item D (Draws.tuple (A := X.A.in1) hh i1 a na its.toArray) (Draws.list (A := X.A.in1) hh i2 b nb its2.toArray) (Draws.list (A := X.A.in1) hh i3 c nc its3.toArray) hz hTI hTO ⟨h1, p⟩ ⟨h2, p2.isList⟩ ⟨h3, p3.isList⟩ (lt hv1) (lt hv2) (lt hv3) fun x1 x2 x3 h' tk e1 e2 e3 z' TO' s1 s2 s3 hT hsz hk => ?_
    obtain rfl : x1 = v1 := by
      have q : its[i]? = some x1 := by simpa using e1
      rw [hv1] at q; exact (Option.some.inj q).symm
    obtain rfl : x2 = v2 := by
      have q : its2[i]? = some x2 := by simpa using e2
      rw [hv2] at q; exact (Option.some.inj q).symm
    obtain rfl : x3 = v3 := by
      have q : its3[i]? = some x3 := by simpa using e3
      rw [hv3] at q; exact (Option.some.inj q).symm
    refine ⟨_, rfl, wpAny_letOwnedTupleGo_zip (s := { s with heap := h', toks := tk }) z' fun h'' z'' sb => ?_⟩
    have hT2 : h''.get? s.heap.objs.size = some { cls := .type "tuple", data := .seq #[x1, x2, x3] } := (sb.2 _ (Nat.ne_of_gt hzl)).trans hT
    have new : ObjOk X.prog X.w (upd H s.heap.objs.size (.tup [x, y, u])) h'' s.heap.objs.size (.tup [x, y, u]) :=
      ⟨by show 3 ≤ sizeLine; decide, [x1, x2, x3], .cons rv1' (.cons rv2' (.cons rv3' .nil)), ⟨_, hT2, rfl, _, rfl⟩⟩
    have I1 : Inv X pins σ (upd H s.heap.objs.size (.tup [x, y, u])) { s with heap := h'', toks := tk } :=
      I.turnedNew (t' := tk) (ch := [z, TI, TO, i1, i2, i3]) (fun c' o hb q => (sb.2 c' (fun q' => hb (by simp [q']))).trans (hk c' o (fun q' => hb (by simp [q'])) (fun q' => hb (by simp [q'])) (fun q' => hb (by simp [q'])) (fun q' => hb (by simp [q'])) (fun q' => hb (by simp [q'])) q)) hf (Nat.le_refl _) new
    refine ⟨.ref s.heap.objs.size, _, I1, rfl, ⟨_, x, y, u, rfl, I.hok.fresh (Nat.le_refl _), rfl, fun l hl => by rw [I.tuple_inj hl hqx]; exact hx, fun l hl => by rw [I.list_inj hl hqy]; exact hy, fun l hl => by rw [I.list_inj hl hqz]; exact hu⟩, ⟨z'', ?_, ⟨x1, x2, x3, ?_⟩, ?_, ?_, ?_⟩, fun c' hcm => ?_⟩
    · exact (sb.2 _ D.TIz).trans (hk _ _ D.TIz D.TITO D.TIi1 D.TIi2 D.TIi3 hTI)
    · exact (sb.2 _ D.TOz).trans TO'
    · exact s1.1.at fun o q => (sb.2 _ D.zi1.symm).trans q
    · exact s2.1.at fun o q => (sb.2 _ D.zi2.symm).trans q
    · exact s3.1.at fun o q => (sb.2 _ D.zi3.symm).trans q
    · have hlt : c' < s.heap.objs.size := by
        have e' : c' = z ∨ c' = TI ∨ c' = TO ∨ c' = i1 ∨ c' = i2 ∨ c' = i3 := by simpa using hcm
        rcases e' with q | q | q | q | q | q
        · rw [q]; exact hzl
        · rw [q]; exact Heap.lt_size hTI
        · rw [q]; exact Heap.lt_size hTO
        · rw [q]; obtain ⟨_, e1, _⟩ := h1; exact Heap.lt_size e1
        · rw [q]; obtain ⟨_, e2, _⟩ := h2; exact Heap.lt_size e2
        · rw [q]; obtain ⟨_, e3, _⟩ := h3; exact Heap.lt_size e3
      rw [upd_ne (Nat.ne_of_lt hlt)]
      exact (hf c' hcm).1
  done := by
    intro X hP hw hK hc i pins s σ H E I hf st hg
    subst hP hw hK
    obtain ⟨hz, hTI, ⟨x0, y0, u0, hTO⟩, h1, h2, h3⟩ := st
    obtain ⟨xs, ys, zs, hqx, hqy, hqz, n1, n2, n3, hend⟩ := hg
    obtain ⟨its, rv, p, _⟩ := I.tuple hqx
    obtain ⟨its2, rv2, p2, _⟩ := I.list hqy
    obtain ⟨its3, rv3, p3, _⟩ := I.list hqz
    have l1 : xs.length = its.toArray.size := by rw [rv.length]; simp
    have l2 : ys.length = its2.toArray.size := by rw [rv2.length]; simp
    have l3 : zs.length = its3.toArray.size := by rw [rv3.length]; simp
    have hh : X.A.handled = none := I.ok.hd hc
    exact wpAny_pyNext_zipD3_end D (Draws.tuple (A := X.A.in1) hh i1 a na its.toArray) (Draws.list (A := X.A.in1) hh i2 b nb its2.toArray) (Draws.list (A := X.A.in1) hh i3 c nc its3.toArray) hz hTI hTO ⟨h1, p⟩ ⟨h2, p2.isList⟩ ⟨h3, p3.isList⟩ (by omega) (by omega) (by omega) (by omega) fun h' tk hk => ⟨rfl, I.turnedL (t' := tk) (ch := [z, TI, TO, i1, i2, i3]) (fun c' o hb q =>
      hk c' o (fun q' => hb (by simp [q'])) (fun q' => hb (by simp [q'])) (fun q' => hb (by simp [q'])) (fun q' => hb (by simp [q'])) (fun q' => hb (by simp [q'])) q) hf⟩
  self := fun A i s Q E st h => wpAny_pyIter_zip st.1 h
def iZip3E (K : PySem.W.Frag) (ta : TA) : TI := fun σ H R => ta σ H fun vs H1 => ∃ a b c xs ys zs, vs = [.ref a, .ref b, .ref c] ∧ SqL K H1 b ys ∧ SqL K H1 c zs ∧ ((SqL K H1 a xs ∧ R (Itz3 K a b c) H1) ∨ (SqT K H1 a xs ∧ R (Itz3T K a b c) H1))
theorem pi_zip3E {X : Cx} {e e2 e3 : Expr} {ta : TA} {p pos tpos : Pos} {elts : List Expr} {kk : Nat} (hg : Gl X "zip") (hm : X.mg "zip" = none) (ha : PA X [e, e2, e3] ta)
    (hs : starEach [e, e2, e3] X.env = (false, eval e X.env) :: starEach [e2, e3] X.env := by rfl) (hpl : (backTo pos (starEach [e2, e3] X.env)).any (·.1) = false := by rfl) :
    PI X (.Tuple elts kk tpos) (.Call (.Name "zip" p) [e, e2, e3] [] pos) (iZip3E X.K ta) := by
  refine ⟨fun pins s σ H R I h => ?_⟩
  refine Call_ (ld_blt I hg hm PyProof.Rows.boot_zip (PyProof.Rows.callWith_type1 (thn (ha.run pos pins s σ H _ I h) fun us s1 ⟨vs, H1, I1, r1, q1⟩ => ?_) hs hpl))
  obtain ⟨a, b, c, xs, ys, zs, ex, hqy, hqz, q⟩ := q1
  subst ex
  cases r1 with
  | cons r rr =>
    cases rr with
    | cons r' rr =>
      cases rr with
      | cons r'' rr =>
      cases rr
      cases r
      cases r'
      cases r''
      rcases q with ⟨hqx, q⟩ | ⟨hqx, q⟩
      · skip
        obtain ⟨its, rv, p1, _⟩ := I1.list hqx
        obtain ⟨its2, rv2, p2, _⟩ := I1.list hqy
        obtain ⟨its3, rv3, p3, _⟩ := I1.list hqz
        have la : a < s1.heap.objs.size := p1.lt
        have lb : b < s1.heap.objs.size := p2.lt
        have lc : c < s1.heap.objs.size := p3.lt
        refine zip_begins3 (begins_list a its.toArray) (begins_list b its2.toArray) (begins_list c its3.toArray) p1.isList p2.isList p3.isList fun h' hz hTI hTO g1 g2 g3 hsz hk => wpAny_pyIter_zip hz ?_
        have I2 : Inv X pins σ H1 { s1 with heap := h' } := I1.kept (t' := s1.toks) hk
        have sep := zip_sep3 (N := s1.heap.objs.size) (fp1 := [a]) (fp2 := [b]) (fp3 := [c]) (fun x hx => by rw [List.mem_singleton.mp hx]; exact la) (fun x hx => by rw [List.mem_singleton.mp hx]; exact lb) (fun x hx => by rw [List.mem_singleton.mp hx]; exact lc)
        refine ⟨s1.heap.objs.size + 5, [s1.heap.objs.size + 5, s1.heap.objs.size + 3, s1.heap.objs.size + 4, s1.heap.objs.size, s1.heap.objs.size + 1, s1.heap.objs.size + 2], _, _, H1, rfl, I2, turn_zip3 sep (Nat.ne_of_lt la) (Nat.ne_of_lt (Nat.lt_succ_of_lt lb)) (Nat.ne_of_lt (Nat.lt_succ_of_lt (Nat.lt_succ_of_lt lc))), ⟨hz, hTI, ⟨_, _, _, hTO⟩, ⟨_, g1, rfl, rfl⟩, ⟨_, g2, rfl, rfl⟩, ⟨_, g3, rfl, rfl⟩⟩, fun c' hcm => ?_, q⟩
        have e' : c' = s1.heap.objs.size + 5 ∨ c' = s1.heap.objs.size + 3 ∨ c' = s1.heap.objs.size + 4 ∨ c' = s1.heap.objs.size ∨ c' = s1.heap.objs.size + 1 ∨ c' = s1.heap.objs.size + 2 := by simpa using hcm
        have hle : s1.heap.objs.size ≤ c' := by
          rcases e' with z | z | z | z | z | z
          · rw [z]; exact Nat.le_add_right _ _
          · rw [z]; exact Nat.le_add_right _ _
          · rw [z]; exact Nat.le_add_right _ _
          · rw [z]; exact Nat.le_refl _
          · rw [z]; exact Nat.le_add_right _ _
          · rw [z]; exact Nat.le_add_right _ _
        exact I1.fpOk hle (I1.hok.fresh hle)
      · skip
        obtain ⟨its, rv, p1, _⟩ := I1.tuple hqx
        obtain ⟨its2, rv2, p2, _⟩ := I1.list hqy
        obtain ⟨its3, rv3, p3, _⟩ := I1.list hqz
        have la : a < s1.heap.objs.size := by obtain ⟨_, e, _⟩ := p1; exact Heap.lt_size e
        have lb : b < s1.heap.objs.size := p2.lt
        have lc : c < s1.heap.objs.size := p3.lt
        refine zip_begins3 (begins_tuple a its.toArray) (begins_list b its2.toArray) (begins_list c its3.toArray) p1 p2.isList p3.isList fun h' hz hTI hTO g1 g2 g3 hsz hk => wpAny_pyIter_zip hz ?_
        have I2 : Inv X pins σ H1 { s1 with heap := h' } := I1.kept (t' := s1.toks) hk
        have sep := zip_sep3 (N := s1.heap.objs.size) (fp1 := [a]) (fp2 := [b]) (fp3 := [c]) (fun x hx => by rw [List.mem_singleton.mp hx]; exact la) (fun x hx => by rw [List.mem_singleton.mp hx]; exact lb) (fun x hx => by rw [List.mem_singleton.mp hx]; exact lc)
        refine ⟨s1.heap.objs.size + 5, [s1.heap.objs.size + 5, s1.heap.objs.size + 3, s1.heap.objs.size + 4, s1.heap.objs.size, s1.heap.objs.size + 1, s1.heap.objs.size + 2], _, _, H1, rfl, I2, turn_zip3T sep (Nat.ne_of_lt la) (Nat.ne_of_lt (Nat.lt_succ_of_lt lb)) (Nat.ne_of_lt (Nat.lt_succ_of_lt (Nat.lt_succ_of_lt lc))), ⟨hz, hTI, ⟨_, _, _, hTO⟩, ⟨_, g1, rfl, rfl⟩, ⟨_, g2, rfl, rfl⟩, ⟨_, g3, rfl, rfl⟩⟩, fun c' hcm => ?_, q⟩
        have e' : c' = s1.heap.objs.size + 5 ∨ c' = s1.heap.objs.size + 3 ∨ c' = s1.heap.objs.size + 4 ∨ c' = s1.heap.objs.size ∨ c' = s1.heap.objs.size + 1 ∨ c' = s1.heap.objs.size + 2 := by simpa using hcm
        have hle : s1.heap.objs.size ≤ c' := by
          rcases e' with z | z | z | z | z | z
          · rw [z]; exact Nat.le_add_right _ _
          · rw [z]; exact Nat.le_add_right _ _
          · rw [z]; exact Nat.le_add_right _ _
          · rw [z]; exact Nat.le_refl _
          · rw [z]; exact Nat.le_add_right _ _
          · rw [z]; exact Nat.le_add_right _ _
        exact I1.fpOk hle (I1.hok.fresh hle)
end L2
namespace BL
open PySem PySem.Spec PyProof.Rows L2
section
variable {X : Cx} {C : Addr} {pos : Pos} {e a b c : Expr} {ma mb mc : ME} {mes : MA}
def mZip3E (ma mb mc : ME) : MI := fun ρ S => match ma ρ S with
  | some (x, S1) => match mb ρ S1 with
    | some (.lst ys, S2) => match mc ρ S2 with
      | some (.lst zs, S3) => match x with
        | .lst xs => some (zipP3 xs ys zs, S3)
        | .tup xs => some (zipP3 xs ys zs, S3)
        | _ => none
      | _ => none
    | _ => none
  | none => none
theorem it_zip3T {K : PySem.W.Frag} {W : Wd} {a b c : Addr} {vs us ws : List V} {xs ys zs : List PV} (h : SqT K W.F a vs) (r : RepAll K C W.F W.θ vs xs) (h' : W.F b = some (.lst us)) (r' : RepAll K C W.F W.θ us ys) (h'' : W.F c = some (.lst ws)) (r'' : RepAll K C W.F W.θ ws zs) : ItOk K C W (Itz3T K a b c) (zipP3 xs ys zs) := by
  have h1 : ∀ W1 S, GroF W W1 → Inv1 K C W1 S → SqT K W1.H a vs ∧ SqL K W1.H b us ∧ SqL K W1.H c ws := fun W1 S g i => ⟨i.s.seT (SqT.ext h g.f), i.s.seq (SqL.of (g.f _ _ h')), i.s.seq (SqL.of (g.f _ _ h''))⟩
  refine ⟨fun i W1 S g i1 hi => ?_, fun W1 S g i1 => ⟨vs, us, ws, (h1 W1 S g i1).1, (h1 W1 S g i1).2.1, (h1 W1 S g i1).2.2, by rw [r.len, zipP3_len]; omega, by rw [r'.len, zipP3_len]; omega, by rw [r''.len, zipP3_len]; omega, by rw [r.len, r'.len, r''.len, zipP3_len]; omega⟩, fun i W1 S v H' x g i1 hx y => ?_⟩
  · rw [zipP3_len] at hi
    obtain ⟨v, ev, _⟩ := r.at (i := i) (List.getElem?_eq_getElem (by omega))
    obtain ⟨u, eu, _⟩ := r'.at (i := i) (List.getElem?_eq_getElem (by omega))
    obtain ⟨w, ew, _⟩ := r''.at (i := i) (List.getElem?_eq_getElem (by omega))
    exact ⟨vs, us, ws, v, u, w, (h1 W1 S g i1).1, (h1 W1 S g i1).2.1, (h1 W1 S g i1).2.2, ev, eu, ew⟩
  · obtain ⟨T, u, w, t, rfl, nT, rfl, hv, hw, ht⟩ := y
    obtain ⟨p, q, q2, hp, hq, hq2, rfl⟩ := zipP3_at hx
    obtain ⟨u', eu, ru⟩ := (grow_all r g).at hp
    obtain ⟨w', ew, rw'⟩ := (grow_all r' g).at hq
    obtain ⟨t', et, rt⟩ := (grow_all r'' g).at hq2
    have e1 := hv vs (h1 W1 S g i1).1
    have e2 := hw us (h1 W1 S g i1).2.1
    have e3 := ht ws (h1 W1 S g i1).2.2
    rw [eu] at e1
    rw [ew] at e2
    rw [et] at e3
    cases Option.some.inj e1
    cases Option.some.inj e2
    cases Option.some.inj e3
    obtain ⟨g2, i2⟩ := laid (.tup [u, w, t]) i1 nT
    exact ⟨_, rfl, g2, i2, .tup (SqT.of upd_same) (.cons (ru.ext g2) (.cons (rw'.ext g2) (.cons (rt.ext g2) .nil)))⟩
theorem izip3E {p tpos : Pos} {elts : List Expr} {kk : Nat} (hg : Gl X "zip") (hm : X.mg "zip" = none) (ha : PE X a (tM X.K C ma)) (hb : PE X b (tM X.K C mb)) (hc : PE X c (tM X.K C mc)) (hst3 : starEach (c :: []) X.env = (false, eval c X.env) :: starEach [] X.env := by rfl) (hst2 : starEach (b :: [c]) X.env = (false, eval b X.env) :: starEach [c] X.env := by rfl)
    (hs : starEach [a, b, c] X.env = (false, eval a X.env) :: starEach [b, c] X.env := by rfl) (hpl : (backTo pos (starEach [b, c] X.env)).any (·.1) = false := by rfl) :
    PI X (.Tuple elts kk tpos) (.Call (.Name "zip" p) [a, b, c] [] pos) (tMI X.K C (mZip3E ma mb mc)) := PI.weak (pi_zip3E hg hm (pa_cons ha (pa_cons hb (pa_cons hc pa_nil hst3) hst2) hs) hs hpl) fun σ H R0 ⟨W0, W, ρ, S, xs, S', eH, R, em, q⟩ => by
  subst eH
  unfold mZip3E at em
  split at em
  · rename_i x S1 e1
    split at em
    · rename_i zs S2 e2
      split at em
      · rename_i ws S3 e3
        split at em
        · rename_i xs0
          cases em
          refine ⟨W0, W, ρ, S, _, S1, rfl, R, e1, fun v W1 R1 g1 r1 => ⟨W0, W1, ρ, S1, _, S2, rfl, R1, e2, fun u W2 R2 g2 r2 => ⟨W0, W2, ρ, S2, _, S', rfl, R2, e3, fun t W3 R3 g3 r3 => ?_⟩⟩⟩
          have r1' := (r1.ext g2).ext g3
          have r2' := r2.ext g3
          cases r1' with
          | lst h a1 =>
            cases r2' with
            | lst h' a2 =>
              cases r3 with
              | lst h'' a3 => exact ⟨_, _, _, _, _, _, rfl, R3.i.s.seq (SqL.of h'), R3.i.s.seq (SqL.of h''), .inl ⟨R3.i.s.seq (SqL.of h), q _ W3 R3 ((g1.trans g2).trans g3) (it_zip3 h a1 h' a2 h'' a3)⟩⟩
        · rename_i xs0
          cases em
          refine ⟨W0, W, ρ, S, _, S1, rfl, R, e1, fun v W1 R1 g1 r1 => ⟨W0, W1, ρ, S1, _, S2, rfl, R1, e2, fun u W2 R2 g2 r2 => ⟨W0, W2, ρ, S2, _, S', rfl, R2, e3, fun t W3 R3 g3 r3 => ?_⟩⟩⟩
          have r1' := (r1.ext g2).ext g3
          have r2' := r2.ext g3
          cases r1' with
          | tup h a1 =>
            cases r2' with
            | lst h' a2 =>
              cases r3 with
              | lst h'' a3 => exact ⟨_, _, _, _, _, _, rfl, R3.i.s.seq (SqL.of h'), R3.i.s.seq (SqL.of h''), .inr ⟨R3.i.s.seT h, q _ W3 R3 ((g1.trans g2).trans g3) (it_zip3T h a1 h' a2 h'' a3)⟩⟩
        · cases em
      · cases em
    · cases em
  · cases em
end
section
variable {ρ : List SlV} {S : List PV} {ma mb mc : ME}
@[simp] theorem e_zip3E : mZip3E ma mb mc ρ S = match ma ρ S with
  | some (x, S1) => (match mb ρ S1 with
    | some (.lst ys, S2) => (match mc ρ S2 with
      | some (.lst zs, S3) => (match x with
        | .lst xs => some (zipP3 xs ys zs, S3)
        | .tup xs => some (zipP3 xs ys zs, S3)
        | _ => none)
      | _ => none)
    | _ => none)
  | none => none := rfl
end
end BL

namespace BL
open PySem PySem.Spec PyProof.Rows L2
section
variable {X : Cx} {C : Addr} {st : Stmt} {ma : ME}
/-- x += e, whole numbers -/
def mAug (i : Nat) (ma : ME) : MS := fun ρ S => match ρ[i]? with
  | some (.val (.int x)) => match ma ρ S with
    | some (.int y, S1) => if i < ρ.length then some (.nx (ρ.set i (.val (.int (x + y)))) S1) else none
    | _ => none
  | _ => none
theorem xaug {i : Nat} (h : PS X st (tAug i (tM X.K C ma) (ipI fun i j => i + j))) : PS X st (tMS X.K C (mAug i ma)) := PS.weak h fun D σ H ⟨W0, W, ρ, S, out, eH, R, em, p⟩ => by
  subst eH
  unfold mAug at em
  split at em
  · rename_i x hx
    split at em
    · rename_i y S1 e1
      split at em
      · rename_i hl
        cases em
        obtain ⟨u, eu, ru⟩ := R.s i _ hx
        cases ru
        exact ⟨_, eu, W0, W, ρ, S, .int y, S1, rfl, R, e1, fun v W1 R1 g1 r1 => by
          cases r1
          exact ⟨x, y, rfl, rfl, p _ W1 g1.groF (R1.setv i (.int _) hl)⟩⟩
      · cases em
    · cases em
  · cases em
end
section
variable {ρ : List SlV} {S : List PV} {ma : ME}
@[simp] theorem e_aug (i : Nat) : mAug i ma ρ S = match ρ[i]? with
  | some (.val (.int x)) => (match ma ρ S with
    | some (.int y, S1) => if i < ρ.length then some (.nx (ρ.set i (.val (.int (x + y)))) S1) else none
    | _ => none)
  | _ => none := rfl
end
end BL

namespace BL
open PySem PySem.Spec PyProof.Rows L2
section
variable {X : Cx} {C : Addr} {st : Stmt} {mt : MT} {ma mb : ME} {mes : MA}
/-- x = a + b if t else [..], x an own list -/
theorem xnewAI {i : Nat} (h : PS X st (tAsg (tIf (tMT X.K C mt) (tOp rCat (tM X.K C ma) (tM X.K C mb)) (tLst (tMA X.K C mes))) (gName i))) : PS X st (tMS X.K C (mIf mt (mNewA i ma mb) (mNewO i mes))) := PS.weak h fun D σ H ⟨W0, W, ρ, S, out, eH, R, em, p⟩ => by
  subst eH
  unfold mIf at em
  split at em
  · rename_i S0 e0
    refine ⟨W0, W, ρ, S, true, S0, rfl, R, e0, fun W0' R0 g0 => ?_⟩
    refine iteT ?_
    unfold mNewA at em
    split at em
    · rename_i xs S1 e1
      split at em
      · rename_i ys S2 e2
        split at em
        · rename_i hl
          cases em
          refine ⟨W0, W0', ρ, S0, _, S1, rfl, R0, e1, fun v W1 R1 g1 r1 => ⟨W0, W1, ρ, S1, _, S2, rfl, R1, e2, fun u W2 R2 g2 r2 => ?_⟩⟩
          cases r1 with
          | lst h1 a1 =>
            cases r2 with
            | lst h2 a2 =>
              refine ⟨_, _, _, _, rfl, rfl, R2.i.s _ _ (g2.f _ _ h1), R2.i.s _ _ h2, by rw [a1.len, a2.len]; exact Nat.le_trans hl.1 lim, fun q nq => ?_⟩
              obtain ⟨g3, R3, o3, d3⟩ := laidO R2 ((a1.ext g2).app a2) nq
              exact p _ _ (((g0.trans g1).trans g2).trans g3).groF (R3.seto i o3 hl.2 d3)
        · cases em
      · cases em
    · cases em
  · rename_i S0 e0
    refine ⟨W0, W, ρ, S, false, S0, rfl, R, e0, fun W0' R0 g0 => ?_⟩
    refine iteF ?_
    unfold mNewO at em
    split at em
    · rename_i xs S1 e1
      split at em
      · rename_i hl
        cases em
        refine ⟨W0, W0', ρ, S0, xs, S1, rfl, R0, e1, fun vs W1 R1 g1 r1 => ⟨by rw [r1.len]; exact Nat.le_trans hl.1 lim, fun q nq => ?_⟩⟩
        obtain ⟨g2, R2, o2, d2⟩ := laidO R1 r1 nq
        exact p _ _ ((g0.trans g1).trans g2).groF (R2.seto i o2 hl.2 d2)
      · cases em
    · cases em
  · cases em
end
end BL

namespace BL
open PySem PySem.Spec PyProof.Rows L2
/-! errors of the program's own classes, by trees: a block that raises, a def that raises, a try that keeps what it caught -/
theorem laidH {K : PySem.W.Frag} {C : Addr} {W : Wd} {S : List PV} {p : Addr} (o : HO) (i : Inv1 K C W S) (n : W.H p = none) : Gro W ⟨W.F, upd W.H p o, W.θ⟩ ∧ Inv1 K C ⟨W.F, upd W.H p o, W.θ⟩ S := by
  have g : Gro W ⟨W.F, upd W.H p o, W.θ⟩ := by
    refine ⟨Same.refl _, ⟨[], (List.append_nil _).symm, fun _ h => by cases h⟩, fun q o' e _ => ?_, fun q o' e => ?_, fun q o' e z => z⟩
    · show upd W.H p o q = _
      rw [upd_ne (ne_of_none e n)]
      exact e
    · exact ⟨o', by show upd W.H p o q = _; rw [upd_ne (ne_of_none e n)]; exact e⟩
  refine ⟨g, ⟨fun q o' e => ?_, i.len, i.nd, fun k a x h1 h2 => ?_⟩⟩
  · show upd W.H p o q = _
    have := i.s q o' e
    rw [upd_ne (ne_of_none this n)]
    exact this
  · obtain ⟨z, m⟩ := i.m k a x h1 h2
    refine ⟨z, ?_⟩
    refine m.to (fun o e => ?_) (fun r => r)
    show upd W.H p _ a = _
    rw [upd_ne (ne_of_none e n)]
    exact e
theorem older {W W1 : Wd} {d : Addr} (g : Gro W W1) (h : W1.H d = none) : W.H d = none := by
  cases c : W.H d with
  | none => rfl
  | some o =>
    obtain ⟨o', e'⟩ := g.k d o c
    rw [h] at e'
    cases e'
abbrev MR := List SlV → List PV → Option (List PV × List PV)
/-- what is told of the class of an error: its fields fs, in the order in which __init__ takes and stores them -/
structure ErrC (K : PySem.W.Frag) (mg : Str → Option Value) (x : Str) (Ce fI : Addr) (fs : List Str) : Prop where
  oex : OexC K Ce
  gC : mg x = some (.ref Ce)
  iC : PySem.W.findIn K (.ref Ce) "__init__" = some (some (.ref fI))
  tI : PySem.W.typeIn K (.ref fI) = some (.type "function")
  no : ∀ f ∈ fs, PySem.W.findIn K (.ref Ce) f = some none
  te : PySem.W.exmOne K (.ref Ce) (.ref Ce) = some true
  xf : XfC K Ce
  xi : XiC K Ce
/-- __init__ of an error: the fields are stored -/
def spEI (K : PySem.W.Frag) (Ce : Addr) (fs : List Str) : Sp := fun vs H Q _ => ∃ (a : Addr) (ys : List V), vs = .ref a :: ys ∧ ys.length = fs.length ∧ OexC K Ce ∧ (∀ f ∈ fs, PySem.W.findIn K (.ref Ce) f = some none) ∧ H a = some (exo a Ce none) ∧
  ∀ (d : Addr) (H' : Hp), H d = none → H' a = some (exo a Ce (some d)) → H' d = some (exd d (fs.zip ys).reverse) → (∀ b, b ≠ a → b ≠ d → H' b = H b) → Q .non H'
section
variable (K : PySem.W.Frag) (C Ce : Addr) (fs : List Str)
/-- a def that raises: its mirror tells the fields -/
def spR (r : List PV → List PV → Option (List PV × List PV)) : Sp := fun vs H _ E => ∃ W S xs ys S', H = W.H ∧ Inv1 K C W S ∧ RepAll K C W.F W.θ vs xs ∧ r xs S = some (ys, S') ∧
  ∀ us d W', Gro W W' → Inv1 K C W' S' → RepAll K C W'.F W'.θ us ys → us.length = fs.length → W.H d = none → W'.H d = some (.xd (fs.zip us).reverse) → E (.ref Ce) (some d) W'.H
/-- a block that raises -/
def tMR (m : MR) (Wi : WX) : TS := fun _ σ H => ∃ W0 W ρ S ys S', H = W.H ∧ Rel K C W0 W σ ρ S ∧ m ρ S = some (ys, S') ∧
  ∀ us d W', Gro W W' → Rel K C W0 W' σ ρ S' → RepAll K C W'.F W'.θ us ys → us.length = fs.length → W.H d = none → W'.H d = some (.xd (fs.zip us).reverse) → Wi (.ref Ce) (some d) σ W'.H
/-- an expression that raises -/
def tER (m : MR) (Wi : WX) : TE := fun σ H _ => tMR K C Ce fs m Wi { nx := fun _ _ => True, rt := fun _ _ => True } σ H
end
section
variable {X : Cx} {C Ce : Addr} {fs : List Str} {m : MR} {Wi : WX}
/-- the block that is never run -/
theorem pss_dead {X : Cx} {st : List Stmt} : PSs X st (fun _ _ _ => False) := ⟨fun _ _ _ _ _ _ h => h.elim⟩
theorem rhead {st : Stmt} {rest : List Stmt} (h : PS X st (tMR X.K C Ce fs m Wi)) : PSs X (st :: rest) (tMR X.K C Ce fs m Wi) := PSs.weak (pss_cons h pss_dead) fun D σ H q => q
theorem rnone : PSs X [] (tMR X.K C Ce fs (fun _ _ => none) Wi) := PSs.weak pss_dead fun D σ H ⟨_, _, _, _, _, _, _, _, e, _⟩ => by cases e
def mRIf (mt : MT) (a b : MR) : MR := fun ρ S => match mt ρ S with
  | some (true, S1) => a ρ S1
  | some (false, S1) => b ρ S1
  | none => none
theorem rif {c : Expr} {a b : List Stmt} {pos : Pos} {mt : MT} {ma mb : MR} (hc : PT X c (tMT X.K C mt)) (ha : PSs X a (tMR X.K C Ce fs ma Wi)) (hb : PSs X b (tMR X.K C Ce fs mb Wi)) : PS X (.If c a b pos) (tMR X.K C Ce fs (mRIf mt ma mb) Wi) :=
  PS.weak (ps_if hc ha hb) fun D σ H ⟨W0, W, ρ, S, ys, S', eH, R, em, q⟩ => by
  subst eH
  unfold mRIf at em
  split at em
  · rename_i S1 e1
    exact ⟨W0, W, ρ, S, true, S1, rfl, R, e1, fun W1 R1 g1 => by refine iteT ?_; exact ⟨W0, W1, ρ, S1, ys, S', rfl, R1, em, fun us d W2 g2 r2 a2 l2 n2 => q us d W2 (g1.trans g2) r2 a2 l2 (older g1 n2)⟩⟩
  · rename_i S1 e1
    exact ⟨W0, W, ρ, S, false, S1, rfl, R, e1, fun W1 R1 g1 => by refine iteF ?_; exact ⟨W0, W1, ρ, S1, ys, S', rfl, R1, em, fun us d W2 g2 r2 a2 l2 n2 => q us d W2 (g1.trans g2) r2 a2 l2 (older g1 n2)⟩⟩
  · cases em
def mRCall (r : List PV → List PV → Option (List PV × List PV)) (ma : MA) : MR := fun ρ S => match ma ρ S with
  | some (xs, S1) => r xs S1
  | none => none
theorem rcall {r : List PV → List PV → Option (List PV × List PV)} {e : Expr} {mes : MA} (h : PE X e (tCallS (spR X.K C Ce fs r) (WE Wi) (tMA X.K C mes))) : PE X e (tER X.K C Ce fs (mRCall r mes) Wi) :=
  PE.weak h fun σ H Q ⟨W0, W, ρ, S, ys, S', eH, R, em, q⟩ => by
  subst eH
  unfold mRCall at em
  split at em
  · rename_i xs S1 e1
    exact ⟨W0, W, ρ, S, xs, S1, rfl, R, e1, fun vs W1 R1 g1 r1 => ⟨W1, S1, xs, ys, S', rfl, R1.i, r1, em, fun us d W2 g2 i2 r2 l n2 e => q us d W2 (g1.trans g2) (R1.ext g2 i2) r2 l (older g1 n2) e⟩⟩
  · cases em
theorem rif_e {c a b : Expr} {pos : Pos} {mt : MT} {ma mb : MR} (hc : PT X c (tMT X.K C mt)) (ha : PE X a (tER X.K C Ce fs ma Wi)) (hb : PE X b (tER X.K C Ce fs mb Wi)) : PE X (.IfExp c a b pos) (tER X.K C Ce fs (mRIf mt ma mb) Wi) :=
  PE.weak (pe_ifExp hc ha hb) fun σ H Q ⟨W0, W, ρ, S, ys, S', eH, R, em, q⟩ => by
  subst eH
  unfold mRIf at em
  split at em
  · rename_i S1 e1
    exact ⟨W0, W, ρ, S, true, S1, rfl, R, e1, fun W1 R1 g1 => by refine iteT ?_; exact ⟨W0, W1, ρ, S1, ys, S', rfl, R1, em, fun us d W2 g2 r2 a2 l2 n2 => q us d W2 (g1.trans g2) r2 a2 l2 (older g1 n2)⟩⟩
  · rename_i S1 e1
    exact ⟨W0, W, ρ, S, false, S1, rfl, R, e1, fun W1 R1 g1 => by refine iteF ?_; exact ⟨W0, W1, ρ, S1, ys, S', rfl, R1, em, fun us d W2 g2 r2 a2 l2 n2 => q us d W2 (g1.trans g2) r2 a2 l2 (older g1 n2)⟩⟩
  · cases em
theorem rexpr {e : Expr} {pos : Pos} (h : PE X e (tER X.K C Ce fs m Wi)) (hs : swapsWith e none pos.line X.env = pure false := by rfl) : PS X (.Expr e pos) (tMR X.K C Ce fs m Wi) := PS.weak (ps_expr h hs) fun D σ H q => q
theorem rret {e : Expr} {pos : Pos} (h : PE X e (tER X.K C Ce fs m Wi)) : PS X (.Return (some e) pos) (tMR X.K C Ce fs m Wi) := PS.weak (ps_ret h) fun D σ H q => q
/-- raise x(e, ..) -/
def mRz (n : Nat) (ma : MA) : MR := fun ρ S => match ma ρ S with
  | some (ys, S1) => if ys.length = n then some (ys, S1) else none
  | none => none
theorem rraise {x : Str} {fI : Addr} {fd : FuncData} {ps : List Str} {k : Nat} {es : List Expr} {e : Expr} {mes : MA} {p pos pos2 : Pos} (T : ErrC X.K X.mg x Ce fI fs) (F1 : FnOk X.prog X.w X.K X.mg X.base CX0 k fI fd ps (spEI X.K Ce fs)) (hr : Room (k + 1) X.A) (hb : Binds X.K fd ps [])
    (hc : X.calm = true) (tk : Takes X Wi) (ha : PA X (e :: es) (tMA X.K C mes)) (hg : Gl X x) (hn : fs.length ≤ 1000 := by decide) (hdb : (x == ("__debug__" : Str)) = false := by decide) (he : starEach (e :: es) X.env = (false, eval e X.env) :: starEach es X.env := by rfl) (hpl : (backTo pos (starEach es X.env)).any (·.1) = false := by rfl) :
    PS X (.Raise (some (.Call (.Name x p) (e :: es) [] pos)) none pos2) (tMR X.K C Ce fs (mRz fs.length mes) Wi) :=
  PS.weak (ps_raise hc tk (pmk_oex T.oex T.iC T.tI F1 hr hb .nil pass0 hg T.gC ha hdb he hpl)) fun D σ H ⟨W0, W, ρ, S, ys, S', eH, R, em, q⟩ => by
  subst eH
  unfold mRz at em
  split at em
  · rename_i zs S1 e1
    split at em
    · rename_i hl
      cases em
      refine ⟨W0, W, ρ, S, ys, S', rfl, R, e1, fun vs W1 R1 g1 r1 => ?_⟩
      have lv : vs.length = fs.length := by rw [r1.len, hl]
      refine ⟨?_, fun a na => ⟨a, vs, by rw [List.append_nil], lv, T.oex, T.no, upd_same, fun d H' hd h1 h2 h3 => ?_⟩⟩
      · rw [lv]
        exact hn
      · have nd : d ≠ a := fun z => by
          rw [z, upd_same] at hd
          cases hd
        rw [upd_ne nd] at hd
        refine ⟨rfl, d, _, h1, h2, hd, ?_⟩
        have eq : upd (L2.del H' a) d (.xd (fs.zip vs).reverse) = upd W1.H d (.xd (fs.zip vs).reverse) := by
          funext b
          by_cases c1 : b = d
          · rw [c1, upd_same, upd_same]
          · rw [upd_ne c1, upd_ne c1]
            by_cases c2 : b = a
            · rw [c2, L2.del_same, na]
            · rw [L2.del_ne c2, h3 b c2 c1, upd_ne c2]
        rw [eq]
        obtain ⟨g2, i2⟩ := laidH (.xd (fs.zip vs).reverse) R1.i hd
        exact q vs d _ (g1.trans g2) (R1.ext g2 i2) (r1.ext g2) lv (older g1 hd) upd_same
    · cases em
  · cases em

/-- what a raising expression is part of: what is reckoned first raises -/
theorem rcmp {a b : Expr} {op : CmpOp} {pos : Pos} {r : R2} {tb : TE} (h : PE X (.Compare a [op] [b] pos) (tOp r (tER X.K C Ce fs m Wi) tb)) : PE X (.Compare a [op] [b] pos) (tER X.K C Ce fs m Wi) := PE.weak h fun σ H Q q => q
/-- as the one argument of a built-in -/
theorem rarg {e : Expr} {r : List V → Hp → VK → Prop} (h : PE X e (tCB r (tCons (tER X.K C Ce fs m Wi) tNil))) : PE X e (tER X.K C Ce fs m Wi) := PE.weak h fun σ H Q q => q
end
def mDefR (np nN : Nat) (m : MR) : List PV → List PV → Option (List PV × List PV) := fun xs S => if xs.length = np then m (xs.map .val ++ List.replicate (nN - np) .un) S else none
theorem rel_start {K : PySem.W.Frag} {C : Addr} {W : Wd} {S xs : List PV} {vs : List V} {N ps : List Str} (i : Inv1 K C W S) (r : RepAll K C W.F W.θ vs xs) (hl : xs.length = ps.length) : Rel K C W W (L2.start N vs) (xs.map .val ++ List.replicate (N.length - ps.length) .un) S := by
  have R : ∀ j sl, (xs.map SlV.val ++ List.replicate (N.length - ps.length) SlV.un)[j]? = some sl → (∃ x, sl = .val x ∧ j < xs.length ∧ xs[j]? = some x) ∨ sl = .un := fun j sl hj => by
    by_cases c : j < xs.length
    · rw [List.getElem?_append_left (by rw [List.length_map]; exact c), List.getElem?_map, List.getElem?_eq_getElem c] at hj
      cases hj
      exact .inl ⟨_, rfl, c, List.getElem?_eq_getElem c⟩
    · rw [List.getElem?_append_right (by rw [List.length_map]; omega), List.getElem?_replicate] at hj
      split at hj
      · cases hj
        exact .inr rfl
      · cases hj
  refine ⟨Gro.refl _, i, ?_, fun j sl hj => ?_, fun j k y z a h1 _ _ _ => ?_⟩
  · unfold L2.start
    rw [List.length_append, List.length_append, List.length_map, List.length_map, List.length_replicate, List.length_replicate, r.len, hl]
  · rcases R j sl hj with ⟨x, rfl, c, ex⟩ | rfl
    · obtain ⟨v, ev, rv⟩ := r.at ex
      refine ⟨v, ?_, rv⟩
      unfold L2.start
      rw [List.getElem?_append_left (by rw [List.length_map, r.len]; exact c), List.getElem?_map, ev]
      rfl
    · trivial
  · rcases R j _ h1 with ⟨x, e, _⟩ | e <;> cases e
theorem okR {P : Program} {w : World} {K : PySem.W.Frag} {mg : Str → Option Value} {base : Heap} {C Ce : Addr} {fs : List Str} {x qual : Str} {st : Stmt} {f : Addr} {fd : FuncData} {N ps : List Str} {k : Nat} {m : MR} (F : Fun K x qual st f fd) (Sc : FnScope N ps (defScope st))
    (hb : ∀ (cdv : Value) (A : Around) (outer : List Env) (s : Shared) (H : Hp) (E : XK), Room k (A.deeper (envOfC qual (defScope st) s.heap.objs.size f cdv)) → PSs (cxOf (L2.CX P w) P w K mg base N qual (defScope st) f cdv A outer s H E) (defBody st) (tMR K C Ce fs m (fun cls d _ H => E cls d H))) :
    FnOk P w K mg base (L2.CX P w) (k + 1) f fd ps (spR K C Ce fs (mDefR ps.length N.length m)) := by
  refine F.okX Sc (fun vs H Q E h => ?_) (fun cdv A outer s H vs Q E hr h => ?_)
  · obtain ⟨W, S, xs, ys, S', eH, i, r, em, q⟩ := h
    unfold mDefR at em
    split at em
    · rename_i hl
      rw [r.len, hl]
    · cases em
  · refine ⟨_, hb cdv A outer s H E hr, ?_⟩
    obtain ⟨W, S, xs, ys, S', eH, i, r, em, q⟩ := h
    subst eH
    unfold mDefR at em
    split at em
    · rename_i hl
      exact ⟨W, W, _, S, ys, S', rfl, rel_start i r hl, em, fun us d W' g R' ru l n e => q us d W' R'.e R'.i ru l n e⟩
    · cases em
end BL

namespace BL
open PySem PySem.Spec PyProof.Rows L2
/-- a def by its name, that raises -/
structure CalR (P : Program) (w : World) (K : PySem.W.Frag) (mg : Str → Option Value) (base : Heap) (k : Nat) (x : Str) (sp : Sp) : Prop where
  ex : ∃ (f : Addr) (fd : FuncData) (ps : List Str), FnOk P w K mg base (L2.CX P w) k f fd ps sp ∧ mg x = some (.ref f) ∧ PySem.W.keepIn K (.ref f) = true ∧ Binds K fd ps []
theorem pe_cR {X : Cx} {k j : Nat} {x : Str} {sp : Sp} {Wi : WX} {e : Expr} {es : List Expr} {t : TA} {p pos : Pos} (c : CalR X.prog X.w X.K X.mg X.base k x sp) (hr : Room j X.A) (hk : k ≤ j) (hg : Gl X x) (tk : Takes X Wi) (ha : PA X (e :: es) t)
    (hdb : (x == ("__debug__" : Str)) = false := by decide) (he : starEach (e :: es) X.env = (false, eval e X.env) :: starEach es X.env := by rfl) (hpl : (backTo pos (starEach es X.env)).any (·.1) = false := by rfl) :
    PE X (.Call (.Name x p) (e :: es) [] pos) (tCallS sp (WE Wi) t) := by
  obtain ⟨f, fd, ps, F, hm, kp, b⟩ := c.ex
  exact pe_callS F (hr.mono hk) hg hm kp b (fun σ => passAt tk σ) ha hdb he hpl
/-- a class of errors, with its __init__ -/
structure MakE (P : Program) (w : World) (K : PySem.W.Frag) (mg : Str → Option Value) (base : Heap) (x : Str) (Ce : Addr) (fs : List Str) : Prop where
  ex : ∃ (fI : Addr) (fd : FuncData) (ps : List Str), ErrC K mg x Ce fI fs ∧ FnOk P w K mg base CX0 1 fI fd ps (spEI K Ce fs) ∧ Binds K fd ps []
theorem xrai {X : Cx} {C Ce : Addr} {fs : List Str} {Wi : WX} {x : Str} {j : Nat} {es : List Expr} {e : Expr} {mes : MA} {p pos pos2 : Pos} (T : MakE X.prog X.w X.K X.mg X.base x Ce fs) (hr : Room j X.A) (hj : 2 ≤ j)
    (hc : X.calm = true) (tk : Takes X Wi) (ha : PA X (e :: es) (tMA X.K C mes)) (hg : Gl X x) (hn : fs.length ≤ 1000 := by decide) (hdb : (x == ("__debug__" : Str)) = false := by decide) (he : starEach (e :: es) X.env = (false, eval e X.env) :: starEach es X.env := by rfl) (hpl : (backTo pos (starEach es X.env)).any (·.1) = false := by rfl) :
    PS X (.Raise (some (.Call (.Name x p) (e :: es) [] pos)) none pos2) (tMR X.K C Ce fs (mRz fs.length mes) Wi) := by
  obtain ⟨fI, fd, ps, T, F, b⟩ := T.ex
  exact rraise T F (hr.mono hj) b hc tk ha hg hn hdb he hpl
theorem pure_ei1 {K : PySem.W.Frag} {Ce : Addr} {f : Str} {D : Ends} {N : List Str} {vs : List V} {H : Hp} {Q : VK} {E : XK} (h : spEI K Ce [f] vs H Q E) (hD : D.nx = fun _ H' => Q .non H') : tOst K f (tVar 0) (tVar 1) D (start N vs) H := by
  obtain ⟨a, ys, rfl, l, T, no, ea, q⟩ := h
  match ys, l with
  | [y], _ =>
    refine ⟨y, rfl, .ref a, rfl, a, Ce, rfl, T, no f (List.mem_cons_self ..), .inl ⟨ea, fun dx n ne => ?_⟩⟩
    rw [hD]
    refine q dx _ n upd_same (by rw [upd_ne ne, upd_same]; rfl) fun b b1 b2 => ?_
    rw [upd_ne b1, upd_ne b2]
theorem pure_ei2 {K : PySem.W.Frag} {Ce : Addr} {f g : Str} {D : Ends} {N : List Str} {vs : List V} {H : Hp} {Q : VK} {E : XK} (h : spEI K Ce [f, g] vs H Q E) (hD : D.nx = fun _ H' => Q .non H') : tSeq (tOst K f (tVar 0) (tVar 1)) (tOst K g (tVar 0) (tVar 2)) D (start N vs) H := by
  obtain ⟨a, ys, rfl, l, T, no, ea, q⟩ := h
  match ys, l with
  | [y, z], _ =>
    refine ⟨y, rfl, .ref a, rfl, a, Ce, rfl, T, no f (by simp), .inl ⟨ea, fun dx n ne => ?_⟩⟩
    refine ⟨z, rfl, .ref a, rfl, a, Ce, rfl, T, no g (by simp), .inr ⟨dx, [(f, y)], upd_same, by rw [upd_ne ne, upd_same], (show 1 ≤ 900 by decide), ?_⟩⟩
    rw [hD]
    refine q dx _ n (by rw [upd_ne (Ne.symm ne), upd_same]) (by rw [upd_same]; rfl) fun b b1 b2 => ?_
    rw [upd_ne b2, upd_ne b1, upd_ne b2]
/-- what never changes any more, from now on -/
theorem frzH {K : PySem.W.Frag} {C : Addr} {W0 W : Wd} {σ : L2.St} {ρ : List SlV} {S : List PV} (R : Rel K C W0 W σ ρ S) {p : Addr} {o : HO} (h : W.H p = some o) (nl : ∀ vs, o ≠ .lst vs) (ndd : ∀ es us, ¬ DO K es o us) (n0 : W0.H p = none) :
    GroF W ⟨upd W.F p o, W.H, W.θ⟩ ∧ Rel K C W0 ⟨upd W.F p o, W.H, W.θ⟩ σ ρ S := by
  have sF : Same W.F (upd W.F p o) := fun b x e => by
    by_cases c : b = p
    · subst c
      rw [upd_same, ← R.i.s _ _ e, h]
    · rw [upd_ne c]; exact e
  have m : ∀ {v : V} {x : PV}, RepW K C W v x → Rep K C (upd W.F p o) W.θ v x := fun r => by
    have := r.mono (r := []) sF
    rwa [List.append_nil] at this
  have ma : ∀ {v : List V} {x : List PV}, RepAll K C W.F W.θ v x → RepAll K C (upd W.F p o) W.θ v x := fun r => by
    have := r.mono (r := []) sF
    rwa [List.append_nil] at this
  have mm : ∀ {b : Addr} {x : PV}, Mut K C W b x → b ≠ p ∧ Mut K C ⟨upd W.F p o, W.H, W.θ⟩ b x := fun {b x} r => by
    cases x with
    | lst ys =>
      obtain ⟨us, e, r⟩ := r
      refine ⟨fun z => ?_, us, e, ma r⟩
      subst z
      rw [h] at e
      exact nl us (Option.some.inj e)
    | dic es =>
      obtain ⟨o', us, e, d, r⟩ := r
      refine ⟨fun z => ?_, o', us, e, d, ma r⟩
      subst z
      rw [h] at e
      cases Option.some.inj e
      exact ndd _ _ d
    | _ => exact r.elim
  have mmL : ∀ {b : Addr} {x : PV}, MutL K C W b x → b ≠ p ∧ MutL K C ⟨upd W.F p o, W.H, W.θ⟩ b x := fun {b x} r => by
    cases x with
    | lst ys =>
      obtain ⟨us, e, r⟩ := r
      refine ⟨fun z => ?_, us, e, ma r⟩
      subst z
      rw [h] at e
      exact nl us (Option.some.inj e)
    | _ => exact r.elim
  refine ⟨⟨sF, [], (List.append_nil _).symm⟩, ⟨R.e.f.trans sF, R.e.t, R.e.h, R.e.k, fun q o' e z => ?_⟩, ⟨fun b x e => ?_, R.i.len, R.i.nd, fun n b x e1 e2 => ?_⟩, R.l, fun j sl hj => ?_, R.d⟩
  · show upd W.F p o q = none
    rw [upd_ne (ne_of_none e n0)]
    exact R.e.n q o' e z
  · change upd W.F p o b = some x at e
    show W.H b = some x
    by_cases c : b = p
    · subst c
      rw [upd_same] at e
      rw [← e]
      exact h
    · rw [upd_ne c] at e
      exact R.i.s _ _ e
  · obtain ⟨z, r⟩ := R.i.m n b x e1 e2
    obtain ⟨ne, r'⟩ := mm r
    refine ⟨?_, r'⟩
    show upd W.F p o b = none
    rw [upd_ne ne]
    exact z
  · have sl' := R.s j sl hj
    cases sl with
    | un => trivial
    | val y => obtain ⟨u, e, r⟩ := sl'; exact ⟨u, e, m r⟩
    | own y =>
      obtain ⟨b, eb, p1, p2, p3, p4⟩ := sl'
      obtain ⟨ne, r'⟩ := mmL p4
      refine ⟨b, eb, p1, ?_, p3, r'⟩
      show upd W.F p o b = none
      rw [upd_ne ne]
      exact p2
/-- try: a block that raises; except x as n: y = n -/
def mTryK (x : Str) (fs : List Str) (i j : Nat) (m : MR) : MS := fun ρ S => match m ρ S with
  | some (ys, S1) => if i < ρ.length ∧ j < ρ.length then some (.nx ((ρ.set j (.val (.dic (excK x fs ys)))).set i .un) S1) else none
  | none => none
theorem xtry {X : Cx} {C Ce fI : Addr} {fs : List Str} {m : MR} {x n y : Str} {i j : Nat} {bd : List Stmt} {q1 q2 q3 q4 q5 pos : Pos} (T : ErrC X.K X.mg x Ce fI fs) (en : ErrN X.K x Ce) (ij : i ≠ j)
    (st : X.stack = X.env :: X.outer) (fr : X.env.frame = some X.env.locals) (nd : X.N.Nodup) (at_ : X.N[i]? = some n) (lo : X.env.kindOf n = some .local) (gl : Gl X x) (dbg : (x == ("__debug__" : Str)) = false)
    (body : ∀ (W : WX) (pn : List (Addr × Obj)) (E' : Value → Shared → Prop), Takes (X.tr pn E') W → PassesOwn (model X.prog X.w) X.A X.env E' → PSs (X.tr pn E') bd (tMR X.K C Ce fs m W))
    (asg : ∀ (a : Addr) (ob : Obj) (pn : List (Addr × Obj)), PS (X.suite a ((a, ob) :: pn)) (.Assign [.Name y q3] (.Name n q4) q5) (tAsg (tVar i) (gName j))) :
    PS X (.Try bd [.ExceptHandler (some (.Name x q1)) (some n) [.Assign [.Name y q3] (.Name n q4) q5] q2] [] [] pos) (tMS X.K C (mTryK x fs i j m)) :=
  PS.weak (ps_try_keep (c := .ref Ce) (tb := fun W => tMR X.K C Ce fs m W) (ts := fun _ => tAsg (tVar i) (gName j)) st fr nd at_ lo ⟨gl, dbg, .inl T.gC⟩ body (fun a ob pn => pss_one (asg a ob pn))) fun D σ H ⟨W0, W, ρ, S, out, eH, R, em, q⟩ => by
  subst eH
  unfold mTryK at em
  split at em
  · rename_i ys S' e1
    split at em
    · rename_i hl
      cases em
      obtain ⟨hi, hj⟩ := hl
      refine ⟨W0, W, ρ, S, ys, S', rfl, R, e1, fun us d W1 g1 R1 r1 lu nd' ed => ⟨Ce, d, rfl, rfl, T.te, fun a na => ?_⟩⟩
      have li : i < σ.length := by rw [R.l]; exact hi
      have lj : j < σ.length := by rw [R.l]; exact hj
      refine ⟨.ref a, by rw [List.getElem?_set_self li], ?_⟩
      show W1.H a = none → D.nx _ _
      intro na
      obtain ⟨g2, i2⟩ := laidH (ExK Ce d a) R1.i na
      have R2 : Rel X.K C W0 ⟨W1.F, upd W1.H a (ExK Ce d a), W1.θ⟩ (((σ.set i (some (.ref a))).set j (some (.ref a))).set i none) ((ρ.set j .un).set i .un) S' := by
        have A := (((R1.ext g2 i2).setu i (some (.ref a))).setu j (some (.ref a))).setu i none
        have e : ((ρ.set i .un).set j .un).set i SlV.un = (ρ.set j .un).set i .un := by
          apply List.ext_getElem?
          intro k
          simp only [List.getElem?_set, List.length_set]
          by_cases c1 : i = k <;> by_cases c2 : j = k <;> simp [c1, c2]
        rw [e] at A
        exact A
      have dn : d ≠ a := ne_of_none ed na
      have h1 : (⟨W1.F, upd W1.H a (ExK Ce d a), W1.θ⟩ : Wd).H d = some (.xd (fs.zip us).reverse) := by
        show upd _ _ _ d = _
        rw [upd_ne dn]
        exact ed
      have w0a : W0.H a = none := older R1.e na
      have w0d : W0.H d = none := older R.e nd'
      obtain ⟨g3, R3⟩ := frzH R2 h1 (fun vs z => by cases z) (fun es us d => by rcases d.isD with ⟨_, z⟩ | ⟨_, z⟩ | ⟨_, _, _, z⟩ <;> cases z) w0d
      obtain ⟨g4, R4⟩ := frzH R3 (p := a) (o := ExK Ce d a) (by show upd _ _ _ a = _; exact upd_same) (fun vs z => by cases z) (fun es us d => by rcases d.isD with ⟨_, z⟩ | ⟨_, z⟩ | ⟨_, _, _, z⟩ <;> cases z) w0a
      have rr : RepAll X.K C (upd (upd W1.F d (.xd (fs.zip us).reverse)) a (ExK Ce d a)) W1.θ us ys := by
        have s1 : Same W1.F (upd (upd W1.F d (.xd (fs.zip us).reverse)) a (ExK Ce d a)) := g3.f.trans g4.f
        have := r1.mono (r := []) s1
        rwa [List.append_nil] at this
      have rx : RepW X.K C ⟨upd (upd W1.F d (.xd (fs.zip us).reverse)) a (ExK Ce d a), upd W1.H a (ExK Ce d a), W1.θ⟩ (.ref a) (.dic (excK x fs ys)) :=
        .exc rfl en upd_same (by show upd _ _ _ d = _; rw [upd_ne dn, upd_same]) lu rr
      have R5 := R4.setv j rx (by rw [List.length_set, List.length_set]; exact hj)
      have e5 : ((((σ.set i (some (.ref a))).set j (some (.ref a))).set i none).set j (some (.ref a))) = (((σ.set i (some (.ref a))).set j (some (.ref a))).set i none) := by
        apply List.ext_getElem?
        intro k
        simp only [List.getElem?_set, List.length_set]
        by_cases c1 : i = k <;> by_cases c2 : j = k <;> simp [c1, c2]
        all_goals first | omega | (intro h; omega) | (intro h; subst c2; simp [h])
      have e6 : ((ρ.set j .un).set i .un).set j (.val (.dic (excK x fs ys))) = (ρ.set j (.val (.dic (excK x fs ys)))).set i .un := by
        apply List.ext_getElem?
        intro k
        simp only [List.getElem?_set, List.length_set]
        by_cases c1 : i = k <;> by_cases c2 : j = k <;> simp [c1, c2]
        omega
      rw [e5, e6] at R5
      exact q _ _ ((g1.trans g2).groF.trans (g3.trans g4)) R5
    · cases em
  · cases em
end BL

namespace BL
open PySem PySem.Spec PyProof.Rows L2
/-! what a caught error tells -/
inductive PairR (K : PySem.W.Frag) (C : Addr) (F : Hp) (θ : List Addr) : List (Str × V) → List (Str × PV) → Prop
  | nil : PairR K C F θ [] []
  | cons {f : Str} {v : V} {y : PV} {vs : List (Str × V)} {ys : List (Str × PV)} : Rep K C F θ v y → PairR K C F θ vs ys → PairR K C F θ ((f, v) :: vs) ((f, y) :: ys)
section
variable {K : PySem.W.Frag} {C : Addr} {F : Hp} {θ : List Addr}
theorem PairR.zip : ∀ {fs : List Str} {us : List V} {ys : List PV}, us.length = fs.length → RepAll K C F θ us ys → PairR K C F θ (fs.zip us) (fs.zip ys)
  | [], _, _, _, r => by simp; exact .nil
  | f :: fs, [], _, l, _ => by cases l
  | f :: fs, u :: us, _, l, .cons r a => .cons r (PairR.zip (by simpa using l) a)
theorem PairR.app : ∀ {vs us : List (Str × V)} {ys zs : List (Str × PV)}, PairR K C F θ vs ys → PairR K C F θ us zs → PairR K C F θ (vs ++ us) (ys ++ zs)
  | _, _, _, _, .nil, b => b
  | _, _, _, _, .cons r a, b => .cons r (a.app b)
theorem PairR.rev : ∀ {vs : List (Str × V)} {ys : List (Str × PV)}, PairR K C F θ vs ys → PairR K C F θ vs.reverse ys.reverse
  | _, _, .nil => .nil
  | _, _, .cons r a => by
    rw [List.reverse_cons, List.reverse_cons]
    exact a.rev.app (.cons r .nil)
theorem PairR.look {f : Str} {y : PV} : ∀ {vs : List (Str × V)} {ys : List (Str × PV)}, PairR K C F θ vs ys → ys.lookup f = some y → ∃ v, vs.lookup f = some v ∧ Rep K C F θ v y
  | _, _, .nil, e => by cases e
  | _, _, .cons (f := g) r a, e => by
    rw [List.lookup_cons] at e ⊢
    cases c : f == g with
    | true =>
      rw [c] at e
      cases e
      exact ⟨_, rfl, r⟩
    | false =>
      rw [c] at e
      exact a.look e
end
def unzK : List (PV × PV) → List (Str × PV)
  | [] => []
  | (.str f, y) :: r => (f, y) :: unzK r
  | _ :: r => unzK r
theorem unzK_zip : ∀ (fs : List Str) (ys : List PV), unzK (fs.zipWith (fun f y => (PV.str f, y)) ys) = fs.zip ys
  | [], _ => by simp [unzK]
  | f :: fs, [] => by simp [unzK]
  | f :: fs, y :: ys => by simp [unzK, unzK_zip fs ys]
theorem errN_eq {K : PySem.W.Frag} {x : Str} {C D : Addr} (h : ErrN K x C) (h' : ErrN K x D) : C = D := by
  unfold ErrN at h h'
  rw [h] at h'
  cases Option.some.inj (Option.some.inj h')
  rfl
section
variable {X : Cx} {C Ce : Addr} {ma : ME} {e : Expr} {x f : Str} {pos : Pos}
def mXa (x f : Str) (ma : ME) : ME := fun ρ S => match ma ρ S with
  | some (.dic ((.str y, .non) :: r), S1) => if y = x then (match (unzK r).reverse.lookup f with | some v => some (v, S1) | none => none) else none
  | _ => none
theorem xxa (en : ErrN X.K x Ce) (T : XfC X.K Ce) (no : PySem.W.findIn X.K (.ref Ce) f = some none) (he : PE X e (tM X.K C ma)) (hb : attributeBase e f X.env (eval e X.env) = eval e X.env := by rfl) : PE X (.Attribute e f pos) (tM X.K C (mXa x f ma)) :=
  PE.weak (pe_xk T no he hb) fun σ H Q ⟨W0, W, ρ, S, z, S', eH, R, em, q⟩ => by
  subst eH
  unfold mXa at em
  split at em
  · rename_i y r S1 e1
    split at em
    · rename_i hx
      subst hx
      split at em
      · rename_i v lk
        cases em
        refine ⟨W0, W, ρ, S, _, S', rfl, R, e1, fun u W1 R1 g1 r1 => ?_⟩
        cases r1 with
        | exc ek en' h1 h2 l a =>
          have ek' := ek
          unfold excK at ek'
          injection ek' with k1 k2
          injection k1 with k3 _
          injection k3 with k3
          subst k3
          subst k2
          cases errN_eq en en'
          rw [unzK_zip] at lk
          obtain ⟨w, lw, rw'⟩ := ((PairR.zip l a).rev).look lk
          exact ⟨_, _, _, w, rfl, R1.i.s _ _ h1, R1.i.s _ _ h2, lw, q w W1 R1 g1 rw'⟩
        | exn ek en' h1 =>
          unfold excK at ek
          injection ek with k1 k2
          subst k2
          cases lk
      · cases em
    · cases em
  · cases em
def mXi (x : Str) (b : Bool) (ma : ME) : ME := fun ρ S => match ma ρ S with
  | some (.dic ((.str y, .non) :: _), S1) => if y = x then some (.bl b, S1) else none
  | _ => none
theorem xxi {D : V} {u : Value} {b : Bool} (en : ErrN X.K x Ce) (T : XiC X.K Ce) (cl : ClsV D u) (ki : PySem.W.kitOne X.K (.ref Ce) u = some b) (he : PE X e (tCB (rIsK X.K) (tCons (tM X.K C ma) (tCons (tC D) tNil)))) : PE X e (tM X.K C (mXi x b ma)) :=
  PE.weak he fun σ H Q ⟨W0, W, ρ, S, z, S', eH, R, em, q⟩ => by
  subst eH
  unfold mXi at em
  split at em
  · rename_i y r S1 e1
    split at em
    · rename_i hx
      subst hx
      cases em
      refine ⟨W0, W, ρ, S, _, S', rfl, R, e1, fun v W1 R1 g1 r1 => ?_⟩
      cases r1 with
      | exc ek en' h1 h2 l a =>
        have ek' := ek
        unfold excK at ek'
        injection ek' with k1 k2
        injection k1 with k3 _
        injection k3 with k3
        subst k3
        cases errN_eq en en'
        exact ⟨_, _, D, u, b, rfl, cl, .inl ⟨_, _, R1.i.s _ _ h1, R1.i.s _ _ h2⟩, T, ki, q _ W1 R1 g1 (.bl b)⟩
      | exn ek en' h1 =>
        have ek' := ek
        unfold excK at ek'
        injection ek' with k1 k2
        injection k1 with k3 _
        injection k3 with k3
        subst k3
        cases errN_eq en en'
        exact ⟨_, _, D, u, b, rfl, cl, .inr (R1.i.s _ _ h1), T, ki, q _ W1 R1 g1 (.bl b)⟩
    · cases em
  · cases em
end
/-- x = e, e raises -/
theorem rasg {X : Cx} {C Ce : Addr} {fs : List Str} {m : MR} {Wi : WX} {st : Stmt} {g : TG} (h : PS X st (tAsg (tER X.K C Ce fs m Wi) g)) : PS X st (tMR X.K C Ce fs m Wi) := PS.weak h fun D σ H q => q
/-- a block that raises, behind statements that do not -/
def mRSeq (ms : MS) (mr : MR) : MR := fun ρ S => match ms ρ S with
  | some (.nx ρ1 S1) => mr ρ1 S1
  | _ => none
@[simp] theorem e_xa {ma : ME} {ρ : List SlV} {S : List PV} (x f : Str) : mXa x f ma ρ S = match ma ρ S with
  | some (.dic ((.str y, .non) :: r), S1) => if y = x then (match (unzK r).reverse.lookup f with | some v => some (v, S1) | none => none) else none
  | _ => none := rfl
@[simp] theorem e_xi {ma : ME} {ρ : List SlV} {S : List PV} (x : Str) (b : Bool) : mXi x b ma ρ S = match ma ρ S with
  | some (.dic ((.str y, .non) :: _), S1) => if y = x then some (.bl b, S1) else none
  | _ => none := rfl
end BL

namespace BL
open PySem PySem.Spec PyProof.Rows L2
/-- try: a block that raises or not; except x as n: y = n -/
def mTryO (x : Str) (fs : List Str) (i j : Nat) (m : MR) (ms : MS) : MS := fun ρ S => match m ρ S with
  | some (ys, S1) => mTryK x fs i j (fun _ _ => some (ys, S1)) ρ S
  | none => ms ρ S
theorem mTryO_r {x : Str} {fs : List Str} {i j : Nat} {m : MR} {ms : MS} {ρ : List SlV} {S : List PV} {r : List PV × List PV} (h : m ρ S = some r) : mTryO x fs i j m ms ρ S = mTryK x fs i j m ρ S := by
  unfold mTryO mTryK
  rw [h]
theorem mTryO_n {x : Str} {fs : List Str} {i j : Nat} {m : MR} {ms : MS} {ρ : List SlV} {S : List PV} (h : m ρ S = none) : mTryO x fs i j m ms ρ S = ms ρ S := by
  unfold mTryO
  rw [h]
theorem pss_or {X : Cx} {bd : List Stmt} {t u : TS} (h1 : PSs X bd t) (h2 : PSs X bd u) : PSs X bd (fun D σ H => t D σ H ∨ u D σ H) := ⟨fun pins s σ H D I w => w.elim (fun a => h1.run pins s σ H D I a) (fun b => h2.run pins s σ H D I b)⟩
theorem keepR {X : Cx} {C Ce fI : Addr} {fs : List Str} {m : MR} {x : Str} {i j : Nat} (T : ErrC X.K X.mg x Ce fI fs) (en : ErrN X.K x Ce) (ij : i ≠ j) : ∀ (D : Ends) (σ : L2.St) (H : Hp), tMS X.K C (mTryK x fs i j m) D σ H → tMR X.K C Ce fs m (wKeep X.K (.ref Ce) i (fun _ => tAsg (tVar i) (gName j)) D) D σ H :=
  fun D σ H ⟨W0, W, ρ, S, out, eH, R, em, q⟩ => by
  subst eH
  unfold mTryK at em
  split at em
  · rename_i ys S' e1
    split at em
    · rename_i hl
      cases em
      obtain ⟨hi, hj⟩ := hl
      refine ⟨W0, W, ρ, S, ys, S', rfl, R, e1, fun us d W1 g1 R1 r1 lu nd' ed => ⟨Ce, d, rfl, rfl, T.te, fun a na => ?_⟩⟩
      have li : i < σ.length := by rw [R.l]; exact hi
      have lj : j < σ.length := by rw [R.l]; exact hj
      refine ⟨.ref a, by rw [List.getElem?_set_self li], ?_⟩
      show W1.H a = none → D.nx _ _
      intro na
      obtain ⟨g2, i2⟩ := laidH (ExK Ce d a) R1.i na
      have R2 : Rel X.K C W0 ⟨W1.F, upd W1.H a (ExK Ce d a), W1.θ⟩ (((σ.set i (some (.ref a))).set j (some (.ref a))).set i none) ((ρ.set j .un).set i .un) S' := by
        have A := (((R1.ext g2 i2).setu i (some (.ref a))).setu j (some (.ref a))).setu i none
        have e : ((ρ.set i .un).set j .un).set i SlV.un = (ρ.set j .un).set i .un := by
          apply List.ext_getElem?
          intro k
          simp only [List.getElem?_set, List.length_set]
          by_cases c1 : i = k <;> by_cases c2 : j = k <;> simp [c1, c2]
        rw [e] at A
        exact A
      have dn : d ≠ a := ne_of_none ed na
      have h1 : (⟨W1.F, upd W1.H a (ExK Ce d a), W1.θ⟩ : Wd).H d = some (.xd (fs.zip us).reverse) := by
        show upd _ _ _ d = _
        rw [upd_ne dn]
        exact ed
      have w0a : W0.H a = none := older R1.e na
      have w0d : W0.H d = none := older R.e nd'
      obtain ⟨g3, R3⟩ := frzH R2 h1 (fun vs z => by cases z) (fun es us d => by rcases d.isD with ⟨_, z⟩ | ⟨_, z⟩ | ⟨_, _, _, z⟩ <;> cases z) w0d
      obtain ⟨g4, R4⟩ := frzH R3 (p := a) (o := ExK Ce d a) (by show upd _ _ _ a = _; exact upd_same) (fun vs z => by cases z) (fun es us d => by rcases d.isD with ⟨_, z⟩ | ⟨_, z⟩ | ⟨_, _, _, z⟩ <;> cases z) w0a
      have rr : RepAll X.K C (upd (upd W1.F d (.xd (fs.zip us).reverse)) a (ExK Ce d a)) W1.θ us ys := by
        have s1 : Same W1.F (upd (upd W1.F d (.xd (fs.zip us).reverse)) a (ExK Ce d a)) := g3.f.trans g4.f
        have := r1.mono (r := []) s1
        rwa [List.append_nil] at this
      have rx : RepW X.K C ⟨upd (upd W1.F d (.xd (fs.zip us).reverse)) a (ExK Ce d a), upd W1.H a (ExK Ce d a), W1.θ⟩ (.ref a) (.dic (excK x fs ys)) :=
        .exc rfl en upd_same (by show upd _ _ _ d = _; rw [upd_ne dn, upd_same]) lu rr
      have R5 := R4.setv j rx (by rw [List.length_set, List.length_set]; exact hj)
      have e5 : ((((σ.set i (some (.ref a))).set j (some (.ref a))).set i none).set j (some (.ref a))) = (((σ.set i (some (.ref a))).set j (some (.ref a))).set i none) := by
        apply List.ext_getElem?
        intro k
        simp only [List.getElem?_set, List.length_set]
        by_cases c1 : i = k <;> by_cases c2 : j = k <;> simp [c1, c2]
        all_goals first | omega | (intro h; omega) | (intro h; subst c2; simp [h])
      have e6 : ((ρ.set j .un).set i .un).set j (.val (.dic (excK x fs ys))) = (ρ.set j (.val (.dic (excK x fs ys)))).set i .un := by
        apply List.ext_getElem?
        intro k
        simp only [List.getElem?_set, List.length_set]
        by_cases c1 : i = k <;> by_cases c2 : j = k <;> simp [c1, c2]
        omega
      rw [e5, e6] at R5
      exact q _ _ ((g1.trans g2).groF.trans (g3.trans g4)) R5
    · cases em
  · cases em
theorem xtryO {X : Cx} {C Ce fI : Addr} {fs : List Str} {m : MR} {ms : MS} {x n y : Str} {i j : Nat} {bd : List Stmt} {q1 q2 q3 q4 q5 pos : Pos} (T : ErrC X.K X.mg x Ce fI fs) (en : ErrN X.K x Ce) (ij : i ≠ j)
    (st : X.stack = X.env :: X.outer) (fr : X.env.frame = some X.env.locals) (nd : X.N.Nodup) (at_ : X.N[i]? = some n) (lo : X.env.kindOf n = some .local) (gl : Gl X x) (dbg : (x == ("__debug__" : Str)) = false)
    (body : ∀ (W : WX) (pn : List (Addr × Obj)) (E' : Value → Shared → Prop), Takes (X.tr pn E') W → PassesOwn (model X.prog X.w) X.A X.env E' → PSs (X.tr pn E') bd (tMR X.K C Ce fs m W))
    (bodyN : ∀ (pn : List (Addr × Obj)) (E' : Value → Shared → Prop), PassesOwn (model X.prog X.w) X.A X.env E' → PSs (X.tr pn E') bd (tMS X.K C ms))
    (asg : ∀ (a : Addr) (ob : Obj) (pn : List (Addr × Obj)), PS (X.suite a ((a, ob) :: pn)) (.Assign [.Name y q3] (.Name n q4) q5) (tAsg (tVar i) (gName j))) :
    PS X (.Try bd [.ExceptHandler (some (.Name x q1)) (some n) [.Assign [.Name y q3] (.Name n q4) q5] q2] [] [] pos) (tMS X.K C (mTryO x fs i j m ms)) :=
  PS.weak (ps_try_keep (c := .ref Ce) (tb := fun W D σ H => tMR X.K C Ce fs m W D σ H ∨ tMS X.K C ms D σ H) (ts := fun _ => tAsg (tVar i) (gName j)) st fr nd at_ lo ⟨gl, dbg, .inl T.gC⟩ (fun W pn E' tk po => pss_or (body W pn E' tk po) (bodyN pn E' po)) (fun a ob pn => pss_one (asg a ob pn))) fun D σ H ⟨W0, W, ρ, S, out, eH, R, em, q⟩ => by
  cases hm : m ρ S with
  | some r =>
    rw [mTryO_r hm] at em
    exact .inl (keepR T en ij D σ H ⟨W0, W, ρ, S, out, eH, R, em, q⟩)
  | none =>
    rw [mTryO_n hm] at em
    exact .inr ⟨W0, W, ρ, S, out, eH, R, em, q⟩
end BL

/-! errors made by keywords -/
namespace PySem
namespace HandSPX
open Builtin Builtin.ObjectAttr
section
variable {M : Model} {A : Around} {E : Value → Shared → Prop} {h : Heap} {g : Array GenState} {d : Drawn} {t : Nat} {os : OsState}
variable {nm q : Str} {C N : Addr} {bs bm bmB : List Value} {hdct : Bool} {sn : List Str} {sub : List Value} {ab : Bool} {col : Option Bool} {dd : Option Addr} {k0 k1 k2 k3 k5 : Option Value} {B newId initId : String}
theorem bl_check_new (F : ExcBaseFacts B newId initId bmB) (hT : ∀ X : String, bm.contains (.type X) = bmB.contains (.type X)) {rest : List Value} {kw : List (Str × Value)} {Q : Unit → Shared → Prop}
    (hC : h.get? C = some (excClassObj nm q C N bs bm hdct sn sub ab col dd k0 k1 k2 k3 k5 newId)) (hq : Q () ⟨h, g, d, t, os⟩) : wpAny M A (checkBuiltinCall newId ⟨.ref C :: rest, kw⟩) Q E ⟨h, g, d, t, os⟩ := by
  have hcont : (Value.ref C :: bm).contains (.type B) = true := by rw [List.contains_cons, hT, F.hasB, Bool.or_true]
  have hstar := F.noStar
  simp only [checkBuiltinCall, F.newKind, F.newSplit, F.newRow]
  repeat (first | refine wpAny_loadPart_at hC ?_ | (refine wpAny_isSubtype_exc hC ?_; rw [hcont]) | refine wpAny_staticBase_exc hC ?_ | refine wpAny_madeBy_exc hC ?_ | simp only [bne_self_eq_false, Bool.false_eq_true, if_false] | wp_step)
  exact hq
end
section
variable {prog : Program} {w : World} {A : Around} {E : Value → Shared → Prop} {R : Result → Shared → Prop} {h : Heap} {g : Array GenState} {d : Drawn} {t : Nat} {os : OsState}
variable {nm q : Str} {C N : Addr} {bs bm bmB : List Value} {hdct : Bool} {sn : List Str} {sub : List Value} {ab : Bool} {col : Option Bool} {dd : Option Addr} {k0 k1 k2 k3 k5 : Option Value} {B newId initId : String}
theorem bl_new (F : ExcBaseFacts B newId initId bmB) (hT : ∀ X : String, bm.contains (.type X) = bmB.contains (.type X)) {rest : List Value} {kw : List (Str × Value)}
    (hC : h.get? C = some (excClassObj nm q C N bs bm hdct sn sub ab col dd k0 k1 k2 k3 k5 newId))
    (hq : R (.ok (.ret (.ref (h.objs.size + 1)))) ⟨(h.push { cls := .type "tuple", data := .seq rest.toArray }).push
      { cls := .ref C, data := .fields #[.ref h.objs.size, .none, .none, .none, .bool false, .none] }, g, d, t, os⟩) (hrest : rest.length ≤ sizeLine) :
    codeAny (model prog w) A (.builtin newId ⟨.ref C :: rest, kw⟩) R ⟨h, g, d, t, os⟩ := by
  have hends := F.ends
  have hcB : (Value.ref C :: bm).contains (.type B) = true := by rw [List.contains_cons, hT, F.hasB, Bool.or_true]
  have hcA : (Value.ref C :: bm).contains (.type "AttributeError") = false := by rw [List.contains_cons, hT, F.noAttr]; rfl
  have hcN : (Value.ref C :: bm).contains (.type "NameError") = false := by rw [List.contains_cons, hT, F.noName]; rfl
  refine codeAny_builtinAt F.entry ?_
  unfold Builtin.«BaseException.__new__»
  refine wpAt_bind ?_
  show wpAt _ _ _ (stack >>= _) _ _ _
  refine wpAt_bind (wpAt_stack fun p below => wpAt_of_wpAny ?_)
  wp_walk
  refine wpAt_of_wpAny ?_
  rw [F.owner]
  repeat (first | with_reducible refine wpAny_madeHere_exc F.canon hC ?_ | with_reducible refine wpAny_loadPart_at hC ?_ | (with_reducible refine wpAny_isSubtype_exc hC ?_; first | rw [hcB] | rw [hcA] | rw [hcN]) | wp_step)
  show R _ _
  rw [Heap.size_push]
  exact hq
theorem bl_tc (F : ExcBaseFacts B newId initId bmB) (hT : ∀ X : String, bm.contains (.type X) = bmB.contains (.type X)) {rest : List Value} {kw : List (Str × Value)} {fI : Addr} {Q : Fin → Shared → Prop}
    (hC : h.get? C = some (excClassObj nm q C N bs bm hdct sn sub ab col dd k0 k1 k2 k3 k5 newId))
    (hi : W.Looks (model prog w) h (typeLookup (.ref C) "__init__") (some (.ref fI))) (hb : ∀ self, W.Looks (model prog w) h (bindSpecial (.ref fI) self) (.ref fI, [self])) (hrest : rest.length ≤ sizeLine)
    (hq : codeAny (model prog w) A (.call (.ref fI) ⟨.ref (h.objs.size + 1) :: rest, kw⟩)
      (fun r s' => match r with | .ok (.ret v) => v = .none ∧ Q (.done (.ret (.ref (h.objs.size + 1)))) s' | .ok _ => False | .error e => E e s')
      ⟨(h.push (W.kdv_tup rest)).push (excO C h.objs.size), g, d, t, os⟩) :
    wpAny (model prog w) A (Builtin.«type.__call__» ⟨.ref C :: rest, kw⟩) Q E ⟨h, g, d, t, os⟩ := by
  repeat (first | with_reducible refine wpAny_loadPart_at hC ?_ | with_reducible refine wpAny_madeBy_exc hC ?_ | wp_step)
  refine codeAny_call_builtin_code (Code.quiet_builtin _ F.quiet) (bl_check_new F hT hC ?_)
  refine bl_new F hT hC ?_ hrest
  show wpAny _ _ _ _ _ _
  have k : ∀ b o, h.get? b = some o → ((h.push (W.kdv_tup rest)).push (excO C h.objs.size)).get? b = some o := fun b o e => Heap.get?_push_of_some _ (Heap.get?_push_of_some _ e)
  have hC₁ := k _ _ hC
  have hget : ((h.push (W.kdv_tup rest)).push (excO C h.objs.size)).get? (h.objs.size + 1) = some (excO C h.objs.size) := by heap_get
  have hcC : (Value.ref C :: bm).contains (.ref C) = true := by simp
  have i1 := hi.keeps k
  have b1 := (hb (.ref (h.objs.size + 1))).keeps k
  unfold isInstance
  repeat (first | with_reducible refine wpAny_loadPart_at hget ?_ | (with_reducible refine wpAny_isSubtype_exc hC₁ ?_; rw [hcC]) | wp_step)
  show wpAny _ _ (typeLookup (.ref C) _) _ _ _
  refine i1.at ?_
  refine wpAny_holding (wpAny_bind (b1.at ?_))
  refine wpAny_bind (wpAny_call (codeAny_mono hq fun r s' z => ?_))
  rcases r with e | (v | _ | _ | _) <;> first | exact z | exact z.elim | skip
  obtain ⟨rfl, z⟩ := z
  first
    | exact wpAny_pure (wpAny_pure z)
    | (wp_walk; exact z)
theorem bl_call (F : ExcBaseFacts B newId initId bmB) (hT : ∀ X : String, bm.contains (.type X) = bmB.contains (.type X)) {rest : List Value} {kw : List (Str × Value)} {fI : Addr}
    (hC : h.get? C = some (excClassObj nm q C N bs bm hdct sn sub ab col dd k0 k1 k2 k3 k5 newId))
    (hi : W.Looks (model prog w) h (typeLookup (.ref C) "__init__") (some (.ref fI))) (hb : ∀ self, W.Looks (model prog w) h (bindSpecial (.ref fI) self) (.ref fI, [self])) (hrest : rest.length ≤ sizeLine)
    (hq : codeAny (model prog w) (A.under (.builtin "type.__call__" ⟨.ref C :: rest, kw⟩)) (.call (.ref fI) ⟨.ref (h.objs.size + 1) :: rest, kw⟩) (W.InitBack (h.objs.size + 1) R)
      ⟨(h.push (W.kdv_tup rest)).push (excO C h.objs.size), g, d, t, os⟩) :
    codeAny (model prog w) A (.call (.ref C) ⟨rest, kw⟩) R ⟨h, g, d, t, os⟩ := by
  have f1 := tc_lookup
  have f2 := tc_bind (.ref C)
  have hTy : (⟨h, g, d, t, os⟩ : Shared).TypeIs (.ref C) "type" := ⟨_, hC, rfl⟩
  refine codeAny_of_tree ?_
  show wpAny _ _ (callAny (.ref C) _) _ _ _
  repeat (any_goals (first | assumption | with_reducible refine wpAny_loadPart_at hC ?_ | wp_step))
  refine ⟨rfl, ?_⟩
  refine codeAny_call_builtin_at (Code.quiet_builtin _ (by decide +kernel)) entry_typeCall (wpAny_check_type_call_sub hC (bl_tc F hT hC hi hb hrest ?_))
  refine codeAny_mono hq fun r s' z => ?_
  rcases r with e | (v | _ | _ | _) <;> exact z
end
end HandSPX
end PySem
namespace L2
open PySem PySem.Spec PyProof.Rows
section
variable {X : Cx} {e : Expr} {es : List Expr} {ta tk : TA} {x : Str} {p pos : Pos} {C fI : Addr} {k : Nat} {fd : FuncData} {ps ks : List Str} {sp : Sp} {CX : CXT} {gV : List V → List V → List V} {g : List Value → List Value → List Value} {kws : List Keyword}
/-- what a class of errors with an own __init__ does when it is called, as a value -/
def QMk (C : Addr) (H1 : Hp) (Q : VK) (a : Addr) : VK := fun v H2 => v = .non ∧ ∃ (d : Addr) (fs : List (Str × V)), H2 a = some (exo a C (some d)) ∧ H2 d = some (exd d fs) ∧ H1 d = none ∧ Q (.ref a) (upd (upd (del H2 a) d (.xd fs)) a (BL.ExK C d a))
theorem run_mkv {pins : List (Addr × Obj)} {σ : St} {H1 : Hp} {s : Shared} {Q : VK} {us bs : List Value} {bvs : List V} {kw : List (Str × Value)} (T : OexC X.K C) (iC : PySem.W.findIn X.K (.ref C) "__init__" = some (some (.ref fI))) (tI : PySem.W.typeIn X.K (.ref fI) = some (.type "function"))
    (F1 : FnOk X.prog X.w X.K X.mg X.base CX k fI fd ps sp) (hr : Room (k + 1) X.A) (hx : Passes CX X (fun _ _ _ => False)) (I1 : Inv X pins σ H1 s) (hus : us.length ≤ sizeLine)
    (h : ∀ a, H1 a = none → sp (.ref a :: bvs) (upd H1 a (exo a C none)) (QMk C H1 Q a) (fun _ _ _ => False))
    (r : Vals bvs bs) (hb : ∀ (s : Shared) (self : Value), X.K.In s.heap → (self :: bs).length = ps.length → BindsTo s fd ⟨self :: us, kw⟩ (ps.zip (self :: bs))) :
    wpAny (model X.prog X.w) X.A (call (.ref C) us kw) (EP X pins σ Q) X.xe s := by
  obtain ⟨nm, q, N, bs', bm, sn, sub, ab, col, dd, k0, k1, k2, k3, k5, hC, hbm⟩ := T.cls
  obtain ⟨hp, g, dr, tk, os⟩ := s
  have hsz : hp.objs.size ≤ hp.objs.size + 1 := Nat.le_succ _
  have hn : H1 (hp.objs.size + 1) = none := I1.hok.fresh hsz
  have hq := h (hp.objs.size + 1) hn
  have kk : ∀ b o, hp.get? b = some o → ((hp.push (PySem.W.kdv_tup us)).push (PySem.HandSPX.excO C hp.objs.size)).get? b = some o := fun b o e => Heap.get?_push_of_some _ (Heap.get?_push_of_some _ e)
  have hget : ((hp.push (PySem.W.kdv_tup us)).push (PySem.HandSPX.excO C hp.objs.size)).get? (hp.objs.size + 1) = some (PySem.HandSPX.excO C hp.objs.size) := by heap_get
  have I2 : Inv X pins σ (upd H1 (hp.objs.size + 1) (exo (hp.objs.size + 1) C none)) ⟨(hp.push (PySem.W.kdv_tup us)).push (PySem.HandSPX.excO C hp.objs.size), g, dr, tk, os⟩ :=
    I1.laid (t' := tk) (a := hp.objs.size + 1) (o := exo (hp.objs.size + 1) C none) (h' := (hp.push (PySem.W.kdv_tup us)).push (PySem.HandSPX.excO C hp.objs.size)) kk hsz (exo_ok hget)
  have r2 : Vals (V.ref (hp.objs.size + 1) :: bvs) (Value.ref (hp.objs.size + 1) :: bs) := .cons rfl r
  have hq : sp (V.ref (hp.objs.size + 1) :: bvs) (upd H1 (hp.objs.size + 1) (exo (hp.objs.size + 1) C none)) (QMk C H1 Q (hp.objs.size + 1)) (fun _ _ _ => False) := hq
  have hl : (Value.ref (hp.objs.size + 1) :: bs).length = ps.length := by
    have e := r2.length
    rw [F1.len _ _ _ _ hq] at e
    exact e.symm
  refine wpAny_call (PySem.HandSPX.bl_call F.excBase_ValueError (fun Y => PySem.HandSPX.refsVE_contains Y bm hbm) (I1.kIn _ _ hC) (PySem.W.looks_findIn I1.kIn iC) (fun self => PySem.W.bind_fn I1.kIn self tI) hus
    (codeAny_mono (F1.run _ X.stack _ _ ⟨Value.ref (hp.objs.size + 1) :: us, kw⟩ (Value.ref (hp.objs.size + 1) :: bs) _ _ (fun _ _ _ => False) (hr.make C us kw) (I2.env0.make C us kw) (hb _ _ I2.kIn hl) r2 hq) fun r s' hq' => ?_))
  cases r with
  | error er => exact hx pins σ _ _ er s' I2 hq'
  | ok fl =>
    cases fl with
    | ret u =>
      obtain ⟨v, H2, os2, bare2, un2, hok2, rv, ev, d, fs, ea, ed, hd1, q2⟩ := hq'
      subst ev
      obtain ⟨h2, g2, d2, t2, os'⟩ := s'
      refine ⟨rv, ?_⟩
      obtain ⟨t0, G, J, kG, ge, hoe, na⟩ := mk_end0 (d2 := d2) (t2 := t2) I1 hsz kk un2 hok2 os2 bare2 ea ed hd1
      have J2 := Inv.laidN (h' := h2) (a := hp.objs.size + 1) (o := BL.ExK C d (hp.objs.size + 1)) (t' := t2) J kG ge na (BL.exk_ok hoe ⟨rfl, rfl⟩ rfl)
      exact ⟨.ref (hp.objs.size + 1), _, J2, rfl, q2⟩
    | next => exact False.elim hq'
    | brk => exact False.elim hq'
    | cont => exact False.elim hq'
end
end L2

namespace BL
open PySem PySem.Spec PyProof.Rows L2
theorem takesE {P : Program} {w : World} {K : PySem.W.Frag} {mg : Str → Option Value} {base : Heap} {N : List Str} {qual : Str} {scope : Scope} {f : Addr} {cd : Value} {A : Around} {outer : List Env} {s : Shared} {H : Hp} {E : XK} :
    Takes (cxOf (L2.CX P w) P w K mg base N qual scope f cd A outer s H E) (fun cls d _ H => E cls d H) :=
  takes_of (X := cxOf (L2.CX P w) P w K mg base N qual scope f cd A outer s H E) rfl rfl rfl rfl
end BL

namespace BL
open PySem PySem.Spec PyProof.Rows L2
/-! places that are none; a call behind which the next one raises; an argument that raises -/
section
variable {X : Cx} {C Ce : Addr} {fs : List Str} {m r : MR} {Wi : WX} {st : Stmt} {rest : List Stmt} {e : Expr}
def mRSeqD (m : MR) (me : ME) (r : MR) : MR := fun ρ S => match m ρ S with
  | some z => some z
  | none => match me ρ S with
    | some (_, S1) => r ρ S1
    | none => none
theorem rseqD {me : ME} (h1 : PS X st (tMR X.K C Ce fs m Wi)) (h2 : PS X st (tDrop (tM X.K C me))) (h3 : PSs X rest (tMR X.K C Ce fs r Wi)) : PSs X (st :: rest) (tMR X.K C Ce fs (mRSeqD m me r) Wi) :=
  PSs.weak (pss_or (rhead h1) (pss_cons h2 h3)) fun D σ H ⟨W0, W, ρ, S, ys, S', eH, R, em, q⟩ => by
  unfold mRSeqD at em
  cases hm : m ρ S with
  | some z =>
    rw [hm] at em
    cases em
    exact .inl ⟨W0, W, ρ, S, _, _, eH, R, hm, q⟩
  | none =>
    rw [hm] at em
    cases he : me ρ S with
    | none =>
      rw [he] at em
      cases em
    | some z =>
      obtain ⟨x, S1⟩ := z
      rw [he] at em
      refine .inr ⟨W0, W, ρ, S, x, S1, eH, R, he, fun v W1 R1 g1 r1 => ⟨W0, W1, ρ, S1, ys, S', rfl, R1, em, fun us d W' g i r l n e => q us d W' (g1.trans g) i r l (older g1 n) e⟩⟩
def mRArg (ma : ME) (m : MR) : MR := fun ρ S => match ma ρ S with
  | some (_, S1) => m ρ S1
  | none => none
theorem rarg2 {ma : ME} {sp : Sp} {dvs : List V} {E : XK} (h : PE X e (tCall sp dvs E (tCons (tM X.K C ma) (tCons (tER X.K C Ce fs m Wi) tNil)))) : PE X e (tER X.K C Ce fs (mRArg ma m) Wi) := PE.weak h fun σ H Q ⟨W0, W, ρ, S, ys, S', eH, R, em, q⟩ => by
  unfold mRArg at em
  split at em
  · rename_i x S1 e1
    exact ⟨W0, W, ρ, S, x, S1, eH, R, e1, fun v W1 R1 g1 r1 => ⟨W0, W1, ρ, S1, ys, S', rfl, R1, em, fun us d W' g i r l n e => q us d W' (g1.trans g) i r l (older g1 n) e⟩⟩
  · cases em
end
def r_check_placeB : MR := mRIf (mNotT (mTru (mChain (fun i j => decide (i ≤ j)) (fun i j => decide (i < j)) (mC (.int 0)) (mVar 1) (mFn fLen (mCons (mVar 0) mNil))))) (mRz 1 (mCons (mVar 1) mNil)) (fun _ _ => none)
def r_check_place := mDefR 2 2 r_check_placeB
def r_withoutB : MR := mRCall r_check_place (mCons (mVar 0) (mCons (mVar 1) mNil))
def r_without := mDefR 2 2 r_withoutB
def r_lost_matters := mDefR 2 2 (mRArg (mVar 0) (mRCall r_without (mCons (mVar 0) (mCons (mVar 1) mNil))))
section
variable (chk : List PV → List PV → Option (PV × List PV))
def r_doubled := mDefR 3 4 (mRSeqD (mRCall r_check_place (mCons (mVar 0) (mCons (mVar 1) mNil))) (mCall chk (mCons (mVar 0) (mCons (mVar 1) mNil))) (mRCall r_check_place (mCons (mVar 0) (mCons (mOp fAdd (mVar 1) (mVar 2)) mNil))))
def r_doubled_matters := mDefR 3 3 (mRArg (mVar 0) (mRCall (r_doubled chk) (mCons (mVar 0) (mCons (mVar 1) (mCons (mVar 2) mNil)))))
def r_moved := mDefR 3 4 (mRSeqD (mRCall r_check_place (mCons (mVar 0) (mCons (mVar 1) mNil))) (mCall chk (mCons (mVar 0) (mCons (mVar 1) mNil))) (mRCall r_check_place (mCons (mVar 0) (mCons (mVar 2) mNil))))
def r_moved_alike := mDefR 3 4 (mRArg (mVar 0) (mRCall (r_moved chk) (mCons (mVar 0) (mCons (mVar 1) (mCons (mVar 2) mNil)))))
def m_law_lost_placeR : MR := mRIf (mTru (mOp fLt (mVar 0) (mC (.int 2)))) (mRIf (mTru (mOp fEq (mVar 0) (mC (.int 0)))) (mRCall r_without (mCons (mVar 1) (mCons (mVar 2) mNil))) (mRCall r_lost_matters (mCons (mVar 1) (mCons (mVar 2) mNil))))
  (mRIf (mTru (mOp fLt (mVar 0) (mC (.int 4)))) (mRIf (mTru (mOp fEq (mVar 0) (mC (.int 2)))) (mRCall (r_doubled chk) (mCons (mVar 1) (mCons (mVar 2) (mCons (mVar 3) mNil)))) (mRCall (r_doubled_matters chk) (mCons (mVar 1) (mCons (mVar 2) (mCons (mVar 3) mNil)))))
    (mRIf (mTru (mOp fEq (mVar 0) (mC (.int 4)))) (mRCall (r_moved chk) (mCons (mVar 1) (mCons (mVar 2) (mCons (mVar 3) mNil)))) (mRCall (r_moved_alike chk) (mCons (mVar 1) (mCons (mVar 2) (mCons (mVar 3) mNil))))))
def m_law_lost_placeB : MS := mSeq (mAsg (.tp [4, 5]) (mTup (mCons (mC .non) (mCons (mC .non) mNil)))) (mSeq (mTryK "NoPlace" ["place"] 6 4 (m_law_lost_placeR chk))
  (mRet (mIfE (mTru (mOp fIs (mVar 4) (mC .non))) (mVar 5) (mLst (mCons (mXa "NoPlace" "place" (mVar 4)) (mCons (mXi "NoPlace" true (mVar 4)) mNil))))))
def m_law_lost_placeH : List PV → List PV → Option (PV × List PV) := mDef 4 7 (m_law_lost_placeB chk)
end
end BL

namespace BL
open PySem PySem.Spec PyProof.Rows L2
/-! errors without fields, of classes without an own __init__ -/
theorem exn_ok {P : Program} {w : World} {H : Hp} {g : Heap} {a C : Addr} {ob : Obj} {fl : Array Value} (e : g.get? a = some ob) (z : Zc (.ref C) none ob) (q : ob.data = .fields fl) : ObjOk P w H g a (ExN C a) :=
  ⟨⟨ob, fl, e, z, q⟩, ⟨ob, e⟩, fun _ _ ⟨o, f, x, y⟩ k => ⟨o, f, k o x, y⟩⟩
theorem exn_at {P : Program} {w : World} {H : Hp} {g : Heap} {a C : Addr} (ok : HOk P w H g) (e : H a = some (ExN C a)) : ∃ ob fl, g.get? a = some ob ∧ Zc (.ref C) none ob ∧ ob.data = .fields fl := by
  have z : ObjOk P w H g a (.ext fun g => ∃ ob fl, g.get? a = some ob ∧ Zc (.ref C) none ob ∧ ob.data = .fields fl) := ok a _ e
  exact z.1
section
variable {X : Cx} {pins : List (Addr × Obj)} {σ : L2.St} {H : Hp} {s : Shared}
theorem adoptN {a C : Addr} {ob : Obj} {fl : Array Value} (I : Inv X ((a, ob) :: pins) σ H s) (z : Zc (.ref C) none ob) (q : ob.data = .fields fl) (new : a ∉ X.ex → X.s_0.heap.get? a = none) (ne : ∀ p ∈ X.pn ++ pins, p.1 ≠ a) :
    Inv X pins σ (upd H a (ExN C a)) s := by
  obtain ⟨ea, na, nl, nf, nc⟩ := I.pin (a, ob) (List.mem_append_right _ (List.mem_cons_self ..))
  have up : ∀ {b : Addr}, b ≠ a → upd H a (ExN C a) b = H b := fun n => upd_ne n
  have st : ∀ {b : Addr} {o : HO}, H b = some o → upd H a (ExN C a) b = some o := fun {b o} e => by
    rw [up (ne_of_none e na)]
    exact e
  have ok : HOk X.prog X.w (upd H a (ExN C a)) s.heap := fun b o e => by
    by_cases c : b = a
    · subst c
      rw [upd_same] at e
      cases e
      exact exn_ok ea z q
    · rw [up c] at e
      exact (I.hok b o e).stay (fun _ _ _ x => x) (fun _ x => st x) (fun _ _ x => st x)
  refine ⟨I.ok, I.os, I.bare, ⟨I.base.keep, I.base.slot, fun b o e n x => ?_, I.base.there, fun b xs e => st (I.base.tups b xs e), fun b o u e => st (I.base.frzs b o u e), fun b ps e => ?_⟩, I.loc, I.cell, ?_, fun x c e => ?_, fun p hp => ?_, ok, I.len⟩
  · rw [up fun c => by rw [c, new (c ▸ x)] at e; cases e]
    exact I.base.free b o e n x
  · obtain ⟨m, e'⟩ := I.base.tbls b ps e
    exact ⟨m, st e'⟩
  · rw [up (Ne.symm nl)]
    exact I.free
  · rw [up fun y => ?_]
    · exact I.freeC x c e
    · obtain ⟨v, cv⟩ := I.cell x c e
      obtain ⟨o', e1, e2⟩ := cv
      rw [y, ea] at e1
      cases e1
      exact nc _ e2
  · obtain ⟨p1, p2, p3⟩ := I.pin p (by
      rcases List.mem_append.mp hp with h | h
      · exact List.mem_append_left _ h
      · exact List.mem_append_right _ (List.mem_cons_of_mem _ h))
    exact ⟨p1, by rw [up (ne p hp)]; exact p2, p3⟩

/-- what such a try wishes of the error in its body: it is one of the class named; the suite ts runs with it in slot i; behind it stands kept, and the slot is empty -/
def wKeepN (K : PySem.W.Frag) (c : Value) (i : Nat) (ts : Addr → TS) (D : Ends) : WX := fun cls d τ G => ∃ C : Addr, cls = .ref C ∧ d = none ∧ PySem.W.exmOne K cls c = some true ∧ ∀ a, G a = none →
  ts a { nx := fun τ' G' => G' a = none → D.nx (τ'.set i none) (upd G' a (ExN C a)), rt := fun _ _ => False, bk := fun _ _ => False, ct := fun _ _ => False } (τ.set i (some (.ref a))) G
end
section
variable {X : Cx} {x n : Str} {c : Value} {i : Nat} {bd su : List Stmt} {b1 : Stmt} {q1 q2 pos : Pos} {tb : WX → TS} {ts : Addr → TS}
theorem ps_try_keepN (st : X.stack = X.env :: X.outer) (fr : X.env.frame = some X.env.locals) (nd : X.N.Nodup) (at_ : X.N[i]? = some n) (lo : X.env.kindOf n = some .local) (nm : Names X x c)
    (body : ∀ (W : WX) (pn : List (Addr × Obj)) (E' : Value → Shared → Prop), Takes (X.tr pn E') W → PassesOwn (model X.prog X.w) X.A X.env E' → PSs (X.tr pn E') bd (tb W))
    (suite : ∀ (a : Addr) (ob : Obj) (pn : List (Addr × Obj)), PSs (X.suite a ((a, ob) :: pn)) (b1 :: su) (ts a)) :
    PS X (.Try bd [.ExceptHandler (some (.Name x q1)) (some n) (b1 :: su) q2] [] [] pos) (fun D τ G => tb (wKeepN X.K c i ts D) D τ G) := by
  constructor
  intro pins s τ G D I wish
  have ok := I.ok
  have frames : X.A.frames = some (X.env :: X.outer) := by
    rw [ok.frames, st]
  apply wpAny_Try_except
  have run := (body (wKeepN X.K c i ts D) (X.pn ++ pins) (fun e s₁ => wpAny (model X.prog X.w) X.A (noteFrame e X.env) (fun _ s₂ => wpAny (model X.prog X.w) X.A (setFlight e none)
    (fun _ s₃ => wpAny (model X.prog X.w) X.A (handleBy e X.env [.ExceptHandler (some (.Name x q1)) (some n) (b1 :: su) q2]) (SP X pins D) X.xe s₃) X.xe s₂) X.xe s₁) ?tk PassesOwn.looking).run [] s τ G D (I.toTry _) wish
  case tk =>
    rintro u s' ⟨a, B, sI, pins', τ', G', cls, d, rfl, J', nb, up, sky, na, os, ag, C, rfl, rfl, yes, go⟩
    have J : Inv X pins τ' G' sI := J'.ofTry ok
    have sky2 : L2.Sky B (X.env :: X.outer) a (Zc (.ref C) none) X.env.locals s'.heap := st ▸ sky
    have bn := Sky_none sky2
    show wpAny _ X.A (noteFrame (.ref a) X.env) _ _ _
    refine L2.Sky.land Zc.steady frames fr sky2 fun g3 f3 u3 => ?_
    obtain ⟨o3, v3, e3, z3, d3⟩ := f3.there
    have off : ∀ {g : Heap} {o : Obj} {vs : Array Value}, g.FunFrames B (X.env :: X.outer) → g.get? a = some o → o.data = .fields vs → a ∉ frs (X.env :: X.outer) := by
      intro g o vs ff e dt m
      obtain ⟨_, o', e', no⟩ := ff.mem m
      rw [e] at e'
      cases e'
      exact no _ dt
    have out := off f3.2.2.1 e3 d3
    have notL : a ≠ X.env.locals := by
      intro z
      refine out (List.mem_filterMap.mpr ⟨X.env, List.mem_cons_self .., ?_⟩)
      rw [fr, z]
    have notF : a ∉ X.fs := by
      intro m
      obtain ⟨e, me, q⟩ := List.mem_filterMap.mp m
      exact out (List.mem_filterMap.mpr ⟨e, List.mem_cons_of_mem _ me, q⟩)
    -- the exception is new: it was not there when it was made
    have young : sI.heap.get? a = none := by
      cases e : sI.heap.get? a with
      | none => rfl
      | some o =>
        have := nb a o e (by rw [st]; exact out)
        rw [bn] at this
        cases this
    have new : a ∉ X.ex → X.s_0.heap.get? a = none := by
      intro nx
      cases e : X.s_0.heap.get? a with
      | none => rfl
      | some o =>
        obtain ⟨o', e'⟩ := J.base.there a o e nx
        rw [young] at e'
        cases e'
    have apart : ∀ p ∈ X.pn ++ pins, p.1 ≠ a := by
      intro p hp z
      have := (J.pin p hp).1
      rw [z, young] at this
      cases this
    have J3 : Inv X pins τ' G' { s' with heap := g3 } := J.landed nb f3.1 (up.trans u3) os ag
    have S3 := J3.suite e3 d3 na notL notF
    refine wpAny_handleBy_cons (codeAny_handlers_test ?_) (fun q => by cases q)
    have ty : PySem.W.Looks (model X.prog X.w) g3 (typeOf (.ref a)) (.ref C) := fun A Q E s k q => wpAny_typeOf_ref (k _ _ e3) (by
      rw [z3.1]
      exact q)
    have mt := PySem.W.exm_one (M := model X.prog X.w) J3.kIn ty yes
    have load : ∀ {Q : Value → Shared → Prop} {E : Value → Shared → Prop}, Q c { s' with heap := g3 } → wpAny (model X.prog X.w) (X.A.mark (some (.ref a))) (eval (.Name x q1) X.env) Q E { s' with heap := g3 } := by
      intro Q E q
      obtain ⟨gl, dbg, m | ⟨m, v, nn⟩⟩ := nm
      · exact ld_glob (X := X.suite a ((a, o3) :: (X.pn ++ pins))) S3 gl m q dbg
      · exact ld_blt (X := X.suite a ((a, o3) :: (X.pn ++ pins))) S3 gl m v q nn dbg
    refine load (mt.here (codeAny_handlers_suite_as ?_))
    refine HandSPX.lands_againZ f3 fun g4 f4 u4 => ?_
    obtain ⟨o4, v4, e4, z4, d4⟩ := f4.there
    have J4 : Inv X pins τ' G' { s' with heap := g4 } := J.landed nb f4.1 ((up.trans u3).trans u4) os ag
    have S4 := J4.suite e4 d4 na notL notF
    refine store_ok (X := X.suite a ((a, o4) :: (X.pn ++ pins))) (v := .ref a) S4 nd at_ (.inl lo) rfl (fun s5 S5 => ?_) (.inr lo)
    refine wpAny_mono ((suite a o4 (X.pn ++ pins)).run [] s5 _ G' _ S5 (go a na)) (fun f s6 sp => ?_) (fun _ _ z => z.elim)
    cases f with
    | next =>
      obtain ⟨τ6, G6, S6, q6⟩ := sp
      refine gone_ok (outOf S6 ok) nd at_ lo fun s7 J7 => ?_
      exact ⟨_, _, adoptN J7 z4 d4 new apart, q6 (S6.pin (a, o4) (by show _ ∈ ((a, o4) :: (X.pn ++ pins)) ++ []; simp)).2.1⟩
    | brk =>
      obtain ⟨_, _, _, z⟩ := sp
      exact z.elim
    | cont =>
      obtain ⟨_, _, _, z⟩ := sp
      exact z.elim
    | ret u =>
      obtain ⟨_, _, _, _, _, z⟩ := sp
      exact z.elim
  refine wpAny_mono run (fun f s1 sp => ?_) (fun _ _ z => z)
  cases f with
  | next =>
    obtain ⟨τ', G', J', q⟩ := sp
    exact wpAny_execs_nil ⟨τ', G', J'.ofTry ok, q⟩
  | brk =>
    obtain ⟨τ', G', J', q⟩ := sp
    exact ⟨τ', G', J'.ofTry ok, q⟩
  | cont =>
    obtain ⟨τ', G', J', q⟩ := sp
    exact ⟨τ', G', J'.ofTry ok, q⟩
  | ret u =>
    obtain ⟨v, τ', G', J', r, q⟩ := sp
    exact ⟨v, τ', G', J'.ofTry ok, r, q⟩
end

section
variable {X : Cx} {C : Addr} {bmB : List Value} {B newId initId : String}
/-- x(), x an own class of errors without own __init__ -/
theorem pmk_own0 {x : Str} {p pos : Pos} (F : ExcBaseFacts B newId initId bmB) (q : PySem.W.excIn X.K C bmB newId = true) (gC : X.mg x = some (.ref C)) (kC : PySem.W.keepIn X.K (.ref C) = true) (r : Raises X (.ref C)) (hg : Gl X x)
    (hdb : (x == ("__debug__" : Str)) = false := by decide) : PMk X (.Call (.Name x p) [] [] pos) (fun _ H Q => Q (.ref C) none H) := by
  intro pins s σ H Q I h
  refine wpAny_Call_Name_kw (ld_glob I hg gC ?_ hdb)
  refine PySem.W.callWith_K0 I.kIn kC ?_
  show wpAny _ _ (call (.ref C) []) _ _ _
  obtain ⟨bm, N, nm, qn, bs, hdct, sn, sub, ab, col, dd, k0, k1, k2, k3, k5, mN, hC, hN, hni, T⟩ := exc_obj I.kIn q
  refine wpAny_call_exc_subT F T hC hN hni (fun h' e hm => ?_) (by show 0 ≤ sizeLine; exact Nat.zero_le _)
  exact mk_of I hm r h (I.hok.gone hm.new)
end
/-- what is told of a class of errors without fields -/
structure Err0 (K : PySem.W.Frag) (mg : Str → Option Value) (x : Str) (Ce : Addr) : Prop where
  ex : PySem.W.excIn K Ce [.type "ValueError", .type "Exception", .type "BaseException", .type "object"] "ValueError.__new__" = true
  gC : mg x = some (.ref Ce)
  kC : PySem.W.keepIn K (.ref Ce) = true
  su : PySem.W.subIn K (.ref Ce) (.type "BaseException") = some true
  ty : PySem.W.typeIn K (.ref Ce) = some (.type "type")
  te : PySem.W.exmOne K (.ref Ce) (.ref Ce) = some true
  xi : XiC K Ce
section
variable (K : PySem.W.Frag) (C Ce : Addr)
def spR0 (r : List PV → List PV → Option (List PV × List PV)) : Sp := fun vs H _ E => ∃ W S xs ys S', H = W.H ∧ Inv1 K C W S ∧ RepAll K C W.F W.θ vs xs ∧ r xs S = some (ys, S') ∧ ∀ W', Gro W W' → Inv1 K C W' S' → E (.ref Ce) none W'.H
def tM0 (m : MR) (Wi : WX) : TS := fun _ σ H => ∃ W0 W ρ S ys S', H = W.H ∧ Rel K C W0 W σ ρ S ∧ m ρ S = some (ys, S') ∧ ∀ W', Gro W W' → Rel K C W0 W' σ ρ S' → Wi (.ref Ce) none σ W'.H
def tE0 (m : MR) (Wi : WX) : TE := fun σ H _ => tM0 K C Ce m Wi { nx := fun _ _ => True, rt := fun _ _ => True } σ H
end
section
variable {X : Cx} {C Ce : Addr} {m r : MR} {Wi : WX}
theorem rhead0 {st : Stmt} {rest : List Stmt} (h : PS X st (tM0 X.K C Ce m Wi)) : PSs X (st :: rest) (tM0 X.K C Ce m Wi) := PSs.weak (pss_cons h pss_dead) fun D σ H q => q
theorem rnone0 : PSs X [] (tM0 X.K C Ce (fun _ _ => none) Wi) := PSs.weak pss_dead fun D σ H ⟨_, _, _, _, _, _, _, _, e, _⟩ => by cases e
theorem rif0 {c : Expr} {a b : List Stmt} {pos : Pos} {mt : MT} {ma mb : MR} (hc : PT X c (tMT X.K C mt)) (ha : PSs X a (tM0 X.K C Ce ma Wi)) (hb : PSs X b (tM0 X.K C Ce mb Wi)) : PS X (.If c a b pos) (tM0 X.K C Ce (mRIf mt ma mb) Wi) :=
  PS.weak (ps_if hc ha hb) fun D σ H ⟨W0, W, ρ, S, ys, S', eH, R, em, q⟩ => by
  subst eH
  unfold mRIf at em
  split at em
  · rename_i S1 e1
    exact ⟨W0, W, ρ, S, true, S1, rfl, R, e1, fun W1 R1 g1 => by refine iteT ?_; exact ⟨W0, W1, ρ, S1, ys, S', rfl, R1, em, fun W2 g2 r2 => q W2 (g1.trans g2) r2⟩⟩
  · rename_i S1 e1
    exact ⟨W0, W, ρ, S, false, S1, rfl, R, e1, fun W1 R1 g1 => by refine iteF ?_; exact ⟨W0, W1, ρ, S1, ys, S', rfl, R1, em, fun W2 g2 r2 => q W2 (g1.trans g2) r2⟩⟩
  · cases em
theorem rcall0 {r : List PV → List PV → Option (List PV × List PV)} {e : Expr} {mes : MA} (h : PE X e (tCallS (spR0 X.K C Ce r) (WE Wi) (tMA X.K C mes))) : PE X e (tE0 X.K C Ce (mRCall r mes) Wi) :=
  PE.weak h fun σ H Q ⟨W0, W, ρ, S, ys, S', eH, R, em, q⟩ => by
  subst eH
  unfold mRCall at em
  split at em
  · rename_i xs S1 e1
    exact ⟨W0, W, ρ, S, xs, S1, rfl, R, e1, fun vs W1 R1 g1 r1 => ⟨W1, S1, xs, ys, S', rfl, R1.i, r1, em, fun W2 g2 i2 => q W2 (g1.trans g2) (R1.ext g2 i2)⟩⟩
  · cases em
theorem rexpr0 {e : Expr} {pos : Pos} (h : PE X e (tE0 X.K C Ce m Wi)) (hs : swapsWith e none pos.line X.env = pure false := by rfl) : PS X (.Expr e pos) (tM0 X.K C Ce m Wi) := PS.weak (ps_expr h hs) fun D σ H q => q
theorem rret0 {e : Expr} {pos : Pos} (h : PE X e (tE0 X.K C Ce m Wi)) : PS X (.Return (some e) pos) (tM0 X.K C Ce m Wi) := PS.weak (ps_ret h) fun D σ H q => q
theorem rasg0 {st : Stmt} {g : TG} (h : PS X st (tAsg (tE0 X.K C Ce m Wi) g)) : PS X st (tM0 X.K C Ce m Wi) := PS.weak h fun D σ H q => q
/-- a block of a def that raises: what it ends with asks nothing of the slots -/
def tM1 (K : PySem.W.Frag) (C Ce : Addr) (m : MR) (E : Value → Option Addr → Hp → Prop) : TS := fun _ σ H => ∃ W0 W ρ S ys S', H = W.H ∧ Rel K C W0 W σ ρ S ∧ m ρ S = some (ys, S') ∧ ∀ W', Gro W0 W' → Inv1 K C W' S' → E (.ref Ce) none W'.H
theorem rlast1 {rest : List Stmt} {E : Value → Option Addr → Hp → Prop} (h : PSs X rest (tM0 X.K C Ce r (fun c d _ H => E c d H))) : PSs X rest (tM1 X.K C Ce r E) :=
  PSs.weak h fun D σ H ⟨W0, W, ρ, S, ys, S', eH, R, em, q⟩ => ⟨W0, W, ρ, S, ys, S', eH, R, em, fun W' g R' => q W' R'.e R'.i⟩
theorem rseq1 {st : Stmt} {rest : List Stmt} {ms : MS} {E : Value → Option Addr → Hp → Prop} (h1 : PS X st (tMS X.K C ms)) (h2 : PSs X rest (tM1 X.K C Ce r E)) : PSs X (st :: rest) (tM1 X.K C Ce (mRSeq ms r) E) :=
  PSs.weak (pss_cons h1 h2) fun D σ H ⟨W0, W, ρ, S, ys, S', eH, R, em, q⟩ => by
  subst eH
  unfold mRSeq at em
  split at em
  · rename_i ρ1 S1 e1
    exact ⟨W0, W, ρ, S, _, rfl, R, e1, fun σ1 W1 g1 R1 => ⟨W0, W1, ρ1, S1, ys, S', rfl, R1, em, q⟩⟩
  · cases em
/-- raise x() -/
def mRz0 : MR := fun _ S => some ([], S)
theorem xrai0 {x : Str} {p pos pos2 : Pos} (T : Err0 X.K X.mg x Ce) (hc : X.calm = true) (tk : Takes X Wi) (hg : Gl X x) (hdb : (x == ("__debug__" : Str)) = false := by decide) : PS X (.Raise (some (.Call (.Name x p) [] [] pos)) none pos2) (tM0 X.K C Ce mRz0 Wi) :=
  PS.weak (ps_raise hc tk (pmk_own0 PySem.F.excBase_ValueError T.ex T.gC T.kC (raises_own T.su T.ty) hg hdb)) fun D σ H ⟨W0, W, ρ, S, ys, S', eH, R, em, q⟩ => by
  subst eH
  cases em
  exact q W (Gro.refl _) R
end
section
variable {X : Cx} {C Ce : Addr} {m : MR} {Wi : WX}
/-- isinstance(x, D): x a kept error without fields -/
def rIsN0 (K : PySem.W.Frag) : List V → Hp → VK → Prop := fun xs H Q => ∃ (a C : Addr) (D : V) (u : Value) (b : Bool), xs = [.ref a, D] ∧ ClsV D u ∧ H a = some (ExN C a) ∧ XiC K C ∧ PySem.W.kitOne K (.ref C) u = some b ∧ Q (.bl b) H
theorem call_isN0 : CallR X (.builtin "isinstance") (rIsN0 X.K) := by
  intro pins s σ H xs us Q I r h
  obtain ⟨a, C, D, w, b, rfl, k, ea, T, yes, q⟩ := h
  obtain ⟨u1, u2, rfl, r1, r2⟩ := vals2 r
  obtain rfl : u1 = Value.ref a := r1
  obtain rfl := k.eq r2
  obtain ⟨ob, fl, ha, hz, dt⟩ := exn_at I.hok ea
  have J : PySem.W.InstAt s.heap a ob C none := ⟨ha, hz.1, by unfold PySem.W.notCls; rw [dt] <;> rfl, by rw [hz.2]; trivial⟩
  exact PySem.W.kia_one (PySem.W.kitx_exc T.cl T.ga T.gg T.ex T.ca T.sp T.tk T.ob) I.kIn J yes (fun z => by cases z) fun tk => ⟨.bl b, H, I.tok tk, rfl, q⟩
theorem pe_dead {e : Expr} : PE X e (fun _ _ _ => False) := ⟨fun _ _ _ _ _ _ h => h.elim⟩
/-- what stands behind the try, when the error was caught -/
theorem tail0 {c ei ea eb : Expr} {b1 : List Stmt} {p1 p2 p3 : Pos} {j : Nat} {v : V} (hc : PT X c (tTest (tOp (fun x y H Q => y = .non ∧ Q (.bl (decide (x = .non))) H) (tVar j) (tC .non)))) (hi : PT X ei (tB (tCB (rIsN0 X.K) (tCons (tVar j) (tCons (tC (.ty "ValueError")) tNil))))) (h1 : PE X ea (tC v)) :
    PSs X [.If c b1 [] p1, .Return (some (.IfExp ei ea eb p2)) p3] (fun D σ H => ∃ a, σ[j]? = some (some (.ref a)) ∧ H a = some (ExN Ce a) ∧ XiC X.K Ce ∧ PySem.W.kitOne X.K (.ref Ce) (.type "ValueError") = some true ∧ D.rt v H) :=
  PSs.weak (pss_cons (ps_if hc pss_dead pss_nil) (pss_one (ps_ret (pe_ifExp hi h1 pe_dead)))) fun D σ H ⟨a, es, eh, xi, ki, q⟩ => by
  refine ⟨.ref a, es, ?_⟩
  refine ⟨rfl, false, congrArg V.bl (decide_eq_false (fun z => by cases z)), ?_⟩
  refine iteF ?_
  refine ⟨.ref a, es, ?_⟩
  refine ⟨a, Ce, .ty "ValueError", _, true, rfl, .ty _, eh, xi, ki, true, rfl, ?_⟩
  exact iteT q
/-- try: a block that raises or not; except x as n: y = n; then what is told of it -/
def mSaid (i j : Nat) (v : PV) (m : MR) (ms rest : MS) : MS := fun ρ S => match m ρ S with
  | some (_, S1) => if i < ρ.length ∧ j < ρ.length then some (.rt v S1) else none
  | none => mSeq ms rest ρ S
theorem xsaid {x n y : Str} {i j : Nat} {bd tl : List Stmt} {ms rest : MS} {v : V} {pv : PV} {q1 q2 q3 q4 q5 pos : Pos} (T : Err0 X.K X.mg x Ce) (ij : i ≠ j) (pvr : ∀ W : Wd, RepW X.K C W v pv)
    (st : X.stack = X.env :: X.outer) (fr : X.env.frame = some X.env.locals) (nd : X.N.Nodup) (at_ : X.N[i]? = some n) (lo : X.env.kindOf n = some .local) (gl : Gl X x) (dbg : (x == ("__debug__" : Str)) = false)
    (body : ∀ (W : WX) (pn : List (Addr × Obj)) (E' : Value → Shared → Prop), Takes (X.tr pn E') W → PassesOwn (model X.prog X.w) X.A X.env E' → PSs (X.tr pn E') bd (tM0 X.K C Ce m W))
    (bodyN : ∀ (pn : List (Addr × Obj)) (E' : Value → Shared → Prop), PassesOwn (model X.prog X.w) X.A X.env E' → PSs (X.tr pn E') bd (tMS X.K C ms))
    (asg : ∀ (a : Addr) (ob : Obj) (pn : List (Addr × Obj)), PS (X.suite a ((a, ob) :: pn)) (.Assign [.Name y q3] (.Name n q4) q5) (tAsg (tVar i) (gName j)))
    (rs : PSs X tl (tMS X.K C rest))
    (tail : PSs X tl (fun D σ H => ∃ a, σ[j]? = some (some (.ref a)) ∧ H a = some (ExN Ce a) ∧ XiC X.K Ce ∧ PySem.W.kitOne X.K (.ref Ce) (.type "ValueError") = some true ∧ D.rt v H))
    (ki : PySem.W.kitOne X.K (.ref Ce) (.type "ValueError") = some true) :
    PSs X (.Try bd [.ExceptHandler (some (.Name x q1)) (some n) [.Assign [.Name y q3] (.Name n q4) q5] q2] [] [] pos :: tl) (tMS X.K C (mSaid i j pv m ms rest)) :=
  PSs.weak (pss_cons (ps_try_keepN (c := .ref Ce) (tb := fun W D σ H => tM0 X.K C Ce m W D σ H ∨ tMS X.K C ms D σ H) (ts := fun _ => tAsg (tVar i) (gName j)) st fr nd at_ lo ⟨gl, dbg, .inl T.gC⟩
    (fun W pn E' tk po => pss_or (body W pn E' tk po) (bodyN pn E' po)) (fun a ob pn => pss_one (asg a ob pn))) (pss_or tail rs)) fun D σ H ⟨W0, W, ρ, S, out, eH, R, em, q⟩ => by
  subst eH
  unfold mSaid at em
  split at em
  · rename_i ys S1 e1
    split at em
    · rename_i hl
      cases em
      refine .inl ⟨W0, W, ρ, S, ys, S1, rfl, R, e1, fun W1 g1 R1 => ⟨Ce, rfl, rfl, T.te, fun a na => ?_⟩⟩
      have l1 : i < σ.length := by rw [R.l]; exact hl.1
      have l2 : j < σ.length := by rw [R.l]; exact hl.2
      refine ⟨.ref a, by rw [List.getElem?_set_self l1], ?_⟩
      show W1.H a = none → _
      intro na
      refine .inl ⟨a, ?_, upd_same, T.xi, ki, ?_⟩
      · rw [List.getElem?_set_ne ij, List.getElem?_set_self (by rw [List.length_set]; exact l2)]
      · obtain ⟨g2, i2⟩ := laidH (ExN Ce a) R1.i na
        exact q v ⟨W1.F, upd W1.H a (ExN Ce a), W1.θ⟩ (R1.e.trans g2) i2 (pvr _)
    · cases em
  · rename_i e1
    refine .inr ?_
    unfold mSeq at em
    split at em
    · rename_i ρ1 S1 e1
      refine ⟨W0, W, ρ, S, _, rfl, R, e1, fun σ' W' g R' => .inr ⟨W0, W', ρ1, S1, out, rfl, R', em, q.gro g⟩⟩
    · rename_i o hn
      refine ⟨W0, W, ρ, S, out, rfl, R, em, ?_⟩
      cases out with
      | nx ρ1 S1 => exact (hn ρ1 S1 em).elim
      | rt x S1 => exact q
      | bk ρ1 S1 => exact q
      | ct ρ1 S1 => exact q
end
theorem okR0 {P : Program} {w : World} {K : PySem.W.Frag} {mg : Str → Option Value} {base : Heap} {C Ce : Addr} {x qual : Str} {st : Stmt} {f : Addr} {fd : FuncData} {N ps : List Str} {k : Nat} {m : MR} (F : Fun K x qual st f fd) (Sc : FnScope N ps (defScope st))
    (hb : ∀ (cdv : Value) (A : Around) (outer : List Env) (s : Shared) (H : Hp) (E : XK), Room k (A.deeper (envOfC qual (defScope st) s.heap.objs.size f cdv)) → PSs (cxOf (L2.CX P w) P w K mg base N qual (defScope st) f cdv A outer s H E) (defBody st) (tM1 K C Ce m E)) :
    FnOk P w K mg base (L2.CX P w) (k + 1) f fd ps (spR0 K C Ce (mDefR ps.length N.length m)) := by
  refine F.okX Sc (fun vs H Q E h => ?_) (fun cdv A outer s H vs Q E hr h => ?_)
  · obtain ⟨W, S, xs, ys, S', eH, i, r, em, q⟩ := h
    unfold mDefR at em
    split at em
    · rename_i hl
      rw [r.len, hl]
    · cases em
  · refine ⟨_, hb cdv A outer s H E hr, ?_⟩
    obtain ⟨W, S, xs, ys, S', eH, i, r, em, q⟩ := h
    subst eH
    unfold mDefR at em
    split at em
    · rename_i hl
      exact ⟨W, W, _, S, ys, S', rfl, rel_start i r hl, em, q⟩
    · cases em
end BL

namespace L2
open PySem PySem.Spec PyProof.Rows
section
variable {P : Program} {w : World} {K : PySem.W.Frag} {mg : Str → Option Value} {base : Heap} {x qual : Str} {st : Stmt} {dvs : List V} {kws : List (Str × V)} {f : Addr} {fd : FuncData}
theorem FunD.ok0 {N ps : List Str} {k : Nat} {sp : Sp} (F : FunD K x qual (defArgs st) (defBody st) (defScope st) dvs kws f fd) (S : FnScope N ps (defScope st)) (len : ∀ vs H Q E, sp vs H Q E → vs.length = ps.length)
    (hbody : ∀ (cdv : Value) (A : Around) (outer : List Env) (s : Shared) (H : Hp) (vs : List V) (Q : VK) (E : XK), Room k (A.deeper (envOfC qual (defScope st) s.heap.objs.size f cdv)) → sp vs H Q E →
      ∃ t, PSs (cxOf CX0 P w K mg base N qual (defScope st) f cdv A outer s H E).nox (defBody st) t ∧ t { nx := fun _ H' => Q .non H', rt := Q } (start N vs) H) : FnOk P w K mg base CX0 (k + 1) f fd ps sp :=
  F.ok S len fun cdv A outer s H vs Q E hr h => by
    obtain ⟨t, a, b⟩ := hbody cdv A outer s H vs Q E hr h
    exact ⟨t, a.nox, b⟩
/-- all by keywords -/
theorem FunD.kbn0 {params : Arguments} {body : List Stmt} {scope : Scope} {ps ks : List Str} {g : List Value → List Value → List Value} {gV : List V → List V → List V} (F : FunD K x qual params body scope dvs [] f fd) (hd : dvs ≠ [])
    (h : ∀ (T : Addr) (kV doc pm : Value) (an : Option Addr) (cdv ct : Value) (us ws its : List Value), us.length = 0 → ws.length = ks.length → its.length = dvs.length →
      ∃ k, bindArgs (PySem.W.fnOf x qual params body scope (.ref T) kV doc pm an cdv ct) ⟨us, ks.zip ws⟩ = seqItems? (.ref T) >>= k ∧ k (some its.toArray) = pure (ps.zip (g us ws)))
    (rel : ∀ {vs : List V} {us : List Value} {zs : List V} {ws : List Value}, Vals vs us → Vals zs ws → Vals (gV vs zs) (g us ws)) : KBn K fd ps 0 ks g gV := by
  obtain ⟨oc, od, dV, kV, doc, pm, an, cdv, ct, osl, rfl, lk, hcd, hD, hK⟩ := F.ex
  rcases hD with ⟨e, _⟩ | ⟨_, T, o, its, m, rfl, lT, oT, rT⟩
  · exact absurd e hd
  · refine ⟨fun s us ws X l1 l2 => ?_, rel⟩
    obtain ⟨k, e1, e2⟩ := h T kV doc pm an cdv ct us ws its l1 l2 rT.length.symm
    refine BindsTo.of_looks fun M => ?_
    rw [e1]
    exact looks_items X lT oT (.of_pure e2)
theorem binds_nil {ps : List Str} {ds : List Value} (v : Vals [] ds) (b : Binds K fd ps ds) : Binds K fd ps [] := by
  cases v
  exact b
end
end L2
namespace BL
open PySem PySem.Spec PyProof.Rows L2
/-! defs with defaults -/
theorem okMD {P : Program} {w : World} {K : PySem.W.Frag} {mg : Str → Option Value} {base : Heap} {C : Addr} {x qual : Str} {st : Stmt} {dvs : List V} {f : Addr} {fd : FuncData} {N ps : List Str} {k : Nat} {m : MS} (F : FunD K x qual (defArgs st) (defBody st) (defScope st) dvs [] f fd) (Sc : FnScope N ps (defScope st))
    (hb : ∀ (cdv : Value) (A : Around) (outer : List Env) (s : Shared) (H : Hp) (E : XK), Room k (A.deeper (envOfC qual (defScope st) s.heap.objs.size f cdv)) → PSs (cxOf CX0 P w K mg base N qual (defScope st) f cdv A outer s H E).nox (defBody st) (tMS K C m)) :
    FnOk P w K mg base CX0 (k + 1) f fd ps (spM K C (mDef ps.length N.length m)) := by
  refine F.ok0 Sc (fun vs H Q E h => ?_) (fun cdv A outer s H vs Q E hr h => ?_)
  · obtain ⟨W, S, xs, x, S', eH, i, r, em, q⟩ := h
    unfold mDef at em
    split at em
    · rename_i hl
      rw [r.len, hl]
    · cases em
  · refine ⟨_, hb cdv A outer s H E hr, ?_⟩
    obtain ⟨W, S, xs, x, S', eH, i, r, em, q⟩ := h
    subst eH
    unfold mDef at em
    split at em
    · rename_i hl
      have hl2 : vs.length = ps.length := by rw [r.len, hl]
      have R : Rel K C W W (L2.start N vs) (xs.map .val ++ List.replicate (N.length - ps.length) .un) S := by
        refine ⟨Gro.refl _, i, ?_, fun j sl hj => ?_, fun j k y z a h1 _ _ _ => ?_⟩
        · unfold L2.start
          rw [List.length_append, List.length_append, List.length_map, List.length_map, List.length_replicate, List.length_replicate, r.len, hl]
        · by_cases c : j < xs.length
          · rw [List.getElem?_append_left (by rw [List.length_map]; exact c), List.getElem?_map, List.getElem?_eq_getElem c] at hj
            cases hj
            obtain ⟨v, ev, rv⟩ := r.at (List.getElem?_eq_getElem c)
            refine ⟨v, ?_, rv⟩
            unfold L2.start
            rw [List.getElem?_append_left (by rw [List.length_map, r.len]; exact c), List.getElem?_map, ev]
            rfl
          · rw [List.getElem?_append_right (by rw [List.length_map]; omega), List.getElem?_replicate] at hj
            split at hj
            · cases hj
              trivial
            · cases hj
        · by_cases c : j < xs.length
          · rw [List.getElem?_append_left (by rw [List.length_map]; exact c), List.getElem?_map, List.getElem?_eq_getElem c] at h1
            cases h1
          · rw [List.getElem?_append_right (by rw [List.length_map]; omega), List.getElem?_replicate] at h1
            split at h1
            · cases h1
            · cases h1
      split at em
      · rename_i y S1 e1
        cases em
        exact ⟨W, W, _, S, _, rfl, R, e1, fun v W' g i r => q v W' g i r⟩
      · rename_i ρ1 S1 e1
        cases em
        exact ⟨W, W, _, S, _, rfl, R, e1, fun σ W' g R' => q _ W' R'.e R'.i .non⟩
      · cases em
    · cases em
theorem okRD {P : Program} {w : World} {K : PySem.W.Frag} {mg : Str → Option Value} {base : Heap} {C Ce : Addr} {fs : List Str} {x qual : Str} {st : Stmt} {dvs : List V} {f : Addr} {fd : FuncData} {N ps : List Str} {k : Nat} {m : MR} (F : FunD K x qual (defArgs st) (defBody st) (defScope st) dvs [] f fd) (Sc : FnScope N ps (defScope st))
    (hb : ∀ (cdv : Value) (A : Around) (outer : List Env) (s : Shared) (H : Hp) (E : XK), Room k (A.deeper (envOfC qual (defScope st) s.heap.objs.size f cdv)) → PSs (cxOf (L2.CX P w) P w K mg base N qual (defScope st) f cdv A outer s H E) (defBody st) (tMR K C Ce fs m (fun cls d _ H => E cls d H))) :
    FnOk P w K mg base (L2.CX P w) (k + 1) f fd ps (spR K C Ce fs (mDefR ps.length N.length m)) := by
  refine F.ok Sc (fun vs H Q E h => ?_) (fun cdv A outer s H vs Q E hr h => ?_)
  · obtain ⟨W, S, xs, ys, S', eH, i, r, em, q⟩ := h
    unfold mDefR at em
    split at em
    · rename_i hl
      rw [r.len, hl]
    · cases em
  · refine ⟨_, hb cdv A outer s H E hr, ?_⟩
    obtain ⟨W, S, xs, ys, S', eH, i, r, em, q⟩ := h
    subst eH
    unfold mDefR at em
    split at em
    · rename_i hl
      exact ⟨W, W, _, S, ys, S', rfl, rel_start i r hl, em, fun us d W' g R' ru l n e => q us d W' R'.e R'.i ru l n e⟩
    · cases em
def mCallD (f : List PV → List PV → Option (PV × List PV)) (i : Int) (mes : MA) : ME := fun ρ S => match mes ρ S with
  | some (xs, S1) => f (xs ++ [.int i]) S1
  | none => none
theorem xcallD {X : Cx} {C : Addr} {e : Expr} {mes : MA} {f : List PV → List PV → Option (PV × List PV)} {i : Int} {E : XK} (h : PE X e (tCall (spM X.K C f) [.int i] E (tMA X.K C mes))) : PE X e (tM X.K C (mCallD f i mes)) := PE.weak h fun σ H Q ⟨W0, W, ρ, S, z, S', eH, R, em, q⟩ => by
  subst eH
  unfold mCallD at em
  split at em
  · rename_i xs S1 e1
    exact ⟨W0, W, ρ, S, xs, S1, rfl, R, e1, fun vs W1 R1 g1 r1 => ⟨W1, S1, xs ++ [.int i], z, S', rfl, R1.i, r1.app (.cons (.int i) .nil), em, fun v W2 g2 i2 r2 => q v W2 (R1.ext g2 i2) (g1.trans g2) r2⟩⟩
  · cases em
@[simp] theorem e_callD {ρ : List SlV} {S : List PV} {f : List PV → List PV → Option (PV × List PV)} {i : Int} {mes : MA} : mCallD f i mes ρ S = match mes ρ S with
  | some (xs, S1) => f (xs ++ [.int i]) S1
  | none => none := rfl
end BL

namespace L2
open PySem PySem.Spec PyProof.Rows
section
variable {K : PySem.W.Frag} {x qual : Str} {dvs : List V} {f : Addr} {fd : FuncData}
/-- positional values and keywords, the rest by the defaults -/
theorem FunD.kbnD {params : Arguments} {body : List Stmt} {scope : Scope} {ps ks : List Str} {n : Nat} {g : {α : Type} → List α → List α → List α → List α} (F : FunD K x qual params body scope dvs [] f fd) (hd : dvs ≠ [])
    (h : ∀ (T : Addr) (kV doc pm : Value) (an : Option Addr) (cdv ct : Value) (us ws its : List Value), us.length = n → ws.length = ks.length → its.length = dvs.length →
      ∃ k, bindArgs (PySem.W.fnOf x qual params body scope (.ref T) kV doc pm an cdv ct) ⟨us, ks.zip ws⟩ = seqItems? (.ref T) >>= k ∧ k (some its.toArray) = pure (ps.zip (g us its ws)))
    (rel : ∀ {vs ds zs : List V} {us its ws : List Value}, Vals vs us → Vals ds its → Vals zs ws → Vals (g vs ds zs) (g us its ws)) : ∃ its : List Value, KBn K fd ps n ks (fun us ws => g us its ws) (fun vs zs => g vs dvs zs) := by
  obtain ⟨oc, od, dV, kV, doc, pm, an, cdv, ct, osl, rfl, lk, hcd, hD, hK⟩ := F.ex
  rcases hD with ⟨e, _⟩ | ⟨_, T, o, its, m, rfl, lT, oT, rT⟩
  · exact absurd e hd
  · refine ⟨its, ⟨fun s us ws X l1 l2 => ?_, fun r1 r2 => rel r1 rT r2⟩⟩
    obtain ⟨k, e1, e2⟩ := h T kV doc pm an cdv ct us ws its l1 l2 rT.length.symm
    refine BindsTo.of_looks fun M => ?_
    rw [e1]
    exact looks_items X lT oT (.of_pure e2)
/-- the value at i, as a list -/
def ptL {α : Type} (l : List α) (i : Nat) : List α := (l.drop i).take 1
theorem Vals.pt {vs : List V} {us : List Value} (r : Vals vs us) (i : Nat) : Vals (ptL vs i) (ptL us i) := (r.drop i).take 1
end
end L2
namespace BL
open PySem PySem.Spec PyProof.Rows L2
/-- an own class made by keywords alone -/
structure MakK (P : Program) (w : World) (K : PySem.W.Frag) (mg : Str → Option Value) (base : Heap) (k : Nat) (x : Str) (C : Addr) (ks : List Str) (sp : Sp) (gV : List V → List V → List V) : Prop where
  ex : ∃ (f : Addr) (fd : FuncData) (ps : List Str) (g : List Value → List Value → List Value), Mk K C f ∧ FnOk P w K mg base CX0 k f fd ps sp ∧ mg x = some (.ref C) ∧ KBn K fd ps 1 ks g gV
theorem pe_mkK {X : Cx} {k j : Nat} {C : Addr} {x : Str} {ks : List Str} {sp : Sp} {gV : List V → List V → List V} {kws : List Keyword} {tk : TA} {p pos : Pos} (c : MakK X.prog X.w X.K X.mg X.base k x C ks sp gV) (hr : Room j X.A) (hk : k + 1 ≤ j) (hg : Gl X x) (hkw : PK X kws tk)
    (hall : (backToKw pos (keywordEach kws X.env)).all (·.1.isSome) = true := by rfl) (hks : (backToKw pos (keywordEach kws X.env)).filterMap (·.1) = ks := by rfl) (hdb : (x == ("__debug__" : Str)) = false := by decide)
    (hpl : ((backTo pos (starEach [] X.env)).any (·.1) || (backToKw pos (keywordEach kws X.env)).any (·.1.isNone)) = false := by rfl) : PE X (.Call (.Name x p) [] kws pos) (tMakeK C 0 ks.length sp gV C8.E0 tNil tk) := by
  obtain ⟨f, fd, ps, g, M, F, hm, hb⟩ := c.ex
  exact pe_makeK0 M F (hr.mono hk) hg hm hb pass0 hkw hall hks hdb hpl
/-- where the parameters behind the first come from: the keyword's number, or none -/
def kwP (is : List (Option Nat)) (xs : List PV) : List PV := is.map fun o => match o with
  | some i => xs.getD i .non
  | none => .non
def kwV (is : List (Option Nat)) (zs : List V) : List V := is.map fun o => match o with
  | some i => zs.getD i .non
  | none => .non
theorem kw_rep {K : PySem.W.Frag} {C : Addr} {F : Hp} {θ : List Addr} {vs : List V} {xs : List PV} (r : RepAll K C F θ vs xs) : ∀ (is : List (Option Nat)), (∀ i, some i ∈ is → i < xs.length) → RepAll K C F θ (kwV is vs) (kwP is xs)
  | [], _ => .nil
  | none :: is, h => .cons .non (kw_rep r is fun j hj => h j (List.mem_cons_of_mem _ hj))
  | some i :: is, h => by
    have hi := h i List.mem_cons_self
    obtain ⟨v, ev, rv⟩ := r.at (List.getElem?_eq_getElem hi)
    refine .cons ?_ (kw_rep r is fun j hj => h j (List.mem_cons_of_mem _ hj))
    show Rep K C F θ (vs.getD i .non) (xs.getD i .non)
    rw [List.getD_eq_getElem?_getD, ev, List.getD_eq_getElem?_getD, List.getElem?_eq_getElem hi]
    exact rv
def fWayK (n : Nat) (is : List (Option Nat)) (S xs : List PV) : Option PV := if xs.length = n then fWay S (kwP is xs) else none
section
variable {X : Cx} {C : Addr} {e fe : Expr} {mf : ME} {mes : MA} {pos : Pos}
theorem xwayK {n k : Nat} {is : List (Option Nat)} {gV : List V → List V → List V} (h : PE X e (tMakeK C 0 n (spInitW C) gV C8.E0 tNil (tMA X.K C mes))) (hi : (is.all fun o => match o with | some i => decide (i < k) | none => true) = true := by rfl) (hl : is.length = 3 := by rfl)
    (hg : ∀ v zs, zs.length = k → gV [v] zs = v :: kwV is zs) (hk : n = k := by rfl) : PE X e (tM X.K C (mFn (fWayK k is) mes)) := PE.weak h fun σ H Q ⟨W0, W, ρ, S, z, S', eH, R, em, q⟩ => by
  subst eH
  subst hk
  obtain ⟨xs, e1, e3⟩ := mFn_inv em
  refine ⟨W0, W, ρ, S, xs, S', rfl, R, e1, fun vs W1 R1 g1 r1 => ?_⟩
  unfold fWayK at e3
  split at e3
  · rename_i hx
    have lv : vs.length = n := by rw [r1.len, hx]
    refine ⟨rfl, lv, fun x dx nx ndx nex => ?_⟩
    rw [hg _ _ lv]
    have rr := kw_rep r1 is fun i h => by
      rw [hx]
      exact of_decide_eq_true (List.all_eq_true.mp hi _ h)
    have ly : (kwP is xs).length = 3 := by unfold kwP; rw [List.length_map, hl]
    generalize kwV is vs = us at rr ⊢
    generalize kwP is xs = ys at rr e3 ly
    match ys, ly with
    | [y1, y2, y3], _ =>
      cases rr with
      | cons r rr =>
        cases rr with
        | cons r' rr =>
          cases rr with
          | cons r'' rr =>
            cases rr
            change way3 y1 y2 y3 = some z at e3
            unfold way3 at e3
            split at e3
            · rename_i s f c h1 h2 h3
              split at e3
              · rename_i ok
                cases e3
                refine ⟨x, dx, s, f, c, by rw [r.oV h1, r'.oV h2, r''.oV h3], upd_same, okWb_ok ok, fun H' hw hk => ⟨rfl, ?_⟩⟩
                obtain ⟨dx', hx⟩ := hw
                have sm : Same W1.H H' := fun p o e => hk p o (by rw [upd_ne (ne_of_none e nx), upd_ne (ne_of_none e ndx)]; exact e) (ne_of_none e nx)
                obtain ⟨g2, i2⟩ := laidS R1.i nx sm hx
                exact q _ _ (R1.ext g2 i2) (g1.trans g2) (.way ⟨dx', upd_same⟩)
              · cases e3
            · cases e3
  · cases e3
end
/-- what a call of an instance by keywords alone is, as callO_of -/
theorem callO_ofK {M : Model} {A : Around} {E : Value → Shared → Prop} {s : Shared} {a : Addr} {pos : Pos} {Q : Value → Shared → Prop} {args : List (Bool × Sem Value)} {kws : List (Option Str × Sem Value)} (hplain : (args.any (·.1) || kws.any (·.1.isNone)) = false)
    (h : wpAny M A (evalArgs (.ref a) true args kws) (fun z s₁ => (∃ C ox od, PySem.W.InstAt s₁.heap a ox C od ∧ ox.data = .plain) ∧ wpAny M A (call (.ref a) ([] ++ z.pos) z.kw) Q E s₁) E s) : wpAny M A (callWith pos (.ref a) [] args kws) Q E s := by
  unfold callWith
  refine wpAny_bind (wpAny_holding (wpAny_mono h (fun z s₁ h₁ => wpAny_bind (wpAny_standAt ?_)) fun _ _ y => y))
  obtain ⟨⟨C, ox, od, J, hd⟩, h₁⟩ := h₁
  have L := PySem.W.kco_keeper (M := M) J hd
  simp only [hplain]
  refine wpAny_bind (L.here ?_)
  have tail : ∀ {t : Sem Value}, wpAny M A t Q E s₁ → wpAny M A (t >>= fun r => holding [r] point >>= fun _ => pure r) Q E s₁ :=
    fun ht => wpAny_bind (wpAny_mono ht (fun r s₂ hr => wpAny_bind (wpAny_holding (wpAny_point (wpAny_pure hr)))) fun _ _ y => y)
  exact tail (wpAny_operateT h₁)
/-- an own method, by keywords alone -/
structure OwnK (P : Program) (w : World) (K : PySem.W.Frag) (mg : Str → Option Value) (base : Heap) (k : Nat) (C : Addr) (nm : Str) (ks : List Str) (sp : Sp) (gV : List V → List V → List V) : Prop where
  ex : ∃ (f : Addr) (fd : FuncData) (ps : List Str) (g : List Value → List Value → List Value), PySem.W.findIn K (.ref C) nm = some (some (.ref f)) ∧ PySem.W.isFn K (.ref f) = true ∧ PySem.W.fnIn K f = true ∧ FnOk P w K mg base CX0 k f fd ps sp ∧ KBn K fd ps 1 ks g gV
def tCalledK (C : Addr) (m : Nat) (sp : Sp) (gV : List V → List V → List V) (tf : TE) (tk : TA) : TE := fun σ H Q => tf σ H fun y H1 => ∃ a, y = V.ref a ∧ tk σ H1 fun zs H2 => zs.length = m ∧ (∃ dx fs, H2 a = some (.ins C dx fs)) ∧ sp (gV [V.ref a] zs) H2 Q C8.E0
section
variable {X : Cx} {C : Addr} {k j : Nat} {ks : List Str} {sp : Sp} {gV : List V → List V → List V} {fe : Expr} {kws : List Keyword} {tf : TE} {tk : TA} {pos : Pos}
theorem pe_calledK (o : OwnK X.prog X.w X.K X.mg X.base k C "__call__" ks sp gV) (hr : Room j X.A) (hj : k ≤ j) (hf : PE X fe tf) (hkw : PK X kws tk)
    (ht : eval (.Call fe [] kws pos) X.env = (do callWith pos (← eval fe X.env) [] (backTo pos (starEach [] X.env)) (backToKw pos (keywordEach kws X.env))) := by rfl)
    (hall : (backToKw pos (keywordEach kws X.env)).all (·.1.isSome) = true := by rfl) (hks : (backToKw pos (keywordEach kws X.env)).filterMap (·.1) = ks := by rfl)
    (hpl : ((backTo pos (starEach [] X.env)).any (·.1) || (backToKw pos (keywordEach kws X.env)).any (·.1.isNone)) = false := by rfl) : PE X (.Call fe [] kws pos) (tCalledK C ks.length sp gV tf tk) := by
  obtain ⟨f, fd, ps, g, hs, hfn, hfi, F, hb⟩ := o.ex
  refine ⟨fun pins s σ H Q I h => ?_⟩
  rw [ht]
  refine wpAny_bind (thn (hf.run pins s σ H _ I h) fun u s1 ⟨y, H1, I1, ry, a, ey, q⟩ => ?_)
  subst ey
  obtain rfl : u = Value.ref a := ry
  refine callO_ofK hpl (PyProof.Rows.evalArgs_kw2_nil hall (thn (hkw.run pos pins s1 σ H1 _ I1 q) fun ws s2 ⟨zs, H2, I2, rz, l2, hi, q2⟩ => ?_))
  obtain ⟨dx, fs, hi⟩ := hi
  obtain ⟨ox, od, J, hd⟩ := StX.insC_at I2 (.inr ⟨dx, fs, hi⟩)
  refine ⟨⟨C, ox, od, J, hd⟩, ?_⟩
  rw [hks]
  have r2 := hb.rel (.cons (show RelV (V.ref a) (Value.ref a) from rfl) .nil) rz
  refine wpAny_call (PySem.W.kco_code I2.kIn J hd hs hfn hfi (codeAny_mono (F.run X.A X.stack s2 H2 ⟨[Value.ref a], ks.zip ws⟩ (g [Value.ref a] ws) (gV [V.ref a] zs) Q C8.E0 (hr.mono hj) I2.env0 (hb.to s2 [Value.ref a] ws I2.kIn rfl (rz.length.symm.trans l2)) r2 q2) fun r s' hq => ?_))
  cases r with
  | error e => exact pass0 pins σ H2 s2 e s' I2 hq
  | ok fl =>
    cases fl with
    | ret u => exact I2.after hq
    | next => exact False.elim hq
    | brk => exact False.elim hq
    | cont => exact False.elim hq
end
/-- way(start = e) -/
def mCalledK (f : List PV → List PV → Option (PV × List PV)) (n : Nat) (is : List Nat) (mf : ME) (mes : MA) : ME := fun ρ S => match mf ρ S with
  | some (.way s g c, S1) => match mes ρ S1 with
    | some (xs, S2) => if xs.length = n then f (.way s g c :: permP is xs) S2 else none
    | none => none
  | _ => none
theorem xcalledK {X : Cx} {C : Addr} {e : Expr} {mf : ME} {mes : MA} {f : List PV → List PV → Option (PV × List PV)} {n k : Nat} {is : List Nat} {gV : List V → List V → List V} (h : PE X e (tCalledK C n (spM X.K C f) gV (tM X.K C mf) (tMA X.K C mes))) (hi : ∀ i ∈ is, i < k := by decide)
    (hg : ∀ v zs, gV [v] zs = v :: is.map fun i => zs.getD i .non := by intro _ _; rfl) (hk : n = k := by rfl) : PE X e (tM X.K C (mCalledK f k is mf mes)) := PE.weak h fun σ H Q ⟨W0, W, ρ, S, z, S', eH, R, em, q⟩ => by
  subst eH
  subst hk
  unfold mCalledK at em
  split at em
  · rename_i s g c S1 e1
    split at em
    · rename_i xs S2 e2
      split at em
      · rename_i hx
        refine ⟨W0, W, ρ, S, _, S1, rfl, R, e1, fun v W1 R1 g1 r1 => ?_⟩
        have r1' := r1
        cases r1 with
        | way h =>
          refine ⟨_, rfl, W0, W1, ρ, S1, xs, S2, rfl, R1, e2, fun vs W2 R2 g2 r2 => ⟨by rw [r2.len, hx], ?_, ?_⟩⟩
          · obtain ⟨dx, hx⟩ := h.same g2.f
            exact ⟨dx, _, R2.i.s _ _ hx⟩
          · rw [hg]
            exact ⟨W2, S2, _, z, S', rfl, R2.i, .cons (r1'.ext g2) (perm_rep r2 is fun i h => by rw [hx]; exact hi i h), em, fun v W3 g3 i3 r3 => q v W3 (R2.ext g3 i3) ((g1.trans g2).trans g3) r3⟩
      · cases em
    · cases em
  · cases em
end BL

namespace L2
open PySem PySem.Spec PyProof.Rows
section
variable {X : Cx} {e : Expr} {es : List Expr} {ta tk : TA} {x : Str} {p pos : Pos} {C fI : Addr} {k : Nat} {fd : FuncData} {ps ks : List Str} {sp : Sp} {CX : CXT} {pm : List Value → List Value} {pmV : List V → List V} {kws : List Keyword}
theorem pe_mkv (T : OexC X.K C) (iC : PySem.W.findIn X.K (.ref C) "__init__" = some (some (.ref fI))) (tI : PySem.W.typeIn X.K (.ref fI) = some (.type "function"))
    (F1 : FnOk X.prog X.w X.K X.mg X.base CX k fI fd ps sp) (hr : Room (k + 1) X.A) (hb : Binds X.K fd ps []) (hx : Passes CX X (fun _ _ _ => False)) (hg : Gl X x) (hm : X.mg x = some (.ref C)) (ha : PA X (e :: es) ta)
    (hdb : (x == ("__debug__" : Str)) = false := by decide) (he : starEach (e :: es) X.env = (false, eval e X.env) :: starEach es X.env := by rfl) (hpl : (backTo pos (starEach es X.env)).any (·.1) = false := by rfl) :
    PE X (.Call (.Name x p) (e :: es) [] pos) (fun σ H Q => ta σ H fun vs H1 => vs.length ≤ 1000 ∧ ∀ a, H1 a = none → sp (.ref a :: vs) (upd H1 a (exo a C none)) (QMk C H1 Q a) (fun _ _ _ => False)) := by
  refine ⟨fun pins s σ H Q I h => ?_⟩
  refine wpAny_Call_Name_kw (ld_glob I hg hm ?_ hdb)
  refine PySem.W.callWith_K (h₀ := X.base) I.ok.mod.kin T.kC (thn (ha.run pos pins s σ H _ I h) fun us s1 ⟨vs, H1, I1, r1, hz, q1⟩ => ⟨I1.kIn, ?_⟩) he hpl
  show wpAny _ _ (call (.ref C) us) _ _ _
  refine run_mkv T iC tI F1 hr hx I1 ?_ q1 r1 fun s self K hl => ?_
  · rw [← Paired.length r1, sizeLine_eq]
    omega
  · have := hb s (self :: us) K (by rw [List.append_nil]; exact hl)
    rwa [List.append_nil] at this
theorem pe_mkvK (T : OexC X.K C) (iC : PySem.W.findIn X.K (.ref C) "__init__" = some (some (.ref fI))) (tI : PySem.W.typeIn X.K (.ref fI) = some (.type "function"))
    (F1 : FnOk X.prog X.w X.K X.mg X.base CX k fI fd ps sp) (hr : Room (k + 1) X.A) (hb : KBn X.K fd ps 1 ks (fun us ws => us ++ pm ws) (fun vs zs => vs ++ pmV zs)) (hv : ∀ {zs : List V} {ws : List Value}, Vals zs ws → Vals (pmV zs) (pm ws)) (hx : Passes CX X (fun _ _ _ => False)) (hg : Gl X x) (hm : X.mg x = some (.ref C)) (hkw : PK X kws tk)
    (hall : (backToKw pos (keywordEach kws X.env)).all (·.1.isSome) = true := by rfl) (hks : (backToKw pos (keywordEach kws X.env)).filterMap (·.1) = ks := by rfl) (hdb : (x == ("__debug__" : Str)) = false := by decide)
    (hpl : ((backTo pos (starEach [] X.env)).any (·.1) || (backToKw pos (keywordEach kws X.env)).any (·.1.isNone)) = false := by rfl) :
    PE X (.Call (.Name x p) [] kws pos) (fun σ H Q => tk σ H fun zs H1 => zs.length = ks.length ∧ ∀ a, H1 a = none → sp (.ref a :: pmV zs) (upd H1 a (exo a C none)) (QMk C H1 Q a) (fun _ _ _ => False)) := by
  refine ⟨fun pins s σ H Q I h => ?_⟩
  refine wpAny_Call_Name_kw (ld_glob I hg hm ?_ hdb)
  refine PySem.W.callWith_KW0 (h₀ := X.base) I.ok.mod.kin T.kC hall ?_ hpl
  refine thn (hkw.run pos pins s σ H _ I h) fun ws s2 ⟨zs, H2, I2, rz, l2, q2⟩ => ⟨I2.kIn, ?_⟩
  rw [hks]
  exact run_mkv (us := []) T iC tI F1 hr hx I2 (Nat.zero_le _) q2 (hv rz) fun s self K hl => hb.to s [self] ws K rfl (rz.length.symm.trans l2)
theorem pe_mkv0 {bmB : List Value} {B newId initId : String} (F : ExcBaseFacts B newId initId bmB) (q : PySem.W.excIn X.K C bmB newId = true) (gC : X.mg x = some (.ref C)) (kC : PySem.W.keepIn X.K (.ref C) = true) (hg : Gl X x)
    (hdb : (x == ("__debug__" : Str)) = false := by decide) : PE X (.Call (.Name x p) [] [] pos) (fun σ H Q => ∀ a, H a = none → Q (.ref a) (upd H a (BL.ExN C a))) := by
  refine ⟨fun pins s σ H Q I q1 => ?_⟩
  refine wpAny_Call_Name_kw (ld_glob I hg gC ?_ hdb)
  refine PySem.W.callWith_K0 I.kIn kC ?_
  show wpAny _ _ (call (.ref C) []) _ _ _
  obtain ⟨bm, N, nm, qn, bs, hdct, sn, sub, ab, col, dd, k0, k1, k2, k3, k5, mN, hC, hN, hni, T⟩ := exc_obj I.kIn q
  refine wpAny_call_exc_subT F T hC hN hni (fun h' a hm => ?_) (by show 0 ≤ sizeLine; exact Nat.zero_le _)
  have hn : H a = none := I.hok.gone hm.new
  obtain ⟨t, ht, _, _⟩ := hm.there
  exact ⟨.ref a, upd H a (BL.ExN C a), I.laidN hm.keeps hm.new hn (BL.exn_ok ht ⟨rfl, rfl⟩ rfl), rfl, q1 a hn⟩
end
end L2
namespace BL
open PySem PySem.Spec PyProof.Rows L2
/-! errors as values -/
structure Mke1 (P : Program) (w : World) (K : PySem.W.Frag) (mg : Str → Option Value) (base : Heap) (x : Str) (fs : List Str) : Prop where
  ex : ∃ (Ce fI : Addr) (fd : FuncData) (ps : List Str), ErrN K x Ce ∧ ErrC K mg x Ce fI fs ∧ FnOk P w K mg base CX0 1 fI fd ps (spEI K Ce fs) ∧ Binds K fd ps []
structure Mke0 (K : PySem.W.Frag) (mg : Str → Option Value) (x : Str) : Prop where
  ex : ∃ Ce, ErrN K x Ce ∧ Err0 K mg x Ce
def prmP (is : List Nat) (ys : List PV) : List PV := is.map fun i => ys.getD i .non
def prmV (is : List Nat) (zs : List V) : List V := is.map fun i => zs.getD i .non
def prmU (is : List Nat) (ws : List Value) : List Value := is.map fun i => ws.getD i .none
theorem prm_rel {zs : List V} {ws : List Value} (r : Vals zs ws) : ∀ is, Vals (prmV is zs) (prmU is ws)
  | [] => .nil
  | i :: is => .cons (getD_rel r i) (prm_rel r is)
theorem prm_rep {K : PySem.W.Frag} {C : Addr} {F : Hp} {θ : List Addr} {vs : List V} {ys : List PV} (r : RepAll K C F θ vs ys) : ∀ is : List Nat, (∀ i ∈ is, i < ys.length) → RepAll K C F θ (prmV is vs) (prmP is ys)
  | [], _ => .nil
  | i :: is, h => by
    obtain ⟨v, ev, rv⟩ := r.at (List.getElem?_eq_getElem (h i List.mem_cons_self))
    refine .cons ?_ (prm_rep r is fun j hj => h j (List.mem_cons_of_mem _ hj))
    show Rep K C F θ (vs.getD i .non) (ys.getD i .non)
    rw [List.getD_eq_getElem?_getD, ev, List.getD_eq_getElem?_getD, List.getElem?_eq_getElem (h i List.mem_cons_self)]
    exact rv
structure MkeK (P : Program) (w : World) (K : PySem.W.Frag) (mg : Str → Option Value) (base : Heap) (x : Str) (fs ks : List Str) (is : List Nat) : Prop where
  ex : ∃ (Ce fI : Addr) (fd : FuncData) (ps : List Str), ErrN K x Ce ∧ ErrC K mg x Ce fI fs ∧ FnOk P w K mg base CX0 1 fI fd ps (spEI K Ce fs) ∧ KBn K fd ps 1 ks (fun us ws => us ++ prmU is ws) (fun vs zs => vs ++ prmV is zs)
structure IsE (K : PySem.W.Frag) (mg : Str → Option Value) (x : Str) (tab : List (Str × Bool)) : Prop where
  ex : ∃ D, mg x = some (.ref D) ∧ ∀ y b, tab.lookup y = some b → ∃ Ce, ErrN K y Ce ∧ XiC K Ce ∧ PySem.W.kitOne K (.ref Ce) (.ref D) = some b
structure IsEB (K : PySem.W.Frag) (mg : Str → Option Value) (t : String) (tab : List (Str × Bool)) : Prop where
  no : mg t = none
  ex : ∀ y b, tab.lookup y = some b → ∃ Ce, ErrN K y Ce ∧ XiC K Ce ∧ PySem.W.kitOne K (.ref Ce) (.type t) = some b
section
variable {X : Cx} {C : Addr} {e : Expr} {es : List Expr} {mes : MA} {ma : ME} {x : Str} {p pos : Pos} {j : Nat} {fs ks : List Str} {kws : List Keyword}
theorem exc_made {K : PySem.W.Frag} {W0 W W1 : Wd} {σ : L2.St} {ρ : List SlV} {S' : List PV} {Ce a d : Addr} {vs : List V} {ys : List PV} {H' : Hp} {Q : VK} (en : ErrN K x Ce) (R1 : Rel K C W0 W1 σ ρ S') (g1 : Gro W W1) (r1 : RepAll K C W1.F W1.θ vs ys) (lv : vs.length = fs.length) (na : W1.H a = none) (hd : (upd W1.H a (exo a Ce none)) d = none)
    (h3 : ∀ b, b ≠ a → b ≠ d → H' b = upd W1.H a (exo a Ce none) b)
    (q : ∀ v W', Rel K C W0 W' σ ρ S' → Gro W W' → RepW K C W' v (.dic (excK x fs ys)) → Q v W'.H) : W1.H d = none ∧ Q (.ref a) (upd (upd (L2.del H' a) d (.xd (fs.zip vs).reverse)) a (ExK Ce d a)) := by
  have nd : d ≠ a := fun z => by
    rw [z, upd_same] at hd
    cases hd
  rw [upd_ne nd] at hd
  refine ⟨hd, ?_⟩
  have eq : upd (upd (L2.del H' a) d (.xd (fs.zip vs).reverse)) a (ExK Ce d a) = upd (upd W1.H d (.xd (fs.zip vs).reverse)) a (ExK Ce d a) := by
    funext b
    by_cases c2 : b = a
    · rw [c2, upd_same, upd_same]
    · rw [upd_ne c2, upd_ne c2]
      by_cases c1 : b = d
      · rw [c1, upd_same, upd_same]
      · rw [upd_ne c1, upd_ne c1, L2.del_ne c2, h3 b c2 c1, upd_ne c2]
  rw [eq]
  obtain ⟨g2, i2⟩ := laid (.xd (fs.zip vs).reverse) R1.i hd
  have na2 : (⟨upd W1.F d (.xd (fs.zip vs).reverse), upd W1.H d (.xd (fs.zip vs).reverse), W1.θ⟩ : Wd).H a = none := by
    show upd W1.H d _ a = none
    rw [upd_ne (Ne.symm nd)]
    exact na
  obtain ⟨g3, i3⟩ := laid (ExK Ce d a) i2 na2
  have g := g2.trans g3
  refine q (.ref a) ⟨upd (upd W1.F d (.xd (fs.zip vs).reverse)) a (ExK Ce d a), upd (upd W1.H d (.xd (fs.zip vs).reverse)) a (ExK Ce d a), W1.θ⟩ (R1.ext g i3) (g1.trans g) ?_
  exact .exc rfl en upd_same (by show upd _ _ _ d = _; rw [upd_ne nd, upd_same]) lv (r1.ext g)
def mMkE (x : Str) (fs : List Str) (ma : MA) : ME := fun ρ S => match ma ρ S with
  | some (ys, S1) => if ys.length = fs.length then some (.dic (excK x fs ys), S1) else none
  | none => none
theorem xmke (T : Mke1 X.prog X.w X.K X.mg X.base x fs) (hr : Room j X.A) (hj : 2 ≤ j) (ha : PA X (e :: es) (tMA X.K C mes)) (hg : Gl X x) (hn : fs.length ≤ 1000 := by decide) (hdb : (x == ("__debug__" : Str)) = false := by decide) (he : starEach (e :: es) X.env = (false, eval e X.env) :: starEach es X.env := by rfl) (hpl : (backTo pos (starEach es X.env)).any (·.1) = false := by rfl) :
    PE X (.Call (.Name x p) (e :: es) [] pos) (tM X.K C (mMkE x fs mes)) := by
  obtain ⟨Ce, fI, fd, ps, en, T, F, b⟩ := T.ex
  refine PE.weak (pe_mkv T.oex T.iC T.tI F (hr.mono hj) b pass0 hg T.gC ha hdb he hpl) fun σ H Q ⟨W0, W, ρ, S, z, S', eH, R, em, q⟩ => ?_
  subst eH
  unfold mMkE at em
  split at em
  · rename_i ys S1 e1
    split at em
    · rename_i hl
      cases em
      refine ⟨W0, W, ρ, S, ys, S', rfl, R, e1, fun vs W1 R1 g1 r1 => ?_⟩
      have lv : vs.length = fs.length := by rw [r1.len, hl]
      refine ⟨by rw [lv]; exact hn, fun a na => ⟨a, vs, rfl, lv, T.oex, T.no, upd_same, fun d H' hd h1 h2 h3 => ?_⟩⟩
      obtain ⟨hd1, qq⟩ := exc_made en R1 g1 r1 lv na hd h3 q
      exact ⟨rfl, d, _, h1, h2, hd1, qq⟩
    · cases em
  · cases em
def mMkEK (x : Str) (fs : List Str) (n : Nat) (is : List Nat) (ma : MA) : ME := fun ρ S => match ma ρ S with
  | some (ys, S1) => if ys.length = n ∧ is.length = fs.length ∧ is.all (fun i => decide (i < ys.length)) = true then some (.dic (excK x fs (prmP is ys)), S1) else none
  | none => none
theorem xmkeK {n : Nat} {is : List Nat} (T : MkeK X.prog X.w X.K X.mg X.base x fs ks is) (hr : Room j X.A) (hj : 2 ≤ j) (hkw : PK X kws (tMA X.K C mes)) (hg : Gl X x) (hln : ks.length = n := by rfl)
    (hall : (backToKw pos (keywordEach kws X.env)).all (·.1.isSome) = true := by rfl) (hks : (backToKw pos (keywordEach kws X.env)).filterMap (·.1) = ks := by rfl) (hdb : (x == ("__debug__" : Str)) = false := by decide)
    (hpl : ((backTo pos (starEach [] X.env)).any (·.1) || (backToKw pos (keywordEach kws X.env)).any (·.1.isNone)) = false := by rfl) :
    PE X (.Call (.Name x p) [] kws pos) (tM X.K C (mMkEK x fs n is mes)) := by
  subst hln
  obtain ⟨Ce, fI, fd, ps, en, T, F, b⟩ := T.ex
  refine PE.weak (pe_mkvK T.oex T.iC T.tI F (hr.mono hj) b (fun r => prm_rel r is) pass0 hg T.gC hkw hall hks hdb hpl) fun σ H Q ⟨W0, W, ρ, S, z, S', eH, R, em, q⟩ => ?_
  subst eH
  unfold mMkEK at em
  split at em
  · rename_i ys S1 e1
    split at em
    · rename_i hl
      obtain ⟨l1, l2, l3⟩ := hl
      cases em
      refine ⟨W0, W, ρ, S, ys, S', rfl, R, e1, fun vs W1 R1 g1 r1 => ?_⟩
      have lv : (prmV is vs).length = fs.length := by unfold prmV; rw [List.length_map, l2]
      have rp := prm_rep r1 is fun i hi => of_decide_eq_true (List.all_eq_true.mp l3 i hi)
      refine ⟨by rw [r1.len, l1], fun a na => ⟨a, prmV is vs, rfl, lv, T.oex, T.no, upd_same, fun d H' hd h1 h2 h3 => ?_⟩⟩
      obtain ⟨hd1, qq⟩ := exc_made en R1 g1 rp lv na hd h3 q
      exact ⟨rfl, d, _, h1, h2, hd1, qq⟩
    · cases em
  · cases em
def mMk0 (x : Str) : ME := fun _ S => some (.dic (excK x [] []), S)
theorem xmk0 (T : Mke0 X.K X.mg x) (hg : Gl X x) (hdb : (x == ("__debug__" : Str)) = false := by decide) : PE X (.Call (.Name x p) [] [] pos) (tM X.K C (mMk0 x)) := by
  obtain ⟨Ce, en, T⟩ := T.ex
  refine PE.weak (pe_mkv0 PySem.F.excBase_ValueError T.ex T.gC T.kC hg hdb) fun σ H Q ⟨W0, W, ρ, S, z, S', eH, R, em, q⟩ => ?_
  subst eH
  cases em
  intro a na
  obtain ⟨g, i⟩ := laid (ExN Ce a) R.i na
  exact q (.ref a) ⟨upd W.F a (ExN Ce a), upd W.H a (ExN Ce a), W.θ⟩ (R.ext g i) g (.exn rfl en upd_same)
def mIsE (tab : List (Str × Bool)) (ma : ME) : ME := fun ρ S => match ma ρ S with
  | some (.dic ((.str y, .non) :: _), S1) => match tab.lookup y with
    | some b => some (.bl b, S1)
    | none => none
  | _ => none
theorem isE_core {D : V} {u : Value} {tab : List (Str × Bool)} (cl : ClsV D u) (I : ∀ y b, tab.lookup y = some b → ∃ Ce, ErrN X.K y Ce ∧ XiC X.K Ce ∧ PySem.W.kitOne X.K (.ref Ce) u = some b) (he : PE X e (tCB (rIsK X.K) (tCons (tM X.K C ma) (tCons (tC D) tNil)))) : PE X e (tM X.K C (mIsE tab ma)) :=
  PE.weak he fun σ H Q ⟨W0, W, ρ, S, z, S', eH, R, em, q⟩ => by
  subst eH
  unfold mIsE at em
  split at em
  · rename_i y r S1 e1
    split at em
    · rename_i b hb
      cases em
      obtain ⟨Ce, en, T, ki⟩ := I y b hb
      refine ⟨W0, W, ρ, S, _, S', rfl, R, e1, fun v W1 R1 g1 r1 => ?_⟩
      cases r1 with
      | exc ek en' h1 h2 l a =>
        have ek' := ek
        unfold excK at ek'
        injection ek' with k1 k2
        injection k1 with k3 _
        injection k3 with k3
        subst k3
        cases errN_eq en en'
        exact ⟨_, _, D, u, b, rfl, cl, .inl ⟨_, _, R1.i.s _ _ h1, R1.i.s _ _ h2⟩, T, ki, q _ W1 R1 g1 (.bl b)⟩
      | exn ek en' h1 =>
        have ek' := ek
        unfold excK at ek'
        injection ek' with k1 k2
        injection k1 with k3 _
        injection k3 with k3
        subst k3
        cases errN_eq en en'
        exact ⟨_, _, D, u, b, rfl, cl, .inr (R1.i.s _ _ h1), T, ki, q _ W1 R1 g1 (.bl b)⟩
    · cases em
  · cases em
theorem xisE {tab : List (Str × Bool)} (I : IsE X.K X.mg x tab) (he : ∀ D, X.mg x = some (.ref D) → PE X e (tCB (rIsK X.K) (tCons (tM X.K C ma) (tCons (tC (.ref D)) tNil)))) : PE X e (tM X.K C (mIsE tab ma)) := by
  obtain ⟨D, hm, I⟩ := I.ex
  exact isE_core (.own _) I (he D hm)
theorem xisEB {t : String} {tab : List (Str × Bool)} (I : IsEB X.K X.mg t tab) (he : PE X e (tCB (rIsK X.K) (tCons (tM X.K C ma) (tCons (tC (.ty t)) tNil)))) : PE X e (tM X.K C (mIsE tab ma)) :=
  isE_core (.ty _) I.ex he
/-- an attribute of a kept error -/
structure AtE (K : PySem.W.Frag) (x f : Str) : Prop where
  ex : ∃ Ce, ErrN K x Ce ∧ XfC K Ce ∧ PySem.W.findIn K (.ref Ce) f = some none
theorem xatE {f : Str} (T : AtE X.K x f) (he : PE X e (tM X.K C ma)) (hb : attributeBase e f X.env (eval e X.env) = eval e X.env := by rfl) : PE X (.Attribute e f pos) (tM X.K C (mXa x f ma)) := by
  obtain ⟨Ce, en, T, no⟩ := T.ex
  exact xxa en T no he hb
end
end BL

namespace BL
open PySem PySem.Spec PyProof.Rows L2
def tab_BadText : List (Str × Bool) := [("BadText", true), ("BadLine", false), ("Crossed", false), ("NoShift", false), ("NoPlace", false), ("NothingDone", false), ("Unlike", false), ("NoStarts", false), ("Gainsaid", false), ("NoName", false), ("Taken", false), ("Outside", false), ("Needed", false), ("Ring", false), ("NotBehind", false)]
def tab_BadLine : List (Str × Bool) := [("BadText", false), ("BadLine", true), ("Crossed", false), ("NoShift", false), ("NoPlace", false), ("NothingDone", false), ("Unlike", false), ("NoStarts", false), ("Gainsaid", false), ("NoName", false), ("Taken", false), ("Outside", false), ("Needed", false), ("Ring", false), ("NotBehind", false)]
def tab_Crossed : List (Str × Bool) := [("BadText", false), ("BadLine", false), ("Crossed", true), ("NoShift", false), ("NoPlace", false), ("NothingDone", false), ("Unlike", false), ("NoStarts", false), ("Gainsaid", false), ("NoName", false), ("Taken", false), ("Outside", false), ("Needed", false), ("Ring", false), ("NotBehind", false)]
def tab_NoShift : List (Str × Bool) := [("BadText", false), ("BadLine", false), ("Crossed", false), ("NoShift", true), ("NoPlace", false), ("NothingDone", false), ("Unlike", false), ("NoStarts", false), ("Gainsaid", false), ("NoName", false), ("Taken", false), ("Outside", false), ("Needed", false), ("Ring", false), ("NotBehind", false)]
def tab_NoPlace : List (Str × Bool) := [("BadText", false), ("BadLine", false), ("Crossed", false), ("NoShift", false), ("NoPlace", true), ("NothingDone", false), ("Unlike", false), ("NoStarts", false), ("Gainsaid", false), ("NoName", false), ("Taken", false), ("Outside", false), ("Needed", false), ("Ring", false), ("NotBehind", false)]
def tab_NothingDone : List (Str × Bool) := [("BadText", false), ("BadLine", false), ("Crossed", false), ("NoShift", false), ("NoPlace", false), ("NothingDone", true), ("Unlike", false), ("NoStarts", false), ("Gainsaid", false), ("NoName", false), ("Taken", false), ("Outside", false), ("Needed", false), ("Ring", false), ("NotBehind", false)]
def tab_Unlike : List (Str × Bool) := [("BadText", false), ("BadLine", false), ("Crossed", false), ("NoShift", false), ("NoPlace", false), ("NothingDone", false), ("Unlike", true), ("NoStarts", false), ("Gainsaid", false), ("NoName", false), ("Taken", false), ("Outside", false), ("Needed", false), ("Ring", false), ("NotBehind", false)]
def tab_NoStarts : List (Str × Bool) := [("BadText", false), ("BadLine", false), ("Crossed", false), ("NoShift", false), ("NoPlace", false), ("NothingDone", false), ("Unlike", false), ("NoStarts", true), ("Gainsaid", false), ("NoName", false), ("Taken", false), ("Outside", false), ("Needed", false), ("Ring", false), ("NotBehind", false)]
def tab_Gainsaid : List (Str × Bool) := [("BadText", false), ("BadLine", false), ("Crossed", false), ("NoShift", false), ("NoPlace", false), ("NothingDone", false), ("Unlike", false), ("NoStarts", false), ("Gainsaid", true), ("NoName", false), ("Taken", false), ("Outside", false), ("Needed", false), ("Ring", false), ("NotBehind", false)]
def tab_NoName : List (Str × Bool) := [("BadText", false), ("BadLine", false), ("Crossed", false), ("NoShift", false), ("NoPlace", false), ("NothingDone", false), ("Unlike", false), ("NoStarts", false), ("Gainsaid", false), ("NoName", true), ("Taken", false), ("Outside", false), ("Needed", false), ("Ring", false), ("NotBehind", false)]
def tab_Taken : List (Str × Bool) := [("BadText", false), ("BadLine", false), ("Crossed", false), ("NoShift", false), ("NoPlace", false), ("NothingDone", false), ("Unlike", false), ("NoStarts", false), ("Gainsaid", false), ("NoName", false), ("Taken", true), ("Outside", false), ("Needed", false), ("Ring", false), ("NotBehind", false)]
def tab_Outside : List (Str × Bool) := [("BadText", false), ("BadLine", false), ("Crossed", false), ("NoShift", false), ("NoPlace", false), ("NothingDone", false), ("Unlike", false), ("NoStarts", false), ("Gainsaid", false), ("NoName", false), ("Taken", false), ("Outside", true), ("Needed", false), ("Ring", false), ("NotBehind", false)]
def tab_Needed : List (Str × Bool) := [("BadText", false), ("BadLine", false), ("Crossed", false), ("NoShift", false), ("NoPlace", false), ("NothingDone", false), ("Unlike", false), ("NoStarts", false), ("Gainsaid", false), ("NoName", false), ("Taken", false), ("Outside", false), ("Needed", true), ("Ring", false), ("NotBehind", false)]
def tab_Ring : List (Str × Bool) := [("BadText", false), ("BadLine", false), ("Crossed", false), ("NoShift", false), ("NoPlace", false), ("NothingDone", false), ("Unlike", false), ("NoStarts", false), ("Gainsaid", false), ("NoName", false), ("Taken", false), ("Outside", false), ("Needed", false), ("Ring", true), ("NotBehind", false)]
def tab_NotBehind : List (Str × Bool) := [("BadText", false), ("BadLine", false), ("Crossed", false), ("NoShift", false), ("NoPlace", false), ("NothingDone", false), ("Unlike", false), ("NoStarts", false), ("Gainsaid", false), ("NoName", false), ("Taken", false), ("Outside", false), ("Needed", false), ("Ring", false), ("NotBehind", true)]
def tab_LevelError : List (Str × Bool) := [("BadText", true), ("BadLine", true), ("Crossed", true), ("NoShift", true), ("NoPlace", true), ("NothingDone", true), ("Unlike", true), ("NoStarts", true), ("Gainsaid", true), ("NoName", true), ("Taken", true), ("Outside", true), ("Needed", true), ("Ring", true), ("NotBehind", true)]
def tab_ValueError : List (Str × Bool) := [("BadText", true), ("BadLine", true), ("Crossed", true), ("NoShift", true), ("NoPlace", true), ("NothingDone", true), ("Unlike", true), ("NoStarts", true), ("Gainsaid", true), ("NoName", true), ("Taken", true), ("Outside", true), ("Needed", true), ("Ring", true), ("NotBehind", true)]
theorem lk_nil {Q : Str → Bool → Prop} : ∀ y b, ([] : List (Str × Bool)).lookup y = some b → Q y b := fun _ _ h => by cases h
theorem lk_cons {Q : Str → Bool → Prop} {x : Str} {c : Bool} {l : List (Str × Bool)} (h : Q x c) (r : ∀ y b, l.lookup y = some b → Q y b) : ∀ y b, ((x, c) :: l).lookup y = some b → Q y b := fun y b e => by
  rw [List.lookup_cons] at e
  cases q : y == x with
  | true =>
    rw [q] at e
    cases e
    cases beq_iff_eq.mp q
    exact h
  | false =>
    rw [q] at e
    exact r y b e
end BL

namespace BL
open PySem PySem.Spec PyProof.Rows L2
open C8 (Cal Mak pe_c pe_mk)
def m_law_box : List PV → List PV → Option (PV × List PV) := m_law_boxC 62300
def m_law_pickF1 : MS := (mAppPop 4 3 (mCall m_law_take (mCons (mVar 0) (mCons (mLenO 3) mNil))))
def m_law_pickB : MS := (mSeq (mParF 3 4 (mfL (mVar 1) (mfO mNil mfNil)))
  (mSeq (mFor (.nm 5) (mRng1 (mFn fMin2 (mCons (mFn fIntQ (mCons (mVar 2) mNil)) (mCons (mLenO 3) mNil)))) m_law_pickF1)
  (mFrz 4 (mRet (mVar 4)))))
def m_law_pick : List PV → List PV → Option (PV × List PV) := mDef 3 6 m_law_pickB
def m_law_sortsB : MS := (mSeq (mAsg (.nm 1) (mLst (mCons (mIsE tab_BadText (mVar 0)) (mCons (mIsE tab_BadLine (mVar 0)) (mCons (mIsE tab_Crossed (mVar 0)) mNil)))))
  (mSeq (mAsg (.nm 1) (mOp fAdd (mVar 1) (mLst (mCons (mIsE tab_NoShift (mVar 0)) (mCons (mIsE tab_NoPlace (mVar 0)) (mCons (mIsE tab_NothingDone (mVar 0)) mNil))))))
  (mSeq (mAsg (.nm 1) (mOp fAdd (mVar 1) (mLst (mCons (mIsE tab_Unlike (mVar 0)) (mCons (mIsE tab_NoStarts (mVar 0)) (mCons (mIsE tab_Gainsaid (mVar 0)) mNil))))))
  (mSeq (mAsg (.nm 1) (mOp fAdd (mVar 1) (mLst (mCons (mIsE tab_NoName (mVar 0)) (mCons (mIsE tab_Taken (mVar 0)) (mCons (mIsE tab_Outside (mVar 0)) mNil))))))
  (mRet (mOp fAdd (mVar 1) (mLst (mCons (mIsE tab_Needed (mVar 0)) (mCons (mIsE tab_Ring (mVar 0)) (mCons (mIsE tab_NotBehind (mVar 0)) mNil))))))))))
def m_law_sorts : List PV → List PV → Option (PV × List PV) := mDef 1 2 m_law_sortsB
def m_law_rightF1 : MS := (mSeq (mIf (mNotT (mTru (mFn (fSame 3) (mCons (mCall m_law_sorts (mCons (mVar 7) mNil)) (mCons (mLc (.nm 10) (mRng1 (mC (.int 15))) mYes (mOp fEq (mVar 10) (mVar 6)) [10]) mNil))))) (mRet (mC (.bl false))) mSkip)
  (mIf (mOrT (mNotT (mTru (mIsE tab_LevelError (mVar 7)))) (mNotT (mTru (mIsE tab_ValueError (mVar 7))))) (mRet (mC (.bl false))) mSkip))
def m_law_rightB : MS := (mSeq (mPar 1 2 (mCons (mOp fSub (mCall m_law_take (mCons (mVar 0) (mCons (mOp fPow (mC (.int 10)) (mC (.int 9))) mNil))) (mOp fMulQ (mC (.int 5)) (mOp fPow (mC (.int 10)) (mC (.int 8))))) (mCons (mCall m_law_take (mCons (mVar 0) (mCons (mOp fPow (mC (.int 10)) (mC (.int 9))) mNil))) mNil)))
  (mSeq (mAsg (.tp [3, 4]) (mCall m_law_pick (mCons (mVar 0) (mCons (mLst (mCons (mC (.str "a")) (mCons (mC (.str "b")) (mCons (mC (.str "c")) (mCons (mC (.str "tank")) (mCons (mC (.str "zzzzzzzz")) mNil)))))) (mCons (mC (.int 2)) mNil)))))
  (mSeq (mNewO 5 (mCons (mMkE "BadText" ["place"] (mCons (mVar 2) mNil)) (mCons (mMkE "BadLine" ["number"] (mCons (mVar 2) mNil)) (mCons (mMkE "Crossed" ["low", "high"] (mCons (mVar 1) (mCons (mVar 2) mNil))) (mCons (mMk0 "NoShift") (mCons (mMkE "NoPlace" ["place"] (mCons (mVar 1) mNil)) (mCons (mMk0 "NothingDone") (mCons (mMk0 "Unlike") mNil))))))))
  (mSeq (mFrz 5 (mNewA 5 (mVar 5) (mLst (mCons (mMkE "NoStarts" ["low", "high"] (mCons (mVar 1) (mCons (mVar 2) mNil))) (mCons (mMk0 "Gainsaid") (mCons (mMkE "NoName" ["name"] (mCons (mVar 3) mNil)) (mCons (mMkE "Taken" ["name"] (mCons (mVar 4) mNil)) (mCons (mMkE "Outside" ["number"] (mCons (mVar 1) mNil)) (mCons (mMkE "Needed" ["name"] (mCons (mVar 3) mNil)) (mCons (mMkE "Ring" ["name"] (mCons (mVar 4) mNil)) mNil))))))))))
  (mSeq (mApp 5 (mMkE "NotBehind" ["other"] (mCons (mVar 3) mNil)))
  (mSeq (mFrz 5 (mFor (.tp [6, 7]) (mEnuQ (mVar 5)) m_law_rightF1))
  (mSeq (mFrz 5 (mAsg (.nm 8) (mLst (mCons (mXa "BadText" "place" (mOp fIx (mVar 5) (mC (.int 0)))) (mCons (mXa "BadLine" "number" (mOp fIx (mVar 5) (mC (.int 1)))) (mCons (mXa "Crossed" "low" (mOp fIx (mVar 5) (mC (.int 2)))) (mCons (mXa "Crossed" "high" (mOp fIx (mVar 5) (mC (.int 2)))) (mCons (mXa "NoPlace" "place" (mOp fIx (mVar 5) (mC (.int 4)))) (mCons (mXa "NoStarts" "low" (mOp fIx (mVar 5) (mC (.int 7)))) (mCons (mXa "NoStarts" "high" (mOp fIx (mVar 5) (mC (.int 7)))) mNil))))))))))
  (mSeq (mAsg (.nm 9) (mLst (mCons (mVar 2) (mCons (mVar 2) (mCons (mVar 1) (mCons (mVar 2) (mCons (mVar 1) (mCons (mVar 1) (mCons (mVar 2) mNil)))))))))
  (mSeq (mFrz 5 (mAsg (.nm 8) (mOp fAdd (mVar 8) (mLst (mCons (mXa "NoName" "name" (mOp fIx (mVar 5) (mC (.int 9)))) (mCons (mXa "Taken" "name" (mOp fIx (mVar 5) (mC (.int 10)))) (mCons (mXa "Outside" "number" (mOp fIx (mVar 5) (mC (.int 11)))) (mCons (mXa "Needed" "name" (mOp fIx (mVar 5) (mC (.int 12)))) (mCons (mXa "Ring" "name" (mOp fIx (mVar 5) (mC (.int 13)))) (mCons (mXa "NotBehind" "other" (mOp fIx (mVar 5) (mC (.int 14)))) mNil))))))))))
  (mSeq (mAsg (.nm 9) (mOp fAdd (mVar 9) (mLst (mCons (mVar 3) (mCons (mVar 4) (mCons (mVar 1) (mCons (mVar 3) (mCons (mVar 4) (mCons (mVar 3) mNil)))))))))
  (mSeq (mAsg (.nm 8) (mOp fAdd (mVar 8) (mLst (mCons (mXa "BadText" "place" (mMkEK "BadText" ["place"] 1 [0] (mCons (mVar 1) mNil))) (mCons (mXa "BadLine" "number" (mMkEK "BadLine" ["number"] 1 [0] (mCons (mVar 1) mNil))) (mCons (mXa "Crossed" "low" (mMkEK "Crossed" ["low", "high"] 2 [1, 0] (mCons (mVar 1) (mCons (mVar 2) mNil)))) mNil))))))
  (mSeq (mAsg (.nm 9) (mOp fAdd (mVar 9) (mLst (mCons (mVar 1) (mCons (mVar 1) (mCons (mVar 2) mNil))))))
  (mSeq (mAsg (.nm 8) (mOp fAdd (mVar 8) (mLst (mCons (mXa "NoPlace" "place" (mMkEK "NoPlace" ["place"] 1 [0] (mCons (mVar 2) mNil))) (mCons (mXa "NoStarts" "high" (mMkEK "NoStarts" ["low", "high"] 2 [1, 0] (mCons (mVar 1) (mCons (mVar 2) mNil)))) (mCons (mXa "NoName" "name" (mMkEK "NoName" ["name"] 1 [0] (mCons (mVar 4) mNil))) mNil))))))
  (mSeq (mAsg (.nm 9) (mOp fAdd (mVar 9) (mLst (mCons (mVar 2) (mCons (mVar 1) (mCons (mVar 4) mNil))))))
  (mSeq (mAsg (.nm 8) (mOp fAdd (mVar 8) (mLst (mCons (mXa "Taken" "name" (mMkEK "Taken" ["name"] 1 [0] (mCons (mVar 3) mNil))) (mCons (mXa "Outside" "number" (mMkEK "Outside" ["number"] 1 [0] (mCons (mVar 2) mNil))) (mCons (mXa "Needed" "name" (mMkEK "Needed" ["name"] 1 [0] (mCons (mVar 4) mNil))) (mCons (mXa "Ring" "name" (mMkEK "Ring" ["name"] 1 [0] (mCons (mVar 3) mNil))) mNil)))))))
  (mRet (mFn (fSame 3) (mCons (mOp fAdd (mVar 8) (mLst (mCons (mXa "NotBehind" "other" (mMkEK "NotBehind" ["other"] 1 [0] (mCons (mVar 4) mNil))) mNil))) (mCons (mOp fAdd (mVar 9) (mLst (mCons (mVar 3) (mCons (mVar 2) (mCons (mVar 4) (mCons (mVar 3) (mCons (mVar 4) mNil))))))) mNil)))))))))))))))))))
def m_law_right : List PV → List PV → Option (PV × List PV) := mDef 1 11 m_law_rightB
end BL

namespace BL
open PySem PySem.Spec PyProof.Rows L2
/-! running a mirror step by step, by rules read off its form -/
theorem le_lit {n m : Nat} (h : Nat.ble n m = true) : n ≤ m := Nat.le_of_ble_eq_true h
section
variable {ρ ρ1 ρ2 ρ3 : List SlV} {S S1 S2 S3 : List PV} {ma mb mc : ME} {mes : MA} {mt mu : MT} {ms mr : MS} {mi : MI} {x y z : PV} {xs ys zs : List PV} {o : Ou} {b : Bool} {i j k n : Nat}
/-- values -/
theorem v_var (h : ρ[i]? = some (.val x)) : mVar i ρ S = some (x, S) := by rw [e_var, h]
theorem v_c : mC x ρ S = some (x, S) := rfl
theorem v_op {f : List PV → PV → PV → Option PV} (h1 : ma ρ S = some (x, S1)) (h2 : mb ρ S1 = some (y, S2)) (h3 : f S2 x y = some z) : mOp f ma mb ρ S = some (z, S2) := by rw [e_op, h1]; simp only [h2, h3]
theorem v_un {f : List PV → PV → Option PV} (h1 : ma ρ S = some (x, S1)) (h3 : f S1 x = some z) : mUn f ma ρ S = some (z, S1) := by rw [e_un, h1]; simp only [h3]
theorem v_nil : mNil ρ S = some ([], S) := rfl
theorem v_cons (h1 : ma ρ S = some (x, S1)) (h2 : mes ρ S1 = some (xs, S2)) : mCons ma mes ρ S = some (x :: xs, S2) := by rw [e_cons, h1]; simp only [h2]
theorem v_fn {f : List PV → List PV → Option PV} (h1 : mes ρ S = some (xs, S1)) (h3 : f S1 xs = some z) : mFn f mes ρ S = some (z, S1) := by rw [e_fn, h1]; simp only [h3]
theorem v_tup (h1 : mes ρ S = some (xs, S1)) (l : xs.length ≤ 100000) : mTup mes ρ S = some (.tup xs, S1) := by rw [e_tup, h1]; exact if_pos l
theorem v_lst (h1 : mes ρ S = some (xs, S1)) (l : xs.length ≤ 100000) : mLst mes ρ S = some (.lst xs, S1) := by rw [e_lst, h1]; exact if_pos l
theorem v_call {f : List PV → List PV → Option (PV × List PV)} (h1 : mes ρ S = some (xs, S1)) (h3 : f xs S1 = some (z, S2)) : mCall f mes ρ S = some (z, S2) := by rw [e_call, h1]; exact h3
theorem v_callK {f : List PV → List PV → Option (PV × List PV)} {is : List Nat} (h1 : mes ρ S = some (xs, S1)) (l : xs.length = is.length) (p : permP is xs = ys) (h3 : f ys S1 = some (z, S2)) : mCallK f is mes ρ S = some (z, S2) := by rw [e_callK, h1]; subst p; exact (if_pos l).trans h3
theorem v_called {f : List PV → List PV → Option (PV × List PV)} {s g c : Option Int} (h1 : ma ρ S = some (.way s g c, S1)) (h2 : mes ρ S1 = some (xs, S2)) (h3 : f (.way s g c :: xs) S2 = some (z, S3)) : mCalled f ma mes ρ S = some (z, S3) := by rw [e_called, h1]; simp only [h2]; exact h3
theorem v_bin {f : List PV → List PV → Option (PV × List PV)} {s g c s' g' c' : Option Int} (h1 : ma ρ S = some (.way s g c, S1)) (h2 : mb ρ S1 = some (.way s' g' c', S2)) (h3 : f [.way s g c, .way s' g' c'] S2 = some (z, S3)) : mBin f ma mb ρ S = some (z, S3) := by rw [e_bin, h1]; simp only [h2]; exact h3
theorem v_binI {f : List PV → List PV → Option (PV × List PV)} {s g c : Option Int} {i : Int} (h1 : ma ρ S = some (.way s g c, S1)) (h2 : mb ρ S1 = some (.int i, S2)) (h3 : f [.way s g c, .int i] S2 = some (z, S3)) : mBinI f ma mb ρ S = some (z, S3) := by rw [e_binI, h1]; simp only [h2]; exact h3
theorem v_sel {sel : Option Int → Option Int → Option Int → Option Int} {s g c : Option Int} (h1 : ma ρ S = some (.way s g c, S1)) : mSel sel ma ρ S = some (PO' (sel s g c), S1) := by rw [e_sel, h1]
theorem v_isW {s g c : Option Int} (h1 : ma ρ S = some (.way s g c, S1)) : mIsW ma ρ S = some (.bl true, S1) := by rw [e_isW, h1]
theorem v_isT {T : String} {t : String} (h1 : ma ρ S = some (x, S1)) (h2 : tyN x = some t) (h3 : kitB t T = some b) : mIsT T ma ρ S = some (.bl b, S1) := by rw [e_isT, h1]; simp only [h2, h3]
theorem v_isT2 {T U : String} {t : String} (h1 : ma ρ S = some (x, S1)) (h2 : tyN x = some t) (h3 : kit2 t T U = some b) : mIsT2 T U ma ρ S = some (.bl b, S1) := by rw [e_isT2, h1]; simp only [h2, h3]
theorem v_and_t (h1 : ma ρ S = some (.bl true, S1)) (h2 : mb ρ S1 = some (x, S2)) : mAndV ma mb ρ S = some (x, S2) := by rw [e_andV, h1]; exact h2
theorem v_and_f (h1 : ma ρ S = some (.bl false, S1)) : mAndV ma mb ρ S = some (.bl false, S1) := by rw [e_andV, h1]
theorem v_or_t (h1 : ma ρ S = some (.bl true, S1)) : mOrV ma mb ρ S = some (.bl true, S1) := by rw [e_orV, h1]
theorem v_or_f (h1 : ma ρ S = some (.bl false, S1)) (h2 : mb ρ S1 = some (x, S2)) : mOrV ma mb ρ S = some (x, S2) := by rw [e_orV, h1]; exact h2
theorem v_notV (h1 : ma ρ S = some (.bl b, S1)) : mNotV ma ρ S = some (.bl (!b), S1) := by rw [e_notV, h1]
theorem v_notV_t (h1 : ma ρ S = some (.bl false, S1)) : mNotV ma ρ S = some (.bl true, S1) := by rw [e_notV, h1]; rfl
theorem v_notV_f (h1 : ma ρ S = some (.bl true, S1)) : mNotV ma ρ S = some (.bl false, S1) := by rw [e_notV, h1]; rfl
theorem v_ifE_t (h1 : mt ρ S = some (true, S1)) (h2 : ma ρ S1 = some (x, S2)) : mIfE mt ma mb ρ S = some (x, S2) := by rw [e_ifE, h1]; exact h2
theorem v_ifE_f (h1 : mt ρ S = some (false, S1)) (h2 : mb ρ S1 = some (x, S2)) : mIfE mt ma mb ρ S = some (x, S2) := by rw [e_ifE, h1]; exact h2
theorem v_lenO (h : ρ[i]? = some (.own (.lst xs))) : mLenO i ρ S = some (.int xs.length, S) := by rw [e_lenO, h]
theorem v_ixO {t : Int} (h1 : ma ρ S = some (.int t, S1)) (h : ρ[i]? = some (.own (.lst xs))) (h2 : ixP xs.length t = some j) (h3 : xs[j]? = some x) : mIxO i ma ρ S = some (x, S1) := by rw [e_ixO, h1]; simp only [h, h2, h3]
theorem v_sl {ml mh : MO} {lo hi : Option Int} (h1 : ma ρ S = some (x, S1)) (h2 : ml ρ S1 = some (lo, S2)) (h3 : mh ρ S2 = some (hi, S3)) (h4 : fSl x lo hi = some z) : mSl ma ml mh ρ S = some (z, S3) := by rw [e_sl, h1]; simp only [h2, h3, h4]
theorem v_p0 : mP0 ρ S = some (none, S) := rfl
theorem v_p1 {t : Int} (h1 : ma ρ S = some (.int t, S1)) : mP1 ma ρ S = some (some t, S1) := by rw [e_p1, h1]
theorem v_lrg1 {t : Int} (h1 : ma ρ S = some (.int t, S1)) (h : okRg 0 t = true) : mLrg1 ma ρ S = some (.lst (rngP 0 (t - 0).toNat), S1) := by rw [e_lrg1, h1]; exact if_pos h
theorem v_lc {t : Tg} {vs : List Nat} (h1 : mi ρ S = some (xs, S1)) (hw : wipM ρ vs = ρ1) (h2 : lcL t mt ma ρ1 xs S1 = some (ys, S2)) (l : ys.length ≤ 100000) : mLc t mi mt ma vs ρ S = some (.lst ys, S2) := by
  subst hw
  rw [e_lc, h1]
  simp only [h2]
  exact if_pos l
theorem v_chain {p r : Int → Int → Bool} {i j k : Int} (h1 : ma ρ S = some (.int i, S1)) (h2 : mb ρ S1 = some (.int j, S2)) (h3 : mc ρ S2 = some (.int k, S3)) (h : p i j = true) : mChain p r ma mb mc ρ S = some (.bl (r j k), S3) := by
  unfold mChain
  rw [h1]; simp only [h2, h3, h, if_true]
theorem v_chain_f {p r : Int → Int → Bool} {i j : Int} (h1 : ma ρ S = some (.int i, S1)) (h2 : mb ρ S1 = some (.int j, S2)) (h : p i j = false) : mChain p r ma mb mc ρ S = some (.bl false, S2) := by
  unfold mChain
  rw [h1]; simp only [h2, h, Bool.false_eq_true, if_false]
theorem v_star (h1 : ma ρ S = some (x, S1)) (h : items x = some xs) (h2 : mes ρ S1 = some (ys, S2)) : mStar ma mes ρ S = some (xs ++ ys, S2) := by
  unfold mStar
  rw [h1]; simp only [h, h2]
/-- tests -/
theorem t_tru (h1 : ma ρ S = some (.bl b, S1)) : mTru ma ρ S = some (b, S1) := by rw [e_tru, h1]
theorem t_truL (h1 : ma ρ S = some (x, S1)) (h : truP x = some b) : mTruL ma ρ S = some (b, S1) := by rw [e_truL, h1]; simp only [h]
theorem t_not_t (h1 : mt ρ S = some (false, S1)) : mNotT mt ρ S = some (true, S1) := by rw [e_notT, h1]; rfl
theorem t_not_f (h1 : mt ρ S = some (true, S1)) : mNotT mt ρ S = some (false, S1) := by rw [e_notT, h1]; rfl
theorem t_not (h1 : mt ρ S = some (b, S1)) : mNotT mt ρ S = some (!b, S1) := by rw [e_notT, h1]
theorem t_and_f (h1 : mt ρ S = some (false, S1)) : mAndT mt mu ρ S = some (false, S1) := by rw [e_andT, h1]
theorem t_and_t (h1 : mt ρ S = some (true, S1)) (h2 : mu ρ S1 = some (b, S2)) : mAndT mt mu ρ S = some (b, S2) := by rw [e_andT, h1]; exact h2
theorem t_or_t (h1 : mt ρ S = some (true, S1)) : mOrT mt mu ρ S = some (true, S1) := by rw [e_orT, h1]
theorem t_or_f (h1 : mt ρ S = some (false, S1)) (h2 : mu ρ S1 = some (b, S2)) : mOrT mt mu ρ S = some (b, S2) := by rw [e_orT, h1]; exact h2
theorem t_yes : mYes ρ S = some (true, S) := rfl
/-- what a loop goes over -/
theorem i_seqL (h1 : ma ρ S = some (.lst xs, S1)) : mSeqI ma ρ S = some (xs, S1) := by rw [e_seqI, h1]
theorem i_seqT (h1 : ma ρ S = some (.tup xs, S1)) : mSeqI ma ρ S = some (xs, S1) := by rw [e_seqI, h1]
theorem i_rng1 {t : Int} (h1 : ma ρ S = some (.int t, S1)) (l : -1000000 ≤ t ∧ t ≤ 1000000) : mRng1 ma ρ S = some (rngP 0 t.toNat, S1) := by
  rw [e_rng1, h1]
  exact if_pos ⟨by omega, by omega⟩
theorem i_rng2 {t u : Int} (h1 : ma ρ S = some (.int t, S1)) (h2 : mb ρ S1 = some (.int u, S2)) (l : (-1000000 ≤ t ∧ t ≤ 1000000) ∧ -1000000 ≤ u ∧ u ≤ 1000000) : mRng2 ma mb ρ S = some (rngP t (u - t).toNat, S2) := by
  rw [e_rng2, h1]
  simp only [h2]
  exact if_pos ⟨by omega, by omega, by omega, by omega⟩
theorem i_zipT (h1 : ma ρ S = some (.tup xs, S1)) (h2 : mb ρ S1 = some (.tup ys, S2)) : mZip ma mb ρ S = some (zipP xs ys, S2) := by rw [e_zip, h1]; simp only [h2]
theorem i_zipL (h1 : ma ρ S = some (.lst xs, S1)) (h2 : mb ρ S1 = some (.lst ys, S2)) : mZip ma mb ρ S = some (zipP xs ys, S2) := by rw [e_zip, h1]; simp only [h2]
theorem i_enu (h1 : ma ρ S = some (.lst xs, S1)) : mEnu ma ρ S = some (enuP 0 xs, S1) := by rw [e_enu, h1]
/-- statements -/
theorem s_seq (h1 : ms ρ S = some (.nx ρ1 S1)) (h2 : mr ρ1 S1 = some o) : mSeq ms mr ρ S = some o := by rw [e_seq, h1]; exact h2
theorem s_seq_ret (h1 : ma ρ S = some (x, S1)) : mSeq (mRet ma) mr ρ S = some (.rt x S1) := by rw [e_seq, e_ret, h1]; rfl
theorem s_seq_skip (h2 : mr ρ S = some o) : mSeq mSkip mr ρ S = some o := by rw [e_seq]; exact h2
theorem s_seq_seq {mq : MS} (h : mSeq ms (mSeq mr mq) ρ S = some o) : mSeq (mSeq ms mr) mq ρ S = some o := by
  rw [e_seq, e_seq] at *
  cases e : ms ρ S with
  | none => rw [e] at h; cases h
  | some u =>
    rw [e] at h
    cases u <;> exact h
theorem s_seq_if_t {mq : MS} (h1 : mt ρ S = some (true, S1)) (h2 : mSeq ms mq ρ S1 = some o) : mSeq (mIf mt ms mr) mq ρ S = some o := by rw [e_seq, e_if, h1]; exact h2
theorem s_seq_if_f {mq : MS} (h1 : mt ρ S = some (false, S1)) (h2 : mSeq mr mq ρ S1 = some o) : mSeq (mIf mt ms mr) mq ρ S = some o := by rw [e_seq, e_if, h1]; exact h2
theorem s_seq_frz (h : ρ[i]? = some (.own x)) (hw : ρ.set i (.val x) = ρ1) (h2 : mSeq ms mr ρ1 S = some o) : mSeq (mFrz i ms) mr ρ S = some o := by
  rw [e_seq, e_frz, h]
  subst hw
  exact h2
theorem s_seq_frzV (h : ρ[i]? = some (.val x)) (h2 : mSeq ms mr ρ S = some o) : mSeq (mFrz i ms) mr ρ S = some o := by
  rw [e_seq, e_frz, h]
  exact h2
theorem s_if_t (h1 : mt ρ S = some (true, S1)) (h2 : ms ρ S1 = some o) : mIf mt ms mr ρ S = some o := by rw [e_if, h1]; exact h2
theorem s_if_f (h1 : mt ρ S = some (false, S1)) (h2 : mr ρ S1 = some o) : mIf mt ms mr ρ S = some o := by rw [e_if, h1]; exact h2
theorem s_frz (h : ρ[i]? = some (.own x)) (hw : ρ.set i (.val x) = ρ1) (h2 : ms ρ1 S = some o) : mFrz i ms ρ S = some o := by
  rw [e_frz, h]
  subst hw
  exact h2
theorem s_frzV (h : ρ[i]? = some (.val x)) (h2 : ms ρ S = some o) : mFrz i ms ρ S = some o := by
  rw [e_frz, h]
  exact h2
theorem s_ret (h1 : ma ρ S = some (x, S1)) : mRet ma ρ S = some (.rt x S1) := by rw [e_ret, h1]
theorem s_retN : mRetN ρ S = some (.rt .non S) := rfl
theorem s_skip : mSkip ρ S = some (.nx ρ S) := rfl
theorem s_drop (h1 : ma ρ S = some (x, S1)) : mDrop ma ρ S = some (.nx ρ S1) := by rw [e_drop, h1]
theorem s_asg (h1 : ma ρ S = some (x, S1)) (l : Nat.blt i ρ.length = true) (hw : ρ.set i (.val x) = ρ1) : mAsg (.nm i) ma ρ S = some (.nx ρ1 S1) := by
  have l : i < ρ.length := Nat.le_of_ble_eq_true l
  rw [e_asg, h1]
  simp only [e_put_nm, l, if_true, hw]
theorem s_asgT {t : Tg} (h1 : ma ρ S = some (x, S1)) (hw : t.put x ρ = some ρ1) : mAsg t ma ρ S = some (.nx ρ1 S1) := by
  rw [e_asg, h1]
  simp only [hw]
theorem p_tup {is : List Nat} (h : putAll is xs ρ = some ρ1) : (Tg.tp is).put (.tup xs) ρ = some ρ1 := h
theorem p_lst {is : List Nat} (h : putAll is xs ρ = some ρ1) : (Tg.tp is).put (.lst xs) ρ = some ρ1 := h
theorem p_nil : putAll [] [] ρ = some ρ := rfl
theorem p_cons {is : List Nat} (l : Nat.blt i ρ.length = true) (hw : ρ.set i (.val x) = ρ1) (h : putAll is xs ρ1 = some ρ2) : putAll (i :: is) (x :: xs) ρ = some ρ2 := by
  have l : i < ρ.length := Nat.le_of_ble_eq_true l
  rw [e_pa1, if_pos l]
  subst hw
  exact h
theorem p_nm (l : Nat.blt i ρ.length = true) (hw : ρ.set i (.val x) = ρ1) : (Tg.nm i).put x ρ = some ρ1 := by
  have l : i < ρ.length := Nat.le_of_ble_eq_true l
  rw [e_put_nm, if_pos l, hw]
theorem s_par (h1 : mes ρ S = some ([x, y], S1)) (l : (Nat.blt i ρ.length && Nat.blt j ρ.length) = true) (hw : (ρ.set i (.val x)).set j (.val y) = ρ1) : mPar i j mes ρ S = some (.nx ρ1 S1) := by
  rw [Bool.and_eq_true] at l
  rw [e_par, h1]
  subst hw
  exact if_pos ⟨Nat.le_of_ble_eq_true l.1, Nat.le_of_ble_eq_true l.2⟩
theorem s_newO (h1 : mes ρ S = some (xs, S1)) (l : xs.length ≤ 100000) (l2 : Nat.blt i ρ.length = true) (hw : ρ.set i (.own (.lst xs)) = ρ1) : mNewO i mes ρ S = some (.nx ρ1 S1) := by
  rw [e_newO, h1]
  subst hw
  exact if_pos ⟨l, Nat.le_of_ble_eq_true l2⟩
theorem s_app (h1 : ma ρ S = some (y, S1)) (h : ρ[i]? = some (.own (.lst xs))) (l : xs.length ≤ 100000) (hw : ρ.set i (.own (.lst (xs ++ [y]))) = ρ1) : mApp i ma ρ S = some (.nx ρ1 S1) := by
  rw [e_app, h1]
  simp only [h]
  subst hw
  exact if_pos l
theorem s_newA (h1 : ma ρ S = some (.lst xs, S1)) (h2 : mb ρ S1 = some (.lst ys, S2)) (l : xs.length + ys.length ≤ 100000) (l2 : Nat.blt i ρ.length = true) (hw : ρ.set i (.own (.lst (xs ++ ys))) = ρ1) : mNewA i ma mb ρ S = some (.nx ρ1 S2) := by
  rw [e_newA, h1]
  simp only [h2]
  subst hw
  exact if_pos ⟨l, Nat.le_of_ble_eq_true l2⟩
theorem s_newLc {t : Tg} {vs : List Nat} (h1 : mi ρ S = some (xs, S1)) (hv : wipM ρ vs = ρ2) (h2 : lcL t mt ma ρ2 xs S1 = some (ys, S2)) (l : ys.length ≤ 100000) (l2 : Nat.blt i ρ.length = true) (hw : ρ.set i (.own (.lst ys)) = ρ1) : mNewLc i t mi mt ma vs ρ S = some (.nx ρ1 S2) := by
  rw [e_newLc, h1]
  simp only [hv, h2]
  subst hw
  exact if_pos ⟨l, Nat.le_of_ble_eq_true l2⟩
theorem s_for {t : Tg} (h1 : mi ρ S = some (xs, S1)) (h2 : forL t ms xs ρ S1 = some o) : mFor t mi ms ρ S = some o := by rw [e_for, h1]; exact h2
theorem s_seq_rt (h1 : ms ρ S = some (.rt x S1)) : mSeq ms mr ρ S = some (.rt x S1) := by rw [e_seq, h1]; rfl
/-- a def -/
theorem d_rt {np nN : Nat} (l : xs.length = np) (hw : xs.map .val ++ List.replicate (nN - np) .un = ρ) (h : ms ρ S = some (.rt x S1)) : mDef np nN ms xs S = some (x, S1) := by
  rw [e_def, if_pos l, hw, h]
  rfl
theorem d_nx {np nN : Nat} (l : xs.length = np) (hw : xs.map .val ++ List.replicate (nN - np) .un = ρ) (h : ms ρ S = some (.nx ρ1 S1)) : mDef np nN ms xs S = some (.non, S1) := by
  rw [e_def, if_pos l, hw, h]
  rfl
/-! comparisons that are settled -/
theorem lt_t {i j : Int} (h : i < j) : fLt S (.int i) (.int j) = some (.bl true) := by simp [h]
theorem lt_f {i j : Int} (h : ¬ i < j) : fLt S (.int i) (.int j) = some (.bl false) := by simp; omega
theorem le_t {i j : Int} (h : i ≤ j) : fLe S (.int i) (.int j) = some (.bl true) := by simp [h]
theorem le_f {i j : Int} (h : ¬ i ≤ j) : fLe S (.int i) (.int j) = some (.bl false) := by simp; omega
theorem gt_t {i j : Int} (h : j < i) : fGt S (.int i) (.int j) = some (.bl true) := by simp [h]
theorem gt_f {i j : Int} (h : ¬ j < i) : fGt S (.int i) (.int j) = some (.bl false) := by simp; omega
theorem ge_t {i j : Int} (h : j ≤ i) : fGe S (.int i) (.int j) = some (.bl true) := by simp [h]
theorem ge_f {i j : Int} (h : ¬ j ≤ i) : fGe S (.int i) (.int j) = some (.bl false) := by simp; omega
theorem eq_t {i j : Int} (h : i = j) : fEq S (.int i) (.int j) = some (.bl true) := by simp [h]
theorem eq_f {i j : Int} (h : ¬ i = j) : fEq S (.int i) (.int j) = some (.bl false) := by simp [h]
theorem ne_f {i j : Int} (h : i = j) : fNe S (.int i) (.int j) = some (.bl false) := by simp [h]
theorem ne_t {i j : Int} (h : ¬ i = j) : fNe S (.int i) (.int j) = some (.bl true) := by simp [h]
theorem lt_v {i j : Int} : fLt S (.int i) (.int j) = some (.bl (decide (i < j))) := rfl
theorem le_v {i j : Int} : fLe S (.int i) (.int j) = some (.bl (decide (i ≤ j))) := rfl
theorem gt_v {i j : Int} : fGt S (.int i) (.int j) = some (.bl (decide (j < i))) := rfl
theorem ge_v {i j : Int} : fGe S (.int i) (.int j) = some (.bl (decide (j ≤ i))) := rfl
theorem is_non : fIs S .non .non = some (.bl true) := rfl
theorem not_non : fNot S .non .non = some (.bl false) := rfl
theorem is_int {i : Int} : fIs S (.int i) .non = some (.bl false) := rfl
theorem not_int {i : Int} : fNot S (.int i) .non = some (.bl true) := rfl
theorem is_way {s f c : Option Int} : fIs S (.way s f c) .non = some (.bl false) := rfl
theorem not_way {s f c : Option Int} : fNot S (.way s f c) .non = some (.bl true) := rfl
theorem is_tup : fIs S (.tup xs) .non = some (.bl false) := rfl
theorem not_tup : fNot S (.tup xs) .non = some (.bl true) := rfl
theorem is_lst : fIs S (.lst xs) .non = some (.bl false) := rfl
theorem not_lst : fNot S (.lst xs) .non = some (.bl true) := rfl
theorem pow10 {e : Nat} : fPow S (.int 10) (.int (OfNat.ofNat e)) = fPow S (.int 10) (.int (OfNat.ofNat e)) := rfl
/-! comprehensions and loops over what is known -/
theorem lc_map {α : Type} {t : Tg} {me : ME} (f g : α → PV) (p : α → Bool) : ∀ {as : List α}, (∀ a ∈ as, ∃ ρ1, t.put (f a) ρ = some ρ1 ∧ mt ρ1 S = some (p a, S) ∧ (p a = true → me ρ1 S = some (g a, S))) → lcL t mt me ρ (as.map f) S = some ((as.filter p).map g, S)
  | [], _ => rfl
  | a :: as, h => by
    obtain ⟨ρ1, e1, e2, e3⟩ := h a List.mem_cons_self
    have ih := lc_map f g p (as := as) fun y hy => h y (List.mem_cons_of_mem _ hy)
    rw [List.map_cons]
    unfold lcL
    rw [e1]
    simp only [e2]
    cases c : p a with
    | true => simp only [e3 c, ih, List.filter_cons, c, if_true, List.map_cons]
    | false => simp only [ih, List.filter_cons, c, Bool.false_eq_true, if_false]
theorem lc_all {α : Type} {t : Tg} {me : ME} (f g : α → PV) : ∀ {as : List α}, (∀ a ∈ as, ∃ ρ1, t.put (f a) ρ = some ρ1 ∧ me ρ1 S = some (g a, S)) → lcL t mYes me ρ (as.map f) S = some (as.map g, S)
  | [], _ => rfl
  | a :: as, h => by
    obtain ⟨ρ1, e1, e3⟩ := h a List.mem_cons_self
    have ih := lc_all f g (as := as) fun y hy => h y (List.mem_cons_of_mem _ hy)
    rw [List.map_cons]
    unfold lcL
    rw [e1]
    simp only [e_yes, e3, ih, List.map_cons]
/-- a loop, by what holds behind a part of it -/
theorem for_hist {α : Type} {t : Tg} {mb : MS} (f : α → PV) (as : List α) (P : List α → List SlV → List PV → Prop) (h : ∀ d a r ρ S, as = d ++ a :: r → P d ρ S → ∃ ρ1 ρ2 S2, t.put (f a) ρ = some ρ1 ∧ mb ρ1 S = some (.nx ρ2 S2) ∧ P (d ++ [a]) ρ2 S2) : ∀ (r d : List α) (ρ : List SlV) (S : List PV), as = d ++ r → P d ρ S → ∃ ρ' S', forL t mb (r.map f) ρ S = some (.nx ρ' S') ∧ P as ρ' S'
  | [], d, ρ, S, e, p => ⟨ρ, S, rfl, by rw [e, List.append_nil]; exact p⟩
  | a :: r, d, ρ, S, e, p => by
    obtain ⟨ρ1, ρ2, S2, e1, e2, p2⟩ := h d a r ρ S e p
    obtain ⟨ρ', S', e', p'⟩ := for_hist f as P h r (d ++ [a]) ρ2 S2 (by rw [e]; simp) p2
    refine ⟨ρ', S', ?_, p'⟩
    rw [List.map_cons]
    unfold forL
    rw [e1]
    simp only [e2]
    exact e'
end
end BL

namespace BL
open PySem PySem.Spec PyProof.Rows L2
theorem erase_perm {α : Type} : ∀ {P : List α} {q : Nat} (h : q < P.length), (P[q] :: P.eraseIdx q).Perm P
  | x :: P, 0, _ => .refl _
  | x :: P, q + 1, h => by
    have ih := erase_perm (P := P) (q := q) (by simp at h; omega)
    exact (List.Perm.swap _ _ _).trans (ih.cons x)
theorem erase_map {α β : Type} (f : α → β) : ∀ (P : List α) (q : Nat), (P.map f).eraseIdx q = (P.eraseIdx q).map f
  | [], _ => rfl
  | x :: P, 0 => rfl
  | x :: P, q + 1 => by
    show f x :: (P.map f).eraseIdx q = f x :: (P.eraseIdx q).map f
    rw [erase_map f P q]
theorem ixP_nat {m q : Nat} (h : q < m) : ixP m (q : Int) = some q := by
  unfold ixP
  rw [if_pos (by omega), if_pos (by omega), Int.toNat_natCast]
theorem s_appPop {ρ ρ1 : List SlV} {S S1 : List PV} {mi : ME} {i j : Nat} {α : Type} {f : α → PV} {P F : List α} {q : Nat} (h1 : mi ρ S = some (.int (q : Int), S1)) (hx : ρ[i]? = some (.own (.lst (P.map f)))) (hy : ρ[j]? = some (.own (.lst (F.map f)))) (c : i ≠ j) (lF : F.length ≤ 100000) (hq : q < P.length) (lP : P.length ≤ 100000)
    (hw : (ρ.set i (.own (.lst ((P.eraseIdx q).map f)))).set j (.own (.lst ((F ++ [P[q]]).map f))) = ρ1) : mAppPop j i mi ρ S = some (.nx ρ1 S1) := by
  have at' : (P.map f)[q]? = some (f P[q]) := by
    rw [List.getElem?_map, List.getElem?_eq_getElem hq]
    rfl
  have ap : F.map f ++ [f P[q]] = (F ++ [P[q]]).map f := by rw [List.map_append]; rfl
  have ix : ixP (P.map f).length (q : Int) = some q := ixP_nat (by rw [List.length_map]; exact hq)
  have cc : i ≠ j ∧ (F.map f).length ≤ 100000 ∧ -(2 ^ 62) ≤ (q : Int) ∧ (q : Int) < 2 ^ 62 := ⟨c, by rw [List.length_map]; exact lF, by omega, by omega⟩
  rw [e_appPop, h1]
  simp only [hx, hy]
  rw [if_pos cc]
  simp only [ix, at', erase_map, ap, hw]
end BL

namespace BL
open PySem PySem.Spec PyProof.Rows L2
/-! == of plain trees -/
mutual
/-- plain, at most so deep -/
def PV.pl : Nat → PV → Bool
  | _, .non => true
  | _, .int _ => true
  | _, .str x => PyData.canLay0 (.str x)
  | _, .bl _ => true
  | n + 1, .lst xs => plL n xs
  | n + 1, .tup xs => plL n xs
  | _, _ => false
def plL : Nat → List PV → Bool
  | _, [] => true
  | n, x :: xs => PV.pl n x && plL n xs
end
mutual
/-- no True, no False in it -/
def PV.nb : PV → Bool
  | .bl _ => false
  | .lst xs => nbL xs
  | .tup xs => nbL xs
  | _ => true
def nbL : List PV → Bool
  | [] => true
  | x :: xs => PV.nb x && nbL xs
end
mutual
theorem pl_toD : ∀ (n : Nat) (x : PV), x.pl n = true → ∃ d, x.toD = some d ∧ d.canLay0 = true ∧ d.depth ≤ n
  | n, .non, _ => ⟨.none, by simp [PV.toD], rfl, by simp [PyData.depth]⟩
  | n, .int i, _ => ⟨.int i, by simp [PV.toD], rfl, by simp [PyData.depth]⟩
  | n, .str i, h => ⟨.str i, by simp [PV.toD], by cases n <;> simpa [PV.pl] using h, by simp [PyData.depth]⟩
  | n, .bl i, _ => ⟨.bool i, by simp [PV.toD], rfl, by simp [PyData.depth]⟩
  | 0, .lst xs, h => by simp [PV.pl] at h
  | 0, .tup xs, h => by simp [PV.pl] at h
  | n + 1, .lst xs, h => by
    obtain ⟨ds, e, c, d⟩ := plL_toD n xs (by simpa [PV.pl] using h)
    exact ⟨.list ds, by simp [PV.toD, e], by simp [PyData.canLay0, c], by simp [PyData.depth]; omega⟩
  | n + 1, .tup xs, h => by
    obtain ⟨ds, e, c, d⟩ := plL_toD n xs (by simpa [PV.pl] using h)
    exact ⟨.tuple ds, by simp [PV.toD, e], by simp [PyData.canLay0, c], by simp [PyData.depth]; omega⟩
  | n, .way _ _ _, h => by cases n <;> simp [PV.pl] at h
  | n, .mref _, h => by cases n <;> simp [PV.pl] at h
  | n, .dic _, h => by cases n <;> simp [PV.pl] at h
theorem plL_toD : ∀ (n : Nat) (xs : List PV), plL n xs = true → ∃ ds, PV.toD.toDs xs = some ds ∧ PyData.canLayAll0 ds = true ∧ PyData.depthAll ds ≤ n
  | n, [], _ => ⟨[], by simp [PV.toD.toDs], rfl, by simp [PyData.depthAll]⟩
  | n, x :: xs, h => by
    rw [plL, Bool.and_eq_true] at h
    obtain ⟨d, e1, c1, d1⟩ := pl_toD n x h.1
    obtain ⟨ds, e2, c2, d2⟩ := plL_toD n xs h.2
    exact ⟨d :: ds, by simp [PV.toD.toDs, e1, e2], by simp [PyData.canLayAll0, c1, c2], by simp [PyData.depthAll]; omega⟩
end
theorem pl_sh {n : Nat} {d : PyData} (h : n ≤ 64) (c : d.canLay0 = true) (l : d.depth ≤ n) : SeqAt.shaped d = true := by
  unfold SeqAt.shaped
  rw [c, Bool.true_and, decide_eq_true_eq]
  omega
mutual
theorem eqv_iff : ∀ (x y : PV) (d e : PyData), x.nb = true → y.nb = true → x.toD = some d → y.toD = some e → (PyData.eqv d e = true ↔ x = y)
  | .non, y, d, e, h1, h2, e1, e2 => by
    cases y <;> simp [PV.toD, PV.nb] at e1 e2 h2 <;> first | (subst e1; subst e2; simp [PyData.eqv]; done) | (split at e2 <;> simp at e2; subst e1; subst e2; simp [PyData.eqv])
  | .bl b, y, d, e, h1, h2, e1, e2 => by simp [PV.nb] at h1
  | .int i, y, d, e, h1, h2, e1, e2 => by
    cases y <;> simp [PV.toD, PV.nb] at e1 e2 h2 <;> first | (subst e1; subst e2; simp [PyData.eqv]; done) | (split at e2 <;> simp at e2; subst e1; subst e2; simp [PyData.eqv])
  | .str i, y, d, e, h1, h2, e1, e2 => by
    cases y <;> simp [PV.toD, PV.nb] at e1 e2 h2 <;> first | (subst e1; subst e2; simp [PyData.eqv]; done) | (split at e2 <;> simp at e2; subst e1; subst e2; simp [PyData.eqv])
  | .lst xs, y, d, e, h1, h2, e1, e2 => by
    rw [PV.nb] at h1
    cases a : PV.toD.toDs xs with
    | none => simp [PV.toD, a] at e1
    | some ds =>
      simp [PV.toD, a] at e1
      subst e1
      cases y <;> simp [PV.toD, PV.nb] at e2 h2 <;> first | (subst e2; simp [PyData.eqv]; done) | skip
      · rename_i ys
        cases b : PV.toD.toDs ys with
        | none => simp [b] at e2
        | some es =>
          simp [b] at e2
          subst e2
          have := eqvL_iff xs ys ds es h1 h2 a b
          simp [PyData.eqv, this]
      · split at e2 <;> simp at e2
        subst e2
        simp [PyData.eqv]
  | .tup xs, y, d, e, h1, h2, e1, e2 => by
    rw [PV.nb] at h1
    cases a : PV.toD.toDs xs with
    | none => simp [PV.toD, a] at e1
    | some ds =>
      simp [PV.toD, a] at e1
      subst e1
      cases y <;> simp [PV.toD, PV.nb] at e2 h2 <;> first | (subst e2; simp [PyData.eqv]; done) | skip
      · split at e2 <;> simp at e2
        subst e2
        simp [PyData.eqv]
      · rename_i ys
        cases b : PV.toD.toDs ys with
        | none => simp [b] at e2
        | some es =>
          simp [b] at e2
          subst e2
          have := eqvL_iff xs ys ds es h1 h2 a b
          simp [PyData.eqv, this]
  | .way _ _ _, y, d, e, h1, h2, e1, e2 => by simp [PV.toD] at e1
  | .mref _, y, d, e, h1, h2, e1, e2 => by simp [PV.toD] at e1
  | .dic _, y, d, e, h1, h2, e1, e2 => by simp [PV.toD] at e1
theorem eqvL_iff : ∀ (xs ys : List PV) (ds es : List PyData), nbL xs = true → nbL ys = true → PV.toD.toDs xs = some ds → PV.toD.toDs ys = some es → (PyData.eqvAll ds es = true ↔ xs = ys)
  | [], ys, ds, es, _, h2, e1, e2 => by
    simp [PV.toD.toDs] at e1
    subst e1
    cases ys with
    | nil => simp [PV.toD.toDs] at e2; subst e2; simp [PyData.eqvAll]
    | cons y ys =>
      cases a : y.toD <;> cases b : PV.toD.toDs ys <;> simp [PV.toD.toDs, a, b] at e2
      subst e2
      simp [PyData.eqvAll]
  | x :: xs, ys, ds, es, h1, h2, e1, e2 => by
    rw [nbL, Bool.and_eq_true] at h1
    cases a : x.toD <;> cases b : PV.toD.toDs xs <;> simp [PV.toD.toDs, a, b] at e1
    subst e1
    cases ys with
    | nil => simp [PV.toD.toDs] at e2; subst e2; simp [PyData.eqvAll]
    | cons y ys =>
      rw [nbL, Bool.and_eq_true] at h2
      cases a' : y.toD <;> cases b' : PV.toD.toDs ys <;> simp [PV.toD.toDs, a', b'] at e2
      subst e2
      have i1 := eqv_iff x y _ _ h1.1 h2.1 a a'
      have i2 := eqvL_iff xs ys _ _ h1.2 h2.2 b b'
      rw [PyData.eqvAll, Bool.and_eq_true, i1, i2]
      simp
end
theorem eqP_refl {x : PV} (h : x.pl 60 = true) : eqP x x = some true := by
  obtain ⟨d, e, c, l⟩ := pl_toD 60 x h
  have s := pl_sh (by decide) c l
  unfold eqP
  cases q : x.scal x with
  | some b => cases x <;> simp [PV.scal] at q <;> (subst q; rfl)
  | none =>
    simp only [e, s, Bool.and_self, if_true]
    rw [SeqAt.eqv_refl d c]
theorem eqP_iff {x y : PV} (h1 : x.pl 60 = true) (h2 : y.pl 60 = true) (n1 : x.nb = true) (n2 : y.nb = true) : ∃ b, eqP x y = some b ∧ (b = true ↔ x = y) := by
  obtain ⟨d, e, c, l⟩ := pl_toD 60 x h1
  obtain ⟨d', e', c', l'⟩ := pl_toD 60 y h2
  have s := pl_sh (by decide) c l
  have s' := pl_sh (by decide) c' l'
  have k := eqv_iff x y d d' n1 n2 e e'
  have g : ∀ b, (match x.toD, y.toD with | some d, some e => if SeqAt.shaped d && SeqAt.shaped e then some (PyData.eqv d e) else none | _, _ => none) = some b → b = PyData.eqv d d' := fun b hb => by
    simp only [e, e', s, s', Bool.and_self, if_true] at hb
    exact (Option.some.inj hb).symm
  unfold eqP
  cases q : x.scal y with
  | some b =>
    refine ⟨b, rfl, ?_⟩
    cases x <;> cases y <;> simp [PV.scal] at q <;> (subst q; simp)
  | none =>
    exact ⟨PyData.eqv d d', by simp only [e, e', s, s', Bool.and_self, if_true], k⟩
theorem feq_refl {x : PV} (h : x.pl 60 = true) (S : List PV) : fEq S x x = some (.bl true) := by unfold fEq; rw [eqP_refl h]
theorem fne_refl {x : PV} (h : x.pl 60 = true) (S : List PV) : fNe S x x = some (.bl false) := by unfold fNe; rw [eqP_refl h]; rfl
theorem feq_f {x y : PV} (h1 : x.pl 60 = true) (h2 : y.pl 60 = true) (n1 : x.nb = true) (n2 : y.nb = true) (ne : x ≠ y) (S : List PV) : fEq S x y = some (.bl false) := by
  obtain ⟨b, e, k⟩ := eqP_iff h1 h2 n1 n2
  unfold fEq
  rw [e]
  cases b
  · rfl
  · exact absurd (k.mp rfl) ne
theorem fne_t {x y : PV} (h1 : x.pl 60 = true) (h2 : y.pl 60 = true) (n1 : x.nb = true) (n2 : y.nb = true) (ne : x ≠ y) (S : List PV) : fNe S x y = some (.bl true) := by
  obtain ⟨b, e, k⟩ := eqP_iff h1 h2 n1 n2
  unfold fNe
  rw [e]
  cases b
  · rfl
  · exact absurd (k.mp rfl) ne
theorem plL_all {n : Nat} : ∀ {xs : List PV}, (∀ x ∈ xs, x.pl n = true) → plL n xs = true
  | [], _ => rfl
  | x :: xs, h => by rw [plL, h x List.mem_cons_self, plL_all fun y hy => h y (List.mem_cons_of_mem _ hy)]; rfl
theorem nbL_all : ∀ {xs : List PV}, (∀ x ∈ xs, x.nb = true) → nbL xs = true
  | [], _ => rfl
  | x :: xs, h => by rw [nbL, h x List.mem_cons_self, nbL_all fun y hy => h y (List.mem_cons_of_mem _ hy)]; rfl
mutual
theorem pl_up : ∀ (n : Nat) (x : PV), x.pl n = true → x.pl (n + 1) = true
  | n, .non, _ => by simp [PV.pl]
  | n, .int i, _ => by simp [PV.pl]
  | n, .str i, h => by cases n <;> simpa [PV.pl] using h
  | n, .bl i, _ => by simp [PV.pl]
  | 0, .lst xs, h => by simp [PV.pl] at h
  | 0, .tup xs, h => by simp [PV.pl] at h
  | n + 1, .lst xs, h => by rw [PV.pl] at h ⊢; exact plL_up n xs h
  | n + 1, .tup xs, h => by rw [PV.pl] at h ⊢; exact plL_up n xs h
  | n, .way _ _ _, h => by cases n <;> simp [PV.pl] at h
  | n, .mref _, h => by cases n <;> simp [PV.pl] at h
  | n, .dic _, h => by cases n <;> simp [PV.pl] at h
theorem plL_up : ∀ (n : Nat) (xs : List PV), plL n xs = true → plL (n + 1) xs = true
  | n, [], _ => rfl
  | n, x :: xs, h => by
    rw [plL, Bool.and_eq_true] at h ⊢
    exact ⟨pl_up n x h.1, plL_up n xs h.2⟩
end
theorem pl_le {n m : Nat} {x : PV} (h : x.pl n = true) (l : n ≤ m) : x.pl m = true := by
  induction l with
  | refl => exact h
  | step _ ih => exact pl_up _ _ ih
/-! the law's own `same` -/
mutual
theorem same_self : ∀ (n : Nat) (x : PV), x.pl n = true → x.same x = true
  | n, .non, _ => by simp [PV.same]
  | n, .int i, _ => by simp [PV.same]
  | n, .str i, _ => by simp [PV.same]
  | n, .bl i, _ => by simp [PV.same]
  | 0, .lst xs, h => by simp [PV.pl] at h
  | 0, .tup xs, h => by simp [PV.pl] at h
  | n + 1, .lst xs, h => by rw [PV.pl] at h; rw [PV.same]; exact sameL_self n xs h
  | n + 1, .tup xs, h => by rw [PV.pl] at h; rw [PV.same]; exact sameL_self n xs h
  | n, .way _ _ _, h => by cases n <;> simp [PV.pl] at h
  | n, .mref _, h => by cases n <;> simp [PV.pl] at h
  | n, .dic _, h => by cases n <;> simp [PV.pl] at h
theorem sameL_self : ∀ (n : Nat) (xs : List PV), plL n xs = true → sameL xs xs = true
  | n, [], _ => by simp [sameL]
  | n, x :: xs, h => by
    rw [plL, Bool.and_eq_true] at h
    rw [sameL, same_self n x h.1, sameL_self n xs h.2]
    rfl
end
theorem fsame {n : Nat} {x : PV} (h : x.pl 60 = true) (d : x.deep n = true) (S : List PV) : fSame n S [x, x] = some (.bl true) := by
  show (if x.same x && x.deep n then some (PV.bl true) else none) = _
  rw [same_self 60 x h, d]
  rfl
end BL

namespace BL
open PySem PySem.Spec PyProof.Rows L2
theorem held_ok (l : Int) (lo hi : Option Int) (h : leO lo hi) (S : List PV) : m_held [.int l, PO' lo, PO' hi] S = some (.int (bnd l lo hi), S) := by
  cases lo with
  | none =>
    cases hi with
    | none => simp [m_held, e_def, m_heldB, bnd]
    | some b => by_cases c : b < l <;> simp [m_held, e_def, m_heldB, bnd, c]
  | some a =>
    cases hi with
    | none => by_cases c : l < a <;> simp [m_held, e_def, m_heldB, bnd, c]
    | some b =>
      have := h a b rfl rfl
      by_cases c : l < a
      · simp [m_held, e_def, m_heldB, bnd, c]
        omega
      · by_cases d : b < l <;> simp [m_held, e_def, m_heldB, bnd, c, d]
theorem led_ok {s f c : Option Int} (h : wfW s f c) (x : Int) (S : List PV) : m_led [.way s f c, .int x] S = some (.int (ld s f c x), S) := by
  cases s with
  | none =>
    obtain ⟨a, rfl, rfl⟩ := h.2.1 rfl
    simp [m_led, e_def, m_ledB, ld]
  | some s => simp [m_led, e_def, m_ledB, ld, held_ok _ _ _ h.1]
theorem call_ok {s f c : Option Int} (h : wfW s f c) (x : Int) (S : List PV) : m_call [.way s f c, .int x] S = some (.int (ld s f c x), S) := by
  simp [m_call, e_def, m_callB, led_ok h]
theorem ix_box {T : List PV} {n : Nat} {a b c : Int} (h : T[n]? = some (.lst [.int a, .int b, .int c])) : fIx T (.mref n) (.int 0) = some (.int a) ∧ fIx T (.mref n) (.int 1) = some (.int b) ∧ fIx T (.mref n) (.int 2) = some (.int c) := by
  simp [fIx, h, ixP]
theorem take_ok {S : List PV} {n : Nat} {z m : Int} (h : BoxAt S n z) (hz : z ≤ 1000000000) (m0 : 0 < m) (m1 : m < 1000000000) :
    ∃ r S', m_law_take [.mref n, .int m] S = some (.int r, S') ∧ 0 ≤ r ∧ r < m ∧ BoxAt S' n (z + 1) := by
  obtain ⟨x, y, z', e, z0, z1⟩ := h
  have hl : n < S.length := (List.getElem?_eq_some_iff.mp e).1
  obtain ⟨a0, a1, a2⟩ := ix_box e
  have mm : m.natAbs < 2 ^ 4000 := Nat.lt_of_lt_of_le (show m.natAbs < 2 ^ 30 by omega) (Nat.pow_le_pow_right (by decide) (by decide))
  have b1 : (1000003 : Nat) < 2 ^ 4000 := Nat.lt_of_lt_of_le (show 1000003 < 2 ^ 30 by decide) (Nat.pow_le_pow_right (by decide) (by decide))
  have b2 : (64 : Nat) < 2 ^ 4000 := Nat.lt_of_lt_of_le (show 64 < 2 ^ 30 by decide) (Nat.pow_le_pow_right (by decide) (by decide))
  by_cases c : 0 < x
  · refine ⟨x % m, S.set n (.lst [.int (x / m), .int y, .int z']), ?_, Int.emod_nonneg _ (by omega), Int.emod_lt_of_pos _ m0, x / m, y, z', ?_, z0, by omega⟩
    · simp [m_law_take, e_def, m_law_takeB, a0, c, m0, mm, e, ixP]
    · rw [List.getElem?_set_self hl]
  · have e2 : (S.set n (.lst [.int x, .int y, .int (z' + 1)]))[n]? = some (.lst [.int x, .int y, .int (z' + 1)]) := List.getElem?_set_self hl
    obtain ⟨d0, d1, d2⟩ := ix_box e2
    have k1 : (39373 + (z' + 1)).natAbs < 2 ^ 64 := by omega
    have q1 := Int.emod_nonneg ((y + 48271 * (z' + 1)) * (39373 + (z' + 1))) (show (2147483647 : Int) ≠ 0 by decide)
    have q2 := Int.emod_lt_of_pos ((y + 48271 * (z' + 1)) * (39373 + (z' + 1))) (show (0 : Int) < 2147483647 by decide)
    generalize ew : (y + 48271 * (z' + 1)) * (39373 + (z' + 1)) % 2147483647 = w at q1 q2
    have q3 := Int.emod_nonneg w (show (40009 : Int) ≠ 0 by decide)
    have q4 := Int.emod_lt_of_pos w (show (0 : Int) < 40009 by decide)
    have k2 : (w % 40009 + 7).natAbs < 2 ^ 64 := by omega
    have ew' : (y + 48271 * (z' + 1)) * (39373 + (z' + 1)) % 2147483647 = w := ew
    refine ⟨_, S.set n (.lst [.int x, .int y, .int (z' + 1)]), ?_, Int.emod_nonneg (((w + (z' + 1) + y / 1000003) * (w % 40009 + 7) % 2147483629 * 48271 + w) % 2147483587 / 64) (show m ≠ 0 by omega), Int.emod_lt_of_pos _ m0, x, y, z' + 1, e2, by omega, by omega⟩
    simp [m_law_take, e_def, m_law_takeB, a0, c, m0, mm, e, a2, ixP, d0, d1, d2, k1, ew', k2, b1, b2]
theorem of_ok {S xs : List PV} {n : Nat} {z : Int} (h : BoxAt S n z) (hz : z ≤ 1000000000) (hx : xs ≠ []) (hl : xs.length < 1000000) :
    ∃ (i : Nat) (v : PV) (S' : List PV), m_law_of [.mref n, .lst xs] S = some (v, S') ∧ xs[i]? = some v ∧ BoxAt S' n (z + 1) := by
  have h0 : 0 < xs.length := List.length_pos_iff.mpr hx
  obtain ⟨r, S', e, r0, r1, hB⟩ := take_ok (m := xs.length) h hz (by omega) (by omega)
  obtain ⟨i, rfl⟩ := Int.eq_ofNat_of_zero_le r0
  have hi : i < xs.length := by omega
  refine ⟨i, xs[i], S', ?_, List.getElem?_eq_getElem hi, hB⟩
  simp [m_law_of, e_def, m_law_ofB, e, ix_at (S := S') hi, List.getElem?_eq_getElem hi]
/-! loops by an invariant -/
theorem forL_inv {t : Tg} {mb : MS} (P : List SlV → List PV → Prop) : ∀ {xs : List PV} {ρ : List SlV} {S : List PV}, (∀ x ∈ xs, ∀ ρ S, P ρ S → ∃ ρ1 ρ2 S2, t.put x ρ = some ρ1 ∧ mb ρ1 S = some (.nx ρ2 S2) ∧ P ρ2 S2) → P ρ S → ∃ ρ' S', forL t mb xs ρ S = some (.nx ρ' S') ∧ P ρ' S'
  | [], ρ, S, _, p => ⟨ρ, S, rfl, p⟩
  | x :: xs, ρ, S, h, p => by
    obtain ⟨ρ1, ρ2, S2, e1, e2, p2⟩ := h x List.mem_cons_self ρ S p
    obtain ⟨ρ', S', e, p'⟩ := forL_inv P (xs := xs) (fun y hy => h y (List.mem_cons_of_mem _ hy)) p2
    refine ⟨ρ', S', ?_, p'⟩
    unfold forL
    rw [e1]
    simp only [e2]
    exact e
/-- a comprehension of draws -/
theorem lcL_inv {t : Tg} {mt : MT} {me : ME} {ρ : List SlV} (P : Nat → List PV → Prop) (Q : PV → Prop) : ∀ {xs : List PV} {k : Nat} {S : List PV}, (∀ x ∈ xs, ∀ j S, j < k + xs.length → P j S → ∃ ρ1 y S2, t.put x ρ = some ρ1 ∧ mt ρ1 S = some (true, S) ∧ me ρ1 S = some (y, S2) ∧ Q y ∧ P (j + 1) S2) → P k S →
    ∃ ys S', lcL t mt me ρ xs S = some (ys, S') ∧ ys.length = xs.length ∧ (∀ y ∈ ys, Q y) ∧ P (k + xs.length) S'
  | [], k, S, _, p => ⟨[], S, rfl, rfl, (fun _ h => by cases h), p⟩
  | x :: xs, k, S, h, p => by
    obtain ⟨ρ1, y, S2, e1, e2, e3, q, p2⟩ := h x List.mem_cons_self k S (by simp) p
    obtain ⟨ys, S', e, hl, hq, p'⟩ := lcL_inv P Q (xs := xs) (k := k + 1) (fun y hy j S hj => h y (List.mem_cons_of_mem _ hy) j S (by simp; omega)) p2
    refine ⟨y :: ys, S', ?_, by simp [hl], fun z hz => ?_, by simpa [Nat.add_assoc, Nat.add_comm 1] using p'⟩
    · unfold lcL
      rw [e1]
      simp only [e2, e3, e]
    · rcases List.mem_cons.mp hz with h | h
      · rw [h]; exact q
      · exact hq z h
/-- a comprehension that changes nothing -/
theorem lcL_pure {t : Tg} {mt : MT} {me : ME} {ρ : List SlV} {S : List PV} (p : PV → Bool) (g : PV → PV) : ∀ {xs : List PV}, (∀ x ∈ xs, ∃ ρ1, t.put x ρ = some ρ1 ∧ mt ρ1 S = some (p x, S) ∧ (p x = true → me ρ1 S = some (g x, S))) → lcL t mt me ρ xs S = some ((xs.filter p).map g, S)
  | [], _ => rfl
  | x :: xs, h => by
    obtain ⟨ρ1, e1, e2, e3⟩ := h x List.mem_cons_self
    have ih := lcL_pure p g (xs := xs) fun y hy => h y (List.mem_cons_of_mem _ hy)
    unfold lcL
    rw [e1]
    simp only [e2]
    cases c : p x with
    | true => simp only [e3 c, ih, List.filter_cons, c, if_true, List.map_cons]
    | false => simp [ih, List.filter_cons, c]
theorem rngP_mem : ∀ {n : Nat} {lo : Int} {x : PV}, x ∈ rngP lo n → ∃ i : Int, x = .int i ∧ lo ≤ i ∧ i < lo + n
  | n + 1, lo, x, h => by
    rcases List.mem_cons.mp h with h | h
    · exact ⟨lo, h, by omega, by omega⟩
    · obtain ⟨i, e, a, b⟩ := rngP_mem (n := n) h
      exact ⟨i, e, by omega, by omega⟩
theorem fway3 {s : Int} {f c : Option Int} (h : leO f c) (S : List PV) : fWay S [.int s, PO' f, PO' c] = some (.way (nrm (some s) f c) f c) := by
  have ok : okWb (some s) f c = true := by
    unfold okWb
    cases f with
    | none => rfl
    | some a =>
      cases c with
      | none => rfl
      | some b => simp [h a b rfl rfl]
  show way3 (.int s) (PO' f) (PO' c) = _
  unfold way3
  rw [oP_PO, oP_PO]
  show (if okWb (some s) f c = true then _ else _) = _
  rw [if_pos ok]
theorem wf3 {s : Int} {f c : Option Int} (h : leO f c) : okW (some s) f c := by
  unfold okW
  cases f with
  | none => exact fun z => by cases z
  | some a =>
    cases c with
    | none => exact fun z => by cases z
    | some b => exact ⟨h a b rfl rfl, fun z => by cases z⟩
theorem ld3 {s : Int} {f c : Option Int} (h : leO f c) (x : Int) : ld (nrm (some s) f c) f c x = bnd (x + s) f c := ld_nrm (wf3 h) x _ (fun a e => by cases e; rfl) (fun e => by cases e)
/-! loops by an invariant that counts -/
theorem forL_invN {t : Tg} {mb : MS} (P : Nat → List SlV → List PV → Prop) : ∀ {xs : List PV} {k : Nat} {ρ : List SlV} {S : List PV}, (∀ x ∈ xs, ∀ j ρ S, j < k + xs.length → P j ρ S → ∃ ρ1 ρ2 S2, t.put x ρ = some ρ1 ∧ mb ρ1 S = some (.nx ρ2 S2) ∧ P (j + 1) ρ2 S2) → P k ρ S → ∃ ρ' S', forL t mb xs ρ S = some (.nx ρ' S') ∧ P (k + xs.length) ρ' S'
  | [], k, ρ, S, _, p => ⟨ρ, S, rfl, p⟩
  | x :: xs, k, ρ, S, h, p => by
    obtain ⟨ρ1, ρ2, S2, e1, e2, p2⟩ := h x List.mem_cons_self k ρ S (by simp) p
    obtain ⟨ρ', S', e, p'⟩ := forL_invN P (xs := xs) (k := k + 1) (fun y hy j ρ S hj => h y (List.mem_cons_of_mem _ hy) j ρ S (by simp; omega)) p2
    refine ⟨ρ', S', ?_, by simpa [Nat.add_assoc, Nat.add_comm 1] using p'⟩
    unfold forL
    rw [e1]
    simp only [e2]
    exact e
/-! lists of ints read alike -/
def intL (ns : List Int) : PV := .lst (ns.map .int)
theorem toDs_int : ∀ ns : List Int, PV.toD.toDs (ns.map .int) = some (ns.map .int)
  | [] => rfl
  | n :: ns => by
    rw [List.map_cons, List.map_cons]
    unfold PV.toD.toDs
    rw [toDs_int ns]
    rfl
theorem lay_int : ∀ ns : List Int, PyData.canLayAll0 (ns.map .int) = true ∧ PyData.depthAll (ns.map .int) ≤ 1 ∧ PyData.eqvAll (ns.map .int) (ns.map .int) = true
  | [] => ⟨rfl, by decide, rfl⟩
  | n :: ns => by
    obtain ⟨h1, h2, h3⟩ := lay_int ns
    refine ⟨by simp [PyData.canLayAll0, PyData.canLay0, h1], ?_, by simp [PyData.eqvAll, PyData.eqv, h3]⟩
    simp [PyData.depthAll, PyData.depth]
    omega
theorem eqP_int (ns : List Int) : eqP (intL ns) (intL ns) = some true := by
  obtain ⟨h1, h2, h3⟩ := lay_int ns
  have e : (intL ns).toD = some (.list (ns.map .int)) := by
    unfold intL PV.toD
    rw [toDs_int]
  have sh : SeqAt.shaped (.list (ns.map .int)) = true := by
    unfold SeqAt.shaped
    simp [PyData.canLay0, h1, PyData.depth]
    omega
  unfold eqP
  rw [show (intL ns).scal (intL ns) = none from rfl]
  simp [e, sh, PyData.eqv, h3]
theorem ne_int (ns : List Int) (S : List PV) : fNe S (intL ns) (intL ns) = some (.bl false) := by
  unfold fNe
  rw [eqP_int]
  rfl
theorem eq_int (ns : List Int) (S : List PV) : fEq S (intL ns) (intL ns) = some (.bl true) := by
  unfold fEq
  rw [eqP_int]
def rngI (lo : Int) : Nat → List Int
  | 0 => []
  | n + 1 => lo :: rngI (lo + 1) n
theorem rngP_int : ∀ (n : Nat) (lo : Int), rngP lo n = (rngI lo n).map .int
  | 0, _ => rfl
  | n + 1, lo => by
    show _ :: _ = _ :: _
    rw [rngP_int n]
theorem ne_rng (lo : Int) (n : Nat) (S : List PV) : fNe S (.lst (rngP lo n)) (.lst (rngP lo n)) = some (.bl false) := by
  rw [rngP_int]
  exact ne_int _ S
/-- a part of a range -/
theorem rng_filter {p : PV → Bool} {a b : Int} (hp : ∀ i : Int, p (.int i) = (decide (a ≤ i) && decide (i ≤ b))) : ∀ (n : Nat) (lo : Int), (rngP lo n).filter p = rngP (max lo a) (min (lo + n - 1) b + 1 - max lo a).toNat
  | 0, lo => by
    rw [show (min (lo + (0 : Nat) - 1) b + 1 - max lo a).toNat = 0 by omega]
    rfl
  | n + 1, lo => by
    show (PV.int lo :: rngP (lo + 1) n).filter p = _
    rw [List.filter_cons, hp, rng_filter hp n (lo + 1)]
    by_cases c : a ≤ lo
    · by_cases d : lo ≤ b
      · rw [if_pos (by simp [c, d])]
        rw [show (min (lo + (n + 1 : Nat) - 1) b + 1 - max lo a).toNat = (min (lo + 1 + n - 1) b + 1 - max (lo + 1) a).toNat + 1 by omega, show max lo a = lo by omega, show max (lo + 1) a = lo + 1 by omega]
        rfl
      · rw [if_neg (by simp [c, d])]
        rw [show (min (lo + 1 + n - 1) b + 1 - max (lo + 1) a).toNat = 0 by omega, show (min (lo + (n + 1 : Nat) - 1) b + 1 - max lo a).toNat = 0 by omega]
        rfl
    · rw [if_neg (by simp [c])]
      rw [show max (lo + 1) a = a by omega, show max lo a = a by omega]
      congr 2
      omega
end BL

namespace BL
open PySem PySem.Spec PyProof.Rows L2
/-- read by the kernel -/
def isTr : Option (PV × List PV) → Bool
  | some (.bl true, []) => true
  | _ => false
theorem isTr_ok {o : Option (PV × List PV)} (h : isTr o = true) : o = some (.bl true, []) := by
  unfold isTr at h
  split at h
  · rfl
  · cases h
/-! the law's own def -/
def lawF (cc : Int) (right : List PV → List PV → Option (PV × List PV)) : MS := (mSeq (mAsg (.nm 3) (mCall (m_law_boxC cc) (mCons (mVar 1) (mCons (mVar 2) mNil))))
  (mIf (mNotT (mTru (mFn fAll (mCons (mLc (.nm 4) (mRng1 (mC (.int 1))) mYes (mCall right (mCons (mVar 3) mNil)) [4]) mNil)))) (mRet (mC (.bl false))) mSkip))
def lawR (cc : Int) (right : List PV → List PV → Option (PV × List PV)) : MS := (mSeq (mFor (.nm 2) (mRng1 (mFn fLen (mCons (mVar 1) mNil))) (lawF cc right)) (mRet (mC (.bl true))))
theorem box_ok {cc : Int} {cs : List Int} {k : Nat} (hk : k < cs.length) (h3 : cs.length ≤ 3) (S : List PV) : ∃ x y : Int, m_law_boxC cc [.lst (cs.map .int), .int (k : Int)] S = some (.mref S.length, S ++ [.lst [.int x, .int y, .int 0]]) := by
  have hx : (cs.map PV.int)[k]? = some (.int cs[k]) := by
    rw [List.getElem?_map, List.getElem?_eq_getElem hk]
    rfl
  have ix := (ix_at (S := S) (xs := cs.map PV.int) (k := k) (by rw [List.length_map]; exact hk)).2
  rw [hx] at ix
  have p18 : fPow S (.int 10) (.int 18) = some (.int 1000000000000000000) := rfl
  have hk' : (k : Int) < cs.length := by omega
  have k2 : (k : Int).natAbs < 2 ^ 64 := by omega
  by_cases c : (1000000000000000000 : Int) ≤ (if cs[k] < 0 then -cs[k] else cs[k])
  · exact ⟨_, _, by simp [m_law_boxC, e_def, m_law_boxCB, hk, ix, p18, c, k2]; exact ⟨rfl, rfl⟩⟩
  · exact ⟨_, _, by simp [m_law_boxC, e_def, m_law_boxCB, hk, ix, p18, c, k2]; exact ⟨rfl, rfl⟩⟩
theorem rng1_ok {ma : ME} {ρ : List SlV} {S S1 : List PV} {j : Int} (h : ma ρ S = some (.int j, S1)) (l : -1000000 ≤ j ∧ j ≤ 1000000) : mRng1 ma ρ S = some (rngP 0 j.toNat, S1) := by
  unfold mRng1
  rw [h]
  exact if_pos ⟨by omega, by omega⟩
theorem for_of {t : Tg} {mi : MI} {mb : MS} {ρ : List SlV} {S S1 : List PV} {xs : List PV} (h : mi ρ S = some (xs, S1)) : mFor t mi mb ρ S = forL t mb xs ρ S1 := by
  unfold mFor
  rw [h]
theorem seq_nx {ms mr : MS} {ρ ρ1 : List SlV} {S S1 : List PV} (h : ms ρ S = some (.nx ρ1 S1)) : mSeq ms mr ρ S = mr ρ1 S1 := by
  unfold mSeq
  rw [h]
theorem rest_ok {cc : Int} {right : List PV → List PV → Option (PV × List PV)} (hr : ∀ (S : List PV) (n : Nat), BoxAt S n 0 → ∃ S', right [.mref n] S = some (.bl true, S')) (cs : List Int) (h3 : cs.length ≤ 3) :
    ∃ S, lawR cc right [.un, .val (.lst (cs.map .int)), .un, .un, .un] [] = some (.rt (.bl true) S) := by
  obtain ⟨ρ', S', e, _⟩ := forL_inv (t := .nm 2) (mb := lawF cc right) (fun ρ T => ∃ v2 v3 v4, ρ = [.un, .val (.lst (cs.map .int)), v2, v3, v4]) (xs := rngP 0 cs.length) (ρ := [.un, .val (.lst (cs.map .int)), .un, .un, .un]) (S := []) (fun x hx ρ T hp => by
    obtain ⟨v2, v3, v4, rfl⟩ := hp
    obtain ⟨i, rfl, i0, i1⟩ := rngP_mem hx
    obtain ⟨k, rfl⟩ := Int.eq_ofNat_of_zero_le i0
    obtain ⟨x, y, eb⟩ := box_ok (cc := cc) (k := k) (by omega) h3 T
    obtain ⟨S', er⟩ := hr (T ++ [.lst [.int x, .int y, .int 0]]) T.length ⟨x, y, 0, by simp, by omega, by omega⟩
    refine ⟨[.un, .val (.lst (cs.map .int)), .val (.int k), v3, v4], [.un, .val (.lst (cs.map .int)), .val (.int k), .val (.mref T.length), v4], S', by simp, ?_, _, _, _, rfl⟩
    simp [lawF, eb, rngP, lcL, wipM, er, fAll, bls]) ⟨_, _, _, rfl⟩
  refine ⟨S', ?_⟩
  have hr1 := rng1_ok (ma := mFn fLen (mCons (mVar 1) mNil)) (ρ := [.un, .val (.lst (cs.map .int)), .un, .un, .un]) (S := []) (S1 := []) (j := cs.length) (by simp) ⟨by omega, by omega⟩
  rw [Int.toNat_natCast] at hr1
  exact seq_nx ((for_of hr1).trans e)
theorem law_read {K : PySem.W.Frag} {C : Addr} {hand : List PV → List PV → Option (PV × List PV)} {rest : MS} (hh : hand [] [] = some (.bl true, [])) (hr : ∀ cs : List Int, cs.length ≤ 3 → ∃ S, rest [.un, .val (.lst (cs.map .int)), .un, .un, .un] [] = some (.rt (.bl true) S)) {a : Addr} {ns : List Int} {H : Hp} {Q : VK} (hS : SqL K H a (ns.map V.int)) (hl : ns.length ≤ 63) (q : ∀ H', Q (.bl true) H') :
    (tSeq (tIfS (tNot (tB (tCall (spM K C hand) [] C8.E0 tNil))) (tRet (tC (.bl false))) tNext) (tSeq (tAsg (tCall (spCells K) [] C8.E0 (tCons (tVar 0) (tCons (tC (.int 3)) tNil))) (gName 1)) (tMS K C rest))) { nx := fun _ H' => Q .non H', rt := Q } [some (.ref a), none, none, none, none] H := by
  refine ⟨⟨fun _ => none, H, []⟩, [], [], .bl true, [], rfl, ⟨(fun _ _ h => by cases h), rfl, List.nodup_nil, fun n a x h => absurd (show ([] : List Addr)[n]? = some a from h) (by simp)⟩, .nil, hh, fun v W' g i r => ?_⟩
  cases r
  have s1 : Same H W'.H := fun p o e => g.h p o e (by simp)
  refine ⟨true, rfl, iteF ?_⟩
  refine ⟨_, rfl, a, ns, rfl, s1.seq hS, hl, fun p cs H2 s2 np ep lp => ?_⟩
  obtain ⟨S, eS⟩ := hr cs lp
  have hm : ∀ (cs : List Int) (F : Hp), RepAll K C F [] (cs.map V.int) (cs.map PV.int) := fun cs F => by
    induction cs with
    | nil => exact .nil
    | cons c cs ih => exact .cons (.int c) ih
  refine ⟨⟨fun b => if b = p then some (.lst (cs.map V.int)) else none, H2, []⟩, ⟨fun b => if b = p then some (.lst (cs.map V.int)) else none, H2, []⟩, _, [], _, rfl, ⟨Gro.refl _, ⟨fun b o e => ?_, rfl, List.nodup_nil, fun n a x h => absurd (show ([] : List Addr)[n]? = some a from h) (by simp)⟩, rfl, fun j sl hj => ?_, fun j k x y b h1 _ _ _ => ?_⟩, eS, fun v W2 g2 i2 r2 => by cases r2; exact q _⟩
  · change (if b = p then some (HO.lst (cs.map V.int)) else none) = some o at e
    split at e
    · rename_i hb
      rw [hb, ← e]
      exact ep
    · cases e
  · rcases j with _ | _ | _ | _ | _ | j <;> simp at hj
    · subst hj; trivial
    · subst hj
      exact ⟨_, rfl, .lst (by show (if p = p then _ else _) = _; rw [if_pos rfl]) (hm cs _)⟩
    · subst hj; trivial
    · subst hj; trivial
    · subst hj; trivial
  · rcases j with _ | _ | _ | _ | _ | j <;> simp at h1
end BL

namespace BL
open PySem PySem.Spec PyProof.Rows L2
def nxP (o : Option Ou) (P : List SlV → List PV → Prop) : Prop := match o with
  | some (.nx ρ S) => P ρ S
  | _ => False
@[simp] theorem nxP_nx (ρ : List SlV) (S : List PV) (P : List SlV → List PV → Prop) : nxP (some (.nx ρ S)) P = P ρ S := rfl
theorem nxP_ex {o : Option Ou} {P : List SlV → List PV → Prop} (h : nxP o P) : ∃ ρ S, o = some (.nx ρ S) ∧ P ρ S := by
  unfold nxP at h
  split at h
  · exact ⟨_, _, rfl, h⟩
  · exact h.elim
/-! other forms of the law's own def -/
def lawAll (cc : Int) (right : List PV → List PV → Option (PV × List PV)) : MS := mRet (mFn fAll (mCons (mLc (.nm 2) (mRng1 (mFn fLen (mCons (mVar 1) mNil))) mYes (mCall right (mCons (mCall (m_law_boxC cc) (mCons (mVar 1) (mCons (mVar 2) mNil))) mNil)) [2]) mNil))
def lawIf (hand : List PV → List PV → Option (PV × List PV)) : MS := mIf (mNotT (mTru (mCall hand mNil))) (mRet (mC (.bl false))) mSkip
theorem all_true : ∀ {ys : List PV}, (∀ y ∈ ys, y = .bl true) → ∃ bs, bls ys = some bs ∧ bs.all id = true
  | [], _ => ⟨[], rfl, rfl⟩
  | y :: ys, h => by
    obtain ⟨bs, e, a⟩ := all_true (ys := ys) fun z hz => h z (List.mem_cons_of_mem _ hz)
    have := h y List.mem_cons_self
    subst this
    exact ⟨true :: bs, by simp [bls, e], by simp at a ⊢; exact a⟩
theorem fAll_true {S ys : List PV} (h : ∀ y ∈ ys, y = .bl true) : fAll S [.lst ys] = some (.bl true) := by
  obtain ⟨bs, e, a⟩ := all_true h
  simp only [fAll, e, a]
theorem lc_at {t : Tg} {mi : MI} {mt : MT} {me : ME} {vs : List Nat} {ρ : List SlV} {S S1 S2 xs ys : List PV} (h1 : mi ρ S = some (xs, S1)) (h2 : lcL t mt me (wipM ρ vs) xs S1 = some (ys, S2)) (hl : ys.length ≤ 100000) : mLc t mi mt me vs ρ S = some (.lst ys, S2) := by
  unfold mLc
  rw [h1]
  show (match lcL t mt me (wipM ρ vs) xs S1 with | some (ys, S2) => if ys.length ≤ 100000 then some (PV.lst ys, S2) else none | none => none) = _
  rw [h2]
  exact if_pos hl
theorem ret_all {L : ME} {ρ : List SlV} {S S' ys : List PV} (e : L ρ S = some (.lst ys, S')) (h : ∀ y ∈ ys, y = .bl true) : mRet (mFn fAll (mCons L mNil)) ρ S = some (.rt (.bl true) S') := by
  have e1 : mCons L mNil ρ S = some ([.lst ys], S') := by
    rw [e_cons, e]
    rfl
  have e2 : mFn fAll (mCons L mNil) ρ S = some (.bl true, S') := by
    rw [e_fn, e1]
    show (match fAll S' [.lst ys] with | some z => some (z, S') | none => none) = _
    rw [fAll_true h]
  rw [e_ret, e2]
theorem all_ok {cc : Int} {right : List PV → List PV → Option (PV × List PV)} (hr : ∀ (S : List PV) (n : Nat), BoxAt S n 0 → ∃ S', right [.mref n] S = some (.bl true, S')) (cs : List Int) (h3 : cs.length ≤ 3) :
    ∃ S, lawAll cc right [.un, .val (.lst (cs.map .int)), .un] [] = some (.rt (.bl true) S) := by
  have turn : ∀ x ∈ rngP 0 cs.length, ∀ (j : Nat) (T : List PV), j < 0 + (rngP 0 cs.length).length → True → ∃ ρ1 y S2, (Tg.nm 2).put x [.un, .val (.lst (cs.map .int)), .un] = some ρ1 ∧ mYes ρ1 T = some (true, T) ∧ mCall right (mCons (mCall (m_law_boxC cc) (mCons (mVar 1) (mCons (mVar 2) mNil))) mNil) ρ1 T = some (y, S2) ∧ y = .bl true ∧ True := fun x hx j T hj hp => by
    obtain ⟨i, rfl, i0, i1⟩ := rngP_mem hx
    obtain ⟨k, rfl⟩ := Int.eq_ofNat_of_zero_le i0
    obtain ⟨x, y, eb⟩ := box_ok (cc := cc) (k := k) (by omega) h3 T
    obtain ⟨S', er⟩ := hr (T ++ [.lst [.int x, .int y, .int 0]]) T.length ⟨x, y, 0, by simp, by omega, by omega⟩
    exact ⟨[.un, .val (.lst (cs.map .int)), .val (.int k)], .bl true, S', by simp, rfl, by simp [eb, er], rfl, trivial⟩
  obtain ⟨ys, S', e, hl, hq, _⟩ := lcL_inv (fun _ _ => True) (fun y => y = .bl true) (k := 0) (S := []) turn trivial
  rw [rngP_len] at hl
  have hr1 := rng1_ok (ma := mFn fLen (mCons (mVar 1) mNil)) (ρ := [.un, .val (.lst (cs.map .int)), .un]) (S := []) (S1 := []) (j := cs.length) (by simp) ⟨by omega, by omega⟩
  rw [Int.toNat_natCast] at hr1
  exact ⟨S', ret_all (lc_at hr1 e (by omega)) hq⟩
theorem ifall_ok {cc : Int} {hand right : List PV → List PV → Option (PV × List PV)} (hh : hand [] [] = some (.bl true, [])) (hr : ∀ (S : List PV) (n : Nat), BoxAt S n 0 → ∃ S', right [.mref n] S = some (.bl true, S')) (cs : List Int) (h3 : cs.length ≤ 3) :
    ∃ S, mSeq (lawIf hand) (lawAll cc right) [.un, .val (.lst (cs.map .int)), .un] [] = some (.rt (.bl true) S) := by
  obtain ⟨S, e⟩ := all_ok (cc := cc) hr cs h3
  have e1 : lawIf hand [.un, .val (.lst (cs.map .int)), .un] [] = some (.nx [.un, .val (.lst (cs.map .int)), .un] []) := by
    unfold lawIf
    simp only [e_if, e_notT, e_tru, e_call, e_nil, hh, e_skip]
    rfl
  exact ⟨S, (seq_nx e1).trans e⟩
/-- cells first -/
theorem law_readB {K : PySem.W.Frag} {C : Addr} {rest : MS} {k : Nat} (hr : ∀ cs : List Int, cs.length ≤ 3 → ∃ S, rest (.un :: .val (.lst (cs.map .int)) :: List.replicate k .un) [] = some (.rt (.bl true) S)) {a : Addr} {ns : List Int} {H : Hp} {Q : VK} (hS : SqL K H a (ns.map V.int)) (hl : ns.length ≤ 63) (q : ∀ H', Q (.bl true) H') :
    (tSeq (tAsg (tCall (spCells K) [] C8.E0 (tCons (tVar 0) (tCons (tC (.int 3)) tNil))) (gName 1)) (tMS K C rest)) { nx := fun _ H' => Q .non H', rt := Q } (some (.ref a) :: none :: List.replicate k none) H := by
  refine ⟨_, rfl, a, ns, rfl, hS, hl, fun p cs H2 s2 np ep lp => ?_⟩
  obtain ⟨S, eS⟩ := hr cs lp
  have hm : ∀ (cs : List Int) (F : Hp), RepAll K C F [] (cs.map V.int) (cs.map PV.int) := fun cs F => by
    induction cs with
    | nil => exact .nil
    | cons c cs ih => exact .cons (.int c) ih
  have ru : ∀ (j k : Nat) (sl : SlV), (List.replicate k SlV.un)[j]? = some sl → sl = .un := fun j k sl h => by
    rw [List.getElem?_replicate] at h
    split at h
    · exact (Option.some.inj h).symm
    · cases h
  refine ⟨⟨fun b => if b = p then some (.lst (cs.map V.int)) else none, H2, []⟩, ⟨fun b => if b = p then some (.lst (cs.map V.int)) else none, H2, []⟩, _, [], _, rfl, ⟨Gro.refl _, ⟨fun b o e => ?_, rfl, List.nodup_nil, fun n a x h => absurd (show ([] : List Addr)[n]? = some a from h) (by simp)⟩, ?_, fun j sl hj => ?_, fun j l x y b h1 _ _ _ => ?_⟩, eS, fun v W2 g2 i2 r2 => by cases r2; exact q _⟩
  · change (if b = p then some (HO.lst (cs.map V.int)) else none) = some o at e
    split at e
    · rename_i hb
      rw [hb, ← e]
      exact ep
    · cases e
  · simp
  · rcases j with _ | _ | j
    · cases Option.some.inj hj; trivial
    · cases Option.some.inj hj
      exact ⟨_, rfl, .lst (by show (if p = p then _ else _) = _; rw [if_pos rfl]) (hm cs _)⟩
    · have := ru j k sl hj
      subst this
      trivial
  · rcases j with _ | _ | j
    · cases Option.some.inj h1
    · cases Option.some.inj h1
    · have := ru j k _ h1
      cases this
end BL

namespace BL
open PySem PySem.Spec PyProof.Rows L2
theorem forL_cons {t : Tg} {mb : MS} {x : PV} {xs S S2 : List PV} {ρ ρ1 ρ2 : List SlV} (h1 : t.put x ρ = some ρ1) (h2 : mb ρ1 S = some (.nx ρ2 S2)) : forL t mb (x :: xs) ρ S = forL t mb xs ρ2 S2 := by
  conv => lhs; unfold forL
  rw [h1]
  simp only [h2]
/-! rows -/
inductive EW where
  | add | flo | cap
  deriving DecidableEq
def EW.s : EW → Str
  | .add => "add" | .flo => "floor" | .cap => "cap"
abbrev Ev := EW × Int
def stp (e : Ev) (x : Int) : Int := match e.1 with
  | .add => x + e.2
  | .flo => max x e.2
  | .cap => min x e.2
def run : List Ev → Int → Int
  | [], x => x
  | e :: r, x => run r (stp e x)
theorem run_app : ∀ (r q : List Ev) (x : Int), run (r ++ q) x = run q (run r x)
  | [], _, _ => rfl
  | _ :: r, q, x => run_app r q _
inductive REv : PV → Ev → Prop
  | tup (e : Ev) : REv (.tup [.str e.1.s, .int e.2]) e
  | lst (e : Ev) : REv (.lst [.str e.1.s, .int e.2]) e
inductive All2 {α β : Type} (R : α → β → Prop) : List α → List β → Prop
  | nil : All2 R [] []
  | cons {a : α} {b : β} {as : List α} {bs : List β} : R a b → All2 R as bs → All2 R (a :: as) (b :: bs)
def RRow (x : PV) (r : List Ev) : Prop := ∃ ps, (x = .tup ps ∨ x = .lst ps) ∧ All2 REv ps r
def evP (e : Ev) : PV := .tup [.str e.1.s, .int e.2]
def evL (e : Ev) : PV := .lst [.str e.1.s, .int e.2]
def rowP (r : List Ev) : PV := .tup (r.map evP)
def rowL (r : List Ev) : PV := .lst (r.map evL)
theorem all2P : ∀ r : List Ev, All2 REv (r.map evP) r
  | [] => .nil
  | e :: r => .cons (.tup e) (all2P r)
theorem all2L : ∀ r : List Ev, All2 REv (r.map evL) r
  | [] => .nil
  | e :: r => .cons (.lst e) (all2L r)
theorem rrP (r : List Ev) : RRow (rowP r) r := ⟨_, .inl rfl, all2P r⟩
theorem rrL (r : List Ev) : RRow (rowL r) r := ⟨_, .inr rfl, all2L r⟩
@[simp] theorem f_eqS {S : List PV} (i j : Str) : fEq S (.str i) (.str j) = some (.bl (decide (i = j))) := rfl
@[simp] theorem dec_add (w : EW) : (w.s = ("add" : Str)) = (w = .add) := by cases w <;> simp [EW.s] <;> decide
@[simp] theorem dec_flo (w : EW) : (w.s = ("floor" : Str)) = (w = .flo) := by cases w <;> simp [EW.s] <;> decide
@[simp] theorem dec_cap (w : EW) : (w.s = ("cap" : Str)) = (w = .cap) := by cases w <;> simp [EW.s] <;> decide
@[simp] theorem cst_str (x : Str) : cst (.str x) = .str x := rfl
theorem max2 (i j : Int) : (if j > i then j else i) = max i j := by omega
theorem min2 (i j : Int) : (if j < i then j else i) = min i j := by omega
theorem lb_ok {p : PV} {e : Ev} (h : REv p e) (x : Int) (S : List PV) : m_level_behind [p, .int x] S = some (.int (stp e x), S) := by
  obtain ⟨w, n⟩ := e
  cases h <;> cases w <;> simp [m_level_behind, e_def, m_level_behindB, stp] <;> omega
theorem eo_loop (S : List PV) (v0 v1 : SlV) : ∀ (ps : List PV) (r : List Ev) (x : Int) (v3 : SlV), All2 REv ps r → ∃ w3, forL (.nm 3) m_end_ofF1 ps [v0, v1, .val (.int x), v3] S = some (.nx [v0, v1, .val (.int (run r x)), w3] S)
  | _, _, x, v3, .nil => ⟨v3, rfl⟩
  | p :: ps, e :: r, x, v3, .cons h hr => by
    obtain ⟨w3, ih⟩ := eo_loop S v0 v1 ps r (stp e x) (.val p) hr
    refine ⟨w3, ?_⟩
    have e1 : m_end_ofF1 [v0, v1, .val (.int x), .val p] S = some (.nx [v0, v1, .val (.int (stp e x)), .val p] S) := by simp [m_end_ofF1, lb_ok h]
    exact (forL_cons (by simp) e1).trans ih
theorem eo_ok {p : PV} {r : List Ev} (h : RRow p r) (x : Int) (S : List PV) : m_end_of [p, .int x] S = some (.int (run r x), S) := by
  obtain ⟨ps, hp, h2⟩ := h
  obtain ⟨w3, e⟩ := eo_loop S (.val p) (.val (.int x)) ps r x .un h2
  rcases hp with rfl | rfl <;> simp [m_end_of, e_def, m_end_ofB, e]
/-! the law's own steps -/
theorem ixE {p : PV} {e : Ev} (h : REv p e) (S : List PV) : fIx S p (.int 0) = some (.str e.1.s) ∧ fIx S p (.int 1) = some (.int e.2) := by
  cases h <;> simp [fIx, ixP]
theorem ld_okE {p : PV} {e : Ev} (h : REv p e) (x : Int) (S : List PV) : m_law_done [.int x, p] S = some (.int (stp e x), S) := by
  have i0 := fun S => (ixE h S).1
  have i1 := fun S => (ixE h S).2
  obtain ⟨w, n⟩ := e
  cases w <;> simp [m_law_done, e_def, m_law_doneB, i0, i1, stp] <;> omega
theorem le_loop (S : List PV) (v0 : SlV) : ∀ (ps : List PV) (r : List Ev) (x : Int) (v3 : SlV), All2 REv ps r → ∃ w3, forL (.nm 2) m_law_endedF1 ps [v0, .val (.int x), v3] S = some (.nx [v0, .val (.int (run r x)), w3] S)
  | _, _, x, v3, .nil => ⟨v3, rfl⟩
  | p :: ps, e :: r, x, v3, .cons h hr => by
    obtain ⟨w3, ih⟩ := le_loop S v0 ps r (stp e x) (.val p) hr
    refine ⟨w3, ?_⟩
    have e1 : m_law_endedF1 [v0, .val (.int x), .val p] S = some (.nx [v0, .val (.int (stp e x)), .val p] S) := by simp [m_law_endedF1, ld_okE h]
    exact (forL_cons (by simp) e1).trans ih
theorem le_ok {p : PV} {r : List Ev} (h : RRow p r) (x : Int) (S : List PV) : m_law_ended [p, .int x] S = some (.int (run r x), S) := by
  obtain ⟨ps, hp, h2⟩ := h
  obtain ⟨w3, e⟩ := le_loop S (.val p) ps r x .un h2
  rcases hp with rfl | rfl <;> simp [m_law_ended, e_def, m_law_endedB, e]
/-! ways of rows -/
theorem fwayO {s f c : Option Int} (h : okW s f c) (S : List PV) : fWay S [PO' s, PO' f, PO' c] = some (.way (nrm s f c) f c) := by
  have ok : okWb s f c = true := by
    unfold okW at h
    unfold okWb
    cases f with
    | none => cases s with
      | none => exact absurd rfl h
      | some _ => rfl
    | some a => cases c with
      | none => cases s with
        | none => exact absurd rfl h
        | some _ => rfl
      | some b => cases s with
        | none => simp [h.1, h.2 rfl]
        | some _ => simp [h.1]
  show way3 (PO' s) (PO' f) (PO' c) = _
  unfold way3
  rw [oP_PO, oP_PO, oP_PO]
  exact if_pos ok
theorem isN_PO (o : Option Int) : (PO' o).isNon = o.isNone := by cases o <;> rfl
theorem rshM {s1 f1 c1 s2 f2 c2 : Option Int} (h1 : wfW s1 f1 c1) (h2 : wfW s2 f2 c2) (S : List PV) : m_rsh [.way s1 f1 c1, .way s2 f2 c2] S = some (.way (nrm (rsS s1 s2) (rsB s2 f2 c2 f1 f2) (rsB s2 f2 c2 c1 c2)) (rsB s2 f2 c2 f1 f2) (rsB s2 f2 c2 c1 c2), S) := by
  have fw := fun S => fwayO (rs_ok h1 h2) S
  have l2 := fun x S => led_ok h2 x S
  cases s1 <;> cases s2 <;> cases f1 <;> cases c1 <;> simp only [rsS, rsB] at fw ⊢ <;> simp only [p_int, p_non] at fw <;> simp [m_rsh, e_def, m_rshB, cst, l2, fw]
def evW (e : Ev) : Option Int × Option Int × Option Int := match e.1 with
  | .add => (some e.2, none, none)
  | .flo => (some 0, some e.2, none)
  | .cap => (some 0, none, some e.2)
theorem evW_wf (e : Ev) : wfW (evW e).1 (evW e).2.1 (evW e).2.2 := by
  obtain ⟨w, n⟩ := e
  cases w
  · exact ⟨(fun x y h => by cases h), (fun h => by cases h), (fun a h => by cases h)⟩
  · exact ⟨(fun x y _ h => by cases h), (fun h => by cases h), (fun a _ h => by cases h)⟩
  · exact ⟨(fun x y h => by cases h), (fun h => by cases h), (fun a h => by cases h)⟩
theorem evW_ld (e : Ev) (x : Int) : ld (evW e).1 (evW e).2.1 (evW e).2.2 x = stp e x := by
  obtain ⟨w, n⟩ := e
  cases w
  · show bnd (x + n) none none = x + n
    rw [bnd_none]
  · show bnd (x + 0) (some n) none = max x n
    rw [bnd_lo]; omega
  · show bnd (x + 0) none (some n) = min x n
    rw [bnd_hi]; omega
theorem fw1 (S : List PV) (n : Int) : fWay S [.int n] = some (.way (some n) none none) := rfl
theorem fw2 (S : List PV) (s n : Int) : fWay S [.int s, .int n] = some (.way (some s) (some n) none) := rfl
theorem fw3 (S : List PV) (s n : Int) : fWay S [.int s, .non, .int n] = some (.way (some s) none (some n)) := rfl
theorem ew_ok {p : PV} {e : Ev} (h : REv p e) (S : List PV) : m_event_way [p] S = some (.way (evW e).1 (evW e).2.1 (evW e).2.2, S) := by
  obtain ⟨w, n⟩ := e
  cases h <;> cases w <;> simp [m_event_way, e_def, m_event_wayB, evW, fw1, fw2, fw3]
/-- what is kept of the numbers of a way -/
structure Keeps (E : Int → Prop) (G : Nat → Int → Prop) : Prop where
  z : G 0 0
  add : ∀ {k a n}, G k a → E n → G (k + 1) (a + n)
  ev : ∀ {k n}, E n → G (k + 1) n
  up : ∀ {k a}, G k a → G (k + 1) a
abbrev GO (G : Nat → Int → Prop) (k : Nat) (o : Option Int) : Prop := ∀ a, o = some a → G k a
theorem keeps_step {E : Int → Prop} {G : Nat → Int → Prop} (K : Keeps E G) {k : Nat} {s f c : Option Int} {e : Ev} (w : wfW s f c) (hs : GO G k s) (hf : GO G k f) (hc : GO G k c) (he : E e.2) :
    GO G (k + 1) (nrm (rsS s (evW e).1) (rsB (evW e).1 (evW e).2.1 (evW e).2.2 f (evW e).2.1) (rsB (evW e).1 (evW e).2.1 (evW e).2.2 c (evW e).2.2)) ∧ GO G (k + 1) (rsB (evW e).1 (evW e).2.1 (evW e).2.2 f (evW e).2.1) ∧ GO G (k + 1) (rsB (evW e).1 (evW e).2.1 (evW e).2.2 c (evW e).2.2) := by
  have st : ∀ a, G k a → G (k + 1) (stp e a) := fun a ha => by
    obtain ⟨w, n⟩ := e
    cases w
    · exact K.add ha he
    · show G (k + 1) (max a n)
      rcases Int.le_total a n with h | h
      · rw [Int.max_eq_right h]; exact K.ev he
      · rw [Int.max_eq_left h]; exact K.up ha
    · show G (k + 1) (min a n)
      rcases Int.le_total a n with h | h
      · rw [Int.min_eq_left h]; exact K.up ha
      · rw [Int.min_eq_right h]; exact K.ev he
  have bd : ∀ o : Option Int, GO G k o → ∀ o2 : Option Int, (∀ a, o2 = some a → a = e.2) → GO G (k + 1) (rsB (evW e).1 (evW e).2.1 (evW e).2.2 o o2) := fun o ho o2 h2 a ha => by
    cases o with
    | none =>
      have := h2 a ha
      subst this
      exact K.ev he
    | some z =>
      cases Option.some.inj ha
      rw [evW_ld]
      exact st z (ho z rfl)
  refine ⟨fun a ha => ?_, bd f hf _ fun a ha => ?_, bd c hc _ fun a ha => ?_⟩
  · have hn : nrm (rsS s (evW e).1) (rsB (evW e).1 (evW e).2.1 (evW e).2.2 f (evW e).2.1) (rsB (evW e).1 (evW e).2.1 (evW e).2.2 c (evW e).2.2) = some a → rsS s (evW e).1 = some a := fun h => by
      unfold nrm at h
      split at h
      · split at h
        · cases h
        · exact h
      · exact h
    have := hn ha
    obtain ⟨w', n⟩ := e
    cases s with
    | none => cases this
    | some z =>
      cases w'
      · cases this; exact K.add (hs z rfl) he
      · change some (z + 0) = some a at this
        rw [Int.add_zero] at this
        exact K.up (hs a this)
      · change some (z + 0) = some a at this
        rw [Int.add_zero] at this
        exact K.up (hs a this)
  · obtain ⟨w', n⟩ := e
    cases w' <;> cases ha <;> rfl
  · obtain ⟨w', n⟩ := e
    cases w' <;> cases ha <;> rfl
theorem wo_loop {E : Int → Prop} {G : Nat → Int → Prop} (K : Keeps E G) (S : List PV) (v0 : SlV) : ∀ (ps : List PV) (r : List Ev) (k : Nat) (s f c : Option Int) (v2 : SlV), All2 REv ps r → (∀ e ∈ r, E e.2) → wfW s f c → GO G k s → GO G k f → GO G k c →
    ∃ s' f' c' w2, forL (.nm 2) m_way_ofF1 ps [v0, .val (.way s f c), v2] S = some (.nx [v0, .val (.way s' f' c'), w2] S) ∧ wfW s' f' c' ∧ (∀ x, ld s' f' c' x = run r (ld s f c x)) ∧ GO G (k + r.length) s' ∧ GO G (k + r.length) f' ∧ GO G (k + r.length) c'
  | _, _, k, s, f, c, v2, .nil, _, w, hs, hf, hc => ⟨s, f, c, v2, rfl, w, fun _ => rfl, hs, hf, hc⟩
  | p :: ps, e :: r, k, s, f, c, v2, .cons h hr, hE, w, hs, hf, hc => by
    obtain ⟨g1, g2, g3⟩ := keeps_step K w hs hf hc (hE e List.mem_cons_self)
    have w2 := nrm_wf (rs_ok w (evW_wf e))
    obtain ⟨s', f', c', z2, ih, i1, i2, i3, i4, i5⟩ := wo_loop K S v0 ps r (k + 1) _ _ _ (.val p) hr (fun e he => hE e (List.mem_cons_of_mem _ he)) w2 g1 g2 g3
    refine ⟨s', f', c', z2, ?_, i1, fun x => ?_, ?_, ?_, ?_⟩
    · have e1 : m_way_ofF1 [v0, .val (.way s f c), .val p] S = some (.nx [v0, .val (.way (nrm (rsS s (evW e).1) (rsB (evW e).1 (evW e).2.1 (evW e).2.2 f (evW e).2.1) (rsB (evW e).1 (evW e).2.1 (evW e).2.2 c (evW e).2.2)) (rsB (evW e).1 (evW e).2.1 (evW e).2.2 f (evW e).2.1) (rsB (evW e).1 (evW e).2.1 (evW e).2.2 c (evW e).2.2)), .val p] S) := by
        simp [m_way_ofF1, ew_ok h, rshM w (evW_wf e)]
      exact (forL_cons (by simp) e1).trans ih
    · rw [i2, ld_rs w (evW_wf e), evW_ld]
      rfl
    · rw [List.length_cons, Nat.add_comm r.length 1, ← Nat.add_assoc]; exact i3
    · rw [List.length_cons, Nat.add_comm r.length 1, ← Nat.add_assoc]; exact i4
    · rw [List.length_cons, Nat.add_comm r.length 1, ← Nat.add_assoc]; exact i5
theorem wf0 : wfW (some 0) none none := ⟨(fun x y h => by cases h), (fun h => by cases h), (fun a h => by cases h)⟩
theorem wo_ok {E : Int → Prop} {G : Nat → Int → Prop} (K : Keeps E G) {p : PV} {r : List Ev} (h : RRow p r) (hE : ∀ e ∈ r, E e.2) : ∃ s f c, (∀ S, m_way_of [p] S = some (.way s f c, S)) ∧ wfW s f c ∧ (∀ x, ld s f c x = run r x) ∧ GO G r.length s ∧ GO G r.length f ∧ GO G r.length c := by
  obtain ⟨ps, hp, h2⟩ := h
  have key : ∀ S, ∃ s' f' c' w2, forL (.nm 2) m_way_ofF1 ps [.val p, .val (.way (some 0) none none), .un] S = some (.nx [.val p, .val (.way s' f' c'), w2] S) ∧ wfW s' f' c' ∧ (∀ x, ld s' f' c' x = run r (ld (some 0) none none x)) ∧ GO G (0 + r.length) s' ∧ GO G (0 + r.length) f' ∧ GO G (0 + r.length) c' := fun S =>
    wo_loop K S (.val p) ps r 0 _ _ _ .un h2 hE wf0 (fun a ha => by cases ha; exact K.z) (fun a ha => by cases ha) (fun a ha => by cases ha)
  have ld0 : ∀ x, ld (some 0) none none x = x := fun x => by show bnd (x + 0) none none = x; rw [bnd_none]; omega
  obtain ⟨s, f, c, w2, e, i1, i2, i3, i4, i5⟩ := key []
  rw [Nat.zero_add] at i3 i4 i5
  refine ⟨s, f, c, fun S => ?_, i1, fun x => by rw [i2, ld0], i3, i4, i5⟩
  obtain ⟨s', f', c', w2', e', j1, j2, _⟩ := key S
  have hx := way_ext i1 j1 fun x => by rw [i2, j2]
  obtain ⟨rfl, rfl, rfl⟩ := hx
  rcases hp with rfl | rfl <;> simp [m_way_of, e_def, m_way_ofB, fw1, e']
end BL

namespace BL
open PySem PySem.Spec PyProof.Rows L2
theorem lay_w (w : EW) : PyData.canLay0 (.str w.s) = true := by cases w <;> decide +kernel
theorem pl_ev (n : Nat) (e : Ev) : (evP e).pl (n + 1) = true ∧ (evL e).pl (n + 1) = true := by
  have := lay_w e.1
  cases n <;> simp [evP, evL, PV.pl, plL, this]
theorem pl_row (n : Nat) (r : List Ev) : (rowP r).pl (n + 2) = true ∧ (rowL r).pl (n + 2) = true := by
  constructor
  · show plL (n + 1) (r.map evP) = true
    exact plL_all fun x hx => by obtain ⟨e, _, rfl⟩ := List.mem_map.mp hx; exact (pl_ev n e).1
  · show plL (n + 1) (r.map evL) = true
    exact plL_all fun x hx => by obtain ⟨e, _, rfl⟩ := List.mem_map.mp hx; exact (pl_ev n e).2
theorem nb_row (r : List Ev) : (rowP r).nb = true ∧ (rowL r).nb = true := by
  constructor
  · show nbL (r.map evP) = true
    exact nbL_all fun x hx => by obtain ⟨e, _, rfl⟩ := List.mem_map.mp hx; rfl
  · show nbL (r.map evL) = true
    exact nbL_all fun x hx => by obtain ⟨e, _, rfl⟩ := List.mem_map.mp hx; rfl
theorem pl_ints (n : Nat) (as : List Int) : (PV.tup (as.map .int)).pl (n + 1) = true ∧ (PV.lst (as.map .int)).pl (n + 1) = true := by
  have : plL n (as.map PV.int) = true := plL_all fun x hx => by obtain ⟨e, _, rfl⟩ := List.mem_map.mp hx; cases n <;> rfl
  exact ⟨this, this⟩
theorem nb_ints (as : List Int) : (PV.tup (as.map .int)).nb = true ∧ (PV.lst (as.map .int)).nb = true := by
  have : nbL (as.map PV.int) = true := nbL_all fun x hx => by obtain ⟨e, _, rfl⟩ := List.mem_map.mp hx; rfl
  exact ⟨this, this⟩
theorem map_int_inj : ∀ {as bs : List Int}, as.map PV.int = bs.map PV.int → as = bs
  | [], [], _ => rfl
  | [], _ :: _, h => by cases h
  | _ :: _, [], h => by cases h
  | a :: as, b :: bs, h => by
    simp only [List.map_cons, List.cons.injEq, PV.int.injEq] at h
    rw [h.1, map_int_inj h.2]
theorem eq_ints (as bs : List Int) (S : List PV) : fEq S (.lst (as.map .int)) (.lst (bs.map .int)) = some (.bl (decide (as = bs))) := by
  by_cases c : as = bs
  · subst c
    rw [feq_refl (pl_ints 59 as).2]
    simp
  · rw [feq_f (pl_ints 59 as).2 (pl_ints 59 bs).2 (nb_ints as).2 (nb_ints bs).2 (fun e => c (map_int_inj (PV.lst.inj e)))]
    simp [c]
end BL

namespace BL
open PySem PySem.Spec PyProof.Rows L2
/-! the law's own def, so many times for each box -/
def lawFk (k : Int) (cc : Int) (right : List PV → List PV → Option (PV × List PV)) : MS := (mSeq (mAsg (.nm 3) (mCall (m_law_boxC cc) (mCons (mVar 1) (mCons (mVar 2) mNil))))
  (mIf (mNotT (mTru (mFn fAll (mCons (mLc (.nm 4) (mRng1 (mC (.int k))) mYes (mCall right (mCons (mVar 3) mNil)) [4]) mNil)))) (mRet (mC (.bl false))) mSkip))
theorem all_of {L : ME} {ρ : List SlV} {S S' ys : List PV} (e : L ρ S = some (.lst ys, S')) (h : ∀ y ∈ ys, y = .bl true) : mFn fAll (mCons L mNil) ρ S = some (.bl true, S') := by
  have e1 : mCons L mNil ρ S = some ([.lst ys], S') := by
    rw [e_cons, e]
    rfl
  rw [e_fn, e1]
  show (match fAll S' [.lst ys] with | some z => some (z, S') | none => none) = _
  rw [fAll_true h]
theorem rest_okk {k : Nat} {cc : Int} {right : List PV → List PV → Option (PV × List PV)} (hk : k ≤ 10) (hr : ∀ (S : List PV) (n : Nat) (z : Int), BoxAt S n z → z ≤ 100000000 → ∃ S', right [.mref n] S = some (.bl true, S') ∧ BoxAt S' n (z + 10000)) (cs : List Int) (h3 : cs.length ≤ 3) :
    ∃ S, mSeq (mFor (.nm 2) (mRng1 (mFn fLen (mCons (mVar 1) mNil))) (lawFk k cc right)) (mRet (mC (.bl true))) [.un, .val (.lst (cs.map .int)), .un, .un, .un] [] = some (.rt (.bl true) S) := by
  obtain ⟨ρ', S', e, _⟩ := forL_inv (t := .nm 2) (mb := lawFk k cc right) (fun ρ T => ∃ v2 v3 v4, ρ = [.un, .val (.lst (cs.map .int)), v2, v3, v4]) (xs := rngP 0 cs.length) (ρ := [.un, .val (.lst (cs.map .int)), .un, .un, .un]) (S := []) (fun x hx ρ T hp => by
    obtain ⟨v2, v3, v4, rfl⟩ := hp
    obtain ⟨i, rfl, i0, i1⟩ := rngP_mem hx
    obtain ⟨j, rfl⟩ := Int.eq_ofNat_of_zero_le i0
    obtain ⟨x, y, eb⟩ := box_ok (cc := cc) (k := j) (by omega) h3 T
    have hB : BoxAt (T ++ [.lst [.int x, .int y, .int 0]]) T.length 0 := ⟨x, y, 0, by simp, by omega, by omega⟩
    obtain ⟨ys, S', el, hl, hq, _⟩ := lcL_inv (t := .nm 4) (mt := mYes) (me := mCall right (mCons (mVar 3) mNil)) (ρ := [.un, .val (.lst (cs.map .int)), .val (.int j), .val (.mref T.length), .un]) (fun i T' => BoxAt T' T.length (10000 * i)) (fun y => y = .bl true) (xs := rngP 0 k) (k := 0) (S := T ++ [.lst [.int x, .int y, .int 0]]) (fun x hx i T' hi hT => by
      rw [rngP_len] at hi
      obtain ⟨S2, er, hB2⟩ := hr T' T.length _ hT (by omega)
      exact ⟨[.un, .val (.lst (cs.map .int)), .val (.int j), .val (.mref T.length), .val x], .bl true, S2, by simp, rfl, by simp [er], rfl, hB2.le (by omega)⟩) (hB.le (by omega))
    rw [rngP_len] at hl
    have hr1 := rng1_ok (ma := mC (.int k)) (ρ := [.un, .val (.lst (cs.map .int)), .val (.int j), .val (.mref T.length), v4]) (S := T ++ [.lst [.int x, .int y, .int 0]]) (S1 := T ++ [.lst [.int x, .int y, .int 0]]) (j := k) rfl ⟨by omega, by omega⟩
    rw [Int.toNat_natCast] at hr1
    have ea := all_of (lc_at (t := .nm 4) (vs := [4]) hr1 el (by omega)) hq
    refine ⟨[.un, .val (.lst (cs.map .int)), .val (.int j), v3, v4], [.un, .val (.lst (cs.map .int)), .val (.int j), .val (.mref T.length), v4], S', by simp, ?_, _, _, _, rfl⟩
    unfold lawFk
    rw [seq_nx (ρ1 := [.un, .val (.lst (cs.map .int)), .val (.int j), .val (.mref T.length), v4]) (S1 := T ++ [.lst [.int x, .int y, .int 0]]) (by simp [eb])]
    rw [e_if, e_notT, e_tru, ea]
    rfl) ⟨_, _, _, rfl⟩
  refine ⟨S', ?_⟩
  have hr1 := rng1_ok (ma := mFn fLen (mCons (mVar 1) mNil)) (ρ := [.un, .val (.lst (cs.map .int)), .un, .un, .un]) (S := []) (S1 := []) (j := cs.length) (by simp) ⟨by omega, by omega⟩
  rw [Int.toNat_natCast] at hr1
  exact seq_nx ((for_of hr1).trans e)
end BL

namespace BL
open PySem PySem.Spec PyProof.Rows L2
theorem law_readA {K : PySem.W.Frag} {C : Addr} {hand : List PV → List PV → Option (PV × List PV)} {rest : MS} (hh : hand [] [] = some (.bl true, [])) (hr : ∀ cs : List Int, cs.length ≤ 3 → ∃ S, rest [.un, .val (.lst (cs.map .int)), .un] [] = some (.rt (.bl true) S)) {a : Addr} {ns : List Int} {H : Hp} {Q : VK} (hS : SqL K H a (ns.map V.int)) (hl : ns.length ≤ 63) (q : ∀ H', Q (.bl true) H') :
    (tSeq (tIfS (tNot (tB (tCall (spM K C hand) [] C8.E0 tNil))) (tRet (tC (.bl false))) tNext) (tSeq (tAsg (tCall (spCells K) [] C8.E0 (tCons (tVar 0) (tCons (tC (.int 3)) tNil))) (gName 1)) (tMS K C rest))) { nx := fun _ H' => Q .non H', rt := Q } [some (.ref a), none, none] H := by
  refine ⟨⟨fun _ => none, H, []⟩, [], [], .bl true, [], rfl, ⟨(fun _ _ h => by cases h), rfl, List.nodup_nil, fun n a x h => absurd (show ([] : List Addr)[n]? = some a from h) (by simp)⟩, .nil, hh, fun v W' g i r => ?_⟩
  cases r
  have s1 : Same H W'.H := fun p o e => g.h p o e (by simp)
  refine ⟨true, rfl, iteF ?_⟩
  refine ⟨_, rfl, a, ns, rfl, s1.seq hS, hl, fun p cs H2 s2 np ep lp => ?_⟩
  obtain ⟨S, eS⟩ := hr cs lp
  have hm : ∀ (cs : List Int) (F : Hp), RepAll K C F [] (cs.map V.int) (cs.map PV.int) := fun cs F => by
    induction cs with
    | nil => exact .nil
    | cons c cs ih => exact .cons (.int c) ih
  refine ⟨⟨fun b => if b = p then some (.lst (cs.map V.int)) else none, H2, []⟩, ⟨fun b => if b = p then some (.lst (cs.map V.int)) else none, H2, []⟩, _, [], _, rfl, ⟨Gro.refl _, ⟨fun b o e => ?_, rfl, List.nodup_nil, fun n a x h => absurd (show ([] : List Addr)[n]? = some a from h) (by simp)⟩, rfl, fun j sl hj => ?_, fun j k x y b h1 _ _ _ => ?_⟩, eS, fun v W2 g2 i2 r2 => by cases r2; exact q _⟩
  · change (if b = p then some (HO.lst (cs.map V.int)) else none) = some o at e
    split at e
    · rename_i hb
      rw [hb, ← e]
      exact ep
    · cases e
  · rcases j with _ | _ | _ | j <;> simp at hj
    · subst hj; trivial
    · subst hj
      exact ⟨_, rfl, .lst (by show (if p = p then _ else _) = _; rw [if_pos rfl]) (hm cs _)⟩
    · subst hj; trivial
  · rcases j with _ | _ | _ | j <;> simp at h1
end BL

namespace BL
open PySem PySem.Spec PyProof.Rows L2
/-! a part by hand that leaves changing things behind -/
theorem all_okT {cc : Int} {right : List PV → List PV → Option (PV × List PV)} (hr : ∀ (S : List PV) (n : Nat), BoxAt S n 0 → ∃ S', right [.mref n] S = some (.bl true, S')) (cs : List Int) (h3 : cs.length ≤ 3) (S0 : List PV) :
    ∃ S, lawAll cc right [.un, .val (.lst (cs.map .int)), .un] S0 = some (.rt (.bl true) S) := by
  have turn : ∀ x ∈ rngP 0 cs.length, ∀ (j : Nat) (T : List PV), j < 0 + (rngP 0 cs.length).length → True → ∃ ρ1 y S2, (Tg.nm 2).put x [.un, .val (.lst (cs.map .int)), .un] = some ρ1 ∧ mYes ρ1 T = some (true, T) ∧ mCall right (mCons (mCall (m_law_boxC cc) (mCons (mVar 1) (mCons (mVar 2) mNil))) mNil) ρ1 T = some (y, S2) ∧ y = .bl true ∧ True := fun x hx j T hj hp => by
    obtain ⟨i, rfl, i0, i1⟩ := rngP_mem hx
    obtain ⟨k, rfl⟩ := Int.eq_ofNat_of_zero_le i0
    obtain ⟨x, y, eb⟩ := box_ok (cc := cc) (k := k) (by omega) h3 T
    obtain ⟨S', er⟩ := hr (T ++ [.lst [.int x, .int y, .int 0]]) T.length ⟨x, y, 0, by simp, by omega, by omega⟩
    exact ⟨[.un, .val (.lst (cs.map .int)), .val (.int k)], .bl true, S', by simp, rfl, by simp [eb, er], rfl, trivial⟩
  obtain ⟨ys, S', e, hl, hq, _⟩ := lcL_inv (fun _ _ => True) (fun y => y = .bl true) (k := 0) (S := S0) turn trivial
  rw [rngP_len] at hl
  have hr1 := rng1_ok (ma := mFn fLen (mCons (mVar 1) mNil)) (ρ := [.un, .val (.lst (cs.map .int)), .un]) (S := S0) (S1 := S0) (j := cs.length) (by simp) ⟨by omega, by omega⟩
  rw [Int.toNat_natCast] at hr1
  exact ⟨S', ret_all (lc_at hr1 e (by omega)) hq⟩
theorem ifall_okT {cc : Int} {hand right : List PV → List PV → Option (PV × List PV)} (hh : ∃ T, hand [] [] = some (.bl true, T)) (hr : ∀ (S : List PV) (n : Nat), BoxAt S n 0 → ∃ S', right [.mref n] S = some (.bl true, S')) (cs : List Int) (h3 : cs.length ≤ 3) :
    ∃ S, mSeq (lawIf hand) (lawAll cc right) [.un, .val (.lst (cs.map .int)), .un] [] = some (.rt (.bl true) S) := by
  obtain ⟨T, hh⟩ := hh
  obtain ⟨S, e⟩ := all_okT (cc := cc) hr cs h3 T
  have e1 : lawIf hand [.un, .val (.lst (cs.map .int)), .un] [] = some (.nx [.un, .val (.lst (cs.map .int)), .un] T) := by
    unfold lawIf
    simp only [e_if, e_notT, e_tru, e_call, e_nil, hh, e_skip]
    rfl
  exact ⟨S, (seq_nx e1).trans e⟩
theorem law_readAT {K : PySem.W.Frag} {C : Addr} {hand : List PV → List PV → Option (PV × List PV)} {rest : MS} (hh : ∃ T, hand [] [] = some (.bl true, T)) (hr : ∀ cs : List Int, cs.length ≤ 3 → ∃ S, rest [.un, .val (.lst (cs.map .int)), .un] [] = some (.rt (.bl true) S)) {a : Addr} {ns : List Int} {H : Hp} {Q : VK} (hS : SqL K H a (ns.map V.int)) (hl : ns.length ≤ 63) (q : ∀ H', Q (.bl true) H') :
    (tSeq (tIfS (tNot (tB (tCall (spM K C hand) [] C8.E0 tNil))) (tRet (tC (.bl false))) tNext) (tSeq (tAsg (tCall (spCells K) [] C8.E0 (tCons (tVar 0) (tCons (tC (.int 3)) tNil))) (gName 1)) (tMS K C rest))) { nx := fun _ H' => Q .non H', rt := Q } [some (.ref a), none, none] H := by
  obtain ⟨T, hh⟩ := hh
  refine ⟨⟨fun _ => none, H, []⟩, [], [], .bl true, T, rfl, ⟨(fun _ _ h => by cases h), rfl, List.nodup_nil, fun n a x h => absurd (show ([] : List Addr)[n]? = some a from h) (by simp)⟩, .nil, hh, fun v W' g i r => ?_⟩
  cases r
  have s1 : Same H W'.H := fun p o e => g.h p o e (by simp)
  refine ⟨true, rfl, iteF ?_⟩
  refine ⟨_, rfl, a, ns, rfl, s1.seq hS, hl, fun p cs H2 s2 np ep lp => ?_⟩
  obtain ⟨S, eS⟩ := hr cs lp
  have hm : ∀ (cs : List Int) (F : Hp), RepAll K C F [] (cs.map V.int) (cs.map PV.int) := fun cs F => by
    induction cs with
    | nil => exact .nil
    | cons c cs ih => exact .cons (.int c) ih
  refine ⟨⟨fun b => if b = p then some (.lst (cs.map V.int)) else none, H2, []⟩, ⟨fun b => if b = p then some (.lst (cs.map V.int)) else none, H2, []⟩, _, [], _, rfl, ⟨Gro.refl _, ⟨fun b o e => ?_, rfl, List.nodup_nil, fun n a x h => absurd (show ([] : List Addr)[n]? = some a from h) (by simp)⟩, rfl, fun j sl hj => ?_, fun j k x y b h1 _ _ _ => ?_⟩, eS, fun v W2 g2 i2 r2 => by cases r2; exact q _⟩
  · change (if b = p then some (HO.lst (cs.map V.int)) else none) = some o at e
    split at e
    · rename_i hb
      rw [hb, ← e]
      exact ep
    · cases e
  · rcases j with _ | _ | _ | j <;> simp at hj
    · subst hj; trivial
    · subst hj
      exact ⟨_, rfl, .lst (by show (if p = p then _ else _) = _; rw [if_pos rfl]) (hm cs _)⟩
    · subst hj; trivial
  · rcases j with _ | _ | _ | j <;> simp at h1
def isTrT (o : Option (PV × List PV)) : Bool := match o with
  | some (.bl true, _) => true
  | _ => false
theorem isTrT_ok {o : Option (PV × List PV)} (h : isTrT o = true) : ∃ T, o = some (.bl true, T) := by
  unfold isTrT at h
  split at h
  · exact ⟨_, rfl⟩
  · cases h
end BL

namespace BL
open PySem PySem.Spec PyProof.Rows L2
theorem min2_ok (n m : Nat) {S : List PV} : fMin2 S [.int (n : Int), .int (m : Int)] = some (.int ((min n m : Nat) : Int)) := by
  show some (PV.int (if (m : Int) < (n : Int) then (m : Int) else (n : Int))) = _
  congr 2
  split <;> omega
theorem take_okW {S : List PV} {n : Nat} {z m : Int} (h : BoxAt S n z) (hz : z ≤ 1000000000) (m0 : 0 < m) (mm : m.natAbs < 2 ^ 4000) :
    ∃ r S', m_law_take [.mref n, .int m] S = some (.int r, S') ∧ 0 ≤ r ∧ r < m ∧ BoxAt S' n (z + 1) := by
  obtain ⟨x, y, z', e, z0, z1⟩ := h
  have hl : n < S.length := (List.getElem?_eq_some_iff.mp e).1
  obtain ⟨a0, a1, a2⟩ := ix_box e
  have b1 : (1000003 : Nat) < 2 ^ 4000 := Nat.lt_of_lt_of_le (show 1000003 < 2 ^ 30 by decide) (Nat.pow_le_pow_right (by decide) (by decide))
  have b2 : (64 : Nat) < 2 ^ 4000 := Nat.lt_of_lt_of_le (show 64 < 2 ^ 30 by decide) (Nat.pow_le_pow_right (by decide) (by decide))
  by_cases c : 0 < x
  · refine ⟨x % m, S.set n (.lst [.int (x / m), .int y, .int z']), ?_, Int.emod_nonneg _ (by omega), Int.emod_lt_of_pos _ m0, x / m, y, z', ?_, z0, by omega⟩
    · simp [m_law_take, e_def, m_law_takeB, a0, c, m0, mm, e, ixP]
    · rw [List.getElem?_set_self hl]
  · have e2 : (S.set n (.lst [.int x, .int y, .int (z' + 1)]))[n]? = some (.lst [.int x, .int y, .int (z' + 1)]) := List.getElem?_set_self hl
    obtain ⟨d0, d1, d2⟩ := ix_box e2
    have k1 : (39373 + (z' + 1)).natAbs < 2 ^ 64 := by omega
    have q1 := Int.emod_nonneg ((y + 48271 * (z' + 1)) * (39373 + (z' + 1))) (show (2147483647 : Int) ≠ 0 by decide)
    have q2 := Int.emod_lt_of_pos ((y + 48271 * (z' + 1)) * (39373 + (z' + 1))) (show (0 : Int) < 2147483647 by decide)
    generalize ew : (y + 48271 * (z' + 1)) * (39373 + (z' + 1)) % 2147483647 = w at q1 q2
    have q3 := Int.emod_nonneg w (show (40009 : Int) ≠ 0 by decide)
    have q4 := Int.emod_lt_of_pos w (show (0 : Int) < 40009 by decide)
    have k2 : (w % 40009 + 7).natAbs < 2 ^ 64 := by omega
    have ew' : (y + 48271 * (z' + 1)) * (39373 + (z' + 1)) % 2147483647 = w := ew
    refine ⟨_, S.set n (.lst [.int x, .int y, .int (z' + 1)]), ?_, Int.emod_nonneg (((w + (z' + 1) + y / 1000003) * (w % 40009 + 7) % 2147483629 * 48271 + w) % 2147483587 / 64) (show m ≠ 0 by omega), Int.emod_lt_of_pos _ m0, x, y, z' + 1, e2, by omega, by omega⟩
    simp [m_law_take, e_def, m_law_takeB, a0, c, m0, mm, e, a2, ixP, d0, d1, d2, k1, ew', k2, b1, b2]
/-- the texts -/
def P0 : List Str := ["a", "b", "c", "tank", "zzzzzzzz"]
theorem pick00 {S : List PV} {n : Nat} {z : Int} (h : BoxAt S n z) (hz : z ≤ 800000000) (r : List Str) (hm : r.length ≤ 100) (h2 : 2 ≤ r.length) : ∃ (t m : Str) (S' : List PV), m_law_pick [.mref n, .lst (r.map .str), .int 2] S = some (.lst [.str t, .str m], S') ∧ t ∈ r ∧ m ∈ r := by
  obtain ⟨ρ', S', e, ⟨P, F, w, rfl, pp, lF⟩, hB⟩ := forL_invN (t := .nm 5) (mb := m_law_pickF1) (fun j ρ T => (∃ (P F : List Str) (w : SlV), ρ = [.val (.mref n), .val (.lst (r.map .str)), .val (.int 2), .own (.lst (P.map .str)), .own (.lst (F.map .str)), w] ∧ (F ++ P).Perm r ∧ F.length = j) ∧ BoxAt T n (z + j)) (xs := rngP 0 2) (k := 0) (ρ := [.val (.mref n), .val (.lst (r.map .str)), .val (.int 2), .own (.lst (r.map .str)), .own (.lst []), .un]) (S := S) (fun x hx j ρ T hj hp => by
    obtain ⟨⟨P, F, w, rfl, pp, lF⟩, hB⟩ := hp
    rw [rngP_len] at hj
    have lP : F.length + P.length = r.length := by
      have := pp.length_eq
      rw [List.length_append] at this
      exact this
    obtain ⟨q', T', e, r0, r1, hB'⟩ := take_okW (m := ((P.map PV.str).length : Int)) hB (by omega) (by rw [List.length_map]; omega) (by rw [List.length_map]; exact Nat.lt_of_lt_of_le (show ((P.length : Int)).natAbs < 2 ^ 30 by omega) (Nat.pow_le_pow_right (by decide) (by decide)))
    obtain ⟨q, rfl⟩ := Int.eq_ofNat_of_zero_le r0
    rw [List.length_map] at r1
    have hq : q < P.length := by omega
    refine ⟨_, [.val (.mref n), .val (.lst (r.map .str)), .val (.int 2), .own (.lst ((P.eraseIdx q).map .str)), .own (.lst ((F ++ [P[q]]).map .str)), .val x], T', p_nm rfl rfl, ?_, ⟨P.eraseIdx q, F ++ [P[q]], _, rfl, ?_, by simp [lF]⟩, hB'.le (by omega)⟩
    · exact s_appPop (v_call (v_cons (v_var rfl) (v_cons (v_lenO rfl) v_nil)) e) rfl rfl (by decide) (by omega) hq (by omega) rfl
    · rw [List.append_assoc, List.singleton_append]
      refine ((List.Perm.append_left F ?_).trans pp)
      exact erase_perm hq) ⟨⟨r, [], .un, rfl, .refl _, rfl⟩, h.le (by omega)⟩
  rw [rngP_len] at hB lF
  match F, lF with
  | [t, m], _ =>
    refine ⟨t, m, S', ?_, pp.mem_iff.mp (by simp), pp.mem_iff.mp (by simp)⟩
    have mn : fMin2 S [.int 2, .int ((r.map PV.str).length : Int)] = some (.int 2) := by
      have := min2_ok 2 r.length (S := S)
      rw [List.length_map]
      rw [show min 2 r.length = 2 from Nat.min_eq_left h2] at this
      exact this
    unfold m_law_pick m_law_pickB
    refine d_rt rfl rfl (s_seq (ρ1 := [.val (.mref n), .val (.lst (r.map .str)), .val (.int 2), .own (.lst (r.map .str)), .own (.lst []), .un]) rfl ?_)
    refine s_seq (s_for (i_rng1 (v_fn (v_cons (v_fn (v_cons (v_var rfl) v_nil) (fq_intI _)) (v_cons (v_lenO rfl) v_nil)) mn) (by omega)) e) ?_
    exact s_frz rfl rfl (s_ret (v_var rfl))
def L7 (a b : Int) : List PV := [.dic (excK "BadText" ["place"] [.int b]), .dic (excK "BadLine" ["number"] [.int b]), .dic (excK "Crossed" ["low", "high"] [.int a, .int b]), .dic (excK "NoShift" [] []), .dic (excK "NoPlace" ["place"] [.int a]), .dic (excK "NothingDone" [] []), .dic (excK "Unlike" [] [])]
def L14 (a b : Int) (t m : Str) : List PV := [.dic (excK "BadText" ["place"] [.int b]), .dic (excK "BadLine" ["number"] [.int b]), .dic (excK "Crossed" ["low", "high"] [.int a, .int b]), .dic (excK "NoShift" [] []), .dic (excK "NoPlace" ["place"] [.int a]), .dic (excK "NothingDone" [] []), .dic (excK "Unlike" [] []), .dic (excK "NoStarts" ["low", "high"] [.int a, .int b]), .dic (excK "Gainsaid" [] []), .dic (excK "NoName" ["name"] [.str t]), .dic (excK "Taken" ["name"] [.str m]), .dic (excK "Outside" ["number"] [.int a]), .dic (excK "Needed" ["name"] [.str t]), .dic (excK "Ring" ["name"] [.str m])]
def L15 (a b : Int) (t m : Str) : List PV := [.dic (excK "BadText" ["place"] [.int b]), .dic (excK "BadLine" ["number"] [.int b]), .dic (excK "Crossed" ["low", "high"] [.int a, .int b]), .dic (excK "NoShift" [] []), .dic (excK "NoPlace" ["place"] [.int a]), .dic (excK "NothingDone" [] []), .dic (excK "Unlike" [] []), .dic (excK "NoStarts" ["low", "high"] [.int a, .int b]), .dic (excK "Gainsaid" [] []), .dic (excK "NoName" ["name"] [.str t]), .dic (excK "Taken" ["name"] [.str m]), .dic (excK "Outside" ["number"] [.int a]), .dic (excK "Needed" ["name"] [.str t]), .dic (excK "Ring" ["name"] [.str m]), .dic (excK "NotBehind" ["other"] [.str t])]
theorem right00 (S : List PV) (n : Nat) (h : BoxAt S n 0) : ∃ S', m_law_right [.mref n] S = some (.bl true, S') := by
  obtain ⟨a', S1, e1, a0, a1, h1⟩ := take_okW (m := 1000000000) h (by omega) (by omega) (Nat.lt_of_lt_of_le (show (1000000000 : Int).natAbs < 2 ^ 40 by decide) (Nat.pow_le_pow_right (by decide) (by decide)))
  obtain ⟨b, S2, e2, b0, b1, h2⟩ := take_okW (m := 1000000000) h1 (by omega) (by omega) (Nat.lt_of_lt_of_le (show (1000000000 : Int).natAbs < 2 ^ 40 by decide) (Nat.pow_le_pow_right (by decide) (by decide)))
  obtain ⟨t, m, S, e3, ht, hm⟩ := pick00 h2 (by omega) P0 (by decide) (by decide)
  refine ⟨S, ?_⟩
  generalize ea : a' - 500000000 = a
  unfold m_law_right m_law_rightB
  have k9 : ∀ (ρ : List SlV) (T : List PV), mOp fPow (mC (.int 10)) (mC (.int 9)) ρ T = some (.int 1000000000, T) := fun _ _ => by kernel_rfl
  have k8 : ∀ (ρ : List SlV) (T : List PV), mOp fMulQ (mC (.int 5)) (mOp fPow (mC (.int 10)) (mC (.int 8))) ρ T = some (.int 500000000, T) := fun _ _ => by kernel_rfl
  refine d_rt rfl rfl (s_seq (s_par (v_cons (v_op (v_call (v_cons (v_var rfl) (v_cons (k9 _ _) v_nil)) e1) (k8 _ _) (z := .int a) (by rw [← ea]; rfl)) (v_cons (v_call (v_cons (v_var rfl) (v_cons (k9 _ _) v_nil)) e2) v_nil)) rfl rfl) ?_)
  refine s_seq (s_asgT (v_call (v_cons (v_var rfl) (v_cons (v_lst (v_cons v_c (v_cons v_c (v_cons v_c (v_cons v_c (v_cons v_c v_nil))))) (by decide)) (v_cons v_c v_nil))) e3) (p_lst (p_cons rfl rfl (p_cons rfl rfl p_nil)))) ?_
  refine s_seq (ρ1 := [.val (.mref n), .val (.int a), .val (.int b), .val (.str t), .val (.str m), .own (.lst (L7 a b)), .un, .un, .un, .un, .un]) (S1 := S) (by kernel_rfl) ?_
  refine s_seq (ρ1 := [.val (.mref n), .val (.int a), .val (.int b), .val (.str t), .val (.str m), .own (.lst (L14 a b t m)), .un, .un, .un, .un, .un]) (S1 := S) (by kernel_rfl) ?_
  refine s_seq (ρ1 := [.val (.mref n), .val (.int a), .val (.int b), .val (.str t), .val (.str m), .own (.lst (L15 a b t m)), .un, .un, .un, .un, .un]) (S1 := S) (by kernel_rfl) ?_
  refine s_seq (ρ1 := [.val (.mref n), .val (.int a), .val (.int b), .val (.str t), .val (.str m), .val (.lst (L15 a b t m)), .val (.int 14), .val (.dic (excK "NotBehind" ["other"] [.str t])), .un, .un, .un]) (S1 := S) (by kernel_rfl) ?_
  refine s_seq (ρ1 := [.val (.mref n), .val (.int a), .val (.int b), .val (.str t), .val (.str m), .val (.lst (L15 a b t m)), .val (.int 14), .val (.dic (excK "NotBehind" ["other"] [.str t])), .val (.lst [.int b, .int b, .int a, .int b, .int a, .int a, .int b]), .un, .un]) (S1 := S) (by kernel_rfl) ?_
  refine s_seq (ρ1 := [.val (.mref n), .val (.int a), .val (.int b), .val (.str t), .val (.str m), .val (.lst (L15 a b t m)), .val (.int 14), .val (.dic (excK "NotBehind" ["other"] [.str t])), .val (.lst [.int b, .int b, .int a, .int b, .int a, .int a, .int b]), .val (.lst [.int b, .int b, .int a, .int b, .int a, .int a, .int b]), .un]) (S1 := S) (by kernel_rfl) ?_
  refine s_seq (ρ1 := [.val (.mref n), .val (.int a), .val (.int b), .val (.str t), .val (.str m), .val (.lst (L15 a b t m)), .val (.int 14), .val (.dic (excK "NotBehind" ["other"] [.str t])), .val (.lst [.int b, .int b, .int a, .int b, .int a, .int a, .int b, .str t, .str m, .int a, .str t, .str m, .str t]), .val (.lst [.int b, .int b, .int a, .int b, .int a, .int a, .int b]), .un]) (S1 := S) (by kernel_rfl) ?_
  refine s_seq (ρ1 := [.val (.mref n), .val (.int a), .val (.int b), .val (.str t), .val (.str m), .val (.lst (L15 a b t m)), .val (.int 14), .val (.dic (excK "NotBehind" ["other"] [.str t])), .val (.lst [.int b, .int b, .int a, .int b, .int a, .int a, .int b, .str t, .str m, .int a, .str t, .str m, .str t]), .val (.lst [.int b, .int b, .int a, .int b, .int a, .int a, .int b, .str t, .str m, .int a, .str t, .str m, .str t]), .un]) (S1 := S) (by kernel_rfl) ?_
  refine s_seq (ρ1 := [.val (.mref n), .val (.int a), .val (.int b), .val (.str t), .val (.str m), .val (.lst (L15 a b t m)), .val (.int 14), .val (.dic (excK "NotBehind" ["other"] [.str t])), .val (.lst [.int b, .int b, .int a, .int b, .int a, .int a, .int b, .str t, .str m, .int a, .str t, .str m, .str t, .int a, .int a, .int b]), .val (.lst [.int b, .int b, .int a, .int b, .int a, .int a, .int b, .str t, .str m, .int a, .str t, .str m, .str t]), .un]) (S1 := S) (by kernel_rfl) ?_
  refine s_seq (ρ1 := [.val (.mref n), .val (.int a), .val (.int b), .val (.str t), .val (.str m), .val (.lst (L15 a b t m)), .val (.int 14), .val (.dic (excK "NotBehind" ["other"] [.str t])), .val (.lst [.int b, .int b, .int a, .int b, .int a, .int a, .int b, .str t, .str m, .int a, .str t, .str m, .str t, .int a, .int a, .int b]), .val (.lst [.int b, .int b, .int a, .int b, .int a, .int a, .int b, .str t, .str m, .int a, .str t, .str m, .str t, .int a, .int a, .int b]), .un]) (S1 := S) (by kernel_rfl) ?_
  refine s_seq (ρ1 := [.val (.mref n), .val (.int a), .val (.int b), .val (.str t), .val (.str m), .val (.lst (L15 a b t m)), .val (.int 14), .val (.dic (excK "NotBehind" ["other"] [.str t])), .val (.lst [.int b, .int b, .int a, .int b, .int a, .int a, .int b, .str t, .str m, .int a, .str t, .str m, .str t, .int a, .int a, .int b, .int b, .int a, .str m]), .val (.lst [.int b, .int b, .int a, .int b, .int a, .int a, .int b, .str t, .str m, .int a, .str t, .str m, .str t, .int a, .int a, .int b]), .un]) (S1 := S) (by kernel_rfl) ?_
  refine s_seq (ρ1 := [.val (.mref n), .val (.int a), .val (.int b), .val (.str t), .val (.str m), .val (.lst (L15 a b t m)), .val (.int 14), .val (.dic (excK "NotBehind" ["other"] [.str t])), .val (.lst [.int b, .int b, .int a, .int b, .int a, .int a, .int b, .str t, .str m, .int a, .str t, .str m, .str t, .int a, .int a, .int b, .int b, .int a, .str m]), .val (.lst [.int b, .int b, .int a, .int b, .int a, .int a, .int b, .str t, .str m, .int a, .str t, .str m, .str t, .int a, .int a, .int b, .int b, .int a, .str m]), .un]) (S1 := S) (by kernel_rfl) ?_
  refine s_seq (ρ1 := [.val (.mref n), .val (.int a), .val (.int b), .val (.str t), .val (.str m), .val (.lst (L15 a b t m)), .val (.int 14), .val (.dic (excK "NotBehind" ["other"] [.str t])), .val (.lst [.int b, .int b, .int a, .int b, .int a, .int a, .int b, .str t, .str m, .int a, .str t, .str m, .str t, .int a, .int a, .int b, .int b, .int a, .str m, .str t, .int b, .str m, .str t]), .val (.lst [.int b, .int b, .int a, .int b, .int a, .int a, .int b, .str t, .str m, .int a, .str t, .str m, .str t, .int a, .int a, .int b, .int b, .int a, .str m]), .un]) (S1 := S) (by kernel_rfl) ?_
  have gd : ∀ ρ : List SlV, ρ = [.val (.mref n), .val (.int a), .val (.int b), .val (.str t), .val (.str m), .val (.lst (L15 a b t m)), .val (.int 14), .val (.dic (excK "NotBehind" ["other"] [.str t])), .val (.lst [.int b, .int b, .int a, .int b, .int a, .int a, .int b, .str t, .str m, .int a, .str t, .str m, .str t, .int a, .int a, .int b, .int b, .int a, .str m, .str t, .int b, .str m, .str t]), .val (.lst [.int b, .int b, .int a, .int b, .int a, .int a, .int b, .str t, .str m, .int a, .str t, .str m, .str t, .int a, .int a, .int b, .int b, .int a, .str m]), .un] → (mOp fAdd (mVar 8) (mLst (mCons (mXa "NotBehind" "other" (mMkEK "NotBehind" ["other"] 1 [0] (mCons (mVar 4) mNil))) mNil))) ρ S = some (.lst [.int b, .int b, .int a, .int b, .int a, .int a, .int b, .str t, .str m, .int a, .str t, .str m, .str t, .int a, .int a, .int b, .int b, .int a, .str m, .str t, .int b, .str m, .str t, .str m], S) ∧ (mOp fAdd (mVar 9) (mLst (mCons (mVar 3) (mCons (mVar 2) (mCons (mVar 4) (mCons (mVar 3) (mCons (mVar 4) mNil))))))) ρ S = some (.lst [.int b, .int b, .int a, .int b, .int a, .int a, .int b, .str t, .str m, .int a, .str t, .str m, .str t, .int a, .int a, .int b, .int b, .int a, .str m, .str t, .int b, .str m, .str t, .str m], S) := fun ρ e => by
    subst e
    exact ⟨by kernel_rfl, by kernel_rfl⟩
  refine s_ret (v_fn (v_cons (gd _ rfl).1 (v_cons (gd _ rfl).2 v_nil)) (fsame ?_ (by kernel_rfl) S))
  have pt : ∀ u ∈ P0, (PyData.str u).canLay0 = true := by decide +kernel
  have q1 := pt t ht
  have q2 := pt m hm
  simp only [PV.pl, plL, q1, q2, Bool.and_self, Bool.and_true, Bool.true_and]
end BL

namespace BL
open PySem PySem.Spec PyProof.Rows L2
open C8 (Cal Mak pe_c pe_mk)
def topS (i : Nat) : Stmt := PySem.Challenge.pw_boundedlevels_k00_errors.main.body.getD i (.Pass ⟨0, 0, 0, 0⟩)
abbrev s_law_box : Stmt := topS 18
abbrev n_law_box : List Str := ["_law_script", "_law_k", "_law_cell"]
theorem sc_law_box : FnScope n_law_box ["_law_script", "_law_k"] (defScope s_law_box) := ⟨rfl, rfl, rfl, by decide +kernel, rfl, by decide +kernel, by decide +kernel⟩
abbrev s_law_take : Stmt := topS 19
abbrev n_law_take : List Str := ["_law_box_here", "_law_size_so", "_law_some", "_law_once", "_law_far", "_law_again"]
theorem sc_law_take : FnScope n_law_take ["_law_box_here", "_law_size_so"] (defScope s_law_take) := ⟨rfl, rfl, rfl, by decide +kernel, rfl, by decide +kernel, by decide +kernel⟩
abbrev s_law_pick : Stmt := topS 21
abbrev n_law_pick : List Str := ["_law_box_here", "_law_goods_so", "_law_count_so", "_law_pool_so", "_law_found", "_law_turn"]
theorem sc_law_pick : FnScope n_law_pick ["_law_box_here", "_law_goods_so", "_law_count_so"] (defScope s_law_pick) := ⟨rfl, rfl, rfl, by decide +kernel, rfl, by decide +kernel, by decide +kernel⟩
abbrev s_law_sorts : Stmt := topS 23
abbrev n_law_sorts : List Str := ["_law_caught", "_law_some"]
theorem sc_law_sorts : FnScope n_law_sorts ["_law_caught"] (defScope s_law_sorts) := ⟨rfl, rfl, rfl, by decide +kernel, rfl, by decide +kernel, by decide +kernel⟩
abbrev s_law_right : Stmt := topS 24
abbrev n_law_right : List Str := ["_law_box_here", "_law_one", "_law_two", "_law_tag", "_law_mate", "_law_some", "_law_k", "_law_own", "_law_got", "_law_due", "_law_j"]
theorem sc_law_right : FnScope n_law_right ["_law_box_here"] (defScope s_law_right) := ⟨rfl, rfl, rfl, by decide +kernel, rfl, by decide +kernel, by decide +kernel⟩
abbrev s_law_same : Stmt := topS 22
abbrev n_law_same : List Str := ["_law_got", "_law_due", "_law_mine", "_law_its"]
theorem sc_law_same : FnScope n_law_same ["_law_got", "_law_due"] (defScope s_law_same) := ⟨rfl, rfl, rfl, by decide +kernel, rfl, by decide +kernel, by decide +kernel⟩
abbrev s_law_cells : Stmt := topS 20
abbrev n_law_cells : List Str := ["_law_script", "_law_top_so", "_law_cells_so", "_law_k", "_law_cell", "_law_at_so"]
theorem sc_law_cells : FnScope n_law_cells ["_law_script", "_law_top_so"] (defScope s_law_cells) := ⟨rfl, rfl, rfl, by decide +kernel, rfl, by decide +kernel, by decide +kernel⟩
abbrev s_law : Stmt := topS 25
abbrev n_law : List Str := ["_law_script", "_law_cells_here", "_law_k"]
theorem sc_law : FnScope n_law ["_law_script"] (defScope s_law) := ⟨rfl, rfl, rfl, by decide +kernel, rfl, by decide +kernel, by decide +kernel⟩
end BL

namespace BL
open PySem PySem.Spec PyProof.Rows L2
abbrev s_BadText_init : Stmt := inClass (topS 2) 0
theorem sc_BadText_init : FnScope ["self", "place"] ["self", "place"] (defScope s_BadText_init) := ⟨rfl, rfl, rfl, by decide +kernel, rfl, by decide +kernel, by decide +kernel⟩
theorem ok_ei_BadText {P : Program} {w : World} {K : PySem.W.Frag} {mg : Str → Option Value} {base : Heap} {f : Addr} {fd : FuncData} {Ce : Addr} (F : Fun K "__init__" "BadText.__init__" s_BadText_init f fd) : FnOk P w K mg base CX0 1 f fd ["self", "place"] (spEI K Ce ["place"]) := by
  refine F.ok sc_BadText_init (fun vs H Q E h => ?_) (fun cdv A outer s H vs Q E hr h => ?_)
  · obtain ⟨a, ys, rfl, l, _⟩ := h
    simpa using l
  · exact ⟨_, pss_one (ps_ost (pv 0) (pv 1)), pure_ei1 h rfl⟩
abbrev s_BadLine_init : Stmt := inClass (topS 3) 0
theorem sc_BadLine_init : FnScope ["self", "number"] ["self", "number"] (defScope s_BadLine_init) := ⟨rfl, rfl, rfl, by decide +kernel, rfl, by decide +kernel, by decide +kernel⟩
theorem ok_ei_BadLine {P : Program} {w : World} {K : PySem.W.Frag} {mg : Str → Option Value} {base : Heap} {f : Addr} {fd : FuncData} {Ce : Addr} (F : Fun K "__init__" "BadLine.__init__" s_BadLine_init f fd) : FnOk P w K mg base CX0 1 f fd ["self", "number"] (spEI K Ce ["number"]) := by
  refine F.ok sc_BadLine_init (fun vs H Q E h => ?_) (fun cdv A outer s H vs Q E hr h => ?_)
  · obtain ⟨a, ys, rfl, l, _⟩ := h
    simpa using l
  · exact ⟨_, pss_one (ps_ost (pv 0) (pv 1)), pure_ei1 h rfl⟩
abbrev s_Crossed_init : Stmt := inClass (topS 4) 0
theorem sc_Crossed_init : FnScope ["self", "low", "high"] ["self", "low", "high"] (defScope s_Crossed_init) := ⟨rfl, rfl, rfl, by decide +kernel, rfl, by decide +kernel, by decide +kernel⟩
theorem ok_ei_Crossed {P : Program} {w : World} {K : PySem.W.Frag} {mg : Str → Option Value} {base : Heap} {f : Addr} {fd : FuncData} {Ce : Addr} (F : Fun K "__init__" "Crossed.__init__" s_Crossed_init f fd) : FnOk P w K mg base CX0 1 f fd ["self", "low", "high"] (spEI K Ce ["low", "high"]) := by
  refine F.ok sc_Crossed_init (fun vs H Q E h => ?_) (fun cdv A outer s H vs Q E hr h => ?_)
  · obtain ⟨a, ys, rfl, l, _⟩ := h
    simpa using l
  · exact ⟨_, pss_cons (ps_ost (pv 0) (pv 1)) (pss_one (ps_ost (pv 0) (pv 2))), pure_ei2 h rfl⟩
abbrev s_NoPlace_init : Stmt := inClass (topS 6) 0
theorem sc_NoPlace_init : FnScope ["self", "place"] ["self", "place"] (defScope s_NoPlace_init) := ⟨rfl, rfl, rfl, by decide +kernel, rfl, by decide +kernel, by decide +kernel⟩
theorem ok_ei_NoPlace {P : Program} {w : World} {K : PySem.W.Frag} {mg : Str → Option Value} {base : Heap} {f : Addr} {fd : FuncData} {Ce : Addr} (F : Fun K "__init__" "NoPlace.__init__" s_NoPlace_init f fd) : FnOk P w K mg base CX0 1 f fd ["self", "place"] (spEI K Ce ["place"]) := by
  refine F.ok sc_NoPlace_init (fun vs H Q E h => ?_) (fun cdv A outer s H vs Q E hr h => ?_)
  · obtain ⟨a, ys, rfl, l, _⟩ := h
    simpa using l
  · exact ⟨_, pss_one (ps_ost (pv 0) (pv 1)), pure_ei1 h rfl⟩
abbrev s_NoStarts_init : Stmt := inClass (topS 9) 0
theorem sc_NoStarts_init : FnScope ["self", "low", "high"] ["self", "low", "high"] (defScope s_NoStarts_init) := ⟨rfl, rfl, rfl, by decide +kernel, rfl, by decide +kernel, by decide +kernel⟩
theorem ok_ei_NoStarts {P : Program} {w : World} {K : PySem.W.Frag} {mg : Str → Option Value} {base : Heap} {f : Addr} {fd : FuncData} {Ce : Addr} (F : Fun K "__init__" "NoStarts.__init__" s_NoStarts_init f fd) : FnOk P w K mg base CX0 1 f fd ["self", "low", "high"] (spEI K Ce ["low", "high"]) := by
  refine F.ok sc_NoStarts_init (fun vs H Q E h => ?_) (fun cdv A outer s H vs Q E hr h => ?_)
  · obtain ⟨a, ys, rfl, l, _⟩ := h
    simpa using l
  · exact ⟨_, pss_cons (ps_ost (pv 0) (pv 1)) (pss_one (ps_ost (pv 0) (pv 2))), pure_ei2 h rfl⟩
abbrev s_NoName_init : Stmt := inClass (topS 11) 0
theorem sc_NoName_init : FnScope ["self", "name"] ["self", "name"] (defScope s_NoName_init) := ⟨rfl, rfl, rfl, by decide +kernel, rfl, by decide +kernel, by decide +kernel⟩
theorem ok_ei_NoName {P : Program} {w : World} {K : PySem.W.Frag} {mg : Str → Option Value} {base : Heap} {f : Addr} {fd : FuncData} {Ce : Addr} (F : Fun K "__init__" "NoName.__init__" s_NoName_init f fd) : FnOk P w K mg base CX0 1 f fd ["self", "name"] (spEI K Ce ["name"]) := by
  refine F.ok sc_NoName_init (fun vs H Q E h => ?_) (fun cdv A outer s H vs Q E hr h => ?_)
  · obtain ⟨a, ys, rfl, l, _⟩ := h
    simpa using l
  · exact ⟨_, pss_one (ps_ost (pv 0) (pv 1)), pure_ei1 h rfl⟩
abbrev s_Taken_init : Stmt := inClass (topS 12) 0
theorem sc_Taken_init : FnScope ["self", "name"] ["self", "name"] (defScope s_Taken_init) := ⟨rfl, rfl, rfl, by decide +kernel, rfl, by decide +kernel, by decide +kernel⟩
theorem ok_ei_Taken {P : Program} {w : World} {K : PySem.W.Frag} {mg : Str → Option Value} {base : Heap} {f : Addr} {fd : FuncData} {Ce : Addr} (F : Fun K "__init__" "Taken.__init__" s_Taken_init f fd) : FnOk P w K mg base CX0 1 f fd ["self", "name"] (spEI K Ce ["name"]) := by
  refine F.ok sc_Taken_init (fun vs H Q E h => ?_) (fun cdv A outer s H vs Q E hr h => ?_)
  · obtain ⟨a, ys, rfl, l, _⟩ := h
    simpa using l
  · exact ⟨_, pss_one (ps_ost (pv 0) (pv 1)), pure_ei1 h rfl⟩
abbrev s_Outside_init : Stmt := inClass (topS 13) 0
theorem sc_Outside_init : FnScope ["self", "number"] ["self", "number"] (defScope s_Outside_init) := ⟨rfl, rfl, rfl, by decide +kernel, rfl, by decide +kernel, by decide +kernel⟩
theorem ok_ei_Outside {P : Program} {w : World} {K : PySem.W.Frag} {mg : Str → Option Value} {base : Heap} {f : Addr} {fd : FuncData} {Ce : Addr} (F : Fun K "__init__" "Outside.__init__" s_Outside_init f fd) : FnOk P w K mg base CX0 1 f fd ["self", "number"] (spEI K Ce ["number"]) := by
  refine F.ok sc_Outside_init (fun vs H Q E h => ?_) (fun cdv A outer s H vs Q E hr h => ?_)
  · obtain ⟨a, ys, rfl, l, _⟩ := h
    simpa using l
  · exact ⟨_, pss_one (ps_ost (pv 0) (pv 1)), pure_ei1 h rfl⟩
abbrev s_Needed_init : Stmt := inClass (topS 14) 0
theorem sc_Needed_init : FnScope ["self", "name"] ["self", "name"] (defScope s_Needed_init) := ⟨rfl, rfl, rfl, by decide +kernel, rfl, by decide +kernel, by decide +kernel⟩
theorem ok_ei_Needed {P : Program} {w : World} {K : PySem.W.Frag} {mg : Str → Option Value} {base : Heap} {f : Addr} {fd : FuncData} {Ce : Addr} (F : Fun K "__init__" "Needed.__init__" s_Needed_init f fd) : FnOk P w K mg base CX0 1 f fd ["self", "name"] (spEI K Ce ["name"]) := by
  refine F.ok sc_Needed_init (fun vs H Q E h => ?_) (fun cdv A outer s H vs Q E hr h => ?_)
  · obtain ⟨a, ys, rfl, l, _⟩ := h
    simpa using l
  · exact ⟨_, pss_one (ps_ost (pv 0) (pv 1)), pure_ei1 h rfl⟩
abbrev s_Ring_init : Stmt := inClass (topS 15) 0
theorem sc_Ring_init : FnScope ["self", "name"] ["self", "name"] (defScope s_Ring_init) := ⟨rfl, rfl, rfl, by decide +kernel, rfl, by decide +kernel, by decide +kernel⟩
theorem ok_ei_Ring {P : Program} {w : World} {K : PySem.W.Frag} {mg : Str → Option Value} {base : Heap} {f : Addr} {fd : FuncData} {Ce : Addr} (F : Fun K "__init__" "Ring.__init__" s_Ring_init f fd) : FnOk P w K mg base CX0 1 f fd ["self", "name"] (spEI K Ce ["name"]) := by
  refine F.ok sc_Ring_init (fun vs H Q E h => ?_) (fun cdv A outer s H vs Q E hr h => ?_)
  · obtain ⟨a, ys, rfl, l, _⟩ := h
    simpa using l
  · exact ⟨_, pss_one (ps_ost (pv 0) (pv 1)), pure_ei1 h rfl⟩
abbrev s_NotBehind_init : Stmt := inClass (topS 16) 0
theorem sc_NotBehind_init : FnScope ["self", "other"] ["self", "other"] (defScope s_NotBehind_init) := ⟨rfl, rfl, rfl, by decide +kernel, rfl, by decide +kernel, by decide +kernel⟩
theorem ok_ei_NotBehind {P : Program} {w : World} {K : PySem.W.Frag} {mg : Str → Option Value} {base : Heap} {f : Addr} {fd : FuncData} {Ce : Addr} (F : Fun K "__init__" "NotBehind.__init__" s_NotBehind_init f fd) : FnOk P w K mg base CX0 1 f fd ["self", "other"] (spEI K Ce ["other"]) := by
  refine F.ok sc_NotBehind_init (fun vs H Q E h => ?_) (fun cdv A outer s H vs Q E hr h => ?_)
  · obtain ⟨a, ys, rfl, l, _⟩ := h
    simpa using l
  · exact ⟨_, pss_one (ps_ost (pv 0) (pv 1)), pure_ei1 h rfl⟩
end BL

namespace BL
open PySem PySem.Spec PyProof.Rows L2
open C8 (Cal Mak pe_c pe_mk)
open RZ (pi_zipA)
abbrev sCells : Stmt := s_law_cells
abbrev nCells : List Str := n_law_cells
theorem scCells : FnScope nCells ["_law_script", "_law_top_so"] (defScope sCells) := sc_law_cells
abbrev sSame : Stmt := s_law_same
abbrev nSame : List Str := n_law_same
theorem scSame : FnScope nSame ["_law_got", "_law_due"] (defScope sSame) := sc_law_same
theorem putlen (s f : V) : (putF "_floor" f (putF "_shift" s [])).length < 1000 := by
  show (if ("_shift" : Str) = "_floor" then _ else (("_shift" : Str), s) :: putF "_floor" f []).length < 1000
  rw [if_neg k3]
  show 2 < 1000
  decide
structure Good (ns : List Int) (H : Hp) (l : Addr) (cs0 : List Int) (H2 : Hp) : Prop where
  s : Same H H2
  n : H l = none
  e : H2 l = some (.lst (cs0.map V.int))
  h3 : cs0.length ≤ 3
  h4 : 3 < ns.length → cs0.length = 3

section
variable {P : Program} {w : World} {K : PySem.W.Frag} {mg : Str → Option Value} {base : Heap} {C : Addr}
theorem ok_cells {f : Addr} {fd : FuncData} (F : Fun K "_law_cells" "_law_cells" sCells f fd) (T : Bt mg) : FnOk P w K mg base CX0 1 f fd ["_law_script", "_law_top_so"] (spCells K) := by
  refine F.ok scCells (fun vs H Q E h => ?_) (fun cdv A outer s H vs Q E hr h => ?_)
  · obtain ⟨a, ns, rfl, _⟩ := h
    rfl
  · obtain ⟨a, ns, rfl, hS, hl, q⟩ := h
    refine ⟨_, (pss_cons (ps_set (i := 2) scCells.nd rfl (.inl rfl) (pe_orT (pe_callTy call_list_of (by rfl) T.list (by decide +kernel) (pa_cons (pe_slice sl_list (pv 0) po_none (po_some (pv 1))) pa_nil)) (pe_one (pe_lst (pa_cons pe_int pa_nil)))))
  (pss_cons (ps_for PassesOwn.never rfl (pi_enum (by rfl) T.enumerate (pa_cons (pe_slice sl_list (pv 0) (po_some (pv 1)) (po_some pe_int)) pa_nil)) (pg_tup rfl (pgs_cons (pg_name (i := 3) scCells.nd rfl (.inl rfl)) (pgs_cons (pg_name (i := 4) scCells.nd rfl (.inl rfl)) pgs_nil))) (pss_cons (ps_set (i := 5) scCells.nd rfl (.inl rfl) (pe_op op_mod (pe_callTy call_int1 (by rfl) T.int (by decide +kernel) (pa_cons (pv 3) pa_nil)) (pv 1)))
  (pss_one (ps_asg (pe_op op_add (pe_ix ix_list (pv 2) (pv 5) (fun _ _ => rfl)) (pe_op op_mul (pv 4) (pe_op op_add (pv 3) pe_int))) (pg_sub (pv 2) (pv 5) set_list)))))
  (pss_one (ps_ret (pv 2))))), ?_⟩
    refine ⟨_, rfl, _, rfl, _, rfl, a, _, rfl, hS, fun c1 nc1 => ?_⟩
    have e1 : (upd H c1 (.lst (cutV (ns.map V.int) none (some 3)))) c1 = some (.lst (cutV (ns.map V.int) none (some 3))) := upd_same
    refine ⟨c1, _, rfl, .inl (SqL.of e1), fun l nl => ?_⟩
    have n1 : H l = none := (same_upd nc1).free nl
    have s1 : Same H (upd (upd H c1 (.lst (cutV (ns.map V.int) none (some 3)))) l (.lst (cutV (ns.map V.int) none (some 3)))) := (same_upd nc1).trans (same_upd nl)
    have ecut : cutV (ns.map V.int) none (some 3) = (ns.take 3).map V.int := by
      unfold cutV
      rw [HT.sIx_none, List.drop_zero, show HT.sIx (ns.map V.int).length (ns.map V.int).length (some 3) = min 3 (ns.map V.int).length from HT.sIx_nat _ _ 3, List.length_map, Nat.sub_zero, List.map_take]
      by_cases c : 3 ≤ ns.length
      · rw [Nat.min_eq_left c]
      · rw [Nat.min_eq_right (by omega), List.take_of_length_le (by rw [List.length_map]; omega), List.take_of_length_le (by rw [List.length_map]; omega)]
    have ecut2 : cutV (ns.map V.int) (some 3) (some 63) = (ns.drop 3).map V.int := by
      unfold cutV
      rw [show HT.sIx (ns.map V.int).length 0 (some 3) = min 3 (ns.map V.int).length from HT.sIx_nat _ _ 3, show HT.sIx (ns.map V.int).length (ns.map V.int).length (some 63) = min 63 (ns.map V.int).length from HT.sIx_nat _ _ 63, List.length_map, List.map_drop]
      by_cases c : 3 ≤ ns.length
      · rw [Nat.min_eq_left c, List.take_of_length_le (by rw [List.length_drop, List.length_map]; omega)]
      · rw [Nat.min_eq_right (show ns.length ≤ 3 by omega), List.drop_of_length_le (by rw [List.length_map]; omega), List.drop_of_length_le (by rw [List.length_map]; omega), List.take_nil]
    refine ⟨!(cutV (ns.map V.int) none (some 3)).isEmpty, .inl ⟨_, SqL.of upd_same, rfl⟩, ?_⟩
    have key : ∀ (l : Addr) (H2 : Hp) (cs0 : List Int), Same H H2 → H l = none → H2 l = some (.lst (cs0.map V.int)) → cs0.length ≤ 3 → (3 < ns.length → cs0.length = 3) → Good ns H l cs0 H2 := fun _ _ _ h1 h2 h3 h4 h5 => ⟨h1, h2, h3, h4, h5⟩
    refine ite2 (fun c => ?yes) (fun c => ?no)
    case' yes => obtain ⟨cs0, g⟩ : ∃ cs0, Good ns H l cs0 _ := ⟨_, key l _ (ns.take 3) s1 n1 (by rw [← ecut]; exact upd_same) (by rw [List.length_take]; omega) (by rw [List.length_take]; omega)⟩
    case' no =>
      have e3 : ns = [] := by
        cases ns with
        | nil => rfl
        | cons x r => exact absurd (by rw [ecut]; rfl) c
      refine ⟨(by show 1 ≤ sizeLine; decide), fun l nl2 => ?_⟩
      obtain ⟨cs0, g⟩ : ∃ cs0, Good ns H l cs0 _ := ⟨_, key l _ [0] (s1.trans (same_upd nl2)) (s1.free nl2) upd_same (by decide) (fun h => by rw [e3] at h; cases h)⟩
    all_goals
      clear key
      obtain ⟨s2, nl0, hl2, h3, h4⟩ := g
      refine ⟨_, rfl, _, rfl, _, rfl, _, rfl, a, _, rfl, s2.seq hS, fun d nd => ?_⟩
      rw [ecut2]
      refine ⟨d, _, rfl, SqL.of upd_same, for_it walk_enum (fun i σ H3 => ∃ (cs : List Int) (v3 v4 v5 : Option V), σ = [some (.ref a), some (.int 3), some (.ref l), v3, v4, v5] ∧ Same H H3 ∧ H3 l = some (.lst (cs.map V.int)) ∧ cs.length = cs0.length ∧ H3 d = some (.lst ((ns.drop 3).map V.int)))
        ⟨cs0, none, none, none, rfl, s2.trans (same_upd nd), by rw [upd_ne (ne_of_none hl2 nd)]; exact hl2, rfl, upd_same⟩ (fun i σ H3 _ ⟨_, _, _, _, _, _, _, _, e⟩ => SqL.of e) ?turn ?done⟩
      case turn =>
        rintro i y σ H3 H4 hi ⟨cs, v3, v4, v5, rfl, s3, e3, l3, ed⟩ ⟨T', x1, x2, rfl, nT, rfl, f1, f2⟩
        have ex1 : V.int ((i : Nat) : Int) = x1 := Option.some.inj f1
        subst ex1
        have hi' : i < (ns.drop 3).length := by rw [List.length_map] at hi; exact hi
        have hd3 : (ns.drop 3).length = ns.length - 3 := List.length_drop
        have hlen : 3 < ns.length := by omega
        have ex2 : x2 = .int (ns.drop 3)[i] := by
          change (List.map V.int (List.drop 3 ns))[i]? = some x2 at f2
          rw [List.getElem?_map, List.getElem?_eq_getElem hi'] at f2
          exact (Option.some.inj f2).symm
        subst ex2
        have nTl : l ≠ T' := ne_of_none e3 nT
        have nTd : d ≠ T' := ne_of_none ed nT
        have e4 : (upd H3 T' (.tup [.int i, .int (ns.drop 3)[i]])) l = some (.lst (cs.map V.int)) := by rw [upd_ne nTl]; exact e3
        have hcs : cs.length = 3 := by rw [l3]; exact h4 hlen
        have hm := emod_le (a := (i : Int)) (b := 3) (by decide)
        obtain ⟨j, hj⟩ := Int.eq_ofNat_of_zero_le hm.1
        have hj3 : j < 3 := by omega
        have gj : (cs.map V.int)[j]? = some (.int (cs[j]'(by omega))) := by
          rw [List.getElem?_map, List.getElem?_eq_getElem (by omega)]
          rfl
        refine ⟨T', _, rfl, SqT.of upd_same, rfl, _, _, rfl, _, _, rfl, rfl, ?_⟩
        refine ⟨_, rfl, .inl ⟨_, rfl, _, rfl, _, _, rfl, rfl, (by show (0 : Int) < 3; decide), ?_⟩⟩
        refine ⟨_, rfl, _, rfl, l, _, _, _, rfl, rfl, SqL.of e4, by rw [hj]; exact atI_nat gj, _, rfl, _, rfl, _, _, rfl, rfl, _, _, rfl, rfl, .inr ⟨by omega, by omega⟩, _, _, rfl, rfl, _, rfl, _, rfl, l, _, _, j, rfl, rfl, e4, ?_, ?_⟩
        · rw [hj]
          unfold ixN
          rw [if_pos (by omega), if_pos (by rw [List.length_map]; omega)]
          rfl
        · refine ⟨cs.set j (cs[j]'(by omega) + (ns.drop 3)[i] * ((i : Int) + 2)), _, _, _, rfl, ?_, ?_, ?_, ?_⟩
          · intro p o e
            rw [upd_ne (ne_of_none e nl0), upd_ne (ne_of_none (s3 _ _ e) nT)]
            exact s3 _ _ e
          · rw [upd_same, List.map_set]
          · rw [List.length_set]; exact l3
          · rw [upd_ne ?_, upd_ne nTd]
            · exact ed
            · exact (ne_of_none hl2 nd).symm
      case done =>
        rintro σ H3 ⟨cs, v3, v4, v5, rfl, s3, e3, l3, ed⟩
        exact ⟨_, rfl, q l cs H3 s3 nl0 e3 (by omega)⟩

theorem same0 {f : Addr} {fd : FuncData} : FnOk P w K mg base CX0 0 f fd ["_law_got", "_law_due"] (spSame K 0) := ⟨fun _ _ _ _ h => h.elim, fun _ _ _ _ _ _ _ _ _ _ _ _ _ h => h.elim⟩
theorem same1 {f : Addr} {fd : FuncData} {n : Nat} (F : Fun K "_law_same" "_law_same" sSame f fd) (T : Bt mg) (c__law_same : Cal P w K mg base n "_law_same" (spSame K n) []) : FnOk P w K mg base CX0 (n + 1) f fd ["_law_got", "_law_due"] (spSame K (n + 1)) := by
  refine F.ok scSame (fun vs H Q E h => ?_) (fun cdv A outer s H vs Q E hr h => ?_)
  · obtain ⟨x, y, rfl, _⟩ := h
    rfl
  · obtain ⟨x, y, rfl, hE, q⟩ := h
    refine ⟨_, (pss_cons (ps_if (pt_val (pe_callB call_isiT (by rfl) T.isinstance (by decide +kernel) (pa_cons (pv 1) (pa_cons (pe_tup (pa_cons (pe_bltn (v := .ty "list") (by rfl) T.list (by decide +kernel) rfl) (pa_cons (pe_bltn (v := .ty "tuple") (by rfl) T.tuple (by decide +kernel) rfl) pa_nil))) pa_nil)))) (pss_cons (ps_if (pt_cmpR op_ne (pe_callB call_isi (by rfl) T.isinstance (by decide +kernel) (pa_cons (pv 0) (pa_cons (pe_bltn (v := .ty "list") (by rfl) T.list (by decide +kernel) rfl) pa_nil))) (pe_callB call_isi (by rfl) T.isinstance (by decide +kernel) (pa_cons (pv 1) (pa_cons (pe_bltn (v := .ty "list") (by rfl) T.list (by decide +kernel) rfl) pa_nil))) (nomark _)) (pss_one (ps_ret pe_bl)) pss_nil)
  (pss_cons (ps_if (pt_cmpR op_ne (pe_callB call_isi (by rfl) T.isinstance (by decide +kernel) (pa_cons (pv 0) (pa_cons (pe_bltn (v := .ty "tuple") (by rfl) T.tuple (by decide +kernel) rfl) pa_nil))) (pe_callB call_isi (by rfl) T.isinstance (by decide +kernel) (pa_cons (pv 1) (pa_cons (pe_bltn (v := .ty "tuple") (by rfl) T.tuple (by decide +kernel) rfl) pa_nil))) (nomark _)) (pss_one (ps_ret pe_bl)) pss_nil)
  (pss_one (ps_ret (pe_and (pe_cmpR op_eq (pe_callB call_len_seq (by rfl) T.len PySem.boot_len (pa_cons (pv 0) pa_nil)) (pe_callB call_len_seq (by rfl) T.len PySem.boot_len (pa_cons (pv 1) pa_nil)) (nomark _)) (pe_one (pe_callB (cr_all rfl) (by rfl) T.all (by decide +kernel) (pa_cons (pe_lc (own := [("_law_mine", 2), ("_law_its", 3)]) (g := gTup K 2 (gCons (gName 2) (gCons (gName 3) gNil))) (by rfl) scSame.nd (pi_zipA (by rfl) T.zip (pa_cons (pv 0) (pa_cons (pv 1) pa_nil))) (blkOk_by (own := [("_law_mine", 2), ("_law_its", 3)]) (N := nSame) (sc := defScope sSame) (by decide +kernel)) (fun _ _ _ _ _ => (pg_tup rfl (pgs_cons (pg_name (i := 2) scSame.nd rfl (.inl rfl)) (pgs_cons (pg_name (i := 3) scSame.nd rfl (.inl rfl)) pgs_nil)))) (fun _ _ _ _ _ => pts_nil) (fun _ _ _ _ _ => (pe_c c__law_same hr (Nat.le_refl _) (by rfl) (pa_cons (pv 2) (pa_cons (pv 3) pa_nil))))) pa_nil)))))))) pss_nil)
  (pss_cons (ps_if (pw_or (pt_cmpR op_isN (pv 1) pe_non (nomark _)) (pw_or1 (pt_val (pe_callB call_isiT (by rfl) T.isinstance (by decide +kernel) (pa_cons (pv 1) (pa_cons (pe_tup (pa_cons (pe_bltn (v := .ty "bool") (by rfl) T.bool (by decide +kernel) rfl) (pa_cons (pe_bltn (v := .ty "str") (by rfl) T.str (by decide +kernel) rfl) pa_nil))) pa_nil)))))).pt (pss_one (ps_ret (pe_and (pe_cmpR op_eq (pv 0) (pv 1) (nomark _)) (pe_and (pe_cmpR op_eq (pe_callB call_isi (by rfl) T.isinstance (by decide +kernel) (pa_cons (pv 0) (pa_cons (pe_bltn (v := .ty "bool") (by rfl) T.bool (by decide +kernel) rfl) pa_nil))) (pe_callB call_isi (by rfl) T.isinstance (by decide +kernel) (pa_cons (pv 1) (pa_cons (pe_bltn (v := .ty "bool") (by rfl) T.bool (by decide +kernel) rfl) pa_nil))) (nomark _)) (pe_one (pe_cmpR op_eq (pe_cmpR op_isN (pv 0) pe_non (nomark _)) (pe_cmpR op_isN (pv 1) pe_non (nomark _)) (nomark _))))))) pss_nil)
  (pss_one (ps_ret (pe_and (pe_callB call_isi (by rfl) T.isinstance (by decide +kernel) (pa_cons (pv 0) (pa_cons (pe_bltn (v := .ty "int") (by rfl) T.int (by decide +kernel) rfl) pa_nil))) (pe_and (pe_not (pe_callB call_isi (by rfl) T.isinstance (by decide +kernel) (pa_cons (pv 0) (pa_cons (pe_bltn (v := .ty "bool") (by rfl) T.bool (by decide +kernel) rfl) pa_nil)))) (pe_one (pe_cmpR op_eq (pv 0) (pv 1) (nomark _))))))))), ?_⟩
    cases hE with
    | non n =>
      refine ⟨_, rfl, (by show 2 ≤ sizeLine; decide), fun p np => ?_⟩
      refine ⟨_, p, _, _, _, false, rfl, upd_same, .cons (.ty _) (.cons (.ty _) .nil), .base .non, any_of (by decide +kernel), _, rfl, iteF ?_⟩
      refine ⟨_, rfl, rfl, _, rfl, iteD1 rfl (iteT ?_)⟩
      refine ⟨_, rfl, _, rfl, rfl, _, rfl, iteD1 rfl ?_⟩
      refine ⟨_, rfl, _, _, _, _, false, rfl, .ty _, .base .non, kit_ty (by decide +kernel), _, rfl, _, _, _, _, false, rfl, .ty _, .base .non, kit_ty (by decide +kernel), rfl, _, rfl, iteD1 rfl ?_⟩
      exact ⟨_, rfl, rfl, _, rfl, rfl, rfl, q _ (same_upd np)⟩
    | bl n c =>
      refine ⟨_, rfl, (by show 2 ≤ sizeLine; decide), fun p np => ?_⟩
      refine ⟨_, p, _, _, _, false, rfl, upd_same, .cons (.ty _) (.cons (.ty _) .nil), .base (.bl c), any_of (by decide +kernel), _, rfl, iteF ?_⟩
      refine ⟨_, rfl, rfl, _, rfl, iteD0 (fun h => by cases h) ?_⟩
      refine ⟨_, rfl, (by show 2 ≤ sizeLine; decide), fun p2 np2 => ?_⟩
      refine ⟨_, p2, _, _, _, true, rfl, upd_same, .cons (.ty _) (.cons (.ty _) .nil), .base (.bl c), any_of (by decide +kernel), _, rfl, iteT ?_⟩
      refine ⟨_, rfl, _, rfl, rfl, _, rfl, iteD1 rfl ?_⟩
      refine ⟨_, rfl, _, _, _, _, true, rfl, .ty _, .base (.bl c), kit_ty (by decide +kernel), _, rfl, _, _, _, _, true, rfl, .ty _, .base (.bl c), kit_ty (by decide +kernel), rfl, _, rfl, iteD1 rfl ?_⟩
      refine ⟨_, rfl, rfl, _, rfl, rfl, rfl, ?_⟩
      rw [decide_eq_true rfl]
      exact q _ ((same_upd np).trans (same_upd np2))
    | str n c =>
      refine ⟨_, rfl, (by show 2 ≤ sizeLine; decide), fun p np => ?_⟩
      refine ⟨_, p, _, _, _, false, rfl, upd_same, .cons (.ty _) (.cons (.ty _) .nil), .base (.str c), any_of (by decide +kernel), _, rfl, iteF ?_⟩
      refine ⟨_, rfl, rfl, _, rfl, iteD0 (fun h => by cases h) ?_⟩
      refine ⟨_, rfl, (by show 2 ≤ sizeLine; decide), fun p2 np2 => ?_⟩
      refine ⟨_, p2, _, _, _, true, rfl, upd_same, .cons (.ty _) (.cons (.ty _) .nil), .base (.str c), any_of (by decide +kernel), _, rfl, iteT ?_⟩
      refine ⟨_, rfl, _, rfl, rfl, _, rfl, iteD1 rfl ?_⟩
      refine ⟨_, rfl, _, _, _, _, false, rfl, .ty _, .base (.str c), kit_ty (by decide +kernel), _, rfl, _, _, _, _, false, rfl, .ty _, .base (.str c), kit_ty (by decide +kernel), rfl, _, rfl, iteD1 rfl ?_⟩
      refine ⟨_, rfl, rfl, _, rfl, rfl, rfl, ?_⟩
      rw [decide_eq_true rfl]
      exact q _ ((same_upd np).trans (same_upd np2))
    | int n c =>
      refine ⟨_, rfl, (by show 2 ≤ sizeLine; decide), fun p np => ?_⟩
      refine ⟨_, p, _, _, _, false, rfl, upd_same, .cons (.ty _) (.cons (.ty _) .nil), .base (.int c), any_of (by decide +kernel), _, rfl, iteF ?_⟩
      refine ⟨_, rfl, rfl, _, rfl, iteD0 (fun h => by cases h) ?_⟩
      refine ⟨_, rfl, (by show 2 ≤ sizeLine; decide), fun p2 np2 => ?_⟩
      refine ⟨_, p2, _, _, _, false, rfl, upd_same, .cons (.ty _) (.cons (.ty _) .nil), .base (.int c), any_of (by decide +kernel), _, rfl, iteF ?_⟩
      refine ⟨_, rfl, _, _, _, _, true, rfl, .ty _, .base (.int c), kit_ty (by decide +kernel), _, rfl, iteT ?_⟩
      refine ⟨_, rfl, _, _, _, _, false, rfl, .ty _, .base (.int c), kit_ty (by decide +kernel), _, rfl, _, rfl, iteT ?_⟩
      refine ⟨_, rfl, _, rfl, rfl, ?_⟩
      rw [decide_eq_true rfl]
      exact q _ ((same_upd np).trans (same_upd np2))
    | @lst n a b xs ys h1 h2 hl hz he =>
      refine ⟨_, rfl, (by show 2 ≤ sizeLine; decide), fun p np => ?_⟩
      have s1 : Same H (upd H p (.tup [.ty "list", .ty "tuple"])) := same_upd np
      have hp : (upd H p (.tup [.ty "list", .ty "tuple"])) p = some (.tup [.ty "list", .ty "tuple"]) := upd_same
      generalize (upd H p (.tup [.ty "list", .ty "tuple"])) = H1 at s1 hp ⊢
      have g1 := s1.seq h1
      have g2 := s1.seq h2
      refine ⟨_, p, _, _, _, true, rfl, hp, .cons (.ty _) (.cons (.ty _) .nil), ty_l g2, any_of (by decide +kernel), _, rfl, iteT ?_⟩
      refine ⟨_, rfl, _, _, _, _, true, rfl, .ty _, ty_l g1, kit_ty (by decide +kernel), _, rfl, _, _, _, _, true, rfl, .ty _, ty_l g2, kit_ty (by decide +kernel), rfl, _, rfl, iteNS rfl ?_⟩
      refine ⟨_, rfl, _, _, _, _, false, rfl, .ty _, ty_l g1, kit_ty (by decide +kernel), _, rfl, _, _, _, _, false, rfl, .ty _, ty_l g2, kit_ty (by decide +kernel), rfl, _, rfl, iteNS rfl ?_⟩
      refine ⟨_, rfl, a, xs, rfl, .inl g1, _, rfl, b, ys, rfl, .inl g2, rfl, _, rfl, iteD1 (by rw [hl]) ?_⟩
      refine ⟨_, rfl, _, rfl, a, b, xs, ys, rfl, .inl ⟨g1, g2, fun D nD => ?_⟩⟩
      have s2 : Same H (upd H1 D (.lst [])) := s1.trans (same_upd nD)
      refine lc_it (walk_zip (n := xs.length) (by rw [← hl, Nat.min_self])) (fun i H3 => Same H H3 ∧ H3 D = some (.lst ((List.replicate i true).map V.bl))) ⟨s2, upd_same⟩ (fun i H3 _ h => ⟨h.1.seq h1, h.1.seq h2⟩) ?_ ?_
      · rintro i z H3 H4 hi ⟨s3, e3⟩ ⟨T1, x1, x2, rfl, nT, rfl, f1, f2⟩
        have s4 : Same H (upd H3 T1 (.tup [x1, x2])) := s3.trans (same_upd nT)
        have e4 : (upd H3 T1 (.tup [x1, x2])) D = some (.lst ((List.replicate i true).map V.bl)) := by rw [upd_ne (ne_of_none e3 nT)]; exact e3
        refine ⟨T1, [x1, x2], rfl, SqT.of upd_same, rfl, x1, [x2], rfl, x2, [], rfl, rfl, rfl, ?_⟩
        dsimp only [tYes]
        refine iteT ?_
        refine ⟨_, rfl, _, rfl, x1, x2, rfl, (he i x1 x2 f1 f2).same s4, fun H5 s5 => ⟨_, s5 _ _ e4, ?_, ?_, ?_⟩⟩
        · rw [List.length_map, List.length_replicate]
          exact small1000 (by first | omega | (rw [List.length_map] at hi; omega))
        · intro p o e
          rw [upd_ne (fun z => by rw [z] at e; rw [s1.free nD] at e; cases e)]
          exact s5 _ _ (s4 _ _ e)
        · rw [upd_same, List.replicate_succ', List.map_append]
          rfl
      · rintro H3 ⟨s3, e3⟩
        refine ⟨D, _, rfl, SqL.of e3, ?_⟩
        rw [show (List.replicate xs.length true).all id = true by simp]
        exact q H3 s3
    | @tup n a b xs ys h1 h2 hl hz he =>
      refine ⟨_, rfl, (by show 2 ≤ sizeLine; decide), fun p np => ?_⟩
      have s1 : Same H (upd H p (.tup [.ty "list", .ty "tuple"])) := same_upd np
      have hp : (upd H p (.tup [.ty "list", .ty "tuple"])) p = some (.tup [.ty "list", .ty "tuple"]) := upd_same
      generalize (upd H p (.tup [.ty "list", .ty "tuple"])) = H1 at s1 hp ⊢
      have g1 := s1.seT h1
      have g2 := s1.seT h2
      refine ⟨_, p, _, _, _, true, rfl, hp, .cons (.ty _) (.cons (.ty _) .nil), ty_t g2, any_of (by decide +kernel), _, rfl, iteT ?_⟩
      refine ⟨_, rfl, _, _, _, _, false, rfl, .ty _, ty_t g1, kit_ty (by decide +kernel), _, rfl, _, _, _, _, false, rfl, .ty _, ty_t g2, kit_ty (by decide +kernel), rfl, _, rfl, iteNS rfl ?_⟩
      refine ⟨_, rfl, _, _, _, _, true, rfl, .ty _, ty_t g1, kit_ty (by decide +kernel), _, rfl, _, _, _, _, true, rfl, .ty _, ty_t g2, kit_ty (by decide +kernel), rfl, _, rfl, iteNS rfl ?_⟩
      refine ⟨_, rfl, a, xs, rfl, .inr g1, _, rfl, b, ys, rfl, .inr g2, rfl, _, rfl, iteD1 (by rw [hl]) ?_⟩
      refine ⟨_, rfl, _, rfl, a, b, xs, ys, rfl, .inr ⟨g1, g2, fun D nD => ?_⟩⟩
      have s2 : Same H (upd H1 D (.lst [])) := s1.trans (same_upd nD)
      refine lc_it (walk_zipT (n := xs.length) (by rw [← hl, Nat.min_self])) (fun i H3 => Same H H3 ∧ H3 D = some (.lst ((List.replicate i true).map V.bl))) ⟨s2, upd_same⟩ (fun i H3 _ h => ⟨h.1.seT h1, h.1.seT h2⟩) ?_ ?_
      · rintro i z H3 H4 hi ⟨s3, e3⟩ ⟨T1, x1, x2, rfl, nT, rfl, f1, f2⟩
        have s4 : Same H (upd H3 T1 (.tup [x1, x2])) := s3.trans (same_upd nT)
        have e4 : (upd H3 T1 (.tup [x1, x2])) D = some (.lst ((List.replicate i true).map V.bl)) := by rw [upd_ne (ne_of_none e3 nT)]; exact e3
        refine ⟨T1, [x1, x2], rfl, SqT.of upd_same, rfl, x1, [x2], rfl, x2, [], rfl, rfl, rfl, ?_⟩
        dsimp only [tYes]
        refine iteT ?_
        refine ⟨_, rfl, _, rfl, x1, x2, rfl, (he i x1 x2 f1 f2).same s4, fun H5 s5 => ⟨_, s5 _ _ e4, ?_, ?_, ?_⟩⟩
        · rw [List.length_map, List.length_replicate]
          exact small1000 (by first | omega | (rw [List.length_map] at hi; omega))
        · intro p o e
          rw [upd_ne (fun z => by rw [z] at e; rw [s1.free nD] at e; cases e)]
          exact s5 _ _ (s4 _ _ e)
        · rw [upd_same, List.replicate_succ', List.map_append]
          rfl
      · rintro H3 ⟨s3, e3⟩
        refine ⟨D, _, rfl, SqL.of e3, ?_⟩
        rw [show (List.replicate xs.length true).all id = true by simp]
        exact q H3 s3

theorem ok_law {f : Addr} {fd : FuncData} (F : Fun K "law" "law" s_law f fd) (T : Bt mg) (c__law_cells : Cal P w K mg base 1 "_law_cells" (spCells K) []) (c__law_box : Cal P w K mg base 1 "_law_box" (spM K C m_law_box) []) (c__law_right : Cal P w K mg base 5 "_law_right" (spM K C m_law_right) [])
    (right : ∀ (S : List PV) (n : Nat), BoxAt S n 0 → ∃ S', m_law_right [.mref n] S = some (.bl true, S')) : FnOk P w K mg base CX0 6 f fd ["_law_script"] (spLaw K) := by
  refine F.ok sc_law (fun vs H Q E h => ?_) (fun cdv A outer s H vs Q E hr h => ?_)
  · obtain ⟨a, ns, rfl, _⟩ := h
    rfl
  · obtain ⟨a, ns, rfl, hS, hl, q⟩ := h
    refine ⟨_, (pss_cons (ps_set (i := 1) sc_law.nd rfl (by first | exact .inl rfl | exact .inr rfl) (pe_c c__law_cells hr (by decide) (by rfl) (pa_cons (pv 0) (pa_cons pe_int pa_nil))))
  (xsone (C := C) (ms := lawAll 62300 m_law_right) (xret (xfn l_all (pe_callB (cr_all rfl) (by rfl) T.all (by decide +kernel) (xcons (xlc (.nm 2) (by decide) (pe_lc (own := [("_law_k", 2)]) (by rfl) sc_law.nd (irng1 (by rfl) T.range (xfn l_len (pe_callB call_len_seq (by rfl) T.len PySem.boot_len (xcons (xv (pv 1)) xnil)))) (blkOk_by (own := [("_law_k", 2)]) (N := n_law) (sc := defScope s_law) (by decide +kernel)) (fun _ _ _ _ _ => (pg_name (i := 2) sc_law.nd rfl (by first | exact .inl rfl | exact .inr rfl))) (fun _ _ _ _ _ => xyes) (fun _ _ _ _ _ => (xcall (pe_c c__law_right hr (by decide) (by rfl) (xcons (xcall (pe_c c__law_box hr (by decide) (by rfl) (xcons (xv (pv 1)) (xcons (xv (pv 2)) xnil)))) xnil)))))) xnil)))))), ?_⟩
    exact law_readB (k := 1) (all_ok right) hS hl q
end
end BL

namespace BL
open PySem PySem.Spec PyProof.Rows L2
open C8 (Cal Mak pe_c pe_mk)
section
variable {P : Program} {w : World} {K : PySem.W.Frag} {mg : Str → Option Value} {base : Heap} {C : Addr}
theorem ok_law_box {f : Addr} {fd : FuncData} (F : Fun K "_law_box" "_law_box" s_law_box f fd) (T : Bt mg)  :
    FnOk P w K mg base CX0 1 f fd ["_law_script", "_law_k"] (spM K C m_law_box) := okM F sc_law_box fun cdv A outer s H E hr => (xscons (xasgT (.nm 2) (ps_set (i := 2) sc_law_box.nd rfl (by first | exact .inl rfl | exact .inr rfl) (xif (xtC l_cmp (pt_cmpR op_lt (xv (pv 1)) (xfn l_len (pe_callB call_len_seq (by rfl) T.len PySem.boot_len (xcons (xv (pv 0)) xnil))) (nomark _))) (xop l_ix (pe_ix ix_P (xv (pv 0)) (xv (pv 1)) (fun _ _ => rfl))) (xc pe_int))))
  (xsone (xret (xnewM (pe_lst (xcons (xop l_mulQ (pe_op op_mulQ (xfn l_abs (pe_callB call_abs (by rfl) T.abs (by decide +kernel) (xcons (xv (pv 2)) xnil))) (xfn l_intQ (pe_callTy call_intQ (by rfl) T.int (by decide +kernel) (xcons (xop l_cmp (pe_cmpR op_ge (xfn l_abs (pe_callB call_abs (by rfl) T.abs (by decide +kernel) (xcons (xv (pv 2)) xnil))) (xop l_pow (pe_op op_pow (xc pe_int) (xc pe_int))) (nomark _))) xnil))))) (xcons (xop l_add (pe_op op_addP (xop l_add (pe_op op_addP (xop l_mod (pe_op op_mod (xfn l_intQ (pe_callTy call_intQ (by rfl) T.int (by decide +kernel) (xcons (xv (pv 2)) xnil))) (xc pe_int))) (xop l_mulQ (pe_op op_mulQ (xc pe_int) (xv (pv 1)))))) (xc pe_int))) (xcons (xc pe_int) xnil))))))))
theorem ok_law_take {f : Addr} {fd : FuncData} (F : Fun K "_law_take" "_law_take" s_law_take f fd) (T : Bt mg)  :
    FnOk P w K mg base CX0 1 f fd ["_law_box_here", "_law_size_so"] (spM K C m_law_take) := okM F sc_law_take fun cdv A outer s H E hr => (xscons (xifs (xtC l_cmp (pt_cmpR op_gt (xop l_ix (pe_ix ix_P (xv (pv 0)) (xc pe_int) (fun _ _ => rfl))) (xc pe_int) (nomark _))) (xscons (xasgT (.nm 2) (ps_set (i := 2) sc_law_take.nd rfl (by first | exact .inl rfl | exact .inr rfl) (xop l_mod (pe_op op_mod (xfn l_intQ (pe_callTy call_intQ (by rfl) T.int (by decide +kernel) (xcons (xop l_ix (pe_ix ix_P (xv (pv 0)) (xc pe_int) (fun _ _ => rfl))) xnil))) (xv (pv 1))))))
  (xscons (xputM (ps_asg (xop l_div (pe_op op_fdivW (xop l_ix (pe_ix ix_P (xv (pv 0)) (xc pe_int) (fun _ _ => rfl))) (xv (pv 1)))) (pg_sub (xv (pv 0)) (xc pe_int) set_list)))
  (xsone (xret (xv (pv 2)))))) xsnil)
  (xscons (xputM (ps_asg (xop l_add (pe_op op_addP (xop l_ix (pe_ix ix_P (xv (pv 0)) (xc pe_int) (fun _ _ => rfl))) (xc pe_int))) (pg_sub (xv (pv 0)) (xc pe_int) set_list)))
  (xscons (xasgT (.nm 3) (ps_set (i := 3) sc_law_take.nd rfl (by first | exact .inl rfl | exact .inr rfl) (xop l_mod (pe_op op_mod (xfn l_intQ (pe_callTy call_intQ (by rfl) T.int (by decide +kernel) (xcons (xop l_mulQ (pe_op op_mulQ (xop l_add (pe_op op_addP (xop l_ix (pe_ix ix_P (xv (pv 0)) (xc pe_int) (fun _ _ => rfl))) (xop l_mulQ (pe_op op_mulQ (xc pe_int) (xop l_ix (pe_ix ix_P (xv (pv 0)) (xc pe_int) (fun _ _ => rfl))))))) (xop l_add (pe_op op_addP (xc pe_int) (xop l_ix (pe_ix ix_P (xv (pv 0)) (xc pe_int) (fun _ _ => rfl))))))) xnil))) (xc pe_int)))))
  (xscons (xasgT (.nm 4) (ps_set (i := 4) sc_law_take.nd rfl (by first | exact .inl rfl | exact .inr rfl) (xop l_add (pe_op op_addP (xop l_mod (pe_op op_mod (xfn l_intQ (pe_callTy call_intQ (by rfl) T.int (by decide +kernel) (xcons (xv (pv 3)) xnil))) (xc pe_int))) (xc pe_int)))))
  (xscons (xasgT (.nm 5) (ps_set (i := 5) sc_law_take.nd rfl (by first | exact .inl rfl | exact .inr rfl) (xop l_mod (pe_op op_mod (xfn l_intQ (pe_callTy call_intQ (by rfl) T.int (by decide +kernel) (xcons (xop l_mulQ (pe_op op_mulQ (xop l_add (pe_op op_addP (xop l_add (pe_op op_addP (xv (pv 3)) (xop l_ix (pe_ix ix_P (xv (pv 0)) (xc pe_int) (fun _ _ => rfl))))) (xop l_div (pe_op op_fdivW (xop l_ix (pe_ix ix_P (xv (pv 0)) (xc pe_int) (fun _ _ => rfl))) (xc pe_int))))) (xv (pv 4)))) xnil))) (xc pe_int)))))
  (xsone (xret (xop l_mod (pe_op op_mod (xfn l_intQ (pe_callTy call_intQ (by rfl) T.int (by decide +kernel) (xcons (xop l_div (pe_op op_fdivW (xop l_mod (pe_op op_mod (xfn l_intQ (pe_callTy call_intQ (by rfl) T.int (by decide +kernel) (xcons (xop l_add (pe_op op_addP (xop l_mulQ (pe_op op_mulQ (xv (pv 5)) (xc pe_int))) (xv (pv 3)))) xnil))) (xc pe_int))) (xc pe_int))) xnil))) (xv (pv 1)))))))))))
theorem ok_law_pick {f : Addr} {fd : FuncData} (F : Fun K "_law_pick" "_law_pick" s_law_pick f fd) (T : Bt mg) (T2 : Bt2 mg) (c__law_take : Cal P w K mg base 1 "_law_take" (spM K C m_law_take) []) :
    FnOk P w K mg base CX0 2 f fd ["_law_box_here", "_law_goods_so", "_law_count_so"] (spM K C m_law_pick) := okM F sc_law_pick fun cdv A outer s H E hr => (xscons (xparF (i := 3) (j := 4) (ps_par (i := 3) (j := 4) rfl sc_law_pick.nd rfl rfl (by decide) rfl rfl (xfl (pe_callTy call_list_of (by rfl) T.list (by decide +kernel) (pa_cons (xv (pv 1)) pa_nil)) (xfo (pe_lst xnil) xfnil)) (by rfl)))
  (xscons (xforT (.nm 5) (ps_for PassesOwn.never rfl (irng1 (by rfl) T.range (xfn l_min2 (pe_callB (call_min2 rfl) (by rfl) T2.min (by decide +kernel) (xcons (xfn l_intQ (pe_callTy call_intQ (by rfl) T.int (by decide +kernel) (xcons (xv (pv 2)) xnil))) (xcons (xlenO (pe_callB call_len_seq (by rfl) T.len PySem.boot_len (pa_cons (pv 3) pa_nil))) xnil))))) (pg_name (i := 5) sc_law_pick.nd rfl (by first | exact .inl rfl | exact .inr rfl)) (xsone (xappPop (i := 3) (j := 4) (ps_expr (pe_bm PySem.F.plainAttrs_list PySem.F.slot_list_append PySem.F.type_list_append mt_append (pv 4) (pa_cons (pe_bm PySem.F.plainAttrs_list PySem.F.slot_list_pop PySem.F.type_list_pop mt_popAt (pv 3) (pa_cons (xcall (pe_c c__law_take hr (by decide) (by rfl) (xcons (xv (pv 0)) (xcons (xlenO (pe_callB call_len_seq (by rfl) T.len PySem.boot_len (pa_cons (pv 3) pa_nil))) xnil)))) pa_nil)) pa_nil)))))))
  (xsone (xfrz 4 (xret (xv (pv 4)))))))
end
end BL

namespace BL
open PySem PySem.Spec PyProof.Rows L2
open C8 (Cal Mak pe_c pe_mk)
section
variable {P : Program} {w : World} {K : PySem.W.Frag} {mg : Str → Option Value} {base : Heap} {C : Addr}
theorem ok_law_sorts {f : Addr} {fd : FuncData} (F : Fun K "_law_sorts" "_law_sorts" s_law_sorts f fd) (T : Bt mg) (is_BadLine : IsE K mg "BadLine" tab_BadLine) (is_BadText : IsE K mg "BadText" tab_BadText) (is_Crossed : IsE K mg "Crossed" tab_Crossed) (is_Gainsaid : IsE K mg "Gainsaid" tab_Gainsaid) (is_Needed : IsE K mg "Needed" tab_Needed) (is_NoName : IsE K mg "NoName" tab_NoName) (is_NoPlace : IsE K mg "NoPlace" tab_NoPlace) (is_NoShift : IsE K mg "NoShift" tab_NoShift) (is_NoStarts : IsE K mg "NoStarts" tab_NoStarts) (is_NotBehind : IsE K mg "NotBehind" tab_NotBehind) (is_NothingDone : IsE K mg "NothingDone" tab_NothingDone) (is_Outside : IsE K mg "Outside" tab_Outside) (is_Ring : IsE K mg "Ring" tab_Ring) (is_Taken : IsE K mg "Taken" tab_Taken) (is_Unlike : IsE K mg "Unlike" tab_Unlike) :
    FnOk P w K mg base CX0 1 f fd ["_law_caught"] (spM K C m_law_sorts) := okM F sc_law_sorts fun cdv A outer s H E hr => (xscons (xasgT (.nm 1) (ps_set (i := 1) sc_law_sorts.nd rfl (by first | exact .inl rfl | exact .inr rfl) (xlst (xcons (xisE is_BadText (fun D mD => pe_callB call_isK (by rfl) T.isinstance (by decide +kernel) (pa_cons (xv (pv 0)) (pa_cons (pe_glob (v := .ref D) (by rfl) mD rfl) pa_nil)))) (xcons (xisE is_BadLine (fun D mD => pe_callB call_isK (by rfl) T.isinstance (by decide +kernel) (pa_cons (xv (pv 0)) (pa_cons (pe_glob (v := .ref D) (by rfl) mD rfl) pa_nil)))) (xcons (xisE is_Crossed (fun D mD => pe_callB call_isK (by rfl) T.isinstance (by decide +kernel) (pa_cons (xv (pv 0)) (pa_cons (pe_glob (v := .ref D) (by rfl) mD rfl) pa_nil)))) xnil))))))
  (xscons (xasgT (.nm 1) (ps_set (i := 1) sc_law_sorts.nd rfl (by first | exact .inl rfl | exact .inr rfl) (xop l_add (pe_op op_addP (xv (pv 1)) (xlst (xcons (xisE is_NoShift (fun D mD => pe_callB call_isK (by rfl) T.isinstance (by decide +kernel) (pa_cons (xv (pv 0)) (pa_cons (pe_glob (v := .ref D) (by rfl) mD rfl) pa_nil)))) (xcons (xisE is_NoPlace (fun D mD => pe_callB call_isK (by rfl) T.isinstance (by decide +kernel) (pa_cons (xv (pv 0)) (pa_cons (pe_glob (v := .ref D) (by rfl) mD rfl) pa_nil)))) (xcons (xisE is_NothingDone (fun D mD => pe_callB call_isK (by rfl) T.isinstance (by decide +kernel) (pa_cons (xv (pv 0)) (pa_cons (pe_glob (v := .ref D) (by rfl) mD rfl) pa_nil)))) xnil))))))))
  (xscons (xasgT (.nm 1) (ps_set (i := 1) sc_law_sorts.nd rfl (by first | exact .inl rfl | exact .inr rfl) (xop l_add (pe_op op_addP (xv (pv 1)) (xlst (xcons (xisE is_Unlike (fun D mD => pe_callB call_isK (by rfl) T.isinstance (by decide +kernel) (pa_cons (xv (pv 0)) (pa_cons (pe_glob (v := .ref D) (by rfl) mD rfl) pa_nil)))) (xcons (xisE is_NoStarts (fun D mD => pe_callB call_isK (by rfl) T.isinstance (by decide +kernel) (pa_cons (xv (pv 0)) (pa_cons (pe_glob (v := .ref D) (by rfl) mD rfl) pa_nil)))) (xcons (xisE is_Gainsaid (fun D mD => pe_callB call_isK (by rfl) T.isinstance (by decide +kernel) (pa_cons (xv (pv 0)) (pa_cons (pe_glob (v := .ref D) (by rfl) mD rfl) pa_nil)))) xnil))))))))
  (xscons (xasgT (.nm 1) (ps_set (i := 1) sc_law_sorts.nd rfl (by first | exact .inl rfl | exact .inr rfl) (xop l_add (pe_op op_addP (xv (pv 1)) (xlst (xcons (xisE is_NoName (fun D mD => pe_callB call_isK (by rfl) T.isinstance (by decide +kernel) (pa_cons (xv (pv 0)) (pa_cons (pe_glob (v := .ref D) (by rfl) mD rfl) pa_nil)))) (xcons (xisE is_Taken (fun D mD => pe_callB call_isK (by rfl) T.isinstance (by decide +kernel) (pa_cons (xv (pv 0)) (pa_cons (pe_glob (v := .ref D) (by rfl) mD rfl) pa_nil)))) (xcons (xisE is_Outside (fun D mD => pe_callB call_isK (by rfl) T.isinstance (by decide +kernel) (pa_cons (xv (pv 0)) (pa_cons (pe_glob (v := .ref D) (by rfl) mD rfl) pa_nil)))) xnil))))))))
  (xsone (xret (xop l_add (pe_op op_addP (xv (pv 1)) (xlst (xcons (xisE is_Needed (fun D mD => pe_callB call_isK (by rfl) T.isinstance (by decide +kernel) (pa_cons (xv (pv 0)) (pa_cons (pe_glob (v := .ref D) (by rfl) mD rfl) pa_nil)))) (xcons (xisE is_Ring (fun D mD => pe_callB call_isK (by rfl) T.isinstance (by decide +kernel) (pa_cons (xv (pv 0)) (pa_cons (pe_glob (v := .ref D) (by rfl) mD rfl) pa_nil)))) (xcons (xisE is_NotBehind (fun D mD => pe_callB call_isK (by rfl) T.isinstance (by decide +kernel) (pa_cons (xv (pv 0)) (pa_cons (pe_glob (v := .ref D) (by rfl) mD rfl) pa_nil)))) xnil))))))))))))
theorem ok_law_right {f : Addr} {fd : FuncData} (F : Fun K "_law_right" "_law_right" s_law_right f fd) (T : Bt mg) (at_BadLine_number : AtE K "BadLine" "number") (at_BadText_place : AtE K "BadText" "place") (at_Crossed_high : AtE K "Crossed" "high") (at_Crossed_low : AtE K "Crossed" "low") (at_Needed_name : AtE K "Needed" "name") (at_NoName_name : AtE K "NoName" "name") (at_NoPlace_place : AtE K "NoPlace" "place") (at_NoStarts_high : AtE K "NoStarts" "high") (at_NoStarts_low : AtE K "NoStarts" "low") (at_NotBehind_other : AtE K "NotBehind" "other") (at_Outside_number : AtE K "Outside" "number") (at_Ring_name : AtE K "Ring" "name") (at_Taken_name : AtE K "Taken" "name") (e0_Gainsaid : Mke0 K mg "Gainsaid") (e0_NoShift : Mke0 K mg "NoShift") (e0_NothingDone : Mke0 K mg "NothingDone") (e0_Unlike : Mke0 K mg "Unlike") (e1_BadLine : Mke1 P w K mg base "BadLine" ["number"]) (e1_BadText : Mke1 P w K mg base "BadText" ["place"]) (e1_Crossed : Mke1 P w K mg base "Crossed" ["low", "high"]) (e1_Needed : Mke1 P w K mg base "Needed" ["name"]) (e1_NoName : Mke1 P w K mg base "NoName" ["name"]) (e1_NoPlace : Mke1 P w K mg base "NoPlace" ["place"]) (e1_NoStarts : Mke1 P w K mg base "NoStarts" ["low", "high"]) (e1_NotBehind : Mke1 P w K mg base "NotBehind" ["other"]) (e1_Outside : Mke1 P w K mg base "Outside" ["number"]) (e1_Ring : Mke1 P w K mg base "Ring" ["name"]) (e1_Taken : Mke1 P w K mg base "Taken" ["name"]) (ek_BadLine_number : MkeK P w K mg base "BadLine" ["number"] ["number"] [0]) (ek_BadText_place : MkeK P w K mg base "BadText" ["place"] ["place"] [0]) (ek_Crossed_high_low : MkeK P w K mg base "Crossed" ["low", "high"] ["high", "low"] [1, 0]) (ek_Needed_name : MkeK P w K mg base "Needed" ["name"] ["name"] [0]) (ek_NoName_name : MkeK P w K mg base "NoName" ["name"] ["name"] [0]) (ek_NoPlace_place : MkeK P w K mg base "NoPlace" ["place"] ["place"] [0]) (ek_NoStarts_high_low : MkeK P w K mg base "NoStarts" ["low", "high"] ["high", "low"] [1, 0]) (ek_NotBehind_other : MkeK P w K mg base "NotBehind" ["other"] ["other"] [0]) (ek_Outside_number : MkeK P w K mg base "Outside" ["number"] ["number"] [0]) (ek_Ring_name : MkeK P w K mg base "Ring" ["name"] ["name"] [0]) (ek_Taken_name : MkeK P w K mg base "Taken" ["name"] ["name"] [0]) (ib_ValueError : IsEB K mg "ValueError" tab_ValueError) (is_LevelError : IsE K mg "LevelError" tab_LevelError) (c__law_pick : Cal P w K mg base 2 "_law_pick" (spM K C m_law_pick) []) (c__law_same : Cal P w K mg base 4 "_law_same" (spSame K 4) []) (c__law_sorts : Cal P w K mg base 1 "_law_sorts" (spM K C m_law_sorts) []) (c__law_take : Cal P w K mg base 1 "_law_take" (spM K C m_law_take) []) :
    FnOk P w K mg base CX0 5 f fd ["_law_box_here"] (spM K C m_law_right) := okM F sc_law_right fun cdv A outer s H E hr => (xscons (xpar (i := 1) (j := 2) (ps_par (i := 1) (j := 2) rfl sc_law_right.nd rfl rfl (by decide) rfl rfl (xcons (xop l_sub (pe_op op_sub (xcall (pe_c c__law_take hr (by decide) (by rfl) (xcons (xv (pv 0)) (xcons (xop l_pow (pe_op op_pow (xc pe_int) (xc pe_int))) xnil)))) (xop l_mulQ (pe_op op_mulQ (xc pe_int) (xop l_pow (pe_op op_pow (xc pe_int) (xc pe_int))))))) (xcons (xcall (pe_c c__law_take hr (by decide) (by rfl) (xcons (xv (pv 0)) (xcons (xop l_pow (pe_op op_pow (xc pe_int) (xc pe_int))) xnil)))) xnil)) (by rfl)))
  (xscons (xasgT (.tp [3, 4]) (ps_asg (xcall (pe_c c__law_pick hr (by decide) (by rfl) (xcons (xv (pv 0)) (xcons (xlst (xcons (xc pe_str) (xcons (xc pe_str) (xcons (xc pe_str) (xcons (xc pe_str) (xcons (xc pe_str) xnil)))))) (xcons (xc pe_int) xnil))))) (gtp (is := [3, 4]) rfl (pgs_cons (pg_name (i := 3) sc_law_right.nd rfl (by first | exact .inl rfl | exact .inr rfl)) (pgs_cons (pg_name (i := 4) sc_law_right.nd rfl (by first | exact .inl rfl | exact .inr rfl)) pgs_nil)))))
  (xscons (xnewO (ps_set (i := 5) sc_law_right.nd rfl (by first | exact .inl rfl | exact .inr rfl) (pe_lst (xcons (xmke e1_BadText hr (by decide) (xcons (xv (pv 2)) xnil) (by rfl)) (xcons (xmke e1_BadLine hr (by decide) (xcons (xv (pv 2)) xnil) (by rfl)) (xcons (xmke e1_Crossed hr (by decide) (xcons (xv (pv 1)) (xcons (xv (pv 2)) xnil)) (by rfl)) (xcons (xmk0 e0_NoShift (by rfl)) (xcons (xmke e1_NoPlace hr (by decide) (xcons (xv (pv 1)) xnil) (by rfl)) (xcons (xmk0 e0_NothingDone (by rfl)) (xcons (xmk0 e0_Unlike (by rfl)) xnil))))))))))
  (xscons (xfrz 5 (xnewA (ps_set (i := 5) sc_law_right.nd rfl (by first | exact .inl rfl | exact .inr rfl) (pe_op op_cat (xv (pv 5)) (xlst (xcons (xmke e1_NoStarts hr (by decide) (xcons (xv (pv 1)) (xcons (xv (pv 2)) xnil)) (by rfl)) (xcons (xmk0 e0_Gainsaid (by rfl)) (xcons (xmke e1_NoName hr (by decide) (xcons (xv (pv 3)) xnil) (by rfl)) (xcons (xmke e1_Taken hr (by decide) (xcons (xv (pv 4)) xnil) (by rfl)) (xcons (xmke e1_Outside hr (by decide) (xcons (xv (pv 1)) xnil) (by rfl)) (xcons (xmke e1_Needed hr (by decide) (xcons (xv (pv 3)) xnil) (by rfl)) (xcons (xmke e1_Ring hr (by decide) (xcons (xv (pv 4)) xnil) (by rfl)) xnil))))))))))))
  (xscons (xapp (ps_expr (pe_bm PySem.F.plainAttrs_list PySem.F.slot_list_append PySem.F.type_list_append mt_append (pv 5) (pa_cons (xmke e1_NotBehind hr (by decide) (xcons (xv (pv 3)) xnil) (by rfl)) pa_nil))))
  (xscons (xfrz 5 (xforT (.tp [6, 7]) (ps_for PassesOwn.never rfl (ienuQ (by rfl) T.enumerate (xv (pv 5))) (gtp (is := [6, 7]) rfl (pgs_cons (pg_name (i := 6) sc_law_right.nd rfl (by first | exact .inl rfl | exact .inr rfl)) (pgs_cons (pg_name (i := 7) sc_law_right.nd rfl (by first | exact .inl rfl | exact .inr rfl)) pgs_nil))) (xscons (xifs (xnotT (xtB (pt_val (xsame (pe_c c__law_same hr (by decide) (by rfl) (xcons (xcall (pe_c c__law_sorts hr (by decide) (by rfl) (xcons (xv (pv 7)) xnil))) (xcons (xlc (.nm 10) (by decide) (pe_lc (own := [("_law_j", 10)]) (by rfl) sc_law_right.nd (irng1 (by rfl) T.range (xc pe_int)) (blkOk_by (own := [("_law_j", 10)]) (N := n_law_right) (sc := defScope s_law_right) (by decide +kernel)) (fun _ _ _ _ _ => (pg_name (i := 10) sc_law_right.nd rfl (by first | exact .inl rfl | exact .inr rfl))) (fun _ _ _ _ _ => xyes) (fun _ _ _ _ _ => (xop l_eq (pe_cmpR (op_eqP hr.units) (xv (pv 10)) (xv (pv 6)) (nomark _)))))) xnil))))))) (xsone (xret (xc pe_bl))) xsnil)
  (xsone (xifs (xorW (xnotT (xtB (pt_val (xisE is_LevelError (fun D mD => pe_callB call_isK (by rfl) T.isinstance (by decide +kernel) (pa_cons (xv (pv 7)) (pa_cons (pe_glob (v := .ref D) (by rfl) mD rfl) pa_nil))))))) (xorW1 (xnotT (xtB (pt_val (xisEB ib_ValueError (pe_callB call_isK (by rfl) T.isinstance (by decide +kernel) (pa_cons (xv (pv 7)) (pa_cons (pe_bltn (v := .ty "ValueError") (by rfl) ib_ValueError.no (by decide +kernel) rfl) pa_nil))))))))).pt (xsone (xret (xc pe_bl))) xsnil))))))
  (xscons (xfrz 5 (xasgT (.nm 8) (ps_set (i := 8) sc_law_right.nd rfl (by first | exact .inl rfl | exact .inr rfl) (xlst (xcons (xatE at_BadText_place (xop l_ix (pe_ix ix_P (xv (pv 5)) (xc pe_int) (fun _ _ => rfl)))) (xcons (xatE at_BadLine_number (xop l_ix (pe_ix ix_P (xv (pv 5)) (xc pe_int) (fun _ _ => rfl)))) (xcons (xatE at_Crossed_low (xop l_ix (pe_ix ix_P (xv (pv 5)) (xc pe_int) (fun _ _ => rfl)))) (xcons (xatE at_Crossed_high (xop l_ix (pe_ix ix_P (xv (pv 5)) (xc pe_int) (fun _ _ => rfl)))) (xcons (xatE at_NoPlace_place (xop l_ix (pe_ix ix_P (xv (pv 5)) (xc pe_int) (fun _ _ => rfl)))) (xcons (xatE at_NoStarts_low (xop l_ix (pe_ix ix_P (xv (pv 5)) (xc pe_int) (fun _ _ => rfl)))) (xcons (xatE at_NoStarts_high (xop l_ix (pe_ix ix_P (xv (pv 5)) (xc pe_int) (fun _ _ => rfl)))) xnil)))))))))))
  (xscons (xasgT (.nm 9) (ps_set (i := 9) sc_law_right.nd rfl (by first | exact .inl rfl | exact .inr rfl) (xlst (xcons (xv (pv 2)) (xcons (xv (pv 2)) (xcons (xv (pv 1)) (xcons (xv (pv 2)) (xcons (xv (pv 1)) (xcons (xv (pv 1)) (xcons (xv (pv 2)) xnil))))))))))
  (xscons (xfrz 5 (xasgT (.nm 8) (ps_set (i := 8) sc_law_right.nd rfl (by first | exact .inl rfl | exact .inr rfl) (xop l_add (pe_op op_addP (xv (pv 8)) (xlst (xcons (xatE at_NoName_name (xop l_ix (pe_ix ix_P (xv (pv 5)) (xc pe_int) (fun _ _ => rfl)))) (xcons (xatE at_Taken_name (xop l_ix (pe_ix ix_P (xv (pv 5)) (xc pe_int) (fun _ _ => rfl)))) (xcons (xatE at_Outside_number (xop l_ix (pe_ix ix_P (xv (pv 5)) (xc pe_int) (fun _ _ => rfl)))) (xcons (xatE at_Needed_name (xop l_ix (pe_ix ix_P (xv (pv 5)) (xc pe_int) (fun _ _ => rfl)))) (xcons (xatE at_Ring_name (xop l_ix (pe_ix ix_P (xv (pv 5)) (xc pe_int) (fun _ _ => rfl)))) (xcons (xatE at_NotBehind_other (xop l_ix (pe_ix ix_P (xv (pv 5)) (xc pe_int) (fun _ _ => rfl)))) xnil))))))))))))
  (xscons (xasgT (.nm 9) (ps_set (i := 9) sc_law_right.nd rfl (by first | exact .inl rfl | exact .inr rfl) (xop l_add (pe_op op_addP (xv (pv 9)) (xlst (xcons (xv (pv 3)) (xcons (xv (pv 4)) (xcons (xv (pv 1)) (xcons (xv (pv 3)) (xcons (xv (pv 4)) (xcons (xv (pv 3)) xnil)))))))))))
  (xscons (xasgT (.nm 8) (ps_set (i := 8) sc_law_right.nd rfl (by first | exact .inl rfl | exact .inr rfl) (xop l_add (pe_op op_addP (xv (pv 8)) (xlst (xcons (xatE at_BadText_place (xmkeK ek_BadText_place hr (by decide) (xkcons (xv (pv 1)) xknil) (by rfl))) (xcons (xatE at_BadLine_number (xmkeK ek_BadLine_number hr (by decide) (xkcons (xv (pv 1)) xknil) (by rfl))) (xcons (xatE at_Crossed_low (xmkeK ek_Crossed_high_low hr (by decide) (xkcons (xv (pv 1)) (xkcons (xv (pv 2)) xknil)) (by rfl))) xnil))))))))
  (xscons (xasgT (.nm 9) (ps_set (i := 9) sc_law_right.nd rfl (by first | exact .inl rfl | exact .inr rfl) (xop l_add (pe_op op_addP (xv (pv 9)) (xlst (xcons (xv (pv 1)) (xcons (xv (pv 1)) (xcons (xv (pv 2)) xnil))))))))
  (xscons (xasgT (.nm 8) (ps_set (i := 8) sc_law_right.nd rfl (by first | exact .inl rfl | exact .inr rfl) (xop l_add (pe_op op_addP (xv (pv 8)) (xlst (xcons (xatE at_NoPlace_place (xmkeK ek_NoPlace_place hr (by decide) (xkcons (xv (pv 2)) xknil) (by rfl))) (xcons (xatE at_NoStarts_high (xmkeK ek_NoStarts_high_low hr (by decide) (xkcons (xv (pv 1)) (xkcons (xv (pv 2)) xknil)) (by rfl))) (xcons (xatE at_NoName_name (xmkeK ek_NoName_name hr (by decide) (xkcons (xv (pv 4)) xknil) (by rfl))) xnil))))))))
  (xscons (xasgT (.nm 9) (ps_set (i := 9) sc_law_right.nd rfl (by first | exact .inl rfl | exact .inr rfl) (xop l_add (pe_op op_addP (xv (pv 9)) (xlst (xcons (xv (pv 2)) (xcons (xv (pv 1)) (xcons (xv (pv 4)) xnil))))))))
  (xscons (xasgT (.nm 8) (ps_set (i := 8) sc_law_right.nd rfl (by first | exact .inl rfl | exact .inr rfl) (xop l_add (pe_op op_addP (xv (pv 8)) (xlst (xcons (xatE at_Taken_name (xmkeK ek_Taken_name hr (by decide) (xkcons (xv (pv 3)) xknil) (by rfl))) (xcons (xatE at_Outside_number (xmkeK ek_Outside_number hr (by decide) (xkcons (xv (pv 2)) xknil) (by rfl))) (xcons (xatE at_Needed_name (xmkeK ek_Needed_name hr (by decide) (xkcons (xv (pv 4)) xknil) (by rfl))) (xcons (xatE at_Ring_name (xmkeK ek_Ring_name hr (by decide) (xkcons (xv (pv 3)) xknil) (by rfl))) xnil)))))))))
  (xsone (xret (xsame (pe_c c__law_same hr (by decide) (by rfl) (xcons (xop l_add (pe_op op_addP (xv (pv 8)) (xlst (xcons (xatE at_NotBehind_other (xmkeK ek_NotBehind_other hr (by decide) (xkcons (xv (pv 4)) xknil) (by rfl))) xnil)))) (xcons (xop l_add (pe_op op_addP (xv (pv 9)) (xlst (xcons (xv (pv 3)) (xcons (xv (pv 2)) (xcons (xv (pv 4)) (xcons (xv (pv 3)) (xcons (xv (pv 4)) xnil)))))))) xnil)))))))))))))))))))))
end
end BL

namespace BL
open PySem PySem.Spec PyProof.Rows L2
open C8 (Cal Mak pe_c pe_mk)
theorem all_mk {l : PySem.W.OpenLaw} {w : World} {K : PySem.W.Frag} {h : Heap} {mg : Str → Option Value} {fa f1 f2 f3 f4 f5 f6 f7 f8 : Addr} (X : K.In h) (G : h.Ns mainGlobals mg) (hfa : mg "law" = some (.ref fa))
    {od1 an1 : Option Addr} {sl1 : Array (Option Value)} {oc1 kV1 dc1 pm1 cd1 ct1 : Value}
    {od2 an2 : Option Addr} {sl2 : Array (Option Value)} {oc2 kV2 dc2 pm2 cd2 ct2 : Value}
    {od3 an3 : Option Addr} {sl3 : Array (Option Value)} {oc3 kV3 dc3 pm3 cd3 ct3 : Value}
    {od4 an4 : Option Addr} {sl4 : Array (Option Value)} {oc4 kV4 dc4 pm4 cd4 ct4 : Value}
    {od5 an5 : Option Addr} {sl5 : Array (Option Value)} {oc5 kV5 dc5 pm5 cd5 ct5 : Value}
    {od6 an6 : Option Addr} {sl6 : Array (Option Value)} {oc6 kV6 dc6 pm6 cd6 ct6 : Value}
    {od7 an7 : Option Addr} {sl7 : Array (Option Value)} {oc7 kV7 dc7 pm7 cd7 ct7 : Value}
    {od8 an8 : Option Addr} {sl8 : Array (Option Value)} {oc8 kV8 dc8 pm8 cd8 ct8 : Value}
    {Ce_BadText N_BadText fE_BadText : Addr} {nm_BadText qn_BadText : Str} {bs_BadText bm_BadText : List Value} {sn_BadText : List Str} {sub_BadText : List Value} {ab_BadText : Bool} {col_BadText : Option Bool} {dd_BadText : Option Addr} {k0_BadText k1_BadText k2_BadText k3_BadText k5_BadText : Option Value} {odE_BadText anE_BadText : Option Addr} {slE_BadText : Array (Option Value)} {ocE_BadText kVE_BadText dcE_BadText pmE_BadText cdE_BadText ctE_BadText : Value}
    {Ce_BadLine N_BadLine fE_BadLine : Addr} {nm_BadLine qn_BadLine : Str} {bs_BadLine bm_BadLine : List Value} {sn_BadLine : List Str} {sub_BadLine : List Value} {ab_BadLine : Bool} {col_BadLine : Option Bool} {dd_BadLine : Option Addr} {k0_BadLine k1_BadLine k2_BadLine k3_BadLine k5_BadLine : Option Value} {odE_BadLine anE_BadLine : Option Addr} {slE_BadLine : Array (Option Value)} {ocE_BadLine kVE_BadLine dcE_BadLine pmE_BadLine cdE_BadLine ctE_BadLine : Value}
    {Ce_Crossed N_Crossed fE_Crossed : Addr} {nm_Crossed qn_Crossed : Str} {bs_Crossed bm_Crossed : List Value} {sn_Crossed : List Str} {sub_Crossed : List Value} {ab_Crossed : Bool} {col_Crossed : Option Bool} {dd_Crossed : Option Addr} {k0_Crossed k1_Crossed k2_Crossed k3_Crossed k5_Crossed : Option Value} {odE_Crossed anE_Crossed : Option Addr} {slE_Crossed : Array (Option Value)} {ocE_Crossed kVE_Crossed dcE_Crossed pmE_Crossed cdE_Crossed ctE_Crossed : Value}
    {Ce_NoPlace N_NoPlace fE_NoPlace : Addr} {nm_NoPlace qn_NoPlace : Str} {bs_NoPlace bm_NoPlace : List Value} {sn_NoPlace : List Str} {sub_NoPlace : List Value} {ab_NoPlace : Bool} {col_NoPlace : Option Bool} {dd_NoPlace : Option Addr} {k0_NoPlace k1_NoPlace k2_NoPlace k3_NoPlace k5_NoPlace : Option Value} {odE_NoPlace anE_NoPlace : Option Addr} {slE_NoPlace : Array (Option Value)} {ocE_NoPlace kVE_NoPlace dcE_NoPlace pmE_NoPlace cdE_NoPlace ctE_NoPlace : Value}
    {Ce_NoStarts N_NoStarts fE_NoStarts : Addr} {nm_NoStarts qn_NoStarts : Str} {bs_NoStarts bm_NoStarts : List Value} {sn_NoStarts : List Str} {sub_NoStarts : List Value} {ab_NoStarts : Bool} {col_NoStarts : Option Bool} {dd_NoStarts : Option Addr} {k0_NoStarts k1_NoStarts k2_NoStarts k3_NoStarts k5_NoStarts : Option Value} {odE_NoStarts anE_NoStarts : Option Addr} {slE_NoStarts : Array (Option Value)} {ocE_NoStarts kVE_NoStarts dcE_NoStarts pmE_NoStarts cdE_NoStarts ctE_NoStarts : Value}
    {Ce_NoName N_NoName fE_NoName : Addr} {nm_NoName qn_NoName : Str} {bs_NoName bm_NoName : List Value} {sn_NoName : List Str} {sub_NoName : List Value} {ab_NoName : Bool} {col_NoName : Option Bool} {dd_NoName : Option Addr} {k0_NoName k1_NoName k2_NoName k3_NoName k5_NoName : Option Value} {odE_NoName anE_NoName : Option Addr} {slE_NoName : Array (Option Value)} {ocE_NoName kVE_NoName dcE_NoName pmE_NoName cdE_NoName ctE_NoName : Value}
    {Ce_Taken N_Taken fE_Taken : Addr} {nm_Taken qn_Taken : Str} {bs_Taken bm_Taken : List Value} {sn_Taken : List Str} {sub_Taken : List Value} {ab_Taken : Bool} {col_Taken : Option Bool} {dd_Taken : Option Addr} {k0_Taken k1_Taken k2_Taken k3_Taken k5_Taken : Option Value} {odE_Taken anE_Taken : Option Addr} {slE_Taken : Array (Option Value)} {ocE_Taken kVE_Taken dcE_Taken pmE_Taken cdE_Taken ctE_Taken : Value}
    {Ce_Outside N_Outside fE_Outside : Addr} {nm_Outside qn_Outside : Str} {bs_Outside bm_Outside : List Value} {sn_Outside : List Str} {sub_Outside : List Value} {ab_Outside : Bool} {col_Outside : Option Bool} {dd_Outside : Option Addr} {k0_Outside k1_Outside k2_Outside k3_Outside k5_Outside : Option Value} {odE_Outside anE_Outside : Option Addr} {slE_Outside : Array (Option Value)} {ocE_Outside kVE_Outside dcE_Outside pmE_Outside cdE_Outside ctE_Outside : Value}
    {Ce_Needed N_Needed fE_Needed : Addr} {nm_Needed qn_Needed : Str} {bs_Needed bm_Needed : List Value} {sn_Needed : List Str} {sub_Needed : List Value} {ab_Needed : Bool} {col_Needed : Option Bool} {dd_Needed : Option Addr} {k0_Needed k1_Needed k2_Needed k3_Needed k5_Needed : Option Value} {odE_Needed anE_Needed : Option Addr} {slE_Needed : Array (Option Value)} {ocE_Needed kVE_Needed dcE_Needed pmE_Needed cdE_Needed ctE_Needed : Value}
    {Ce_Ring N_Ring fE_Ring : Addr} {nm_Ring qn_Ring : Str} {bs_Ring bm_Ring : List Value} {sn_Ring : List Str} {sub_Ring : List Value} {ab_Ring : Bool} {col_Ring : Option Bool} {dd_Ring : Option Addr} {k0_Ring k1_Ring k2_Ring k3_Ring k5_Ring : Option Value} {odE_Ring anE_Ring : Option Addr} {slE_Ring : Array (Option Value)} {ocE_Ring kVE_Ring dcE_Ring pmE_Ring cdE_Ring ctE_Ring : Value}
    {Ce_NotBehind N_NotBehind fE_NotBehind : Addr} {nm_NotBehind qn_NotBehind : Str} {bs_NotBehind bm_NotBehind : List Value} {sn_NotBehind : List Str} {sub_NotBehind : List Value} {ab_NotBehind : Bool} {col_NotBehind : Option Bool} {dd_NotBehind : Option Addr} {k0_NotBehind k1_NotBehind k2_NotBehind k3_NotBehind k5_NotBehind : Option Value} {odE_NotBehind anE_NotBehind : Option Addr} {slE_NotBehind : Array (Option Value)} {ocE_NotBehind kVE_NotBehind dcE_NotBehind pmE_NotBehind cdE_NotBehind ctE_NotBehind : Value}
    {Ce_NoShift : Addr}
    {Ce_NothingDone : Addr}
    {Ce_Unlike : Addr}
    {Ce_Gainsaid : Addr}
    {Cl : Addr}
    (a1 : PySem.W.nsIn K mainGlobals "_law_box" = some (some (.ref f1))) (l1 : K.lookup f1 = some ⟨oc1, od1, .func (PySem.W.fnOf "_law_box" "_law_box" (defArgs s_law_box) (defBody s_law_box) (defScope s_law_box) .none kV1 dc1 pm1 an1 cd1 ct1), sl1⟩) (c1 : PySem.W.codeIn K cd1 "_law_box" = true) (k1 : PySem.W.keepIn K (.ref f1) = true)
    (a2 : PySem.W.nsIn K mainGlobals "_law_take" = some (some (.ref f2))) (l2 : K.lookup f2 = some ⟨oc2, od2, .func (PySem.W.fnOf "_law_take" "_law_take" (defArgs s_law_take) (defBody s_law_take) (defScope s_law_take) .none kV2 dc2 pm2 an2 cd2 ct2), sl2⟩) (c2 : PySem.W.codeIn K cd2 "_law_take" = true) (k2 : PySem.W.keepIn K (.ref f2) = true)
    (a3 : PySem.W.nsIn K mainGlobals "_law_cells" = some (some (.ref f3))) (l3 : K.lookup f3 = some ⟨oc3, od3, .func (PySem.W.fnOf "_law_cells" "_law_cells" (defArgs s_law_cells) (defBody s_law_cells) (defScope s_law_cells) .none kV3 dc3 pm3 an3 cd3 ct3), sl3⟩) (c3 : PySem.W.codeIn K cd3 "_law_cells" = true) (k3 : PySem.W.keepIn K (.ref f3) = true)
    (a4 : PySem.W.nsIn K mainGlobals "_law_pick" = some (some (.ref f4))) (l4 : K.lookup f4 = some ⟨oc4, od4, .func (PySem.W.fnOf "_law_pick" "_law_pick" (defArgs s_law_pick) (defBody s_law_pick) (defScope s_law_pick) .none kV4 dc4 pm4 an4 cd4 ct4), sl4⟩) (c4 : PySem.W.codeIn K cd4 "_law_pick" = true) (k4 : PySem.W.keepIn K (.ref f4) = true)
    (a5 : PySem.W.nsIn K mainGlobals "_law_same" = some (some (.ref f5))) (l5 : K.lookup f5 = some ⟨oc5, od5, .func (PySem.W.fnOf "_law_same" "_law_same" (defArgs s_law_same) (defBody s_law_same) (defScope s_law_same) .none kV5 dc5 pm5 an5 cd5 ct5), sl5⟩) (c5 : PySem.W.codeIn K cd5 "_law_same" = true) (k5 : PySem.W.keepIn K (.ref f5) = true)
    (a6 : PySem.W.nsIn K mainGlobals "_law_sorts" = some (some (.ref f6))) (l6 : K.lookup f6 = some ⟨oc6, od6, .func (PySem.W.fnOf "_law_sorts" "_law_sorts" (defArgs s_law_sorts) (defBody s_law_sorts) (defScope s_law_sorts) .none kV6 dc6 pm6 an6 cd6 ct6), sl6⟩) (c6 : PySem.W.codeIn K cd6 "_law_sorts" = true) (k6 : PySem.W.keepIn K (.ref f6) = true)
    (a7 : PySem.W.nsIn K mainGlobals "_law_right" = some (some (.ref f7))) (l7 : K.lookup f7 = some ⟨oc7, od7, .func (PySem.W.fnOf "_law_right" "_law_right" (defArgs s_law_right) (defBody s_law_right) (defScope s_law_right) .none kV7 dc7 pm7 an7 cd7 ct7), sl7⟩) (c7 : PySem.W.codeIn K cd7 "_law_right" = true) (k7 : PySem.W.keepIn K (.ref f7) = true)
    (a8 : PySem.W.nsIn K mainGlobals "law" = some (some (.ref f8))) (l8 : K.lookup f8 = some ⟨oc8, od8, .func (PySem.W.fnOf "law" "law" (defArgs s_law) (defBody s_law) (defScope s_law) .none kV8 dc8 pm8 an8 cd8 ct8), sl8⟩) (c8 : PySem.W.codeIn K cd8 "law" = true) (k8 : PySem.W.keepIn K (.ref f8) = true)
    (z2_sum : PySem.W.nsIn K mainGlobals "sum" = some none)
    (z2_max : PySem.W.nsIn K mainGlobals "max" = some none)
    (z2_min : PySem.W.nsIn K mainGlobals "min" = some none)
    (z2_any : PySem.W.nsIn K mainGlobals "any" = some none)
    (z2_sorted : PySem.W.nsIn K mainGlobals "sorted" = some none)
    (z2_set : PySem.W.nsIn K mainGlobals "set" = some none)
    (aE_BadText : PySem.W.nsIn K mainGlobals "BadText" = some (some (.ref Ce_BadText)))
    (lE_BadText : K.lookup Ce_BadText = some (excClassObj nm_BadText qn_BadText Ce_BadText N_BadText bs_BadText bm_BadText true sn_BadText sub_BadText ab_BadText col_BadText dd_BadText k0_BadText k1_BadText k2_BadText k3_BadText k5_BadText "ValueError.__new__"))
    (rE_BadText : PySem.HandSPX.refsVE bm_BadText = true)
    (saE_BadText : PySem.W.findIn K (.ref Ce_BadText) "__setattr__" = some (some (.builtin "object.__setattr__")))
    (exE_BadText : PySem.W.subIn K (.ref Ce_BadText) (.type "BaseException") = some true)
    (tyE_BadText : PySem.W.typeIn K (.ref Ce_BadText) = some (.type "type"))
    (kE_BadText : PySem.W.keepIn K (.ref Ce_BadText) = true)
    (iE_BadText : PySem.W.findIn K (.ref Ce_BadText) "__init__" = some (some (.ref fE_BadText)))
    (tE_BadText : PySem.W.typeIn K (.ref fE_BadText) = some (.type "function"))
    (teE_BadText : PySem.W.exmOne K (.ref Ce_BadText) (.ref Ce_BadText) = some true)
    (gaE_BadText : PySem.W.findIn K (.ref Ce_BadText) "__getattribute__" = some (some (.builtin "BaseException.__getattribute__")))
    (ggE_BadText : PySem.W.findIn K (.ref Ce_BadText) "__getattr__" = some none)
    (hdE_BadText : PySem.W.hasDictIn K Ce_BadText = true)
    (clE_BadText : (PySem.W.clsIn K Ce_BadText).isSome = true)
    (caE_BadText : PySem.W.findIn K (.ref Ce_BadText) "__class__" = some (some (.builtin "object.__class__")))
    (spE_BadText : PySem.W.specialIn K (.builtin "object.__class__") "__get__" = some (some (.builtin "getset_descriptor.__get__")))
    (tkE_BadText : PySem.W.takesIn K (.builtin "object.__class__") = some true)
    (obE_BadText : PySem.W.mroIn K Ce_BadText (.type "object") = some true)
    (lI_BadText : K.lookup fE_BadText = some ⟨ocE_BadText, odE_BadText, .func (PySem.W.fnOf "__init__" "BadText.__init__" (defArgs s_BadText_init) (defBody s_BadText_init) (defScope s_BadText_init) .none kVE_BadText dcE_BadText pmE_BadText anE_BadText cdE_BadText ctE_BadText), slE_BadText⟩)
    (cI_BadText : PySem.W.codeIn K cdE_BadText "BadText.__init__" = true)
    (kI_BadText : PySem.W.keepIn K (.ref fE_BadText) = true)
    (no_place_BadText : PySem.W.findIn K (.ref Ce_BadText) "place" = some none)
    (aE_BadLine : PySem.W.nsIn K mainGlobals "BadLine" = some (some (.ref Ce_BadLine)))
    (lE_BadLine : K.lookup Ce_BadLine = some (excClassObj nm_BadLine qn_BadLine Ce_BadLine N_BadLine bs_BadLine bm_BadLine true sn_BadLine sub_BadLine ab_BadLine col_BadLine dd_BadLine k0_BadLine k1_BadLine k2_BadLine k3_BadLine k5_BadLine "ValueError.__new__"))
    (rE_BadLine : PySem.HandSPX.refsVE bm_BadLine = true)
    (saE_BadLine : PySem.W.findIn K (.ref Ce_BadLine) "__setattr__" = some (some (.builtin "object.__setattr__")))
    (exE_BadLine : PySem.W.subIn K (.ref Ce_BadLine) (.type "BaseException") = some true)
    (tyE_BadLine : PySem.W.typeIn K (.ref Ce_BadLine) = some (.type "type"))
    (kE_BadLine : PySem.W.keepIn K (.ref Ce_BadLine) = true)
    (iE_BadLine : PySem.W.findIn K (.ref Ce_BadLine) "__init__" = some (some (.ref fE_BadLine)))
    (tE_BadLine : PySem.W.typeIn K (.ref fE_BadLine) = some (.type "function"))
    (teE_BadLine : PySem.W.exmOne K (.ref Ce_BadLine) (.ref Ce_BadLine) = some true)
    (gaE_BadLine : PySem.W.findIn K (.ref Ce_BadLine) "__getattribute__" = some (some (.builtin "BaseException.__getattribute__")))
    (ggE_BadLine : PySem.W.findIn K (.ref Ce_BadLine) "__getattr__" = some none)
    (hdE_BadLine : PySem.W.hasDictIn K Ce_BadLine = true)
    (clE_BadLine : (PySem.W.clsIn K Ce_BadLine).isSome = true)
    (caE_BadLine : PySem.W.findIn K (.ref Ce_BadLine) "__class__" = some (some (.builtin "object.__class__")))
    (spE_BadLine : PySem.W.specialIn K (.builtin "object.__class__") "__get__" = some (some (.builtin "getset_descriptor.__get__")))
    (tkE_BadLine : PySem.W.takesIn K (.builtin "object.__class__") = some true)
    (obE_BadLine : PySem.W.mroIn K Ce_BadLine (.type "object") = some true)
    (lI_BadLine : K.lookup fE_BadLine = some ⟨ocE_BadLine, odE_BadLine, .func (PySem.W.fnOf "__init__" "BadLine.__init__" (defArgs s_BadLine_init) (defBody s_BadLine_init) (defScope s_BadLine_init) .none kVE_BadLine dcE_BadLine pmE_BadLine anE_BadLine cdE_BadLine ctE_BadLine), slE_BadLine⟩)
    (cI_BadLine : PySem.W.codeIn K cdE_BadLine "BadLine.__init__" = true)
    (kI_BadLine : PySem.W.keepIn K (.ref fE_BadLine) = true)
    (no_number_BadLine : PySem.W.findIn K (.ref Ce_BadLine) "number" = some none)
    (aE_Crossed : PySem.W.nsIn K mainGlobals "Crossed" = some (some (.ref Ce_Crossed)))
    (lE_Crossed : K.lookup Ce_Crossed = some (excClassObj nm_Crossed qn_Crossed Ce_Crossed N_Crossed bs_Crossed bm_Crossed true sn_Crossed sub_Crossed ab_Crossed col_Crossed dd_Crossed k0_Crossed k1_Crossed k2_Crossed k3_Crossed k5_Crossed "ValueError.__new__"))
    (rE_Crossed : PySem.HandSPX.refsVE bm_Crossed = true)
    (saE_Crossed : PySem.W.findIn K (.ref Ce_Crossed) "__setattr__" = some (some (.builtin "object.__setattr__")))
    (exE_Crossed : PySem.W.subIn K (.ref Ce_Crossed) (.type "BaseException") = some true)
    (tyE_Crossed : PySem.W.typeIn K (.ref Ce_Crossed) = some (.type "type"))
    (kE_Crossed : PySem.W.keepIn K (.ref Ce_Crossed) = true)
    (iE_Crossed : PySem.W.findIn K (.ref Ce_Crossed) "__init__" = some (some (.ref fE_Crossed)))
    (tE_Crossed : PySem.W.typeIn K (.ref fE_Crossed) = some (.type "function"))
    (teE_Crossed : PySem.W.exmOne K (.ref Ce_Crossed) (.ref Ce_Crossed) = some true)
    (gaE_Crossed : PySem.W.findIn K (.ref Ce_Crossed) "__getattribute__" = some (some (.builtin "BaseException.__getattribute__")))
    (ggE_Crossed : PySem.W.findIn K (.ref Ce_Crossed) "__getattr__" = some none)
    (hdE_Crossed : PySem.W.hasDictIn K Ce_Crossed = true)
    (clE_Crossed : (PySem.W.clsIn K Ce_Crossed).isSome = true)
    (caE_Crossed : PySem.W.findIn K (.ref Ce_Crossed) "__class__" = some (some (.builtin "object.__class__")))
    (spE_Crossed : PySem.W.specialIn K (.builtin "object.__class__") "__get__" = some (some (.builtin "getset_descriptor.__get__")))
    (tkE_Crossed : PySem.W.takesIn K (.builtin "object.__class__") = some true)
    (obE_Crossed : PySem.W.mroIn K Ce_Crossed (.type "object") = some true)
    (lI_Crossed : K.lookup fE_Crossed = some ⟨ocE_Crossed, odE_Crossed, .func (PySem.W.fnOf "__init__" "Crossed.__init__" (defArgs s_Crossed_init) (defBody s_Crossed_init) (defScope s_Crossed_init) .none kVE_Crossed dcE_Crossed pmE_Crossed anE_Crossed cdE_Crossed ctE_Crossed), slE_Crossed⟩)
    (cI_Crossed : PySem.W.codeIn K cdE_Crossed "Crossed.__init__" = true)
    (kI_Crossed : PySem.W.keepIn K (.ref fE_Crossed) = true)
    (no_low_Crossed : PySem.W.findIn K (.ref Ce_Crossed) "low" = some none)
    (no_high_Crossed : PySem.W.findIn K (.ref Ce_Crossed) "high" = some none)
    (aE_NoPlace : PySem.W.nsIn K mainGlobals "NoPlace" = some (some (.ref Ce_NoPlace)))
    (lE_NoPlace : K.lookup Ce_NoPlace = some (excClassObj nm_NoPlace qn_NoPlace Ce_NoPlace N_NoPlace bs_NoPlace bm_NoPlace true sn_NoPlace sub_NoPlace ab_NoPlace col_NoPlace dd_NoPlace k0_NoPlace k1_NoPlace k2_NoPlace k3_NoPlace k5_NoPlace "ValueError.__new__"))
    (rE_NoPlace : PySem.HandSPX.refsVE bm_NoPlace = true)
    (saE_NoPlace : PySem.W.findIn K (.ref Ce_NoPlace) "__setattr__" = some (some (.builtin "object.__setattr__")))
    (exE_NoPlace : PySem.W.subIn K (.ref Ce_NoPlace) (.type "BaseException") = some true)
    (tyE_NoPlace : PySem.W.typeIn K (.ref Ce_NoPlace) = some (.type "type"))
    (kE_NoPlace : PySem.W.keepIn K (.ref Ce_NoPlace) = true)
    (iE_NoPlace : PySem.W.findIn K (.ref Ce_NoPlace) "__init__" = some (some (.ref fE_NoPlace)))
    (tE_NoPlace : PySem.W.typeIn K (.ref fE_NoPlace) = some (.type "function"))
    (teE_NoPlace : PySem.W.exmOne K (.ref Ce_NoPlace) (.ref Ce_NoPlace) = some true)
    (gaE_NoPlace : PySem.W.findIn K (.ref Ce_NoPlace) "__getattribute__" = some (some (.builtin "BaseException.__getattribute__")))
    (ggE_NoPlace : PySem.W.findIn K (.ref Ce_NoPlace) "__getattr__" = some none)
    (hdE_NoPlace : PySem.W.hasDictIn K Ce_NoPlace = true)
    (clE_NoPlace : (PySem.W.clsIn K Ce_NoPlace).isSome = true)
    (caE_NoPlace : PySem.W.findIn K (.ref Ce_NoPlace) "__class__" = some (some (.builtin "object.__class__")))
    (spE_NoPlace : PySem.W.specialIn K (.builtin "object.__class__") "__get__" = some (some (.builtin "getset_descriptor.__get__")))
    (tkE_NoPlace : PySem.W.takesIn K (.builtin "object.__class__") = some true)
    (obE_NoPlace : PySem.W.mroIn K Ce_NoPlace (.type "object") = some true)
    (lI_NoPlace : K.lookup fE_NoPlace = some ⟨ocE_NoPlace, odE_NoPlace, .func (PySem.W.fnOf "__init__" "NoPlace.__init__" (defArgs s_NoPlace_init) (defBody s_NoPlace_init) (defScope s_NoPlace_init) .none kVE_NoPlace dcE_NoPlace pmE_NoPlace anE_NoPlace cdE_NoPlace ctE_NoPlace), slE_NoPlace⟩)
    (cI_NoPlace : PySem.W.codeIn K cdE_NoPlace "NoPlace.__init__" = true)
    (kI_NoPlace : PySem.W.keepIn K (.ref fE_NoPlace) = true)
    (no_place_NoPlace : PySem.W.findIn K (.ref Ce_NoPlace) "place" = some none)
    (aE_NoStarts : PySem.W.nsIn K mainGlobals "NoStarts" = some (some (.ref Ce_NoStarts)))
    (lE_NoStarts : K.lookup Ce_NoStarts = some (excClassObj nm_NoStarts qn_NoStarts Ce_NoStarts N_NoStarts bs_NoStarts bm_NoStarts true sn_NoStarts sub_NoStarts ab_NoStarts col_NoStarts dd_NoStarts k0_NoStarts k1_NoStarts k2_NoStarts k3_NoStarts k5_NoStarts "ValueError.__new__"))
    (rE_NoStarts : PySem.HandSPX.refsVE bm_NoStarts = true)
    (saE_NoStarts : PySem.W.findIn K (.ref Ce_NoStarts) "__setattr__" = some (some (.builtin "object.__setattr__")))
    (exE_NoStarts : PySem.W.subIn K (.ref Ce_NoStarts) (.type "BaseException") = some true)
    (tyE_NoStarts : PySem.W.typeIn K (.ref Ce_NoStarts) = some (.type "type"))
    (kE_NoStarts : PySem.W.keepIn K (.ref Ce_NoStarts) = true)
    (iE_NoStarts : PySem.W.findIn K (.ref Ce_NoStarts) "__init__" = some (some (.ref fE_NoStarts)))
    (tE_NoStarts : PySem.W.typeIn K (.ref fE_NoStarts) = some (.type "function"))
    (teE_NoStarts : PySem.W.exmOne K (.ref Ce_NoStarts) (.ref Ce_NoStarts) = some true)
    (gaE_NoStarts : PySem.W.findIn K (.ref Ce_NoStarts) "__getattribute__" = some (some (.builtin "BaseException.__getattribute__")))
    (ggE_NoStarts : PySem.W.findIn K (.ref Ce_NoStarts) "__getattr__" = some none)
    (hdE_NoStarts : PySem.W.hasDictIn K Ce_NoStarts = true)
    (clE_NoStarts : (PySem.W.clsIn K Ce_NoStarts).isSome = true)
    (caE_NoStarts : PySem.W.findIn K (.ref Ce_NoStarts) "__class__" = some (some (.builtin "object.__class__")))
    (spE_NoStarts : PySem.W.specialIn K (.builtin "object.__class__") "__get__" = some (some (.builtin "getset_descriptor.__get__")))
    (tkE_NoStarts : PySem.W.takesIn K (.builtin "object.__class__") = some true)
    (obE_NoStarts : PySem.W.mroIn K Ce_NoStarts (.type "object") = some true)
    (lI_NoStarts : K.lookup fE_NoStarts = some ⟨ocE_NoStarts, odE_NoStarts, .func (PySem.W.fnOf "__init__" "NoStarts.__init__" (defArgs s_NoStarts_init) (defBody s_NoStarts_init) (defScope s_NoStarts_init) .none kVE_NoStarts dcE_NoStarts pmE_NoStarts anE_NoStarts cdE_NoStarts ctE_NoStarts), slE_NoStarts⟩)
    (cI_NoStarts : PySem.W.codeIn K cdE_NoStarts "NoStarts.__init__" = true)
    (kI_NoStarts : PySem.W.keepIn K (.ref fE_NoStarts) = true)
    (no_low_NoStarts : PySem.W.findIn K (.ref Ce_NoStarts) "low" = some none)
    (no_high_NoStarts : PySem.W.findIn K (.ref Ce_NoStarts) "high" = some none)
    (aE_NoName : PySem.W.nsIn K mainGlobals "NoName" = some (some (.ref Ce_NoName)))
    (lE_NoName : K.lookup Ce_NoName = some (excClassObj nm_NoName qn_NoName Ce_NoName N_NoName bs_NoName bm_NoName true sn_NoName sub_NoName ab_NoName col_NoName dd_NoName k0_NoName k1_NoName k2_NoName k3_NoName k5_NoName "ValueError.__new__"))
    (rE_NoName : PySem.HandSPX.refsVE bm_NoName = true)
    (saE_NoName : PySem.W.findIn K (.ref Ce_NoName) "__setattr__" = some (some (.builtin "object.__setattr__")))
    (exE_NoName : PySem.W.subIn K (.ref Ce_NoName) (.type "BaseException") = some true)
    (tyE_NoName : PySem.W.typeIn K (.ref Ce_NoName) = some (.type "type"))
    (kE_NoName : PySem.W.keepIn K (.ref Ce_NoName) = true)
    (iE_NoName : PySem.W.findIn K (.ref Ce_NoName) "__init__" = some (some (.ref fE_NoName)))
    (tE_NoName : PySem.W.typeIn K (.ref fE_NoName) = some (.type "function"))
    (teE_NoName : PySem.W.exmOne K (.ref Ce_NoName) (.ref Ce_NoName) = some true)
    (gaE_NoName : PySem.W.findIn K (.ref Ce_NoName) "__getattribute__" = some (some (.builtin "BaseException.__getattribute__")))
    (ggE_NoName : PySem.W.findIn K (.ref Ce_NoName) "__getattr__" = some none)
    (hdE_NoName : PySem.W.hasDictIn K Ce_NoName = true)
    (clE_NoName : (PySem.W.clsIn K Ce_NoName).isSome = true)
    (caE_NoName : PySem.W.findIn K (.ref Ce_NoName) "__class__" = some (some (.builtin "object.__class__")))
    (spE_NoName : PySem.W.specialIn K (.builtin "object.__class__") "__get__" = some (some (.builtin "getset_descriptor.__get__")))
    (tkE_NoName : PySem.W.takesIn K (.builtin "object.__class__") = some true)
    (obE_NoName : PySem.W.mroIn K Ce_NoName (.type "object") = some true)
    (lI_NoName : K.lookup fE_NoName = some ⟨ocE_NoName, odE_NoName, .func (PySem.W.fnOf "__init__" "NoName.__init__" (defArgs s_NoName_init) (defBody s_NoName_init) (defScope s_NoName_init) .none kVE_NoName dcE_NoName pmE_NoName anE_NoName cdE_NoName ctE_NoName), slE_NoName⟩)
    (cI_NoName : PySem.W.codeIn K cdE_NoName "NoName.__init__" = true)
    (kI_NoName : PySem.W.keepIn K (.ref fE_NoName) = true)
    (no_name_NoName : PySem.W.findIn K (.ref Ce_NoName) "name" = some none)
    (aE_Taken : PySem.W.nsIn K mainGlobals "Taken" = some (some (.ref Ce_Taken)))
    (lE_Taken : K.lookup Ce_Taken = some (excClassObj nm_Taken qn_Taken Ce_Taken N_Taken bs_Taken bm_Taken true sn_Taken sub_Taken ab_Taken col_Taken dd_Taken k0_Taken k1_Taken k2_Taken k3_Taken k5_Taken "ValueError.__new__"))
    (rE_Taken : PySem.HandSPX.refsVE bm_Taken = true)
    (saE_Taken : PySem.W.findIn K (.ref Ce_Taken) "__setattr__" = some (some (.builtin "object.__setattr__")))
    (exE_Taken : PySem.W.subIn K (.ref Ce_Taken) (.type "BaseException") = some true)
    (tyE_Taken : PySem.W.typeIn K (.ref Ce_Taken) = some (.type "type"))
    (kE_Taken : PySem.W.keepIn K (.ref Ce_Taken) = true)
    (iE_Taken : PySem.W.findIn K (.ref Ce_Taken) "__init__" = some (some (.ref fE_Taken)))
    (tE_Taken : PySem.W.typeIn K (.ref fE_Taken) = some (.type "function"))
    (teE_Taken : PySem.W.exmOne K (.ref Ce_Taken) (.ref Ce_Taken) = some true)
    (gaE_Taken : PySem.W.findIn K (.ref Ce_Taken) "__getattribute__" = some (some (.builtin "BaseException.__getattribute__")))
    (ggE_Taken : PySem.W.findIn K (.ref Ce_Taken) "__getattr__" = some none)
    (hdE_Taken : PySem.W.hasDictIn K Ce_Taken = true)
    (clE_Taken : (PySem.W.clsIn K Ce_Taken).isSome = true)
    (caE_Taken : PySem.W.findIn K (.ref Ce_Taken) "__class__" = some (some (.builtin "object.__class__")))
    (spE_Taken : PySem.W.specialIn K (.builtin "object.__class__") "__get__" = some (some (.builtin "getset_descriptor.__get__")))
    (tkE_Taken : PySem.W.takesIn K (.builtin "object.__class__") = some true)
    (obE_Taken : PySem.W.mroIn K Ce_Taken (.type "object") = some true)
    (lI_Taken : K.lookup fE_Taken = some ⟨ocE_Taken, odE_Taken, .func (PySem.W.fnOf "__init__" "Taken.__init__" (defArgs s_Taken_init) (defBody s_Taken_init) (defScope s_Taken_init) .none kVE_Taken dcE_Taken pmE_Taken anE_Taken cdE_Taken ctE_Taken), slE_Taken⟩)
    (cI_Taken : PySem.W.codeIn K cdE_Taken "Taken.__init__" = true)
    (kI_Taken : PySem.W.keepIn K (.ref fE_Taken) = true)
    (no_name_Taken : PySem.W.findIn K (.ref Ce_Taken) "name" = some none)
    (aE_Outside : PySem.W.nsIn K mainGlobals "Outside" = some (some (.ref Ce_Outside)))
    (lE_Outside : K.lookup Ce_Outside = some (excClassObj nm_Outside qn_Outside Ce_Outside N_Outside bs_Outside bm_Outside true sn_Outside sub_Outside ab_Outside col_Outside dd_Outside k0_Outside k1_Outside k2_Outside k3_Outside k5_Outside "ValueError.__new__"))
    (rE_Outside : PySem.HandSPX.refsVE bm_Outside = true)
    (saE_Outside : PySem.W.findIn K (.ref Ce_Outside) "__setattr__" = some (some (.builtin "object.__setattr__")))
    (exE_Outside : PySem.W.subIn K (.ref Ce_Outside) (.type "BaseException") = some true)
    (tyE_Outside : PySem.W.typeIn K (.ref Ce_Outside) = some (.type "type"))
    (kE_Outside : PySem.W.keepIn K (.ref Ce_Outside) = true)
    (iE_Outside : PySem.W.findIn K (.ref Ce_Outside) "__init__" = some (some (.ref fE_Outside)))
    (tE_Outside : PySem.W.typeIn K (.ref fE_Outside) = some (.type "function"))
    (teE_Outside : PySem.W.exmOne K (.ref Ce_Outside) (.ref Ce_Outside) = some true)
    (gaE_Outside : PySem.W.findIn K (.ref Ce_Outside) "__getattribute__" = some (some (.builtin "BaseException.__getattribute__")))
    (ggE_Outside : PySem.W.findIn K (.ref Ce_Outside) "__getattr__" = some none)
    (hdE_Outside : PySem.W.hasDictIn K Ce_Outside = true)
    (clE_Outside : (PySem.W.clsIn K Ce_Outside).isSome = true)
    (caE_Outside : PySem.W.findIn K (.ref Ce_Outside) "__class__" = some (some (.builtin "object.__class__")))
    (spE_Outside : PySem.W.specialIn K (.builtin "object.__class__") "__get__" = some (some (.builtin "getset_descriptor.__get__")))
    (tkE_Outside : PySem.W.takesIn K (.builtin "object.__class__") = some true)
    (obE_Outside : PySem.W.mroIn K Ce_Outside (.type "object") = some true)
    (lI_Outside : K.lookup fE_Outside = some ⟨ocE_Outside, odE_Outside, .func (PySem.W.fnOf "__init__" "Outside.__init__" (defArgs s_Outside_init) (defBody s_Outside_init) (defScope s_Outside_init) .none kVE_Outside dcE_Outside pmE_Outside anE_Outside cdE_Outside ctE_Outside), slE_Outside⟩)
    (cI_Outside : PySem.W.codeIn K cdE_Outside "Outside.__init__" = true)
    (kI_Outside : PySem.W.keepIn K (.ref fE_Outside) = true)
    (no_number_Outside : PySem.W.findIn K (.ref Ce_Outside) "number" = some none)
    (aE_Needed : PySem.W.nsIn K mainGlobals "Needed" = some (some (.ref Ce_Needed)))
    (lE_Needed : K.lookup Ce_Needed = some (excClassObj nm_Needed qn_Needed Ce_Needed N_Needed bs_Needed bm_Needed true sn_Needed sub_Needed ab_Needed col_Needed dd_Needed k0_Needed k1_Needed k2_Needed k3_Needed k5_Needed "ValueError.__new__"))
    (rE_Needed : PySem.HandSPX.refsVE bm_Needed = true)
    (saE_Needed : PySem.W.findIn K (.ref Ce_Needed) "__setattr__" = some (some (.builtin "object.__setattr__")))
    (exE_Needed : PySem.W.subIn K (.ref Ce_Needed) (.type "BaseException") = some true)
    (tyE_Needed : PySem.W.typeIn K (.ref Ce_Needed) = some (.type "type"))
    (kE_Needed : PySem.W.keepIn K (.ref Ce_Needed) = true)
    (iE_Needed : PySem.W.findIn K (.ref Ce_Needed) "__init__" = some (some (.ref fE_Needed)))
    (tE_Needed : PySem.W.typeIn K (.ref fE_Needed) = some (.type "function"))
    (teE_Needed : PySem.W.exmOne K (.ref Ce_Needed) (.ref Ce_Needed) = some true)
    (gaE_Needed : PySem.W.findIn K (.ref Ce_Needed) "__getattribute__" = some (some (.builtin "BaseException.__getattribute__")))
    (ggE_Needed : PySem.W.findIn K (.ref Ce_Needed) "__getattr__" = some none)
    (hdE_Needed : PySem.W.hasDictIn K Ce_Needed = true)
    (clE_Needed : (PySem.W.clsIn K Ce_Needed).isSome = true)
    (caE_Needed : PySem.W.findIn K (.ref Ce_Needed) "__class__" = some (some (.builtin "object.__class__")))
    (spE_Needed : PySem.W.specialIn K (.builtin "object.__class__") "__get__" = some (some (.builtin "getset_descriptor.__get__")))
    (tkE_Needed : PySem.W.takesIn K (.builtin "object.__class__") = some true)
    (obE_Needed : PySem.W.mroIn K Ce_Needed (.type "object") = some true)
    (lI_Needed : K.lookup fE_Needed = some ⟨ocE_Needed, odE_Needed, .func (PySem.W.fnOf "__init__" "Needed.__init__" (defArgs s_Needed_init) (defBody s_Needed_init) (defScope s_Needed_init) .none kVE_Needed dcE_Needed pmE_Needed anE_Needed cdE_Needed ctE_Needed), slE_Needed⟩)
    (cI_Needed : PySem.W.codeIn K cdE_Needed "Needed.__init__" = true)
    (kI_Needed : PySem.W.keepIn K (.ref fE_Needed) = true)
    (no_name_Needed : PySem.W.findIn K (.ref Ce_Needed) "name" = some none)
    (aE_Ring : PySem.W.nsIn K mainGlobals "Ring" = some (some (.ref Ce_Ring)))
    (lE_Ring : K.lookup Ce_Ring = some (excClassObj nm_Ring qn_Ring Ce_Ring N_Ring bs_Ring bm_Ring true sn_Ring sub_Ring ab_Ring col_Ring dd_Ring k0_Ring k1_Ring k2_Ring k3_Ring k5_Ring "ValueError.__new__"))
    (rE_Ring : PySem.HandSPX.refsVE bm_Ring = true)
    (saE_Ring : PySem.W.findIn K (.ref Ce_Ring) "__setattr__" = some (some (.builtin "object.__setattr__")))
    (exE_Ring : PySem.W.subIn K (.ref Ce_Ring) (.type "BaseException") = some true)
    (tyE_Ring : PySem.W.typeIn K (.ref Ce_Ring) = some (.type "type"))
    (kE_Ring : PySem.W.keepIn K (.ref Ce_Ring) = true)
    (iE_Ring : PySem.W.findIn K (.ref Ce_Ring) "__init__" = some (some (.ref fE_Ring)))
    (tE_Ring : PySem.W.typeIn K (.ref fE_Ring) = some (.type "function"))
    (teE_Ring : PySem.W.exmOne K (.ref Ce_Ring) (.ref Ce_Ring) = some true)
    (gaE_Ring : PySem.W.findIn K (.ref Ce_Ring) "__getattribute__" = some (some (.builtin "BaseException.__getattribute__")))
    (ggE_Ring : PySem.W.findIn K (.ref Ce_Ring) "__getattr__" = some none)
    (hdE_Ring : PySem.W.hasDictIn K Ce_Ring = true)
    (clE_Ring : (PySem.W.clsIn K Ce_Ring).isSome = true)
    (caE_Ring : PySem.W.findIn K (.ref Ce_Ring) "__class__" = some (some (.builtin "object.__class__")))
    (spE_Ring : PySem.W.specialIn K (.builtin "object.__class__") "__get__" = some (some (.builtin "getset_descriptor.__get__")))
    (tkE_Ring : PySem.W.takesIn K (.builtin "object.__class__") = some true)
    (obE_Ring : PySem.W.mroIn K Ce_Ring (.type "object") = some true)
    (lI_Ring : K.lookup fE_Ring = some ⟨ocE_Ring, odE_Ring, .func (PySem.W.fnOf "__init__" "Ring.__init__" (defArgs s_Ring_init) (defBody s_Ring_init) (defScope s_Ring_init) .none kVE_Ring dcE_Ring pmE_Ring anE_Ring cdE_Ring ctE_Ring), slE_Ring⟩)
    (cI_Ring : PySem.W.codeIn K cdE_Ring "Ring.__init__" = true)
    (kI_Ring : PySem.W.keepIn K (.ref fE_Ring) = true)
    (no_name_Ring : PySem.W.findIn K (.ref Ce_Ring) "name" = some none)
    (aE_NotBehind : PySem.W.nsIn K mainGlobals "NotBehind" = some (some (.ref Ce_NotBehind)))
    (lE_NotBehind : K.lookup Ce_NotBehind = some (excClassObj nm_NotBehind qn_NotBehind Ce_NotBehind N_NotBehind bs_NotBehind bm_NotBehind true sn_NotBehind sub_NotBehind ab_NotBehind col_NotBehind dd_NotBehind k0_NotBehind k1_NotBehind k2_NotBehind k3_NotBehind k5_NotBehind "ValueError.__new__"))
    (rE_NotBehind : PySem.HandSPX.refsVE bm_NotBehind = true)
    (saE_NotBehind : PySem.W.findIn K (.ref Ce_NotBehind) "__setattr__" = some (some (.builtin "object.__setattr__")))
    (exE_NotBehind : PySem.W.subIn K (.ref Ce_NotBehind) (.type "BaseException") = some true)
    (tyE_NotBehind : PySem.W.typeIn K (.ref Ce_NotBehind) = some (.type "type"))
    (kE_NotBehind : PySem.W.keepIn K (.ref Ce_NotBehind) = true)
    (iE_NotBehind : PySem.W.findIn K (.ref Ce_NotBehind) "__init__" = some (some (.ref fE_NotBehind)))
    (tE_NotBehind : PySem.W.typeIn K (.ref fE_NotBehind) = some (.type "function"))
    (teE_NotBehind : PySem.W.exmOne K (.ref Ce_NotBehind) (.ref Ce_NotBehind) = some true)
    (gaE_NotBehind : PySem.W.findIn K (.ref Ce_NotBehind) "__getattribute__" = some (some (.builtin "BaseException.__getattribute__")))
    (ggE_NotBehind : PySem.W.findIn K (.ref Ce_NotBehind) "__getattr__" = some none)
    (hdE_NotBehind : PySem.W.hasDictIn K Ce_NotBehind = true)
    (clE_NotBehind : (PySem.W.clsIn K Ce_NotBehind).isSome = true)
    (caE_NotBehind : PySem.W.findIn K (.ref Ce_NotBehind) "__class__" = some (some (.builtin "object.__class__")))
    (spE_NotBehind : PySem.W.specialIn K (.builtin "object.__class__") "__get__" = some (some (.builtin "getset_descriptor.__get__")))
    (tkE_NotBehind : PySem.W.takesIn K (.builtin "object.__class__") = some true)
    (obE_NotBehind : PySem.W.mroIn K Ce_NotBehind (.type "object") = some true)
    (lI_NotBehind : K.lookup fE_NotBehind = some ⟨ocE_NotBehind, odE_NotBehind, .func (PySem.W.fnOf "__init__" "NotBehind.__init__" (defArgs s_NotBehind_init) (defBody s_NotBehind_init) (defScope s_NotBehind_init) .none kVE_NotBehind dcE_NotBehind pmE_NotBehind anE_NotBehind cdE_NotBehind ctE_NotBehind), slE_NotBehind⟩)
    (cI_NotBehind : PySem.W.codeIn K cdE_NotBehind "NotBehind.__init__" = true)
    (kI_NotBehind : PySem.W.keepIn K (.ref fE_NotBehind) = true)
    (no_other_NotBehind : PySem.W.findIn K (.ref Ce_NotBehind) "other" = some none)
    (aE_NoShift : PySem.W.nsIn K mainGlobals "NoShift" = some (some (.ref Ce_NoShift)))
    (xcE_NoShift : PySem.W.excIn K Ce_NoShift [.type "ValueError", .type "Exception", .type "BaseException", .type "object"] "ValueError.__new__" = true)
    (kE_NoShift : PySem.W.keepIn K (.ref Ce_NoShift) = true)
    (exE_NoShift : PySem.W.subIn K (.ref Ce_NoShift) (.type "BaseException") = some true)
    (tyE_NoShift : PySem.W.typeIn K (.ref Ce_NoShift) = some (.type "type"))
    (teE_NoShift : PySem.W.exmOne K (.ref Ce_NoShift) (.ref Ce_NoShift) = some true)
    (clE_NoShift : (PySem.W.clsIn K Ce_NoShift).isSome = true)
    (gaE_NoShift : PySem.W.findIn K (.ref Ce_NoShift) "__getattribute__" = some (some (.builtin "BaseException.__getattribute__")))
    (ggE_NoShift : PySem.W.findIn K (.ref Ce_NoShift) "__getattr__" = some none)
    (caE_NoShift : PySem.W.findIn K (.ref Ce_NoShift) "__class__" = some (some (.builtin "object.__class__")))
    (spE_NoShift : PySem.W.specialIn K (.builtin "object.__class__") "__get__" = some (some (.builtin "getset_descriptor.__get__")))
    (tkE_NoShift : PySem.W.takesIn K (.builtin "object.__class__") = some true)
    (obE_NoShift : PySem.W.mroIn K Ce_NoShift (.type "object") = some true)
    (aE_NothingDone : PySem.W.nsIn K mainGlobals "NothingDone" = some (some (.ref Ce_NothingDone)))
    (xcE_NothingDone : PySem.W.excIn K Ce_NothingDone [.type "ValueError", .type "Exception", .type "BaseException", .type "object"] "ValueError.__new__" = true)
    (kE_NothingDone : PySem.W.keepIn K (.ref Ce_NothingDone) = true)
    (exE_NothingDone : PySem.W.subIn K (.ref Ce_NothingDone) (.type "BaseException") = some true)
    (tyE_NothingDone : PySem.W.typeIn K (.ref Ce_NothingDone) = some (.type "type"))
    (teE_NothingDone : PySem.W.exmOne K (.ref Ce_NothingDone) (.ref Ce_NothingDone) = some true)
    (clE_NothingDone : (PySem.W.clsIn K Ce_NothingDone).isSome = true)
    (gaE_NothingDone : PySem.W.findIn K (.ref Ce_NothingDone) "__getattribute__" = some (some (.builtin "BaseException.__getattribute__")))
    (ggE_NothingDone : PySem.W.findIn K (.ref Ce_NothingDone) "__getattr__" = some none)
    (caE_NothingDone : PySem.W.findIn K (.ref Ce_NothingDone) "__class__" = some (some (.builtin "object.__class__")))
    (spE_NothingDone : PySem.W.specialIn K (.builtin "object.__class__") "__get__" = some (some (.builtin "getset_descriptor.__get__")))
    (tkE_NothingDone : PySem.W.takesIn K (.builtin "object.__class__") = some true)
    (obE_NothingDone : PySem.W.mroIn K Ce_NothingDone (.type "object") = some true)
    (aE_Unlike : PySem.W.nsIn K mainGlobals "Unlike" = some (some (.ref Ce_Unlike)))
    (xcE_Unlike : PySem.W.excIn K Ce_Unlike [.type "ValueError", .type "Exception", .type "BaseException", .type "object"] "ValueError.__new__" = true)
    (kE_Unlike : PySem.W.keepIn K (.ref Ce_Unlike) = true)
    (exE_Unlike : PySem.W.subIn K (.ref Ce_Unlike) (.type "BaseException") = some true)
    (tyE_Unlike : PySem.W.typeIn K (.ref Ce_Unlike) = some (.type "type"))
    (teE_Unlike : PySem.W.exmOne K (.ref Ce_Unlike) (.ref Ce_Unlike) = some true)
    (clE_Unlike : (PySem.W.clsIn K Ce_Unlike).isSome = true)
    (gaE_Unlike : PySem.W.findIn K (.ref Ce_Unlike) "__getattribute__" = some (some (.builtin "BaseException.__getattribute__")))
    (ggE_Unlike : PySem.W.findIn K (.ref Ce_Unlike) "__getattr__" = some none)
    (caE_Unlike : PySem.W.findIn K (.ref Ce_Unlike) "__class__" = some (some (.builtin "object.__class__")))
    (spE_Unlike : PySem.W.specialIn K (.builtin "object.__class__") "__get__" = some (some (.builtin "getset_descriptor.__get__")))
    (tkE_Unlike : PySem.W.takesIn K (.builtin "object.__class__") = some true)
    (obE_Unlike : PySem.W.mroIn K Ce_Unlike (.type "object") = some true)
    (aE_Gainsaid : PySem.W.nsIn K mainGlobals "Gainsaid" = some (some (.ref Ce_Gainsaid)))
    (xcE_Gainsaid : PySem.W.excIn K Ce_Gainsaid [.type "ValueError", .type "Exception", .type "BaseException", .type "object"] "ValueError.__new__" = true)
    (kE_Gainsaid : PySem.W.keepIn K (.ref Ce_Gainsaid) = true)
    (exE_Gainsaid : PySem.W.subIn K (.ref Ce_Gainsaid) (.type "BaseException") = some true)
    (tyE_Gainsaid : PySem.W.typeIn K (.ref Ce_Gainsaid) = some (.type "type"))
    (teE_Gainsaid : PySem.W.exmOne K (.ref Ce_Gainsaid) (.ref Ce_Gainsaid) = some true)
    (clE_Gainsaid : (PySem.W.clsIn K Ce_Gainsaid).isSome = true)
    (gaE_Gainsaid : PySem.W.findIn K (.ref Ce_Gainsaid) "__getattribute__" = some (some (.builtin "BaseException.__getattribute__")))
    (ggE_Gainsaid : PySem.W.findIn K (.ref Ce_Gainsaid) "__getattr__" = some none)
    (caE_Gainsaid : PySem.W.findIn K (.ref Ce_Gainsaid) "__class__" = some (some (.builtin "object.__class__")))
    (spE_Gainsaid : PySem.W.specialIn K (.builtin "object.__class__") "__get__" = some (some (.builtin "getset_descriptor.__get__")))
    (tkE_Gainsaid : PySem.W.takesIn K (.builtin "object.__class__") = some true)
    (obE_Gainsaid : PySem.W.mroIn K Ce_Gainsaid (.type "object") = some true)
    (aLE : PySem.W.nsIn K mainGlobals "LevelError" = some (some (.ref Cl)))
    (zVE : PySem.W.nsIn K mainGlobals "ValueError" = some none)
    (ki_BadText_BadText : PySem.W.kitOne K (.ref Ce_BadText) (.ref Ce_BadText) = some true)
    (ki_BadLine_BadText : PySem.W.kitOne K (.ref Ce_BadLine) (.ref Ce_BadText) = some false)
    (ki_Crossed_BadText : PySem.W.kitOne K (.ref Ce_Crossed) (.ref Ce_BadText) = some false)
    (ki_NoShift_BadText : PySem.W.kitOne K (.ref Ce_NoShift) (.ref Ce_BadText) = some false)
    (ki_NoPlace_BadText : PySem.W.kitOne K (.ref Ce_NoPlace) (.ref Ce_BadText) = some false)
    (ki_NothingDone_BadText : PySem.W.kitOne K (.ref Ce_NothingDone) (.ref Ce_BadText) = some false)
    (ki_Unlike_BadText : PySem.W.kitOne K (.ref Ce_Unlike) (.ref Ce_BadText) = some false)
    (ki_NoStarts_BadText : PySem.W.kitOne K (.ref Ce_NoStarts) (.ref Ce_BadText) = some false)
    (ki_Gainsaid_BadText : PySem.W.kitOne K (.ref Ce_Gainsaid) (.ref Ce_BadText) = some false)
    (ki_NoName_BadText : PySem.W.kitOne K (.ref Ce_NoName) (.ref Ce_BadText) = some false)
    (ki_Taken_BadText : PySem.W.kitOne K (.ref Ce_Taken) (.ref Ce_BadText) = some false)
    (ki_Outside_BadText : PySem.W.kitOne K (.ref Ce_Outside) (.ref Ce_BadText) = some false)
    (ki_Needed_BadText : PySem.W.kitOne K (.ref Ce_Needed) (.ref Ce_BadText) = some false)
    (ki_Ring_BadText : PySem.W.kitOne K (.ref Ce_Ring) (.ref Ce_BadText) = some false)
    (ki_NotBehind_BadText : PySem.W.kitOne K (.ref Ce_NotBehind) (.ref Ce_BadText) = some false)
    (ki_BadText_BadLine : PySem.W.kitOne K (.ref Ce_BadText) (.ref Ce_BadLine) = some false)
    (ki_BadLine_BadLine : PySem.W.kitOne K (.ref Ce_BadLine) (.ref Ce_BadLine) = some true)
    (ki_Crossed_BadLine : PySem.W.kitOne K (.ref Ce_Crossed) (.ref Ce_BadLine) = some false)
    (ki_NoShift_BadLine : PySem.W.kitOne K (.ref Ce_NoShift) (.ref Ce_BadLine) = some false)
    (ki_NoPlace_BadLine : PySem.W.kitOne K (.ref Ce_NoPlace) (.ref Ce_BadLine) = some false)
    (ki_NothingDone_BadLine : PySem.W.kitOne K (.ref Ce_NothingDone) (.ref Ce_BadLine) = some false)
    (ki_Unlike_BadLine : PySem.W.kitOne K (.ref Ce_Unlike) (.ref Ce_BadLine) = some false)
    (ki_NoStarts_BadLine : PySem.W.kitOne K (.ref Ce_NoStarts) (.ref Ce_BadLine) = some false)
    (ki_Gainsaid_BadLine : PySem.W.kitOne K (.ref Ce_Gainsaid) (.ref Ce_BadLine) = some false)
    (ki_NoName_BadLine : PySem.W.kitOne K (.ref Ce_NoName) (.ref Ce_BadLine) = some false)
    (ki_Taken_BadLine : PySem.W.kitOne K (.ref Ce_Taken) (.ref Ce_BadLine) = some false)
    (ki_Outside_BadLine : PySem.W.kitOne K (.ref Ce_Outside) (.ref Ce_BadLine) = some false)
    (ki_Needed_BadLine : PySem.W.kitOne K (.ref Ce_Needed) (.ref Ce_BadLine) = some false)
    (ki_Ring_BadLine : PySem.W.kitOne K (.ref Ce_Ring) (.ref Ce_BadLine) = some false)
    (ki_NotBehind_BadLine : PySem.W.kitOne K (.ref Ce_NotBehind) (.ref Ce_BadLine) = some false)
    (ki_BadText_Crossed : PySem.W.kitOne K (.ref Ce_BadText) (.ref Ce_Crossed) = some false)
    (ki_BadLine_Crossed : PySem.W.kitOne K (.ref Ce_BadLine) (.ref Ce_Crossed) = some false)
    (ki_Crossed_Crossed : PySem.W.kitOne K (.ref Ce_Crossed) (.ref Ce_Crossed) = some true)
    (ki_NoShift_Crossed : PySem.W.kitOne K (.ref Ce_NoShift) (.ref Ce_Crossed) = some false)
    (ki_NoPlace_Crossed : PySem.W.kitOne K (.ref Ce_NoPlace) (.ref Ce_Crossed) = some false)
    (ki_NothingDone_Crossed : PySem.W.kitOne K (.ref Ce_NothingDone) (.ref Ce_Crossed) = some false)
    (ki_Unlike_Crossed : PySem.W.kitOne K (.ref Ce_Unlike) (.ref Ce_Crossed) = some false)
    (ki_NoStarts_Crossed : PySem.W.kitOne K (.ref Ce_NoStarts) (.ref Ce_Crossed) = some false)
    (ki_Gainsaid_Crossed : PySem.W.kitOne K (.ref Ce_Gainsaid) (.ref Ce_Crossed) = some false)
    (ki_NoName_Crossed : PySem.W.kitOne K (.ref Ce_NoName) (.ref Ce_Crossed) = some false)
    (ki_Taken_Crossed : PySem.W.kitOne K (.ref Ce_Taken) (.ref Ce_Crossed) = some false)
    (ki_Outside_Crossed : PySem.W.kitOne K (.ref Ce_Outside) (.ref Ce_Crossed) = some false)
    (ki_Needed_Crossed : PySem.W.kitOne K (.ref Ce_Needed) (.ref Ce_Crossed) = some false)
    (ki_Ring_Crossed : PySem.W.kitOne K (.ref Ce_Ring) (.ref Ce_Crossed) = some false)
    (ki_NotBehind_Crossed : PySem.W.kitOne K (.ref Ce_NotBehind) (.ref Ce_Crossed) = some false)
    (ki_BadText_NoShift : PySem.W.kitOne K (.ref Ce_BadText) (.ref Ce_NoShift) = some false)
    (ki_BadLine_NoShift : PySem.W.kitOne K (.ref Ce_BadLine) (.ref Ce_NoShift) = some false)
    (ki_Crossed_NoShift : PySem.W.kitOne K (.ref Ce_Crossed) (.ref Ce_NoShift) = some false)
    (ki_NoShift_NoShift : PySem.W.kitOne K (.ref Ce_NoShift) (.ref Ce_NoShift) = some true)
    (ki_NoPlace_NoShift : PySem.W.kitOne K (.ref Ce_NoPlace) (.ref Ce_NoShift) = some false)
    (ki_NothingDone_NoShift : PySem.W.kitOne K (.ref Ce_NothingDone) (.ref Ce_NoShift) = some false)
    (ki_Unlike_NoShift : PySem.W.kitOne K (.ref Ce_Unlike) (.ref Ce_NoShift) = some false)
    (ki_NoStarts_NoShift : PySem.W.kitOne K (.ref Ce_NoStarts) (.ref Ce_NoShift) = some false)
    (ki_Gainsaid_NoShift : PySem.W.kitOne K (.ref Ce_Gainsaid) (.ref Ce_NoShift) = some false)
    (ki_NoName_NoShift : PySem.W.kitOne K (.ref Ce_NoName) (.ref Ce_NoShift) = some false)
    (ki_Taken_NoShift : PySem.W.kitOne K (.ref Ce_Taken) (.ref Ce_NoShift) = some false)
    (ki_Outside_NoShift : PySem.W.kitOne K (.ref Ce_Outside) (.ref Ce_NoShift) = some false)
    (ki_Needed_NoShift : PySem.W.kitOne K (.ref Ce_Needed) (.ref Ce_NoShift) = some false)
    (ki_Ring_NoShift : PySem.W.kitOne K (.ref Ce_Ring) (.ref Ce_NoShift) = some false)
    (ki_NotBehind_NoShift : PySem.W.kitOne K (.ref Ce_NotBehind) (.ref Ce_NoShift) = some false)
    (ki_BadText_NoPlace : PySem.W.kitOne K (.ref Ce_BadText) (.ref Ce_NoPlace) = some false)
    (ki_BadLine_NoPlace : PySem.W.kitOne K (.ref Ce_BadLine) (.ref Ce_NoPlace) = some false)
    (ki_Crossed_NoPlace : PySem.W.kitOne K (.ref Ce_Crossed) (.ref Ce_NoPlace) = some false)
    (ki_NoShift_NoPlace : PySem.W.kitOne K (.ref Ce_NoShift) (.ref Ce_NoPlace) = some false)
    (ki_NoPlace_NoPlace : PySem.W.kitOne K (.ref Ce_NoPlace) (.ref Ce_NoPlace) = some true)
    (ki_NothingDone_NoPlace : PySem.W.kitOne K (.ref Ce_NothingDone) (.ref Ce_NoPlace) = some false)
    (ki_Unlike_NoPlace : PySem.W.kitOne K (.ref Ce_Unlike) (.ref Ce_NoPlace) = some false)
    (ki_NoStarts_NoPlace : PySem.W.kitOne K (.ref Ce_NoStarts) (.ref Ce_NoPlace) = some false)
    (ki_Gainsaid_NoPlace : PySem.W.kitOne K (.ref Ce_Gainsaid) (.ref Ce_NoPlace) = some false)
    (ki_NoName_NoPlace : PySem.W.kitOne K (.ref Ce_NoName) (.ref Ce_NoPlace) = some false)
    (ki_Taken_NoPlace : PySem.W.kitOne K (.ref Ce_Taken) (.ref Ce_NoPlace) = some false)
    (ki_Outside_NoPlace : PySem.W.kitOne K (.ref Ce_Outside) (.ref Ce_NoPlace) = some false)
    (ki_Needed_NoPlace : PySem.W.kitOne K (.ref Ce_Needed) (.ref Ce_NoPlace) = some false)
    (ki_Ring_NoPlace : PySem.W.kitOne K (.ref Ce_Ring) (.ref Ce_NoPlace) = some false)
    (ki_NotBehind_NoPlace : PySem.W.kitOne K (.ref Ce_NotBehind) (.ref Ce_NoPlace) = some false)
    (ki_BadText_NothingDone : PySem.W.kitOne K (.ref Ce_BadText) (.ref Ce_NothingDone) = some false)
    (ki_BadLine_NothingDone : PySem.W.kitOne K (.ref Ce_BadLine) (.ref Ce_NothingDone) = some false)
    (ki_Crossed_NothingDone : PySem.W.kitOne K (.ref Ce_Crossed) (.ref Ce_NothingDone) = some false)
    (ki_NoShift_NothingDone : PySem.W.kitOne K (.ref Ce_NoShift) (.ref Ce_NothingDone) = some false)
    (ki_NoPlace_NothingDone : PySem.W.kitOne K (.ref Ce_NoPlace) (.ref Ce_NothingDone) = some false)
    (ki_NothingDone_NothingDone : PySem.W.kitOne K (.ref Ce_NothingDone) (.ref Ce_NothingDone) = some true)
    (ki_Unlike_NothingDone : PySem.W.kitOne K (.ref Ce_Unlike) (.ref Ce_NothingDone) = some false)
    (ki_NoStarts_NothingDone : PySem.W.kitOne K (.ref Ce_NoStarts) (.ref Ce_NothingDone) = some false)
    (ki_Gainsaid_NothingDone : PySem.W.kitOne K (.ref Ce_Gainsaid) (.ref Ce_NothingDone) = some false)
    (ki_NoName_NothingDone : PySem.W.kitOne K (.ref Ce_NoName) (.ref Ce_NothingDone) = some false)
    (ki_Taken_NothingDone : PySem.W.kitOne K (.ref Ce_Taken) (.ref Ce_NothingDone) = some false)
    (ki_Outside_NothingDone : PySem.W.kitOne K (.ref Ce_Outside) (.ref Ce_NothingDone) = some false)
    (ki_Needed_NothingDone : PySem.W.kitOne K (.ref Ce_Needed) (.ref Ce_NothingDone) = some false)
    (ki_Ring_NothingDone : PySem.W.kitOne K (.ref Ce_Ring) (.ref Ce_NothingDone) = some false)
    (ki_NotBehind_NothingDone : PySem.W.kitOne K (.ref Ce_NotBehind) (.ref Ce_NothingDone) = some false)
    (ki_BadText_Unlike : PySem.W.kitOne K (.ref Ce_BadText) (.ref Ce_Unlike) = some false)
    (ki_BadLine_Unlike : PySem.W.kitOne K (.ref Ce_BadLine) (.ref Ce_Unlike) = some false)
    (ki_Crossed_Unlike : PySem.W.kitOne K (.ref Ce_Crossed) (.ref Ce_Unlike) = some false)
    (ki_NoShift_Unlike : PySem.W.kitOne K (.ref Ce_NoShift) (.ref Ce_Unlike) = some false)
    (ki_NoPlace_Unlike : PySem.W.kitOne K (.ref Ce_NoPlace) (.ref Ce_Unlike) = some false)
    (ki_NothingDone_Unlike : PySem.W.kitOne K (.ref Ce_NothingDone) (.ref Ce_Unlike) = some false)
    (ki_Unlike_Unlike : PySem.W.kitOne K (.ref Ce_Unlike) (.ref Ce_Unlike) = some true)
    (ki_NoStarts_Unlike : PySem.W.kitOne K (.ref Ce_NoStarts) (.ref Ce_Unlike) = some false)
    (ki_Gainsaid_Unlike : PySem.W.kitOne K (.ref Ce_Gainsaid) (.ref Ce_Unlike) = some false)
    (ki_NoName_Unlike : PySem.W.kitOne K (.ref Ce_NoName) (.ref Ce_Unlike) = some false)
    (ki_Taken_Unlike : PySem.W.kitOne K (.ref Ce_Taken) (.ref Ce_Unlike) = some false)
    (ki_Outside_Unlike : PySem.W.kitOne K (.ref Ce_Outside) (.ref Ce_Unlike) = some false)
    (ki_Needed_Unlike : PySem.W.kitOne K (.ref Ce_Needed) (.ref Ce_Unlike) = some false)
    (ki_Ring_Unlike : PySem.W.kitOne K (.ref Ce_Ring) (.ref Ce_Unlike) = some false)
    (ki_NotBehind_Unlike : PySem.W.kitOne K (.ref Ce_NotBehind) (.ref Ce_Unlike) = some false)
    (ki_BadText_NoStarts : PySem.W.kitOne K (.ref Ce_BadText) (.ref Ce_NoStarts) = some false)
    (ki_BadLine_NoStarts : PySem.W.kitOne K (.ref Ce_BadLine) (.ref Ce_NoStarts) = some false)
    (ki_Crossed_NoStarts : PySem.W.kitOne K (.ref Ce_Crossed) (.ref Ce_NoStarts) = some false)
    (ki_NoShift_NoStarts : PySem.W.kitOne K (.ref Ce_NoShift) (.ref Ce_NoStarts) = some false)
    (ki_NoPlace_NoStarts : PySem.W.kitOne K (.ref Ce_NoPlace) (.ref Ce_NoStarts) = some false)
    (ki_NothingDone_NoStarts : PySem.W.kitOne K (.ref Ce_NothingDone) (.ref Ce_NoStarts) = some false)
    (ki_Unlike_NoStarts : PySem.W.kitOne K (.ref Ce_Unlike) (.ref Ce_NoStarts) = some false)
    (ki_NoStarts_NoStarts : PySem.W.kitOne K (.ref Ce_NoStarts) (.ref Ce_NoStarts) = some true)
    (ki_Gainsaid_NoStarts : PySem.W.kitOne K (.ref Ce_Gainsaid) (.ref Ce_NoStarts) = some false)
    (ki_NoName_NoStarts : PySem.W.kitOne K (.ref Ce_NoName) (.ref Ce_NoStarts) = some false)
    (ki_Taken_NoStarts : PySem.W.kitOne K (.ref Ce_Taken) (.ref Ce_NoStarts) = some false)
    (ki_Outside_NoStarts : PySem.W.kitOne K (.ref Ce_Outside) (.ref Ce_NoStarts) = some false)
    (ki_Needed_NoStarts : PySem.W.kitOne K (.ref Ce_Needed) (.ref Ce_NoStarts) = some false)
    (ki_Ring_NoStarts : PySem.W.kitOne K (.ref Ce_Ring) (.ref Ce_NoStarts) = some false)
    (ki_NotBehind_NoStarts : PySem.W.kitOne K (.ref Ce_NotBehind) (.ref Ce_NoStarts) = some false)
    (ki_BadText_Gainsaid : PySem.W.kitOne K (.ref Ce_BadText) (.ref Ce_Gainsaid) = some false)
    (ki_BadLine_Gainsaid : PySem.W.kitOne K (.ref Ce_BadLine) (.ref Ce_Gainsaid) = some false)
    (ki_Crossed_Gainsaid : PySem.W.kitOne K (.ref Ce_Crossed) (.ref Ce_Gainsaid) = some false)
    (ki_NoShift_Gainsaid : PySem.W.kitOne K (.ref Ce_NoShift) (.ref Ce_Gainsaid) = some false)
    (ki_NoPlace_Gainsaid : PySem.W.kitOne K (.ref Ce_NoPlace) (.ref Ce_Gainsaid) = some false)
    (ki_NothingDone_Gainsaid : PySem.W.kitOne K (.ref Ce_NothingDone) (.ref Ce_Gainsaid) = some false)
    (ki_Unlike_Gainsaid : PySem.W.kitOne K (.ref Ce_Unlike) (.ref Ce_Gainsaid) = some false)
    (ki_NoStarts_Gainsaid : PySem.W.kitOne K (.ref Ce_NoStarts) (.ref Ce_Gainsaid) = some false)
    (ki_Gainsaid_Gainsaid : PySem.W.kitOne K (.ref Ce_Gainsaid) (.ref Ce_Gainsaid) = some true)
    (ki_NoName_Gainsaid : PySem.W.kitOne K (.ref Ce_NoName) (.ref Ce_Gainsaid) = some false)
    (ki_Taken_Gainsaid : PySem.W.kitOne K (.ref Ce_Taken) (.ref Ce_Gainsaid) = some false)
    (ki_Outside_Gainsaid : PySem.W.kitOne K (.ref Ce_Outside) (.ref Ce_Gainsaid) = some false)
    (ki_Needed_Gainsaid : PySem.W.kitOne K (.ref Ce_Needed) (.ref Ce_Gainsaid) = some false)
    (ki_Ring_Gainsaid : PySem.W.kitOne K (.ref Ce_Ring) (.ref Ce_Gainsaid) = some false)
    (ki_NotBehind_Gainsaid : PySem.W.kitOne K (.ref Ce_NotBehind) (.ref Ce_Gainsaid) = some false)
    (ki_BadText_NoName : PySem.W.kitOne K (.ref Ce_BadText) (.ref Ce_NoName) = some false)
    (ki_BadLine_NoName : PySem.W.kitOne K (.ref Ce_BadLine) (.ref Ce_NoName) = some false)
    (ki_Crossed_NoName : PySem.W.kitOne K (.ref Ce_Crossed) (.ref Ce_NoName) = some false)
    (ki_NoShift_NoName : PySem.W.kitOne K (.ref Ce_NoShift) (.ref Ce_NoName) = some false)
    (ki_NoPlace_NoName : PySem.W.kitOne K (.ref Ce_NoPlace) (.ref Ce_NoName) = some false)
    (ki_NothingDone_NoName : PySem.W.kitOne K (.ref Ce_NothingDone) (.ref Ce_NoName) = some false)
    (ki_Unlike_NoName : PySem.W.kitOne K (.ref Ce_Unlike) (.ref Ce_NoName) = some false)
    (ki_NoStarts_NoName : PySem.W.kitOne K (.ref Ce_NoStarts) (.ref Ce_NoName) = some false)
    (ki_Gainsaid_NoName : PySem.W.kitOne K (.ref Ce_Gainsaid) (.ref Ce_NoName) = some false)
    (ki_NoName_NoName : PySem.W.kitOne K (.ref Ce_NoName) (.ref Ce_NoName) = some true)
    (ki_Taken_NoName : PySem.W.kitOne K (.ref Ce_Taken) (.ref Ce_NoName) = some false)
    (ki_Outside_NoName : PySem.W.kitOne K (.ref Ce_Outside) (.ref Ce_NoName) = some false)
    (ki_Needed_NoName : PySem.W.kitOne K (.ref Ce_Needed) (.ref Ce_NoName) = some false)
    (ki_Ring_NoName : PySem.W.kitOne K (.ref Ce_Ring) (.ref Ce_NoName) = some false)
    (ki_NotBehind_NoName : PySem.W.kitOne K (.ref Ce_NotBehind) (.ref Ce_NoName) = some false)
    (ki_BadText_Taken : PySem.W.kitOne K (.ref Ce_BadText) (.ref Ce_Taken) = some false)
    (ki_BadLine_Taken : PySem.W.kitOne K (.ref Ce_BadLine) (.ref Ce_Taken) = some false)
    (ki_Crossed_Taken : PySem.W.kitOne K (.ref Ce_Crossed) (.ref Ce_Taken) = some false)
    (ki_NoShift_Taken : PySem.W.kitOne K (.ref Ce_NoShift) (.ref Ce_Taken) = some false)
    (ki_NoPlace_Taken : PySem.W.kitOne K (.ref Ce_NoPlace) (.ref Ce_Taken) = some false)
    (ki_NothingDone_Taken : PySem.W.kitOne K (.ref Ce_NothingDone) (.ref Ce_Taken) = some false)
    (ki_Unlike_Taken : PySem.W.kitOne K (.ref Ce_Unlike) (.ref Ce_Taken) = some false)
    (ki_NoStarts_Taken : PySem.W.kitOne K (.ref Ce_NoStarts) (.ref Ce_Taken) = some false)
    (ki_Gainsaid_Taken : PySem.W.kitOne K (.ref Ce_Gainsaid) (.ref Ce_Taken) = some false)
    (ki_NoName_Taken : PySem.W.kitOne K (.ref Ce_NoName) (.ref Ce_Taken) = some false)
    (ki_Taken_Taken : PySem.W.kitOne K (.ref Ce_Taken) (.ref Ce_Taken) = some true)
    (ki_Outside_Taken : PySem.W.kitOne K (.ref Ce_Outside) (.ref Ce_Taken) = some false)
    (ki_Needed_Taken : PySem.W.kitOne K (.ref Ce_Needed) (.ref Ce_Taken) = some false)
    (ki_Ring_Taken : PySem.W.kitOne K (.ref Ce_Ring) (.ref Ce_Taken) = some false)
    (ki_NotBehind_Taken : PySem.W.kitOne K (.ref Ce_NotBehind) (.ref Ce_Taken) = some false)
    (ki_BadText_Outside : PySem.W.kitOne K (.ref Ce_BadText) (.ref Ce_Outside) = some false)
    (ki_BadLine_Outside : PySem.W.kitOne K (.ref Ce_BadLine) (.ref Ce_Outside) = some false)
    (ki_Crossed_Outside : PySem.W.kitOne K (.ref Ce_Crossed) (.ref Ce_Outside) = some false)
    (ki_NoShift_Outside : PySem.W.kitOne K (.ref Ce_NoShift) (.ref Ce_Outside) = some false)
    (ki_NoPlace_Outside : PySem.W.kitOne K (.ref Ce_NoPlace) (.ref Ce_Outside) = some false)
    (ki_NothingDone_Outside : PySem.W.kitOne K (.ref Ce_NothingDone) (.ref Ce_Outside) = some false)
    (ki_Unlike_Outside : PySem.W.kitOne K (.ref Ce_Unlike) (.ref Ce_Outside) = some false)
    (ki_NoStarts_Outside : PySem.W.kitOne K (.ref Ce_NoStarts) (.ref Ce_Outside) = some false)
    (ki_Gainsaid_Outside : PySem.W.kitOne K (.ref Ce_Gainsaid) (.ref Ce_Outside) = some false)
    (ki_NoName_Outside : PySem.W.kitOne K (.ref Ce_NoName) (.ref Ce_Outside) = some false)
    (ki_Taken_Outside : PySem.W.kitOne K (.ref Ce_Taken) (.ref Ce_Outside) = some false)
    (ki_Outside_Outside : PySem.W.kitOne K (.ref Ce_Outside) (.ref Ce_Outside) = some true)
    (ki_Needed_Outside : PySem.W.kitOne K (.ref Ce_Needed) (.ref Ce_Outside) = some false)
    (ki_Ring_Outside : PySem.W.kitOne K (.ref Ce_Ring) (.ref Ce_Outside) = some false)
    (ki_NotBehind_Outside : PySem.W.kitOne K (.ref Ce_NotBehind) (.ref Ce_Outside) = some false)
    (ki_BadText_Needed : PySem.W.kitOne K (.ref Ce_BadText) (.ref Ce_Needed) = some false)
    (ki_BadLine_Needed : PySem.W.kitOne K (.ref Ce_BadLine) (.ref Ce_Needed) = some false)
    (ki_Crossed_Needed : PySem.W.kitOne K (.ref Ce_Crossed) (.ref Ce_Needed) = some false)
    (ki_NoShift_Needed : PySem.W.kitOne K (.ref Ce_NoShift) (.ref Ce_Needed) = some false)
    (ki_NoPlace_Needed : PySem.W.kitOne K (.ref Ce_NoPlace) (.ref Ce_Needed) = some false)
    (ki_NothingDone_Needed : PySem.W.kitOne K (.ref Ce_NothingDone) (.ref Ce_Needed) = some false)
    (ki_Unlike_Needed : PySem.W.kitOne K (.ref Ce_Unlike) (.ref Ce_Needed) = some false)
    (ki_NoStarts_Needed : PySem.W.kitOne K (.ref Ce_NoStarts) (.ref Ce_Needed) = some false)
    (ki_Gainsaid_Needed : PySem.W.kitOne K (.ref Ce_Gainsaid) (.ref Ce_Needed) = some false)
    (ki_NoName_Needed : PySem.W.kitOne K (.ref Ce_NoName) (.ref Ce_Needed) = some false)
    (ki_Taken_Needed : PySem.W.kitOne K (.ref Ce_Taken) (.ref Ce_Needed) = some false)
    (ki_Outside_Needed : PySem.W.kitOne K (.ref Ce_Outside) (.ref Ce_Needed) = some false)
    (ki_Needed_Needed : PySem.W.kitOne K (.ref Ce_Needed) (.ref Ce_Needed) = some true)
    (ki_Ring_Needed : PySem.W.kitOne K (.ref Ce_Ring) (.ref Ce_Needed) = some false)
    (ki_NotBehind_Needed : PySem.W.kitOne K (.ref Ce_NotBehind) (.ref Ce_Needed) = some false)
    (ki_BadText_Ring : PySem.W.kitOne K (.ref Ce_BadText) (.ref Ce_Ring) = some false)
    (ki_BadLine_Ring : PySem.W.kitOne K (.ref Ce_BadLine) (.ref Ce_Ring) = some false)
    (ki_Crossed_Ring : PySem.W.kitOne K (.ref Ce_Crossed) (.ref Ce_Ring) = some false)
    (ki_NoShift_Ring : PySem.W.kitOne K (.ref Ce_NoShift) (.ref Ce_Ring) = some false)
    (ki_NoPlace_Ring : PySem.W.kitOne K (.ref Ce_NoPlace) (.ref Ce_Ring) = some false)
    (ki_NothingDone_Ring : PySem.W.kitOne K (.ref Ce_NothingDone) (.ref Ce_Ring) = some false)
    (ki_Unlike_Ring : PySem.W.kitOne K (.ref Ce_Unlike) (.ref Ce_Ring) = some false)
    (ki_NoStarts_Ring : PySem.W.kitOne K (.ref Ce_NoStarts) (.ref Ce_Ring) = some false)
    (ki_Gainsaid_Ring : PySem.W.kitOne K (.ref Ce_Gainsaid) (.ref Ce_Ring) = some false)
    (ki_NoName_Ring : PySem.W.kitOne K (.ref Ce_NoName) (.ref Ce_Ring) = some false)
    (ki_Taken_Ring : PySem.W.kitOne K (.ref Ce_Taken) (.ref Ce_Ring) = some false)
    (ki_Outside_Ring : PySem.W.kitOne K (.ref Ce_Outside) (.ref Ce_Ring) = some false)
    (ki_Needed_Ring : PySem.W.kitOne K (.ref Ce_Needed) (.ref Ce_Ring) = some false)
    (ki_Ring_Ring : PySem.W.kitOne K (.ref Ce_Ring) (.ref Ce_Ring) = some true)
    (ki_NotBehind_Ring : PySem.W.kitOne K (.ref Ce_NotBehind) (.ref Ce_Ring) = some false)
    (ki_BadText_NotBehind : PySem.W.kitOne K (.ref Ce_BadText) (.ref Ce_NotBehind) = some false)
    (ki_BadLine_NotBehind : PySem.W.kitOne K (.ref Ce_BadLine) (.ref Ce_NotBehind) = some false)
    (ki_Crossed_NotBehind : PySem.W.kitOne K (.ref Ce_Crossed) (.ref Ce_NotBehind) = some false)
    (ki_NoShift_NotBehind : PySem.W.kitOne K (.ref Ce_NoShift) (.ref Ce_NotBehind) = some false)
    (ki_NoPlace_NotBehind : PySem.W.kitOne K (.ref Ce_NoPlace) (.ref Ce_NotBehind) = some false)
    (ki_NothingDone_NotBehind : PySem.W.kitOne K (.ref Ce_NothingDone) (.ref Ce_NotBehind) = some false)
    (ki_Unlike_NotBehind : PySem.W.kitOne K (.ref Ce_Unlike) (.ref Ce_NotBehind) = some false)
    (ki_NoStarts_NotBehind : PySem.W.kitOne K (.ref Ce_NoStarts) (.ref Ce_NotBehind) = some false)
    (ki_Gainsaid_NotBehind : PySem.W.kitOne K (.ref Ce_Gainsaid) (.ref Ce_NotBehind) = some false)
    (ki_NoName_NotBehind : PySem.W.kitOne K (.ref Ce_NoName) (.ref Ce_NotBehind) = some false)
    (ki_Taken_NotBehind : PySem.W.kitOne K (.ref Ce_Taken) (.ref Ce_NotBehind) = some false)
    (ki_Outside_NotBehind : PySem.W.kitOne K (.ref Ce_Outside) (.ref Ce_NotBehind) = some false)
    (ki_Needed_NotBehind : PySem.W.kitOne K (.ref Ce_Needed) (.ref Ce_NotBehind) = some false)
    (ki_Ring_NotBehind : PySem.W.kitOne K (.ref Ce_Ring) (.ref Ce_NotBehind) = some false)
    (ki_NotBehind_NotBehind : PySem.W.kitOne K (.ref Ce_NotBehind) (.ref Ce_NotBehind) = some true)
    (ki_BadText_LevelError : PySem.W.kitOne K (.ref Ce_BadText) (.ref Cl) = some true)
    (ki_BadLine_LevelError : PySem.W.kitOne K (.ref Ce_BadLine) (.ref Cl) = some true)
    (ki_Crossed_LevelError : PySem.W.kitOne K (.ref Ce_Crossed) (.ref Cl) = some true)
    (ki_NoShift_LevelError : PySem.W.kitOne K (.ref Ce_NoShift) (.ref Cl) = some true)
    (ki_NoPlace_LevelError : PySem.W.kitOne K (.ref Ce_NoPlace) (.ref Cl) = some true)
    (ki_NothingDone_LevelError : PySem.W.kitOne K (.ref Ce_NothingDone) (.ref Cl) = some true)
    (ki_Unlike_LevelError : PySem.W.kitOne K (.ref Ce_Unlike) (.ref Cl) = some true)
    (ki_NoStarts_LevelError : PySem.W.kitOne K (.ref Ce_NoStarts) (.ref Cl) = some true)
    (ki_Gainsaid_LevelError : PySem.W.kitOne K (.ref Ce_Gainsaid) (.ref Cl) = some true)
    (ki_NoName_LevelError : PySem.W.kitOne K (.ref Ce_NoName) (.ref Cl) = some true)
    (ki_Taken_LevelError : PySem.W.kitOne K (.ref Ce_Taken) (.ref Cl) = some true)
    (ki_Outside_LevelError : PySem.W.kitOne K (.ref Ce_Outside) (.ref Cl) = some true)
    (ki_Needed_LevelError : PySem.W.kitOne K (.ref Ce_Needed) (.ref Cl) = some true)
    (ki_Ring_LevelError : PySem.W.kitOne K (.ref Ce_Ring) (.ref Cl) = some true)
    (ki_NotBehind_LevelError : PySem.W.kitOne K (.ref Ce_NotBehind) (.ref Cl) = some true)
    (ki_BadText_ValueError : PySem.W.kitOne K (.ref Ce_BadText) (.type "ValueError") = some true)
    (ki_BadLine_ValueError : PySem.W.kitOne K (.ref Ce_BadLine) (.type "ValueError") = some true)
    (ki_Crossed_ValueError : PySem.W.kitOne K (.ref Ce_Crossed) (.type "ValueError") = some true)
    (ki_NoShift_ValueError : PySem.W.kitOne K (.ref Ce_NoShift) (.type "ValueError") = some true)
    (ki_NoPlace_ValueError : PySem.W.kitOne K (.ref Ce_NoPlace) (.type "ValueError") = some true)
    (ki_NothingDone_ValueError : PySem.W.kitOne K (.ref Ce_NothingDone) (.type "ValueError") = some true)
    (ki_Unlike_ValueError : PySem.W.kitOne K (.ref Ce_Unlike) (.type "ValueError") = some true)
    (ki_NoStarts_ValueError : PySem.W.kitOne K (.ref Ce_NoStarts) (.type "ValueError") = some true)
    (ki_Gainsaid_ValueError : PySem.W.kitOne K (.ref Ce_Gainsaid) (.type "ValueError") = some true)
    (ki_NoName_ValueError : PySem.W.kitOne K (.ref Ce_NoName) (.type "ValueError") = some true)
    (ki_Taken_ValueError : PySem.W.kitOne K (.ref Ce_Taken) (.type "ValueError") = some true)
    (ki_Outside_ValueError : PySem.W.kitOne K (.ref Ce_Outside) (.type "ValueError") = some true)
    (ki_Needed_ValueError : PySem.W.kitOne K (.ref Ce_Needed) (.type "ValueError") = some true)
    (ki_Ring_ValueError : PySem.W.kitOne K (.ref Ce_Ring) (.type "ValueError") = some true)
    (ki_NotBehind_ValueError : PySem.W.kitOne K (.ref Ce_NotBehind) (.type "ValueError") = some true)
    (z_len : PySem.W.nsIn K mainGlobals "len" = some none)
    (z_abs : PySem.W.nsIn K mainGlobals "abs" = some none)
    (z_int : PySem.W.nsIn K mainGlobals "int" = some none)
    (z_list : PySem.W.nsIn K mainGlobals "list" = some none)
    (z_enumerate : PySem.W.nsIn K mainGlobals "enumerate" = some none)
    (z_range : PySem.W.nsIn K mainGlobals "range" = some none)
    (z_all : PySem.W.nsIn K mainGlobals "all" = some none)
    (z_zip : PySem.W.nsIn K mainGlobals "zip" = some none)
    (z_tuple : PySem.W.nsIn K mainGlobals "tuple" = some none)
    (z_isinstance : PySem.W.nsIn K mainGlobals "isinstance" = some none)
    (z_bool : PySem.W.nsIn K mainGlobals "bool" = some none)
    (z_str : PySem.W.nsIn K mainGlobals "str" = some none) :
    ∃ fd : FuncData, (∀ (s : Shared) (v : Value), BindsTo s fd ⟨[v], []⟩ [("_law_script", v)]) ∧ ∀ base : Heap, K.In base → base.Ns mainGlobals mg → FnOk l.prog w K mg base CX0 6 fa fd ["_law_script"] (spLaw K) := by
  obtain ⟨C, -⟩ : ∃ C : Addr, True := ⟨fa, trivial⟩
  have e := hfa.symm.trans (PySem.W.mg_of X G a8)
  cases e
  have T : Bt mg := ⟨PySem.W.mg_none_of X G z_len, PySem.W.mg_none_of X G z_abs, PySem.W.mg_none_of X G z_int, PySem.W.mg_none_of X G z_list, PySem.W.mg_none_of X G z_enumerate, PySem.W.mg_none_of X G z_range, PySem.W.mg_none_of X G z_all, PySem.W.mg_none_of X G z_zip, PySem.W.mg_none_of X G z_tuple, PySem.W.mg_none_of X G z_isinstance, PySem.W.mg_none_of X G z_bool, PySem.W.mg_none_of X G z_str⟩
  have F1 := fun_mk (st := s_law_box) l1 c1 k1
  have b1 := F1.binds (ps := ["_law_script", "_law_k"]) fun _ _ _ _ _ _ us hl => match us, hl with | [_, _], _ => rfl
  have m1 := PySem.W.mg_of X G a1
  have F2 := fun_mk (st := s_law_take) l2 c2 k2
  have b2 := F2.binds (ps := ["_law_box_here", "_law_size_so"]) fun _ _ _ _ _ _ us hl => match us, hl with | [_, _], _ => rfl
  have m2 := PySem.W.mg_of X G a2
  have F3 := fun_mk (st := s_law_cells) l3 c3 k3
  have b3 := F3.binds (ps := ["_law_script", "_law_top_so"]) fun _ _ _ _ _ _ us hl => match us, hl with | [_, _], _ => rfl
  have m3 := PySem.W.mg_of X G a3
  have F4 := fun_mk (st := s_law_pick) l4 c4 k4
  have b4 := F4.binds (ps := ["_law_box_here", "_law_goods_so", "_law_count_so"]) fun _ _ _ _ _ _ us hl => match us, hl with | [_, _, _], _ => rfl
  have m4 := PySem.W.mg_of X G a4
  have F5 := fun_mk (st := s_law_same) l5 c5 k5
  have b5 := F5.binds (ps := ["_law_got", "_law_due"]) fun _ _ _ _ _ _ us hl => match us, hl with | [_, _], _ => rfl
  have m5 := PySem.W.mg_of X G a5
  have F6 := fun_mk (st := s_law_sorts) l6 c6 k6
  have b6 := F6.binds (ps := ["_law_caught"]) fun _ _ _ _ _ _ us hl => match us, hl with | [_], _ => rfl
  have m6 := PySem.W.mg_of X G a6
  have F7 := fun_mk (st := s_law_right) l7 c7 k7
  have b7 := F7.binds (ps := ["_law_box_here"]) fun _ _ _ _ _ _ us hl => match us, hl with | [_], _ => rfl
  have m7 := PySem.W.mg_of X G a7
  have F8 := fun_mk (st := s_law) l8 c8 k8
  have b8 := F8.binds (ps := ["_law_script"]) fun _ _ _ _ _ _ us hl => match us, hl with | [_], _ => rfl
  have m8 := PySem.W.mg_of X G a8
  refine ⟨PySem.W.fnOf "law" "law" (defArgs s_law) (defBody s_law) (defScope s_law) .none kV8 dc8 pm8 an8 cd8 ct8, fun s v => .of_eq rfl, fun base _ _ => ?_⟩
  have same : ∀ n, Cal l.prog w K mg base n "_law_same" (spSame K n) [] := by
    intro n
    induction n with
    | zero => exact ⟨_, _, ["_law_got", "_law_due"], [], same0, m5, k5, b5, .nil⟩
    | succ n ih => exact ⟨_, _, ["_law_got", "_law_due"], [], same1 F5 T ih, m5, k5, b5, .nil⟩
  have T2 : Bt2 mg := ⟨PySem.W.mg_none_of X G z2_sum, PySem.W.mg_none_of X G z2_max, PySem.W.mg_none_of X G z2_min, PySem.W.mg_none_of X G z2_any, PySem.W.mg_none_of X G z2_sorted, PySem.W.mg_none_of X G z2_set⟩
  have FE_BadText := fun_mk (st := s_BadText_init) lI_BadText cI_BadText kI_BadText
  have bE_BadText := FE_BadText.binds (ps := ["self", "place"]) fun _ _ _ _ _ _ us hl => match us, hl with | [_, _], _ => rfl
  have gE_BadText := PySem.W.mg_of X G aE_BadText
  have noE_BadText : ∀ f ∈ (["place"] : List Str), PySem.W.findIn K (.ref Ce_BadText) f = some none := fun f h => by
    simp only [List.mem_cons, List.not_mem_nil, or_false] at h
    rcases h with rfl
    · exact no_place_BadText
  have EC_BadText : ErrC K mg "BadText" Ce_BadText fE_BadText ["place"] := ⟨⟨⟨_, _, _, _, _, _, _, _, _, _, _, _, _, _, _, lE_BadText, rE_BadText⟩, saE_BadText, exE_BadText, tyE_BadText, kE_BadText⟩, gE_BadText, iE_BadText, tE_BadText, noE_BadText, teE_BadText, ⟨gaE_BadText, ggE_BadText, exE_BadText, hdE_BadText⟩, ⟨clE_BadText, gaE_BadText, ggE_BadText, exE_BadText, caE_BadText, spE_BadText, tkE_BadText, obE_BadText⟩⟩
  have ME_BadText : MakE l.prog w K mg base "BadText" Ce_BadText ["place"] := ⟨fE_BadText, _, _, EC_BadText, ok_ei_BadText FE_BadText, bE_BadText⟩
  have FE_BadLine := fun_mk (st := s_BadLine_init) lI_BadLine cI_BadLine kI_BadLine
  have bE_BadLine := FE_BadLine.binds (ps := ["self", "number"]) fun _ _ _ _ _ _ us hl => match us, hl with | [_, _], _ => rfl
  have gE_BadLine := PySem.W.mg_of X G aE_BadLine
  have noE_BadLine : ∀ f ∈ (["number"] : List Str), PySem.W.findIn K (.ref Ce_BadLine) f = some none := fun f h => by
    simp only [List.mem_cons, List.not_mem_nil, or_false] at h
    rcases h with rfl
    · exact no_number_BadLine
  have EC_BadLine : ErrC K mg "BadLine" Ce_BadLine fE_BadLine ["number"] := ⟨⟨⟨_, _, _, _, _, _, _, _, _, _, _, _, _, _, _, lE_BadLine, rE_BadLine⟩, saE_BadLine, exE_BadLine, tyE_BadLine, kE_BadLine⟩, gE_BadLine, iE_BadLine, tE_BadLine, noE_BadLine, teE_BadLine, ⟨gaE_BadLine, ggE_BadLine, exE_BadLine, hdE_BadLine⟩, ⟨clE_BadLine, gaE_BadLine, ggE_BadLine, exE_BadLine, caE_BadLine, spE_BadLine, tkE_BadLine, obE_BadLine⟩⟩
  have ME_BadLine : MakE l.prog w K mg base "BadLine" Ce_BadLine ["number"] := ⟨fE_BadLine, _, _, EC_BadLine, ok_ei_BadLine FE_BadLine, bE_BadLine⟩
  have FE_Crossed := fun_mk (st := s_Crossed_init) lI_Crossed cI_Crossed kI_Crossed
  have bE_Crossed := FE_Crossed.binds (ps := ["self", "low", "high"]) fun _ _ _ _ _ _ us hl => match us, hl with | [_, _, _], _ => rfl
  have gE_Crossed := PySem.W.mg_of X G aE_Crossed
  have noE_Crossed : ∀ f ∈ (["low", "high"] : List Str), PySem.W.findIn K (.ref Ce_Crossed) f = some none := fun f h => by
    simp only [List.mem_cons, List.not_mem_nil, or_false] at h
    rcases h with rfl | rfl
    · exact no_low_Crossed
    · exact no_high_Crossed
  have EC_Crossed : ErrC K mg "Crossed" Ce_Crossed fE_Crossed ["low", "high"] := ⟨⟨⟨_, _, _, _, _, _, _, _, _, _, _, _, _, _, _, lE_Crossed, rE_Crossed⟩, saE_Crossed, exE_Crossed, tyE_Crossed, kE_Crossed⟩, gE_Crossed, iE_Crossed, tE_Crossed, noE_Crossed, teE_Crossed, ⟨gaE_Crossed, ggE_Crossed, exE_Crossed, hdE_Crossed⟩, ⟨clE_Crossed, gaE_Crossed, ggE_Crossed, exE_Crossed, caE_Crossed, spE_Crossed, tkE_Crossed, obE_Crossed⟩⟩
  have ME_Crossed : MakE l.prog w K mg base "Crossed" Ce_Crossed ["low", "high"] := ⟨fE_Crossed, _, _, EC_Crossed, ok_ei_Crossed FE_Crossed, bE_Crossed⟩
  have FE_NoPlace := fun_mk (st := s_NoPlace_init) lI_NoPlace cI_NoPlace kI_NoPlace
  have bE_NoPlace := FE_NoPlace.binds (ps := ["self", "place"]) fun _ _ _ _ _ _ us hl => match us, hl with | [_, _], _ => rfl
  have gE_NoPlace := PySem.W.mg_of X G aE_NoPlace
  have noE_NoPlace : ∀ f ∈ (["place"] : List Str), PySem.W.findIn K (.ref Ce_NoPlace) f = some none := fun f h => by
    simp only [List.mem_cons, List.not_mem_nil, or_false] at h
    rcases h with rfl
    · exact no_place_NoPlace
  have EC_NoPlace : ErrC K mg "NoPlace" Ce_NoPlace fE_NoPlace ["place"] := ⟨⟨⟨_, _, _, _, _, _, _, _, _, _, _, _, _, _, _, lE_NoPlace, rE_NoPlace⟩, saE_NoPlace, exE_NoPlace, tyE_NoPlace, kE_NoPlace⟩, gE_NoPlace, iE_NoPlace, tE_NoPlace, noE_NoPlace, teE_NoPlace, ⟨gaE_NoPlace, ggE_NoPlace, exE_NoPlace, hdE_NoPlace⟩, ⟨clE_NoPlace, gaE_NoPlace, ggE_NoPlace, exE_NoPlace, caE_NoPlace, spE_NoPlace, tkE_NoPlace, obE_NoPlace⟩⟩
  have ME_NoPlace : MakE l.prog w K mg base "NoPlace" Ce_NoPlace ["place"] := ⟨fE_NoPlace, _, _, EC_NoPlace, ok_ei_NoPlace FE_NoPlace, bE_NoPlace⟩
  have FE_NoStarts := fun_mk (st := s_NoStarts_init) lI_NoStarts cI_NoStarts kI_NoStarts
  have bE_NoStarts := FE_NoStarts.binds (ps := ["self", "low", "high"]) fun _ _ _ _ _ _ us hl => match us, hl with | [_, _, _], _ => rfl
  have gE_NoStarts := PySem.W.mg_of X G aE_NoStarts
  have noE_NoStarts : ∀ f ∈ (["low", "high"] : List Str), PySem.W.findIn K (.ref Ce_NoStarts) f = some none := fun f h => by
    simp only [List.mem_cons, List.not_mem_nil, or_false] at h
    rcases h with rfl | rfl
    · exact no_low_NoStarts
    · exact no_high_NoStarts
  have EC_NoStarts : ErrC K mg "NoStarts" Ce_NoStarts fE_NoStarts ["low", "high"] := ⟨⟨⟨_, _, _, _, _, _, _, _, _, _, _, _, _, _, _, lE_NoStarts, rE_NoStarts⟩, saE_NoStarts, exE_NoStarts, tyE_NoStarts, kE_NoStarts⟩, gE_NoStarts, iE_NoStarts, tE_NoStarts, noE_NoStarts, teE_NoStarts, ⟨gaE_NoStarts, ggE_NoStarts, exE_NoStarts, hdE_NoStarts⟩, ⟨clE_NoStarts, gaE_NoStarts, ggE_NoStarts, exE_NoStarts, caE_NoStarts, spE_NoStarts, tkE_NoStarts, obE_NoStarts⟩⟩
  have ME_NoStarts : MakE l.prog w K mg base "NoStarts" Ce_NoStarts ["low", "high"] := ⟨fE_NoStarts, _, _, EC_NoStarts, ok_ei_NoStarts FE_NoStarts, bE_NoStarts⟩
  have FE_NoName := fun_mk (st := s_NoName_init) lI_NoName cI_NoName kI_NoName
  have bE_NoName := FE_NoName.binds (ps := ["self", "name"]) fun _ _ _ _ _ _ us hl => match us, hl with | [_, _], _ => rfl
  have gE_NoName := PySem.W.mg_of X G aE_NoName
  have noE_NoName : ∀ f ∈ (["name"] : List Str), PySem.W.findIn K (.ref Ce_NoName) f = some none := fun f h => by
    simp only [List.mem_cons, List.not_mem_nil, or_false] at h
    rcases h with rfl
    · exact no_name_NoName
  have EC_NoName : ErrC K mg "NoName" Ce_NoName fE_NoName ["name"] := ⟨⟨⟨_, _, _, _, _, _, _, _, _, _, _, _, _, _, _, lE_NoName, rE_NoName⟩, saE_NoName, exE_NoName, tyE_NoName, kE_NoName⟩, gE_NoName, iE_NoName, tE_NoName, noE_NoName, teE_NoName, ⟨gaE_NoName, ggE_NoName, exE_NoName, hdE_NoName⟩, ⟨clE_NoName, gaE_NoName, ggE_NoName, exE_NoName, caE_NoName, spE_NoName, tkE_NoName, obE_NoName⟩⟩
  have ME_NoName : MakE l.prog w K mg base "NoName" Ce_NoName ["name"] := ⟨fE_NoName, _, _, EC_NoName, ok_ei_NoName FE_NoName, bE_NoName⟩
  have FE_Taken := fun_mk (st := s_Taken_init) lI_Taken cI_Taken kI_Taken
  have bE_Taken := FE_Taken.binds (ps := ["self", "name"]) fun _ _ _ _ _ _ us hl => match us, hl with | [_, _], _ => rfl
  have gE_Taken := PySem.W.mg_of X G aE_Taken
  have noE_Taken : ∀ f ∈ (["name"] : List Str), PySem.W.findIn K (.ref Ce_Taken) f = some none := fun f h => by
    simp only [List.mem_cons, List.not_mem_nil, or_false] at h
    rcases h with rfl
    · exact no_name_Taken
  have EC_Taken : ErrC K mg "Taken" Ce_Taken fE_Taken ["name"] := ⟨⟨⟨_, _, _, _, _, _, _, _, _, _, _, _, _, _, _, lE_Taken, rE_Taken⟩, saE_Taken, exE_Taken, tyE_Taken, kE_Taken⟩, gE_Taken, iE_Taken, tE_Taken, noE_Taken, teE_Taken, ⟨gaE_Taken, ggE_Taken, exE_Taken, hdE_Taken⟩, ⟨clE_Taken, gaE_Taken, ggE_Taken, exE_Taken, caE_Taken, spE_Taken, tkE_Taken, obE_Taken⟩⟩
  have ME_Taken : MakE l.prog w K mg base "Taken" Ce_Taken ["name"] := ⟨fE_Taken, _, _, EC_Taken, ok_ei_Taken FE_Taken, bE_Taken⟩
  have FE_Outside := fun_mk (st := s_Outside_init) lI_Outside cI_Outside kI_Outside
  have bE_Outside := FE_Outside.binds (ps := ["self", "number"]) fun _ _ _ _ _ _ us hl => match us, hl with | [_, _], _ => rfl
  have gE_Outside := PySem.W.mg_of X G aE_Outside
  have noE_Outside : ∀ f ∈ (["number"] : List Str), PySem.W.findIn K (.ref Ce_Outside) f = some none := fun f h => by
    simp only [List.mem_cons, List.not_mem_nil, or_false] at h
    rcases h with rfl
    · exact no_number_Outside
  have EC_Outside : ErrC K mg "Outside" Ce_Outside fE_Outside ["number"] := ⟨⟨⟨_, _, _, _, _, _, _, _, _, _, _, _, _, _, _, lE_Outside, rE_Outside⟩, saE_Outside, exE_Outside, tyE_Outside, kE_Outside⟩, gE_Outside, iE_Outside, tE_Outside, noE_Outside, teE_Outside, ⟨gaE_Outside, ggE_Outside, exE_Outside, hdE_Outside⟩, ⟨clE_Outside, gaE_Outside, ggE_Outside, exE_Outside, caE_Outside, spE_Outside, tkE_Outside, obE_Outside⟩⟩
  have ME_Outside : MakE l.prog w K mg base "Outside" Ce_Outside ["number"] := ⟨fE_Outside, _, _, EC_Outside, ok_ei_Outside FE_Outside, bE_Outside⟩
  have FE_Needed := fun_mk (st := s_Needed_init) lI_Needed cI_Needed kI_Needed
  have bE_Needed := FE_Needed.binds (ps := ["self", "name"]) fun _ _ _ _ _ _ us hl => match us, hl with | [_, _], _ => rfl
  have gE_Needed := PySem.W.mg_of X G aE_Needed
  have noE_Needed : ∀ f ∈ (["name"] : List Str), PySem.W.findIn K (.ref Ce_Needed) f = some none := fun f h => by
    simp only [List.mem_cons, List.not_mem_nil, or_false] at h
    rcases h with rfl
    · exact no_name_Needed
  have EC_Needed : ErrC K mg "Needed" Ce_Needed fE_Needed ["name"] := ⟨⟨⟨_, _, _, _, _, _, _, _, _, _, _, _, _, _, _, lE_Needed, rE_Needed⟩, saE_Needed, exE_Needed, tyE_Needed, kE_Needed⟩, gE_Needed, iE_Needed, tE_Needed, noE_Needed, teE_Needed, ⟨gaE_Needed, ggE_Needed, exE_Needed, hdE_Needed⟩, ⟨clE_Needed, gaE_Needed, ggE_Needed, exE_Needed, caE_Needed, spE_Needed, tkE_Needed, obE_Needed⟩⟩
  have ME_Needed : MakE l.prog w K mg base "Needed" Ce_Needed ["name"] := ⟨fE_Needed, _, _, EC_Needed, ok_ei_Needed FE_Needed, bE_Needed⟩
  have FE_Ring := fun_mk (st := s_Ring_init) lI_Ring cI_Ring kI_Ring
  have bE_Ring := FE_Ring.binds (ps := ["self", "name"]) fun _ _ _ _ _ _ us hl => match us, hl with | [_, _], _ => rfl
  have gE_Ring := PySem.W.mg_of X G aE_Ring
  have noE_Ring : ∀ f ∈ (["name"] : List Str), PySem.W.findIn K (.ref Ce_Ring) f = some none := fun f h => by
    simp only [List.mem_cons, List.not_mem_nil, or_false] at h
    rcases h with rfl
    · exact no_name_Ring
  have EC_Ring : ErrC K mg "Ring" Ce_Ring fE_Ring ["name"] := ⟨⟨⟨_, _, _, _, _, _, _, _, _, _, _, _, _, _, _, lE_Ring, rE_Ring⟩, saE_Ring, exE_Ring, tyE_Ring, kE_Ring⟩, gE_Ring, iE_Ring, tE_Ring, noE_Ring, teE_Ring, ⟨gaE_Ring, ggE_Ring, exE_Ring, hdE_Ring⟩, ⟨clE_Ring, gaE_Ring, ggE_Ring, exE_Ring, caE_Ring, spE_Ring, tkE_Ring, obE_Ring⟩⟩
  have ME_Ring : MakE l.prog w K mg base "Ring" Ce_Ring ["name"] := ⟨fE_Ring, _, _, EC_Ring, ok_ei_Ring FE_Ring, bE_Ring⟩
  have FE_NotBehind := fun_mk (st := s_NotBehind_init) lI_NotBehind cI_NotBehind kI_NotBehind
  have bE_NotBehind := FE_NotBehind.binds (ps := ["self", "other"]) fun _ _ _ _ _ _ us hl => match us, hl with | [_, _], _ => rfl
  have gE_NotBehind := PySem.W.mg_of X G aE_NotBehind
  have noE_NotBehind : ∀ f ∈ (["other"] : List Str), PySem.W.findIn K (.ref Ce_NotBehind) f = some none := fun f h => by
    simp only [List.mem_cons, List.not_mem_nil, or_false] at h
    rcases h with rfl
    · exact no_other_NotBehind
  have EC_NotBehind : ErrC K mg "NotBehind" Ce_NotBehind fE_NotBehind ["other"] := ⟨⟨⟨_, _, _, _, _, _, _, _, _, _, _, _, _, _, _, lE_NotBehind, rE_NotBehind⟩, saE_NotBehind, exE_NotBehind, tyE_NotBehind, kE_NotBehind⟩, gE_NotBehind, iE_NotBehind, tE_NotBehind, noE_NotBehind, teE_NotBehind, ⟨gaE_NotBehind, ggE_NotBehind, exE_NotBehind, hdE_NotBehind⟩, ⟨clE_NotBehind, gaE_NotBehind, ggE_NotBehind, exE_NotBehind, caE_NotBehind, spE_NotBehind, tkE_NotBehind, obE_NotBehind⟩⟩
  have ME_NotBehind : MakE l.prog w K mg base "NotBehind" Ce_NotBehind ["other"] := ⟨fE_NotBehind, _, _, EC_NotBehind, ok_ei_NotBehind FE_NotBehind, bE_NotBehind⟩
  have gE_NoShift := PySem.W.mg_of X G aE_NoShift
  have EC_NoShift : Err0 K mg "NoShift" Ce_NoShift := ⟨xcE_NoShift, gE_NoShift, kE_NoShift, exE_NoShift, tyE_NoShift, teE_NoShift, ⟨clE_NoShift, gaE_NoShift, ggE_NoShift, exE_NoShift, caE_NoShift, spE_NoShift, tkE_NoShift, obE_NoShift⟩⟩
  have e0_NoShift : Mke0 K mg "NoShift" := ⟨Ce_NoShift, aE_NoShift, EC_NoShift⟩
  have xi_NoShift := EC_NoShift.xi
  have gE_NothingDone := PySem.W.mg_of X G aE_NothingDone
  have EC_NothingDone : Err0 K mg "NothingDone" Ce_NothingDone := ⟨xcE_NothingDone, gE_NothingDone, kE_NothingDone, exE_NothingDone, tyE_NothingDone, teE_NothingDone, ⟨clE_NothingDone, gaE_NothingDone, ggE_NothingDone, exE_NothingDone, caE_NothingDone, spE_NothingDone, tkE_NothingDone, obE_NothingDone⟩⟩
  have e0_NothingDone : Mke0 K mg "NothingDone" := ⟨Ce_NothingDone, aE_NothingDone, EC_NothingDone⟩
  have xi_NothingDone := EC_NothingDone.xi
  have gE_Unlike := PySem.W.mg_of X G aE_Unlike
  have EC_Unlike : Err0 K mg "Unlike" Ce_Unlike := ⟨xcE_Unlike, gE_Unlike, kE_Unlike, exE_Unlike, tyE_Unlike, teE_Unlike, ⟨clE_Unlike, gaE_Unlike, ggE_Unlike, exE_Unlike, caE_Unlike, spE_Unlike, tkE_Unlike, obE_Unlike⟩⟩
  have e0_Unlike : Mke0 K mg "Unlike" := ⟨Ce_Unlike, aE_Unlike, EC_Unlike⟩
  have xi_Unlike := EC_Unlike.xi
  have gE_Gainsaid := PySem.W.mg_of X G aE_Gainsaid
  have EC_Gainsaid : Err0 K mg "Gainsaid" Ce_Gainsaid := ⟨xcE_Gainsaid, gE_Gainsaid, kE_Gainsaid, exE_Gainsaid, tyE_Gainsaid, teE_Gainsaid, ⟨clE_Gainsaid, gaE_Gainsaid, ggE_Gainsaid, exE_Gainsaid, caE_Gainsaid, spE_Gainsaid, tkE_Gainsaid, obE_Gainsaid⟩⟩
  have e0_Gainsaid : Mke0 K mg "Gainsaid" := ⟨Ce_Gainsaid, aE_Gainsaid, EC_Gainsaid⟩
  have xi_Gainsaid := EC_Gainsaid.xi
  have e1_BadText : Mke1 l.prog w K mg base "BadText" ["place"] := ⟨Ce_BadText, fE_BadText, _, _, aE_BadText, EC_BadText, ok_ei_BadText FE_BadText, bE_BadText⟩
  have xi_BadText := EC_BadText.xi
  have at_BadText_place : AtE K "BadText" "place" := ⟨Ce_BadText, aE_BadText, EC_BadText.xf, no_place_BadText⟩
  have e1_BadLine : Mke1 l.prog w K mg base "BadLine" ["number"] := ⟨Ce_BadLine, fE_BadLine, _, _, aE_BadLine, EC_BadLine, ok_ei_BadLine FE_BadLine, bE_BadLine⟩
  have xi_BadLine := EC_BadLine.xi
  have at_BadLine_number : AtE K "BadLine" "number" := ⟨Ce_BadLine, aE_BadLine, EC_BadLine.xf, no_number_BadLine⟩
  have e1_Crossed : Mke1 l.prog w K mg base "Crossed" ["low", "high"] := ⟨Ce_Crossed, fE_Crossed, _, _, aE_Crossed, EC_Crossed, ok_ei_Crossed FE_Crossed, bE_Crossed⟩
  have xi_Crossed := EC_Crossed.xi
  have at_Crossed_low : AtE K "Crossed" "low" := ⟨Ce_Crossed, aE_Crossed, EC_Crossed.xf, no_low_Crossed⟩
  have at_Crossed_high : AtE K "Crossed" "high" := ⟨Ce_Crossed, aE_Crossed, EC_Crossed.xf, no_high_Crossed⟩
  have e1_NoPlace : Mke1 l.prog w K mg base "NoPlace" ["place"] := ⟨Ce_NoPlace, fE_NoPlace, _, _, aE_NoPlace, EC_NoPlace, ok_ei_NoPlace FE_NoPlace, bE_NoPlace⟩
  have xi_NoPlace := EC_NoPlace.xi
  have at_NoPlace_place : AtE K "NoPlace" "place" := ⟨Ce_NoPlace, aE_NoPlace, EC_NoPlace.xf, no_place_NoPlace⟩
  have e1_NoStarts : Mke1 l.prog w K mg base "NoStarts" ["low", "high"] := ⟨Ce_NoStarts, fE_NoStarts, _, _, aE_NoStarts, EC_NoStarts, ok_ei_NoStarts FE_NoStarts, bE_NoStarts⟩
  have xi_NoStarts := EC_NoStarts.xi
  have at_NoStarts_low : AtE K "NoStarts" "low" := ⟨Ce_NoStarts, aE_NoStarts, EC_NoStarts.xf, no_low_NoStarts⟩
  have at_NoStarts_high : AtE K "NoStarts" "high" := ⟨Ce_NoStarts, aE_NoStarts, EC_NoStarts.xf, no_high_NoStarts⟩
  have e1_NoName : Mke1 l.prog w K mg base "NoName" ["name"] := ⟨Ce_NoName, fE_NoName, _, _, aE_NoName, EC_NoName, ok_ei_NoName FE_NoName, bE_NoName⟩
  have xi_NoName := EC_NoName.xi
  have at_NoName_name : AtE K "NoName" "name" := ⟨Ce_NoName, aE_NoName, EC_NoName.xf, no_name_NoName⟩
  have e1_Taken : Mke1 l.prog w K mg base "Taken" ["name"] := ⟨Ce_Taken, fE_Taken, _, _, aE_Taken, EC_Taken, ok_ei_Taken FE_Taken, bE_Taken⟩
  have xi_Taken := EC_Taken.xi
  have at_Taken_name : AtE K "Taken" "name" := ⟨Ce_Taken, aE_Taken, EC_Taken.xf, no_name_Taken⟩
  have e1_Outside : Mke1 l.prog w K mg base "Outside" ["number"] := ⟨Ce_Outside, fE_Outside, _, _, aE_Outside, EC_Outside, ok_ei_Outside FE_Outside, bE_Outside⟩
  have xi_Outside := EC_Outside.xi
  have at_Outside_number : AtE K "Outside" "number" := ⟨Ce_Outside, aE_Outside, EC_Outside.xf, no_number_Outside⟩
  have e1_Needed : Mke1 l.prog w K mg base "Needed" ["name"] := ⟨Ce_Needed, fE_Needed, _, _, aE_Needed, EC_Needed, ok_ei_Needed FE_Needed, bE_Needed⟩
  have xi_Needed := EC_Needed.xi
  have at_Needed_name : AtE K "Needed" "name" := ⟨Ce_Needed, aE_Needed, EC_Needed.xf, no_name_Needed⟩
  have e1_Ring : Mke1 l.prog w K mg base "Ring" ["name"] := ⟨Ce_Ring, fE_Ring, _, _, aE_Ring, EC_Ring, ok_ei_Ring FE_Ring, bE_Ring⟩
  have xi_Ring := EC_Ring.xi
  have at_Ring_name : AtE K "Ring" "name" := ⟨Ce_Ring, aE_Ring, EC_Ring.xf, no_name_Ring⟩
  have e1_NotBehind : Mke1 l.prog w K mg base "NotBehind" ["other"] := ⟨Ce_NotBehind, fE_NotBehind, _, _, aE_NotBehind, EC_NotBehind, ok_ei_NotBehind FE_NotBehind, bE_NotBehind⟩
  have xi_NotBehind := EC_NotBehind.xi
  have at_NotBehind_other : AtE K "NotBehind" "other" := ⟨Ce_NotBehind, aE_NotBehind, EC_NotBehind.xf, no_other_NotBehind⟩
  have lle := PySem.W.mg_of X G aLE
  have lve := PySem.W.mg_none_of X G zVE
  have is_BadText : IsE K mg "BadText" tab_BadText := ⟨Ce_BadText, gE_BadText, (lk_cons ⟨Ce_BadText, aE_BadText, xi_BadText, ki_BadText_BadText⟩ (lk_cons ⟨Ce_BadLine, aE_BadLine, xi_BadLine, ki_BadLine_BadText⟩ (lk_cons ⟨Ce_Crossed, aE_Crossed, xi_Crossed, ki_Crossed_BadText⟩ (lk_cons ⟨Ce_NoShift, aE_NoShift, xi_NoShift, ki_NoShift_BadText⟩ (lk_cons ⟨Ce_NoPlace, aE_NoPlace, xi_NoPlace, ki_NoPlace_BadText⟩ (lk_cons ⟨Ce_NothingDone, aE_NothingDone, xi_NothingDone, ki_NothingDone_BadText⟩ (lk_cons ⟨Ce_Unlike, aE_Unlike, xi_Unlike, ki_Unlike_BadText⟩ (lk_cons ⟨Ce_NoStarts, aE_NoStarts, xi_NoStarts, ki_NoStarts_BadText⟩ (lk_cons ⟨Ce_Gainsaid, aE_Gainsaid, xi_Gainsaid, ki_Gainsaid_BadText⟩ (lk_cons ⟨Ce_NoName, aE_NoName, xi_NoName, ki_NoName_BadText⟩ (lk_cons ⟨Ce_Taken, aE_Taken, xi_Taken, ki_Taken_BadText⟩ (lk_cons ⟨Ce_Outside, aE_Outside, xi_Outside, ki_Outside_BadText⟩ (lk_cons ⟨Ce_Needed, aE_Needed, xi_Needed, ki_Needed_BadText⟩ (lk_cons ⟨Ce_Ring, aE_Ring, xi_Ring, ki_Ring_BadText⟩ (lk_cons ⟨Ce_NotBehind, aE_NotBehind, xi_NotBehind, ki_NotBehind_BadText⟩ lk_nil)))))))))))))))⟩
  have is_BadLine : IsE K mg "BadLine" tab_BadLine := ⟨Ce_BadLine, gE_BadLine, (lk_cons ⟨Ce_BadText, aE_BadText, xi_BadText, ki_BadText_BadLine⟩ (lk_cons ⟨Ce_BadLine, aE_BadLine, xi_BadLine, ki_BadLine_BadLine⟩ (lk_cons ⟨Ce_Crossed, aE_Crossed, xi_Crossed, ki_Crossed_BadLine⟩ (lk_cons ⟨Ce_NoShift, aE_NoShift, xi_NoShift, ki_NoShift_BadLine⟩ (lk_cons ⟨Ce_NoPlace, aE_NoPlace, xi_NoPlace, ki_NoPlace_BadLine⟩ (lk_cons ⟨Ce_NothingDone, aE_NothingDone, xi_NothingDone, ki_NothingDone_BadLine⟩ (lk_cons ⟨Ce_Unlike, aE_Unlike, xi_Unlike, ki_Unlike_BadLine⟩ (lk_cons ⟨Ce_NoStarts, aE_NoStarts, xi_NoStarts, ki_NoStarts_BadLine⟩ (lk_cons ⟨Ce_Gainsaid, aE_Gainsaid, xi_Gainsaid, ki_Gainsaid_BadLine⟩ (lk_cons ⟨Ce_NoName, aE_NoName, xi_NoName, ki_NoName_BadLine⟩ (lk_cons ⟨Ce_Taken, aE_Taken, xi_Taken, ki_Taken_BadLine⟩ (lk_cons ⟨Ce_Outside, aE_Outside, xi_Outside, ki_Outside_BadLine⟩ (lk_cons ⟨Ce_Needed, aE_Needed, xi_Needed, ki_Needed_BadLine⟩ (lk_cons ⟨Ce_Ring, aE_Ring, xi_Ring, ki_Ring_BadLine⟩ (lk_cons ⟨Ce_NotBehind, aE_NotBehind, xi_NotBehind, ki_NotBehind_BadLine⟩ lk_nil)))))))))))))))⟩
  have is_Crossed : IsE K mg "Crossed" tab_Crossed := ⟨Ce_Crossed, gE_Crossed, (lk_cons ⟨Ce_BadText, aE_BadText, xi_BadText, ki_BadText_Crossed⟩ (lk_cons ⟨Ce_BadLine, aE_BadLine, xi_BadLine, ki_BadLine_Crossed⟩ (lk_cons ⟨Ce_Crossed, aE_Crossed, xi_Crossed, ki_Crossed_Crossed⟩ (lk_cons ⟨Ce_NoShift, aE_NoShift, xi_NoShift, ki_NoShift_Crossed⟩ (lk_cons ⟨Ce_NoPlace, aE_NoPlace, xi_NoPlace, ki_NoPlace_Crossed⟩ (lk_cons ⟨Ce_NothingDone, aE_NothingDone, xi_NothingDone, ki_NothingDone_Crossed⟩ (lk_cons ⟨Ce_Unlike, aE_Unlike, xi_Unlike, ki_Unlike_Crossed⟩ (lk_cons ⟨Ce_NoStarts, aE_NoStarts, xi_NoStarts, ki_NoStarts_Crossed⟩ (lk_cons ⟨Ce_Gainsaid, aE_Gainsaid, xi_Gainsaid, ki_Gainsaid_Crossed⟩ (lk_cons ⟨Ce_NoName, aE_NoName, xi_NoName, ki_NoName_Crossed⟩ (lk_cons ⟨Ce_Taken, aE_Taken, xi_Taken, ki_Taken_Crossed⟩ (lk_cons ⟨Ce_Outside, aE_Outside, xi_Outside, ki_Outside_Crossed⟩ (lk_cons ⟨Ce_Needed, aE_Needed, xi_Needed, ki_Needed_Crossed⟩ (lk_cons ⟨Ce_Ring, aE_Ring, xi_Ring, ki_Ring_Crossed⟩ (lk_cons ⟨Ce_NotBehind, aE_NotBehind, xi_NotBehind, ki_NotBehind_Crossed⟩ lk_nil)))))))))))))))⟩
  have is_NoShift : IsE K mg "NoShift" tab_NoShift := ⟨Ce_NoShift, gE_NoShift, (lk_cons ⟨Ce_BadText, aE_BadText, xi_BadText, ki_BadText_NoShift⟩ (lk_cons ⟨Ce_BadLine, aE_BadLine, xi_BadLine, ki_BadLine_NoShift⟩ (lk_cons ⟨Ce_Crossed, aE_Crossed, xi_Crossed, ki_Crossed_NoShift⟩ (lk_cons ⟨Ce_NoShift, aE_NoShift, xi_NoShift, ki_NoShift_NoShift⟩ (lk_cons ⟨Ce_NoPlace, aE_NoPlace, xi_NoPlace, ki_NoPlace_NoShift⟩ (lk_cons ⟨Ce_NothingDone, aE_NothingDone, xi_NothingDone, ki_NothingDone_NoShift⟩ (lk_cons ⟨Ce_Unlike, aE_Unlike, xi_Unlike, ki_Unlike_NoShift⟩ (lk_cons ⟨Ce_NoStarts, aE_NoStarts, xi_NoStarts, ki_NoStarts_NoShift⟩ (lk_cons ⟨Ce_Gainsaid, aE_Gainsaid, xi_Gainsaid, ki_Gainsaid_NoShift⟩ (lk_cons ⟨Ce_NoName, aE_NoName, xi_NoName, ki_NoName_NoShift⟩ (lk_cons ⟨Ce_Taken, aE_Taken, xi_Taken, ki_Taken_NoShift⟩ (lk_cons ⟨Ce_Outside, aE_Outside, xi_Outside, ki_Outside_NoShift⟩ (lk_cons ⟨Ce_Needed, aE_Needed, xi_Needed, ki_Needed_NoShift⟩ (lk_cons ⟨Ce_Ring, aE_Ring, xi_Ring, ki_Ring_NoShift⟩ (lk_cons ⟨Ce_NotBehind, aE_NotBehind, xi_NotBehind, ki_NotBehind_NoShift⟩ lk_nil)))))))))))))))⟩
  have is_NoPlace : IsE K mg "NoPlace" tab_NoPlace := ⟨Ce_NoPlace, gE_NoPlace, (lk_cons ⟨Ce_BadText, aE_BadText, xi_BadText, ki_BadText_NoPlace⟩ (lk_cons ⟨Ce_BadLine, aE_BadLine, xi_BadLine, ki_BadLine_NoPlace⟩ (lk_cons ⟨Ce_Crossed, aE_Crossed, xi_Crossed, ki_Crossed_NoPlace⟩ (lk_cons ⟨Ce_NoShift, aE_NoShift, xi_NoShift, ki_NoShift_NoPlace⟩ (lk_cons ⟨Ce_NoPlace, aE_NoPlace, xi_NoPlace, ki_NoPlace_NoPlace⟩ (lk_cons ⟨Ce_NothingDone, aE_NothingDone, xi_NothingDone, ki_NothingDone_NoPlace⟩ (lk_cons ⟨Ce_Unlike, aE_Unlike, xi_Unlike, ki_Unlike_NoPlace⟩ (lk_cons ⟨Ce_NoStarts, aE_NoStarts, xi_NoStarts, ki_NoStarts_NoPlace⟩ (lk_cons ⟨Ce_Gainsaid, aE_Gainsaid, xi_Gainsaid, ki_Gainsaid_NoPlace⟩ (lk_cons ⟨Ce_NoName, aE_NoName, xi_NoName, ki_NoName_NoPlace⟩ (lk_cons ⟨Ce_Taken, aE_Taken, xi_Taken, ki_Taken_NoPlace⟩ (lk_cons ⟨Ce_Outside, aE_Outside, xi_Outside, ki_Outside_NoPlace⟩ (lk_cons ⟨Ce_Needed, aE_Needed, xi_Needed, ki_Needed_NoPlace⟩ (lk_cons ⟨Ce_Ring, aE_Ring, xi_Ring, ki_Ring_NoPlace⟩ (lk_cons ⟨Ce_NotBehind, aE_NotBehind, xi_NotBehind, ki_NotBehind_NoPlace⟩ lk_nil)))))))))))))))⟩
  have is_NothingDone : IsE K mg "NothingDone" tab_NothingDone := ⟨Ce_NothingDone, gE_NothingDone, (lk_cons ⟨Ce_BadText, aE_BadText, xi_BadText, ki_BadText_NothingDone⟩ (lk_cons ⟨Ce_BadLine, aE_BadLine, xi_BadLine, ki_BadLine_NothingDone⟩ (lk_cons ⟨Ce_Crossed, aE_Crossed, xi_Crossed, ki_Crossed_NothingDone⟩ (lk_cons ⟨Ce_NoShift, aE_NoShift, xi_NoShift, ki_NoShift_NothingDone⟩ (lk_cons ⟨Ce_NoPlace, aE_NoPlace, xi_NoPlace, ki_NoPlace_NothingDone⟩ (lk_cons ⟨Ce_NothingDone, aE_NothingDone, xi_NothingDone, ki_NothingDone_NothingDone⟩ (lk_cons ⟨Ce_Unlike, aE_Unlike, xi_Unlike, ki_Unlike_NothingDone⟩ (lk_cons ⟨Ce_NoStarts, aE_NoStarts, xi_NoStarts, ki_NoStarts_NothingDone⟩ (lk_cons ⟨Ce_Gainsaid, aE_Gainsaid, xi_Gainsaid, ki_Gainsaid_NothingDone⟩ (lk_cons ⟨Ce_NoName, aE_NoName, xi_NoName, ki_NoName_NothingDone⟩ (lk_cons ⟨Ce_Taken, aE_Taken, xi_Taken, ki_Taken_NothingDone⟩ (lk_cons ⟨Ce_Outside, aE_Outside, xi_Outside, ki_Outside_NothingDone⟩ (lk_cons ⟨Ce_Needed, aE_Needed, xi_Needed, ki_Needed_NothingDone⟩ (lk_cons ⟨Ce_Ring, aE_Ring, xi_Ring, ki_Ring_NothingDone⟩ (lk_cons ⟨Ce_NotBehind, aE_NotBehind, xi_NotBehind, ki_NotBehind_NothingDone⟩ lk_nil)))))))))))))))⟩
  have is_Unlike : IsE K mg "Unlike" tab_Unlike := ⟨Ce_Unlike, gE_Unlike, (lk_cons ⟨Ce_BadText, aE_BadText, xi_BadText, ki_BadText_Unlike⟩ (lk_cons ⟨Ce_BadLine, aE_BadLine, xi_BadLine, ki_BadLine_Unlike⟩ (lk_cons ⟨Ce_Crossed, aE_Crossed, xi_Crossed, ki_Crossed_Unlike⟩ (lk_cons ⟨Ce_NoShift, aE_NoShift, xi_NoShift, ki_NoShift_Unlike⟩ (lk_cons ⟨Ce_NoPlace, aE_NoPlace, xi_NoPlace, ki_NoPlace_Unlike⟩ (lk_cons ⟨Ce_NothingDone, aE_NothingDone, xi_NothingDone, ki_NothingDone_Unlike⟩ (lk_cons ⟨Ce_Unlike, aE_Unlike, xi_Unlike, ki_Unlike_Unlike⟩ (lk_cons ⟨Ce_NoStarts, aE_NoStarts, xi_NoStarts, ki_NoStarts_Unlike⟩ (lk_cons ⟨Ce_Gainsaid, aE_Gainsaid, xi_Gainsaid, ki_Gainsaid_Unlike⟩ (lk_cons ⟨Ce_NoName, aE_NoName, xi_NoName, ki_NoName_Unlike⟩ (lk_cons ⟨Ce_Taken, aE_Taken, xi_Taken, ki_Taken_Unlike⟩ (lk_cons ⟨Ce_Outside, aE_Outside, xi_Outside, ki_Outside_Unlike⟩ (lk_cons ⟨Ce_Needed, aE_Needed, xi_Needed, ki_Needed_Unlike⟩ (lk_cons ⟨Ce_Ring, aE_Ring, xi_Ring, ki_Ring_Unlike⟩ (lk_cons ⟨Ce_NotBehind, aE_NotBehind, xi_NotBehind, ki_NotBehind_Unlike⟩ lk_nil)))))))))))))))⟩
  have is_NoStarts : IsE K mg "NoStarts" tab_NoStarts := ⟨Ce_NoStarts, gE_NoStarts, (lk_cons ⟨Ce_BadText, aE_BadText, xi_BadText, ki_BadText_NoStarts⟩ (lk_cons ⟨Ce_BadLine, aE_BadLine, xi_BadLine, ki_BadLine_NoStarts⟩ (lk_cons ⟨Ce_Crossed, aE_Crossed, xi_Crossed, ki_Crossed_NoStarts⟩ (lk_cons ⟨Ce_NoShift, aE_NoShift, xi_NoShift, ki_NoShift_NoStarts⟩ (lk_cons ⟨Ce_NoPlace, aE_NoPlace, xi_NoPlace, ki_NoPlace_NoStarts⟩ (lk_cons ⟨Ce_NothingDone, aE_NothingDone, xi_NothingDone, ki_NothingDone_NoStarts⟩ (lk_cons ⟨Ce_Unlike, aE_Unlike, xi_Unlike, ki_Unlike_NoStarts⟩ (lk_cons ⟨Ce_NoStarts, aE_NoStarts, xi_NoStarts, ki_NoStarts_NoStarts⟩ (lk_cons ⟨Ce_Gainsaid, aE_Gainsaid, xi_Gainsaid, ki_Gainsaid_NoStarts⟩ (lk_cons ⟨Ce_NoName, aE_NoName, xi_NoName, ki_NoName_NoStarts⟩ (lk_cons ⟨Ce_Taken, aE_Taken, xi_Taken, ki_Taken_NoStarts⟩ (lk_cons ⟨Ce_Outside, aE_Outside, xi_Outside, ki_Outside_NoStarts⟩ (lk_cons ⟨Ce_Needed, aE_Needed, xi_Needed, ki_Needed_NoStarts⟩ (lk_cons ⟨Ce_Ring, aE_Ring, xi_Ring, ki_Ring_NoStarts⟩ (lk_cons ⟨Ce_NotBehind, aE_NotBehind, xi_NotBehind, ki_NotBehind_NoStarts⟩ lk_nil)))))))))))))))⟩
  have is_Gainsaid : IsE K mg "Gainsaid" tab_Gainsaid := ⟨Ce_Gainsaid, gE_Gainsaid, (lk_cons ⟨Ce_BadText, aE_BadText, xi_BadText, ki_BadText_Gainsaid⟩ (lk_cons ⟨Ce_BadLine, aE_BadLine, xi_BadLine, ki_BadLine_Gainsaid⟩ (lk_cons ⟨Ce_Crossed, aE_Crossed, xi_Crossed, ki_Crossed_Gainsaid⟩ (lk_cons ⟨Ce_NoShift, aE_NoShift, xi_NoShift, ki_NoShift_Gainsaid⟩ (lk_cons ⟨Ce_NoPlace, aE_NoPlace, xi_NoPlace, ki_NoPlace_Gainsaid⟩ (lk_cons ⟨Ce_NothingDone, aE_NothingDone, xi_NothingDone, ki_NothingDone_Gainsaid⟩ (lk_cons ⟨Ce_Unlike, aE_Unlike, xi_Unlike, ki_Unlike_Gainsaid⟩ (lk_cons ⟨Ce_NoStarts, aE_NoStarts, xi_NoStarts, ki_NoStarts_Gainsaid⟩ (lk_cons ⟨Ce_Gainsaid, aE_Gainsaid, xi_Gainsaid, ki_Gainsaid_Gainsaid⟩ (lk_cons ⟨Ce_NoName, aE_NoName, xi_NoName, ki_NoName_Gainsaid⟩ (lk_cons ⟨Ce_Taken, aE_Taken, xi_Taken, ki_Taken_Gainsaid⟩ (lk_cons ⟨Ce_Outside, aE_Outside, xi_Outside, ki_Outside_Gainsaid⟩ (lk_cons ⟨Ce_Needed, aE_Needed, xi_Needed, ki_Needed_Gainsaid⟩ (lk_cons ⟨Ce_Ring, aE_Ring, xi_Ring, ki_Ring_Gainsaid⟩ (lk_cons ⟨Ce_NotBehind, aE_NotBehind, xi_NotBehind, ki_NotBehind_Gainsaid⟩ lk_nil)))))))))))))))⟩
  have is_NoName : IsE K mg "NoName" tab_NoName := ⟨Ce_NoName, gE_NoName, (lk_cons ⟨Ce_BadText, aE_BadText, xi_BadText, ki_BadText_NoName⟩ (lk_cons ⟨Ce_BadLine, aE_BadLine, xi_BadLine, ki_BadLine_NoName⟩ (lk_cons ⟨Ce_Crossed, aE_Crossed, xi_Crossed, ki_Crossed_NoName⟩ (lk_cons ⟨Ce_NoShift, aE_NoShift, xi_NoShift, ki_NoShift_NoName⟩ (lk_cons ⟨Ce_NoPlace, aE_NoPlace, xi_NoPlace, ki_NoPlace_NoName⟩ (lk_cons ⟨Ce_NothingDone, aE_NothingDone, xi_NothingDone, ki_NothingDone_NoName⟩ (lk_cons ⟨Ce_Unlike, aE_Unlike, xi_Unlike, ki_Unlike_NoName⟩ (lk_cons ⟨Ce_NoStarts, aE_NoStarts, xi_NoStarts, ki_NoStarts_NoName⟩ (lk_cons ⟨Ce_Gainsaid, aE_Gainsaid, xi_Gainsaid, ki_Gainsaid_NoName⟩ (lk_cons ⟨Ce_NoName, aE_NoName, xi_NoName, ki_NoName_NoName⟩ (lk_cons ⟨Ce_Taken, aE_Taken, xi_Taken, ki_Taken_NoName⟩ (lk_cons ⟨Ce_Outside, aE_Outside, xi_Outside, ki_Outside_NoName⟩ (lk_cons ⟨Ce_Needed, aE_Needed, xi_Needed, ki_Needed_NoName⟩ (lk_cons ⟨Ce_Ring, aE_Ring, xi_Ring, ki_Ring_NoName⟩ (lk_cons ⟨Ce_NotBehind, aE_NotBehind, xi_NotBehind, ki_NotBehind_NoName⟩ lk_nil)))))))))))))))⟩
  have is_Taken : IsE K mg "Taken" tab_Taken := ⟨Ce_Taken, gE_Taken, (lk_cons ⟨Ce_BadText, aE_BadText, xi_BadText, ki_BadText_Taken⟩ (lk_cons ⟨Ce_BadLine, aE_BadLine, xi_BadLine, ki_BadLine_Taken⟩ (lk_cons ⟨Ce_Crossed, aE_Crossed, xi_Crossed, ki_Crossed_Taken⟩ (lk_cons ⟨Ce_NoShift, aE_NoShift, xi_NoShift, ki_NoShift_Taken⟩ (lk_cons ⟨Ce_NoPlace, aE_NoPlace, xi_NoPlace, ki_NoPlace_Taken⟩ (lk_cons ⟨Ce_NothingDone, aE_NothingDone, xi_NothingDone, ki_NothingDone_Taken⟩ (lk_cons ⟨Ce_Unlike, aE_Unlike, xi_Unlike, ki_Unlike_Taken⟩ (lk_cons ⟨Ce_NoStarts, aE_NoStarts, xi_NoStarts, ki_NoStarts_Taken⟩ (lk_cons ⟨Ce_Gainsaid, aE_Gainsaid, xi_Gainsaid, ki_Gainsaid_Taken⟩ (lk_cons ⟨Ce_NoName, aE_NoName, xi_NoName, ki_NoName_Taken⟩ (lk_cons ⟨Ce_Taken, aE_Taken, xi_Taken, ki_Taken_Taken⟩ (lk_cons ⟨Ce_Outside, aE_Outside, xi_Outside, ki_Outside_Taken⟩ (lk_cons ⟨Ce_Needed, aE_Needed, xi_Needed, ki_Needed_Taken⟩ (lk_cons ⟨Ce_Ring, aE_Ring, xi_Ring, ki_Ring_Taken⟩ (lk_cons ⟨Ce_NotBehind, aE_NotBehind, xi_NotBehind, ki_NotBehind_Taken⟩ lk_nil)))))))))))))))⟩
  have is_Outside : IsE K mg "Outside" tab_Outside := ⟨Ce_Outside, gE_Outside, (lk_cons ⟨Ce_BadText, aE_BadText, xi_BadText, ki_BadText_Outside⟩ (lk_cons ⟨Ce_BadLine, aE_BadLine, xi_BadLine, ki_BadLine_Outside⟩ (lk_cons ⟨Ce_Crossed, aE_Crossed, xi_Crossed, ki_Crossed_Outside⟩ (lk_cons ⟨Ce_NoShift, aE_NoShift, xi_NoShift, ki_NoShift_Outside⟩ (lk_cons ⟨Ce_NoPlace, aE_NoPlace, xi_NoPlace, ki_NoPlace_Outside⟩ (lk_cons ⟨Ce_NothingDone, aE_NothingDone, xi_NothingDone, ki_NothingDone_Outside⟩ (lk_cons ⟨Ce_Unlike, aE_Unlike, xi_Unlike, ki_Unlike_Outside⟩ (lk_cons ⟨Ce_NoStarts, aE_NoStarts, xi_NoStarts, ki_NoStarts_Outside⟩ (lk_cons ⟨Ce_Gainsaid, aE_Gainsaid, xi_Gainsaid, ki_Gainsaid_Outside⟩ (lk_cons ⟨Ce_NoName, aE_NoName, xi_NoName, ki_NoName_Outside⟩ (lk_cons ⟨Ce_Taken, aE_Taken, xi_Taken, ki_Taken_Outside⟩ (lk_cons ⟨Ce_Outside, aE_Outside, xi_Outside, ki_Outside_Outside⟩ (lk_cons ⟨Ce_Needed, aE_Needed, xi_Needed, ki_Needed_Outside⟩ (lk_cons ⟨Ce_Ring, aE_Ring, xi_Ring, ki_Ring_Outside⟩ (lk_cons ⟨Ce_NotBehind, aE_NotBehind, xi_NotBehind, ki_NotBehind_Outside⟩ lk_nil)))))))))))))))⟩
  have is_Needed : IsE K mg "Needed" tab_Needed := ⟨Ce_Needed, gE_Needed, (lk_cons ⟨Ce_BadText, aE_BadText, xi_BadText, ki_BadText_Needed⟩ (lk_cons ⟨Ce_BadLine, aE_BadLine, xi_BadLine, ki_BadLine_Needed⟩ (lk_cons ⟨Ce_Crossed, aE_Crossed, xi_Crossed, ki_Crossed_Needed⟩ (lk_cons ⟨Ce_NoShift, aE_NoShift, xi_NoShift, ki_NoShift_Needed⟩ (lk_cons ⟨Ce_NoPlace, aE_NoPlace, xi_NoPlace, ki_NoPlace_Needed⟩ (lk_cons ⟨Ce_NothingDone, aE_NothingDone, xi_NothingDone, ki_NothingDone_Needed⟩ (lk_cons ⟨Ce_Unlike, aE_Unlike, xi_Unlike, ki_Unlike_Needed⟩ (lk_cons ⟨Ce_NoStarts, aE_NoStarts, xi_NoStarts, ki_NoStarts_Needed⟩ (lk_cons ⟨Ce_Gainsaid, aE_Gainsaid, xi_Gainsaid, ki_Gainsaid_Needed⟩ (lk_cons ⟨Ce_NoName, aE_NoName, xi_NoName, ki_NoName_Needed⟩ (lk_cons ⟨Ce_Taken, aE_Taken, xi_Taken, ki_Taken_Needed⟩ (lk_cons ⟨Ce_Outside, aE_Outside, xi_Outside, ki_Outside_Needed⟩ (lk_cons ⟨Ce_Needed, aE_Needed, xi_Needed, ki_Needed_Needed⟩ (lk_cons ⟨Ce_Ring, aE_Ring, xi_Ring, ki_Ring_Needed⟩ (lk_cons ⟨Ce_NotBehind, aE_NotBehind, xi_NotBehind, ki_NotBehind_Needed⟩ lk_nil)))))))))))))))⟩
  have is_Ring : IsE K mg "Ring" tab_Ring := ⟨Ce_Ring, gE_Ring, (lk_cons ⟨Ce_BadText, aE_BadText, xi_BadText, ki_BadText_Ring⟩ (lk_cons ⟨Ce_BadLine, aE_BadLine, xi_BadLine, ki_BadLine_Ring⟩ (lk_cons ⟨Ce_Crossed, aE_Crossed, xi_Crossed, ki_Crossed_Ring⟩ (lk_cons ⟨Ce_NoShift, aE_NoShift, xi_NoShift, ki_NoShift_Ring⟩ (lk_cons ⟨Ce_NoPlace, aE_NoPlace, xi_NoPlace, ki_NoPlace_Ring⟩ (lk_cons ⟨Ce_NothingDone, aE_NothingDone, xi_NothingDone, ki_NothingDone_Ring⟩ (lk_cons ⟨Ce_Unlike, aE_Unlike, xi_Unlike, ki_Unlike_Ring⟩ (lk_cons ⟨Ce_NoStarts, aE_NoStarts, xi_NoStarts, ki_NoStarts_Ring⟩ (lk_cons ⟨Ce_Gainsaid, aE_Gainsaid, xi_Gainsaid, ki_Gainsaid_Ring⟩ (lk_cons ⟨Ce_NoName, aE_NoName, xi_NoName, ki_NoName_Ring⟩ (lk_cons ⟨Ce_Taken, aE_Taken, xi_Taken, ki_Taken_Ring⟩ (lk_cons ⟨Ce_Outside, aE_Outside, xi_Outside, ki_Outside_Ring⟩ (lk_cons ⟨Ce_Needed, aE_Needed, xi_Needed, ki_Needed_Ring⟩ (lk_cons ⟨Ce_Ring, aE_Ring, xi_Ring, ki_Ring_Ring⟩ (lk_cons ⟨Ce_NotBehind, aE_NotBehind, xi_NotBehind, ki_NotBehind_Ring⟩ lk_nil)))))))))))))))⟩
  have is_NotBehind : IsE K mg "NotBehind" tab_NotBehind := ⟨Ce_NotBehind, gE_NotBehind, (lk_cons ⟨Ce_BadText, aE_BadText, xi_BadText, ki_BadText_NotBehind⟩ (lk_cons ⟨Ce_BadLine, aE_BadLine, xi_BadLine, ki_BadLine_NotBehind⟩ (lk_cons ⟨Ce_Crossed, aE_Crossed, xi_Crossed, ki_Crossed_NotBehind⟩ (lk_cons ⟨Ce_NoShift, aE_NoShift, xi_NoShift, ki_NoShift_NotBehind⟩ (lk_cons ⟨Ce_NoPlace, aE_NoPlace, xi_NoPlace, ki_NoPlace_NotBehind⟩ (lk_cons ⟨Ce_NothingDone, aE_NothingDone, xi_NothingDone, ki_NothingDone_NotBehind⟩ (lk_cons ⟨Ce_Unlike, aE_Unlike, xi_Unlike, ki_Unlike_NotBehind⟩ (lk_cons ⟨Ce_NoStarts, aE_NoStarts, xi_NoStarts, ki_NoStarts_NotBehind⟩ (lk_cons ⟨Ce_Gainsaid, aE_Gainsaid, xi_Gainsaid, ki_Gainsaid_NotBehind⟩ (lk_cons ⟨Ce_NoName, aE_NoName, xi_NoName, ki_NoName_NotBehind⟩ (lk_cons ⟨Ce_Taken, aE_Taken, xi_Taken, ki_Taken_NotBehind⟩ (lk_cons ⟨Ce_Outside, aE_Outside, xi_Outside, ki_Outside_NotBehind⟩ (lk_cons ⟨Ce_Needed, aE_Needed, xi_Needed, ki_Needed_NotBehind⟩ (lk_cons ⟨Ce_Ring, aE_Ring, xi_Ring, ki_Ring_NotBehind⟩ (lk_cons ⟨Ce_NotBehind, aE_NotBehind, xi_NotBehind, ki_NotBehind_NotBehind⟩ lk_nil)))))))))))))))⟩
  have is_LevelError : IsE K mg "LevelError" tab_LevelError := ⟨Cl, lle, (lk_cons ⟨Ce_BadText, aE_BadText, xi_BadText, ki_BadText_LevelError⟩ (lk_cons ⟨Ce_BadLine, aE_BadLine, xi_BadLine, ki_BadLine_LevelError⟩ (lk_cons ⟨Ce_Crossed, aE_Crossed, xi_Crossed, ki_Crossed_LevelError⟩ (lk_cons ⟨Ce_NoShift, aE_NoShift, xi_NoShift, ki_NoShift_LevelError⟩ (lk_cons ⟨Ce_NoPlace, aE_NoPlace, xi_NoPlace, ki_NoPlace_LevelError⟩ (lk_cons ⟨Ce_NothingDone, aE_NothingDone, xi_NothingDone, ki_NothingDone_LevelError⟩ (lk_cons ⟨Ce_Unlike, aE_Unlike, xi_Unlike, ki_Unlike_LevelError⟩ (lk_cons ⟨Ce_NoStarts, aE_NoStarts, xi_NoStarts, ki_NoStarts_LevelError⟩ (lk_cons ⟨Ce_Gainsaid, aE_Gainsaid, xi_Gainsaid, ki_Gainsaid_LevelError⟩ (lk_cons ⟨Ce_NoName, aE_NoName, xi_NoName, ki_NoName_LevelError⟩ (lk_cons ⟨Ce_Taken, aE_Taken, xi_Taken, ki_Taken_LevelError⟩ (lk_cons ⟨Ce_Outside, aE_Outside, xi_Outside, ki_Outside_LevelError⟩ (lk_cons ⟨Ce_Needed, aE_Needed, xi_Needed, ki_Needed_LevelError⟩ (lk_cons ⟨Ce_Ring, aE_Ring, xi_Ring, ki_Ring_LevelError⟩ (lk_cons ⟨Ce_NotBehind, aE_NotBehind, xi_NotBehind, ki_NotBehind_LevelError⟩ lk_nil)))))))))))))))⟩
  have ib_ValueError : IsEB K mg "ValueError" tab_ValueError := ⟨lve, (lk_cons ⟨Ce_BadText, aE_BadText, xi_BadText, ki_BadText_ValueError⟩ (lk_cons ⟨Ce_BadLine, aE_BadLine, xi_BadLine, ki_BadLine_ValueError⟩ (lk_cons ⟨Ce_Crossed, aE_Crossed, xi_Crossed, ki_Crossed_ValueError⟩ (lk_cons ⟨Ce_NoShift, aE_NoShift, xi_NoShift, ki_NoShift_ValueError⟩ (lk_cons ⟨Ce_NoPlace, aE_NoPlace, xi_NoPlace, ki_NoPlace_ValueError⟩ (lk_cons ⟨Ce_NothingDone, aE_NothingDone, xi_NothingDone, ki_NothingDone_ValueError⟩ (lk_cons ⟨Ce_Unlike, aE_Unlike, xi_Unlike, ki_Unlike_ValueError⟩ (lk_cons ⟨Ce_NoStarts, aE_NoStarts, xi_NoStarts, ki_NoStarts_ValueError⟩ (lk_cons ⟨Ce_Gainsaid, aE_Gainsaid, xi_Gainsaid, ki_Gainsaid_ValueError⟩ (lk_cons ⟨Ce_NoName, aE_NoName, xi_NoName, ki_NoName_ValueError⟩ (lk_cons ⟨Ce_Taken, aE_Taken, xi_Taken, ki_Taken_ValueError⟩ (lk_cons ⟨Ce_Outside, aE_Outside, xi_Outside, ki_Outside_ValueError⟩ (lk_cons ⟨Ce_Needed, aE_Needed, xi_Needed, ki_Needed_ValueError⟩ (lk_cons ⟨Ce_Ring, aE_Ring, xi_Ring, ki_Ring_ValueError⟩ (lk_cons ⟨Ce_NotBehind, aE_NotBehind, xi_NotBehind, ki_NotBehind_ValueError⟩ lk_nil)))))))))))))))⟩
  have ek_BadLine_number : MkeK l.prog w K mg base "BadLine" ["number"] ["number"] [0] := ⟨Ce_BadLine, fE_BadLine, _, _, aE_BadLine, EC_BadLine, ok_ei_BadLine FE_BadLine, ⟨fun s us ws _ h1 h2 => match us, ws, h1, h2 with | [_], [_], _, _ => .of_eq rfl, fun r1 r2 => r1.append (prm_rel r2 _)⟩⟩
  have ek_BadText_place : MkeK l.prog w K mg base "BadText" ["place"] ["place"] [0] := ⟨Ce_BadText, fE_BadText, _, _, aE_BadText, EC_BadText, ok_ei_BadText FE_BadText, ⟨fun s us ws _ h1 h2 => match us, ws, h1, h2 with | [_], [_], _, _ => .of_eq rfl, fun r1 r2 => r1.append (prm_rel r2 _)⟩⟩
  have ek_Crossed_high_low : MkeK l.prog w K mg base "Crossed" ["low", "high"] ["high", "low"] [1, 0] := ⟨Ce_Crossed, fE_Crossed, _, _, aE_Crossed, EC_Crossed, ok_ei_Crossed FE_Crossed, ⟨fun s us ws _ h1 h2 => match us, ws, h1, h2 with | [_], [_, _], _, _ => .of_eq rfl, fun r1 r2 => r1.append (prm_rel r2 _)⟩⟩
  have ek_Needed_name : MkeK l.prog w K mg base "Needed" ["name"] ["name"] [0] := ⟨Ce_Needed, fE_Needed, _, _, aE_Needed, EC_Needed, ok_ei_Needed FE_Needed, ⟨fun s us ws _ h1 h2 => match us, ws, h1, h2 with | [_], [_], _, _ => .of_eq rfl, fun r1 r2 => r1.append (prm_rel r2 _)⟩⟩
  have ek_NoName_name : MkeK l.prog w K mg base "NoName" ["name"] ["name"] [0] := ⟨Ce_NoName, fE_NoName, _, _, aE_NoName, EC_NoName, ok_ei_NoName FE_NoName, ⟨fun s us ws _ h1 h2 => match us, ws, h1, h2 with | [_], [_], _, _ => .of_eq rfl, fun r1 r2 => r1.append (prm_rel r2 _)⟩⟩
  have ek_NoPlace_place : MkeK l.prog w K mg base "NoPlace" ["place"] ["place"] [0] := ⟨Ce_NoPlace, fE_NoPlace, _, _, aE_NoPlace, EC_NoPlace, ok_ei_NoPlace FE_NoPlace, ⟨fun s us ws _ h1 h2 => match us, ws, h1, h2 with | [_], [_], _, _ => .of_eq rfl, fun r1 r2 => r1.append (prm_rel r2 _)⟩⟩
  have ek_NoStarts_high_low : MkeK l.prog w K mg base "NoStarts" ["low", "high"] ["high", "low"] [1, 0] := ⟨Ce_NoStarts, fE_NoStarts, _, _, aE_NoStarts, EC_NoStarts, ok_ei_NoStarts FE_NoStarts, ⟨fun s us ws _ h1 h2 => match us, ws, h1, h2 with | [_], [_, _], _, _ => .of_eq rfl, fun r1 r2 => r1.append (prm_rel r2 _)⟩⟩
  have ek_NotBehind_other : MkeK l.prog w K mg base "NotBehind" ["other"] ["other"] [0] := ⟨Ce_NotBehind, fE_NotBehind, _, _, aE_NotBehind, EC_NotBehind, ok_ei_NotBehind FE_NotBehind, ⟨fun s us ws _ h1 h2 => match us, ws, h1, h2 with | [_], [_], _, _ => .of_eq rfl, fun r1 r2 => r1.append (prm_rel r2 _)⟩⟩
  have ek_Outside_number : MkeK l.prog w K mg base "Outside" ["number"] ["number"] [0] := ⟨Ce_Outside, fE_Outside, _, _, aE_Outside, EC_Outside, ok_ei_Outside FE_Outside, ⟨fun s us ws _ h1 h2 => match us, ws, h1, h2 with | [_], [_], _, _ => .of_eq rfl, fun r1 r2 => r1.append (prm_rel r2 _)⟩⟩
  have ek_Ring_name : MkeK l.prog w K mg base "Ring" ["name"] ["name"] [0] := ⟨Ce_Ring, fE_Ring, _, _, aE_Ring, EC_Ring, ok_ei_Ring FE_Ring, ⟨fun s us ws _ h1 h2 => match us, ws, h1, h2 with | [_], [_], _, _ => .of_eq rfl, fun r1 r2 => r1.append (prm_rel r2 _)⟩⟩
  have ek_Taken_name : MkeK l.prog w K mg base "Taken" ["name"] ["name"] [0] := ⟨Ce_Taken, fE_Taken, _, _, aE_Taken, EC_Taken, ok_ei_Taken FE_Taken, ⟨fun s us ws _ h1 h2 => match us, ws, h1, h2 with | [_], [_], _, _ => .of_eq rfl, fun r1 r2 => r1.append (prm_rel r2 _)⟩⟩
  have c__law_cells : Cal l.prog w K mg base 1 "_law_cells" (spCells K) [] := ⟨_, _, ["_law_script", "_law_top_so"], [], ok_cells F3 T, m3, k3, b3, .nil⟩
  have c__law_box : Cal l.prog w K mg base 1 "_law_box" (spM K C m_law_box) [] := ⟨_, _, ["_law_script", "_law_k"], [], ok_law_box F1 T, m1, k1, b1, .nil⟩
  have c__law_take : Cal l.prog w K mg base 1 "_law_take" (spM K C m_law_take) [] := ⟨_, _, ["_law_box_here", "_law_size_so"], [], ok_law_take F2 T, m2, k2, b2, .nil⟩
  have c__law_pick : Cal l.prog w K mg base 2 "_law_pick" (spM K C m_law_pick) [] := ⟨_, _, ["_law_box_here", "_law_goods_so", "_law_count_so"], [], ok_law_pick F4 T T2 c__law_take, m4, k4, b4, .nil⟩
  have c__law_sorts : Cal l.prog w K mg base 1 "_law_sorts" (spM K C m_law_sorts) [] := ⟨_, _, ["_law_caught"], [], ok_law_sorts F6 T is_BadLine is_BadText is_Crossed is_Gainsaid is_Needed is_NoName is_NoPlace is_NoShift is_NoStarts is_NotBehind is_NothingDone is_Outside is_Ring is_Taken is_Unlike, m6, k6, b6, .nil⟩
  have c__law_right : Cal l.prog w K mg base 5 "_law_right" (spM K C m_law_right) [] := ⟨_, _, ["_law_box_here"], [], ok_law_right F7 T at_BadLine_number at_BadText_place at_Crossed_high at_Crossed_low at_Needed_name at_NoName_name at_NoPlace_place at_NoStarts_high at_NoStarts_low at_NotBehind_other at_Outside_number at_Ring_name at_Taken_name e0_Gainsaid e0_NoShift e0_NothingDone e0_Unlike e1_BadLine e1_BadText e1_Crossed e1_Needed e1_NoName e1_NoPlace e1_NoStarts e1_NotBehind e1_Outside e1_Ring e1_Taken ek_BadLine_number ek_BadText_place ek_Crossed_high_low ek_Needed_name ek_NoName_name ek_NoPlace_place ek_NoStarts_high_low ek_NotBehind_other ek_Outside_number ek_Ring_name ek_Taken_name ib_ValueError is_LevelError c__law_pick (same 4) c__law_sorts c__law_take, m7, k7, b7, .nil⟩
  exact ok_law F8 T c__law_cells c__law_box c__law_right  right00
end BL
open PySem PySem.W PyProof.Rows
set_option maxRecDepth 100000 in
set_option maxHeartbeats 0 in
theorem PySem.Challenge.cw_boundedlevels_k00_errors_holds : PySem.Challenge.rw_boundedlevels_k00_errors.Holds := by
  w_on; o_law; k_head; (case hw => w_witness2)
  k_fill
  refine L2.walk_of (l := PySem.Challenge.rw_boundedlevels_k00_errors) (n := 63) (k := 6) (x := "_law_script") (CX := fun _ => L2.CX0) (sp := fun w => BL.spLaw _) rfl (by decide) rfl ⟨rfl, by decide, by decide⟩ (fun w h Y => PySem.W.kIn_of Y) ?F (fun _ _ a ns hl _ hS => ⟨a, ns, rfl, hS, hl, fun _ => rfl⟩) (fun _ _ _ _ _ h => h)
  case F =>
    intro w mg fa h KX G hmg
    refine' BL.all_mk KX G hmg ?a1 ?l1 ?c1 ?k1 ?a2 ?l2 ?c2 ?k2 ?a3 ?l3 ?c3 ?k3 ?a4 ?l4 ?c4 ?k4 ?a5 ?l5 ?c5 ?k5 ?a6 ?l6 ?c6 ?k6 ?a7 ?l7 ?c7 ?k7 ?a8 ?l8 ?c8 ?k8 ?z2_sum ?z2_max ?z2_min ?z2_any ?z2_sorted ?z2_set ?aE_BadText ?lE_BadText ?rE_BadText ?saE_BadText ?exE_BadText ?tyE_BadText ?kE_BadText ?iE_BadText ?tE_BadText ?teE_BadText ?gaE_BadText ?ggE_BadText ?hdE_BadText ?clE_BadText ?caE_BadText ?spE_BadText ?tkE_BadText ?obE_BadText ?lI_BadText ?cI_BadText ?kI_BadText ?no_place_BadText ?aE_BadLine ?lE_BadLine ?rE_BadLine ?saE_BadLine ?exE_BadLine ?tyE_BadLine ?kE_BadLine ?iE_BadLine ?tE_BadLine ?teE_BadLine ?gaE_BadLine ?ggE_BadLine ?hdE_BadLine ?clE_BadLine ?caE_BadLine ?spE_BadLine ?tkE_BadLine ?obE_BadLine ?lI_BadLine ?cI_BadLine ?kI_BadLine ?no_number_BadLine ?aE_Crossed ?lE_Crossed ?rE_Crossed ?saE_Crossed ?exE_Crossed ?tyE_Crossed ?kE_Crossed ?iE_Crossed ?tE_Crossed ?teE_Crossed ?gaE_Crossed ?ggE_Crossed ?hdE_Crossed ?clE_Crossed ?caE_Crossed ?spE_Crossed ?tkE_Crossed ?obE_Crossed ?lI_Crossed ?cI_Crossed ?kI_Crossed ?no_low_Crossed ?no_high_Crossed ?aE_NoPlace ?lE_NoPlace ?rE_NoPlace ?saE_NoPlace ?exE_NoPlace ?tyE_NoPlace ?kE_NoPlace ?iE_NoPlace ?tE_NoPlace ?teE_NoPlace ?gaE_NoPlace ?ggE_NoPlace ?hdE_NoPlace ?clE_NoPlace ?caE_NoPlace ?spE_NoPlace ?tkE_NoPlace ?obE_NoPlace ?lI_NoPlace ?cI_NoPlace ?kI_NoPlace ?no_place_NoPlace ?aE_NoStarts ?lE_NoStarts ?rE_NoStarts ?saE_NoStarts ?exE_NoStarts ?tyE_NoStarts ?kE_NoStarts ?iE_NoStarts ?tE_NoStarts ?teE_NoStarts ?gaE_NoStarts ?ggE_NoStarts ?hdE_NoStarts ?clE_NoStarts ?caE_NoStarts ?spE_NoStarts ?tkE_NoStarts ?obE_NoStarts ?lI_NoStarts ?cI_NoStarts ?kI_NoStarts ?no_low_NoStarts ?no_high_NoStarts ?aE_NoName ?lE_NoName ?rE_NoName ?saE_NoName ?exE_NoName ?tyE_NoName ?kE_NoName ?iE_NoName ?tE_NoName ?teE_NoName ?gaE_NoName ?ggE_NoName ?hdE_NoName ?clE_NoName ?caE_NoName ?spE_NoName ?tkE_NoName ?obE_NoName ?lI_NoName ?cI_NoName ?kI_NoName ?no_name_NoName ?aE_Taken ?lE_Taken ?rE_Taken ?saE_Taken ?exE_Taken ?tyE_Taken ?kE_Taken ?iE_Taken ?tE_Taken ?teE_Taken ?gaE_Taken ?ggE_Taken ?hdE_Taken ?clE_Taken ?caE_Taken ?spE_Taken ?tkE_Taken ?obE_Taken ?lI_Taken ?cI_Taken ?kI_Taken ?no_name_Taken ?aE_Outside ?lE_Outside ?rE_Outside ?saE_Outside ?exE_Outside ?tyE_Outside ?kE_Outside ?iE_Outside ?tE_Outside ?teE_Outside ?gaE_Outside ?ggE_Outside ?hdE_Outside ?clE_Outside ?caE_Outside ?spE_Outside ?tkE_Outside ?obE_Outside ?lI_Outside ?cI_Outside ?kI_Outside ?no_number_Outside ?aE_Needed ?lE_Needed ?rE_Needed ?saE_Needed ?exE_Needed ?tyE_Needed ?kE_Needed ?iE_Needed ?tE_Needed ?teE_Needed ?gaE_Needed ?ggE_Needed ?hdE_Needed ?clE_Needed ?caE_Needed ?spE_Needed ?tkE_Needed ?obE_Needed ?lI_Needed ?cI_Needed ?kI_Needed ?no_name_Needed ?aE_Ring ?lE_Ring ?rE_Ring ?saE_Ring ?exE_Ring ?tyE_Ring ?kE_Ring ?iE_Ring ?tE_Ring ?teE_Ring ?gaE_Ring ?ggE_Ring ?hdE_Ring ?clE_Ring ?caE_Ring ?spE_Ring ?tkE_Ring ?obE_Ring ?lI_Ring ?cI_Ring ?kI_Ring ?no_name_Ring ?aE_NotBehind ?lE_NotBehind ?rE_NotBehind ?saE_NotBehind ?exE_NotBehind ?tyE_NotBehind ?kE_NotBehind ?iE_NotBehind ?tE_NotBehind ?teE_NotBehind ?gaE_NotBehind ?ggE_NotBehind ?hdE_NotBehind ?clE_NotBehind ?caE_NotBehind ?spE_NotBehind ?tkE_NotBehind ?obE_NotBehind ?lI_NotBehind ?cI_NotBehind ?kI_NotBehind ?no_other_NotBehind ?aE_NoShift ?xcE_NoShift ?kE_NoShift ?exE_NoShift ?tyE_NoShift ?teE_NoShift ?clE_NoShift ?gaE_NoShift ?ggE_NoShift ?caE_NoShift ?spE_NoShift ?tkE_NoShift ?obE_NoShift ?aE_NothingDone ?xcE_NothingDone ?kE_NothingDone ?exE_NothingDone ?tyE_NothingDone ?teE_NothingDone ?clE_NothingDone ?gaE_NothingDone ?ggE_NothingDone ?caE_NothingDone ?spE_NothingDone ?tkE_NothingDone ?obE_NothingDone ?aE_Unlike ?xcE_Unlike ?kE_Unlike ?exE_Unlike ?tyE_Unlike ?teE_Unlike ?clE_Unlike ?gaE_Unlike ?ggE_Unlike ?caE_Unlike ?spE_Unlike ?tkE_Unlike ?obE_Unlike ?aE_Gainsaid ?xcE_Gainsaid ?kE_Gainsaid ?exE_Gainsaid ?tyE_Gainsaid ?teE_Gainsaid ?clE_Gainsaid ?gaE_Gainsaid ?ggE_Gainsaid ?caE_Gainsaid ?spE_Gainsaid ?tkE_Gainsaid ?obE_Gainsaid ?aLE ?zVE ?ki_BadText_BadText ?ki_BadLine_BadText ?ki_Crossed_BadText ?ki_NoShift_BadText ?ki_NoPlace_BadText ?ki_NothingDone_BadText ?ki_Unlike_BadText ?ki_NoStarts_BadText ?ki_Gainsaid_BadText ?ki_NoName_BadText ?ki_Taken_BadText ?ki_Outside_BadText ?ki_Needed_BadText ?ki_Ring_BadText ?ki_NotBehind_BadText ?ki_BadText_BadLine ?ki_BadLine_BadLine ?ki_Crossed_BadLine ?ki_NoShift_BadLine ?ki_NoPlace_BadLine ?ki_NothingDone_BadLine ?ki_Unlike_BadLine ?ki_NoStarts_BadLine ?ki_Gainsaid_BadLine ?ki_NoName_BadLine ?ki_Taken_BadLine ?ki_Outside_BadLine ?ki_Needed_BadLine ?ki_Ring_BadLine ?ki_NotBehind_BadLine ?ki_BadText_Crossed ?ki_BadLine_Crossed ?ki_Crossed_Crossed ?ki_NoShift_Crossed ?ki_NoPlace_Crossed ?ki_NothingDone_Crossed ?ki_Unlike_Crossed ?ki_NoStarts_Crossed ?ki_Gainsaid_Crossed ?ki_NoName_Crossed ?ki_Taken_Crossed ?ki_Outside_Crossed ?ki_Needed_Crossed ?ki_Ring_Crossed ?ki_NotBehind_Crossed ?ki_BadText_NoShift ?ki_BadLine_NoShift ?ki_Crossed_NoShift ?ki_NoShift_NoShift ?ki_NoPlace_NoShift ?ki_NothingDone_NoShift ?ki_Unlike_NoShift ?ki_NoStarts_NoShift ?ki_Gainsaid_NoShift ?ki_NoName_NoShift ?ki_Taken_NoShift ?ki_Outside_NoShift ?ki_Needed_NoShift ?ki_Ring_NoShift ?ki_NotBehind_NoShift ?ki_BadText_NoPlace ?ki_BadLine_NoPlace ?ki_Crossed_NoPlace ?ki_NoShift_NoPlace ?ki_NoPlace_NoPlace ?ki_NothingDone_NoPlace ?ki_Unlike_NoPlace ?ki_NoStarts_NoPlace ?ki_Gainsaid_NoPlace ?ki_NoName_NoPlace ?ki_Taken_NoPlace ?ki_Outside_NoPlace ?ki_Needed_NoPlace ?ki_Ring_NoPlace ?ki_NotBehind_NoPlace ?ki_BadText_NothingDone ?ki_BadLine_NothingDone ?ki_Crossed_NothingDone ?ki_NoShift_NothingDone ?ki_NoPlace_NothingDone ?ki_NothingDone_NothingDone ?ki_Unlike_NothingDone ?ki_NoStarts_NothingDone ?ki_Gainsaid_NothingDone ?ki_NoName_NothingDone ?ki_Taken_NothingDone ?ki_Outside_NothingDone ?ki_Needed_NothingDone ?ki_Ring_NothingDone ?ki_NotBehind_NothingDone ?ki_BadText_Unlike ?ki_BadLine_Unlike ?ki_Crossed_Unlike ?ki_NoShift_Unlike ?ki_NoPlace_Unlike ?ki_NothingDone_Unlike ?ki_Unlike_Unlike ?ki_NoStarts_Unlike ?ki_Gainsaid_Unlike ?ki_NoName_Unlike ?ki_Taken_Unlike ?ki_Outside_Unlike ?ki_Needed_Unlike ?ki_Ring_Unlike ?ki_NotBehind_Unlike ?ki_BadText_NoStarts ?ki_BadLine_NoStarts ?ki_Crossed_NoStarts ?ki_NoShift_NoStarts ?ki_NoPlace_NoStarts ?ki_NothingDone_NoStarts ?ki_Unlike_NoStarts ?ki_NoStarts_NoStarts ?ki_Gainsaid_NoStarts ?ki_NoName_NoStarts ?ki_Taken_NoStarts ?ki_Outside_NoStarts ?ki_Needed_NoStarts ?ki_Ring_NoStarts ?ki_NotBehind_NoStarts ?ki_BadText_Gainsaid ?ki_BadLine_Gainsaid ?ki_Crossed_Gainsaid ?ki_NoShift_Gainsaid ?ki_NoPlace_Gainsaid ?ki_NothingDone_Gainsaid ?ki_Unlike_Gainsaid ?ki_NoStarts_Gainsaid ?ki_Gainsaid_Gainsaid ?ki_NoName_Gainsaid ?ki_Taken_Gainsaid ?ki_Outside_Gainsaid ?ki_Needed_Gainsaid ?ki_Ring_Gainsaid ?ki_NotBehind_Gainsaid ?ki_BadText_NoName ?ki_BadLine_NoName ?ki_Crossed_NoName ?ki_NoShift_NoName ?ki_NoPlace_NoName ?ki_NothingDone_NoName ?ki_Unlike_NoName ?ki_NoStarts_NoName ?ki_Gainsaid_NoName ?ki_NoName_NoName ?ki_Taken_NoName ?ki_Outside_NoName ?ki_Needed_NoName ?ki_Ring_NoName ?ki_NotBehind_NoName ?ki_BadText_Taken ?ki_BadLine_Taken ?ki_Crossed_Taken ?ki_NoShift_Taken ?ki_NoPlace_Taken ?ki_NothingDone_Taken ?ki_Unlike_Taken ?ki_NoStarts_Taken ?ki_Gainsaid_Taken ?ki_NoName_Taken ?ki_Taken_Taken ?ki_Outside_Taken ?ki_Needed_Taken ?ki_Ring_Taken ?ki_NotBehind_Taken ?ki_BadText_Outside ?ki_BadLine_Outside ?ki_Crossed_Outside ?ki_NoShift_Outside ?ki_NoPlace_Outside ?ki_NothingDone_Outside ?ki_Unlike_Outside ?ki_NoStarts_Outside ?ki_Gainsaid_Outside ?ki_NoName_Outside ?ki_Taken_Outside ?ki_Outside_Outside ?ki_Needed_Outside ?ki_Ring_Outside ?ki_NotBehind_Outside ?ki_BadText_Needed ?ki_BadLine_Needed ?ki_Crossed_Needed ?ki_NoShift_Needed ?ki_NoPlace_Needed ?ki_NothingDone_Needed ?ki_Unlike_Needed ?ki_NoStarts_Needed ?ki_Gainsaid_Needed ?ki_NoName_Needed ?ki_Taken_Needed ?ki_Outside_Needed ?ki_Needed_Needed ?ki_Ring_Needed ?ki_NotBehind_Needed ?ki_BadText_Ring ?ki_BadLine_Ring ?ki_Crossed_Ring ?ki_NoShift_Ring ?ki_NoPlace_Ring ?ki_NothingDone_Ring ?ki_Unlike_Ring ?ki_NoStarts_Ring ?ki_Gainsaid_Ring ?ki_NoName_Ring ?ki_Taken_Ring ?ki_Outside_Ring ?ki_Needed_Ring ?ki_Ring_Ring ?ki_NotBehind_Ring ?ki_BadText_NotBehind ?ki_BadLine_NotBehind ?ki_Crossed_NotBehind ?ki_NoShift_NotBehind ?ki_NoPlace_NotBehind ?ki_NothingDone_NotBehind ?ki_Unlike_NotBehind ?ki_NoStarts_NotBehind ?ki_Gainsaid_NotBehind ?ki_NoName_NotBehind ?ki_Taken_NotBehind ?ki_Outside_NotBehind ?ki_Needed_NotBehind ?ki_Ring_NotBehind ?ki_NotBehind_NotBehind ?ki_BadText_LevelError ?ki_BadLine_LevelError ?ki_Crossed_LevelError ?ki_NoShift_LevelError ?ki_NoPlace_LevelError ?ki_NothingDone_LevelError ?ki_Unlike_LevelError ?ki_NoStarts_LevelError ?ki_Gainsaid_LevelError ?ki_NoName_LevelError ?ki_Taken_LevelError ?ki_Outside_LevelError ?ki_Needed_LevelError ?ki_Ring_LevelError ?ki_NotBehind_LevelError ?ki_BadText_ValueError ?ki_BadLine_ValueError ?ki_Crossed_ValueError ?ki_NoShift_ValueError ?ki_NoPlace_ValueError ?ki_NothingDone_ValueError ?ki_Unlike_ValueError ?ki_NoStarts_ValueError ?ki_Gainsaid_ValueError ?ki_NoName_ValueError ?ki_Taken_ValueError ?ki_Outside_ValueError ?ki_Needed_ValueError ?ki_Ring_ValueError ?ki_NotBehind_ValueError ?z_len ?z_abs ?z_int ?z_list ?z_enumerate ?z_range ?z_all ?z_zip ?z_tuple ?z_isinstance ?z_bool ?z_str
    (case a1 => first | k_is | rfl)
    (case l1 => first | k_is | rfl)
    (case c1 => first | k_is | rfl)
    (case k1 => first | k_is | rfl)
    (case a2 => first | k_is | rfl)
    (case l2 => first | k_is | rfl)
    (case c2 => first | k_is | rfl)
    (case k2 => first | k_is | rfl)
    (case a3 => first | k_is | rfl)
    (case l3 => first | k_is | rfl)
    (case c3 => first | k_is | rfl)
    (case k3 => first | k_is | rfl)
    (case a4 => first | k_is | rfl)
    (case l4 => first | k_is | rfl)
    (case c4 => first | k_is | rfl)
    (case k4 => first | k_is | rfl)
    (case a5 => first | k_is | rfl)
    (case l5 => first | k_is | rfl)
    (case c5 => first | k_is | rfl)
    (case k5 => first | k_is | rfl)
    (case a6 => first | k_is | rfl)
    (case l6 => first | k_is | rfl)
    (case c6 => first | k_is | rfl)
    (case k6 => first | k_is | rfl)
    (case a7 => first | k_is | rfl)
    (case l7 => first | k_is | rfl)
    (case c7 => first | k_is | rfl)
    (case k7 => first | k_is | rfl)
    (case a8 => first | k_is | rfl)
    (case l8 => first | k_is | rfl)
    (case c8 => first | k_is | rfl)
    (case k8 => first | k_is | rfl)
    (case z2_sum => first | k_is | rfl)
    (case z2_max => first | k_is | rfl)
    (case z2_min => first | k_is | rfl)
    (case z2_any => first | k_is | rfl)
    (case z2_sorted => first | k_is | rfl)
    (case z2_set => first | k_is | rfl)
    (case aE_BadText => first | k_is | rfl)
    (case lE_BadText => first | k_is | rfl)
    (case rE_BadText => first | k_is | rfl)
    (case saE_BadText => first | k_is | rfl)
    (case exE_BadText => first | k_is | rfl)
    (case tyE_BadText => first | k_is | rfl)
    (case kE_BadText => first | k_is | rfl)
    (case iE_BadText => first | k_is | rfl)
    (case tE_BadText => first | k_is | rfl)
    (case teE_BadText => first | k_is | rfl)
    (case gaE_BadText => first | k_is | rfl)
    (case ggE_BadText => first | k_is | rfl)
    (case hdE_BadText => first | k_is | rfl)
    (case clE_BadText => first | k_is | rfl)
    (case caE_BadText => first | k_is | rfl)
    (case spE_BadText => first | k_is | rfl)
    (case tkE_BadText => first | k_is | rfl)
    (case obE_BadText => first | k_is | rfl)
    (case lI_BadText => first | k_is | rfl)
    (case cI_BadText => first | k_is | rfl)
    (case kI_BadText => first | k_is | rfl)
    (case no_place_BadText => first | k_is | rfl)
    (case aE_BadLine => first | k_is | rfl)
    (case lE_BadLine => first | k_is | rfl)
    (case rE_BadLine => first | k_is | rfl)
    (case saE_BadLine => first | k_is | rfl)
    (case exE_BadLine => first | k_is | rfl)
    (case tyE_BadLine => first | k_is | rfl)
    (case kE_BadLine => first | k_is | rfl)
    (case iE_BadLine => first | k_is | rfl)
    (case tE_BadLine => first | k_is | rfl)
    (case teE_BadLine => first | k_is | rfl)
    (case gaE_BadLine => first | k_is | rfl)
    (case ggE_BadLine => first | k_is | rfl)
    (case hdE_BadLine => first | k_is | rfl)
    (case clE_BadLine => first | k_is | rfl)
    (case caE_BadLine => first | k_is | rfl)
    (case spE_BadLine => first | k_is | rfl)
    (case tkE_BadLine => first | k_is | rfl)
    (case obE_BadLine => first | k_is | rfl)
    (case lI_BadLine => first | k_is | rfl)
    (case cI_BadLine => first | k_is | rfl)
    (case kI_BadLine => first | k_is | rfl)
    (case no_number_BadLine => first | k_is | rfl)
    (case aE_Crossed => first | k_is | rfl)
    (case lE_Crossed => first | k_is | rfl)
    (case rE_Crossed => first | k_is | rfl)
    (case saE_Crossed => first | k_is | rfl)
    (case exE_Crossed => first | k_is | rfl)
    (case tyE_Crossed => first | k_is | rfl)
    (case kE_Crossed => first | k_is | rfl)
    (case iE_Crossed => first | k_is | rfl)
    (case tE_Crossed => first | k_is | rfl)
    (case teE_Crossed => first | k_is | rfl)
    (case gaE_Crossed => first | k_is | rfl)
    (case ggE_Crossed => first | k_is | rfl)
    (case hdE_Crossed => first | k_is | rfl)
    (case clE_Crossed => first | k_is | rfl)
    (case caE_Crossed => first | k_is | rfl)
    (case spE_Crossed => first | k_is | rfl)
    (case tkE_Crossed => first | k_is | rfl)
    (case obE_Crossed => first | k_is | rfl)
    (case lI_Crossed => first | k_is | rfl)
    (case cI_Crossed => first | k_is | rfl)
    (case kI_Crossed => first | k_is | rfl)
    (case no_low_Crossed => first | k_is | rfl)
    (case no_high_Crossed => first | k_is | rfl)
    (case aE_NoPlace => first | k_is | rfl)
    (case lE_NoPlace => first | k_is | rfl)
    (case rE_NoPlace => first | k_is | rfl)
    (case saE_NoPlace => first | k_is | rfl)
    (case exE_NoPlace => first | k_is | rfl)
    (case tyE_NoPlace => first | k_is | rfl)
    (case kE_NoPlace => first | k_is | rfl)
    (case iE_NoPlace => first | k_is | rfl)
    (case tE_NoPlace => first | k_is | rfl)
    (case teE_NoPlace => first | k_is | rfl)
    (case gaE_NoPlace => first | k_is | rfl)
    (case ggE_NoPlace => first | k_is | rfl)
    (case hdE_NoPlace => first | k_is | rfl)
    (case clE_NoPlace => first | k_is | rfl)
    (case caE_NoPlace => first | k_is | rfl)
    (case spE_NoPlace => first | k_is | rfl)
    (case tkE_NoPlace => first | k_is | rfl)
    (case obE_NoPlace => first | k_is | rfl)
    (case lI_NoPlace => first | k_is | rfl)
    (case cI_NoPlace => first | k_is | rfl)
    (case kI_NoPlace => first | k_is | rfl)
    (case no_place_NoPlace => first | k_is | rfl)
    (case aE_NoStarts => first | k_is | rfl)
    (case lE_NoStarts => first | k_is | rfl)
    (case rE_NoStarts => first | k_is | rfl)
    (case saE_NoStarts => first | k_is | rfl)
    (case exE_NoStarts => first | k_is | rfl)
    (case tyE_NoStarts => first | k_is | rfl)
    (case kE_NoStarts => first | k_is | rfl)
    (case iE_NoStarts => first | k_is | rfl)
    (case tE_NoStarts => first | k_is | rfl)
    (case teE_NoStarts => first | k_is | rfl)
    (case gaE_NoStarts => first | k_is | rfl)
    (case ggE_NoStarts => first | k_is | rfl)
    (case hdE_NoStarts => first | k_is | rfl)
    (case clE_NoStarts => first | k_is | rfl)
    (case caE_NoStarts => first | k_is | rfl)
    (case spE_NoStarts => first | k_is | rfl)
    (case tkE_NoStarts => first | k_is | rfl)
    (case obE_NoStarts => first | k_is | rfl)
    (case lI_NoStarts => first | k_is | rfl)
    (case cI_NoStarts => first | k_is | rfl)
    (case kI_NoStarts => first | k_is | rfl)
    (case no_low_NoStarts => first | k_is | rfl)
    (case no_high_NoStarts => first | k_is | rfl)
    (case aE_NoName => first | k_is | rfl)
    (case lE_NoName => first | k_is | rfl)
    (case rE_NoName => first | k_is | rfl)
    (case saE_NoName => first | k_is | rfl)
    (case exE_NoName => first | k_is | rfl)
    (case tyE_NoName => first | k_is | rfl)
    (case kE_NoName => first | k_is | rfl)
    (case iE_NoName => first | k_is | rfl)
    (case tE_NoName => first | k_is | rfl)
    (case teE_NoName => first | k_is | rfl)
    (case gaE_NoName => first | k_is | rfl)
    (case ggE_NoName => first | k_is | rfl)
    (case hdE_NoName => first | k_is | rfl)
    (case clE_NoName => first | k_is | rfl)
    (case caE_NoName => first | k_is | rfl)
    (case spE_NoName => first | k_is | rfl)
    (case tkE_NoName => first | k_is | rfl)
    (case obE_NoName => first | k_is | rfl)
    (case lI_NoName => first | k_is | rfl)
    (case cI_NoName => first | k_is | rfl)
    (case kI_NoName => first | k_is | rfl)
    (case no_name_NoName => first | k_is | rfl)
    (case aE_Taken => first | k_is | rfl)
    (case lE_Taken => first | k_is | rfl)
    (case rE_Taken => first | k_is | rfl)
    (case saE_Taken => first | k_is | rfl)
    (case exE_Taken => first | k_is | rfl)
    (case tyE_Taken => first | k_is | rfl)
    (case kE_Taken => first | k_is | rfl)
    (case iE_Taken => first | k_is | rfl)
    (case tE_Taken => first | k_is | rfl)
    (case teE_Taken => first | k_is | rfl)
    (case gaE_Taken => first | k_is | rfl)
    (case ggE_Taken => first | k_is | rfl)
    (case hdE_Taken => first | k_is | rfl)
    (case clE_Taken => first | k_is | rfl)
    (case caE_Taken => first | k_is | rfl)
    (case spE_Taken => first | k_is | rfl)
    (case tkE_Taken => first | k_is | rfl)
    (case obE_Taken => first | k_is | rfl)
    (case lI_Taken => first | k_is | rfl)
    (case cI_Taken => first | k_is | rfl)
    (case kI_Taken => first | k_is | rfl)
    (case no_name_Taken => first | k_is | rfl)
    (case aE_Outside => first | k_is | rfl)
    (case lE_Outside => first | k_is | rfl)
    (case rE_Outside => first | k_is | rfl)
    (case saE_Outside => first | k_is | rfl)
    (case exE_Outside => first | k_is | rfl)
    (case tyE_Outside => first | k_is | rfl)
    (case kE_Outside => first | k_is | rfl)
    (case iE_Outside => first | k_is | rfl)
    (case tE_Outside => first | k_is | rfl)
    (case teE_Outside => first | k_is | rfl)
    (case gaE_Outside => first | k_is | rfl)
    (case ggE_Outside => first | k_is | rfl)
    (case hdE_Outside => first | k_is | rfl)
    (case clE_Outside => first | k_is | rfl)
    (case caE_Outside => first | k_is | rfl)
    (case spE_Outside => first | k_is | rfl)
    (case tkE_Outside => first | k_is | rfl)
    (case obE_Outside => first | k_is | rfl)
    (case lI_Outside => first | k_is | rfl)
    (case cI_Outside => first | k_is | rfl)
    (case kI_Outside => first | k_is | rfl)
    (case no_number_Outside => first | k_is | rfl)
    (case aE_Needed => first | k_is | rfl)
    (case lE_Needed => first | k_is | rfl)
    (case rE_Needed => first | k_is | rfl)
    (case saE_Needed => first | k_is | rfl)
    (case exE_Needed => first | k_is | rfl)
    (case tyE_Needed => first | k_is | rfl)
    (case kE_Needed => first | k_is | rfl)
    (case iE_Needed => first | k_is | rfl)
    (case tE_Needed => first | k_is | rfl)
    (case teE_Needed => first | k_is | rfl)
    (case gaE_Needed => first | k_is | rfl)
    (case ggE_Needed => first | k_is | rfl)
    (case hdE_Needed => first | k_is | rfl)
    (case clE_Needed => first | k_is | rfl)
    (case caE_Needed => first | k_is | rfl)
    (case spE_Needed => first | k_is | rfl)
    (case tkE_Needed => first | k_is | rfl)
    (case obE_Needed => first | k_is | rfl)
    (case lI_Needed => first | k_is | rfl)
    (case cI_Needed => first | k_is | rfl)
    (case kI_Needed => first | k_is | rfl)
    (case no_name_Needed => first | k_is | rfl)
    (case aE_Ring => first | k_is | rfl)
    (case lE_Ring => first | k_is | rfl)
    (case rE_Ring => first | k_is | rfl)
    (case saE_Ring => first | k_is | rfl)
    (case exE_Ring => first | k_is | rfl)
    (case tyE_Ring => first | k_is | rfl)
    (case kE_Ring => first | k_is | rfl)
    (case iE_Ring => first | k_is | rfl)
    (case tE_Ring => first | k_is | rfl)
    (case teE_Ring => first | k_is | rfl)
    (case gaE_Ring => first | k_is | rfl)
    (case ggE_Ring => first | k_is | rfl)
    (case hdE_Ring => first | k_is | rfl)
    (case clE_Ring => first | k_is | rfl)
    (case caE_Ring => first | k_is | rfl)
    (case spE_Ring => first | k_is | rfl)
    (case tkE_Ring => first | k_is | rfl)
    (case obE_Ring => first | k_is | rfl)
    (case lI_Ring => first | k_is | rfl)
    (case cI_Ring => first | k_is | rfl)
    (case kI_Ring => first | k_is | rfl)
    (case no_name_Ring => first | k_is | rfl)
    (case aE_NotBehind => first | k_is | rfl)
    (case lE_NotBehind => first | k_is | rfl)
    (case rE_NotBehind => first | k_is | rfl)
    (case saE_NotBehind => first | k_is | rfl)
    (case exE_NotBehind => first | k_is | rfl)
    (case tyE_NotBehind => first | k_is | rfl)
    (case kE_NotBehind => first | k_is | rfl)
    (case iE_NotBehind => first | k_is | rfl)
    (case tE_NotBehind => first | k_is | rfl)
    (case teE_NotBehind => first | k_is | rfl)
    (case gaE_NotBehind => first | k_is | rfl)
    (case ggE_NotBehind => first | k_is | rfl)
    (case hdE_NotBehind => first | k_is | rfl)
    (case clE_NotBehind => first | k_is | rfl)
    (case caE_NotBehind => first | k_is | rfl)
    (case spE_NotBehind => first | k_is | rfl)
    (case tkE_NotBehind => first | k_is | rfl)
    (case obE_NotBehind => first | k_is | rfl)
    (case lI_NotBehind => first | k_is | rfl)
    (case cI_NotBehind => first | k_is | rfl)
    (case kI_NotBehind => first | k_is | rfl)
    (case no_other_NotBehind => first | k_is | rfl)
    (case aE_NoShift => first | k_is | rfl)
    (case xcE_NoShift => first | k_exc | k_is | rfl)
    (case kE_NoShift => first | k_is | rfl)
    (case exE_NoShift => first | k_is | rfl)
    (case tyE_NoShift => first | k_is | rfl)
    (case teE_NoShift => first | k_is | rfl)
    (case clE_NoShift => first | k_is | rfl)
    (case gaE_NoShift => first | k_is | rfl)
    (case ggE_NoShift => first | k_is | rfl)
    (case caE_NoShift => first | k_is | rfl)
    (case spE_NoShift => first | k_is | rfl)
    (case tkE_NoShift => first | k_is | rfl)
    (case obE_NoShift => first | k_is | rfl)
    (case aE_NothingDone => first | k_is | rfl)
    (case xcE_NothingDone => first | k_exc | k_is | rfl)
    (case kE_NothingDone => first | k_is | rfl)
    (case exE_NothingDone => first | k_is | rfl)
    (case tyE_NothingDone => first | k_is | rfl)
    (case teE_NothingDone => first | k_is | rfl)
    (case clE_NothingDone => first | k_is | rfl)
    (case gaE_NothingDone => first | k_is | rfl)
    (case ggE_NothingDone => first | k_is | rfl)
    (case caE_NothingDone => first | k_is | rfl)
    (case spE_NothingDone => first | k_is | rfl)
    (case tkE_NothingDone => first | k_is | rfl)
    (case obE_NothingDone => first | k_is | rfl)
    (case aE_Unlike => first | k_is | rfl)
    (case xcE_Unlike => first | k_exc | k_is | rfl)
    (case kE_Unlike => first | k_is | rfl)
    (case exE_Unlike => first | k_is | rfl)
    (case tyE_Unlike => first | k_is | rfl)
    (case teE_Unlike => first | k_is | rfl)
    (case clE_Unlike => first | k_is | rfl)
    (case gaE_Unlike => first | k_is | rfl)
    (case ggE_Unlike => first | k_is | rfl)
    (case caE_Unlike => first | k_is | rfl)
    (case spE_Unlike => first | k_is | rfl)
    (case tkE_Unlike => first | k_is | rfl)
    (case obE_Unlike => first | k_is | rfl)
    (case aE_Gainsaid => first | k_is | rfl)
    (case xcE_Gainsaid => first | k_exc | k_is | rfl)
    (case kE_Gainsaid => first | k_is | rfl)
    (case exE_Gainsaid => first | k_is | rfl)
    (case tyE_Gainsaid => first | k_is | rfl)
    (case teE_Gainsaid => first | k_is | rfl)
    (case clE_Gainsaid => first | k_is | rfl)
    (case gaE_Gainsaid => first | k_is | rfl)
    (case ggE_Gainsaid => first | k_is | rfl)
    (case caE_Gainsaid => first | k_is | rfl)
    (case spE_Gainsaid => first | k_is | rfl)
    (case tkE_Gainsaid => first | k_is | rfl)
    (case obE_Gainsaid => first | k_is | rfl)
    (case aLE => first | k_is | rfl)
    (case zVE => first | k_is | rfl)
    (case ki_BadText_BadText => first | k_is | rfl)
    (case ki_BadLine_BadText => first | k_is | rfl)
    (case ki_Crossed_BadText => first | k_is | rfl)
    (case ki_NoShift_BadText => first | k_is | rfl)
    (case ki_NoPlace_BadText => first | k_is | rfl)
    (case ki_NothingDone_BadText => first | k_is | rfl)
    (case ki_Unlike_BadText => first | k_is | rfl)
    (case ki_NoStarts_BadText => first | k_is | rfl)
    (case ki_Gainsaid_BadText => first | k_is | rfl)
    (case ki_NoName_BadText => first | k_is | rfl)
    (case ki_Taken_BadText => first | k_is | rfl)
    (case ki_Outside_BadText => first | k_is | rfl)
    (case ki_Needed_BadText => first | k_is | rfl)
    (case ki_Ring_BadText => first | k_is | rfl)
    (case ki_NotBehind_BadText => first | k_is | rfl)
    (case ki_BadText_BadLine => first | k_is | rfl)
    (case ki_BadLine_BadLine => first | k_is | rfl)
    (case ki_Crossed_BadLine => first | k_is | rfl)
    (case ki_NoShift_BadLine => first | k_is | rfl)
    (case ki_NoPlace_BadLine => first | k_is | rfl)
    (case ki_NothingDone_BadLine => first | k_is | rfl)
    (case ki_Unlike_BadLine => first | k_is | rfl)
    (case ki_NoStarts_BadLine => first | k_is | rfl)
    (case ki_Gainsaid_BadLine => first | k_is | rfl)
    (case ki_NoName_BadLine => first | k_is | rfl)
    (case ki_Taken_BadLine => first | k_is | rfl)
    (case ki_Outside_BadLine => first | k_is | rfl)
    (case ki_Needed_BadLine => first | k_is | rfl)
    (case ki_Ring_BadLine => first | k_is | rfl)
    (case ki_NotBehind_BadLine => first | k_is | rfl)
    (case ki_BadText_Crossed => first | k_is | rfl)
    (case ki_BadLine_Crossed => first | k_is | rfl)
    (case ki_Crossed_Crossed => first | k_is | rfl)
    (case ki_NoShift_Crossed => first | k_is | rfl)
    (case ki_NoPlace_Crossed => first | k_is | rfl)
    (case ki_NothingDone_Crossed => first | k_is | rfl)
    (case ki_Unlike_Crossed => first | k_is | rfl)
    (case ki_NoStarts_Crossed => first | k_is | rfl)
    (case ki_Gainsaid_Crossed => first | k_is | rfl)
    (case ki_NoName_Crossed => first | k_is | rfl)
    (case ki_Taken_Crossed => first | k_is | rfl)
    (case ki_Outside_Crossed => first | k_is | rfl)
    (case ki_Needed_Crossed => first | k_is | rfl)
    (case ki_Ring_Crossed => first | k_is | rfl)
    (case ki_NotBehind_Crossed => first | k_is | rfl)
    (case ki_BadText_NoShift => first | k_is | rfl)
    (case ki_BadLine_NoShift => first | k_is | rfl)
    (case ki_Crossed_NoShift => first | k_is | rfl)
    (case ki_NoShift_NoShift => first | k_is | rfl)
    (case ki_NoPlace_NoShift => first | k_is | rfl)
    (case ki_NothingDone_NoShift => first | k_is | rfl)
    (case ki_Unlike_NoShift => first | k_is | rfl)
    (case ki_NoStarts_NoShift => first | k_is | rfl)
    (case ki_Gainsaid_NoShift => first | k_is | rfl)
    (case ki_NoName_NoShift => first | k_is | rfl)
    (case ki_Taken_NoShift => first | k_is | rfl)
    (case ki_Outside_NoShift => first | k_is | rfl)
    (case ki_Needed_NoShift => first | k_is | rfl)
    (case ki_Ring_NoShift => first | k_is | rfl)
    (case ki_NotBehind_NoShift => first | k_is | rfl)
    (case ki_BadText_NoPlace => first | k_is | rfl)
    (case ki_BadLine_NoPlace => first | k_is | rfl)
    (case ki_Crossed_NoPlace => first | k_is | rfl)
    (case ki_NoShift_NoPlace => first | k_is | rfl)
    (case ki_NoPlace_NoPlace => first | k_is | rfl)
    (case ki_NothingDone_NoPlace => first | k_is | rfl)
    (case ki_Unlike_NoPlace => first | k_is | rfl)
    (case ki_NoStarts_NoPlace => first | k_is | rfl)
    (case ki_Gainsaid_NoPlace => first | k_is | rfl)
    (case ki_NoName_NoPlace => first | k_is | rfl)
    (case ki_Taken_NoPlace => first | k_is | rfl)
    (case ki_Outside_NoPlace => first | k_is | rfl)
    (case ki_Needed_NoPlace => first | k_is | rfl)
    (case ki_Ring_NoPlace => first | k_is | rfl)
    (case ki_NotBehind_NoPlace => first | k_is | rfl)
    (case ki_BadText_NothingDone => first | k_is | rfl)
    (case ki_BadLine_NothingDone => first | k_is | rfl)
    (case ki_Crossed_NothingDone => first | k_is | rfl)
    (case ki_NoShift_NothingDone => first | k_is | rfl)
    (case ki_NoPlace_NothingDone => first | k_is | rfl)
    (case ki_NothingDone_NothingDone => first | k_is | rfl)
    (case ki_Unlike_NothingDone => first | k_is | rfl)
    (case ki_NoStarts_NothingDone => first | k_is | rfl)
    (case ki_Gainsaid_NothingDone => first | k_is | rfl)
    (case ki_NoName_NothingDone => first | k_is | rfl)
    (case ki_Taken_NothingDone => first | k_is | rfl)
    (case ki_Outside_NothingDone => first | k_is | rfl)
    (case ki_Needed_NothingDone => first | k_is | rfl)
    (case ki_Ring_NothingDone => first | k_is | rfl)
    (case ki_NotBehind_NothingDone => first | k_is | rfl)
    (case ki_BadText_Unlike => first | k_is | rfl)
    (case ki_BadLine_Unlike => first | k_is | rfl)
    (case ki_Crossed_Unlike => first | k_is | rfl)
    (case ki_NoShift_Unlike => first | k_is | rfl)
    (case ki_NoPlace_Unlike => first | k_is | rfl)
    (case ki_NothingDone_Unlike => first | k_is | rfl)
    (case ki_Unlike_Unlike => first | k_is | rfl)
    (case ki_NoStarts_Unlike => first | k_is | rfl)
    (case ki_Gainsaid_Unlike => first | k_is | rfl)
    (case ki_NoName_Unlike => first | k_is | rfl)
    (case ki_Taken_Unlike => first | k_is | rfl)
    (case ki_Outside_Unlike => first | k_is | rfl)
    (case ki_Needed_Unlike => first | k_is | rfl)
    (case ki_Ring_Unlike => first | k_is | rfl)
    (case ki_NotBehind_Unlike => first | k_is | rfl)
    (case ki_BadText_NoStarts => first | k_is | rfl)
    (case ki_BadLine_NoStarts => first | k_is | rfl)
    (case ki_Crossed_NoStarts => first | k_is | rfl)
    (case ki_NoShift_NoStarts => first | k_is | rfl)
    (case ki_NoPlace_NoStarts => first | k_is | rfl)
    (case ki_NothingDone_NoStarts => first | k_is | rfl)
    (case ki_Unlike_NoStarts => first | k_is | rfl)
    (case ki_NoStarts_NoStarts => first | k_is | rfl)
    (case ki_Gainsaid_NoStarts => first | k_is | rfl)
    (case ki_NoName_NoStarts => first | k_is | rfl)
    (case ki_Taken_NoStarts => first | k_is | rfl)
    (case ki_Outside_NoStarts => first | k_is | rfl)
    (case ki_Needed_NoStarts => first | k_is | rfl)
    (case ki_Ring_NoStarts => first | k_is | rfl)
    (case ki_NotBehind_NoStarts => first | k_is | rfl)
    (case ki_BadText_Gainsaid => first | k_is | rfl)
    (case ki_BadLine_Gainsaid => first | k_is | rfl)
    (case ki_Crossed_Gainsaid => first | k_is | rfl)
    (case ki_NoShift_Gainsaid => first | k_is | rfl)
    (case ki_NoPlace_Gainsaid => first | k_is | rfl)
    (case ki_NothingDone_Gainsaid => first | k_is | rfl)
    (case ki_Unlike_Gainsaid => first | k_is | rfl)
    (case ki_NoStarts_Gainsaid => first | k_is | rfl)
    (case ki_Gainsaid_Gainsaid => first | k_is | rfl)
    (case ki_NoName_Gainsaid => first | k_is | rfl)
    (case ki_Taken_Gainsaid => first | k_is | rfl)
    (case ki_Outside_Gainsaid => first | k_is | rfl)
    (case ki_Needed_Gainsaid => first | k_is | rfl)
    (case ki_Ring_Gainsaid => first | k_is | rfl)
    (case ki_NotBehind_Gainsaid => first | k_is | rfl)
    (case ki_BadText_NoName => first | k_is | rfl)
    (case ki_BadLine_NoName => first | k_is | rfl)
    (case ki_Crossed_NoName => first | k_is | rfl)
    (case ki_NoShift_NoName => first | k_is | rfl)
    (case ki_NoPlace_NoName => first | k_is | rfl)
    (case ki_NothingDone_NoName => first | k_is | rfl)
    (case ki_Unlike_NoName => first | k_is | rfl)
    (case ki_NoStarts_NoName => first | k_is | rfl)
    (case ki_Gainsaid_NoName => first | k_is | rfl)
    (case ki_NoName_NoName => first | k_is | rfl)
    (case ki_Taken_NoName => first | k_is | rfl)
    (case ki_Outside_NoName => first | k_is | rfl)
    (case ki_Needed_NoName => first | k_is | rfl)
    (case ki_Ring_NoName => first | k_is | rfl)
    (case ki_NotBehind_NoName => first | k_is | rfl)
    (case ki_BadText_Taken => first | k_is | rfl)
    (case ki_BadLine_Taken => first | k_is | rfl)
    (case ki_Crossed_Taken => first | k_is | rfl)
    (case ki_NoShift_Taken => first | k_is | rfl)
    (case ki_NoPlace_Taken => first | k_is | rfl)
    (case ki_NothingDone_Taken => first | k_is | rfl)
    (case ki_Unlike_Taken => first | k_is | rfl)
    (case ki_NoStarts_Taken => first | k_is | rfl)
    (case ki_Gainsaid_Taken => first | k_is | rfl)
    (case ki_NoName_Taken => first | k_is | rfl)
    (case ki_Taken_Taken => first | k_is | rfl)
    (case ki_Outside_Taken => first | k_is | rfl)
    (case ki_Needed_Taken => first | k_is | rfl)
    (case ki_Ring_Taken => first | k_is | rfl)
    (case ki_NotBehind_Taken => first | k_is | rfl)
    (case ki_BadText_Outside => first | k_is | rfl)
    (case ki_BadLine_Outside => first | k_is | rfl)
    (case ki_Crossed_Outside => first | k_is | rfl)
    (case ki_NoShift_Outside => first | k_is | rfl)
    (case ki_NoPlace_Outside => first | k_is | rfl)
    (case ki_NothingDone_Outside => first | k_is | rfl)
    (case ki_Unlike_Outside => first | k_is | rfl)
    (case ki_NoStarts_Outside => first | k_is | rfl)
    (case ki_Gainsaid_Outside => first | k_is | rfl)
    (case ki_NoName_Outside => first | k_is | rfl)
    (case ki_Taken_Outside => first | k_is | rfl)
    (case ki_Outside_Outside => first | k_is | rfl)
    (case ki_Needed_Outside => first | k_is | rfl)
    (case ki_Ring_Outside => first | k_is | rfl)
    (case ki_NotBehind_Outside => first | k_is | rfl)
    (case ki_BadText_Needed => first | k_is | rfl)
    (case ki_BadLine_Needed => first | k_is | rfl)
    (case ki_Crossed_Needed => first | k_is | rfl)
    (case ki_NoShift_Needed => first | k_is | rfl)
    (case ki_NoPlace_Needed => first | k_is | rfl)
    (case ki_NothingDone_Needed => first | k_is | rfl)
    (case ki_Unlike_Needed => first | k_is | rfl)
    (case ki_NoStarts_Needed => first | k_is | rfl)
    (case ki_Gainsaid_Needed => first | k_is | rfl)
    (case ki_NoName_Needed => first | k_is | rfl)
    (case ki_Taken_Needed => first | k_is | rfl)
    (case ki_Outside_Needed => first | k_is | rfl)
    (case ki_Needed_Needed => first | k_is | rfl)
    (case ki_Ring_Needed => first | k_is | rfl)
    (case ki_NotBehind_Needed => first | k_is | rfl)
    (case ki_BadText_Ring => first | k_is | rfl)
    (case ki_BadLine_Ring => first | k_is | rfl)
    (case ki_Crossed_Ring => first | k_is | rfl)
    (case ki_NoShift_Ring => first | k_is | rfl)
    (case ki_NoPlace_Ring => first | k_is | rfl)
    (case ki_NothingDone_Ring => first | k_is | rfl)
    (case ki_Unlike_Ring => first | k_is | rfl)
    (case ki_NoStarts_Ring => first | k_is | rfl)
    (case ki_Gainsaid_Ring => first | k_is | rfl)
    (case ki_NoName_Ring => first | k_is | rfl)
    (case ki_Taken_Ring => first | k_is | rfl)
    (case ki_Outside_Ring => first | k_is | rfl)
    (case ki_Needed_Ring => first | k_is | rfl)
    (case ki_Ring_Ring => first | k_is | rfl)
    (case ki_NotBehind_Ring => first | k_is | rfl)
    (case ki_BadText_NotBehind => first | k_is | rfl)
    (case ki_BadLine_NotBehind => first | k_is | rfl)
    (case ki_Crossed_NotBehind => first | k_is | rfl)
    (case ki_NoShift_NotBehind => first | k_is | rfl)
    (case ki_NoPlace_NotBehind => first | k_is | rfl)
    (case ki_NothingDone_NotBehind => first | k_is | rfl)
    (case ki_Unlike_NotBehind => first | k_is | rfl)
    (case ki_NoStarts_NotBehind => first | k_is | rfl)
    (case ki_Gainsaid_NotBehind => first | k_is | rfl)
    (case ki_NoName_NotBehind => first | k_is | rfl)
    (case ki_Taken_NotBehind => first | k_is | rfl)
    (case ki_Outside_NotBehind => first | k_is | rfl)
    (case ki_Needed_NotBehind => first | k_is | rfl)
    (case ki_Ring_NotBehind => first | k_is | rfl)
    (case ki_NotBehind_NotBehind => first | k_is | rfl)
    (case ki_BadText_LevelError => first | k_is | rfl)
    (case ki_BadLine_LevelError => first | k_is | rfl)
    (case ki_Crossed_LevelError => first | k_is | rfl)
    (case ki_NoShift_LevelError => first | k_is | rfl)
    (case ki_NoPlace_LevelError => first | k_is | rfl)
    (case ki_NothingDone_LevelError => first | k_is | rfl)
    (case ki_Unlike_LevelError => first | k_is | rfl)
    (case ki_NoStarts_LevelError => first | k_is | rfl)
    (case ki_Gainsaid_LevelError => first | k_is | rfl)
    (case ki_NoName_LevelError => first | k_is | rfl)
    (case ki_Taken_LevelError => first | k_is | rfl)
    (case ki_Outside_LevelError => first | k_is | rfl)
    (case ki_Needed_LevelError => first | k_is | rfl)
    (case ki_Ring_LevelError => first | k_is | rfl)
    (case ki_NotBehind_LevelError => first | k_is | rfl)
    (case ki_BadText_ValueError => first | k_is | rfl)
    (case ki_BadLine_ValueError => first | k_is | rfl)
    (case ki_Crossed_ValueError => first | k_is | rfl)
    (case ki_NoShift_ValueError => first | k_is | rfl)
    (case ki_NoPlace_ValueError => first | k_is | rfl)
    (case ki_NothingDone_ValueError => first | k_is | rfl)
    (case ki_Unlike_ValueError => first | k_is | rfl)
    (case ki_NoStarts_ValueError => first | k_is | rfl)
    (case ki_Gainsaid_ValueError => first | k_is | rfl)
    (case ki_NoName_ValueError => first | k_is | rfl)
    (case ki_Taken_ValueError => first | k_is | rfl)
    (case ki_Outside_ValueError => first | k_is | rfl)
    (case ki_Needed_ValueError => first | k_is | rfl)
    (case ki_Ring_ValueError => first | k_is | rfl)
    (case ki_NotBehind_ValueError => first | k_is | rfl)
    (case z_len => first | k_is | rfl)
    (case z_abs => first | k_is | rfl)
    (case z_int => first | k_is | rfl)
    (case z_list => first | k_is | rfl)
    (case z_enumerate => first | k_is | rfl)
    (case z_range => first | k_is | rfl)
    (case z_all => first | k_is | rfl)
    (case z_zip => first | k_is | rfl)
    (case z_tuple => first | k_is | rfl)
    (case z_isinstance => first | k_is | rfl)
    (case z_bool => first | k_is | rfl)
    (case z_str => first | k_is | rfl)
