import PyProof.Rows.All
import Wide.All
import OpenK.AllK
import Wide.FinOn
import HandS.ForMost
import HandS.Codes
import HandS.Flow
import HandS.Zip
import HandS.Conv
import HandS.IsInst
import HandS.Property
import HandS.Defaults
import HandS.Walk
import HandS.MakeKw
import PySem.Challenge.RW_boundedlevels_k32_starts_that_lead_there
set_option Elab.async false
set_option linter.all false
set_option maxRecDepth 100000
set_option maxHeartbeats 4000000
namespace BL
open PySem PySem.Spec PyProof.Rows L2
/-! what is the same in all these laws, no text -/
def But (b : Addr) (H H' : Hp) : Prop := ∀ p o, p ≠ b → H p = some o → H' p = some o
theorem But.refl (b : Addr) (H : Hp) : But b H H := fun _ _ _ h => h
theorem But.trans {b : Addr} {H H1 H2 : Hp} (x : But b H H1) (y : But b H1 H2) : But b H H2 := fun p o e h => y p o e (x p o e h)
theorem But.same {b : Addr} {H H1 H2 : Hp} (x : But b H H1) (y : Same H1 H2) : But b H H2 := fun p o e h => y p o (x p o e h)
theorem But.of {b : Addr} {H H1 : Hp} (x : Same H H1) : But b H H1 := fun p o _ h => x p o h
theorem But.off {b : Addr} {H H1 : Hp} (x : But b H H1) (n : H b = none) : Same H H1 := fun p o h => x p o (ne_of_none h n) h
theorem same_upd {H : Hp} {p : Addr} {o : HO} (h : H p = none) : Same H (upd H p o) := fun b x e => by
  rw [upd_ne (ne_of_none e h)]
  exact e
theorem but_upd {H : Hp} {p : Addr} {o : HO} : But p H (upd H p o) := fun b x n e => by
  rw [upd_ne n]
  exact e
def Box (H : Hp) (b : Addr) (n : Nat) : Prop := ∃ x y z : Int, H b = some (.lst [.int x, .int y, .int z]) ∧ 0 ≤ z ∧ z ≤ n
theorem Box.same {H H' : Hp} {b : Addr} {n : Nat} (h : Box H b n) (s : Same H H') : Box H' b n := by
  obtain ⟨x, y, z, e, r⟩ := h
  exact ⟨x, y, z, s _ _ e, r⟩
theorem Box.le {H : Hp} {b : Addr} {n m : Nat} (h : Box H b n) (l : n ≤ m) : Box H b m := by
  obtain ⟨x, y, z, e, r, q⟩ := h
  exact ⟨x, y, z, e, r, by omega⟩
theorem Box.ne {H : Hp} {b p : Addr} {n : Nat} {o : HO} (h : Box H b n) (e : H p = some o) (k : ∀ xs, o ≠ .lst xs) : p ≠ b := by
  obtain ⟨x, y, z, f, _⟩ := h
  intro q
  rw [q, f] at e
  exact k _ (Option.some.inj e).symm
/-- the built-in names that these texts use are still built in -/
structure Bt (mg : Str → Option Value) : Prop where
  len : mg "len" = none
  abs : mg "abs" = none
  int : mg "int" = none
  list : mg "list" = none
  enumerate : mg "enumerate" = none
  range : mg "range" = none
  all : mg "all" = none
  zip : mg "zip" = none
  tuple : mg "tuple" = none
  isinstance : mg "isinstance" = none
  bool : mg "bool" = none
  str : mg "str" = none
/-! ### the draws -/
def spTake : Sp := fun vs H Q _ => ∃ (b : Addr) (m : Int) (n : Nat), vs = [.ref b, .int m] ∧ 0 < m ∧ m < 1073741824 ∧ Box H b n ∧ n ≤ 1000000000 ∧
  ∀ (r : Int) (H' : Hp), 0 ≤ r → r < m → But b H H' → Box H' b (n + 1) → Q (.int r) H'
def spBox (K : PySem.W.Frag) : Sp := fun vs H Q _ => ∃ (a : Addr) (cs : List Int) (k : Nat), vs = [.ref a, .int k] ∧ SqL K H a (cs.map V.int) ∧ k < cs.length ∧ cs.length ≤ 3 ∧
  ∀ (b : Addr) (H' : Hp), Same H H' → H b = none → Box H' b 0 → Q (.ref b) H'
def spCells (K : PySem.W.Frag) : Sp := fun vs H Q _ => ∃ (a : Addr) (ns : List Int), vs = [.ref a, .int 3] ∧ SqL K H a (ns.map V.int) ∧ ns.length ≤ 63 ∧
  ∀ (p : Addr) (cs : List Int) (H' : Hp), Same H H' → H p = none → H' p = some (.lst (cs.map V.int)) → cs.length ≤ 3 → Q (.ref p) H'
def spOf (K : PySem.W.Frag) : Sp := fun vs H Q _ => ∃ (b a : Addr) (xs : List V) (n : Nat), vs = [.ref b, .ref a] ∧ H a = some (.lst xs) ∧ a ≠ b ∧ xs ≠ [] ∧ xs.length ≤ 1000 ∧ Box H b n ∧ n ≤ 1000000000 ∧
  ∀ (i : Nat) (v : V) (H' : Hp), xs[i]? = some v → But b H H' → Box H' b (n + 1) → Q v H'
/-- law's: a list of at most 63 ints is handed in, True comes out -/
def spLaw (K : PySem.W.Frag) : Sp := fun vs H Q _ => ∃ (a : Addr) (ns : List Int), vs = [.ref a] ∧ SqL K H a (ns.map V.int) ∧ ns.length ≤ 63 ∧ ∀ H', Q (.bl true) H'
theorem atI3 {xs : List V} {i : Nat} {v : V} (h : xs[i]? = some v) : atI xs (i : Int) = some v := atI_nat h
theorem emod_le {a b : Int} (h : 0 < b) : 0 ≤ a % b ∧ a % b < b := ⟨Int.emod_nonneg _ (by omega), Int.emod_lt_of_pos _ h⟩
theorem ps_dead {X : Cx} {st : Stmt} : PS X st (fun _ _ _ => False) := ⟨fun _ _ _ _ _ _ h => h.elim⟩
theorem iteD0 {c A B : Prop} [Decidable c] (h : ¬ c) (b : B) : if decide c = true then A else B := by
  rw [if_neg (by simpa using h)]
  exact b
theorem iteD1 {c A B : Prop} [Decidable c] (h : c) (a : A) : if decide c = true then A else B := by
  rw [if_pos (by simpa using h)]
  exact a
theorem iteN1 {c A B : Prop} [Decidable c] (h : ¬ c) (a : A) : if (!decide c) = true then A else B := by
  rw [if_pos (by simpa using h)]
  exact a
theorem iteN0 {c A B : Prop} [Decidable c] (h : c) (b : B) : if (!decide c) = true then A else B := by
  rw [if_neg (by simpa using h)]
  exact b
theorem iteB1 {c : Bool} {A B : Prop} (h : c = true) (a : A) : if c = true then A else B := by
  rw [if_pos h]
  exact a
theorem iteB0 {c : Bool} {A B : Prop} (h : c = false) (b : B) : if c = true then A else B := by
  rw [h]
  exact iteF b
theorem iN (i : Int) : ¬ (V.int i = V.non) := fun h => by cases h
theorem rN (a : Addr) : ¬ (V.ref a = V.non) := fun h => by cases h
/-! ### a number or None -/
def oV : Option Int → V
  | none => .non
  | some i => .int i
def bnd (l : Int) (lo hi : Option Int) : Int :=
  let l1 := match lo with
    | none => l
    | some a => if l < a then a else l
  match hi with
    | none => l1
    | some b => if b < l1 then b else l1
def btw (l : Int) (lo hi : Option Int) : Bool :=
  (match lo with
    | none => true
    | some a => decide (a ≤ l)) && (match hi with
    | none => true
    | some b => decide (l ≤ b))
theorem _root_.L2.Same.seT {K : PySem.W.Frag} {H H' : Hp} {a : Addr} {xs : List V} (e : Same H H') (h : SqT K H a xs) : SqT K H' a xs := by
  rcases h with (h | ⟨o, h⟩) | h
  · exact .inl (.inl (e _ _ h))
  · exact .inl (.inr ⟨o, e _ _ h⟩)
  · exact .inr h
/-- two values that read alike, at most so deep -/
inductive Eqs (K : PySem.W.Frag) (H : Hp) : Nat → V → V → Prop
  | non (n : Nat) : Eqs K H n .non .non
  | bl (n : Nat) (b : Bool) : Eqs K H n (.bl b) (.bl b)
  | int (n : Nat) (i : Int) : Eqs K H n (.int i) (.int i)
  | str (n : Nat) (x : Str) : Eqs K H n (.str x) (.str x)
  | lst {n : Nat} {a b : Addr} {xs ys : List V} : SqL K H a xs → SqL K H b ys → xs.length = ys.length → xs.length ≤ 1000 → (∀ (i : Nat) (x y : V), xs[i]? = some x → ys[i]? = some y → Eqs K H n x y) → Eqs K H (n + 1) (.ref a) (.ref b)
  | tup {n : Nat} {a b : Addr} {xs ys : List V} : SqT K H a xs → SqT K H b ys → xs.length = ys.length → xs.length ≤ 1000 → (∀ (i : Nat) (x y : V), xs[i]? = some x → ys[i]? = some y → Eqs K H n x y) → Eqs K H (n + 1) (.ref a) (.ref b)
theorem Eqs.same {K : PySem.W.Frag} {H H' : Hp} {n : Nat} {x y : V} (h : Eqs K H n x y) (s : Same H H') : Eqs K H' n x y := by
  induction h with
  | non n => exact .non n
  | bl n b => exact .bl n b
  | int n i => exact .int n i
  | str n x => exact .str n x
  | lst h1 h2 l m _ ih => exact .lst (s.seq h1) (s.seq h2) l m ih
  | tup h1 h2 l m _ ih => exact .tup (s.seT h1) (s.seT h2) l m ih
theorem Eqs.oV {K : PySem.W.Frag} {H : Hp} (n : Nat) (o : Option Int) : Eqs K H n (oV o) (oV o) := by
  cases o with
  | none => exact .non n
  | some i => exact .int n i
theorem a2_nil {E : V → V → Prop} : ∀ (i : Nat) (x y : V), ([] : List V)[i]? = some x → ([] : List V)[i]? = some y → E x y := fun i x y h => by simp at h
theorem a2_cons {E : V → V → Prop} {v u : V} {vs us : List V} (h : E v u) (r : ∀ (i : Nat) (x y : V), vs[i]? = some x → us[i]? = some y → E x y) : ∀ (i : Nat) (x y : V), (v :: vs)[i]? = some x → (u :: us)[i]? = some y → E x y
  | 0, x, y, h1, h2 => by
    have e1 : v = x := Option.some.inj h1
    have e2 : u = y := Option.some.inj h2
    rw [← e1, ← e2]
    exact h
  | i + 1, x, y, h1, h2 => r i x y h1 h2
def spSame (K : PySem.W.Frag) : Nat → Sp
  | 0 => fun _ _ _ _ => False
  | n + 1 => fun vs H Q _ => ∃ x y, vs = [x, y] ∧ Eqs K H n x y ∧ ∀ H', Same H H' → Q (.bl true) H'
theorem ty_l {K : PySem.W.Frag} {H : Hp} {a : Addr} {xs : List V} (h : SqL K H a xs) : TyX K H (.ref a) (.type "list") := by
  rcases h with (h | ⟨o, h⟩) | ⟨o, its, n, l, c, _⟩
  · exact .base (.lst h)
  · exact .base (.frz h)
  · exact .kList l c
theorem ty_t {K : PySem.W.Frag} {H : Hp} {a : Addr} {xs : List V} (h : SqT K H a xs) : TyX K H (.ref a) (.type "tuple") := by
  rcases h with (h | ⟨o, h⟩) | ⟨o, its, n, l, c, _⟩
  · exact .base (.tup h)
  · exact .fTuple h
  · exact .kTuple l c
theorem any_of {K : PySem.W.Frag} {t a b : String} {r : Bool} (h : (match kitB t a with
    | some true => some true
    | some false => (match kitB t b with
      | some true => some true
      | some false => some false
      | none => none)
    | none => none) = some r) : PySem.W.kitAny K (.type t) [.type a, .type b] = some r := by
  unfold PySem.W.kitAny
  cases e : kitB t a with
  | none => rw [e] at h; cases h
  | some c =>
    rw [e] at h
    rw [kit_ty e]
    cases c with
    | true => exact h
    | false =>
      show PySem.W.kitAny K (.type t) [.type b] = some r
      unfold PySem.W.kitAny
      cases e2 : kitB t b with
      | none => rw [e2] at h; cases h
      | some c2 =>
        rw [e2] at h
        rw [kit_ty e2]
        cases c2 with
        | true => exact h
        | false => exact h
theorem walk_zipT {K : PySem.W.Frag} {a b : Addr} {xs ys : List V} {n : Nat} (hn : n = min xs.length ys.length) : Walk (RZ.ItzT K a b) n (fun H => SqT K H a xs ∧ SqT K H b ys) (YPair (fun i => xs[i]?) (fun i => ys[i]?)) := by
  refine ⟨fun i _ hi q => ?_, fun _ q => ⟨xs, ys, q.1, q.2, by omega⟩, fun i H v H' _ q y => ?_⟩
  · have h1 : i < xs.length := by omega
    have h2 : i < ys.length := by omega
    exact ⟨xs, ys, xs[i], ys[i], q.1, q.2, by simp [h1], by simp [h2]⟩
  · obtain ⟨T, x, z, h1, h2, h3, h4, h5⟩ := y
    exact ⟨T, x, z, h1, h2, h3, h4 xs q.1, h5 ys q.2⟩
/-! ### ways -/
def wF (s f c : Option Int) : List (Str × V) := putF "_cap" (oV c) (putF "_floor" (oV f) (putF "_shift" (oV s) []))
theorem k1 : ¬ (("_floor" : Str) = "_cap") := by decide +kernel
theorem k2 : ¬ (("_shift" : Str) = "_cap") := by decide +kernel
theorem k3 : ¬ (("_shift" : Str) = "_floor") := by decide +kernel
theorem wF_c (s f c : Option Int) : (wF s f c).lookup ("_cap" : Str) = some (oV c) := by
  unfold wF
  rw [lookup_putF, if_pos rfl]
theorem wF_f (s f c : Option Int) : (wF s f c).lookup ("_floor" : Str) = some (oV f) := by
  unfold wF
  rw [lookup_putF, if_neg k1, lookup_putF, if_pos rfl]
theorem wF_s (s f c : Option Int) : (wF s f c).lookup ("_shift" : Str) = some (oV s) := by
  unfold wF
  rw [lookup_putF, if_neg k2, lookup_putF, if_neg k3, lookup_putF, if_pos rfl]
def WayAt (C : Addr) (H : Hp) (p : Addr) (s f c : Option Int) : Prop := ∃ dx, H p = some (.ins C dx (wF s f c))
theorem WayAt.same {C : Addr} {H H' : Hp} {p : Addr} {s f c : Option Int} (h : WayAt C H p s f c) (e : Same H H') : WayAt C H' p s f c := by
  obtain ⟨dx, h⟩ := h
  exact ⟨dx, e _ _ h⟩
def nrm (s f c : Option Int) : Option Int :=
  match f, c with
  | some a, some b => if a = b then none else s
  | _, _ => s
def okW (s f c : Option Int) : Prop :=
  match f, c with
  | some a, some b => a ≤ b ∧ (s = none → a = b)
  | _, _ => s ≠ none
def spInitW (C : Addr) : Sp := fun vs H Q _ => ∃ (p dx : Addr) (s f c : Option Int), vs = [.ref p, oV s, oV f, oV c] ∧ H p = some (.ins C dx []) ∧ okW s f c ∧
  ∀ H', WayAt C H' p (nrm s f c) f c → (∀ b o, H b = some o → b ≠ p → H' b = some o) → Q .non H'
structure Prp (P : Program) (w : World) (K : PySem.W.Frag) (mg : Str → Option Value) (base : Heap) (C : Addr) (f h : Str) : Prop where
  ex : ∃ (p g : Addr) (fd : FuncData), PropOf K C f p g ∧ FnOk P w K mg base CX0 1 g fd ["self"] (getSp C h) ∧ Binds K fd ["self"] []
theorem PE.weak {X : Cx} {e : Expr} {t t' : TE} (h : PE X e t) (i : ∀ σ H Q, t' σ H Q → t σ H Q) : PE X e t' := ⟨fun pins s σ H Q I q => h.run pins s σ H Q I (i σ H Q q)⟩
/-- way.shift, way.floor, way.cap -/
def tWF (C : Addr) (sel : Option Int → Option Int → Option Int → Option Int) (ta : TE) : TE := fun σ H Q => ta σ H fun x H1 => ∃ a s f c, x = .ref a ∧ WayAt C H1 a s f c ∧ Q (oV (sel s f c)) H1
def tGet (C : Addr) (h : Str) (ta : TE) : TE := fun σ H Q => ta σ H fun x H1 => ∃ a dx fs v, x = .ref a ∧ H1 a = some (.ins C dx fs) ∧ fs.lookup h = some v ∧ Q v H1
section
variable {X : Cx} {j : Nat} {C : Addr} {e : Expr} {pos : Pos} {ta : TE} {f h : Str}
/-- how a reading grows with what is wanted -/
def Mono (t : TE) : Prop := ∀ (σ : L2.St) (H : Hp) (Q Q' : VK), (∀ v H', Q v H' → Q' v H') → t σ H Q → t σ H Q'
theorem mono_var (i : Nat) : Mono (tVar i) := fun σ H Q Q' m ⟨v, e, q⟩ => ⟨v, e, m _ _ q⟩
theorem pe_get (m : Mono ta) (he : PE X e ta) (c : Cls X.K C) (pr : Prp X.prog X.w X.K X.mg X.base C f h) (hr : Room j X.A) (hj : 2 ≤ j)
    (hab : attributeBase e f X.env (eval e X.env) = eval e X.env := by rfl) : PE X (.Attribute e f pos) (tGet C h ta) := by
  obtain ⟨p, g, fd, po, F, b⟩ := pr.ex
  refine PE.weak (pe_prop (sp := getSp C h) he c po F (hr.mono hj) b .nil pass0 hab) fun σ H Q q => ?_
  refine m σ H _ _ (fun v H' z => ?_) q
  obtain ⟨a, dx, fs, u, rfl, ha, hl, k⟩ := z
  exact ⟨a, dx, fs, rfl, ha, a, dx, fs, u, rfl, ha, hl, k⟩
theorem pe_sel {sel : Option Int → Option Int → Option Int → Option Int} (hs : ∀ s f c, (wF s f c).lookup h = some (oV (sel s f c))) (m : Mono ta) (he : PE X e ta) (c : Cls X.K C) (pr : Prp X.prog X.w X.K X.mg X.base C f h) (hr : Room j X.A) (hj : 2 ≤ j)
    (hab : attributeBase e f X.env (eval e X.env) = eval e X.env := by rfl) : PE X (.Attribute e f pos) (tWF C sel ta) := by
  refine PE.weak (pe_get m he c pr hr hj hab) fun σ H Q q => m σ H _ _ (fun v H' z => ?_) q
  obtain ⟨a, s, f, c, rfl, ⟨dx, ha⟩, k⟩ := z
  exact ⟨a, dx, _, _, rfl, ha, hs s f c, k⟩
end
/-- THE RULE for a def with defaults that lets nothing out -/
theorem okD {P : Program} {w : World} {K : PySem.W.Frag} {mg : Str → Option Value} {base : Heap} {x qual : Str} {params : Arguments} {body : List Stmt} {scope : Scope} {dvs : List V} {kws : List (Str × V)} {f : Addr} {fd : FuncData} {N ps : List Str} {k : Nat} {sp : Sp} (F : FunD K x qual params body scope dvs kws f fd) (S : FnScope N ps scope) (len : ∀ vs H Q E, sp vs H Q E → vs.length = ps.length)
    (hb : ∀ (cdv : Value) (A : Around) (outer : List Env) (s : Shared) (H : Hp) (vs : List V) (Q : VK) (E : XK), Room k (A.deeper (envOfC qual scope s.heap.objs.size f cdv)) → sp vs H Q E →
      ∃ t, PSs (cxOf CX0 P w K mg base N qual scope f cdv A outer s H E).nox body t ∧ t { nx := fun _ H' => Q .non H', rt := Q } (start N vs) H) : FnOk P w K mg base CX0 (k + 1) f fd ps sp :=
  F.ok S len fun cdv A outer s H vs Q E hr h => by
    obtain ⟨t, p, q⟩ := hb cdv A outer s H vs Q E hr h
    exact ⟨t, p.nox, q⟩
theorem pe_c0 {X : Cx} {k j : Nat} {x : Str} {sp : Sp} {dvs : List V} {p pos : Pos} (c : C8.Cal X.prog X.w X.K X.mg X.base k x sp dvs) (hr : Room j X.A) (hk : k ≤ j) (hg : Gl X x) (hdb : (x == ("__debug__" : Str)) = false := by decide) : PE X (.Call (.Name x p) [] [] pos) (tCall sp dvs C8.E0 tNil) := by
  obtain ⟨f, fd, ps, ds, F, hm, kp, b, d⟩ := c.ex
  exact pe_call0 F (hr.mono hk) hg hm kp b d pass0 hdb
end BL

namespace BL
open PySem PySem.Spec PyProof.Rows L2
open C8 (Cal Mak pe_c pe_mk)
def topS (i : Nat) : Stmt := PySem.Challenge.pw_boundedlevels_k32_starts_that_lead_there.main.body.getD i (.Pass ⟨0, 0, 0, 0⟩)
abbrev sBox : Stmt := topS 12
abbrev sTake : Stmt := topS 13
abbrev sCells : Stmt := topS 14
abbrev sOf : Stmt := topS 15
abbrev nBox : List Str := ["_law_script", "_law_k", "_law_cell"]
abbrev nTake : List Str := ["_law_box_here", "_law_size_so", "_law_some", "_law_once", "_law_far", "_law_again"]
abbrev nCells : List Str := ["_law_script", "_law_top_so", "_law_cells_so", "_law_k", "_law_cell", "_law_at_so"]
abbrev nOf : List Str := ["_law_box_here", "_law_goods_so"]
theorem scBox : FnScope nBox ["_law_script", "_law_k"] (defScope sBox) := ⟨rfl, rfl, rfl, by decide +kernel, rfl, by decide +kernel, by decide +kernel⟩
theorem scTake : FnScope nTake ["_law_box_here", "_law_size_so"] (defScope sTake) := ⟨rfl, rfl, rfl, by decide +kernel, rfl, by decide +kernel, by decide +kernel⟩
theorem scCells : FnScope nCells ["_law_script", "_law_top_so"] (defScope sCells) := ⟨rfl, rfl, rfl, by decide +kernel, rfl, by decide +kernel, by decide +kernel⟩
theorem scOf : FnScope nOf ["_law_box_here", "_law_goods_so"] (defScope sOf) := ⟨rfl, rfl, rfl, by decide +kernel, rfl, by decide +kernel, by decide +kernel⟩
section
variable {P : Program} {w : World} {K : PySem.W.Frag} {mg : Str → Option Value} {base : Heap}
theorem ok_box {f : Addr} {fd : FuncData} (F : Fun K "_law_box" "_law_box" sBox f fd) (T : Bt mg) : FnOk P w K mg base CX0 1 f fd ["_law_script", "_law_k"] (spBox K) := by
  refine F.ok scBox (fun vs H Q E h => ?_) (fun cdv A outer s H vs Q E hr h => ?_)
  · obtain ⟨a, cs, k, rfl, _⟩ := h
    rfl
  · obtain ⟨a, cs, k, rfl, hS, hk, h3, q⟩ := h
    refine ⟨_, (pss_cons (ps_set (i := 2) scBox.nd rfl (.inl rfl) (pe_ifExp (pt_cmpR op_lt (pv 1) (pe_callB call_len_seq (by rfl) T.len PySem.boot_len (pa_cons (pv 0) pa_nil)) (nomark _)) (pe_ix ix_list (pv 0) (pv 1) (fun _ _ => rfl)) pe_int))
  (pss_one (ps_ret (pe_lst (pa_cons (pe_op op_mul (pe_callB call_abs (by rfl) T.abs (by decide +kernel) (pa_cons (pv 2) pa_nil)) (pe_callTy call_int1 (by rfl) T.int (by decide +kernel) (pa_cons (pe_cmpR op_ge (pe_callB call_abs (by rfl) T.abs (by decide +kernel) (pa_cons (pv 2) pa_nil)) (pe_op op_pow pe_int pe_int) (nomark _)) pa_nil))) (pa_cons (pe_op op_add (pe_op op_add (pe_op op_mod (pe_callTy call_int1 (by rfl) T.int (by decide +kernel) (pa_cons (pv 2) pa_nil)) pe_int) (pe_op op_mul pe_int (pv 1))) pe_int) (pa_cons pe_int pa_nil))))))), ?_⟩
    have hx : (cs.map V.int)[k]? = some (.int cs[k]) := by
      rw [List.getElem?_map, List.getElem?_eq_getElem hk]
      rfl
    refine ⟨_, rfl, _, rfl, a, _, rfl, .inl hS, _, _, rfl, rfl, _, rfl, ?_⟩
    refine ite2 (fun _ => ?_) (fun e => ?_)
    · refine ⟨_, rfl, _, rfl, a, _, _, _, rfl, rfl, hS, atI_nat hx, ?_⟩
      refine ⟨_, rfl, _, rfl, _, rfl, _, rfl, _, _, rfl, rfl, ⟨by decide, by decide, by decide⟩, _, _, rfl, rfl, .inr ⟨_, rfl, ?_⟩⟩
      refine ⟨_, _, rfl, rfl, .inr ?_, ?_⟩
      · by_cases c : decide ((10:Int) ^ (18:Int).toNat ≤ if cs[k] < 0 then -cs[k] else cs[k]) = true
        · rw [if_pos c]; decide
        · rw [if_neg c]; decide
      · refine ⟨_, rfl, .inl ⟨_, rfl, _, _, rfl, rfl, (by show (0:Int) < _; decide), _, rfl, _, _, rfl, rfl, .inl ⟨by decide, by decide⟩, _, _, rfl, rfl, _, _, rfl, rfl, (by show 3 ≤ sizeLine; decide), fun p np => ?_⟩⟩
        exact q p _ (same_upd np) np ⟨_, _, _, upd_same, by decide, by decide⟩
    · exfalso
      apply e
      apply decide_eq_true
      rw [List.length_map]
      omega
theorem ok_take {f : Addr} {fd : FuncData} (F : Fun K "_law_take" "_law_take" sTake f fd) (T : Bt mg) : FnOk P w K mg base CX0 1 f fd ["_law_box_here", "_law_size_so"] spTake := by
  refine F.ok scTake (fun vs H Q E h => ?_) (fun cdv A outer s H vs Q E hr h => ?_)
  · obtain ⟨b, m, n, rfl, _⟩ := h
    rfl
  · obtain ⟨b, m, n, rfl, m0, m1, ⟨x, y, z, hB, z0, z1⟩, hn, q⟩ := h
    refine ⟨_, (pss_cons (ps_if (pt_cmpR op_gt (pe_ix ix_list (pv 0) pe_int (fun _ _ => rfl)) pe_int (nomark _)) (pss_cons (ps_set (i := 2) scTake.nd rfl (.inl rfl) (pe_op op_mod (pe_callTy call_int1 (by rfl) T.int (by decide +kernel) (pa_cons (pe_ix ix_list (pv 0) pe_int (fun _ _ => rfl)) pa_nil)) (pv 1)))
  (pss_cons (ps_asg (pe_op op_fdiv (pe_ix ix_list (pv 0) pe_int (fun _ _ => rfl)) (pv 1)) (pg_sub (pv 0) pe_int set_list))
  (pss_one (ps_ret (pv 2))))) pss_nil)
  (pss_cons (ps_asg (pe_op op_add (pe_ix ix_list (pv 0) pe_int (fun _ _ => rfl)) pe_int) (pg_sub (pv 0) pe_int set_list))
  (pss_cons (ps_set (i := 3) scTake.nd rfl (.inl rfl) (pe_op op_mod (pe_callTy call_int1 (by rfl) T.int (by decide +kernel) (pa_cons (pe_op op_mul (pe_op op_add (pe_ix ix_list (pv 0) pe_int (fun _ _ => rfl)) (pe_op op_mul pe_int (pe_ix ix_list (pv 0) pe_int (fun _ _ => rfl)))) (pe_op op_add pe_int (pe_ix ix_list (pv 0) pe_int (fun _ _ => rfl)))) pa_nil)) pe_int))
  (pss_cons (ps_set (i := 4) scTake.nd rfl (.inl rfl) (pe_op op_add (pe_op op_mod (pe_callTy call_int1 (by rfl) T.int (by decide +kernel) (pa_cons (pv 3) pa_nil)) pe_int) pe_int))
  (pss_cons (ps_set (i := 5) scTake.nd rfl (.inl rfl) (pe_op op_mod (pe_callTy call_int1 (by rfl) T.int (by decide +kernel) (pa_cons (pe_op op_mul (pe_op op_add (pe_op op_add (pv 3) (pe_ix ix_list (pv 0) pe_int (fun _ _ => rfl))) (pe_op op_fdiv (pe_ix ix_list (pv 0) pe_int (fun _ _ => rfl)) pe_int)) (pv 4)) pa_nil)) pe_int))
  (pss_one (ps_ret (pe_op op_mod (pe_callTy call_int1 (by rfl) T.int (by decide +kernel) (pa_cons (pe_op op_fdiv (pe_op op_mod (pe_callTy call_int1 (by rfl) T.int (by decide +kernel) (pa_cons (pe_op op_add (pe_op op_mul (pv 5) pe_int) (pv 3)) pa_nil)) pe_int) pe_int) pa_nil)) (pv 1))))))))), ?_⟩
    have s0 := SqL.of (K := K) hB
    refine ⟨_, rfl, b, _, 0, _, rfl, rfl, s0, atI_nat (j := 0) rfl, _, _, rfl, rfl, _, rfl, ?_⟩
    refine ite2 (fun _ => ?_) (fun _ => ?_)
    · refine ⟨_, rfl, b, _, 0, _, rfl, rfl, s0, atI_nat (j := 0) rfl, .inl ⟨_, rfl, _, rfl, _, _, rfl, rfl, m0, ?_⟩⟩
      refine ⟨_, rfl, b, _, 0, _, rfl, rfl, s0, atI_nat (j := 0) rfl, _, rfl, _, _, rfl, rfl, ⟨m0, m1⟩, _, rfl, b, _, 0, 0, rfl, rfl, hB, rfl, ?_⟩
      refine ⟨_, rfl, ?_⟩
      exact q _ _ (emod_le m0).1 (emod_le m0).2 but_upd ⟨_, _, _, upd_same, z0, by omega⟩
    · refine ⟨_, rfl, b, _, 2, _, rfl, rfl, s0, atI_nat (j := 2) rfl, _, _, rfl, rfl, _, rfl, b, _, 2, 2, rfl, rfl, hB, rfl, ?_⟩
      have hB' : (upd H b (.lst [.int x, .int y, .int (z + 1)])) b = some (.lst [.int x, .int y, .int (z + 1)]) := upd_same
      have s1 := SqL.of (K := K) hB'
      refine ⟨_, rfl, b, _, 1, _, rfl, rfl, s1, atI_nat (j := 1) rfl, _, rfl, b, _, 2, _, rfl, rfl, s1, atI_nat (j := 2) rfl, _, _, rfl, rfl, .inl ⟨by decide, by decide⟩, _, _, rfl, rfl, ?_⟩
      refine ⟨_, rfl, b, _, 2, _, rfl, rfl, s1, atI_nat (j := 2) rfl, _, _, rfl, rfl, _, _, rfl, rfl, .inr ⟨by omega, by omega⟩, .inl ⟨_, rfl, _, _, rfl, rfl, (by show (0:Int) < _; decide), ?_⟩⟩
      refine ⟨_, rfl, .inl ⟨_, rfl, _, _, rfl, rfl, (by show (0:Int) < _; decide), _, _, rfl, rfl, ?_⟩⟩
      refine ⟨_, rfl, _, rfl, b, _, 2, _, rfl, rfl, s1, atI_nat (j := 2) rfl, _, _, rfl, rfl, _, rfl, b, _, 1, _, rfl, rfl, s1, atI_nat (j := 1) rfl, _, _, rfl, rfl, ⟨by decide, by decide⟩, _, _, rfl, rfl, _, rfl, _, _, rfl, rfl, .inr ?_, .inl ⟨_, rfl, _, _, rfl, rfl, (by show (0:Int) < _; decide), ?_⟩⟩
      · constructor
        · have := (emod_le (a := ((y + 48271 * (z + 1)) * (39373 + (z + 1))) % 2147483647) (b := 40009) (by decide)).1
          omega
        · have := (emod_le (a := ((y + 48271 * (z + 1)) * (39373 + (z + 1))) % 2147483647) (b := 40009) (by decide)).2
          omega
      · refine ⟨_, rfl, _, _, rfl, rfl, .inr ⟨by decide, by decide⟩, _, rfl, _, _, rfl, rfl, .inl ⟨_, rfl, _, _, rfl, rfl, (by show (0:Int) < _; decide), _, _, rfl, rfl, ⟨by decide, by decide⟩, .inl ⟨_, rfl, _, rfl, _, _, rfl, rfl, m0, ?_⟩⟩⟩
        exact q _ _ (emod_le m0).1 (emod_le m0).2 but_upd ⟨_, _, _, upd_same, by omega, by omega⟩
theorem ok_of {f : Addr} {fd : FuncData} (F : Fun K "_law_of" "_law_of" sOf f fd) (T : Bt mg) (c__law_take : Cal P w K mg base 1 "_law_take" spTake []) : FnOk P w K mg base CX0 2 f fd ["_law_box_here", "_law_goods_so"] (spOf K) := by
  refine F.ok scOf (fun vs H Q E h => ?_) (fun cdv A outer s H vs Q E hr h => ?_)
  · obtain ⟨b, a, xs, n, rfl, _⟩ := h
    rfl
  · obtain ⟨b, a, xs, n, rfl, ha, nab, x0, x1, hB, hn, q⟩ := h
    refine ⟨_, (pss_one (ps_ret (pe_ix ix_list (pv 1) (pe_c c__law_take hr (by decide) (by rfl) (pa_cons (pv 0) (pa_cons (pe_callB call_len_seq (by rfl) T.len PySem.boot_len (pa_cons (pv 1) pa_nil)) pa_nil))) (fun _ _ => rfl)))), ?_⟩
    have hl : 0 < xs.length := List.length_pos_iff.mpr x0
    refine ⟨_, rfl, _, rfl, _, rfl, a, xs, rfl, .inl (SqL.of ha), b, _, n, rfl, by omega, by omega, hB, hn, fun r H' r0 r1 hb hB' => ?_⟩
    obtain ⟨i, rfl⟩ := Int.eq_ofNat_of_zero_le r0
    have hi : i < xs.length := by omega
    have hx : xs[i]? = some xs[i] := List.getElem?_eq_getElem hi
    exact ⟨a, xs, _, _, rfl, rfl, SqL.of (hb _ _ nab ha), atI_nat hx, q i _ H' hx hb hB'⟩
structure Good (ns : List Int) (H : Hp) (l : Addr) (cs0 : List Int) (H2 : Hp) : Prop where
  s : Same H H2
  n : H l = none
  e : H2 l = some (.lst (cs0.map V.int))
  h3 : cs0.length ≤ 3
  h4 : 3 < ns.length → cs0.length = 3
theorem ok_cells {f : Addr} {fd : FuncData} (F : Fun K "_law_cells" "_law_cells" sCells f fd) (T : Bt mg) : FnOk P w K mg base CX0 1 f fd ["_law_script", "_law_top_so"] (spCells K) := by
  refine F.ok scCells (fun vs H Q E h => ?_) (fun cdv A outer s H vs Q E hr h => ?_)
  · obtain ⟨a, ns, rfl, _⟩ := h
    rfl
  · obtain ⟨a, ns, rfl, hS, hl, q⟩ := h
    refine ⟨_, (pss_cons (ps_set (i := 2) scCells.nd rfl (.inl rfl) (pe_orT (pe_callTy call_list_of (by rfl) T.list (by decide +kernel) (pa_cons (pe_slice sl_list (pv 0) po_none (po_some (pv 1))) pa_nil)) (pe_one (pe_lst (pa_cons pe_int pa_nil)))))
  (pss_cons (ps_for PassesOwn.never rfl (pi_enum (by rfl) T.enumerate (pa_cons (pe_slice sl_list (pv 0) (po_some (pv 1)) (po_some pe_int)) pa_nil)) (pg_tup rfl (pgs_cons (pg_name (i := 3) scCells.nd rfl (.inl rfl)) (pgs_cons (pg_name (i := 4) scCells.nd rfl (.inl rfl)) pgs_nil))) (pss_cons (ps_set (i := 5) scCells.nd rfl (.inl rfl) (pe_op op_mod (pe_callTy call_int1 (by rfl) T.int (by decide +kernel) (pa_cons (pv 3) pa_nil)) (pv 1)))
  (pss_one (ps_asg (pe_op op_add (pe_ix ix_list (pv 2) (pv 5) (fun _ _ => rfl)) (pe_op op_mul (pv 4) (pe_op op_add (pv 3) pe_int))) (pg_sub (pv 2) (pv 5) set_list)))))
  (pss_one (ps_ret (pv 2))))), ?_⟩
    refine ⟨_, rfl, _, rfl, _, rfl, a, _, rfl, hS, fun c1 nc1 => ?_⟩
    have e1 : (upd H c1 (.lst (cutV (ns.map V.int) none (some 3)))) c1 = some (.lst (cutV (ns.map V.int) none (some 3))) := upd_same
    refine ⟨c1, _, rfl, .inl (SqL.of e1), fun l nl => ?_⟩
    have n1 : H l = none := (same_upd nc1).free nl
    have s1 : Same H (upd (upd H c1 (.lst (cutV (ns.map V.int) none (some 3)))) l (.lst (cutV (ns.map V.int) none (some 3)))) := (same_upd nc1).trans (same_upd nl)
    have ecut : cutV (ns.map V.int) none (some 3) = (ns.take 3).map V.int := by
      unfold cutV
      rw [HT.sIx_none, List.drop_zero, show HT.sIx (ns.map V.int).length (ns.map V.int).length (some 3) = min 3 (ns.map V.int).length from HT.sIx_nat _ _ 3, List.length_map, Nat.sub_zero, List.map_take]
      by_cases c : 3 ≤ ns.length
      · rw [Nat.min_eq_left c]
      · rw [Nat.min_eq_right (by omega), List.take_of_length_le (by rw [List.length_map]; omega), List.take_of_length_le (by rw [List.length_map]; omega)]
    have ecut2 : cutV (ns.map V.int) (some 3) (some 63) = (ns.drop 3).map V.int := by
      unfold cutV
      rw [show HT.sIx (ns.map V.int).length 0 (some 3) = min 3 (ns.map V.int).length from HT.sIx_nat _ _ 3, show HT.sIx (ns.map V.int).length (ns.map V.int).length (some 63) = min 63 (ns.map V.int).length from HT.sIx_nat _ _ 63, List.length_map, List.map_drop]
      by_cases c : 3 ≤ ns.length
      · rw [Nat.min_eq_left c, List.take_of_length_le (by rw [List.length_drop, List.length_map]; omega)]
      · rw [Nat.min_eq_right (show ns.length ≤ 3 by omega), List.drop_of_length_le (by rw [List.length_map]; omega), List.drop_of_length_le (by rw [List.length_map]; omega), List.take_nil]
    refine ⟨!(cutV (ns.map V.int) none (some 3)).isEmpty, .inl ⟨_, SqL.of upd_same, rfl⟩, ?_⟩
    have key : ∀ (l : Addr) (H2 : Hp) (cs0 : List Int), Same H H2 → H l = none → H2 l = some (.lst (cs0.map V.int)) → cs0.length ≤ 3 → (3 < ns.length → cs0.length = 3) → Good ns H l cs0 H2 := fun _ _ _ h1 h2 h3 h4 h5 => ⟨h1, h2, h3, h4, h5⟩
    refine ite2 (fun c => ?yes) (fun c => ?no)
    case' yes => obtain ⟨cs0, g⟩ : ∃ cs0, Good ns H l cs0 _ := ⟨_, key l _ (ns.take 3) s1 n1 (by rw [← ecut]; exact upd_same) (by rw [List.length_take]; omega) (by rw [List.length_take]; omega)⟩
    case' no =>
      have e3 : ns = [] := by
        cases ns with
        | nil => rfl
        | cons x r => exact absurd (by rw [ecut]; rfl) c
      refine ⟨(by show 1 ≤ sizeLine; decide), fun l nl2 => ?_⟩
      obtain ⟨cs0, g⟩ : ∃ cs0, Good ns H l cs0 _ := ⟨_, key l _ [0] (s1.trans (same_upd nl2)) (s1.free nl2) upd_same (by decide) (fun h => by rw [e3] at h; cases h)⟩
    all_goals
      clear key
      obtain ⟨s2, nl0, hl2, h3, h4⟩ := g
      refine ⟨_, rfl, _, rfl, _, rfl, _, rfl, a, _, rfl, s2.seq hS, fun d nd => ?_⟩
      rw [ecut2]
      refine ⟨d, _, rfl, SqL.of upd_same, for_it walk_enum (fun i σ H3 => ∃ (cs : List Int) (v3 v4 v5 : Option V), σ = [some (.ref a), some (.int 3), some (.ref l), v3, v4, v5] ∧ Same H H3 ∧ H3 l = some (.lst (cs.map V.int)) ∧ cs.length = cs0.length ∧ H3 d = some (.lst ((ns.drop 3).map V.int)))
        ⟨cs0, none, none, none, rfl, s2.trans (same_upd nd), by rw [upd_ne (ne_of_none hl2 nd)]; exact hl2, rfl, upd_same⟩ (fun i σ H3 _ ⟨_, _, _, _, _, _, _, _, e⟩ => SqL.of e) ?turn ?done⟩
      case turn =>
        rintro i y σ H3 H4 hi ⟨cs, v3, v4, v5, rfl, s3, e3, l3, ed⟩ ⟨T', x1, x2, rfl, nT, rfl, f1, f2⟩
        have ex1 : V.int ((i : Nat) : Int) = x1 := Option.some.inj f1
        subst ex1
        have hi' : i < (ns.drop 3).length := by rw [List.length_map] at hi; exact hi
        have hd3 : (ns.drop 3).length = ns.length - 3 := List.length_drop
        have hlen : 3 < ns.length := by omega
        have ex2 : x2 = .int (ns.drop 3)[i] := by
          change (List.map V.int (List.drop 3 ns))[i]? = some x2 at f2
          rw [List.getElem?_map, List.getElem?_eq_getElem hi'] at f2
          exact (Option.some.inj f2).symm
        subst ex2
        have nTl : l ≠ T' := ne_of_none e3 nT
        have nTd : d ≠ T' := ne_of_none ed nT
        have e4 : (upd H3 T' (.tup [.int i, .int (ns.drop 3)[i]])) l = some (.lst (cs.map V.int)) := by rw [upd_ne nTl]; exact e3
        have hcs : cs.length = 3 := by rw [l3]; exact h4 hlen
        have hm := emod_le (a := (i : Int)) (b := 3) (by decide)
        obtain ⟨j, hj⟩ := Int.eq_ofNat_of_zero_le hm.1
        have hj3 : j < 3 := by omega
        have gj : (cs.map V.int)[j]? = some (.int (cs[j]'(by omega))) := by
          rw [List.getElem?_map, List.getElem?_eq_getElem (by omega)]
          rfl
        refine ⟨T', _, rfl, SqT.of upd_same, rfl, _, _, rfl, _, _, rfl, rfl, ?_⟩
        refine ⟨_, rfl, .inl ⟨_, rfl, _, rfl, _, _, rfl, rfl, (by show (0 : Int) < 3; decide), ?_⟩⟩
        refine ⟨_, rfl, _, rfl, l, _, _, _, rfl, rfl, SqL.of e4, by rw [hj]; exact atI_nat gj, _, rfl, _, rfl, _, _, rfl, rfl, _, _, rfl, rfl, .inr ⟨by omega, by omega⟩, _, _, rfl, rfl, _, rfl, _, rfl, l, _, _, j, rfl, rfl, e4, ?_, ?_⟩
        · rw [hj]
          unfold ixN
          rw [if_pos (by omega), if_pos (by rw [List.length_map]; omega)]
          rfl
        · refine ⟨cs.set j (cs[j]'(by omega) + (ns.drop 3)[i] * ((i : Int) + 2)), _, _, _, rfl, ?_, ?_, ?_, ?_⟩
          · intro p o e
            rw [upd_ne (ne_of_none e nl0), upd_ne (ne_of_none (s3 _ _ e) nT)]
            exact s3 _ _ e
          · rw [upd_same, List.map_set]
          · rw [List.length_set]; exact l3
          · rw [upd_ne ?_, upd_ne nTd]
            · exact ed
            · exact (ne_of_none hl2 nd).symm
      case done =>
        rintro σ H3 ⟨cs, v3, v4, v5, rfl, s3, e3, l3, ed⟩
        exact ⟨_, rfl, q l cs H3 s3 nl0 e3 (by omega)⟩
end
end BL

namespace BL
open PySem PySem.Spec PyProof.Rows L2
open C8 (Cal Mak pe_c pe_mk)
open RZ (pi_zipA)
abbrev sInit : Stmt := inClass (topS 8) 0
abbrev sSame : Stmt := topS 16
abbrev sBound : Stmt := topS 17
abbrev sLeads : Stmt := topS 19
abbrev sBetw : Stmt := topS 20
abbrev nInit : List Str := ["self", "shift", "floor", "cap", "constant"]
abbrev nSame : List Str := ["_law_got", "_law_due", "_law_mine", "_law_its"]
abbrev nBound : List Str := ["_law_level_so", "_law_low_so", "_law_top_so"]
abbrev nLeads : List Str := ["_law_bits", "_law_begin"]
theorem scInit : FnScope nInit ["self", "shift", "floor", "cap"] (defScope sInit) := ⟨rfl, rfl, rfl, by decide +kernel, rfl, by decide +kernel, by decide +kernel⟩
theorem scSame : FnScope nSame ["_law_got", "_law_due"] (defScope sSame) := ⟨rfl, rfl, rfl, by decide +kernel, rfl, by decide +kernel, by decide +kernel⟩
theorem scBound : FnScope nBound nBound (defScope sBound) := ⟨rfl, rfl, rfl, by decide +kernel, rfl, by decide +kernel, by decide +kernel⟩
theorem scBetw : FnScope nBound nBound (defScope sBetw) := ⟨rfl, rfl, rfl, by decide +kernel, rfl, by decide +kernel, by decide +kernel⟩
theorem scLeads : FnScope nLeads nLeads (defScope sLeads) := ⟨rfl, rfl, rfl, by decide +kernel, rfl, by decide +kernel, by decide +kernel⟩
def spBound : Sp := fun vs H Q _ => ∃ (l : Int) (lo hi : Option Int), vs = [.int l, oV lo, oV hi] ∧ Q (.int (bnd l lo hi)) H
def spBetw : Sp := fun vs H Q _ => ∃ (l : Int) (lo hi : Option Int), vs = [.int l, oV lo, oV hi] ∧ Q (.bl (btw l lo hi)) H
def spLeads (K : PySem.W.Frag) : Sp := fun vs H Q _ => ∃ (t : Addr) (s x : Int) (f c : Option Int), vs = [.ref t, .int x] ∧ SqT K H t [.int s, oV f, oV c] ∧ Q (.int (bnd (x + s) f c)) H
section
variable {P : Program} {w : World} {K : PySem.W.Frag} {mg : Str → Option Value} {base : Heap} {C : Addr}
theorem ok_bound {f : Addr} {fd : FuncData} (F : Fun K "_law_bound" "_law_bound" sBound f fd) : FnOk P w K mg base CX0 1 f fd nBound spBound := by
  refine F.ok scBound (fun vs H Q E h => ?_) (fun cdv A outer s H vs Q E hr h => ?_)
  · obtain ⟨l, lo, hi, rfl, _⟩ := h
    rfl
  · obtain ⟨l, lo, hi, rfl, q⟩ := h
    refine ⟨_, (pss_cons (ps_set (i := 0) scBound.nd rfl (.inl rfl) (pe_ifExp ((pw_and (pt_cmpR op_notN (pv 1) pe_non (nomark _)) (pw_and1 (pt_cmpR op_lt (pv 0) (pv 1) (nomark _))))).pt (pv 1) (pv 0)))
  (pss_one (ps_ret (pe_ifExp ((pw_and (pt_cmpR op_notN (pv 2) pe_non (nomark _)) (pw_and1 (pt_cmpR op_gt (pv 0) (pv 2) (nomark _))))).pt (pv 2) (pv 0))))), ?_⟩
    cases lo with
    | none =>
      refine ⟨_, rfl, rfl, _, rfl, iteN0 rfl (iteF ⟨_, rfl, ?_⟩)⟩
      cases hi with
      | none => exact ⟨_, rfl, rfl, _, rfl, iteN0 rfl (iteF ⟨_, rfl, q⟩)⟩
      | some b =>
        refine ⟨_, rfl, rfl, _, rfl, iteN1 (iN b) ⟨_, rfl, _, rfl, _, _, rfl, rfl, _, rfl, ?_⟩⟩
        by_cases h : b < l
        · refine iteD1 h ⟨_, rfl, ?_⟩
          unfold bnd at q
          simp only [if_pos h] at q
          exact q
        · refine iteD0 h ⟨_, rfl, ?_⟩
          unfold bnd at q
          simp only [if_neg h] at q
          exact q
    | some a =>
      refine ⟨_, rfl, rfl, _, rfl, iteN1 (iN a) ⟨_, rfl, _, rfl, _, _, rfl, rfl, _, rfl, ?_⟩⟩
      by_cases g : l < a
      all_goals
        first | refine iteD1 g ⟨_, rfl, ?_⟩ | refine iteD0 g ⟨_, rfl, ?_⟩
        cases hi with
        | none =>
          refine ⟨_, rfl, rfl, _, rfl, iteN0 rfl (iteF ⟨_, rfl, ?_⟩)⟩
          unfold bnd at q
          first | (simp only [if_pos g] at q; exact q) | (simp only [if_neg g] at q; exact q)
        | some b =>
          refine ⟨_, rfl, rfl, _, rfl, iteN1 (iN b) ⟨_, rfl, _, rfl, _, _, rfl, rfl, _, rfl, ?_⟩⟩
          refine ite2 (fun h => ⟨_, rfl, ?_⟩) (fun h => ⟨_, rfl, ?_⟩)
          all_goals
            simp only [decide_eq_true_eq] at h
            simp only [bnd, g, h, if_true, if_false] at q
            exact q
theorem ok_betw {f : Addr} {fd : FuncData} (F : Fun K "_law_between" "_law_between" sBetw f fd) : FnOk P w K mg base CX0 1 f fd nBound spBetw := by
  refine F.ok scBetw (fun vs H Q E h => ?_) (fun cdv A outer s H vs Q E hr h => ?_)
  · obtain ⟨l, lo, hi, rfl, _⟩ := h
    rfl
  · obtain ⟨l, lo, hi, rfl, q⟩ := h
    refine ⟨_, (pss_one (ps_ret (pe_and (pe_or (pe_cmpR op_isN (pv 1) pe_non (nomark _)) (pe_one (pe_cmpR op_le (pv 1) (pv 0) (nomark _)))) (pe_one (pe_or (pe_cmpR op_isN (pv 2) pe_non (nomark _)) (pe_one (pe_cmpR op_le (pv 0) (pv 2) (nomark _)))))))), ?_⟩
    have two : ∀ b : Bool, (b = true → Q (.bl (b && btw l none hi)) H) → True := fun _ _ => trivial
    have snd : ∀ b : Bool, b = btw l lo none → if b = true then (tOrV (tOp (fun x y H Q => y = .non ∧ Q (.bl (decide (x = .non))) H) (tVar 2) (tC .non)) (tOp (rI0 fun i j => .bl (decide (i ≤ j))) (tVar 0) (tVar 2))) (L2.start nBound [.int l, oV lo, oV hi]) H Q else Q (.bl false) H := by
      intro b hb
      cases b with
      | false =>
        refine iteF ?_
        have e : btw l lo hi = false := by
          unfold btw at hb ⊢
          rw [Bool.and_true] at hb
          rw [← hb]
          rfl
        rw [e] at q
        exact q
      | true =>
        refine iteT ?_
        have e : btw l lo hi = btw l none hi := by
          unfold btw at hb ⊢
          rw [Bool.and_true] at hb
          rw [← hb]
        rw [e] at q
        cases hi with
        | none => exact ⟨_, rfl, rfl, _, rfl, iteD1 rfl q⟩
        | some b => exact ⟨_, rfl, rfl, _, rfl, iteD0 (iN b) ⟨_, rfl, _, rfl, _, _, rfl, rfl, q⟩⟩
    cases lo with
    | none => exact ⟨_, rfl, rfl, _, rfl, iteD1 rfl ⟨_, rfl, snd true rfl⟩⟩
    | some a => exact ⟨_, rfl, rfl, _, rfl, iteD0 (iN a) ⟨_, rfl, _, rfl, _, _, rfl, rfl, _, rfl, snd _ (by unfold btw; rw [Bool.and_true])⟩⟩
theorem ok_leads {f : Addr} {fd : FuncData} (F : Fun K "_law_leads" "_law_leads" sLeads f fd) (c__law_bound : Cal P w K mg base 1 "_law_bound" spBound []) : FnOk P w K mg base CX0 2 f fd nLeads (spLeads K) := by
  refine F.ok scLeads (fun vs H Q E h => ?_) (fun cdv A outer s H vs Q E hr h => ?_)
  · obtain ⟨t, s, x, f, c, rfl, _⟩ := h
    rfl
  · obtain ⟨t, s, x, f, c, rfl, hT, q⟩ := h
    refine ⟨_, (pss_one (ps_ret (pe_c c__law_bound hr (by decide) (by rfl) (pa_cons (pe_op op_add (pv 1) (pe_ix ix_tup (pv 0) pe_int (fun _ _ => rfl))) (pa_cons (pe_ix ix_tup (pv 0) pe_int (fun _ _ => rfl)) (pa_cons (pe_ix ix_tup (pv 0) pe_int (fun _ _ => rfl)) pa_nil)))))), ?_⟩
    exact ⟨_, rfl, _, rfl, t, _, 0, _, rfl, rfl, hT, atI_nat (j := 0) rfl, _, _, rfl, rfl, _, rfl, t, _, 1, _, rfl, rfl, hT, atI_nat (j := 1) rfl, _, rfl, t, _, 2, _, rfl, rfl, hT, atI_nat (j := 2) rfl, _, f, c, rfl, q⟩
/-- what the class of ways must have -/
structure WT (K : PySem.W.Frag) (C : Addr) : Prop where
  cl : Cls K C
  nS : NoAttr K C "_shift"
  nF : NoAttr K C "_floor"
  nC : NoAttr K C "_cap"
theorem put3 (s f c : V) : putF "_cap" c (putF "_floor" f (putF "_shift" s [])) = putF "_cap" c (putF "_floor" f (putF "_shift" s [])) := rfl
theorem putlen (s f : V) : (putF "_floor" f (putF "_shift" s [])).length < 1000 := by
  show (if ("_shift" : Str) = "_floor" then _ else (("_shift" : Str), s) :: putF "_floor" f []).length < 1000
  rw [if_neg k3]
  show 2 < 1000
  decide
theorem ok_init {f : Addr} {fd : FuncData} (F : FunD K "__init__" "Way.__init__" (defArgs sInit) (defBody sInit) (defScope sInit) [.non, .non] [] f fd) (W : WT K C) : FnOk P w K mg base CX0 1 f fd ["self", "shift", "floor", "cap"] (spInitW C) := by
  refine okD F scInit (fun vs H Q E h => ?_) (fun cdv A outer s H vs Q E hr h => ?_)
  · obtain ⟨p, dx, s, f, c, rfl, _⟩ := h
    rfl
  · obtain ⟨p, dx, s, f, c, rfl, hp, ok, q⟩ := h
    refine ⟨_, (pss_cons (ps_if ((pw_and (pt_cmpR op_notN (pv 2) pe_non (nomark _)) (pw_and (pt_cmpR op_notN (pv 3) pe_non (nomark _)) (pw_and1 (pt_cmpR op_gt (pv 2) (pv 3) (nomark _)))))).pt (pss_one (ps_dead)) pss_nil)
  (pss_cons (ps_set (i := 4) scInit.nd rfl (.inl rfl) (pe_and (pe_cmpR op_notN (pv 2) pe_non (nomark _)) (pe_one (pe_cmpR op_eq (pv 2) (pv 3) (nomark _)))))
  (pss_cons (ps_if ((pw_and (pt_cmpR op_isN (pv 1) pe_non (nomark _)) (pw_and1 (pt_not (pt_val (pv 4))))).pt) (pss_one (ps_dead)) pss_nil)
  (pss_cons (ps_fld (pv 0) (pe_ifExp (pt_val (pv 4)) pe_non (pv 1)) rfl)
  (pss_cons (ps_fld (pv 0) (pv 2) rfl)
  (pss_one (ps_fld (pv 0) (pv 3) rfl))))))), ?_⟩
    have fin : ∀ b : Bool, (b = true → nrm s f c = none) → (b = false → nrm s f c = s) → (tSeq (sFld K (tVar 0) (tIf (tB (tVar 4)) (tC .non) (tVar 1)) "_shift") (tSeq (sFld K (tVar 0) (tVar 2) "_floor") (sFld K (tVar 0) (tVar 3) "_cap"))) { nx := fun _ H' => Q .non H', rt := Q } [some (.ref p), some (oV s), some (oV f), some (oV c), some (.bl b)] H := by
      intro b h1 h0
      have fin2 : ∀ y, y = oV (nrm s f c) → tSeq (sFld K (tVar 0) (tVar 2) "_floor") (sFld K (tVar 0) (tVar 3) "_cap") { nx := fun _ H' => Q .non H', rt := Q } [some (.ref p), some (oV s), some (oV f), some (oV c), some (.bl b)] (upd H p (.ins C dx (putF "_shift" y []))) := by
        intro y hy
        refine ⟨_, rfl, _, rfl, p, C, dx, _, rfl, upd_same, W.cl, W.nF, (by show 1 < 1000; decide), _, rfl, _, rfl, p, C, dx, _, rfl, upd_same, W.cl, W.nC, putlen _ _, ?_⟩
        subst hy
        refine q _ ⟨dx, upd_same⟩ fun d o e n => ?_
        rw [upd_ne n, upd_ne n, upd_ne n]
        exact e
      refine ⟨_, rfl, b, rfl, ?_⟩
      cases b with
      | true =>
        refine iteT ⟨_, rfl, p, C, dx, [], rfl, hp, W.cl, W.nS, (by show 0 < 1000; decide), fin2 _ ?_⟩
        rw [h1 rfl]
        rfl
      | false =>
        refine iteF ⟨_, rfl, _, rfl, p, C, dx, [], rfl, hp, W.cl, W.nS, (by show 0 < 1000; decide), fin2 _ ?_⟩
        rw [h0 rfl]
    have dead : ∀ (H : Hp) (D : Ends) (σ : L2.St) (c : Bool) (t : TS), c = false → t D σ H → if c = true then (fun (_ : Ends) (_ : L2.St) (_ : Hp) => False) D σ H else t D σ H := by
      intro H D σ c t hc h
      rw [hc]
      exact iteF h
    cases s with
    | none =>
      cases f with
      | none => exact absurd rfl ok
      | some a =>
        cases c with
        | none => exact absurd rfl ok
        | some b =>
          obtain ⟨_, ok⟩ := ok
          have e := ok rfl
          subst e
          refine ⟨_, rfl, rfl, _, rfl, iteN1 (iN _) ⟨_, rfl, rfl, _, rfl, iteN1 (iN _) ⟨_, rfl, _, rfl, _, _, rfl, rfl, _, rfl, iteD0 (by omega) ?_⟩⟩⟩
          refine ⟨_, rfl, rfl, _, rfl, iteN1 (iN _) ⟨_, rfl, _, rfl, rfl, ?_⟩⟩
          rw [decide_eq_true rfl]
          refine ⟨_, rfl, rfl, _, rfl, iteD1 rfl ⟨_, rfl, true, rfl, iteF ?_⟩⟩
          refine fin true (fun _ => ?_) (fun h => by cases h)
          unfold nrm
          simp only [if_true]
    | some s =>
      cases f with
      | none =>
        refine ⟨_, rfl, rfl, _, rfl, iteN0 rfl (iteF ?_)⟩
        refine ⟨_, rfl, rfl, _, rfl, iteN0 rfl ?_⟩
        refine ⟨_, rfl, rfl, _, rfl, iteD0 (iN _) (iteF ?_)⟩
        exact fin false (fun h => by cases h) (fun _ => rfl)
      | some a =>
        cases c with
        | none =>
          refine ⟨_, rfl, rfl, _, rfl, iteN1 (iN _) ⟨_, rfl, rfl, _, rfl, iteN0 rfl (iteF ?_)⟩⟩
          refine ⟨_, rfl, rfl, _, rfl, iteN1 (iN _) ⟨_, rfl, _, rfl, rfl, ?_⟩⟩
          refine ⟨_, rfl, rfl, _, rfl, iteD0 (iN _) (iteF ?_)⟩
          exact fin _ (fun h => absurd (of_decide_eq_true h) (iN a)) (fun _ => rfl)
        | some b =>
          obtain ⟨ok, _⟩ := ok
          refine ⟨_, rfl, rfl, _, rfl, iteN1 (iN _) ⟨_, rfl, rfl, _, rfl, iteN1 (iN _) ⟨_, rfl, _, rfl, _, _, rfl, rfl, _, rfl, iteD0 (by omega) ?_⟩⟩⟩
          refine ⟨_, rfl, rfl, _, rfl, iteN1 (iN _) ⟨_, rfl, _, rfl, rfl, ?_⟩⟩
          refine ⟨_, rfl, rfl, _, rfl, iteD0 (iN _) (iteF ?_)⟩
          refine fin _ (fun h => ?_) (fun h => ?_)
          · have e : a = b := V.int.inj (of_decide_eq_true h)
            unfold nrm
            simp only [e, if_true]
          · have e : ¬ a = b := fun z => of_decide_eq_false h (congrArg V.int z)
            unfold nrm
            simp only [e, if_false]
end
end BL

namespace BL
open PySem PySem.Spec PyProof.Rows L2
open C8 (Cal Mak pe_c pe_mk)
open RZ (pi_zipA)
abbrev sFor : Stmt := topS 9
abbrev sSB : Stmt := topS 10
abbrev nSB : List Str := ["way", "low", "high", "open_below", "open_above"]
theorem scFor : FnScope ["way", "end"] ["way", "end"] (defScope sFor) := ⟨rfl, rfl, rfl, by decide +kernel, rfl, by decide +kernel, by decide +kernel⟩
theorem scSB : FnScope nSB ["way", "low", "high"] (defScope sSB) := ⟨rfl, rfl, rfl, by decide +kernel, rfl, by decide +kernel, by decide +kernel⟩
def gt2 (lo c : Option Int) : Bool := match lo, c with
  | some l, some k => decide (k < l)
  | _, _ => false
def opn (lo f : Option Int) : Bool := match lo, f with
  | none, _ => true
  | some _, none => false
  | some l, some g => decide (l ≤ g)
def lt2 (hi f : Option Int) : Bool := match hi, f with
  | some h, some g => decide (h < g)
  | _, _ => false
def opa (hi c : Option Int) : Bool := match hi, c with
  | none, _ => true
  | some _, none => false
  | some h, some k => decide (k ≤ h)
def cutO (b : Bool) (lo s : Option Int) : Option Int := if b then none else lo.map (· - s.getD 0)
def sb (s f c lo hi : Option Int) : Option (Option Int × Option Int) :=
  if gt2 lo c = true then none else if lt2 hi f = true then none else some (cutO (opn lo f) lo s, cutO (opa hi c) hi s)
def StrV (H : Hp) (r : V) : Option (Option Int × Option Int) → Prop
  | none => r = .non
  | some (a, b) => ∃ p, r = .ref p ∧ H p = some (.tup [oV a, oV b])
def spSB (C : Addr) : Sp := fun vs H Q _ => ∃ (p : Addr) (s f c lo hi : Option Int), vs = [.ref p, oV lo, oV hi] ∧ WayAt C H p s f c ∧ (s = none → ∃ a, f = some a ∧ c = some a) ∧
  ∀ r H', Same H H' → StrV H' r (sb s f c lo hi) → Q r H'
def spFor (C : Addr) : Sp := fun vs H Q _ => ∃ (p : Addr) (s f c : Option Int) (e : Int), vs = [.ref p, .int e] ∧ WayAt C H p s f c ∧ (s = none → ∃ a, f = some a ∧ c = some a) ∧
  ∀ r H', Same H H' → StrV H' r (sb s f c (some e) (some e)) → Q r H'
def rNot : V → V → Hp → VK → Prop := fun x y H Q => y = .non ∧ Q (.bl (!decide (x = .non))) H
def rIsN' : V → V → Hp → VK → Prop := fun x y H Q => y = .non ∧ Q (.bl (decide (x = .non))) H
def rLt' : V → V → Hp → VK → Prop := rI0 fun i j => .bl (decide (i < j))
def rGt' : V → V → Hp → VK → Prop := rI0 fun i j => .bl (decide (j < i))
def rLe' : V → V → Hp → VK → Prop := rI0 fun i j => .bl (decide (i ≤ j))
def rGe' : V → V → Hp → VK → Prop := rI0 fun i j => .bl (decide (j ≤ i))
def rSub' : V → V → Hp → VK → Prop := rI0 fun i j => .int (i - j)
section
variable {P : Program} {w : World} {K : PySem.W.Frag} {mg : Str → Option Value} {base : Heap} {C : Addr}
abbrev sS : Option Int → Option Int → Option Int → Option Int := fun s _ _ => s
abbrev sF : Option Int → Option Int → Option Int → Option Int := fun _ f _ => f
abbrev sC : Option Int → Option Int → Option Int → Option Int := fun _ _ c => c
theorem rd_gt {C : Addr} {σ : L2.St} {H : Hp} {p : Addr} {s f c lo : Option Int} {i : Nat} {Kt : Bool → Hp → Prop} (h0 : σ[0]? = some (some (.ref p))) (hi : σ[i]? = some (some (oV lo))) (W : WayAt C H p s f c) (k : Kt (gt2 lo c) H) :
    tAnd (tTest (tOp rNot (tVar i) (tC .non))) (tAnd (tTest (tOp rNot (tWF C sC (tVar 0)) (tC .non))) (tTest (tOp rGt' (tVar i) (tWF C sC (tVar 0))))) σ H Kt := by
  cases lo with
  | none => exact ⟨_, hi, rfl, _, rfl, iteN0 rfl k⟩
  | some l =>
    refine ⟨_, hi, rfl, _, rfl, iteN1 (iN l) ⟨_, h0, p, s, f, c, rfl, W, rfl, _, rfl, ?_⟩⟩
    cases c with
    | none => exact iteN0 rfl k
    | some z => exact iteN1 (iN z) ⟨_, hi, _, h0, p, s, f, _, rfl, W, _, _, rfl, rfl, _, rfl, k⟩
theorem rd_lt {C : Addr} {σ : L2.St} {H : Hp} {p : Addr} {s f c lo : Option Int} {i : Nat} {Kt : Bool → Hp → Prop} (h0 : σ[0]? = some (some (.ref p))) (hi : σ[i]? = some (some (oV lo))) (W : WayAt C H p s f c) (k : Kt (lt2 lo f) H) :
    tAnd (tTest (tOp rNot (tVar i) (tC .non))) (tAnd (tTest (tOp rNot (tWF C sF (tVar 0)) (tC .non))) (tTest (tOp rLt' (tVar i) (tWF C sF (tVar 0))))) σ H Kt := by
  cases lo with
  | none => exact ⟨_, hi, rfl, _, rfl, iteN0 rfl k⟩
  | some l =>
    refine ⟨_, hi, rfl, _, rfl, iteN1 (iN l) ⟨_, h0, p, s, f, c, rfl, W, rfl, _, rfl, ?_⟩⟩
    cases f with
    | none => exact iteN0 rfl k
    | some z => exact iteN1 (iN z) ⟨_, hi, _, h0, p, s, _, c, rfl, W, _, _, rfl, rfl, _, rfl, k⟩
theorem rd_on {C : Addr} {σ : L2.St} {H : Hp} {p : Addr} {s f c lo : Option Int} {i : Nat} {Q : VK} (h0 : σ[0]? = some (some (.ref p))) (hi : σ[i]? = some (some (oV lo))) (W : WayAt C H p s f c) (k : Q (.bl (opn lo f)) H) :
    tOrV (tOp rIsN' (tVar i) (tC .non)) (tAndV (tOp rNot (tWF C sF (tVar 0)) (tC .non)) (tOp rLe' (tVar i) (tWF C sF (tVar 0)))) σ H Q := by
  cases lo with
  | none => exact ⟨_, hi, rfl, _, rfl, iteD1 rfl k⟩
  | some l =>
    refine ⟨_, hi, rfl, _, rfl, iteD0 (iN l) ⟨_, h0, p, s, f, c, rfl, W, rfl, _, rfl, ?_⟩⟩
    cases f with
    | none => exact iteN0 rfl k
    | some z => exact iteN1 (iN z) ⟨_, hi, _, h0, p, s, _, c, rfl, W, _, _, rfl, rfl, k⟩
theorem rd_oa {C : Addr} {σ : L2.St} {H : Hp} {p : Addr} {s f c lo : Option Int} {i : Nat} {Q : VK} (h0 : σ[0]? = some (some (.ref p))) (hi : σ[i]? = some (some (oV lo))) (W : WayAt C H p s f c) (k : Q (.bl (opa lo c)) H) :
    tOrV (tOp rIsN' (tVar i) (tC .non)) (tAndV (tOp rNot (tWF C sC (tVar 0)) (tC .non)) (tOp rGe' (tVar i) (tWF C sC (tVar 0)))) σ H Q := by
  cases lo with
  | none => exact ⟨_, hi, rfl, _, rfl, iteD1 rfl k⟩
  | some l =>
    refine ⟨_, hi, rfl, _, rfl, iteD0 (iN l) ⟨_, h0, p, s, f, c, rfl, W, rfl, _, rfl, ?_⟩⟩
    cases c with
    | none => exact iteN0 rfl k
    | some z => exact iteN1 (iN z) ⟨_, hi, _, h0, p, s, f, _, rfl, W, _, _, rfl, rfl, k⟩
theorem rd_cut {C : Addr} {σ : L2.St} {H : Hp} {p : Addr} {s f c lo : Option Int} {i j : Nat} {b : Bool} {Q : VK} (h0 : σ[0]? = some (some (.ref p))) (hi : σ[i]? = some (some (oV lo))) (hj : σ[j]? = some (some (.bl b))) (W : WayAt C H p s f c)
    (hb : b = false → ∃ l z, lo = some l ∧ s = some z) (k : Q (oV (cutO b lo s)) H) : tIf (tB (tVar j)) (tC .non) (tOp rSub' (tVar i) (tWF C sS (tVar 0))) σ H Q := by
  refine ⟨_, hj, b, rfl, ?_⟩
  cases b with
  | true => exact iteT k
  | false =>
    obtain ⟨l, z, rfl, rfl⟩ := hb rfl
    exact iteF ⟨_, hi, _, h0, p, _, f, c, rfl, W, _, _, rfl, rfl, k⟩
theorem ok_SB {f : Addr} {fd : FuncData} (F : Fun K "starts_between" "starts_between" sSB f fd) (W : WT K C) (pS : Prp P w K mg base C "shift" "_shift") (pF : Prp P w K mg base C "floor" "_floor") (pC : Prp P w K mg base C "cap" "_cap") : FnOk P w K mg base CX0 3 f fd ["way", "low", "high"] (spSB C) := by
  refine F.ok scSB (fun vs H Q E h => ?_) (fun cdv A outer s H vs Q E hr h => ?_)
  · obtain ⟨p, s, f, c, lo, hi, rfl, _⟩ := h
    rfl
  · obtain ⟨p, s, f, c, lo, hi, rfl, hW, hs, q⟩ := h
    have m0 := mono_var 0
    refine ⟨_, (pss_cons (ps_if ((pw_and (pt_cmpR op_notN (pv 1) pe_non (nomark _)) (pw_and (pt_cmpR op_notN (pe_sel wF_c m0 (pv 0) W.cl pC hr (by decide)) pe_non (nomark _)) (pw_and1 (pt_cmpR op_gt (pv 1) (pe_sel wF_c m0 (pv 0) W.cl pC hr (by decide)) (nomark _)))))).pt (pss_one (ps_ret pe_non)) pss_nil)
  (pss_cons (ps_if ((pw_and (pt_cmpR op_notN (pv 2) pe_non (nomark _)) (pw_and (pt_cmpR op_notN (pe_sel wF_f m0 (pv 0) W.cl pF hr (by decide)) pe_non (nomark _)) (pw_and1 (pt_cmpR op_lt (pv 2) (pe_sel wF_f m0 (pv 0) W.cl pF hr (by decide)) (nomark _)))))).pt (pss_one (ps_ret pe_non)) pss_nil)
  (pss_cons (ps_set (i := 3) scSB.nd rfl (.inl rfl) (pe_or (pe_cmpR op_isN (pv 1) pe_non (nomark _)) (pe_one (pe_and (pe_cmpR op_notN (pe_sel wF_f m0 (pv 0) W.cl pF hr (by decide)) pe_non (nomark _)) (pe_one (pe_cmpR op_le (pv 1) (pe_sel wF_f m0 (pv 0) W.cl pF hr (by decide)) (nomark _)))))))
  (pss_cons (ps_set (i := 4) scSB.nd rfl (.inl rfl) (pe_or (pe_cmpR op_isN (pv 2) pe_non (nomark _)) (pe_one (pe_and (pe_cmpR op_notN (pe_sel wF_c m0 (pv 0) W.cl pC hr (by decide)) pe_non (nomark _)) (pe_one (pe_cmpR op_ge (pv 2) (pe_sel wF_c m0 (pv 0) W.cl pC hr (by decide)) (nomark _)))))))
  (pss_one (ps_ret (pe_tup (pa_cons (pe_ifExp (pt_val (pv 3)) pe_non (pe_op op_sub (pv 1) (pe_sel wF_s m0 (pv 0) W.cl pS hr (by decide)))) (pa_cons (pe_ifExp (pt_val (pv 4)) pe_non (pe_op op_sub (pv 2) (pe_sel wF_s m0 (pv 0) W.cl pS hr (by decide)))) pa_nil))))))))), ?_⟩
    refine rd_gt (p := p) (i := 1) rfl rfl hW ?_
    refine ite2 (fun g => ?_) (fun g => ?_)
    · refine q .non H (Same.refl H) ?_
      unfold sb
      rw [if_pos g]
      rfl
    refine rd_lt (p := p) (i := 2) rfl rfl hW ?_
    refine ite2 (fun g2 => ?_) (fun g2 => ?_)
    · refine q .non H (Same.refl H) ?_
      unfold sb
      rw [if_neg g, if_pos g2]
      rfl
    refine rd_on (p := p) (i := 1) rfl rfl hW ?_
    refine rd_oa (p := p) (i := 2) rfl rfl hW ?_
    have sh : (opn lo f = false ∨ opa hi c = false) → ∃ z, s = some z := by
      intro ho
      cases s with
      | some z => exact ⟨z, rfl⟩
      | none =>
        obtain ⟨a, rfl, rfl⟩ := hs rfl
        exfalso
        rcases ho with ho | ho
        · cases lo with
          | none => cases ho
          | some l =>
            have g' : ¬ a < l := fun z => g (decide_eq_true z)
            have ho' : ¬ l ≤ a := of_decide_eq_false ho
            omega
        · cases hi with
          | none => cases ho
          | some l =>
            have g' : ¬ l < a := fun z => g2 (decide_eq_true z)
            have ho' : ¬ a ≤ l := of_decide_eq_false ho
            omega
    refine rd_cut (p := p) (i := 1) (j := 3) rfl rfl rfl hW (fun e => ?_) ?_
    · obtain ⟨z, hz⟩ := sh (.inl e)
      cases lo with
      | none => cases e
      | some l => exact ⟨l, z, rfl, hz⟩
    refine rd_cut (p := p) (i := 2) (j := 4) rfl rfl rfl hW (fun e => ?_) ?_
    · obtain ⟨z, hz⟩ := sh (.inr e)
      cases hi with
      | none => cases e
      | some l => exact ⟨l, z, rfl, hz⟩
    refine ⟨(by show 2 ≤ sizeLine; decide), fun r nr => ?_⟩
    refine q (.ref r) _ (same_upd nr) ?_
    unfold sb
    rw [if_neg g, if_neg g2]
    exact ⟨r, rfl, upd_same⟩
theorem ok_For {f : Addr} {fd : FuncData} (F : Fun K "starts_for" "starts_for" sFor f fd) (c_starts_between : Cal P w K mg base 3 "starts_between" (spSB C) []) : FnOk P w K mg base CX0 4 f fd ["way", "end"] (spFor C) := by
  refine F.ok scFor (fun vs H Q E h => ?_) (fun cdv A outer s H vs Q E hr h => ?_)
  · obtain ⟨p, s, f, c, e, rfl, _⟩ := h
    rfl
  · obtain ⟨p, s, f, c, e, rfl, hW, hs, q⟩ := h
    refine ⟨_, (pss_one (ps_ret (pe_c c_starts_between hr (by decide) (by rfl) (pa_cons (pv 0) (pa_cons (pv 1) (pa_cons (pv 1) pa_nil)))))), ?_⟩
    exact ⟨_, rfl, _, rfl, _, rfl, p, s, f, c, some e, some e, rfl, hW, hs, q⟩
end
end BL

namespace BL
open PySem PySem.Spec PyProof.Rows L2
open C8 (Cal Mak pe_c pe_mk)
open RZ (pi_zipA)
section
variable {P : Program} {w : World} {K : PySem.W.Frag} {mg : Str → Option Value} {base : Heap} {C : Addr}
theorem same0 {f : Addr} {fd : FuncData} : FnOk P w K mg base CX0 0 f fd ["_law_got", "_law_due"] (spSame K 0) := ⟨fun _ _ _ _ h => h.elim, fun _ _ _ _ _ _ _ _ _ _ _ _ _ h => h.elim⟩
theorem same1 {f : Addr} {fd : FuncData} {n : Nat} (F : Fun K "_law_same" "_law_same" sSame f fd) (T : Bt mg) (c__law_same : Cal P w K mg base n "_law_same" (spSame K n) []) : FnOk P w K mg base CX0 (n + 1) f fd ["_law_got", "_law_due"] (spSame K (n + 1)) := by
  refine F.ok scSame (fun vs H Q E h => ?_) (fun cdv A outer s H vs Q E hr h => ?_)
  · obtain ⟨x, y, rfl, _⟩ := h
    rfl
  · obtain ⟨x, y, rfl, hE, q⟩ := h
    refine ⟨_, (pss_cons (ps_if (pt_val (pe_callB call_isiT (by rfl) T.isinstance (by decide +kernel) (pa_cons (pv 1) (pa_cons (pe_tup (pa_cons (pe_bltn (v := .ty "list") (by rfl) T.list (by decide +kernel) rfl) (pa_cons (pe_bltn (v := .ty "tuple") (by rfl) T.tuple (by decide +kernel) rfl) pa_nil))) pa_nil)))) (pss_cons (ps_if (pt_cmpR op_ne (pe_callB call_isi (by rfl) T.isinstance (by decide +kernel) (pa_cons (pv 0) (pa_cons (pe_bltn (v := .ty "list") (by rfl) T.list (by decide +kernel) rfl) pa_nil))) (pe_callB call_isi (by rfl) T.isinstance (by decide +kernel) (pa_cons (pv 1) (pa_cons (pe_bltn (v := .ty "list") (by rfl) T.list (by decide +kernel) rfl) pa_nil))) (nomark _)) (pss_one (ps_ret pe_bl)) pss_nil)
  (pss_cons (ps_if (pt_cmpR op_ne (pe_callB call_isi (by rfl) T.isinstance (by decide +kernel) (pa_cons (pv 0) (pa_cons (pe_bltn (v := .ty "tuple") (by rfl) T.tuple (by decide +kernel) rfl) pa_nil))) (pe_callB call_isi (by rfl) T.isinstance (by decide +kernel) (pa_cons (pv 1) (pa_cons (pe_bltn (v := .ty "tuple") (by rfl) T.tuple (by decide +kernel) rfl) pa_nil))) (nomark _)) (pss_one (ps_ret pe_bl)) pss_nil)
  (pss_one (ps_ret (pe_and (pe_cmpR op_eq (pe_callB call_len_seq (by rfl) T.len PySem.boot_len (pa_cons (pv 0) pa_nil)) (pe_callB call_len_seq (by rfl) T.len PySem.boot_len (pa_cons (pv 1) pa_nil)) (nomark _)) (pe_one (pe_callB (cr_all rfl) (by rfl) T.all (by decide +kernel) (pa_cons (pe_lc (own := [("_law_mine", 2), ("_law_its", 3)]) (g := gTup K 2 (gCons (gName 2) (gCons (gName 3) gNil))) (by rfl) scSame.nd (pi_zipA (by rfl) T.zip (pa_cons (pv 0) (pa_cons (pv 1) pa_nil))) (blkOk_by (own := [("_law_mine", 2), ("_law_its", 3)]) (N := nSame) (sc := defScope sSame) (by decide +kernel)) (fun _ _ _ _ _ => (pg_tup rfl (pgs_cons (pg_name (i := 2) scSame.nd rfl (.inl rfl)) (pgs_cons (pg_name (i := 3) scSame.nd rfl (.inl rfl)) pgs_nil)))) (fun _ _ _ _ _ => pts_nil) (fun _ _ _ _ _ => (pe_c c__law_same hr (Nat.le_refl _) (by rfl) (pa_cons (pv 2) (pa_cons (pv 3) pa_nil))))) pa_nil)))))))) pss_nil)
  (pss_cons (ps_if (pw_or (pt_cmpR op_isN (pv 1) pe_non (nomark _)) (pw_or1 (pt_val (pe_callB call_isiT (by rfl) T.isinstance (by decide +kernel) (pa_cons (pv 1) (pa_cons (pe_tup (pa_cons (pe_bltn (v := .ty "bool") (by rfl) T.bool (by decide +kernel) rfl) (pa_cons (pe_bltn (v := .ty "str") (by rfl) T.str (by decide +kernel) rfl) pa_nil))) pa_nil)))))).pt (pss_one (ps_ret (pe_and (pe_cmpR op_eq (pv 0) (pv 1) (nomark _)) (pe_and (pe_cmpR op_eq (pe_callB call_isi (by rfl) T.isinstance (by decide +kernel) (pa_cons (pv 0) (pa_cons (pe_bltn (v := .ty "bool") (by rfl) T.bool (by decide +kernel) rfl) pa_nil))) (pe_callB call_isi (by rfl) T.isinstance (by decide +kernel) (pa_cons (pv 1) (pa_cons (pe_bltn (v := .ty "bool") (by rfl) T.bool (by decide +kernel) rfl) pa_nil))) (nomark _)) (pe_one (pe_cmpR op_eq (pe_cmpR op_isN (pv 0) pe_non (nomark _)) (pe_cmpR op_isN (pv 1) pe_non (nomark _)) (nomark _))))))) pss_nil)
  (pss_one (ps_ret (pe_and (pe_callB call_isi (by rfl) T.isinstance (by decide +kernel) (pa_cons (pv 0) (pa_cons (pe_bltn (v := .ty "int") (by rfl) T.int (by decide +kernel) rfl) pa_nil))) (pe_and (pe_not (pe_callB call_isi (by rfl) T.isinstance (by decide +kernel) (pa_cons (pv 0) (pa_cons (pe_bltn (v := .ty "bool") (by rfl) T.bool (by decide +kernel) rfl) pa_nil)))) (pe_one (pe_cmpR op_eq (pv 0) (pv 1) (nomark _))))))))), ?_⟩
    cases hE with
    | non n =>
      refine ⟨_, rfl, (by show 2 ≤ sizeLine; decide), fun p np => ?_⟩
      refine ⟨_, p, _, _, _, false, rfl, upd_same, .cons (.ty _) (.cons (.ty _) .nil), .base .non, any_of (by decide +kernel), _, rfl, iteF ?_⟩
      refine ⟨_, rfl, rfl, _, rfl, iteD1 rfl (iteT ?_)⟩
      refine ⟨_, rfl, _, rfl, rfl, _, rfl, iteD1 rfl ?_⟩
      refine ⟨_, rfl, _, _, _, _, false, rfl, .ty _, .base .non, kit_ty (by decide +kernel), _, rfl, _, _, _, _, false, rfl, .ty _, .base .non, kit_ty (by decide +kernel), rfl, _, rfl, iteD1 rfl ?_⟩
      exact ⟨_, rfl, rfl, _, rfl, rfl, rfl, q _ (same_upd np)⟩
    | bl n c =>
      refine ⟨_, rfl, (by show 2 ≤ sizeLine; decide), fun p np => ?_⟩
      refine ⟨_, p, _, _, _, false, rfl, upd_same, .cons (.ty _) (.cons (.ty _) .nil), .base (.bl c), any_of (by decide +kernel), _, rfl, iteF ?_⟩
      refine ⟨_, rfl, rfl, _, rfl, iteD0 (fun h => by cases h) ?_⟩
      refine ⟨_, rfl, (by show 2 ≤ sizeLine; decide), fun p2 np2 => ?_⟩
      refine ⟨_, p2, _, _, _, true, rfl, upd_same, .cons (.ty _) (.cons (.ty _) .nil), .base (.bl c), any_of (by decide +kernel), _, rfl, iteT ?_⟩
      refine ⟨_, rfl, _, rfl, rfl, _, rfl, iteD1 rfl ?_⟩
      refine ⟨_, rfl, _, _, _, _, true, rfl, .ty _, .base (.bl c), kit_ty (by decide +kernel), _, rfl, _, _, _, _, true, rfl, .ty _, .base (.bl c), kit_ty (by decide +kernel), rfl, _, rfl, iteD1 rfl ?_⟩
      refine ⟨_, rfl, rfl, _, rfl, rfl, rfl, ?_⟩
      rw [decide_eq_true rfl]
      exact q _ ((same_upd np).trans (same_upd np2))
    | str n c =>
      refine ⟨_, rfl, (by show 2 ≤ sizeLine; decide), fun p np => ?_⟩
      refine ⟨_, p, _, _, _, false, rfl, upd_same, .cons (.ty _) (.cons (.ty _) .nil), .base (.str c), any_of (by decide +kernel), _, rfl, iteF ?_⟩
      refine ⟨_, rfl, rfl, _, rfl, iteD0 (fun h => by cases h) ?_⟩
      refine ⟨_, rfl, (by show 2 ≤ sizeLine; decide), fun p2 np2 => ?_⟩
      refine ⟨_, p2, _, _, _, true, rfl, upd_same, .cons (.ty _) (.cons (.ty _) .nil), .base (.str c), any_of (by decide +kernel), _, rfl, iteT ?_⟩
      refine ⟨_, rfl, _, rfl, rfl, _, rfl, iteD1 rfl ?_⟩
      refine ⟨_, rfl, _, _, _, _, false, rfl, .ty _, .base (.str c), kit_ty (by decide +kernel), _, rfl, _, _, _, _, false, rfl, .ty _, .base (.str c), kit_ty (by decide +kernel), rfl, _, rfl, iteD1 rfl ?_⟩
      refine ⟨_, rfl, rfl, _, rfl, rfl, rfl, ?_⟩
      rw [decide_eq_true rfl]
      exact q _ ((same_upd np).trans (same_upd np2))
    | int n c =>
      refine ⟨_, rfl, (by show 2 ≤ sizeLine; decide), fun p np => ?_⟩
      refine ⟨_, p, _, _, _, false, rfl, upd_same, .cons (.ty _) (.cons (.ty _) .nil), .base (.int c), any_of (by decide +kernel), _, rfl, iteF ?_⟩
      refine ⟨_, rfl, rfl, _, rfl, iteD0 (fun h => by cases h) ?_⟩
      refine ⟨_, rfl, (by show 2 ≤ sizeLine; decide), fun p2 np2 => ?_⟩
      refine ⟨_, p2, _, _, _, false, rfl, upd_same, .cons (.ty _) (.cons (.ty _) .nil), .base (.int c), any_of (by decide +kernel), _, rfl, iteF ?_⟩
      refine ⟨_, rfl, _, _, _, _, true, rfl, .ty _, .base (.int c), kit_ty (by decide +kernel), _, rfl, iteT ?_⟩
      refine ⟨_, rfl, _, _, _, _, false, rfl, .ty _, .base (.int c), kit_ty (by decide +kernel), _, rfl, _, rfl, iteT ?_⟩
      refine ⟨_, rfl, _, rfl, rfl, ?_⟩
      rw [decide_eq_true rfl]
      exact q _ ((same_upd np).trans (same_upd np2))
    | @lst n a b xs ys h1 h2 hl hz he =>
      refine ⟨_, rfl, (by show 2 ≤ sizeLine; decide), fun p np => ?_⟩
      have s1 : Same H (upd H p (.tup [.ty "list", .ty "tuple"])) := same_upd np
      have hp : (upd H p (.tup [.ty "list", .ty "tuple"])) p = some (.tup [.ty "list", .ty "tuple"]) := upd_same
      generalize (upd H p (.tup [.ty "list", .ty "tuple"])) = H1 at s1 hp ⊢
      have g1 := s1.seq h1
      have g2 := s1.seq h2
      refine ⟨_, p, _, _, _, true, rfl, hp, .cons (.ty _) (.cons (.ty _) .nil), ty_l g2, any_of (by decide +kernel), _, rfl, iteT ?_⟩
      refine ⟨_, rfl, _, _, _, _, true, rfl, .ty _, ty_l g1, kit_ty (by decide +kernel), _, rfl, _, _, _, _, true, rfl, .ty _, ty_l g2, kit_ty (by decide +kernel), rfl, _, rfl, iteNS rfl ?_⟩
      refine ⟨_, rfl, _, _, _, _, false, rfl, .ty _, ty_l g1, kit_ty (by decide +kernel), _, rfl, _, _, _, _, false, rfl, .ty _, ty_l g2, kit_ty (by decide +kernel), rfl, _, rfl, iteNS rfl ?_⟩
      refine ⟨_, rfl, a, xs, rfl, .inl g1, _, rfl, b, ys, rfl, .inl g2, rfl, _, rfl, iteD1 (by rw [hl]) ?_⟩
      refine ⟨_, rfl, _, rfl, a, b, xs, ys, rfl, .inl ⟨g1, g2, fun D nD => ?_⟩⟩
      have s2 : Same H (upd H1 D (.lst [])) := s1.trans (same_upd nD)
      refine lc_it (walk_zip (n := xs.length) (by rw [← hl, Nat.min_self])) (fun i H3 => Same H H3 ∧ H3 D = some (.lst ((List.replicate i true).map V.bl))) ⟨s2, upd_same⟩ (fun i H3 _ h => ⟨h.1.seq h1, h.1.seq h2⟩) ?_ ?_
      · rintro i z H3 H4 hi ⟨s3, e3⟩ ⟨T1, x1, x2, rfl, nT, rfl, f1, f2⟩
        have s4 : Same H (upd H3 T1 (.tup [x1, x2])) := s3.trans (same_upd nT)
        have e4 : (upd H3 T1 (.tup [x1, x2])) D = some (.lst ((List.replicate i true).map V.bl)) := by rw [upd_ne (ne_of_none e3 nT)]; exact e3
        refine ⟨T1, [x1, x2], rfl, SqT.of upd_same, rfl, x1, [x2], rfl, x2, [], rfl, rfl, rfl, ?_⟩
        dsimp only [tYes]
        refine iteT ?_
        refine ⟨_, rfl, _, rfl, x1, x2, rfl, (he i x1 x2 f1 f2).same s4, fun H5 s5 => ⟨_, s5 _ _ e4, ?_, ?_, ?_⟩⟩
        · rw [List.length_map, List.length_replicate]
          exact small1000 (by first | omega | (rw [List.length_map] at hi; omega))
        · intro p o e
          rw [upd_ne (fun z => by rw [z] at e; rw [s1.free nD] at e; cases e)]
          exact s5 _ _ (s4 _ _ e)
        · rw [upd_same, List.replicate_succ', List.map_append]
          rfl
      · rintro H3 ⟨s3, e3⟩
        refine ⟨D, _, rfl, SqL.of e3, ?_⟩
        rw [show (List.replicate xs.length true).all id = true by simp]
        exact q H3 s3
    | @tup n a b xs ys h1 h2 hl hz he =>
      refine ⟨_, rfl, (by show 2 ≤ sizeLine; decide), fun p np => ?_⟩
      have s1 : Same H (upd H p (.tup [.ty "list", .ty "tuple"])) := same_upd np
      have hp : (upd H p (.tup [.ty "list", .ty "tuple"])) p = some (.tup [.ty "list", .ty "tuple"]) := upd_same
      generalize (upd H p (.tup [.ty "list", .ty "tuple"])) = H1 at s1 hp ⊢
      have g1 := s1.seT h1
      have g2 := s1.seT h2
      refine ⟨_, p, _, _, _, true, rfl, hp, .cons (.ty _) (.cons (.ty _) .nil), ty_t g2, any_of (by decide +kernel), _, rfl, iteT ?_⟩
      refine ⟨_, rfl, _, _, _, _, false, rfl, .ty _, ty_t g1, kit_ty (by decide +kernel), _, rfl, _, _, _, _, false, rfl, .ty _, ty_t g2, kit_ty (by decide +kernel), rfl, _, rfl, iteNS rfl ?_⟩
      refine ⟨_, rfl, _, _, _, _, true, rfl, .ty _, ty_t g1, kit_ty (by decide +kernel), _, rfl, _, _, _, _, true, rfl, .ty _, ty_t g2, kit_ty (by decide +kernel), rfl, _, rfl, iteNS rfl ?_⟩
      refine ⟨_, rfl, a, xs, rfl, .inr g1, _, rfl, b, ys, rfl, .inr g2, rfl, _, rfl, iteD1 (by rw [hl]) ?_⟩
      refine ⟨_, rfl, _, rfl, a, b, xs, ys, rfl, .inr ⟨g1, g2, fun D nD => ?_⟩⟩
      have s2 : Same H (upd H1 D (.lst [])) := s1.trans (same_upd nD)
      refine lc_it (walk_zipT (n := xs.length) (by rw [← hl, Nat.min_self])) (fun i H3 => Same H H3 ∧ H3 D = some (.lst ((List.replicate i true).map V.bl))) ⟨s2, upd_same⟩ (fun i H3 _ h => ⟨h.1.seT h1, h.1.seT h2⟩) ?_ ?_
      · rintro i z H3 H4 hi ⟨s3, e3⟩ ⟨T1, x1, x2, rfl, nT, rfl, f1, f2⟩
        have s4 : Same H (upd H3 T1 (.tup [x1, x2])) := s3.trans (same_upd nT)
        have e4 : (upd H3 T1 (.tup [x1, x2])) D = some (.lst ((List.replicate i true).map V.bl)) := by rw [upd_ne (ne_of_none e3 nT)]; exact e3
        refine ⟨T1, [x1, x2], rfl, SqT.of upd_same, rfl, x1, [x2], rfl, x2, [], rfl, rfl, rfl, ?_⟩
        dsimp only [tYes]
        refine iteT ?_
        refine ⟨_, rfl, _, rfl, x1, x2, rfl, (he i x1 x2 f1 f2).same s4, fun H5 s5 => ⟨_, s5 _ _ e4, ?_, ?_, ?_⟩⟩
        · rw [List.length_map, List.length_replicate]
          exact small1000 (by first | omega | (rw [List.length_map] at hi; omega))
        · intro p o e
          rw [upd_ne (fun z => by rw [z] at e; rw [s1.free nD] at e; cases e)]
          exact s5 _ _ (s4 _ _ e)
        · rw [upd_same, List.replicate_succ', List.map_append]
          rfl
      · rintro H3 ⟨s3, e3⟩
        refine ⟨D, _, rfl, SqL.of e3, ?_⟩
        rw [show (List.replicate xs.length true).all id = true by simp]
        exact q H3 s3
end
end BL

namespace BL
open PySem PySem.Spec PyProof.Rows L2
open C8 (Cal Mak pe_c pe_mk)
open RZ (pi_zipA)
abbrev sDrawn : Stmt := topS 18
abbrev sTold : Stmt := topS 21
abbrev nDrawn : List Str := ["_law_box_here", "_law_low_so", "_law_wide", "_law_sort_so", "_law_floor_so", "_law_cap_so"]
abbrev nTold : List Str := ["_law_bits", "_law_low_so", "_law_top_so", "_law_told", "_law_begin", "_law_is_there"]
theorem scdrawn_way : FnScope nDrawn ["_law_box_here"] (defScope sDrawn) := ⟨rfl, rfl, rfl, by decide +kernel, rfl, by decide +kernel, by decide +kernel⟩
theorem sctold_right : FnScope nTold ["_law_bits", "_law_low_so", "_law_top_so", "_law_told"] (defScope sTold) := ⟨rfl, rfl, rfl, by decide +kernel, rfl, by decide +kernel, by decide +kernel⟩
def leO (f c : Option Int) : Prop := ∀ x y, f = some x → c = some y → x ≤ y
def spDrawn : Sp := fun vs H Q _ => ∃ (b : Addr) (n : Nat), vs = [.ref b] ∧ Box H b n ∧ n ≤ 900000000 ∧
  ∀ (t : Addr) (s : Int) (f c : Option Int) (H' : Hp), But b H H' → Box H' b (n + 4) → H t = none → H' t = some (.tup [.int s, oV f, oV c]) → leO f c → Q (.ref t) H'
theorem mem_at {xs : List V} {i : Nat} {v : V} {R : V → Prop} (h : ∀ x ∈ xs, R x) (e : xs[i]? = some v) : R v := h v (List.mem_of_getElem? e)
theorem But.none {b : Addr} {H H' : Hp} {p : Addr} (x : But b H H') (n : H' p = none) (q : p ≠ b) : H p = none := by
  cases e : H p with
  | none => rfl
  | some o =>
    rw [x p o q e] at n
    cases n
theorem Box.nb {H : Hp} {b p : Addr} {n : Nat} (h : Box H b n) (e : H p = none) : p ≠ b := by
  obtain ⟨x, y, z, f, _⟩ := h
  intro q
  rw [q, f] at e
  cases e
section
variable {P : Program} {w : World} {K : PySem.W.Frag} {mg : Str → Option Value} {base : Heap} {C : Addr}
theorem ok_drawn {f : Addr} {fd : FuncData} (F : Fun K "_law_drawn_way" "_law_drawn_way" sDrawn f fd) (c__law_take : Cal P w K mg base 1 "_law_take" spTake []) (c__law_of : Cal P w K mg base 2 "_law_of" (spOf K) []) : FnOk P w K mg base CX0 3 f fd ["_law_box_here"] spDrawn := by
  refine F.ok scdrawn_way (fun vs H Q E h => ?_) (fun cdv A outer s H vs Q E hr h => ?_)
  · obtain ⟨b, n, rfl, _⟩ := h
    rfl
  · obtain ⟨b, n, rfl, hB, hn, q⟩ := h
    refine ⟨_, (pss_cons (ps_par (i := 1) (j := 2) rfl scdrawn_way.nd rfl rfl (by decide) rfl rfl (pa_cons (pe_op op_sub (pe_c c__law_take hr (by decide) (by rfl) (pa_cons (pv 0) (pa_cons pe_int pa_nil))) pe_int) (pa_cons (pe_c c__law_of hr (by decide) (by rfl) (pa_cons (pv 0) (pa_cons (pe_lst (pa_cons pe_int (pa_cons pe_int (pa_cons pe_int (pa_cons pe_int (pa_cons pe_int (pa_cons pe_int (pa_cons pe_int (pa_cons pe_int pa_nil))))))))) pa_nil))) pa_nil)) (by rfl))
  (pss_cons (ps_set (i := 3) scdrawn_way.nd rfl (.inl rfl) (pe_c c__law_take hr (by decide) (by rfl) (pa_cons (pv 0) (pa_cons pe_int pa_nil))))
  (pss_cons (ps_set (i := 4) scdrawn_way.nd rfl (.inl rfl) (pe_ifExp (pt_cmpR op_in_seq (pv 3) (pe_tup (pa_cons pe_int (pa_cons pe_int (pa_cons pe_int (pa_cons pe_int pa_nil))))) (by rfl)) (pv 1) pe_non))
  (pss_cons (ps_set (i := 5) scdrawn_way.nd rfl (.inl rfl) (pe_ifExp ((pw_and (pt_cmpR op_gt (pv 3) pe_int (nomark _)) (pw_and1 (pt_cmpR op_lt (pv 3) pe_int (nomark _)))).pt) (pe_op op_add (pv 1) (pv 2)) pe_non))
  (pss_one (ps_ret (pe_tup (pa_cons (pe_op op_sub (pe_c c__law_take hr (by decide) (by rfl) (pa_cons (pv 0) (pa_cons pe_int pa_nil))) pe_int) (pa_cons (pv 4) (pa_cons (pv 5) pa_nil)))))))))), ?_⟩
    refine ⟨_, rfl, b, 17, n, rfl, by decide, by decide, hB, by omega, fun r1 H1 r10 r11 b1 B1 => ⟨_, _, rfl, rfl, ?_⟩⟩
    refine ⟨_, rfl, (by show 8 ≤ sizeLine; decide), fun l nl => ?_⟩
    have s2 : But b H (upd H1 l (.lst [.int 0, .int 1, .int 1, .int 2, .int 3, .int 5, .int 9, .int 14])) := b1.same (same_upd nl)
    have nb : l ≠ b := B1.nb nl
    refine ⟨b, l, _, n + 1, rfl, upd_same, nb, (fun h => by cases h), (by decide), B1.same (same_upd nl), by omega, fun i v H2 hv b2 B2 => ?_⟩
    obtain ⟨u, hu, rfl⟩ : ∃ u : Int, 0 ≤ u ∧ v = .int u := by
      refine mem_at (R := fun v => ∃ u : Int, 0 ≤ u ∧ v = .int u) (fun x hx => ?_) hv
      simp only [List.mem_cons, List.not_mem_nil, or_false] at hx
      rcases hx with rfl | rfl | rfl | rfl | rfl | rfl | rfl | rfl <;> exact ⟨_, by decide, rfl⟩
    have s3 := s2.trans b2
    refine ⟨_, _, rfl, ?_⟩
    refine ⟨_, rfl, b, 6, n + 2, rfl, by decide, by decide, B2, by omega, fun r3 H3 r30 r31 b3 B3 => ?_⟩
    have s4 := s3.trans b3
    -- in (1, 3, 4, 5)
    refine ⟨_, rfl, (by show 4 ≤ sizeLine; decide), fun p np => ⟨p, _, rfl, .inr (SqT.of upd_same), rfl, rfl, _, rfl, ?_⟩⟩
    have s5 := s4.same (same_upd (o := .tup [.int 1, .int 3, .int 4, .int 5]) np)
    have B5 := B3.same (same_upd (o := .tup [.int 1, .int 3, .int 4, .int 5]) np)
    generalize (upd H3 p (.tup [.int 1, .int 3, .int 4, .int 5])) = H5 at s5 B5 ⊢
    have tail : ∀ (fv cv : Option Int), leO fv cv → (tRet (tTup (tCons (tOp rSub' (tCall spTake [] C8.E0 (tCons (tVar 0) (tCons (tC (.int 13)) tNil))) (tC (.int 6))) (tCons (tVar 4) (tCons (tVar 5) tNil))))) { nx := fun _ H' => Q .non H', rt := Q } [some (.ref b), some (.int (r1 - 8)), some (.int u), some (.int r3), some (oV fv), some (oV cv)] H5 := by
      intro fv cv hle
      refine ⟨_, rfl, b, 13, n + 3, rfl, by decide, by decide, B5, by omega, fun r6 H6 r60 r61 b6 B6 => ⟨_, _, rfl, rfl, _, rfl, _, rfl, (by show 3 ≤ sizeLine; decide), fun t nt => ?_⟩⟩
      have s7 := (s5.trans b6)
      have n7 := s7.none nt (B6.nb nt)
      exact q t (r6 - 6) fv cv _ (s7.same (same_upd nt)) (B6.same (same_upd nt)) n7 upd_same hle
    have mid : ∀ (fv : Option Int), (fv = none ∨ fv = some (r1 - 8)) → (tSeq (tAsg (tIf (tAnd (tTest (tOp rGt' (tVar 3) (tC (.int 1)))) (tTest (tOp rLt' (tVar 3) (tC (.int 6))))) (tOp (rI0 fun i j => .int (i + j)) (tVar 1) (tVar 2)) (tC .non)) (gName 5)) (tRet (tTup (tCons (tOp rSub' (tCall spTake [] C8.E0 (tCons (tVar 0) (tCons (tC (.int 13)) tNil))) (tC (.int 6))) (tCons (tVar 4) (tCons (tVar 5) tNil)))))) { nx := fun _ H' => Q .non H', rt := Q } [some (.ref b), some (.int (r1 - 8)), some (.int u), some (.int r3), some (oV fv), none] H5 := by
      intro fv hf
      refine ⟨_, rfl, _, _, rfl, rfl, _, rfl, ?_⟩
      refine ite2 (fun g => ?_) (fun g => ?_)
      · refine ⟨_, rfl, _, _, rfl, rfl, _, rfl, ?_⟩
        refine ite2 (fun g2 => ?_) (fun g2 => ?_)
        · refine ⟨_, rfl, _, rfl, _, _, rfl, rfl, tail fv (some (r1 - 8 + u)) ?_⟩
          intro x y hx hy
          rcases hf with rfl | rfl
          · cases hx
          · cases hx
            cases hy
            omega
        · exact tail fv none (fun x y _ h => by cases h)
      · exact iteF (tail fv none (fun x y _ h => by cases h))
    refine ite2 (fun g => ?_) (fun g => ?_)
    · exact ⟨_, rfl, mid (some (r1 - 8)) (.inr rfl)⟩
    · exact mid none (.inl rfl)
end
end BL

namespace BL
open PySem PySem.Spec PyProof.Rows L2
open C8 (Cal Mak pe_c pe_mk)
open RZ (pi_zipA)
def inO (o : Option (Option Int × Option Int)) (x : Int) : Bool := match o with
  | none => false
  | some (a, b) => btw x a b
def spTold (K : PySem.W.Frag) : Sp := fun vs H Q _ => ∃ (t : Addr) (s : Int) (f c lo hi : Option Int) (told : V) (o : Option (Option Int × Option Int)), vs = [.ref t, oV lo, oV hi, told] ∧ SqT K H t [.int s, oV f, oV c] ∧ StrV H told o ∧
  (∀ x : Int, inO o x = btw (bnd (x + s) f c) lo hi) ∧ ∀ H', Same H H' → Q (.bl true) H'
theorem StrV.same {H H' : Hp} {r : V} {o : Option (Option Int × Option Int)} (h : StrV H r o) (s : Same H H') : StrV H' r o := by
  cases o with
  | none => exact h
  | some ab =>
    obtain ⟨p, e, k⟩ := h
    exact ⟨p, e, s _ _ k⟩
theorem rg_ints (a b : Int) : ∀ x ∈ rgV a b, ∃ z, x = V.int z := by
  intro x hx
  unfold rgV at hx
  rw [List.mem_map] at hx
  obtain ⟨i, _, rfl⟩ := hx
  exact ⟨_, rfl⟩
section
variable {P : Program} {w : World} {K : PySem.W.Frag} {mg : Str → Option Value} {base : Heap} {C : Addr}
theorem ok_told {f : Addr} {fd : FuncData} (F : Fun K "_law_told_right" "_law_told_right" sTold f fd) (T : Bt mg) (c__law_between : Cal P w K mg base 1 "_law_between" spBetw []) (c__law_leads : Cal P w K mg base 2 "_law_leads" (spLeads K) []) :
    FnOk P w K mg base CX0 3 f fd ["_law_bits", "_law_low_so", "_law_top_so", "_law_told"] (spTold K) := by
  refine F.ok sctold_right (fun vs H Q E h => ?_) (fun cdv A outer s H vs Q E hr h => ?_)
  · obtain ⟨t, s, f, c, lo, hi, told, o, rfl, _⟩ := h
    rfl
  · obtain ⟨t, s, f, c, lo, hi, told, o, rfl, hT, hS, key, q⟩ := h
    refine ⟨_, (pss_cons (ps_if (pw_and (pt_cmpR op_notN (pv 3) pe_non (nomark _)) (pw_and1 (pw_or (pt_not (pt_val (pe_callB call_isi (by rfl) T.isinstance (by decide +kernel) (pa_cons (pv 3) (pa_cons (pe_bltn (v := .ty "tuple") (by rfl) T.tuple (by decide +kernel) rfl) pa_nil))))) (pw_or1 (pt_cmpR op_ne (pe_callB call_len_seq (by rfl) T.len PySem.boot_len (pa_cons (pv 3) pa_nil)) pe_int (nomark _)))).pt)).pt (pss_one (ps_ret pe_bl)) pss_nil)
  (pss_cons (ps_for PassesOwn.never rfl (pi_list (pe_op op_cat (pe_listRg rfl (by rfl) T.list (prg_2 (by rfl) T.range (pe_un un_neg pe_int) pe_int)) (pe_lst (pa_cons (pe_un un_neg (pe_op op_pow pe_int pe_int)) (pa_cons (pe_op op_pow pe_int pe_int) pa_nil))))) (pg_name (i := 4) sctold_right.nd rfl (.inl rfl)) (pss_cons (ps_set (i := 5) sctold_right.nd rfl (.inl rfl) (pe_and (pe_cmpR op_notN (pv 3) pe_non (nomark _)) (pe_one (pe_c c__law_between hr (by decide) (by rfl) (pa_cons (pv 4) (pa_cons (pe_ix ix_tup (pv 3) pe_int (fun _ _ => rfl)) (pa_cons (pe_ix ix_tup (pv 3) pe_int (fun _ _ => rfl)) pa_nil)))))))
  (pss_one (ps_if (pt_cmpR op_ne (pv 5) (pe_c c__law_between hr (by decide) (by rfl) (pa_cons (pe_c c__law_leads hr (by decide) (by rfl) (pa_cons (pv 0) (pa_cons (pv 4) pa_nil))) (pa_cons (pv 1) (pa_cons (pv 2) pa_nil)))) (nomark _)) (pss_one (ps_ret pe_bl)) pss_nil))))
  (pss_one (ps_ret pe_bl)))), ?_⟩
    -- the first test comes out false
    have part : ∀ (Kt : Bool → Hp → Prop), Kt false H → tAnd (tTest (tOp rNot (tVar 3) (tC .non))) (tOr (tNot (tB (tCB (rIsi K) (tCons (tVar 3) (tCons (tC (.ty "tuple")) tNil))))) (tTest (tOp rNe (tCB (fun xs H Q => ∃ p ys, xs = [V.ref p] ∧ (SqL K H p ys ∨ SqT K H p ys) ∧ Q (.int ys.length) H) (tCons (tVar 3) tNil)) (tC (.int 2))))) (L2.start nTold [.ref t, oV lo, oV hi, told]) H Kt := by
      intro Kt k
      cases o with
      | none =>
        cases (show told = .non from hS)
        exact ⟨_, rfl, rfl, _, rfl, iteN0 rfl k⟩
      | some ab =>
        obtain ⟨p, rfl, hp⟩ := hS
        refine ⟨_, rfl, rfl, _, rfl, iteN1 (rN p) ⟨_, rfl, _, _, _, _, true, rfl, .ty _, ty_t (SqT.of hp), kit_ty (by decide +kernel), _, rfl, iteF ?_⟩⟩
        refine ⟨_, rfl, p, _, rfl, .inr (SqT.of hp), rfl, _, rfl, ?_⟩
        exact k
    refine part _ (iteF ?_)
    refine ⟨_, rfl, _, _, rfl, rfl, ⟨by decide, by decide, by decide, by decide, by decide⟩, fun q1 n1 => ?_⟩
    refine ⟨_, _, rfl, rfl, ⟨by decide, by decide, by decide⟩, _, rfl, _, _, rfl, rfl, ⟨by decide, by decide, by decide⟩, (by show 2 ≤ sizeLine; decide), fun q2 n2 => ?_⟩
    have s2 := (same_upd n1).trans (same_upd (o := .lst [V.int (-(10 ^ 31)), V.int (10 ^ 31)]) n2)
    refine ⟨q1, q2, _, _, rfl, rfl, by rw [upd_ne (fun z => by rw [z, upd_same] at n2; cases n2), upd_same], upd_same, (by rw [rgV_length]; show _ + 2 ≤ sizeLine; decide), fun q3 n3 => ?_⟩
    have s3 := s2.trans (same_upd (o := .lst (rgV (-60) 61 ++ [V.int (-(10 ^ 31)), V.int (10 ^ 31)])) n3)
    refine ⟨q3, rfl, ⟨_, SqL.of upd_same⟩, for_it (walk_list (xs := rgV (-60) 61 ++ [V.int (-(10 ^ 31)), V.int (10 ^ 31)])) (fun i σ H3 => ∃ v4 v5, σ = [some (.ref t), some (oV lo), some (oV hi), some told, v4, v5] ∧ Same H H3 ∧ H3 q3 = some (.lst (rgV (-60) 61 ++ [V.int (-(10 ^ 31)), V.int (10 ^ 31)])))
      ⟨none, none, rfl, s3, upd_same⟩ (fun i σ H3 _ ⟨_, _, _, _, e⟩ => SqL.of e) ?_ ?_⟩
    · rintro i x σ H3 H4 hii ⟨v4, v5, rfl, s4, e4⟩ ⟨rfl, hx⟩
      obtain ⟨z, rfl⟩ : ∃ z, x = V.int z := by
        refine mem_at (R := fun v => ∃ z, v = V.int z) (fun y hy => ?_) hx
        rw [List.mem_append] at hy
        rcases hy with hy | hy
        · exact rg_ints _ _ y hy
        · simp only [List.mem_cons, List.not_mem_nil, or_false] at hy
          rcases hy with rfl | rfl <;> exact ⟨_, rfl⟩
      have hS4 := StrV.same hS s4
      have hT4 := s4.seT hT
      have rest : (tIfS (tTest (tOp rNe (tVar 5) (tCall spBetw [] C8.E0 (tCons (tCall (spLeads K) [] C8.E0 (tCons (tVar 0) (tCons (tVar 4) tNil))) (tCons (tVar 1) (tCons (tVar 2) tNil)))))) (tRet (tC (.bl false))) tNext) 
          { nx := fun σ H3 => ∃ v4 v5, σ = [some (.ref t), some (oV lo), some (oV hi), some told, v4, v5] ∧ Same H H3 ∧ H3 q3 = some (.lst (rgV (-60) 61 ++ [V.int (-(10 ^ 31)), V.int (10 ^ 31)])), rt := Q } [some (.ref t), some (oV lo), some (oV hi), some told, some (.int z), some (.bl (inO o z))] H4 := by
        refine ⟨_, rfl, _, rfl, _, rfl, t, s, z, f, c, rfl, hT4, _, rfl, _, rfl, _, lo, hi, rfl, rfl, _, rfl, iteN0 (by rw [key z]) ?_⟩
        exact ⟨_, _, rfl, s4, e4⟩
      cases o with
      | none =>
        cases (show told = .non from hS)
        exact ⟨_, rfl, rfl, _, rfl, iteN0 rfl rest⟩
      | some ab =>
        obtain ⟨a, b⟩ := ab
        obtain ⟨p, rfl, hp⟩ := hS4
        have hp' := SqT.of (K := K) hp
        exact ⟨_, rfl, rfl, _, rfl, iteN1 (rN p) ⟨_, rfl, _, rfl, p, _, 0, _, rfl, rfl, hp', atI_nat (j := 0) rfl, _, rfl, p, _, 1, _, rfl, rfl, hp', atI_nat (j := 1) rfl, z, a, b, rfl, rest⟩⟩
    · rintro σ H3 ⟨v4, v5, rfl, s4, e4⟩
      exact q H3 s4
/-- the starts that are told are those that the way leads there -/
theorem told_is (s : Int) (f c lo hi : Option Int) (hle : leO f c) (x : Int) : inO (sb (nrm (some s) f c) f c lo hi) x = btw (bnd (x + s) f c) lo hi := by
  have hs : ∀ a b, f = some a → c = some b → a ≤ b := hle
  have key2 : ∀ (p q : Prop) [Decidable p] [Decidable q], (p ↔ q) → decide p = decide q := fun p q _ _ h => decide_eq_decide.mpr h
  unfold sb nrm gt2 lt2 opn opa cutO
  rcases f with _ | f <;> rcases c with _ | c
  case' some.some => by_cases hfc : f = c
  all_goals (rcases lo with _ | lo <;> rcases hi with _ | hi)
  all_goals (try subst hfc)
  all_goals (try have hs := hs _ _ rfl rfl)
  all_goals (try simp only [hfc, if_true, if_false])
  all_goals simp only [decide_eq_true_eq, Option.getD, Option.map, if_true, if_false, Bool.false_eq_true]
  all_goals (repeat' split)
  all_goals (first | (exfalso; omega) | skip)
  all_goals simp only [inO, btw, bnd, Bool.true_and, Bool.and_true, Bool.and_self]
  all_goals (repeat' split)
  all_goals (first | (exfalso; omega) | skip)
  all_goals (first | rfl | (rw [Bool.eq_iff_iff]; simp; omega) | (rw [Bool.eq_iff_iff]; simp; exact ⟨fun h => decide_eq_true (by omega), fun h => by have := of_decide_eq_true h; omega⟩) | (rw [Bool.eq_iff_iff]; simp; exact ⟨fun h => ⟨decide_eq_true (by omega), decide_eq_true (by omega)⟩, fun h => by have h1 := of_decide_eq_true h.1; have h2 := of_decide_eq_true h.2; omega⟩) | (simp; omega) | (rw [Bool.eq_iff_iff]; simp; done))
end
end BL

namespace BL
open PySem PySem.Spec PyProof.Rows L2
open C8 (Cal Mak pe_c pe_mk)
open RZ (pi_zipA)
/-- a def called by keywords alone -/
structure CalK (P : Program) (w : World) (K : PySem.W.Frag) (mg : Str → Option Value) (base : Heap) (k : Nat) (x : Str) (ks : List Str) (sp : Sp) (gV : List V → List V → List V) : Prop where
  ex : ∃ (f : Addr) (fd : FuncData) (ps : List Str) (g : List Value → List Value → List Value), FnOk P w K mg base CX0 k f fd ps sp ∧ mg x = some (.ref f) ∧ PySem.W.keepIn K (.ref f) = true ∧ KBn K fd ps 0 ks g gV
def tCK (m : Nat) (sp : Sp) (gV : List V → List V → List V) (tk : TA) : TE := fun σ H Q => tk σ H fun zs H2 => zs.length = m ∧ sp (gV [] zs) H2 Q C8.E0
theorem pe_ck0 {X : Cx} {k j : Nat} {x : Str} {ks : List Str} {sp : Sp} {gV : List V → List V → List V} {kws : List Keyword} {tk : TA} {p pos : Pos} (c : CalK X.prog X.w X.K X.mg X.base k x ks sp gV) (hr : Room j X.A) (hk : k ≤ j) (hg : Gl X x) (hkw : PK X kws tk)
    (hall : (backToKw pos (keywordEach kws X.env)).all (·.1.isSome) = true := by rfl) (hks : (backToKw pos (keywordEach kws X.env)).filterMap (·.1) = ks := by rfl) (hdb : (x == ("__debug__" : Str)) = false := by decide)
    (hpl : ((backTo pos (starEach [] X.env)).any (·.1) || (backToKw pos (keywordEach kws X.env)).any (·.1.isNone)) = false := by rfl) : PE X (.Call (.Name x p) [] kws pos) (tCK ks.length sp gV tk) := by
  obtain ⟨f, fd, ps, g, F, hm, kp, hb⟩ := c.ex
  refine ⟨fun pins s σ H Q I h => ?_⟩
  refine wpAny_Call_Name_kw (ld_glob I hg hm ?_ hdb)
  refine PySem.W.callWith_KW0 (h₀ := X.base) I.ok.mod.kin kp hall (thn (hkw.run pos pins s σ H _ I h) fun ws s2 ⟨zs, H2, I2, rz, l2, q2⟩ => ⟨I2.kIn, ?_⟩) hpl
  rw [hks]
  exact run_fnN (us := []) (vs := []) F (hr.mono hk) hb pass0 I2 .nil rz rfl l2 q2
abbrev sRight : Stmt := topS 23
abbrev nRight : List Str := ["_law_box_here", "_law_turn", "_law_bits", "_law_tour", "_law_lap", "_law_end_so", "_law_low_so", "_law_sort_so", "_law_top_so", "_law_own", "_law_far_so", "_law_bit"]
theorem scright : FnScope nRight ["_law_box_here"] (defScope sRight) := ⟨rfl, rfl, rfl, by decide +kernel, rfl, by decide +kernel, by decide +kernel⟩
def spRight : Sp := fun vs H Q _ => ∃ (b : Addr) (n : Nat), vs = [.ref b] ∧ Box H b n ∧ n ≤ 1000000 ∧ ∀ H', But b H H' → Box H' b (n + 1000000) → Q (.bl true) H'
structure Sit (C b t x : Addr) (s : Int) (f c : Option Int) (H0 H : Hp) (m : Nat) : Prop where
  but : But b H0 H
  box : Box H b m
  tup : H t = some (.tup [.int s, oV f, oV c])
  way : WayAt C H x (nrm (some s) f c) f c
section
variable {C b t x : Addr} {s : Int} {f c : Option Int} {H0 H H' : Hp} {m m' : Nat}
theorem Sit.same (S : Sit C b t x s f c H0 H m) (e : Same H H') : Sit C b t x s f c H0 H' m := ⟨S.but.same e, S.box.same e, e _ _ S.tup, S.way.same e⟩
theorem Sit.draw (S : Sit C b t x s f c H0 H m) (e : But b H H') (B : Box H' b m') : Sit C b t x s f c H0 H' m' := by
  refine ⟨S.but.trans e, B, e _ _ (S.box.ne S.tup (fun xs h => by cases h)) S.tup, ?_⟩
  obtain ⟨dx, h⟩ := S.way
  exact ⟨dx, e _ _ (S.box.ne h (fun xs h => by cases h)) h⟩
theorem Sit.le (S : Sit C b t x s f c H0 H m) (l : m ≤ m') : Sit C b t x s f c H0 H m' := ⟨S.but, S.box.le l, S.tup, S.way⟩
end
theorem nrm_none {s : Int} {f c : Option Int} (h : nrm (some s) f c = none) : ∃ a, f = some a ∧ c = some a := by
  unfold nrm at h
  cases f with
  | none => cases h
  | some a =>
    cases c with
    | none => cases h
    | some d =>
      by_cases e : a = d
      · exact ⟨a, rfl, by rw [e]⟩
      · simp only [if_neg e] at h
        cases h
theorem okW_of {s : Int} {f c : Option Int} (h : leO f c) : okW (some s) f c := by
  unfold okW
  cases f with
  | none => exact fun z => by cases z
  | some a =>
    cases c with
    | none => exact fun z => by cases z
    | some d => exact ⟨h a d rfl rfl, fun z => by cases z⟩
theorem made_same {C x dx : Addr} {H H' : Hp} (nx : H x = none) (ndx : H dx = none) (k : ∀ b o, (upd (upd H dx (.own x)) x (.ins C dx [])) b = some o → b ≠ x → H' b = some o) : Same H H' := fun p o e =>
  k p o (by rw [upd_ne (ne_of_none e nx), upd_ne (ne_of_none e ndx)]; exact e) (ne_of_none e nx)
section
variable {P : Program} {w : World} {K : PySem.W.Frag} {mg : Str → Option Value} {base : Heap} {C : Addr}
theorem ok_right {f : Addr} {fd : FuncData} (F : Fun K "_law_right" "_law_right" sRight f fd) (T : Bt mg) (c__law_take : Cal P w K mg base 1 "_law_take" spTake []) (c__law_of : Cal P w K mg base 2 "_law_of" (spOf K) []) (c__law_drawn_way : Cal P w K mg base 3 "_law_drawn_way" spDrawn [])
    (c_Way3 : Mak P w K mg base 1 "Way" C (spInitW C) []) (c_starts_between : Cal P w K mg base 3 "starts_between" (spSB C) []) (c_starts_for : Cal P w K mg base 4 "starts_for" (spFor C) []) (k_starts_for : CalK P w K mg base 4 "starts_for" ["end", "way"] (spFor C) (fun _ zs => [zs.getD 1 .non, zs.getD 0 .non]))
    (c__law_told_right : Cal P w K mg base 3 "_law_told_right" (spTold K) []) : FnOk P w K mg base CX0 5 f fd ["_law_box_here"] spRight := by
  refine F.ok scright (fun vs H Q E h => ?_) (fun cdv A outer s H vs Q E hr h => ?_)
  · obtain ⟨b, n, rfl, _⟩ := h
    rfl
  · obtain ⟨b, n, rfl, hB, hn, q⟩ := h
    refine ⟨_, (pss_cons (ps_for PassesOwn.never rfl (pi_range1 (by rfl) T.range (pa_cons pe_int pa_nil)) (pg_name (i := 1) scright.nd rfl (.inl rfl)) (pss_cons (ps_set (i := 2) scright.nd rfl (.inl rfl) (pe_c c__law_drawn_way hr (by decide) (by rfl) (pa_cons (pv 0) pa_nil)))
  (pss_cons (ps_set (i := 3) scright.nd rfl (.inl rfl) (pe_mk c_Way3 hr (by decide) (by rfl) (pa_cons (pe_ix ix_tup (pv 2) pe_int (fun _ _ => rfl)) (pa_cons (pe_ix ix_tup (pv 2) pe_int (fun _ _ => rfl)) (pa_cons (pe_ix ix_tup (pv 2) pe_int (fun _ _ => rfl)) pa_nil)))))
  (pss_cons (ps_for PassesOwn.never rfl (pi_range1 (by rfl) T.range (pa_cons pe_int pa_nil)) (pg_name (i := 4) scright.nd rfl (.inl rfl)) (pss_cons (ps_set (i := 5) scright.nd rfl (.inl rfl) (pe_op op_sub (pe_c c__law_take hr (by decide) (by rfl) (pa_cons (pv 0) (pa_cons pe_int pa_nil))) pe_int))
  (pss_cons (ps_if (pt_not (pt_val (pe_c c__law_told_right hr (by decide) (by rfl) (pa_cons (pv 2) (pa_cons (pv 5) (pa_cons (pv 5) (pa_cons (pe_c c_starts_for hr (by decide) (by rfl) (pa_cons (pv 3) (pa_cons (pv 5) pa_nil))) pa_nil))))))) (pss_one (ps_ret pe_bl)) pss_nil)
  (pss_cons (ps_par (i := 6) (j := 7) rfl scright.nd rfl rfl (by decide) rfl rfl (pa_cons (pe_op op_sub (pe_c c__law_take hr (by decide) (by rfl) (pa_cons (pv 0) (pa_cons pe_int pa_nil))) pe_int) (pa_cons (pe_c c__law_take hr (by decide) (by rfl) (pa_cons (pv 0) (pa_cons pe_int pa_nil))) pa_nil)) (by rfl))
  (pss_cons (ps_set (i := 8) scright.nd rfl (.inl rfl) (pe_ifExp (pt_cmpR op_eq (pv 7) pe_int (nomark _)) pe_non (pe_op op_add (pv 6) (pe_c c__law_of hr (by decide) (by rfl) (pa_cons (pv 0) (pa_cons (pe_lst (pa_cons pe_int (pa_cons pe_int (pa_cons pe_int (pa_cons pe_int (pa_cons pe_int (pa_cons (pe_op op_pow pe_int pe_int) pa_nil))))))) pa_nil))))))
  (pss_cons (ps_set (i := 6) scright.nd rfl (.inl rfl) (pe_ifExp (pt_cmpR op_eq (pv 7) pe_int (nomark _)) pe_non (pe_op op_sub (pv 6) (pe_c c__law_of hr (by decide) (by rfl) (pa_cons (pv 0) (pa_cons (pe_lst (pa_cons pe_int (pa_cons pe_int (pa_cons pe_int (pa_cons (pe_op op_pow pe_int pe_int) pa_nil))))) pa_nil))))))
  (pss_one (ps_if (pt_not (pt_val (pe_c c__law_told_right hr (by decide) (by rfl) (pa_cons (pv 2) (pa_cons (pv 6) (pa_cons (pv 8) (pa_cons (pe_c c_starts_between hr (by decide) (by rfl) (pa_cons (pv 3) (pa_cons (pv 6) (pa_cons (pv 8) pa_nil)))) pa_nil))))))) (pss_one (ps_ret pe_bl)) pss_nil))))))))
  (pss_one (ps_for PassesOwn.never rfl (pi_list (pe_lc (own := [("_law_bit", 11)]) (g := gName 11) (by rfl) scright.nd (pi_tup (pe_slice sl_tup (pv 2) (po_some pe_int) po_none)) (blkOk_by (own := [("_law_bit", 11)]) (N := nRight) (sc := defScope sRight) (by decide +kernel)) (fun _ _ _ _ _ => (pg_name (i := 11) scright.nd rfl (.inl rfl))) (fun _ _ _ _ _ => (pts_one (pt_cmpR op_notN (pv 11) pe_non (nomark _)))) (fun _ _ _ _ _ => (pv 11)))) (pg_name (i := 9) scright.nd rfl (.inl rfl)) (pss_one (ps_for PassesOwn.never rfl (pi_tup (pe_tup (pa_cons (pe_op op_sub (pv 9) pe_int) (pa_cons (pv 9) (pa_cons (pe_op op_add (pv 9) pe_int) pa_nil))))) (pg_name (i := 10) scright.nd rfl (.inl rfl)) (pss_one (ps_if (pt_not (pt_val (pe_c c__law_told_right hr (by decide) (by rfl) (pa_cons (pv 2) (pa_cons (pv 10) (pa_cons (pv 10) (pa_cons (pe_ck0 k_starts_for hr (by decide) (by rfl) (pk_cons (pv 10) (pk_cons (pv 3) pk_nil))) pa_nil))))))) (pss_one (ps_ret pe_bl)) pss_nil))))))))))
  (pss_one (ps_ret pe_bl))), ?_⟩
    refine ⟨8, rfl, by decide, by decide, for_it (walk_range (lo := 0) (n := (8 : Int).toNat)) (fun i σ H3 => ∃ v1 v2 v3 v4 v5 v6 v7 v8 v9 v10 v11, σ = [some (.ref b), v1, v2, v3, v4, v5, v6, v7, v8, v9, v10, v11] ∧ But b H H3 ∧ Box H3 b (n + 100 * i))
      ⟨none, none, none, none, none, none, none, none, none, none, none, rfl, But.refl _ _, hB⟩ (fun _ _ _ _ _ => trivial) ?_ ?_⟩
    · rintro i y σ H3 H4 hi ⟨v1, v2, v3, v4, v5, v6, v7, v8, v9, v10, v11, rfl, b3, B3⟩ ⟨rfl, rfl⟩
      have hi8 : i < 8 := hi
      -- bits, tour
      refine ⟨_, rfl, b, _, rfl, B3, by omega, fun t s f c H5 b5 B5 nt ht hle => ?_⟩
      refine ⟨_, rfl, t, _, 0, _, rfl, rfl, SqT.of ht, atI_nat (j := 0) rfl, _, rfl, t, _, 1, _, rfl, rfl, SqT.of ht, atI_nat (j := 1) rfl, _, rfl, t, _, 2, _, rfl, rfl, SqT.of ht, atI_nat (j := 2) rfl, fun x dx nx ndx nex => ?_⟩
      refine ⟨x, dx, some s, f, c, rfl, upd_same, okW_of hle, fun H6 W6 k6 => ⟨rfl, ?_⟩⟩
      have s6 : Same H5 H6 := made_same nx ndx k6
      have S6 : Sit C b t x s f c H H6 (n + 100 * i + 4) := ⟨(b3.trans b5).same s6, B5.same s6, s6 _ _ ht, W6⟩
      -- laps
      refine ⟨4, rfl, by decide, by decide, for_it (walk_range (lo := 0) (n := (4 : Int).toNat)) (fun j σ H7 => ∃ v1 v4 v5 v6 v7 v8 v9 v10 v11, σ = [some (.ref b), v1, some (.ref t), some (.ref x), v4, v5, v6, v7, v8, v9, v10, v11] ∧ Sit C b t x s f c H H7 (n + 100 * i + 4 + 10 * j))
        ⟨_, _, _, _, _, _, _, _, _, rfl, S6⟩ (fun _ _ _ _ _ => trivial) ?_ ?_⟩
      · rintro j y σ H7 H8 hj ⟨v1, v4, v5, v6, v7, v8, v9, v10, v11, rfl, S7⟩ ⟨rfl, rfl⟩
        have hj4 : j < 4 := hj
        refine ⟨_, rfl, b, 41, _, rfl, by decide, by decide, S7.box, by omega, fun r1 H9 r10 r11 b9 B9 => ⟨_, _, rfl, rfl, ?_⟩⟩
        have S9 := S7.draw b9 B9
        refine ⟨_, rfl, _, rfl, _, rfl, _, rfl, _, rfl, x, _, f, c, _, rfl, S9.way, nrm_none, fun r H10 s10 T10 => ?_⟩
        have S10 := S9.same s10
        refine ⟨t, s, f, c, some (r1 - 20), some (r1 - 20), r, _, rfl, SqT.of S10.tup, T10, told_is s f c _ _ hle, fun H11 s11 => ⟨_, rfl, iteF ?_⟩⟩
        have S11 := S10.same s11
        refine ⟨_, rfl, b, 41, _, rfl, by decide, by decide, S11.box, by omega, fun r2 H12 r20 r21 b12 B12 => ⟨_, _, rfl, rfl, ?_⟩⟩
        have S12 := S11.draw b12 B12
        refine ⟨_, rfl, b, 8, _, rfl, by decide, by decide, S12.box, by omega, fun r3 H13 r30 r31 b13 B13 => ⟨_, _, rfl, ?_⟩⟩
        have S13 := S12.draw b13 B13
        have tail : ∀ (w1 w4 w5 w7 w9 w10 w11 : Option V) (lo hi : Option Int) (H14 : Hp), Sit C b t x s f c H H14 (n + 100 * i + 4 + 10 * (j + 1)) →
            (tIfS (tNot (tB (tCall (spTold K) [] C8.E0 (tCons (tVar 2) (tCons (tVar 6) (tCons (tVar 8) (tCons (tCall (spSB C) [] C8.E0 (tCons (tVar 3) (tCons (tVar 6) (tCons (tVar 8) tNil)))) tNil))))))) (tRet (tC (.bl false))) tNext)
              { nx := fun σ H7 => ∃ v1 v4 v5 v6 v7 v8 v9 v10 v11, σ = [some (.ref b), v1, some (.ref t), some (.ref x), v4, v5, v6, v7, v8, v9, v10, v11] ∧ Sit C b t x s f c H H7 (n + 100 * i + 4 + 10 * (j + 1)), rt := Q }
              [some (.ref b), w1, some (.ref t), some (.ref x), w4, w5, some (oV lo), w7, some (oV hi), w9, w10, w11] H14 := by
          intro w1 w4 w5 w7 w9 w10 w11 lo hi H14 S14
          refine ⟨_, rfl, _, rfl, _, rfl, _, rfl, _, rfl, _, rfl, x, _, f, c, lo, hi, rfl, S14.way, nrm_none, fun r H15 s15 T15 => ?_⟩
          have S15 := S14.same s15
          refine ⟨t, s, f, c, lo, hi, r, _, rfl, SqT.of S15.tup, T15, told_is s f c _ _ hle, fun H16 s16 => ⟨_, rfl, iteF ?_⟩⟩
          exact ⟨_, _, _, _, _, _, _, _, _, rfl, S15.same s16⟩
        have mid : ∀ (w1 w4 w5 w9 w10 w11 : Option V) (l7 : Int) (hi : Option Int) (H14 : Hp), Sit C b t x s f c H H14 (n + 100 * i + 4 + 10 * j + 4) →
            (tSeq (tAsg (tIf (tTest (tOp rEq (tVar 7) (tC (.int 1)))) (tC .non) (tOp rSub' (tVar 6) (tCall (spOf K) [] C8.E0 (tCons (tVar 0) (tCons (tLst (tCons (tC (.int 0)) (tCons (tC (.int 0)) (tCons (tC (.int 0)) (tCons (tOp (rI CPow fun i j => .int (i ^ j.toNat)) (tC (.int 10)) (tC (.int 29))) tNil))))) tNil))))) (gName 6)) (tIfS (tNot (tB (tCall (spTold K) [] C8.E0 (tCons (tVar 2) (tCons (tVar 6) (tCons (tVar 8) (tCons (tCall (spSB C) [] C8.E0 (tCons (tVar 3) (tCons (tVar 6) (tCons (tVar 8) tNil)))) tNil))))))) (tRet (tC (.bl false))) tNext))
              { nx := fun σ H7 => ∃ v1 v4 v5 v6 v7 v8 v9 v10 v11, σ = [some (.ref b), v1, some (.ref t), some (.ref x), v4, v5, v6, v7, v8, v9, v10, v11] ∧ Sit C b t x s f c H H7 (n + 100 * i + 4 + 10 * (j + 1)), rt := Q }
              [some (.ref b), w1, some (.ref t), some (.ref x), w4, w5, some (.int l7), some (.int r3), some (oV hi), w9, w10, w11] H14 := by
          intro w1 w4 w5 w9 w10 w11 l7 hi H14 S14
          refine ⟨_, rfl, rfl, _, rfl, ite2 (fun _ => ?_) (fun _ => ?_)⟩
          · exact tail _ _ _ _ _ _ _ none hi H14 (S14.le (by omega))
          · refine ⟨_, rfl, _, rfl, _, _, rfl, rfl, ⟨by decide, by decide, by decide⟩, (by show 4 ≤ sizeLine; decide), fun l nl => ?_⟩
            have S15 := S14.same (same_upd (o := .lst [.int 0, .int 0, .int 0, .int (10 ^ (29 : Int).toNat)]) nl)
            refine ⟨b, l, _, _, rfl, upd_same, S14.box.nb nl, (fun h => by cases h), (by decide), S15.box, by omega, fun i2 v H16 hv b16 B16 => ?_⟩
            obtain ⟨u, rfl⟩ : ∃ u : Int, v = .int u := by
              refine mem_at (R := fun v => ∃ u : Int, v = .int u) (fun x hx => ?_) hv
              simp only [List.mem_cons, List.not_mem_nil, or_false] at hx
              rcases hx with rfl | rfl | rfl | rfl <;> exact ⟨_, rfl⟩
            refine ⟨_, _, rfl, rfl, ?_⟩
            exact tail _ _ _ _ _ _ _ (some (l7 - u)) hi H16 ((S15.draw b16 B16).le (by omega))
        refine ⟨_, rfl, rfl, _, rfl, ite2 (fun _ => ?_) (fun _ => ?_)⟩
        · exact mid _ _ _ _ _ _ _ none H13 (S13.le (by omega))
        · refine ⟨_, rfl, _, rfl, _, _, rfl, rfl, ⟨by decide, by decide, by decide⟩, (by show 6 ≤ sizeLine; decide), fun l nl => ?_⟩
          have S15 := S13.same (same_upd (o := .lst [.int 0, .int 1, .int 2, .int 7, .int 20, .int (10 ^ (29 : Int).toNat)]) nl)
          refine ⟨b, l, _, _, rfl, upd_same, S13.box.nb nl, (fun h => by cases h), (by decide), S15.box, by omega, fun i2 v H16 hv b16 B16 => ?_⟩
          obtain ⟨u, rfl⟩ : ∃ u : Int, v = .int u := by
            refine mem_at (R := fun v => ∃ u : Int, v = .int u) (fun x hx => ?_) hv
            simp only [List.mem_cons, List.not_mem_nil, or_false] at hx
            rcases hx with rfl | rfl | rfl | rfl | rfl | rfl <;> exact ⟨_, rfl⟩
          refine ⟨_, _, rfl, rfl, ?_⟩
          exact mid _ _ _ _ _ _ _ (some (r2 - 20 + u)) H16 ((S15.draw b16 B16).le (by omega))
      · rintro σ H7 ⟨v1, v4, v5, v6, v7, v8, v9, v10, v11, rfl, S7⟩
        have S7 : Sit C b t x s f c H H7 (n + 100 * i + 44) := S7.le (by show n + 100 * i + 4 + 10 * 4 ≤ _; omega)
        -- bits[1:]
        refine ⟨_, rfl, _, rfl, t, _, rfl, SqT.of S7.tup, (fun h => by have h1 : HT.sIx 3 0 (some 1) = 0 := h.1; revert h1; decide), fun p np => ?_⟩
        have ep : (upd H7 p (.tup (cutV [.int s, oV f, oV c] (some 1) none))) p = some (.tup [oV f, oV c]) := upd_same
        have S8 := S7.same (same_upd (o := .tup (cutV [.int s, oV f, oV c] (some 1) none)) np)
        generalize (upd H7 p (.tup (cutV [.int s, oV f, oV c] (some 1) none))) = H8 at ep S8 ⊢
        refine ⟨p, rfl, ⟨_, SqT.of ep⟩, fun D nD => ?_⟩
        refine lc_it (walk_tup (xs := [oV f, oV c])) (fun k H9 => ∃ zs : List Int, H9 D = some (.lst (zs.map V.int)) ∧ zs.length ≤ k ∧ Same H8 H9) ⟨[], upd_same, Nat.zero_le _, same_upd nD⟩ (fun k H9 _ ⟨_, _, _, e⟩ => e.seT (SqT.of ep)) ?_ ?_
        · rintro k y H9 H10 hk ⟨zs, ez, lz, s9⟩ ⟨rfl, hy⟩
          have hk2 : k < 2 := hk
          obtain ⟨o, rfl⟩ : ∃ o, y = oV o := by
            refine mem_at (R := fun v => ∃ o, v = oV o) (fun x hx => ?_) hy
            simp only [List.mem_cons, List.not_mem_nil, or_false] at hx
            rcases hx with rfl | rfl <;> exact ⟨_, rfl⟩
          refine ⟨rfl, _, rfl, rfl, _, rfl, ?_⟩
          cases o with
          | none => exact iteN0 rfl ⟨zs, ez, by omega, s9⟩
          | some u =>
            refine iteN1 (iN u) ⟨_, rfl, _, ez, ?_, zs ++ [u], ?_, ?_, ?_⟩
            · rw [List.length_map]
              exact small1000 (by omega)
            · rw [upd_same, List.map_append]
              rfl
            · rw [List.length_append]
              show zs.length + 1 ≤ k + 1
              omega
            · intro p o e
              rw [upd_ne (ne_of_none e nD)]
              exact s9 _ _ e
        · rintro H9 ⟨zs, ez, lz, s9⟩
          have S9 := S8.same s9
          refine ⟨D, rfl, ⟨_, SqL.of ez⟩, for_it (walk_list (xs := zs.map V.int)) (fun k σ H10 => ∃ v1 v4 v5 v6 v7 v8 v9 v10 v11, σ = [some (.ref b), v1, some (.ref t), some (.ref x), v4, v5, v6, v7, v8, v9, v10, v11] ∧ Sit C b t x s f c H H10 (n + 100 * i + 44) ∧ H10 D = some (.lst (zs.map V.int)))
            ⟨_, _, _, _, _, _, _, _, _, rfl, S9, ez⟩ (fun _ _ _ _ ⟨_, _, _, _, _, _, _, _, _, _, _, e⟩ => SqL.of e) ?_ ?_⟩
          · rintro k y σ H10 H11 hk ⟨v1, v4, v5, v6, v7, v8, v9, v10, v11, rfl, S10, e10⟩ ⟨rfl, hy⟩
            obtain ⟨u, rfl⟩ : ∃ u, y = V.int u := by
              refine mem_at (R := fun v => ∃ u, v = V.int u) (fun x hx => ?_) hy
              rw [List.mem_map] at hx
              obtain ⟨z, _, rfl⟩ := hx
              exact ⟨z, rfl⟩
            refine ⟨_, rfl, _, _, rfl, rfl, _, rfl, _, rfl, _, _, rfl, rfl, (by show 3 ≤ sizeLine; decide), fun p2 np2 => ?_⟩
            have S11 := S10.same (same_upd (o := .tup [.int (u - 1), .int u, .int (u + 1)]) np2)
            have e11 := same_upd (o := .tup [.int (u - 1), .int u, .int (u + 1)]) np2 _ _ e10
            have ep2 : (upd H11 p2 (.tup [.int (u - 1), .int u, .int (u + 1)])) p2 = some (.tup [.int (u - 1), .int u, .int (u + 1)]) := upd_same
            generalize (upd H11 p2 (.tup [.int (u - 1), .int u, .int (u + 1)])) = H12 at S11 e11 ep2 ⊢
            refine ⟨p2, rfl, ⟨_, SqT.of ep2⟩, for_it (walk_tup (xs := [.int (u - 1), .int u, .int (u + 1)])) (fun l σ H13 => ∃ v1 v4 v5 v6 v7 v8 v9 v10 v11, σ = [some (.ref b), v1, some (.ref t), some (.ref x), v4, v5, v6, v7, v8, v9, v10, v11] ∧ Sit C b t x s f c H H13 (n + 100 * i + 44) ∧ H13 D = some (.lst (zs.map V.int)) ∧ H13 p2 = some (.tup [.int (u - 1), .int u, .int (u + 1)]))
              ⟨_, _, _, _, _, _, _, _, _, rfl, S11, e11, ep2⟩ (fun _ _ _ _ ⟨_, _, _, _, _, _, _, _, _, _, _, _, e⟩ => SqT.of e) ?_ ?_⟩
            · rintro l y σ H13 H14 hl ⟨v1, v4, v5, v6, v7, v8, v9, v10, v11, rfl, S13, e13, f13⟩ ⟨rfl, hy⟩
              obtain ⟨g, rfl⟩ : ∃ u, y = V.int u := by
                refine mem_at (R := fun v => ∃ u, v = V.int u) (fun x hx => ?_) hy
                simp only [List.mem_cons, List.not_mem_nil, or_false] at hx
                rcases hx with rfl | rfl | rfl <;> exact ⟨_, rfl⟩
              refine ⟨_, rfl, _, rfl, _, rfl, _, rfl, _, rfl, rfl, x, _, f, c, g, rfl, S13.way, nrm_none, fun r H15 s15 T15 => ?_⟩
              have S15 := S13.same s15
              refine ⟨t, s, f, c, some g, some g, r, _, rfl, SqT.of S15.tup, T15, told_is s f c _ _ hle, fun H16 s16 => ⟨_, rfl, iteF ?_⟩⟩
              exact ⟨_, _, _, _, _, _, _, _, _, rfl, S15.same s16, s16 _ _ (s15 _ _ e13), s16 _ _ (s15 _ _ f13)⟩
            · rintro σ H13 ⟨v1, v4, v5, v6, v7, v8, v9, v10, v11, rfl, S13, e13, f13⟩
              exact ⟨_, _, _, _, _, _, _, _, _, rfl, S13, e13⟩
          · rintro σ H10 ⟨v1, v4, v5, v6, v7, v8, v9, v10, v11, rfl, S10, e10⟩
            exact ⟨_, _, _, _, _, _, _, _, _, _, _, rfl, S10.but, S10.box.le (by omega)⟩
    · rintro σ H3 ⟨v1, v2, v3, v4, v5, v6, v7, v8, v9, v10, v11, rfl, b3, B3⟩
      exact q H3 b3 (B3.le (by show n + 100 * 8 ≤ _; omega))
end
end BL

namespace BL
open PySem PySem.Spec PyProof.Rows L2
/-! ### what written expressions give, by data -/
section
variable {K : PySem.W.Frag}
mutual
theorem dpm {H H' : Hp} (s : Same H H') : ∀ {v : V} {d : PyData}, Dp K H v d → Dp K H' v d
  | _, _, .non => .non
  | _, _, .bl b => .bl b
  | _, _, .int i => .int i
  | _, _, .str x => .str x
  | _, _, .lst h a => .lst (s.seq h) (dpam s a)
  | _, _, .tup h a => .tup (s.seT h) (dpam s a)
theorem dpam {H H' : Hp} (s : Same H H') : ∀ {vs : List V} {ds : List PyData}, DpAll K H vs ds → DpAll K H' vs ds
  | _, _, .nil => .nil
  | _, _, .cons h a => .cons (dpm s h) (dpam s a)
end
theorem dpa_len {H : Hp} : ∀ {vs : List V} {ds : List PyData}, DpAll K H vs ds → vs.length = ds.length
  | _, _, .nil => rfl
  | _, _, .cons h a => congrArg Nat.succ (dpa_len a)
theorem dpa_app {H : Hp} {us : List V} {es : List PyData} : ∀ {vs : List V} {ds : List PyData}, DpAll K H vs ds → DpAll K H us es → DpAll K H (vs ++ us) (ds ++ es)
  | _, _, .nil, b => b
  | _, _, .cons h a, b => .cons h (dpa_app a b)
def okd : Nat → PyData → Bool
  | 0, .list _ => false
  | 0, .tuple _ => false
  | n + 1, .list ds => decide (ds.length ≤ 1000) && ds.all (okd n)
  | n + 1, .tuple ds => decide (ds.length ≤ 1000) && ds.all (okd n)
  | _, _ => true
theorem dpa_at {H : Hp} {R : V → V → Prop} : ∀ {vs us : List V} {ds : List PyData}, DpAll K H vs ds → DpAll K H us ds → (∀ d ∈ ds, ∀ x y, Dp K H x d → Dp K H y d → R x y) → ∀ (i : Nat) (x y : V), vs[i]? = some x → us[i]? = some y → R x y
  | _, _, _, .nil, .nil, _, _, _, _, h, _ => by simp at h
  | _, _, _, .cons h a, .cons g b, r, 0, x, y, e1, e2 => by
    have e1 := Option.some.inj e1
    have e2 := Option.some.inj e2
    subst e1
    subst e2
    exact r _ (List.mem_cons_self) _ _ h g
  | _, _, _, .cons h a, .cons g b, r, i + 1, x, y, e1, e2 => dpa_at a b (fun d m => r d (List.mem_cons_of_mem _ m)) i x y e1 e2
theorem eqs_dp {H : Hp} : ∀ (n : Nat) (d : PyData) (x y : V), okd n d = true → Dp K H x d → Dp K H y d → Eqs K H n x y := by
  intro n
  induction n with
  | zero =>
    intro d x y h a b
    cases a with
    | non => cases b; exact .non 0
    | bl c => cases b; exact .bl 0 c
    | int c => cases b; exact .int 0 c
    | str c => cases b; exact .str 0 c
    | lst _ _ => cases h
    | tup _ _ => cases h
  | succ n ih =>
    intro d x y h a b
    cases a with
    | non => cases b; exact .non _
    | bl c => cases b; exact .bl _ c
    | int c => cases b; exact .int _ c
    | str c => cases b; exact .str _ c
    | lst s1 a1 =>
      cases b with
      | lst s2 a2 =>
        unfold okd at h
        rw [Bool.and_eq_true, decide_eq_true_eq, List.all_eq_true] at h
        exact .lst s1 s2 (by rw [dpa_len a1, dpa_len a2]) (by rw [dpa_len a1]; exact h.1) (dpa_at a1 a2 fun d m x y p q => ih d x y (h.2 d m) p q)
    | tup s1 a1 =>
      cases b with
      | tup s2 a2 =>
        unfold okd at h
        rw [Bool.and_eq_true, decide_eq_true_eq, List.all_eq_true] at h
        exact .tup s1 s2 (by rw [dpa_len a1, dpa_len a2]) (by rw [dpa_len a1]; exact h.1) (dpa_at a1 a2 fun d m x y p q => ih d x y (h.2 d m) p q)
abbrev RT := Hp → V → Prop
/-- te gives a value of which R holds, whatever is laid beside; what stood stands -/
def GV (te : TE) (σ : L2.St) (H : Hp) (R : RT) : Prop := ∀ H1, Same H H1 → ∀ Q : VK, (∀ v H', Same H1 H' → R H' v → Q v H') → te σ H1 Q
def GA (K : PySem.W.Frag) (ta : TA) (σ : L2.St) (H : Hp) (ds : List PyData) : Prop := ∀ H1, Same H H1 → ∀ Q : List V → Hp → Prop, (∀ vs H', Same H1 H' → DpAll K H' vs ds → Q vs H') → ta σ H1 Q
abbrev RD (K : PySem.W.Frag) (d : PyData) : RT := fun H v => Dp K H v d
abbrev RL (K : PySem.W.Frag) (ds : List PyData) : RT := fun H v => ∃ l xs, v = .ref l ∧ H l = some (.lst xs) ∧ DpAll K H xs ds
theorem rl_mono {ds : List PyData} {H H' : Hp} {v : V} (s : Same H H') (h : RL K ds H v) : RL K ds H' v := by
  obtain ⟨l, xs, e, f, g⟩ := h
  exact ⟨l, xs, e, s _ _ f, dpam s g⟩
theorem rl_rd {ds : List PyData} {H : Hp} {v : V} (h : RL K ds H v) : Dp K H v (.list ds) := by
  obtain ⟨l, xs, rfl, f, g⟩ := h
  exact .lst (SqL.of f) g
variable {σ : L2.St} {H : Hp} {te ta tb : TE}
theorem gv_imp {R R' : RT} (g : GV te σ H R) (i : ∀ H v, R H v → R' H v) : GV te σ H R' := fun H1 s Q q => g H1 s Q fun v H' s' r => q v H' s' (i _ _ r)
theorem gv_int (i : Int) : GV (tC (.int i)) σ H (RD K (.int i)) := fun H1 _ Q q => q _ H1 (Same.refl _) (.int i)
theorem gv_non : GV (tC .non) σ H (RD K .none) := fun H1 _ Q q => q _ H1 (Same.refl _) .non
theorem gv_bl (b : Bool) : GV (tC (.bl b)) σ H (RD K (.bool b)) := fun H1 _ Q q => q _ H1 (Same.refl _) (.bl b)
theorem gv_str (x : Str) : GV (tC (.str x)) σ H (RD K (.str x)) := fun H1 _ Q q => q _ H1 (Same.refl _) (.str x)
theorem gv_var {i : Nat} {v : V} {R : RT} (e : σ[i]? = some (some v)) (r : ∀ H', Same H H' → R H' v) : GV (tVar i) σ H R := fun H1 s Q q => ⟨v, e, q v H1 (Same.refl _) (r H1 s)⟩
theorem gv_neg {i : Int} (g : GV te σ H (RD K (.int i))) : GV (tUn (rU fun i => .int (-i)) te) σ H (RD K (.int (-i))) := fun H1 s Q q => g H1 s _ fun v H' s' r => by
  cases r
  exact ⟨_, rfl, q _ _ s' (.int _)⟩
theorem gv_sub {i j : Int} (g : GV ta σ H (RD K (.int i))) (f : GV tb σ H (RD K (.int j))) : GV (tOp (rI0 fun i j => .int (i - j)) ta tb) σ H (RD K (.int (i - j))) := fun H1 s Q q => g H1 s _ fun v H2 s2 r => f H2 (s.trans s2) _ fun u H3 s3 t => by
  cases r
  cases t
  exact ⟨_, _, rfl, rfl, q _ _ (s2.trans s3) (.int _)⟩
theorem gv_add {i j : Int} (g : GV ta σ H (RD K (.int i))) (f : GV tb σ H (RD K (.int j))) : GV (tOp (rI0 fun i j => .int (i + j)) ta tb) σ H (RD K (.int (i + j))) := fun H1 s Q q => g H1 s _ fun v H2 s2 r => f H2 (s.trans s2) _ fun u H3 s3 t => by
  cases r
  cases t
  exact ⟨_, _, rfl, rfl, q _ _ (s2.trans s3) (.int _)⟩
theorem gv_pow {i j : Int} (g : GV ta σ H (RD K (.int i))) (f : GV tb σ H (RD K (.int j))) (c : CPow i j) : GV (tOp (rI CPow fun i j => .int (i ^ j.toNat)) ta tb) σ H (RD K (.int (i ^ j.toNat))) := fun H1 s Q q => g H1 s _ fun v H2 s2 r => f H2 (s.trans s2) _ fun u H3 s3 t => by
  cases r
  cases t
  exact ⟨_, _, rfl, rfl, c, q _ _ (s2.trans s3) (.int _)⟩
theorem gv_mul {i j : Int} (g : GV ta σ H (RD K (.int i))) (f : GV tb σ H (RD K (.int j))) (c : CMul i j) : GV (tOp (rI CMul fun i j => .int (i * j)) ta tb) σ H (RD K (.int (i * j))) := fun H1 s Q q => g H1 s _ fun v H2 s2 r => f H2 (s.trans s2) _ fun u H3 s3 t => by
  cases r
  cases t
  exact ⟨_, _, rfl, rfl, c, q _ _ (s2.trans s3) (.int _)⟩
theorem ga_nil : GA K tNil σ H [] := fun H1 _ Q q => q [] H1 (Same.refl _) .nil
theorem ga_cons {d : PyData} {ds : List PyData} {t : TA} (g : GV te σ H (RD K d)) (f : GA K t σ H ds) : GA K (tCons te t) σ H (d :: ds) := fun H1 s Q q => g H1 s _ fun v H2 s2 r => f H2 (s.trans s2) _ fun us H3 s3 t => q _ _ (s2.trans s3) (.cons (dpm s3 r) t)
theorem gv_tup {ds : List PyData} {t : TA} (f : GA K t σ H ds) (hl : ds.length ≤ sizeLine) : GV (tTup t) σ H (RD K (.tuple ds)) := fun H1 s Q q => f H1 s _ fun vs H2 s2 r => ⟨by rw [dpa_len r]; exact hl, fun p np => q _ _ (s2.trans (same_upd np)) (.tup (SqT.of upd_same) (dpam (same_upd np) r))⟩
theorem gv_lst {ds : List PyData} {t : TA} (f : GA K t σ H ds) (hl : ds.length ≤ sizeLine) : GV (tLst t) σ H (RL K ds) := fun H1 s Q q => f H1 s _ fun vs H2 s2 r => ⟨by rw [dpa_len r]; exact hl, fun p np => q _ _ (s2.trans (same_upd np)) ⟨p, vs, rfl, upd_same, dpam (same_upd np) r⟩⟩
theorem gv_cat {ds es : List PyData} (g : GV ta σ H (RL K ds)) (f : GV tb σ H (RL K es)) (hl : ds.length + es.length ≤ sizeLine) : GV (tOp rCat ta tb) σ H (RL K (ds ++ es)) := fun H1 s Q q => g H1 s _ fun v H2 s2 r => f H2 (s.trans s2) _ fun u H3 s3 t => by
  obtain ⟨l, xs, rfl, e1, a1⟩ := rl_mono s3 r
  obtain ⟨m, ys, rfl, e2, a2⟩ := t
  exact ⟨l, m, xs, ys, rfl, rfl, e1, e2, by rw [dpa_len a1, dpa_len a2]; exact hl, fun p np => q _ _ ((s2.trans s3).trans (same_upd np)) ⟨p, _, rfl, upd_same, dpam (same_upd np) (dpa_app a1 a2)⟩⟩
theorem gv_rl {ds : List PyData} (g : GV te σ H (RL K ds)) : GV te σ H (RD K (.list ds)) := gv_imp g fun _ _ => rl_rd
/-- x = e; S: the slots behind it -/
theorem asg {R : RT} {i : Nat} {D : Ends} (S : V → L2.St) (e : ∀ v, σ.set i (some v) = S v) (g : GV te σ H R) (k : ∀ v H', Same H H' → R H' v → D.nx (S v) H') : tAsg te (gName i) D σ H := g H (Same.refl _) _ fun v H' s r => by
  show D.nx (σ.set i (some v)) H'
  rw [e]
  exact k v H' s r
theorem par {R R' : RT} {i j : Nat} {D : Ends} (S : V → V → L2.St) (e : ∀ v w, (σ.set i (some v)).set j (some w) = S v w) (g : GV ta σ H R) (h : GV tb σ H R') (m : ∀ H H' v, Same H H' → R H v → R H' v) (k : ∀ v w H', Same H H' → R H' v → R' H' w → D.nx (S v w) H') : tPar i j (tCons ta (tCons tb tNil)) D σ H := g H (Same.refl _) _ fun v H1 s1 r => h H1 s1 _ fun w H2 s2 r2 => ⟨v, w, rfl, by
  rw [e]
  exact k v w H2 (s1.trans s2) (m _ _ _ s2 r) r2⟩
/-- the two sides read alike -/
theorem gv_same {d : PyData} {n : Nat} (g : GV ta σ H (RD K d)) (f : GV tb σ H (RD K d)) (ok : okd n d = true) : GV (tCall (spSame K (n + 1)) [] C8.E0 (tCons ta (tCons tb tNil))) σ H (RD K (.bool true)) := fun H1 s Q q => g H1 s _ fun v H2 s2 r => f H2 (s.trans s2) _ fun u H3 s3 t =>
  ⟨v, u, rfl, eqs_dp n d v u ok (dpm s3 r) t, fun H4 s4 => q _ _ ((s2.trans s3).trans s4) (.bl true)⟩
end
end BL

namespace BL
open PySem PySem.Spec PyProof.Rows L2
open C8 (Cal Mak pe_c pe_mk)
open RZ (pi_zipA)
abbrev RW (C : Addr) (s f c : Option Int) : RT := fun H v => ∃ p, v = .ref p ∧ WayAt C H p s f c
theorem rw_mono {C : Addr} {s f c : Option Int} {H H' : Hp} {v : V} (e : Same H H') (h : RW C s f c H v) : RW C s f c H' v := by
  obtain ⟨p, rfl, w⟩ := h
  exact ⟨p, rfl, w.same e⟩
def dO : Option Int → PyData
  | none => .none
  | some i => .int i
def dStr : Option (Option Int × Option Int) → PyData
  | none => .none
  | some (a, b) => .tuple [dO a, dO b]
def okS : Option Int → Option Int → Option Int → Bool
  | some _, _, _ => true
  | none, some a, some b => decide (a = b)
  | _, _, _ => false
def okB : Option Int → Option Int → Option Int → Bool
  | s, some a, some b => decide (a ≤ b) && (s.isSome || decide (a = b))
  | s, _, _ => s.isSome
section
variable {K : PySem.W.Frag} {C : Addr} {σ : L2.St} {H : Hp} {te ta tb : TE} {t : TA} {s f c lo hi : Option Int} {e : Int}
theorem okS_of (h : okS s f c = true) : s = none → ∃ a, f = some a ∧ c = some a := by
  intro z
  subst z
  cases f with
  | none => cases h
  | some a =>
    cases c with
    | none => cases h
    | some b =>
      have e : a = b := of_decide_eq_true h
      exact ⟨a, rfl, by rw [e]⟩
theorem okB_of (h : okB s f c = true) : okW s f c := by
  unfold okB at h
  unfold okW
  cases f with
  | none => cases s with
    | none => cases h
    | some z => exact fun z => by cases z
  | some a =>
    cases c with
    | none => cases s with
      | none => cases h
      | some z => exact fun z => by cases z
    | some b =>
      simp only [Bool.and_eq_true, decide_eq_true_eq, Bool.or_eq_true] at h
      refine ⟨h.1, fun z => ?_⟩
      subst z
      rcases h.2 with g | g
      · cases g
      · exact g
theorem dp_o {v : V} {o : Option Int} (h : Dp K H v (dO o)) : v = oV o := by
  cases o with
  | none => cases h; rfl
  | some i => cases h; rfl
theorem dp_str {v : V} {o : Option (Option Int × Option Int)} (h : StrV H v o) : Dp K H v (dStr o) := by
  have k : ∀ o : Option Int, Dp K H (oV o) (dO o) := fun o => by
    cases o with
    | none => exact .non
    | some i => exact .int i
  cases o with
  | none => cases (show v = .non from h); exact .non
  | some ab =>
    obtain ⟨p, rfl, hp⟩ := h
    exact .tup (SqT.of hp) (.cons (k _) (.cons (k _) .nil))
theorem gv_way3 (g : GA K t σ H [dO s, dO f, dO c]) (ok : okB s f c = true) : GV (tMake C (spInitW C) [] C8.E0 t) σ H (RW C (nrm s f c) f c) := fun H1 s1 Q q => g H1 s1 _ fun vs H2 s2 r x dx nx ndx nex => by
  cases r with
  | cons r1 r =>
    cases r with
    | cons r2 r =>
      cases r with
      | cons r3 r =>
        cases r
        rw [dp_o r1, dp_o r2, dp_o r3]
        exact ⟨x, dx, s, f, c, rfl, upd_same, okB_of ok, fun H3 W k => ⟨rfl, q _ _ (s2.trans (made_same nx ndx k)) ⟨x, rfl, W⟩⟩⟩
theorem gv_way2 (g : GA K t σ H [dO s, dO f]) (ok : okB s f none = true) : GV (tMake C (spInitW C) [.non] C8.E0 t) σ H (RW C (nrm s f none) f none) := fun H1 s1 Q q => g H1 s1 _ fun vs H2 s2 r x dx nx ndx nex => by
  cases r with
  | cons r1 r =>
    cases r with
    | cons r2 r =>
      cases r
      rw [dp_o r1, dp_o r2]
      exact ⟨x, dx, s, f, none, rfl, upd_same, okB_of ok, fun H3 W k => ⟨rfl, q _ _ (s2.trans (made_same nx ndx k)) ⟨x, rfl, W⟩⟩⟩
theorem gv_way1 (g : GA K t σ H [dO s]) (ok : okB s none none = true) : GV (tMake C (spInitW C) [.non, .non] C8.E0 t) σ H (RW C (nrm s none none) none none) := fun H1 s1 Q q => g H1 s1 _ fun vs H2 s2 r x dx nx ndx nex => by
  cases r with
  | cons r1 r =>
    cases r
    rw [dp_o r1]
    exact ⟨x, dx, s, none, none, rfl, upd_same, okB_of ok, fun H3 W k => ⟨rfl, q _ _ (s2.trans (made_same nx ndx k)) ⟨x, rfl, W⟩⟩⟩
theorem gv_for (g : GV ta σ H (RW C s f c)) (h : GV tb σ H (RD K (.int e))) (ok : okS s f c = true) : GV (tCall (spFor C) [] C8.E0 (tCons ta (tCons tb tNil))) σ H (RD K (dStr (sb s f c (some e) (some e)))) := fun H1 s1 Q q => g H1 s1 _ fun v H2 s2 r => h H2 (s1.trans s2) _ fun u H3 s3 d => by
  cases d
  obtain ⟨p, rfl, w⟩ := rw_mono s3 r
  exact ⟨p, s, f, c, e, rfl, w, okS_of ok, fun r H4 s4 z => q _ _ ((s2.trans s3).trans s4) (dp_str z)⟩
theorem gv_forK (h : GV tb σ H (RD K (.int e))) (g : GV ta σ H (RW C s f c)) (ok : okS s f c = true) : GV (tCK 2 (spFor C) (fun _ zs => [zs.getD 1 .non, zs.getD 0 .non]) (tCons tb (tCons ta tNil))) σ H (RD K (dStr (sb s f c (some e) (some e)))) := fun H1 s1 Q q => h H1 s1 _ fun u H2 s2 d => g H2 (s1.trans s2) _ fun v H3 s3 r => by
  cases d
  obtain ⟨p, rfl, w⟩ := r
  exact ⟨rfl, p, s, f, c, e, rfl, w, okS_of ok, fun r H4 s4 z => q _ _ ((s2.trans s3).trans s4) (dp_str z)⟩
theorem gv_sb {tc : TE} (g : GV ta σ H (RW C s f c)) (h : GV tb σ H (RD K (dO lo))) (h2 : GV tc σ H (RD K (dO hi))) (ok : okS s f c = true) : GV (tCall (spSB C) [] C8.E0 (tCons ta (tCons tb (tCons tc tNil)))) σ H (RD K (dStr (sb s f c lo hi))) := fun H1 s1 Q q => g H1 s1 _ fun v H2 s2 r => h H2 (s1.trans s2) _ fun u H3 s3 d => h2 H3 ((s1.trans s2).trans s3) _ fun z H4 s4 d2 => by
  rw [dp_o d, dp_o d2]
  obtain ⟨p, rfl, w⟩ := rw_mono (s3.trans s4) r
  exact ⟨p, s, f, c, lo, hi, rfl, w, okS_of ok, fun r H5 s5 z => q _ _ (((s2.trans s3).trans s4).trans s5) (dp_str z)⟩
theorem gv_sbK {tc : TE} (h2 : GV tc σ H (RD K (dO hi))) (h : GV tb σ H (RD K (dO lo))) (g : GV ta σ H (RW C s f c)) (ok : okS s f c = true) : GV (tCK 3 (spSB C) (fun _ zs => [zs.getD 2 .non, zs.getD 1 .non, zs.getD 0 .non]) (tCons tc (tCons tb (tCons ta tNil)))) σ H (RD K (dStr (sb s f c lo hi))) := fun H1 s1 Q q => h2 H1 s1 _ fun z H2 s2 d2 => h H2 (s1.trans s2) _ fun u H3 s3 d => g H3 ((s1.trans s2).trans s3) _ fun v H4 s4 r => by
  rw [dp_o d, dp_o d2]
  obtain ⟨p, rfl, w⟩ := r
  exact ⟨rfl, p, s, f, c, lo, hi, rfl, w, okS_of ok, fun r H5 s5 z => q _ _ (((s2.trans s3).trans s4).trans s5) (dp_str z)⟩
end
theorem dp_cast {K : PySem.W.Frag} {H : Hp} {v : V} {d d' : PyData} (e : d = d') (h : Dp K H v d) : Dp K H v d' := e ▸ h
abbrev sHand : Stmt := topS 22
abbrev nHand : List Str := ["_law_tour", "_law_fixed", "_law_got", "_law_due"]
theorem scHand : FnScope nHand [] (defScope sHand) := ⟨rfl, rfl, rfl, by decide +kernel, rfl, by decide +kernel, by decide +kernel⟩
def spHand : Sp := fun vs H Q _ => vs = [] ∧ ∀ H', Same H H' → Q (.bl true) H'
section
variable {P : Program} {w : World} {K : PySem.W.Frag} {mg : Str → Option Value} {base : Heap} {C : Addr}
theorem ok_hand {f : Addr} {fd : FuncData} (F : Fun K "_law_by_hand_right" "_law_by_hand_right" sHand f fd) (c__law_same : Cal P w K mg base 3 "_law_same" (spSame K 3) [])
    (c_Way3 : Mak P w K mg base 1 "Way" C (spInitW C) []) (c_Way2 : Mak P w K mg base 1 "Way" C (spInitW C) [.non]) (c_Way1 : Mak P w K mg base 1 "Way" C (spInitW C) [.non, .non])
    (c_starts_between : Cal P w K mg base 3 "starts_between" (spSB C) []) (c_starts_for : Cal P w K mg base 4 "starts_for" (spFor C) [])
    (k_starts_for : CalK P w K mg base 4 "starts_for" ["end", "way"] (spFor C) (fun _ zs => [zs.getD 1 .non, zs.getD 0 .non]))
    (k_starts_between : CalK P w K mg base 3 "starts_between" ["high", "low", "way"] (spSB C) (fun _ zs => [zs.getD 2 .non, zs.getD 1 .non, zs.getD 0 .non])) : FnOk P w K mg base CX0 5 f fd [] spHand := by
  refine F.ok scHand (fun vs H Q E h => ?_) (fun cdv A outer s H vs Q E hr h => ?_)
  · obtain ⟨rfl, _⟩ := h
    rfl
  · obtain ⟨rfl, q⟩ := h
    refine ⟨_, (pss_cons (ps_par (i := 0) (j := 1) rfl scHand.nd rfl rfl (by decide) rfl rfl (pa_cons (pe_mk c_Way3 hr (by decide) (by rfl) (pa_cons (pe_un un_neg pe_int) (pa_cons (pe_un un_neg pe_int) (pa_cons pe_int pa_nil)))) (pa_cons (pe_mk c_Way3 hr (by decide) (by rfl) (pa_cons pe_non (pa_cons pe_int (pa_cons pe_int pa_nil)))) pa_nil)) (by rfl))
  (pss_cons (ps_set (i := 2) scHand.nd rfl (.inl rfl) (pe_lst (pa_cons (pe_c c_starts_for hr (by decide) (by rfl) (pa_cons (pv 0) (pa_cons pe_int pa_nil))) (pa_cons (pe_c c_starts_for hr (by decide) (by rfl) (pa_cons (pv 0) (pa_cons (pe_un un_neg pe_int) pa_nil))) (pa_cons (pe_c c_starts_for hr (by decide) (by rfl) (pa_cons (pv 0) (pa_cons pe_int pa_nil))) (pa_cons (pe_c c_starts_for hr (by decide) (by rfl) (pa_cons (pv 0) (pa_cons pe_int pa_nil))) pa_nil))))))
  (pss_cons (ps_set (i := 2) scHand.nd rfl (.inl rfl) (pe_op op_cat (pv 2) (pe_lst (pa_cons (pe_c c_starts_for hr (by decide) (by rfl) (pa_cons (pv 0) (pa_cons (pe_un un_neg pe_int) pa_nil))) pa_nil))))
  (pss_cons (ps_set (i := 3) scHand.nd rfl (.inl rfl) (pe_lst (pa_cons (pe_tup (pa_cons pe_int (pa_cons pe_non pa_nil))) (pa_cons (pe_tup (pa_cons pe_non (pa_cons (pe_un un_neg pe_int) pa_nil))) (pa_cons (pe_tup (pa_cons pe_int (pa_cons pe_int pa_nil))) (pa_cons pe_non (pa_cons pe_non pa_nil)))))))
  (pss_cons (ps_set (i := 2) scHand.nd rfl (.inl rfl) (pe_op op_cat (pv 2) (pe_lst (pa_cons (pe_c c_starts_for hr (by decide) (by rfl) (pa_cons (pv 1) (pa_cons pe_int pa_nil))) (pa_cons (pe_c c_starts_for hr (by decide) (by rfl) (pa_cons (pv 1) (pa_cons pe_int pa_nil))) (pa_cons (pe_c c_starts_for hr (by decide) (by rfl) (pa_cons (pe_mk c_Way1 hr (by decide) (by rfl) (pa_cons pe_int pa_nil)) (pa_cons (pe_un un_neg pe_int) pa_nil))) pa_nil))))))
  (pss_cons (ps_set (i := 2) scHand.nd rfl (.inl rfl) (pe_op op_cat (pv 2) (pe_lst (pa_cons (pe_c c_starts_for hr (by decide) (by rfl) (pa_cons (pe_mk c_Way2 hr (by decide) (by rfl) (pa_cons pe_int (pa_cons pe_int pa_nil))) (pa_cons pe_int pa_nil))) (pa_cons (pe_c c_starts_for hr (by decide) (by rfl) (pa_cons (pe_mk c_Way3 hr (by decide) (by rfl) (pa_cons pe_int (pa_cons pe_non (pa_cons pe_int pa_nil)))) (pa_cons pe_int pa_nil))) pa_nil)))))
  (pss_cons (ps_set (i := 3) scHand.nd rfl (.inl rfl) (pe_op op_cat (pv 3) (pe_lst (pa_cons (pe_tup (pa_cons pe_non (pa_cons pe_non pa_nil))) (pa_cons pe_non (pa_cons (pe_tup (pa_cons (pe_un un_neg pe_int) (pa_cons (pe_un un_neg pe_int) pa_nil))) (pa_cons (pe_tup (pa_cons pe_non (pa_cons pe_int pa_nil))) (pa_cons (pe_tup (pa_cons pe_int (pa_cons pe_non pa_nil))) pa_nil))))))))
  (pss_cons (ps_set (i := 2) scHand.nd rfl (.inl rfl) (pe_op op_cat (pv 2) (pe_lst (pa_cons (pe_c c_starts_between hr (by decide) (by rfl) (pa_cons (pv 0) (pa_cons pe_int (pa_cons pe_non pa_nil)))) (pa_cons (pe_c c_starts_between hr (by decide) (by rfl) (pa_cons (pv 0) (pa_cons (pe_un un_neg pe_int) (pa_cons pe_int pa_nil)))) (pa_cons (pe_c c_starts_between hr (by decide) (by rfl) (pa_cons (pv 0) (pa_cons pe_int (pa_cons pe_int pa_nil)))) pa_nil))))))
  (pss_cons (ps_set (i := 2) scHand.nd rfl (.inl rfl) (pe_op op_cat (pv 2) (pe_lst (pa_cons (pe_c c_starts_between hr (by decide) (by rfl) (pa_cons (pv 0) (pa_cons (pe_un un_neg pe_int) (pa_cons pe_int pa_nil)))) pa_nil))))
  (pss_cons (ps_set (i := 3) scHand.nd rfl (.inl rfl) (pe_op op_cat (pv 3) (pe_lst (pa_cons (pe_tup (pa_cons pe_int (pa_cons pe_non pa_nil))) (pa_cons (pe_tup (pa_cons pe_non (pa_cons pe_non pa_nil))) (pa_cons pe_non (pa_cons (pe_tup (pa_cons (pe_un un_neg pe_int) (pa_cons pe_int pa_nil))) pa_nil)))))))
  (pss_cons (ps_set (i := 2) scHand.nd rfl (.inl rfl) (pe_op op_cat (pv 2) (pe_lst (pa_cons (pe_c c_starts_between hr (by decide) (by rfl) (pa_cons (pv 0) (pa_cons pe_non (pa_cons pe_non pa_nil)))) (pa_cons (pe_c c_starts_between hr (by decide) (by rfl) (pa_cons (pv 0) (pa_cons pe_non (pa_cons (pe_un un_neg pe_int) pa_nil)))) pa_nil)))))
  (pss_cons (ps_set (i := 2) scHand.nd rfl (.inl rfl) (pe_op op_cat (pv 2) (pe_lst (pa_cons (pe_c c_starts_between hr (by decide) (by rfl) (pa_cons (pv 0) (pa_cons pe_non (pa_cons (pe_un un_neg pe_int) pa_nil)))) (pa_cons (pe_c c_starts_between hr (by decide) (by rfl) (pa_cons (pv 0) (pa_cons pe_int (pa_cons pe_int pa_nil)))) pa_nil)))))
  (pss_cons (ps_set (i := 3) scHand.nd rfl (.inl rfl) (pe_op op_cat (pv 3) (pe_lst (pa_cons (pe_tup (pa_cons pe_non (pa_cons pe_non pa_nil))) (pa_cons pe_non (pa_cons (pe_tup (pa_cons pe_non (pa_cons (pe_un un_neg pe_int) pa_nil))) (pa_cons (pe_tup (pa_cons pe_int (pa_cons pe_non pa_nil))) pa_nil)))))))
  (pss_cons (ps_set (i := 2) scHand.nd rfl (.inl rfl) (pe_op op_cat (pv 2) (pe_lst (pa_cons (pe_c c_starts_between hr (by decide) (by rfl) (pa_cons (pv 0) (pa_cons (pe_un un_neg pe_int) (pa_cons pe_int pa_nil)))) (pa_cons (pe_c c_starts_between hr (by decide) (by rfl) (pa_cons (pv 0) (pa_cons (pe_un un_neg pe_int) (pa_cons pe_int pa_nil)))) (pa_cons (pe_c c_starts_between hr (by decide) (by rfl) (pa_cons (pv 1) (pa_cons pe_int (pa_cons pe_int pa_nil)))) pa_nil))))))
  (pss_cons (ps_set (i := 2) scHand.nd rfl (.inl rfl) (pe_op op_cat (pv 2) (pe_lst (pa_cons (pe_c c_starts_between hr (by decide) (by rfl) (pa_cons (pv 1) (pa_cons pe_int (pa_cons pe_non pa_nil)))) pa_nil))))
  (pss_cons (ps_set (i := 3) scHand.nd rfl (.inl rfl) (pe_op op_cat (pv 3) (pe_lst (pa_cons (pe_tup (pa_cons pe_non (pa_cons pe_int pa_nil))) (pa_cons (pe_tup (pa_cons (pe_un un_neg pe_int) (pa_cons pe_non pa_nil))) (pa_cons pe_non (pa_cons pe_non pa_nil)))))))
  (pss_cons (ps_set (i := 2) scHand.nd rfl (.inl rfl) (pe_op op_cat (pv 2) (pe_lst (pa_cons (pe_c c_starts_between hr (by decide) (by rfl) (pa_cons (pv 1) (pa_cons pe_int (pa_cons pe_int pa_nil)))) (pa_cons (pe_c c_starts_between hr (by decide) (by rfl) (pa_cons (pe_mk c_Way1 hr (by decide) (by rfl) (pa_cons pe_int pa_nil)) (pa_cons (pe_un un_neg (pe_op op_pow pe_int pe_int)) (pa_cons (pe_op op_pow pe_int pe_int) pa_nil)))) pa_nil)))))
  (pss_cons (ps_set (i := 2) scHand.nd rfl (.inl rfl) (pe_op op_cat (pv 2) (pe_lst (pa_cons (pe_ck0 k_starts_for hr (by decide) (by rfl) (pk_cons pe_int (pk_cons (pe_mk c_Way1 hr (by decide) (by rfl) (pa_cons (pe_un un_neg pe_int) pa_nil)) pk_nil))) pa_nil))))
  (pss_cons (ps_set (i := 3) scHand.nd rfl (.inl rfl) (pe_op op_cat (pv 3) (pe_lst (pa_cons (pe_tup (pa_cons pe_non (pa_cons pe_non pa_nil))) (pa_cons (pe_tup (pa_cons (pe_op op_sub (pe_un un_neg (pe_op op_pow pe_int pe_int)) pe_int) (pa_cons (pe_op op_sub (pe_op op_pow pe_int pe_int) pe_int) pa_nil))) (pa_cons (pe_tup (pa_cons pe_int (pa_cons pe_int pa_nil))) pa_nil))))))
  (pss_one (ps_ret (pe_c c__law_same hr (by decide) (by rfl) (pa_cons (pe_op op_cat (pv 2) (pe_lst (pa_cons (pe_ck0 k_starts_between hr (by decide) (by rfl) (pk_cons pe_int (pk_cons pe_non (pk_cons (pe_mk c_Way2 hr (by decide) (by rfl) (pa_cons pe_int (pa_cons pe_int pa_nil))) pk_nil)))) pa_nil))) (pa_cons (pe_op op_cat (pv 3) (pe_lst (pa_cons (pe_tup (pa_cons pe_non (pa_cons pe_int pa_nil))) pa_nil))) pa_nil)))))))))))))))))))))))), ?_⟩
    refine par (fun v w => [some v, some w, none, none]) (fun _ _ => rfl) (gv_way3 (K := K) (s := (some (-1))) (f := (some (-4))) (c := (some (6))) (ga_cons (gv_neg (gv_int 1)) (ga_cons (gv_neg (gv_int 4)) (ga_cons (gv_int 6) ga_nil))) (by decide +kernel)) (gv_way3 (K := K) (s := none) (f := (some (3))) (c := (some (3))) (ga_cons gv_non (ga_cons (gv_int 3) (ga_cons (gv_int 3) ga_nil))) (by decide +kernel)) (fun _ _ _ s r => rw_mono s r) fun v w H1 s1 r1 r2 => ?_
    obtain ⟨p0, rfl, W0⟩ := r1
    obtain ⟨p1, rfl, W1⟩ := r2
    refine asg (i := 2) (fun v => [some (V.ref p0), some (V.ref p1), some v, none]) (fun _ => rfl) (gv_lst (K := K) (ga_cons (gv_for (K := K) (gv_var (i := 0) rfl fun _ s => ⟨_, rfl, W0.same s⟩) (gv_int 6) (by decide +kernel)) (ga_cons (gv_for (K := K) (gv_var (i := 0) rfl fun _ s => ⟨_, rfl, W0.same s⟩) (gv_neg (gv_int 4)) (by decide +kernel)) (ga_cons (gv_for (K := K) (gv_var (i := 0) rfl fun _ s => ⟨_, rfl, W0.same s⟩) (gv_int 0) (by decide +kernel)) (ga_cons (gv_for (K := K) (gv_var (i := 0) rfl fun _ s => ⟨_, rfl, W0.same s⟩) (gv_int 9) (by decide +kernel)) ga_nil)))) (by show 4 ≤ sizeLine; decide)) fun v2 H2 s2 L2 => ?_
    replace W0 := W0.same s2
    replace W1 := W1.same s2
    refine asg (i := 2) (fun v => [some (V.ref p0), some (V.ref p1), some v, none]) (fun _ => rfl) (gv_cat (K := K) (gv_var (i := 2) rfl fun _ s => rl_mono s L2) (gv_lst (K := K) (ga_cons (gv_for (K := K) (gv_var (i := 0) rfl fun _ s => ⟨_, rfl, W0.same s⟩) (gv_neg (gv_int 5)) (by decide +kernel)) ga_nil) (by show 1 ≤ sizeLine; decide)) (by decide +kernel)) fun v3 H3 s3 L2 => ?_
    replace W0 := W0.same s3
    replace W1 := W1.same s3
    refine asg (i := 3) (fun v => [some (V.ref p0), some (V.ref p1), some v3, some v]) (fun _ => rfl) (gv_lst (K := K) (ga_cons (gv_tup (K := K) (ga_cons (gv_int 7) (ga_cons gv_non ga_nil)) (by show 2 ≤ sizeLine; decide)) (ga_cons (gv_tup (K := K) (ga_cons gv_non (ga_cons (gv_neg (gv_int 3)) ga_nil)) (by show 2 ≤ sizeLine; decide)) (ga_cons (gv_tup (K := K) (ga_cons (gv_int 1) (ga_cons (gv_int 1) ga_nil)) (by show 2 ≤ sizeLine; decide)) (ga_cons gv_non (ga_cons gv_non ga_nil))))) (by show 5 ≤ sizeLine; decide)) fun v4 H4 s4 L3 => ?_
    replace W0 := W0.same s4
    replace W1 := W1.same s4
    replace L2 := rl_mono s4 L2
    refine asg (i := 2) (fun v => [some (V.ref p0), some (V.ref p1), some v, some v4]) (fun _ => rfl) (gv_cat (K := K) (gv_var (i := 2) rfl fun _ s => rl_mono s L2) (gv_lst (K := K) (ga_cons (gv_for (K := K) (gv_var (i := 1) rfl fun _ s => ⟨_, rfl, W1.same s⟩) (gv_int 3) (by decide +kernel)) (ga_cons (gv_for (K := K) (gv_var (i := 1) rfl fun _ s => ⟨_, rfl, W1.same s⟩) (gv_int 4) (by decide +kernel)) (ga_cons (gv_for (K := K) (gv_way1 (K := K) (s := (some (5))) (ga_cons (gv_int 5) ga_nil) (by decide +kernel)) (gv_neg (gv_int 2)) (by decide +kernel)) ga_nil))) (by show 3 ≤ sizeLine; decide)) (by decide +kernel)) fun v5 H5 s5 L2 => ?_
    replace W0 := W0.same s5
    replace W1 := W1.same s5
    replace L3 := rl_mono s5 L3
    refine asg (i := 2) (fun v => [some (V.ref p0), some (V.ref p1), some v, some v4]) (fun _ => rfl) (gv_cat (K := K) (gv_var (i := 2) rfl fun _ s => rl_mono s L2) (gv_lst (K := K) (ga_cons (gv_for (K := K) (gv_way2 (K := K) (s := (some (0))) (f := (some (0))) (ga_cons (gv_int 0) (ga_cons (gv_int 0) ga_nil)) (by decide +kernel)) (gv_int 0) (by decide +kernel)) (ga_cons (gv_for (K := K) (gv_way3 (K := K) (s := (some (0))) (f := none) (c := (some (0))) (ga_cons (gv_int 0) (ga_cons gv_non (ga_cons (gv_int 0) ga_nil))) (by decide +kernel)) (gv_int 0) (by decide +kernel)) ga_nil)) (by show 2 ≤ sizeLine; decide)) (by decide +kernel)) fun v6 H6 s6 L2 => ?_
    replace W0 := W0.same s6
    replace W1 := W1.same s6
    replace L3 := rl_mono s6 L3
    refine asg (i := 3) (fun v => [some (V.ref p0), some (V.ref p1), some v6, some v]) (fun _ => rfl) (gv_cat (K := K) (gv_var (i := 3) rfl fun _ s => rl_mono s L3) (gv_lst (K := K) (ga_cons (gv_tup (K := K) (ga_cons gv_non (ga_cons gv_non ga_nil)) (by show 2 ≤ sizeLine; decide)) (ga_cons gv_non (ga_cons (gv_tup (K := K) (ga_cons (gv_neg (gv_int 7)) (ga_cons (gv_neg (gv_int 7)) ga_nil)) (by show 2 ≤ sizeLine; decide)) (ga_cons (gv_tup (K := K) (ga_cons gv_non (ga_cons (gv_int 0) ga_nil)) (by show 2 ≤ sizeLine; decide)) (ga_cons (gv_tup (K := K) (ga_cons (gv_int 0) (ga_cons gv_non ga_nil)) (by show 2 ≤ sizeLine; decide)) ga_nil))))) (by show 5 ≤ sizeLine; decide)) (by decide +kernel)) fun v7 H7 s7 L3 => ?_
    replace W0 := W0.same s7
    replace W1 := W1.same s7
    replace L2 := rl_mono s7 L2
    refine asg (i := 2) (fun v => [some (V.ref p0), some (V.ref p1), some v, some v7]) (fun _ => rfl) (gv_cat (K := K) (gv_var (i := 2) rfl fun _ s => rl_mono s L2) (gv_lst (K := K) (ga_cons (gv_sb (K := K) (lo := (some (0))) (hi := none) (gv_var (i := 0) rfl fun _ s => ⟨_, rfl, W0.same s⟩) (gv_int 0) gv_non (by decide +kernel)) (ga_cons (gv_sb (K := K) (lo := (some (-4))) (hi := (some (6))) (gv_var (i := 0) rfl fun _ s => ⟨_, rfl, W0.same s⟩) (gv_neg (gv_int 4)) (gv_int 6) (by decide +kernel)) (ga_cons (gv_sb (K := K) (lo := (some (7))) (hi := (some (9))) (gv_var (i := 0) rfl fun _ s => ⟨_, rfl, W0.same s⟩) (gv_int 7) (gv_int 9) (by decide +kernel)) ga_nil))) (by show 3 ≤ sizeLine; decide)) (by decide +kernel)) fun v8 H8 s8 L2 => ?_
    replace W0 := W0.same s8
    replace W1 := W1.same s8
    replace L3 := rl_mono s8 L3
    refine asg (i := 2) (fun v => [some (V.ref p0), some (V.ref p1), some v, some v7]) (fun _ => rfl) (gv_cat (K := K) (gv_var (i := 2) rfl fun _ s => rl_mono s L2) (gv_lst (K := K) (ga_cons (gv_sb (K := K) (lo := (some (-2))) (hi := (some (3))) (gv_var (i := 0) rfl fun _ s => ⟨_, rfl, W0.same s⟩) (gv_neg (gv_int 2)) (gv_int 3) (by decide +kernel)) ga_nil) (by show 1 ≤ sizeLine; decide)) (by decide +kernel)) fun v9 H9 s9 L2 => ?_
    replace W0 := W0.same s9
    replace W1 := W1.same s9
    replace L3 := rl_mono s9 L3
    refine asg (i := 3) (fun v => [some (V.ref p0), some (V.ref p1), some v9, some v]) (fun _ => rfl) (gv_cat (K := K) (gv_var (i := 3) rfl fun _ s => rl_mono s L3) (gv_lst (K := K) (ga_cons (gv_tup (K := K) (ga_cons (gv_int 1) (ga_cons gv_non ga_nil)) (by show 2 ≤ sizeLine; decide)) (ga_cons (gv_tup (K := K) (ga_cons gv_non (ga_cons gv_non ga_nil)) (by show 2 ≤ sizeLine; decide)) (ga_cons gv_non (ga_cons (gv_tup (K := K) (ga_cons (gv_neg (gv_int 1)) (ga_cons (gv_int 4) ga_nil)) (by show 2 ≤ sizeLine; decide)) ga_nil)))) (by show 4 ≤ sizeLine; decide)) (by decide +kernel)) fun v10 H10 s10 L3 => ?_
    replace W0 := W0.same s10
    replace W1 := W1.same s10
    replace L2 := rl_mono s10 L2
    refine asg (i := 2) (fun v => [some (V.ref p0), some (V.ref p1), some v, some v10]) (fun _ => rfl) (gv_cat (K := K) (gv_var (i := 2) rfl fun _ s => rl_mono s L2) (gv_lst (K := K) (ga_cons (gv_sb (K := K) (lo := none) (hi := none) (gv_var (i := 0) rfl fun _ s => ⟨_, rfl, W0.same s⟩) gv_non gv_non (by decide +kernel)) (ga_cons (gv_sb (K := K) (lo := none) (hi := (some (-5))) (gv_var (i := 0) rfl fun _ s => ⟨_, rfl, W0.same s⟩) gv_non (gv_neg (gv_int 5)) (by decide +kernel)) ga_nil)) (by show 2 ≤ sizeLine; decide)) (by decide +kernel)) fun v11 H11 s11 L2 => ?_
    replace W0 := W0.same s11
    replace W1 := W1.same s11
    replace L3 := rl_mono s11 L3
    refine asg (i := 2) (fun v => [some (V.ref p0), some (V.ref p1), some v, some v10]) (fun _ => rfl) (gv_cat (K := K) (gv_var (i := 2) rfl fun _ s => rl_mono s L2) (gv_lst (K := K) (ga_cons (gv_sb (K := K) (lo := none) (hi := (some (-4))) (gv_var (i := 0) rfl fun _ s => ⟨_, rfl, W0.same s⟩) gv_non (gv_neg (gv_int 4)) (by decide +kernel)) (ga_cons (gv_sb (K := K) (lo := (some (6))) (hi := (some (6))) (gv_var (i := 0) rfl fun _ s => ⟨_, rfl, W0.same s⟩) (gv_int 6) (gv_int 6) (by decide +kernel)) ga_nil)) (by show 2 ≤ sizeLine; decide)) (by decide +kernel)) fun v12 H12 s12 L2 => ?_
    replace W0 := W0.same s12
    replace W1 := W1.same s12
    replace L3 := rl_mono s12 L3
    refine asg (i := 3) (fun v => [some (V.ref p0), some (V.ref p1), some v12, some v]) (fun _ => rfl) (gv_cat (K := K) (gv_var (i := 3) rfl fun _ s => rl_mono s L3) (gv_lst (K := K) (ga_cons (gv_tup (K := K) (ga_cons gv_non (ga_cons gv_non ga_nil)) (by show 2 ≤ sizeLine; decide)) (ga_cons gv_non (ga_cons (gv_tup (K := K) (ga_cons gv_non (ga_cons (gv_neg (gv_int 3)) ga_nil)) (by show 2 ≤ sizeLine; decide)) (ga_cons (gv_tup (K := K) (ga_cons (gv_int 7) (ga_cons gv_non ga_nil)) (by show 2 ≤ sizeLine; decide)) ga_nil)))) (by show 4 ≤ sizeLine; decide)) (by decide +kernel)) fun v13 H13 s13 L3 => ?_
    replace W0 := W0.same s13
    replace W1 := W1.same s13
    replace L2 := rl_mono s13 L2
    refine asg (i := 2) (fun v => [some (V.ref p0), some (V.ref p1), some v, some v13]) (fun _ => rfl) (gv_cat (K := K) (gv_var (i := 2) rfl fun _ s => rl_mono s L2) (gv_lst (K := K) (ga_cons (gv_sb (K := K) (lo := (some (-9))) (hi := (some (5))) (gv_var (i := 0) rfl fun _ s => ⟨_, rfl, W0.same s⟩) (gv_neg (gv_int 9)) (gv_int 5) (by decide +kernel)) (ga_cons (gv_sb (K := K) (lo := (some (-3))) (hi := (some (99))) (gv_var (i := 0) rfl fun _ s => ⟨_, rfl, W0.same s⟩) (gv_neg (gv_int 3)) (gv_int 99) (by decide +kernel)) (ga_cons (gv_sb (K := K) (lo := (some (0))) (hi := (some (2))) (gv_var (i := 1) rfl fun _ s => ⟨_, rfl, W1.same s⟩) (gv_int 0) (gv_int 2) (by decide +kernel)) ga_nil))) (by show 3 ≤ sizeLine; decide)) (by decide +kernel)) fun v14 H14 s14 L2 => ?_
    replace W0 := W0.same s14
    replace W1 := W1.same s14
    replace L3 := rl_mono s14 L3
    refine asg (i := 2) (fun v => [some (V.ref p0), some (V.ref p1), some v, some v13]) (fun _ => rfl) (gv_cat (K := K) (gv_var (i := 2) rfl fun _ s => rl_mono s L2) (gv_lst (K := K) (ga_cons (gv_sb (K := K) (lo := (some (4))) (hi := none) (gv_var (i := 1) rfl fun _ s => ⟨_, rfl, W1.same s⟩) (gv_int 4) gv_non (by decide +kernel)) ga_nil) (by show 1 ≤ sizeLine; decide)) (by decide +kernel)) fun v15 H15 s15 L2 => ?_
    replace W0 := W0.same s15
    replace W1 := W1.same s15
    replace L3 := rl_mono s15 L3
    refine asg (i := 3) (fun v => [some (V.ref p0), some (V.ref p1), some v15, some v]) (fun _ => rfl) (gv_cat (K := K) (gv_var (i := 3) rfl fun _ s => rl_mono s L3) (gv_lst (K := K) (ga_cons (gv_tup (K := K) (ga_cons gv_non (ga_cons (gv_int 6) ga_nil)) (by show 2 ≤ sizeLine; decide)) (ga_cons (gv_tup (K := K) (ga_cons (gv_neg (gv_int 2)) (ga_cons gv_non ga_nil)) (by show 2 ≤ sizeLine; decide)) (ga_cons gv_non (ga_cons gv_non ga_nil)))) (by show 4 ≤ sizeLine; decide)) (by decide +kernel)) fun v16 H16 s16 L3 => ?_
    replace W0 := W0.same s16
    replace W1 := W1.same s16
    replace L2 := rl_mono s16 L2
    refine asg (i := 2) (fun v => [some (V.ref p0), some (V.ref p1), some v, some v16]) (fun _ => rfl) (gv_cat (K := K) (gv_var (i := 2) rfl fun _ s => rl_mono s L2) (gv_lst (K := K) (ga_cons (gv_sb (K := K) (lo := (some (3))) (hi := (some (3))) (gv_var (i := 1) rfl fun _ s => ⟨_, rfl, W1.same s⟩) (gv_int 3) (gv_int 3) (by decide +kernel)) (ga_cons (gv_sb (K := K) (lo := (some (-1000000000000000000000000000000))) (hi := (some (1000000000000000000000000000000))) (gv_way1 (K := K) (s := (some (2))) (ga_cons (gv_int 2) ga_nil) (by decide +kernel)) (gv_neg (gv_pow (gv_int 10) (gv_int 30) ⟨by decide, by decide, by decide⟩)) (gv_pow (gv_int 10) (gv_int 30) ⟨by decide, by decide, by decide⟩) (by decide +kernel)) ga_nil)) (by show 2 ≤ sizeLine; decide)) (by decide +kernel)) fun v17 H17 s17 L2 => ?_
    replace W0 := W0.same s17
    replace W1 := W1.same s17
    replace L3 := rl_mono s17 L3
    refine asg (i := 2) (fun v => [some (V.ref p0), some (V.ref p1), some v, some v16]) (fun _ => rfl) (gv_cat (K := K) (gv_var (i := 2) rfl fun _ s => rl_mono s L2) (gv_lst (K := K) (ga_cons (gv_forK (K := K) (gv_int 1) (gv_way1 (K := K) (s := (some (-1))) (ga_cons (gv_neg (gv_int 1)) ga_nil) (by decide +kernel)) (by decide +kernel)) ga_nil) (by show 1 ≤ sizeLine; decide)) (by decide +kernel)) fun v18 H18 s18 L2 => ?_
    replace W0 := W0.same s18
    replace W1 := W1.same s18
    replace L3 := rl_mono s18 L3
    refine asg (i := 3) (fun v => [some (V.ref p0), some (V.ref p1), some v18, some v]) (fun _ => rfl) (gv_cat (K := K) (gv_var (i := 3) rfl fun _ s => rl_mono s L3) (gv_lst (K := K) (ga_cons (gv_tup (K := K) (ga_cons gv_non (ga_cons gv_non ga_nil)) (by show 2 ≤ sizeLine; decide)) (ga_cons (gv_tup (K := K) (ga_cons (gv_sub (gv_neg (gv_pow (gv_int 10) (gv_int 30) ⟨by decide, by decide, by decide⟩)) (gv_int 2)) (ga_cons (gv_sub (gv_pow (gv_int 10) (gv_int 30) ⟨by decide, by decide, by decide⟩) (gv_int 2)) ga_nil)) (by show 2 ≤ sizeLine; decide)) (ga_cons (gv_tup (K := K) (ga_cons (gv_int 2) (ga_cons (gv_int 2) ga_nil)) (by show 2 ≤ sizeLine; decide)) ga_nil))) (by show 3 ≤ sizeLine; decide)) (by decide +kernel)) fun v19 H19 s19 L3 => ?_
    replace W0 := W0.same s19
    replace W1 := W1.same s19
    replace L2 := rl_mono s19 L2
    refine gv_same (n := 2) (gv_rl (gv_cat (K := K) (gv_var (i := 2) rfl fun _ s => rl_mono s L2) (gv_lst (K := K) (ga_cons (gv_sbK (K := K) (lo := none) (hi := (some (4))) (gv_int 4) gv_non (gv_way2 (K := K) (s := (some (1))) (f := (some (0))) (ga_cons (gv_int 1) (ga_cons (gv_int 0) ga_nil)) (by decide +kernel)) (by decide +kernel)) ga_nil) (by show 1 ≤ sizeLine; decide)) (by decide +kernel))) (gv_imp (gv_rl (gv_cat (K := K) (gv_var (i := 3) rfl fun _ s => rl_mono s L3) (gv_lst (K := K) (ga_cons (gv_tup (K := K) (ga_cons gv_non (ga_cons (gv_int 3) ga_nil)) (by show 2 ≤ sizeLine; decide)) ga_nil) (by show 1 ≤ sizeLine; decide)) (by decide +kernel))) fun H v h => ?_) (by decide +kernel) _ (Same.refl _) _ fun v Hz sz rz => ?_
    · exact dp_cast (by kernel_rfl) h
    · cases rz
      exact q _ ((((((((((((((((((((s1).trans s2).trans s3).trans s4).trans s5).trans s6).trans s7).trans s8).trans s9).trans s10).trans s11).trans s12).trans s13).trans s14).trans s15).trans s16).trans s17).trans s18).trans s19).trans sz)
end
end BL

namespace BL
open PySem PySem.Spec PyProof.Rows L2
open C8 (Cal Mak pe_c pe_mk)
abbrev sLaw : Stmt := topS 24
abbrev nLaw : List Str := ["_law_script", "_law_cells_so", "_law_k", "_law_box_here", "_law_turn"]
theorem scLaw : FnScope nLaw ["_law_script"] (defScope sLaw) := ⟨rfl, rfl, rfl, by decide +kernel, rfl, by decide +kernel, by decide +kernel⟩
section
variable {P : Program} {w : World} {K : PySem.W.Frag} {mg : Str → Option Value} {base : Heap} {C : Addr}
theorem ok_law {f : Addr} {fd : FuncData} (F : Fun K "law" "law" sLaw f fd) (T : Bt mg) (c__law_by_hand_right : Cal P w K mg base 5 "_law_by_hand_right" spHand []) (c__law_cells : Cal P w K mg base 1 "_law_cells" (spCells K) []) (c__law_box : Cal P w K mg base 1 "_law_box" (spBox K) []) (c__law_right : Cal P w K mg base 5 "_law_right" spRight []) :
    FnOk P w K mg base CX0 6 f fd ["_law_script"] (spLaw K) := by
  refine F.ok scLaw (fun vs H Q E h => ?_) (fun cdv A outer s H vs Q E hr h => ?_)
  · obtain ⟨a, ns, rfl, _⟩ := h
    rfl
  · obtain ⟨a, ns, rfl, hS, hl, q⟩ := h
    refine ⟨_, (pss_cons (ps_if (pt_not (pt_val (pe_c0 c__law_by_hand_right hr (by decide) (by rfl)))) (pss_one (ps_ret pe_bl)) pss_nil)
  (pss_cons (ps_set (i := 1) scLaw.nd rfl (.inl rfl) (pe_c c__law_cells hr (by decide) (by rfl) (pa_cons (pv 0) (pa_cons pe_int pa_nil))))
  (pss_cons (ps_for PassesOwn.never rfl (pi_range1 (by rfl) T.range (pa_cons (pe_callB call_len_seq (by rfl) T.len PySem.boot_len (pa_cons (pv 1) pa_nil)) pa_nil)) (pg_name (i := 2) scLaw.nd rfl (.inl rfl)) (pss_cons (ps_set (i := 3) scLaw.nd rfl (.inr rfl) (pe_c c__law_box hr (by decide) (by rfl) (pa_cons (pv 1) (pa_cons (pv 2) pa_nil))))
  (pss_one (ps_if (pt_not (pt_val (pe_callB (cr_all rfl) (by rfl) T.all (by decide +kernel) (pa_cons (pe_lc (own := [("_law_turn", 4)]) (g := gName 4) (by rfl) scLaw.nd (pi_range1 (by rfl) T.range (pa_cons pe_int pa_nil)) (blkOk_by (own := [("_law_turn", 4)]) (N := nLaw) (sc := defScope sLaw) (by decide +kernel)) (fun _ _ _ _ _ => (pg_name (i := 4) scLaw.nd rfl (.inl rfl))) (fun _ _ _ _ _ => pts_nil) (fun _ _ _ _ _ => (pe_c c__law_right hr (by decide) (by rfl) (pa_cons (pv 3) pa_nil)))) pa_nil)))) (pss_one (ps_ret pe_bl)) pss_nil))))
  (pss_one (ps_ret pe_bl))))), ?_⟩
    refine ⟨rfl, fun H1 s1 => ⟨_, rfl, iteF ?_⟩⟩
    refine ⟨_, rfl, a, ns, rfl, s1.seq hS, hl, fun p cs H2 s2 np ep lp => ?_⟩
    refine ⟨_, rfl, p, _, rfl, .inl (SqL.of ep), _, rfl, ?_, ?_, for_it (walk_range (lo := 0) (n := ((cs.map V.int).length : Int).toNat)) (fun i σ H3 => ∃ v2 v3 v4, σ = [some (.ref a), some (.ref p), v2, v3, v4] ∧ H3 p = some (.lst (cs.map V.int))) ⟨none, none, none, rfl, ep⟩ (fun _ _ _ _ _ => trivial) ?_ ?_⟩
    · rw [List.length_map]; omega
    · rw [List.length_map]; omega
    · rintro i y σ H3 H4 hi ⟨v2, v3, v4, rfl, e3⟩ ⟨rfl, rfl⟩
      have hi' : i < cs.length := by rw [List.length_map] at hi; omega
      refine ⟨_, rfl, _, rfl, p, cs, i, (by show [V.ref p, V.int (0 + (i : Int))] = [V.ref p, V.int (i : Int)]; rw [Int.zero_add]), SqL.of e3, hi', lp, fun b H5 s5 nb B5 => ?_⟩
      have e5 := s5 _ _ e3
      have npb : p ≠ b := ne_of_none e3 nb
      refine ⟨1, rfl, by decide, by decide, fun D nD => ?_⟩
      have nbD : b ≠ D := fun z => by
        obtain ⟨x, y, z', e, _⟩ := B5
        rw [← z, e] at nD
        cases nD
      refine lc_it (walk_range (lo := 0) (n := (1 : Int).toNat)) (fun k H6 => k ≤ 1 ∧ H6 D = some (.lst ((List.replicate k true).map V.bl)) ∧ Box H6 b (1000000 * k) ∧ But b H5 H6) ⟨Nat.zero_le _, upd_same, B5.same (same_upd nD), But.of (same_upd nD)⟩ (fun _ _ _ _ => trivial) ?_ ?_
      · rintro k y H6 H7 hk ⟨k1, e6, B6, b6⟩ ⟨rfl, rfl⟩
        have hk0 : k < 1 := hk
        refine ⟨rfl, ?_⟩
        dsimp only [tYes]
        refine iteT ⟨_, rfl, b, _, rfl, B6, by omega, fun H8 b8 B8 => ⟨_, b8 _ _ nbD.symm e6, ?_, by omega, ?_, ?_, ?_⟩⟩
        · rw [List.length_map, List.length_replicate]
          exact small1000 (by omega)
        · rw [upd_same, List.replicate_succ', List.map_append]
          rfl
        · obtain ⟨x, y, z, e, z0, z1⟩ := B8
          exact ⟨x, y, z, by rw [upd_ne nbD]; exact e, z0, by omega⟩
        · intro c o n e
          have nc : c ≠ D := ne_of_none e nD
          rw [upd_ne nc]
          exact b8 _ _ n (b6 _ _ n e)
      · rintro H6 ⟨k1, e6, B6, b6⟩
        refine ⟨D, _, rfl, SqL.of e6, ?_⟩
        refine ⟨_, rfl, ?_⟩
        refine iteF ?_
        exact ⟨_, _, _, rfl, b6 _ _ npb e5⟩
    · rintro σ H3 ⟨v2, v3, v4, rfl, e3⟩
      exact q H3
end
end BL

namespace BL
open PySem PySem.Spec PyProof.Rows L2
open C8 (Cal Mak pe_c pe_mk)
abbrev sGs : Stmt := inClass (topS 8) 1
abbrev sGf : Stmt := inClass (topS 8) 2
abbrev sGc : Stmt := inClass (topS 8) 3
theorem sc_sGs : FnScope ["self"] ["self"] (defScope sGs) := ⟨rfl, rfl, rfl, by decide +kernel, rfl, by decide +kernel, by decide +kernel⟩
theorem sc_sGf : FnScope ["self"] ["self"] (defScope sGf) := ⟨rfl, rfl, rfl, by decide +kernel, rfl, by decide +kernel, by decide +kernel⟩
theorem sc_sGc : FnScope ["self"] ["self"] (defScope sGc) := ⟨rfl, rfl, rfl, by decide +kernel, rfl, by decide +kernel, by decide +kernel⟩
theorem all_mk {l : PySem.W.OpenLaw} {w : World} {K : PySem.W.Frag} {h : Heap} {mg : Str → Option Value} {fa C f1 f2 f3 f4 f5 f6 f7 f8 f9 f10 f11 f12 f13 f14 f15 : Addr} (X : K.In h) (G : h.Ns mainGlobals mg) (hfa : mg "law" = some (.ref fa))
    {od1 an1 : Option Addr} {sl1 : Array (Option Value)} {oc1 kV1 dc1 pm1 cd1 ct1 : Value}
    {od2 an2 : Option Addr} {sl2 : Array (Option Value)} {oc2 kV2 dc2 pm2 cd2 ct2 : Value}
    {od3 an3 : Option Addr} {sl3 : Array (Option Value)} {oc3 kV3 dc3 pm3 cd3 ct3 : Value}
    {od4 an4 : Option Addr} {sl4 : Array (Option Value)} {oc4 kV4 dc4 pm4 cd4 ct4 : Value}
    {od5 an5 : Option Addr} {sl5 : Array (Option Value)} {oc5 kV5 dc5 pm5 cd5 ct5 : Value}
    {od6 an6 : Option Addr} {sl6 : Array (Option Value)} {oc6 kV6 dc6 pm6 cd6 ct6 : Value}
    {od7 an7 : Option Addr} {sl7 : Array (Option Value)} {oc7 kV7 dc7 pm7 cd7 ct7 : Value}
    {od8 an8 : Option Addr} {sl8 : Array (Option Value)} {oc8 kV8 dc8 pm8 cd8 ct8 : Value}
    {od9 an9 : Option Addr} {sl9 : Array (Option Value)} {oc9 kV9 dc9 pm9 cd9 ct9 : Value}
    {od10 an10 : Option Addr} {sl10 : Array (Option Value)} {oc10 kV10 dc10 pm10 cd10 ct10 : Value}
    {od11 an11 : Option Addr} {sl11 : Array (Option Value)} {oc11 kV11 dc11 pm11 cd11 ct11 : Value}
    {od12 an12 : Option Addr} {sl12 : Array (Option Value)} {oc12 kV12 dc12 pm12 cd12 ct12 : Value}
    {od13 an13 : Option Addr} {sl13 : Array (Option Value)} {oc13 kV13 dc13 pm13 cd13 ct13 : Value}
    {od14 an14 : Option Addr} {sl14 : Array (Option Value)} {oc14 kV14 dc14 pm14 cd14 ct14 : Value}
    {od15 an15 : Option Addr} {sl15 : Array (Option Value)} {oc15 kV15 dc15 pm15 cd15 ct15 : Value}
    {odI anI : Option Addr} {slI : Array (Option Value)} {ocI kVI dcI pmI cdI ctI : Value} {fI dT : Addr} {odT : Option Addr} {nT : Nat} {slT : Array (Option Value)}
    {od_shift an_shift : Option Addr} {sl_shift : Array (Option Value)} {oc_shift kV_shift dc_shift pm_shift cd_shift ct_shift : Value} {p_shift g_shift : Addr} {r_shift : List Value}
    {od_floor an_floor : Option Addr} {sl_floor : Array (Option Value)} {oc_floor kV_floor dc_floor pm_floor cd_floor ct_floor : Value} {p_floor g_floor : Addr} {r_floor : List Value}
    {od_cap an_cap : Option Addr} {sl_cap : Array (Option Value)} {oc_cap kV_cap dc_cap pm_cap cd_cap ct_cap : Value} {p_cap g_cap : Addr} {r_cap : List Value}
    (a1 : PySem.W.nsIn K mainGlobals "_law_box" = some (some (.ref f1))) (l1 : K.lookup f1 = some ⟨oc1, od1, .func (PySem.W.fnOf "_law_box" "_law_box" (defArgs sBox) (defBody sBox) (defScope sBox) .none kV1 dc1 pm1 an1 cd1 ct1), sl1⟩) (c1 : PySem.W.codeIn K cd1 "_law_box" = true) (k1 : PySem.W.keepIn K (.ref f1) = true)
    (a2 : PySem.W.nsIn K mainGlobals "_law_take" = some (some (.ref f2))) (l2 : K.lookup f2 = some ⟨oc2, od2, .func (PySem.W.fnOf "_law_take" "_law_take" (defArgs sTake) (defBody sTake) (defScope sTake) .none kV2 dc2 pm2 an2 cd2 ct2), sl2⟩) (c2 : PySem.W.codeIn K cd2 "_law_take" = true) (k2 : PySem.W.keepIn K (.ref f2) = true)
    (a3 : PySem.W.nsIn K mainGlobals "_law_cells" = some (some (.ref f3))) (l3 : K.lookup f3 = some ⟨oc3, od3, .func (PySem.W.fnOf "_law_cells" "_law_cells" (defArgs sCells) (defBody sCells) (defScope sCells) .none kV3 dc3 pm3 an3 cd3 ct3), sl3⟩) (c3 : PySem.W.codeIn K cd3 "_law_cells" = true) (k3 : PySem.W.keepIn K (.ref f3) = true)
    (a4 : PySem.W.nsIn K mainGlobals "_law_of" = some (some (.ref f4))) (l4 : K.lookup f4 = some ⟨oc4, od4, .func (PySem.W.fnOf "_law_of" "_law_of" (defArgs sOf) (defBody sOf) (defScope sOf) .none kV4 dc4 pm4 an4 cd4 ct4), sl4⟩) (c4 : PySem.W.codeIn K cd4 "_law_of" = true) (k4 : PySem.W.keepIn K (.ref f4) = true)
    (a5 : PySem.W.nsIn K mainGlobals "_law_same" = some (some (.ref f5))) (l5 : K.lookup f5 = some ⟨oc5, od5, .func (PySem.W.fnOf "_law_same" "_law_same" (defArgs sSame) (defBody sSame) (defScope sSame) .none kV5 dc5 pm5 an5 cd5 ct5), sl5⟩) (c5 : PySem.W.codeIn K cd5 "_law_same" = true) (k5 : PySem.W.keepIn K (.ref f5) = true)
    (a6 : PySem.W.nsIn K mainGlobals "_law_bound" = some (some (.ref f6))) (l6 : K.lookup f6 = some ⟨oc6, od6, .func (PySem.W.fnOf "_law_bound" "_law_bound" (defArgs sBound) (defBody sBound) (defScope sBound) .none kV6 dc6 pm6 an6 cd6 ct6), sl6⟩) (c6 : PySem.W.codeIn K cd6 "_law_bound" = true) (k6 : PySem.W.keepIn K (.ref f6) = true)
    (a7 : PySem.W.nsIn K mainGlobals "_law_drawn_way" = some (some (.ref f7))) (l7 : K.lookup f7 = some ⟨oc7, od7, .func (PySem.W.fnOf "_law_drawn_way" "_law_drawn_way" (defArgs sDrawn) (defBody sDrawn) (defScope sDrawn) .none kV7 dc7 pm7 an7 cd7 ct7), sl7⟩) (c7 : PySem.W.codeIn K cd7 "_law_drawn_way" = true) (k7 : PySem.W.keepIn K (.ref f7) = true)
    (a8 : PySem.W.nsIn K mainGlobals "_law_leads" = some (some (.ref f8))) (l8 : K.lookup f8 = some ⟨oc8, od8, .func (PySem.W.fnOf "_law_leads" "_law_leads" (defArgs sLeads) (defBody sLeads) (defScope sLeads) .none kV8 dc8 pm8 an8 cd8 ct8), sl8⟩) (c8 : PySem.W.codeIn K cd8 "_law_leads" = true) (k8 : PySem.W.keepIn K (.ref f8) = true)
    (a9 : PySem.W.nsIn K mainGlobals "_law_between" = some (some (.ref f9))) (l9 : K.lookup f9 = some ⟨oc9, od9, .func (PySem.W.fnOf "_law_between" "_law_between" (defArgs sBetw) (defBody sBetw) (defScope sBetw) .none kV9 dc9 pm9 an9 cd9 ct9), sl9⟩) (c9 : PySem.W.codeIn K cd9 "_law_between" = true) (k9 : PySem.W.keepIn K (.ref f9) = true)
    (a10 : PySem.W.nsIn K mainGlobals "_law_told_right" = some (some (.ref f10))) (l10 : K.lookup f10 = some ⟨oc10, od10, .func (PySem.W.fnOf "_law_told_right" "_law_told_right" (defArgs sTold) (defBody sTold) (defScope sTold) .none kV10 dc10 pm10 an10 cd10 ct10), sl10⟩) (c10 : PySem.W.codeIn K cd10 "_law_told_right" = true) (k10 : PySem.W.keepIn K (.ref f10) = true)
    (a11 : PySem.W.nsIn K mainGlobals "_law_by_hand_right" = some (some (.ref f11))) (l11 : K.lookup f11 = some ⟨oc11, od11, .func (PySem.W.fnOf "_law_by_hand_right" "_law_by_hand_right" (defArgs sHand) (defBody sHand) (defScope sHand) .none kV11 dc11 pm11 an11 cd11 ct11), sl11⟩) (c11 : PySem.W.codeIn K cd11 "_law_by_hand_right" = true) (k11 : PySem.W.keepIn K (.ref f11) = true)
    (a12 : PySem.W.nsIn K mainGlobals "_law_right" = some (some (.ref f12))) (l12 : K.lookup f12 = some ⟨oc12, od12, .func (PySem.W.fnOf "_law_right" "_law_right" (defArgs sRight) (defBody sRight) (defScope sRight) .none kV12 dc12 pm12 an12 cd12 ct12), sl12⟩) (c12 : PySem.W.codeIn K cd12 "_law_right" = true) (k12 : PySem.W.keepIn K (.ref f12) = true)
    (a13 : PySem.W.nsIn K mainGlobals "starts_for" = some (some (.ref f13))) (l13 : K.lookup f13 = some ⟨oc13, od13, .func (PySem.W.fnOf "starts_for" "starts_for" (defArgs sFor) (defBody sFor) (defScope sFor) .none kV13 dc13 pm13 an13 cd13 ct13), sl13⟩) (c13 : PySem.W.codeIn K cd13 "starts_for" = true) (k13 : PySem.W.keepIn K (.ref f13) = true)
    (a14 : PySem.W.nsIn K mainGlobals "starts_between" = some (some (.ref f14))) (l14 : K.lookup f14 = some ⟨oc14, od14, .func (PySem.W.fnOf "starts_between" "starts_between" (defArgs sSB) (defBody sSB) (defScope sSB) .none kV14 dc14 pm14 an14 cd14 ct14), sl14⟩) (c14 : PySem.W.codeIn K cd14 "starts_between" = true) (k14 : PySem.W.keepIn K (.ref f14) = true)
    (a15 : PySem.W.nsIn K mainGlobals "law" = some (some (.ref f15))) (l15 : K.lookup f15 = some ⟨oc15, od15, .func (PySem.W.fnOf "law" "law" (defArgs sLaw) (defBody sLaw) (defScope sLaw) .none kV15 dc15 pm15 an15 cd15 ct15), sl15⟩) (c15 : PySem.W.codeIn K cd15 "law" = true) (k15 : PySem.W.keepIn K (.ref f15) = true)
    (aC : PySem.W.nsIn K mainGlobals "Way" = some (some (.ref C)))
    (aI : PySem.W.findIn K (.ref C) "__init__" = some (some (.ref fI))) (iI : PySem.W.isFn K (.ref fI) = true) (lI : K.lookup fI = some ⟨ocI, odI, .func (PySem.W.fnOf "__init__" "Way.__init__" (defArgs sInit) (defBody sInit) (defScope sInit) (.ref dT) kVI dcI pmI anI cdI ctI), slI⟩) (cI : PySem.W.codeIn K cdI "Way.__init__" = true) (kI : PySem.W.keepIn K (.ref fI) = true) (lT : K.lookup dT = some ⟨.type "tuple", odT, .seq #[.none, .none] nT, slT⟩)
    (pg : PySem.W.plainGet K C Str.empty = true) (hd : PySem.W.hasDictIn K C = true) (po : PySem.W.plainOver K C = true) (sa : PySem.W.findIn K (.ref C) "__setattr__" = some (some (.builtin "object.__setattr__"))) (mk : PySem.W.makesIn K C = true) (kc : PySem.W.keepIn K (.ref C) = true)
    (n_shift : PySem.W.findIn K (.ref C) "_shift" = some none) (t_shift : PySem.W.findIn K (.ref C) "shift" = some (some (.ref p_shift))) (e_shift : PySem.W.specialIn K (.ref p_shift) "__get__" = some (some (.builtin "property.__get__"))) (x_shift : PySem.W.takesIn K (.ref p_shift) = some true) (y_shift : PySem.W.recIn K p_shift "property" = some (.ref g_shift :: r_shift))
    (l_shift : K.lookup g_shift = some ⟨oc_shift, od_shift, .func (PySem.W.fnOf "shift" "Way.shift" (defArgs sGs) (defBody sGs) (defScope sGs) .none kV_shift dc_shift pm_shift an_shift cd_shift ct_shift), sl_shift⟩) (c_shift : PySem.W.codeIn K cd_shift "Way.shift" = true)
    (n_floor : PySem.W.findIn K (.ref C) "_floor" = some none) (t_floor : PySem.W.findIn K (.ref C) "floor" = some (some (.ref p_floor))) (e_floor : PySem.W.specialIn K (.ref p_floor) "__get__" = some (some (.builtin "property.__get__"))) (x_floor : PySem.W.takesIn K (.ref p_floor) = some true) (y_floor : PySem.W.recIn K p_floor "property" = some (.ref g_floor :: r_floor))
    (l_floor : K.lookup g_floor = some ⟨oc_floor, od_floor, .func (PySem.W.fnOf "floor" "Way.floor" (defArgs sGf) (defBody sGf) (defScope sGf) .none kV_floor dc_floor pm_floor an_floor cd_floor ct_floor), sl_floor⟩) (c_floor : PySem.W.codeIn K cd_floor "Way.floor" = true)
    (n_cap : PySem.W.findIn K (.ref C) "_cap" = some none) (t_cap : PySem.W.findIn K (.ref C) "cap" = some (some (.ref p_cap))) (e_cap : PySem.W.specialIn K (.ref p_cap) "__get__" = some (some (.builtin "property.__get__"))) (x_cap : PySem.W.takesIn K (.ref p_cap) = some true) (y_cap : PySem.W.recIn K p_cap "property" = some (.ref g_cap :: r_cap))
    (l_cap : K.lookup g_cap = some ⟨oc_cap, od_cap, .func (PySem.W.fnOf "cap" "Way.cap" (defArgs sGc) (defBody sGc) (defScope sGc) .none kV_cap dc_cap pm_cap an_cap cd_cap ct_cap), sl_cap⟩) (c_cap : PySem.W.codeIn K cd_cap "Way.cap" = true)
    (z_len : PySem.W.nsIn K mainGlobals "len" = some none)
    (z_abs : PySem.W.nsIn K mainGlobals "abs" = some none)
    (z_int : PySem.W.nsIn K mainGlobals "int" = some none)
    (z_list : PySem.W.nsIn K mainGlobals "list" = some none)
    (z_enumerate : PySem.W.nsIn K mainGlobals "enumerate" = some none)
    (z_range : PySem.W.nsIn K mainGlobals "range" = some none)
    (z_all : PySem.W.nsIn K mainGlobals "all" = some none)
    (z_zip : PySem.W.nsIn K mainGlobals "zip" = some none)
    (z_tuple : PySem.W.nsIn K mainGlobals "tuple" = some none)
    (z_isinstance : PySem.W.nsIn K mainGlobals "isinstance" = some none)
    (z_bool : PySem.W.nsIn K mainGlobals "bool" = some none)
    (z_str : PySem.W.nsIn K mainGlobals "str" = some none) :
    ∃ fd : FuncData, (∀ (s : Shared) (v : Value), BindsTo s fd ⟨[v], []⟩ [("_law_script", v)]) ∧ ∀ base : Heap, K.In base → base.Ns mainGlobals mg → FnOk l.prog w K mg base CX0 6 fa fd ["_law_script"] (spLaw K) := by
  have e := hfa.symm.trans (PySem.W.mg_of X G a15)
  cases e
  have T : Bt mg := ⟨PySem.W.mg_none_of X G z_len, PySem.W.mg_none_of X G z_abs, PySem.W.mg_none_of X G z_int, PySem.W.mg_none_of X G z_list, PySem.W.mg_none_of X G z_enumerate, PySem.W.mg_none_of X G z_range, PySem.W.mg_none_of X G z_all, PySem.W.mg_none_of X G z_zip, PySem.W.mg_none_of X G z_tuple, PySem.W.mg_none_of X G z_isinstance, PySem.W.mg_none_of X G z_bool, PySem.W.mg_none_of X G z_str⟩
  have W : WT K C := ⟨⟨pg, hd, po, sa⟩, n_shift, n_floor, n_cap⟩
  have F1 := fun_mk (st := sBox) l1 c1 k1
  have b1 := F1.binds (ps := ["_law_script", "_law_k"]) fun _ _ _ _ _ _ us hl => match us, hl with | [_, _], _ => rfl
  have m1 := PySem.W.mg_of X G a1
  have F2 := fun_mk (st := sTake) l2 c2 k2
  have b2 := F2.binds (ps := ["_law_box_here", "_law_size_so"]) fun _ _ _ _ _ _ us hl => match us, hl with | [_, _], _ => rfl
  have m2 := PySem.W.mg_of X G a2
  have F3 := fun_mk (st := sCells) l3 c3 k3
  have b3 := F3.binds (ps := ["_law_script", "_law_top_so"]) fun _ _ _ _ _ _ us hl => match us, hl with | [_, _], _ => rfl
  have m3 := PySem.W.mg_of X G a3
  have F4 := fun_mk (st := sOf) l4 c4 k4
  have b4 := F4.binds (ps := ["_law_box_here", "_law_goods_so"]) fun _ _ _ _ _ _ us hl => match us, hl with | [_, _], _ => rfl
  have m4 := PySem.W.mg_of X G a4
  have F5 := fun_mk (st := sSame) l5 c5 k5
  have b5 := F5.binds (ps := ["_law_got", "_law_due"]) fun _ _ _ _ _ _ us hl => match us, hl with | [_, _], _ => rfl
  have m5 := PySem.W.mg_of X G a5
  have F6 := fun_mk (st := sBound) l6 c6 k6
  have b6 := F6.binds (ps := ["_law_level_so", "_law_low_so", "_law_top_so"]) fun _ _ _ _ _ _ us hl => match us, hl with | [_, _, _], _ => rfl
  have m6 := PySem.W.mg_of X G a6
  have F7 := fun_mk (st := sDrawn) l7 c7 k7
  have b7 := F7.binds (ps := ["_law_box_here"]) fun _ _ _ _ _ _ us hl => match us, hl with | [_], _ => rfl
  have m7 := PySem.W.mg_of X G a7
  have F8 := fun_mk (st := sLeads) l8 c8 k8
  have b8 := F8.binds (ps := ["_law_bits", "_law_begin"]) fun _ _ _ _ _ _ us hl => match us, hl with | [_, _], _ => rfl
  have m8 := PySem.W.mg_of X G a8
  have F9 := fun_mk (st := sBetw) l9 c9 k9
  have b9 := F9.binds (ps := ["_law_level_so", "_law_low_so", "_law_top_so"]) fun _ _ _ _ _ _ us hl => match us, hl with | [_, _, _], _ => rfl
  have m9 := PySem.W.mg_of X G a9
  have F10 := fun_mk (st := sTold) l10 c10 k10
  have b10 := F10.binds (ps := ["_law_bits", "_law_low_so", "_law_top_so", "_law_told"]) fun _ _ _ _ _ _ us hl => match us, hl with | [_, _, _, _], _ => rfl
  have m10 := PySem.W.mg_of X G a10
  have F11 := fun_mk (st := sHand) l11 c11 k11
  have b11 := F11.binds (ps := []) fun _ _ _ _ _ _ us hl => match us, hl with | [], _ => rfl
  have m11 := PySem.W.mg_of X G a11
  have F12 := fun_mk (st := sRight) l12 c12 k12
  have b12 := F12.binds (ps := ["_law_box_here"]) fun _ _ _ _ _ _ us hl => match us, hl with | [_], _ => rfl
  have m12 := PySem.W.mg_of X G a12
  have F13 := fun_mk (st := sFor) l13 c13 k13
  have b13 := F13.binds (ps := ["way", "end"]) fun _ _ _ _ _ _ us hl => match us, hl with | [_, _], _ => rfl
  have m13 := PySem.W.mg_of X G a13
  have F14 := fun_mk (st := sSB) l14 c14 k14
  have b14 := F14.binds (ps := ["way", "low", "high"]) fun _ _ _ _ _ _ us hl => match us, hl with | [_, _, _], _ => rfl
  have m14 := PySem.W.mg_of X G a14
  have F15 := fun_mk (st := sLaw) l15 c15 k15
  have b15 := F15.binds (ps := ["_law_script"]) fun _ _ _ _ _ _ us hl => match us, hl with | [_], _ => rfl
  have m15 := PySem.W.mg_of X G a15
  have FI : FunD K "__init__" "Way.__init__" (defArgs sInit) (defBody sInit) (defScope sInit) [.non, .non] [] fI _ := ⟨⟨_, _, _, _, _, _, _, _, _, _, rfl, lI, cI, .inr ⟨(fun h => by cases h), dT, _, [.none, .none], _, rfl, lT, rfl, .cons rfl (.cons rfl .nil)⟩, .inl rfl⟩, kI⟩
  obtain ⟨ds3, v3, b3w⟩ := FI.binds1 (ps := ["self", "shift", "floor", "cap"]) 4 2 (fun h => by cases h) rfl (fun T kV doc pm an cdv ct us its hu hi => match us, its, hu, hi with | [_, _, _, _], [_, _], _, _ => ⟨_, rfl, rfl⟩)
  obtain ⟨ds2, v2, b2w⟩ := FI.binds1 (ps := ["self", "shift", "floor", "cap"]) 3 1 (fun h => by cases h) rfl (fun T kV doc pm an cdv ct us its hu hi => match us, its, hu, hi with | [_, _, _], [_, _], _, _ => ⟨_, rfl, rfl⟩)
  obtain ⟨ds1, v1, b1w⟩ := FI.binds1 (ps := ["self", "shift", "floor", "cap"]) 2 0 (fun h => by cases h) rfl (fun T kV doc pm an cdv ct us its hu hi => match us, its, hu, hi with | [_, _], [_, _], _, _ => ⟨_, rfl, rfl⟩)
  have mC := PySem.W.mg_of X G aC
  refine ⟨PySem.W.fnOf "law" "law" (defArgs sLaw) (defBody sLaw) (defScope sLaw) .none kV15 dc15 pm15 an15 cd15 ct15, fun s v => .of_eq rfl, fun base _ _ => ?_⟩
  have c__law_take : Cal l.prog w K mg base 1 "_law_take" spTake [] := ⟨_, _, ["_law_box_here", "_law_size_so"], [], ok_take F2 T, m2, k2, b2, .nil⟩
  have c__law_box : Cal l.prog w K mg base 1 "_law_box" (spBox K) [] := ⟨_, _, ["_law_script", "_law_k"], [], ok_box F1 T, m1, k1, b1, .nil⟩
  have c__law_cells : Cal l.prog w K mg base 1 "_law_cells" (spCells K) [] := ⟨_, _, ["_law_script", "_law_top_so"], [], ok_cells F3 T, m3, k3, b3, .nil⟩
  have c__law_of : Cal l.prog w K mg base 2 "_law_of" (spOf K) [] := ⟨_, _, ["_law_box_here", "_law_goods_so"], [], ok_of F4 T c__law_take, m4, k4, b4, .nil⟩
  have c__law_bound : Cal l.prog w K mg base 1 "_law_bound" spBound [] := ⟨_, _, ["_law_level_so", "_law_low_so", "_law_top_so"], [], ok_bound F6, m6, k6, b6, .nil⟩
  have c__law_between : Cal l.prog w K mg base 1 "_law_between" spBetw [] := ⟨_, _, ["_law_level_so", "_law_low_so", "_law_top_so"], [], ok_betw F9, m9, k9, b9, .nil⟩
  have c__law_leads : Cal l.prog w K mg base 2 "_law_leads" (spLeads K) [] := ⟨_, _, ["_law_bits", "_law_begin"], [], ok_leads F8 c__law_bound, m8, k8, b8, .nil⟩
  have c__law_drawn_way : Cal l.prog w K mg base 3 "_law_drawn_way" spDrawn [] := ⟨_, _, ["_law_box_here"], [], ok_drawn F7 c__law_take c__law_of, m7, k7, b7, .nil⟩
  have c__law_told_right : Cal l.prog w K mg base 3 "_law_told_right" (spTold K) [] := ⟨_, _, ["_law_bits", "_law_low_so", "_law_top_so", "_law_told"], [], ok_told F10 T c__law_between c__law_leads, m10, k10, b10, .nil⟩
  have same : ∀ n, Cal l.prog w K mg base n "_law_same" (spSame K n) [] := by
    intro n
    induction n with
    | zero => exact ⟨_, _, ["_law_got", "_law_due"], [], same0, m5, k5, b5, .nil⟩
    | succ n ih => exact ⟨_, _, ["_law_got", "_law_due"], [], same1 F5 T ih, m5, k5, b5, .nil⟩
  have P_shift : Prp l.prog w K mg base C "shift" "_shift" := ⟨p_shift, g_shift, _, ⟨t_shift, e_shift, x_shift, _, y_shift⟩, fn_getter (N := ["self"]) l_shift c_shift sc_sGs rfl rfl W.cl n_shift, .all fun us hl => match us, hl with | [_], _ => rfl⟩
  have P_floor : Prp l.prog w K mg base C "floor" "_floor" := ⟨p_floor, g_floor, _, ⟨t_floor, e_floor, x_floor, _, y_floor⟩, fn_getter (N := ["self"]) l_floor c_floor sc_sGf rfl rfl W.cl n_floor, .all fun us hl => match us, hl with | [_], _ => rfl⟩
  have P_cap : Prp l.prog w K mg base C "cap" "_cap" := ⟨p_cap, g_cap, _, ⟨t_cap, e_cap, x_cap, _, y_cap⟩, fn_getter (N := ["self"]) l_cap c_cap sc_sGc rfl rfl W.cl n_cap, .all fun us hl => match us, hl with | [_], _ => rfl⟩
  have GI := ok_init (P := l.prog) (w := w) (mg := mg) (base := base) FI W
  have M : Mk K C fI := ⟨mk, aI, iI, kc⟩
  have c_Way3 : Mak l.prog w K mg base 1 "Way" C (spInitW C) [] := ⟨fI, _, _, ds3, M, GI, mC, b3w, v3⟩
  have c_Way2 : Mak l.prog w K mg base 1 "Way" C (spInitW C) [.non] := ⟨fI, _, _, ds2, M, GI, mC, b2w, v2⟩
  have c_Way1 : Mak l.prog w K mg base 1 "Way" C (spInitW C) [.non, .non] := ⟨fI, _, _, ds1, M, GI, mC, b1w, v1⟩
  have c_starts_between : Cal l.prog w K mg base 3 "starts_between" (spSB C) [] := ⟨_, _, ["way", "low", "high"], [], ok_SB F14 W P_shift P_floor P_cap, m14, k14, b14, .nil⟩
  have c_starts_for : Cal l.prog w K mg base 4 "starts_for" (spFor C) [] := ⟨_, _, ["way", "end"], [], ok_For F13 c_starts_between, m13, k13, b13, .nil⟩
  have k_starts_for : CalK l.prog w K mg base 4 "starts_for" ["end", "way"] (spFor C) (fun _ zs => [zs.getD 1 .non, zs.getD 0 .non]) :=
    ⟨_, _, ["way", "end"], fun _ zs => [zs.getD 1 .none, zs.getD 0 .none], ok_For F13 c_starts_between, m13, k13, fun s us ws _ h1 h2 => match us, ws, h1, h2 with | [], [_, _], _, _ => .of_eq rfl, fun r1 r2 => by
      cases r2 with
      | nil => exact .cons rfl (.cons rfl .nil)
      | cons a r => cases r with
        | nil => exact .cons rfl (.cons a .nil)
        | cons b r => exact .cons b (.cons a .nil)⟩
  have k_starts_between : CalK l.prog w K mg base 3 "starts_between" ["high", "low", "way"] (spSB C) (fun _ zs => [zs.getD 2 .non, zs.getD 1 .non, zs.getD 0 .non]) :=
    ⟨_, _, ["way", "low", "high"], fun _ zs => [zs.getD 2 .none, zs.getD 1 .none, zs.getD 0 .none], ok_SB F14 W P_shift P_floor P_cap, m14, k14, fun s us ws _ h1 h2 => match us, ws, h1, h2 with | [], [_, _, _], _, _ => .of_eq rfl, fun r1 r2 => by
      cases r2 with
      | nil => exact .cons rfl (.cons rfl (.cons rfl .nil))
      | cons a r => cases r with
        | nil => exact .cons rfl (.cons rfl (.cons a .nil))
        | cons b r => cases r with
          | nil => exact .cons rfl (.cons b (.cons a .nil))
          | cons c r => exact .cons c (.cons b (.cons a .nil))⟩
  have c__law_right : Cal l.prog w K mg base 5 "_law_right" spRight [] := ⟨_, _, ["_law_box_here"], [], ok_right F12 T c__law_take c__law_of c__law_drawn_way c_Way3 c_starts_between c_starts_for k_starts_for c__law_told_right, m12, k12, b12, .nil⟩
  have c__law_by_hand_right : Cal l.prog w K mg base 5 "_law_by_hand_right" spHand [] := ⟨_, _, [], [], ok_hand F11 (same 3) c_Way3 c_Way2 c_Way1 c_starts_between c_starts_for k_starts_for k_starts_between, m11, k11, b11, .nil⟩
  exact ok_law F15 T c__law_by_hand_right c__law_cells c__law_box c__law_right
end BL
open PySem PySem.W PyProof.Rows
set_option maxRecDepth 100000 in
set_option maxHeartbeats 0 in
theorem PySem.Challenge.cw_boundedlevels_k32_starts_that_lead_there_holds : PySem.Challenge.rw_boundedlevels_k32_starts_that_lead_there.Holds := by
  w_on; o_law; k_head; (case hw => w_witness2)
  k_fill
  refine L2.walk_of (l := PySem.Challenge.rw_boundedlevels_k32_starts_that_lead_there) (n := 63) (k := 6) (x := "_law_script") (CX := fun _ => L2.CX0) (sp := fun w => BL.spLaw _) rfl (by decide) rfl ⟨rfl, by decide, by decide⟩ (fun w h Y => PySem.W.kIn_of Y) ?F (fun _ _ a ns hl _ hS => ⟨a, ns, rfl, hS, hl, fun _ => rfl⟩) (fun _ _ _ _ _ h => h)
  case F =>
    intro w mg fa h KX G hmg
    refine' BL.all_mk KX G hmg ?a1 ?l1 ?c1 ?k1 ?a2 ?l2 ?c2 ?k2 ?a3 ?l3 ?c3 ?k3 ?a4 ?l4 ?c4 ?k4 ?a5 ?l5 ?c5 ?k5 ?a6 ?l6 ?c6 ?k6 ?a7 ?l7 ?c7 ?k7 ?a8 ?l8 ?c8 ?k8 ?a9 ?l9 ?c9 ?k9 ?a10 ?l10 ?c10 ?k10 ?a11 ?l11 ?c11 ?k11 ?a12 ?l12 ?c12 ?k12 ?a13 ?l13 ?c13 ?k13 ?a14 ?l14 ?c14 ?k14 ?a15 ?l15 ?c15 ?k15 ?aC ?aI ?iI ?lI ?cI ?kI ?lT ?pg ?hd ?po ?sa ?mk ?kc ?n_shift ?t_shift ?e_shift ?x_shift ?y_shift ?l_shift ?c_shift ?n_floor ?t_floor ?e_floor ?x_floor ?y_floor ?l_floor ?c_floor ?n_cap ?t_cap ?e_cap ?x_cap ?y_cap ?l_cap ?c_cap ?z_len ?z_abs ?z_int ?z_list ?z_enumerate ?z_range ?z_all ?z_zip ?z_tuple ?z_isinstance ?z_bool ?z_str
    (case a1 => k_is)
    (case l1 => k_is)
    (case c1 => k_is)
    (case k1 => k_is)
    (case a2 => k_is)
    (case l2 => k_is)
    (case c2 => k_is)
    (case k2 => k_is)
    (case a3 => k_is)
    (case l3 => k_is)
    (case c3 => k_is)
    (case k3 => k_is)
    (case a4 => k_is)
    (case l4 => k_is)
    (case c4 => k_is)
    (case k4 => k_is)
    (case a5 => k_is)
    (case l5 => k_is)
    (case c5 => k_is)
    (case k5 => k_is)
    (case a6 => k_is)
    (case l6 => k_is)
    (case c6 => k_is)
    (case k6 => k_is)
    (case a7 => k_is)
    (case l7 => k_is)
    (case c7 => k_is)
    (case k7 => k_is)
    (case a8 => k_is)
    (case l8 => k_is)
    (case c8 => k_is)
    (case k8 => k_is)
    (case a9 => k_is)
    (case l9 => k_is)
    (case c9 => k_is)
    (case k9 => k_is)
    (case a10 => k_is)
    (case l10 => k_is)
    (case c10 => k_is)
    (case k10 => k_is)
    (case a11 => k_is)
    (case l11 => k_is)
    (case c11 => k_is)
    (case k11 => k_is)
    (case a12 => k_is)
    (case l12 => k_is)
    (case c12 => k_is)
    (case k12 => k_is)
    (case a13 => k_is)
    (case l13 => k_is)
    (case c13 => k_is)
    (case k13 => k_is)
    (case a14 => k_is)
    (case l14 => k_is)
    (case c14 => k_is)
    (case k14 => k_is)
    (case a15 => k_is)
    (case l15 => k_is)
    (case c15 => k_is)
    (case k15 => k_is)
    (case aC => k_is)
    (case aI => k_is)
    (case iI => k_is)
    (case lI => k_is)
    (case cI => k_is)
    (case kI => k_is)
    (case lT => k_is)
    (case pg => k_is)
    (case hd => k_is)
    (case po => k_is)
    (case sa => k_is)
    (case mk => k_is)
    (case kc => k_is)
    (case n_shift => k_is)
    (case t_shift => k_is)
    (case e_shift => k_is)
    (case x_shift => k_is)
    (case y_shift => k_is)
    (case l_shift => k_is)
    (case c_shift => k_is)
    (case n_floor => k_is)
    (case t_floor => k_is)
    (case e_floor => k_is)
    (case x_floor => k_is)
    (case y_floor => k_is)
    (case l_floor => k_is)
    (case c_floor => k_is)
    (case n_cap => k_is)
    (case t_cap => k_is)
    (case e_cap => k_is)
    (case x_cap => k_is)
    (case y_cap => k_is)
    (case l_cap => k_is)
    (case c_cap => k_is)
    (case z_len => k_is)
    (case z_abs => k_is)
    (case z_int => k_is)
    (case z_list => k_is)
    (case z_enumerate => k_is)
    (case z_range => k_is)
    (case z_all => k_is)
    (case z_zip => k_is)
    (case z_tuple => k_is)
    (case z_isinstance => k_is)
    (case z_bool => k_is)
    (case z_str => k_is)
