import PyProof.Rows.All
import Wide.All
import OpenK.AllK
import Wide.FinOn
import HandS.ForMost
import HandS.Codes
import HandS.Flow
import HandS.Zip
import HandS.Conv
import HandS.IsInst
import HandS.Property
import HandS.Defaults
import HandS.Walk
import HandS.MakeKw
import HandS.Star
import HandS.SlotsOwn
import HandS.OwnEq
import HandS.FStr
import HandS.NoneIn
import HandS.TupMul
import PySem.Challenge.RW_boundedlevels_k31_ways_of_rows
set_option Elab.async false
set_option linter.all false
set_option maxRecDepth 100000
set_option maxHeartbeats 4000000
namespace BL
open PySem PySem.Spec PyProof.Rows L2
/-! what is the same in all these laws, no text -/
def But (b : Addr) (H H' : Hp) : Prop := ∀ p o, p ≠ b → H p = some o → H' p = some o
theorem But.refl (b : Addr) (H : Hp) : But b H H := fun _ _ _ h => h
theorem But.trans {b : Addr} {H H1 H2 : Hp} (x : But b H H1) (y : But b H1 H2) : But b H H2 := fun p o e h => y p o e (x p o e h)
theorem But.same {b : Addr} {H H1 H2 : Hp} (x : But b H H1) (y : Same H1 H2) : But b H H2 := fun p o e h => y p o (x p o e h)
theorem But.of {b : Addr} {H H1 : Hp} (x : Same H H1) : But b H H1 := fun p o _ h => x p o h
theorem But.off {b : Addr} {H H1 : Hp} (x : But b H H1) (n : H b = none) : Same H H1 := fun p o h => x p o (ne_of_none h n) h
theorem same_upd {H : Hp} {p : Addr} {o : HO} (h : H p = none) : Same H (upd H p o) := fun b x e => by
  rw [upd_ne (ne_of_none e h)]
  exact e
theorem but_upd {H : Hp} {p : Addr} {o : HO} : But p H (upd H p o) := fun b x n e => by
  rw [upd_ne n]
  exact e
def Box (H : Hp) (b : Addr) (n : Nat) : Prop := ∃ x y z : Int, H b = some (.lst [.int x, .int y, .int z]) ∧ 0 ≤ z ∧ z ≤ n
theorem Box.same {H H' : Hp} {b : Addr} {n : Nat} (h : Box H b n) (s : Same H H') : Box H' b n := by
  obtain ⟨x, y, z, e, r⟩ := h
  exact ⟨x, y, z, s _ _ e, r⟩
theorem Box.le {H : Hp} {b : Addr} {n m : Nat} (h : Box H b n) (l : n ≤ m) : Box H b m := by
  obtain ⟨x, y, z, e, r, q⟩ := h
  exact ⟨x, y, z, e, r, by omega⟩
theorem Box.ne {H : Hp} {b p : Addr} {n : Nat} {o : HO} (h : Box H b n) (e : H p = some o) (k : ∀ xs, o ≠ .lst xs) : p ≠ b := by
  obtain ⟨x, y, z, f, _⟩ := h
  intro q
  rw [q, f] at e
  exact k _ (Option.some.inj e).symm
/-- the built-in names that these texts use are still built in -/
structure Bt (mg : Str → Option Value) : Prop where
  len : mg "len" = none
  abs : mg "abs" = none
  int : mg "int" = none
  list : mg "list" = none
  enumerate : mg "enumerate" = none
  range : mg "range" = none
  all : mg "all" = none
  zip : mg "zip" = none
  tuple : mg "tuple" = none
  isinstance : mg "isinstance" = none
  bool : mg "bool" = none
  str : mg "str" = none
/-! ### the draws -/
def spTake : Sp := fun vs H Q _ => ∃ (b : Addr) (m : Int) (n : Nat), vs = [.ref b, .int m] ∧ 0 < m ∧ m < 1073741824 ∧ Box H b n ∧ n ≤ 1000000000 ∧
  ∀ (r : Int) (H' : Hp), 0 ≤ r → r < m → But b H H' → Box H' b (n + 1) → Q (.int r) H'
def spBox (K : PySem.W.Frag) : Sp := fun vs H Q _ => ∃ (a : Addr) (cs : List Int) (k : Nat), vs = [.ref a, .int k] ∧ SqL K H a (cs.map V.int) ∧ k < cs.length ∧ cs.length ≤ 3 ∧
  ∀ (b : Addr) (H' : Hp), Same H H' → H b = none → Box H' b 0 → Q (.ref b) H'
def spCells (K : PySem.W.Frag) : Sp := fun vs H Q _ => ∃ (a : Addr) (ns : List Int), vs = [.ref a, .int 3] ∧ SqL K H a (ns.map V.int) ∧ ns.length ≤ 63 ∧
  ∀ (p : Addr) (cs : List Int) (H' : Hp), Same H H' → H p = none → H' p = some (.lst (cs.map V.int)) → cs.length ≤ 3 → Q (.ref p) H'
def spOf (K : PySem.W.Frag) : Sp := fun vs H Q _ => ∃ (b a : Addr) (xs : List V) (n : Nat), vs = [.ref b, .ref a] ∧ H a = some (.lst xs) ∧ a ≠ b ∧ xs ≠ [] ∧ xs.length ≤ 1000 ∧ Box H b n ∧ n ≤ 1000000000 ∧
  ∀ (i : Nat) (v : V) (H' : Hp), xs[i]? = some v → But b H H' → Box H' b (n + 1) → Q v H'
/-- law's: a list of at most 63 ints is handed in, True comes out -/
def spLaw (K : PySem.W.Frag) : Sp := fun vs H Q _ => ∃ (a : Addr) (ns : List Int), vs = [.ref a] ∧ SqL K H a (ns.map V.int) ∧ ns.length ≤ 63 ∧ ∀ H', Q (.bl true) H'
theorem atI3 {xs : List V} {i : Nat} {v : V} (h : xs[i]? = some v) : atI xs (i : Int) = some v := atI_nat h
theorem emod_le {a b : Int} (h : 0 < b) : 0 ≤ a % b ∧ a % b < b := ⟨Int.emod_nonneg _ (by omega), Int.emod_lt_of_pos _ h⟩
theorem ps_dead {X : Cx} {st : Stmt} : PS X st (fun _ _ _ => False) := ⟨fun _ _ _ _ _ _ h => h.elim⟩
theorem iteD0 {c A B : Prop} [Decidable c] (h : ¬ c) (b : B) : if decide c = true then A else B := by
  rw [if_neg (by simpa using h)]
  exact b
theorem iteD1 {c A B : Prop} [Decidable c] (h : c) (a : A) : if decide c = true then A else B := by
  rw [if_pos (by simpa using h)]
  exact a
theorem iteN1 {c A B : Prop} [Decidable c] (h : ¬ c) (a : A) : if (!decide c) = true then A else B := by
  rw [if_pos (by simpa using h)]
  exact a
theorem iteN0 {c A B : Prop} [Decidable c] (h : c) (b : B) : if (!decide c) = true then A else B := by
  rw [if_neg (by simpa using h)]
  exact b
theorem iteB1 {c : Bool} {A B : Prop} (h : c = true) (a : A) : if c = true then A else B := by
  rw [if_pos h]
  exact a
theorem iteB0 {c : Bool} {A B : Prop} (h : c = false) (b : B) : if c = true then A else B := by
  rw [h]
  exact iteF b
theorem iN (i : Int) : ¬ (V.int i = V.non) := fun h => by cases h
theorem rN (a : Addr) : ¬ (V.ref a = V.non) := fun h => by cases h
/-! ### a number or None -/
def oV : Option Int → V
  | none => .non
  | some i => .int i
def bnd (l : Int) (lo hi : Option Int) : Int :=
  let l1 := match lo with
    | none => l
    | some a => if l < a then a else l
  match hi with
    | none => l1
    | some b => if b < l1 then b else l1
def btw (l : Int) (lo hi : Option Int) : Bool :=
  (match lo with
    | none => true
    | some a => decide (a ≤ l)) && (match hi with
    | none => true
    | some b => decide (l ≤ b))
theorem _root_.L2.Same.seT {K : PySem.W.Frag} {H H' : Hp} {a : Addr} {xs : List V} (e : Same H H') (h : SqT K H a xs) : SqT K H' a xs := by
  rcases h with (h | ⟨o, h⟩) | h
  · exact .inl (.inl (e _ _ h))
  · exact .inl (.inr ⟨o, e _ _ h⟩)
  · exact .inr h
/-- two values that read alike, at most so deep -/
inductive Eqs (K : PySem.W.Frag) (H : Hp) : Nat → V → V → Prop
  | non (n : Nat) : Eqs K H n .non .non
  | bl (n : Nat) (b : Bool) : Eqs K H n (.bl b) (.bl b)
  | int (n : Nat) (i : Int) : Eqs K H n (.int i) (.int i)
  | str (n : Nat) (x : Str) : Eqs K H n (.str x) (.str x)
  | lst {n : Nat} {a b : Addr} {xs ys : List V} : SqL K H a xs → SqL K H b ys → xs.length = ys.length → xs.length ≤ 1000 → (∀ (i : Nat) (x y : V), xs[i]? = some x → ys[i]? = some y → Eqs K H n x y) → Eqs K H (n + 1) (.ref a) (.ref b)
  | tup {n : Nat} {a b : Addr} {xs ys : List V} : SqT K H a xs → SqT K H b ys → xs.length = ys.length → xs.length ≤ 1000 → (∀ (i : Nat) (x y : V), xs[i]? = some x → ys[i]? = some y → Eqs K H n x y) → Eqs K H (n + 1) (.ref a) (.ref b)
theorem Eqs.same {K : PySem.W.Frag} {H H' : Hp} {n : Nat} {x y : V} (h : Eqs K H n x y) (s : Same H H') : Eqs K H' n x y := by
  induction h with
  | non n => exact .non n
  | bl n b => exact .bl n b
  | int n i => exact .int n i
  | str n x => exact .str n x
  | lst h1 h2 l m _ ih => exact .lst (s.seq h1) (s.seq h2) l m ih
  | tup h1 h2 l m _ ih => exact .tup (s.seT h1) (s.seT h2) l m ih
theorem Eqs.oV {K : PySem.W.Frag} {H : Hp} (n : Nat) (o : Option Int) : Eqs K H n (oV o) (oV o) := by
  cases o with
  | none => exact .non n
  | some i => exact .int n i
theorem a2_nil {E : V → V → Prop} : ∀ (i : Nat) (x y : V), ([] : List V)[i]? = some x → ([] : List V)[i]? = some y → E x y := fun i x y h => by simp at h
theorem a2_cons {E : V → V → Prop} {v u : V} {vs us : List V} (h : E v u) (r : ∀ (i : Nat) (x y : V), vs[i]? = some x → us[i]? = some y → E x y) : ∀ (i : Nat) (x y : V), (v :: vs)[i]? = some x → (u :: us)[i]? = some y → E x y
  | 0, x, y, h1, h2 => by
    have e1 : v = x := Option.some.inj h1
    have e2 : u = y := Option.some.inj h2
    rw [← e1, ← e2]
    exact h
  | i + 1, x, y, h1, h2 => r i x y h1 h2
def spSame (K : PySem.W.Frag) : Nat → Sp
  | 0 => fun _ _ _ _ => False
  | n + 1 => fun vs H Q _ => ∃ x y, vs = [x, y] ∧ Eqs K H n x y ∧ ∀ H', Same H H' → Q (.bl true) H'
theorem ty_l {K : PySem.W.Frag} {H : Hp} {a : Addr} {xs : List V} (h : SqL K H a xs) : TyX K H (.ref a) (.type "list") := by
  rcases h with (h | ⟨o, h⟩) | ⟨o, its, n, l, c, _⟩
  · exact .base (.lst h)
  · exact .base (.frz h)
  · exact .kList l c
theorem ty_t {K : PySem.W.Frag} {H : Hp} {a : Addr} {xs : List V} (h : SqT K H a xs) : TyX K H (.ref a) (.type "tuple") := by
  rcases h with (h | ⟨o, h⟩) | ⟨o, its, n, l, c, _⟩
  · exact .base (.tup h)
  · exact .fTuple h
  · exact .kTuple l c
theorem any_of {K : PySem.W.Frag} {t a b : String} {r : Bool} (h : (match kitB t a with
    | some true => some true
    | some false => (match kitB t b with
      | some true => some true
      | some false => some false
      | none => none)
    | none => none) = some r) : PySem.W.kitAny K (.type t) [.type a, .type b] = some r := by
  unfold PySem.W.kitAny
  cases e : kitB t a with
  | none => rw [e] at h; cases h
  | some c =>
    rw [e] at h
    rw [kit_ty e]
    cases c with
    | true => exact h
    | false =>
      show PySem.W.kitAny K (.type t) [.type b] = some r
      unfold PySem.W.kitAny
      cases e2 : kitB t b with
      | none => rw [e2] at h; cases h
      | some c2 =>
        rw [e2] at h
        rw [kit_ty e2]
        cases c2 with
        | true => exact h
        | false => exact h
theorem walk_zipT {K : PySem.W.Frag} {a b : Addr} {xs ys : List V} {n : Nat} (hn : n = min xs.length ys.length) : Walk (RZ.ItzT K a b) n (fun H => SqT K H a xs ∧ SqT K H b ys) (YPair (fun i => xs[i]?) (fun i => ys[i]?)) := by
  refine ⟨fun i _ hi q => ?_, fun _ q => ⟨xs, ys, q.1, q.2, by omega⟩, fun i H v H' _ q y => ?_⟩
  · have h1 : i < xs.length := by omega
    have h2 : i < ys.length := by omega
    exact ⟨xs, ys, xs[i], ys[i], q.1, q.2, by simp [h1], by simp [h2]⟩
  · obtain ⟨T, x, z, h1, h2, h3, h4, h5⟩ := y
    exact ⟨T, x, z, h1, h2, h3, h4 xs q.1, h5 ys q.2⟩
/-! ### ways -/
def wF (s f c : Option Int) : List (Str × V) := putF "_cap" (oV c) (putF "_floor" (oV f) (putF "_shift" (oV s) []))
theorem k1 : ¬ (("_floor" : Str) = "_cap") := by decide +kernel
theorem k2 : ¬ (("_shift" : Str) = "_cap") := by decide +kernel
theorem k3 : ¬ (("_shift" : Str) = "_floor") := by decide +kernel
theorem wF_c (s f c : Option Int) : (wF s f c).lookup ("_cap" : Str) = some (oV c) := by
  unfold wF
  rw [lookup_putF, if_pos rfl]
theorem wF_f (s f c : Option Int) : (wF s f c).lookup ("_floor" : Str) = some (oV f) := by
  unfold wF
  rw [lookup_putF, if_neg k1, lookup_putF, if_pos rfl]
theorem wF_s (s f c : Option Int) : (wF s f c).lookup ("_shift" : Str) = some (oV s) := by
  unfold wF
  rw [lookup_putF, if_neg k2, lookup_putF, if_neg k3, lookup_putF, if_pos rfl]
def WayAt (C : Addr) (H : Hp) (p : Addr) (s f c : Option Int) : Prop := ∃ dx, H p = some (.ins C dx (wF s f c))
theorem WayAt.same {C : Addr} {H H' : Hp} {p : Addr} {s f c : Option Int} (h : WayAt C H p s f c) (e : Same H H') : WayAt C H' p s f c := by
  obtain ⟨dx, h⟩ := h
  exact ⟨dx, e _ _ h⟩
def nrm (s f c : Option Int) : Option Int :=
  match f, c with
  | some a, some b => if a = b then none else s
  | _, _ => s
def okW (s f c : Option Int) : Prop :=
  match f, c with
  | some a, some b => a ≤ b ∧ (s = none → a = b)
  | _, _ => s ≠ none
def spInitW (C : Addr) : Sp := fun vs H Q _ => ∃ (p dx : Addr) (s f c : Option Int), vs = [.ref p, oV s, oV f, oV c] ∧ H p = some (.ins C dx []) ∧ okW s f c ∧
  ∀ H', WayAt C H' p (nrm s f c) f c → (∀ b o, H b = some o → b ≠ p → H' b = some o) → Q .non H'
structure Prp (P : Program) (w : World) (K : PySem.W.Frag) (mg : Str → Option Value) (base : Heap) (C : Addr) (f h : Str) : Prop where
  ex : ∃ (p g : Addr) (fd : FuncData), PropOf K C f p g ∧ FnOk P w K mg base CX0 1 g fd ["self"] (getSp C h) ∧ Binds K fd ["self"] []
theorem PE.weak {X : Cx} {e : Expr} {t t' : TE} (h : PE X e t) (i : ∀ σ H Q, t' σ H Q → t σ H Q) : PE X e t' := ⟨fun pins s σ H Q I q => h.run pins s σ H Q I (i σ H Q q)⟩
/-- way.shift, way.floor, way.cap -/
def tWF (C : Addr) (sel : Option Int → Option Int → Option Int → Option Int) (ta : TE) : TE := fun σ H Q => ta σ H fun x H1 => ∃ a s f c, x = .ref a ∧ WayAt C H1 a s f c ∧ Q (oV (sel s f c)) H1
def tGet (C : Addr) (h : Str) (ta : TE) : TE := fun σ H Q => ta σ H fun x H1 => ∃ a dx fs v, x = .ref a ∧ H1 a = some (.ins C dx fs) ∧ fs.lookup h = some v ∧ Q v H1
section
variable {X : Cx} {j : Nat} {C : Addr} {e : Expr} {pos : Pos} {ta : TE} {f h : Str}
/-- how a reading grows with what is wanted -/
def Mono (t : TE) : Prop := ∀ (σ : L2.St) (H : Hp) (Q Q' : VK), (∀ v H', Q v H' → Q' v H') → t σ H Q → t σ H Q'
theorem mono_var (i : Nat) : Mono (tVar i) := fun σ H Q Q' m ⟨v, e, q⟩ => ⟨v, e, m _ _ q⟩
theorem pe_get (m : Mono ta) (he : PE X e ta) (c : Cls X.K C) (pr : Prp X.prog X.w X.K X.mg X.base C f h) (hr : Room j X.A) (hj : 2 ≤ j)
    (hab : attributeBase e f X.env (eval e X.env) = eval e X.env := by rfl) : PE X (.Attribute e f pos) (tGet C h ta) := by
  obtain ⟨p, g, fd, po, F, b⟩ := pr.ex
  refine PE.weak (pe_prop (sp := getSp C h) he c po F (hr.mono hj) b .nil pass0 hab) fun σ H Q q => ?_
  refine m σ H _ _ (fun v H' z => ?_) q
  obtain ⟨a, dx, fs, u, rfl, ha, hl, k⟩ := z
  exact ⟨a, dx, fs, rfl, ha, a, dx, fs, u, rfl, ha, hl, k⟩
theorem pe_sel {sel : Option Int → Option Int → Option Int → Option Int} (hs : ∀ s f c, (wF s f c).lookup h = some (oV (sel s f c))) (m : Mono ta) (he : PE X e ta) (c : Cls X.K C) (pr : Prp X.prog X.w X.K X.mg X.base C f h) (hr : Room j X.A) (hj : 2 ≤ j)
    (hab : attributeBase e f X.env (eval e X.env) = eval e X.env := by rfl) : PE X (.Attribute e f pos) (tWF C sel ta) := by
  refine PE.weak (pe_get m he c pr hr hj hab) fun σ H Q q => m σ H _ _ (fun v H' z => ?_) q
  obtain ⟨a, s, f, c, rfl, ⟨dx, ha⟩, k⟩ := z
  exact ⟨a, dx, _, _, rfl, ha, hs s f c, k⟩
end
/-- THE RULE for a def with defaults that lets nothing out -/
theorem okD {P : Program} {w : World} {K : PySem.W.Frag} {mg : Str → Option Value} {base : Heap} {x qual : Str} {params : Arguments} {body : List Stmt} {scope : Scope} {dvs : List V} {kws : List (Str × V)} {f : Addr} {fd : FuncData} {N ps : List Str} {k : Nat} {sp : Sp} (F : FunD K x qual params body scope dvs kws f fd) (S : FnScope N ps scope) (len : ∀ vs H Q E, sp vs H Q E → vs.length = ps.length)
    (hb : ∀ (cdv : Value) (A : Around) (outer : List Env) (s : Shared) (H : Hp) (vs : List V) (Q : VK) (E : XK), Room k (A.deeper (envOfC qual scope s.heap.objs.size f cdv)) → sp vs H Q E →
      ∃ t, PSs (cxOf CX0 P w K mg base N qual scope f cdv A outer s H E).nox body t ∧ t { nx := fun _ H' => Q .non H', rt := Q } (start N vs) H) : FnOk P w K mg base CX0 (k + 1) f fd ps sp :=
  F.ok S len fun cdv A outer s H vs Q E hr h => by
    obtain ⟨t, p, q⟩ := hb cdv A outer s H vs Q E hr h
    exact ⟨t, p.nox, q⟩
theorem pe_c0 {X : Cx} {k j : Nat} {x : Str} {sp : Sp} {dvs : List V} {p pos : Pos} (c : C8.Cal X.prog X.w X.K X.mg X.base k x sp dvs) (hr : Room j X.A) (hk : k ≤ j) (hg : Gl X x) (hdb : (x == ("__debug__" : Str)) = false := by decide) : PE X (.Call (.Name x p) [] [] pos) (tCall sp dvs C8.E0 tNil) := by
  obtain ⟨f, fd, ps, ds, F, hm, kp, b, d⟩ := c.ex
  exact pe_call0 F (hr.mono hk) hg hm kp b d pass0 hdb
end BL

namespace BL
open PySem PySem.Spec PyProof.Rows L2
/-! ### what written expressions give, by data -/
section
variable {K : PySem.W.Frag}
mutual
theorem dpm {H H' : Hp} (s : Same H H') : ∀ {v : V} {d : PyData}, Dp K H v d → Dp K H' v d
  | _, _, .non => .non
  | _, _, .bl b => .bl b
  | _, _, .int i => .int i
  | _, _, .str x => .str x
  | _, _, .lst h a => .lst (s.seq h) (dpam s a)
  | _, _, .tup h a => .tup (s.seT h) (dpam s a)
theorem dpam {H H' : Hp} (s : Same H H') : ∀ {vs : List V} {ds : List PyData}, DpAll K H vs ds → DpAll K H' vs ds
  | _, _, .nil => .nil
  | _, _, .cons h a => .cons (dpm s h) (dpam s a)
end
theorem dpa_len {H : Hp} : ∀ {vs : List V} {ds : List PyData}, DpAll K H vs ds → vs.length = ds.length
  | _, _, .nil => rfl
  | _, _, .cons h a => congrArg Nat.succ (dpa_len a)
theorem dpa_app {H : Hp} {us : List V} {es : List PyData} : ∀ {vs : List V} {ds : List PyData}, DpAll K H vs ds → DpAll K H us es → DpAll K H (vs ++ us) (ds ++ es)
  | _, _, .nil, b => b
  | _, _, .cons h a, b => .cons h (dpa_app a b)
def okd : Nat → PyData → Bool
  | 0, .list _ => false
  | 0, .tuple _ => false
  | n + 1, .list ds => decide (ds.length ≤ 1000) && ds.all (okd n)
  | n + 1, .tuple ds => decide (ds.length ≤ 1000) && ds.all (okd n)
  | _, _ => true
theorem dpa_at {H : Hp} {R : V → V → Prop} : ∀ {vs us : List V} {ds : List PyData}, DpAll K H vs ds → DpAll K H us ds → (∀ d ∈ ds, ∀ x y, Dp K H x d → Dp K H y d → R x y) → ∀ (i : Nat) (x y : V), vs[i]? = some x → us[i]? = some y → R x y
  | _, _, _, .nil, .nil, _, _, _, _, h, _ => by simp at h
  | _, _, _, .cons h a, .cons g b, r, 0, x, y, e1, e2 => by
    have e1 := Option.some.inj e1
    have e2 := Option.some.inj e2
    subst e1
    subst e2
    exact r _ (List.mem_cons_self) _ _ h g
  | _, _, _, .cons h a, .cons g b, r, i + 1, x, y, e1, e2 => dpa_at a b (fun d m => r d (List.mem_cons_of_mem _ m)) i x y e1 e2
theorem eqs_dp {H : Hp} : ∀ (n : Nat) (d : PyData) (x y : V), okd n d = true → Dp K H x d → Dp K H y d → Eqs K H n x y := by
  intro n
  induction n with
  | zero =>
    intro d x y h a b
    cases a with
    | non => cases b; exact .non 0
    | bl c => cases b; exact .bl 0 c
    | int c => cases b; exact .int 0 c
    | str c => cases b; exact .str 0 c
    | lst _ _ => cases h
    | tup _ _ => cases h
  | succ n ih =>
    intro d x y h a b
    cases a with
    | non => cases b; exact .non _
    | bl c => cases b; exact .bl _ c
    | int c => cases b; exact .int _ c
    | str c => cases b; exact .str _ c
    | lst s1 a1 =>
      cases b with
      | lst s2 a2 =>
        unfold okd at h
        rw [Bool.and_eq_true, decide_eq_true_eq, List.all_eq_true] at h
        exact .lst s1 s2 (by rw [dpa_len a1, dpa_len a2]) (by rw [dpa_len a1]; exact h.1) (dpa_at a1 a2 fun d m x y p q => ih d x y (h.2 d m) p q)
    | tup s1 a1 =>
      cases b with
      | tup s2 a2 =>
        unfold okd at h
        rw [Bool.and_eq_true, decide_eq_true_eq, List.all_eq_true] at h
        exact .tup s1 s2 (by rw [dpa_len a1, dpa_len a2]) (by rw [dpa_len a1]; exact h.1) (dpa_at a1 a2 fun d m x y p q => ih d x y (h.2 d m) p q)
abbrev RT := Hp → V → Prop
/-- te gives a value of which R holds, whatever is laid beside; what stood stands -/
def GV (te : TE) (σ : L2.St) (H : Hp) (R : RT) : Prop := ∀ H1, Same H H1 → ∀ Q : VK, (∀ v H', Same H1 H' → R H' v → Q v H') → te σ H1 Q
def GA (K : PySem.W.Frag) (ta : TA) (σ : L2.St) (H : Hp) (ds : List PyData) : Prop := ∀ H1, Same H H1 → ∀ Q : List V → Hp → Prop, (∀ vs H', Same H1 H' → DpAll K H' vs ds → Q vs H') → ta σ H1 Q
abbrev RD (K : PySem.W.Frag) (d : PyData) : RT := fun H v => Dp K H v d
abbrev RL (K : PySem.W.Frag) (ds : List PyData) : RT := fun H v => ∃ l xs, v = .ref l ∧ H l = some (.lst xs) ∧ DpAll K H xs ds
theorem rl_mono {ds : List PyData} {H H' : Hp} {v : V} (s : Same H H') (h : RL K ds H v) : RL K ds H' v := by
  obtain ⟨l, xs, e, f, g⟩ := h
  exact ⟨l, xs, e, s _ _ f, dpam s g⟩
theorem rl_rd {ds : List PyData} {H : Hp} {v : V} (h : RL K ds H v) : Dp K H v (.list ds) := by
  obtain ⟨l, xs, rfl, f, g⟩ := h
  exact .lst (SqL.of f) g
variable {σ : L2.St} {H : Hp} {te ta tb : TE}
theorem gv_imp {R R' : RT} (g : GV te σ H R) (i : ∀ H v, R H v → R' H v) : GV te σ H R' := fun H1 s Q q => g H1 s Q fun v H' s' r => q v H' s' (i _ _ r)
theorem gv_int (i : Int) : GV (tC (.int i)) σ H (RD K (.int i)) := fun H1 _ Q q => q _ H1 (Same.refl _) (.int i)
theorem gv_non : GV (tC .non) σ H (RD K .none) := fun H1 _ Q q => q _ H1 (Same.refl _) .non
theorem gv_bl (b : Bool) : GV (tC (.bl b)) σ H (RD K (.bool b)) := fun H1 _ Q q => q _ H1 (Same.refl _) (.bl b)
theorem gv_str (x : Str) : GV (tC (.str x)) σ H (RD K (.str x)) := fun H1 _ Q q => q _ H1 (Same.refl _) (.str x)
theorem gv_var {i : Nat} {v : V} {R : RT} (e : σ[i]? = some (some v)) (r : ∀ H', Same H H' → R H' v) : GV (tVar i) σ H R := fun H1 s Q q => ⟨v, e, q v H1 (Same.refl _) (r H1 s)⟩
theorem gv_neg {i : Int} (g : GV te σ H (RD K (.int i))) : GV (tUn (rU fun i => .int (-i)) te) σ H (RD K (.int (-i))) := fun H1 s Q q => g H1 s _ fun v H' s' r => by
  cases r
  exact ⟨_, rfl, q _ _ s' (.int _)⟩
theorem gv_sub {i j : Int} (g : GV ta σ H (RD K (.int i))) (f : GV tb σ H (RD K (.int j))) : GV (tOp (rI0 fun i j => .int (i - j)) ta tb) σ H (RD K (.int (i - j))) := fun H1 s Q q => g H1 s _ fun v H2 s2 r => f H2 (s.trans s2) _ fun u H3 s3 t => by
  cases r
  cases t
  exact ⟨_, _, rfl, rfl, q _ _ (s2.trans s3) (.int _)⟩
theorem gv_add {i j : Int} (g : GV ta σ H (RD K (.int i))) (f : GV tb σ H (RD K (.int j))) : GV (tOp (rI0 fun i j => .int (i + j)) ta tb) σ H (RD K (.int (i + j))) := fun H1 s Q q => g H1 s _ fun v H2 s2 r => f H2 (s.trans s2) _ fun u H3 s3 t => by
  cases r
  cases t
  exact ⟨_, _, rfl, rfl, q _ _ (s2.trans s3) (.int _)⟩
theorem gv_pow {i j : Int} (g : GV ta σ H (RD K (.int i))) (f : GV tb σ H (RD K (.int j))) (c : CPow i j) : GV (tOp (rI CPow fun i j => .int (i ^ j.toNat)) ta tb) σ H (RD K (.int (i ^ j.toNat))) := fun H1 s Q q => g H1 s _ fun v H2 s2 r => f H2 (s.trans s2) _ fun u H3 s3 t => by
  cases r
  cases t
  exact ⟨_, _, rfl, rfl, c, q _ _ (s2.trans s3) (.int _)⟩
theorem gv_mul {i j : Int} (g : GV ta σ H (RD K (.int i))) (f : GV tb σ H (RD K (.int j))) (c : CMul i j) : GV (tOp (rI CMul fun i j => .int (i * j)) ta tb) σ H (RD K (.int (i * j))) := fun H1 s Q q => g H1 s _ fun v H2 s2 r => f H2 (s.trans s2) _ fun u H3 s3 t => by
  cases r
  cases t
  exact ⟨_, _, rfl, rfl, c, q _ _ (s2.trans s3) (.int _)⟩
theorem ga_nil : GA K tNil σ H [] := fun H1 _ Q q => q [] H1 (Same.refl _) .nil
theorem ga_cons {d : PyData} {ds : List PyData} {t : TA} (g : GV te σ H (RD K d)) (f : GA K t σ H ds) : GA K (tCons te t) σ H (d :: ds) := fun H1 s Q q => g H1 s _ fun v H2 s2 r => f H2 (s.trans s2) _ fun us H3 s3 t => q _ _ (s2.trans s3) (.cons (dpm s3 r) t)
theorem gv_tup {ds : List PyData} {t : TA} (f : GA K t σ H ds) (hl : ds.length ≤ sizeLine) : GV (tTup t) σ H (RD K (.tuple ds)) := fun H1 s Q q => f H1 s _ fun vs H2 s2 r => ⟨by rw [dpa_len r]; exact hl, fun p np => q _ _ (s2.trans (same_upd np)) (.tup (SqT.of upd_same) (dpam (same_upd np) r))⟩
theorem gv_lst {ds : List PyData} {t : TA} (f : GA K t σ H ds) (hl : ds.length ≤ sizeLine) : GV (tLst t) σ H (RL K ds) := fun H1 s Q q => f H1 s _ fun vs H2 s2 r => ⟨by rw [dpa_len r]; exact hl, fun p np => q _ _ (s2.trans (same_upd np)) ⟨p, vs, rfl, upd_same, dpam (same_upd np) r⟩⟩
theorem gv_cat {ds es : List PyData} (g : GV ta σ H (RL K ds)) (f : GV tb σ H (RL K es)) (hl : ds.length + es.length ≤ sizeLine) : GV (tOp rCat ta tb) σ H (RL K (ds ++ es)) := fun H1 s Q q => g H1 s _ fun v H2 s2 r => f H2 (s.trans s2) _ fun u H3 s3 t => by
  obtain ⟨l, xs, rfl, e1, a1⟩ := rl_mono s3 r
  obtain ⟨m, ys, rfl, e2, a2⟩ := t
  exact ⟨l, m, xs, ys, rfl, rfl, e1, e2, by rw [dpa_len a1, dpa_len a2]; exact hl, fun p np => q _ _ ((s2.trans s3).trans (same_upd np)) ⟨p, _, rfl, upd_same, dpam (same_upd np) (dpa_app a1 a2)⟩⟩
theorem gv_rl {ds : List PyData} (g : GV te σ H (RL K ds)) : GV te σ H (RD K (.list ds)) := gv_imp g fun _ _ => rl_rd
/-- x = e; S: the slots behind it -/
theorem asg {R : RT} {i : Nat} {D : Ends} (S : V → L2.St) (e : ∀ v, σ.set i (some v) = S v) (g : GV te σ H R) (k : ∀ v H', Same H H' → R H' v → D.nx (S v) H') : tAsg te (gName i) D σ H := g H (Same.refl _) _ fun v H' s r => by
  show D.nx (σ.set i (some v)) H'
  rw [e]
  exact k v H' s r
theorem par {R R' : RT} {i j : Nat} {D : Ends} (S : V → V → L2.St) (e : ∀ v w, (σ.set i (some v)).set j (some w) = S v w) (g : GV ta σ H R) (h : GV tb σ H R') (m : ∀ H H' v, Same H H' → R H v → R H' v) (k : ∀ v w H', Same H H' → R H' v → R' H' w → D.nx (S v w) H') : tPar i j (tCons ta (tCons tb tNil)) D σ H := g H (Same.refl _) _ fun v H1 s1 r => h H1 s1 _ fun w H2 s2 r2 => ⟨v, w, rfl, by
  rw [e]
  exact k v w H2 (s1.trans s2) (m _ _ _ s2 r) r2⟩
/-- the two sides read alike -/
theorem gv_same {d : PyData} {n : Nat} (g : GV ta σ H (RD K d)) (f : GV tb σ H (RD K d)) (ok : okd n d = true) : GV (tCall (spSame K (n + 1)) [] C8.E0 (tCons ta (tCons tb tNil))) σ H (RD K (.bool true)) := fun H1 s Q q => g H1 s _ fun v H2 s2 r => f H2 (s.trans s2) _ fun u H3 s3 t =>
  ⟨v, u, rfl, eqs_dp n d v u ok (dpm s3 r) t, fun H4 s4 => q _ _ ((s2.trans s3).trans s4) (.bl true)⟩
end
end BL

namespace BL
open PySem PySem.Spec PyProof.Rows L2
/-! ### operators that a class defines -/
/-- an own def by its address, found at the class -/
structure Own (P : Program) (w : World) (K : PySem.W.Frag) (mg : Str → Option Value) (base : Heap) (k : Nat) (C : Addr) (nm : Str) (sp : Sp) : Prop where
  ex : ∃ (f : Addr) (fd : FuncData) (ps : List Str), PySem.W.findIn K (.ref C) nm = some (some (.ref f)) ∧ PySem.W.isFn K (.ref f) = true ∧ PySem.W.fnIn K f = true ∧ FnOk P w K mg base CX0 k f fd ps sp ∧ Binds K fd ps []
def rBin (C : Addr) (sp : Sp) : R2 := fun x y H Q => ∃ a b dx dy fs gs, x = .ref a ∧ y = .ref b ∧ H a = some (.ins C dx fs) ∧ H b = some (.ins C dy gs) ∧ sp [x, y] H Q C8.E0
def rBinI (C : Addr) (sp : Sp) : R2 := fun x y H Q => ∃ a i dx fs, x = .ref a ∧ y = .int i ∧ H a = some (.ins C dx fs) ∧ sp [x, y] H Q C8.E0
section
variable {X : Cx} {n j : Nat} {C : Addr} {sp : Sp}
theorem op_rsh (o : Own X.prog X.w X.K X.mg X.base n C "__rshift__" sp) (hc : PySem.W.selfFirst X.K C = true) (hr : Room j X.A) (hj : n ≤ j) : OpR X (binaryOp .RShift) (rBin C sp) := by
  obtain ⟨f, fd, ps, hs, hf, _, F, hb⟩ := o.ex
  intro pins s σ H x y v u Q I rx ry h
  obtain ⟨a, b, dx, dy, fs, gs, rfl, rfl, ha, hb', q⟩ := h
  cases (show v = Value.ref a from rx)
  cases (show u = Value.ref b from ry)
  obtain ⟨mA, O, _⟩ := ins_get I.hok ha
  obtain ⟨od, J, _⟩ := O.look
  obtain ⟨mB, O', _⟩ := ins_get I.hok hb'
  obtain ⟨od', J', _⟩ := O'.look
  obtain ⟨m, hF⟩ := I.fr
  refine PySem.W.binop_K (op := .RShift) hF I.ok.mod.kin J J'.type hc hs hf ?_
  refine wpAny_mono (run_fn (us := [.ref a, .ref b]) (vs := [.ref a, .ref b]) F (hr.mono hj) hb .nil pass0 I (.cons rfl (.cons rfl .nil)) q) (fun w s' z => ?_) fun _ _ x => x
  obtain ⟨z', H', I', rz, qz⟩ := z
  exact SlX.cmpback rz ⟨z', H', I', rz, qz⟩
/-- way * number -/
theorem op_times (o : Own X.prog X.w X.K X.mg X.base n C "__mul__" sp) (hc : PySem.W.selfFirst X.K C = true) (hm : PySem.W.findIn X.K (.ref C) "__rmul__" = some none) (h1 : PySem.W.findIn X.K (.type "int") "__mul__" = some (some (.builtin "int.__mul__"))) (h2 : PySem.W.findIn X.K (.type "int") "__rmul__" = some (some (.builtin "int.__rmul__")))
    (hsub : PySem.W.subIn X.K (.type "int") (.ref C) = some false) (hr : Room j X.A) (hj : n ≤ j) : OpR X (binaryOp .Mult) (rBinI C sp) := by
  obtain ⟨f, fd, ps, hs, hf, _, F, hb⟩ := o.ex
  intro pins s σ H x y v u Q I rx ry h
  obtain ⟨a, i, dx, fs, rfl, rfl, ha, q⟩ := h
  cases (show v = Value.ref a from rx)
  obtain ⟨t, rfl⟩ := (show ∃ t, u = Value.int i t from ry)
  obtain ⟨mA, O, _⟩ := ins_get I.hok ha
  obtain ⟨od, J, _⟩ := O.look
  obtain ⟨m, hF⟩ := I.fr
  refine PySem.W.ksp_binT (op := .Mult) (T := "int") hF I.ok.mod.kin J rfl hc hs hf hm (.inl rfl) h1 h2 hsub ?_
  refine wpAny_mono (run_fn (us := [.ref a, .int i t]) (vs := [.ref a, .int i]) F (hr.mono hj) hb .nil pass0 I (.cons rfl (.cons ⟨t, rfl⟩ .nil)) q) (fun w s' z => ?_) fun _ _ x => x
  obtain ⟨z', H', I', rz, qz⟩ := z
  exact SlX.cmpback rz ⟨z', H', I', rz, qz⟩
/-- way == way -/
theorem op_eqO (o : Own X.prog X.w X.K X.mg X.base n C "__eq__" sp) (hr : Room j X.A) (hj : n ≤ j) : OpR X (compareOp .Eq) (rBin C sp) := by
  obtain ⟨f, fd, ps, hs, hf, _, F, hb⟩ := o.ex
  intro pins s σ H x y v u Q I rx ry h
  obtain ⟨a, b, dx, dy, fs, gs, rfl, rfl, ha, hb', q⟩ := h
  cases (show v = Value.ref a from rx)
  cases (show u = Value.ref b from ry)
  obtain ⟨mA, O, _⟩ := ins_get I.hok ha
  obtain ⟨od, J, _⟩ := O.look
  obtain ⟨mB, O', _⟩ := ins_get I.hok hb'
  obtain ⟨od', J', _⟩ := O'.look
  obtain ⟨m, hF⟩ := I.fr
  show wpAny (model X.prog X.w) X.A (richCompare .Eq (.ref a) (.ref b)) (EP X pins σ Q) X.xe s
  refine PySem.W.cmp_K (op := .Eq) (tb := .ref C) hr.units0 hF I.ok.mod.kin J J'.type (by simp [PySem.W.notFirst]) hs hf ?_
  refine wpAny_mono (run_fn (us := [.ref a, .ref b]) (vs := [.ref a, .ref b]) F (hr.mono hj) hb .nil pass0 I (.cons rfl (.cons rfl .nil)) q) (fun w s' z => ?_) fun _ _ x => x
  obtain ⟨z', H', I', rz, qz⟩ := z
  exact SlX.cmpback rz ⟨z', H', I', rz, qz⟩
/-- way(e) -/
def tCalled (C : Addr) (sp : Sp) (tf : TE) (t : TA) : TE := fun σ H Q => tf σ H fun y H1 => ∃ a, y = V.ref a ∧ t σ H1 fun vs H2 => (∃ dx fs, H2 a = some (.ins C dx fs)) ∧ sp (V.ref a :: vs) H2 Q C8.E0
def MonoA (t : TA) : Prop := ∀ (σ : L2.St) (H : Hp) (Q Q' : List V → Hp → Prop), (∀ v H', Q v H' → Q' v H') → t σ H Q → t σ H Q'
theorem PE.of {X : Cx} {e : Expr} {t t' : TE} (h : PE X e t) (i : ∀ σ H Q, t' σ H Q → t σ H Q) : PE X e t' := ⟨fun pins s σ H Q I q => h.run pins s σ H Q I (i σ H Q q)⟩
theorem pe_called {fe e : Expr} {es : List Expr} {tf : TE} {t : TA} {pos : Pos} (o : Own X.prog X.w X.K X.mg X.base n C "__call__" sp) (hr : Room j X.A) (hj : n ≤ j) (hf : PE X fe tf) (mf : Mono tf) (ha : PA X (e :: es) t) (ma : MonoA t)
    (ht : eval (.Call fe (e :: es) [] pos) X.env = (do callWith pos (← eval fe X.env) [] (backTo pos (starEach (e :: es) X.env)) (backToKw pos (keywordEach [] X.env))) := by rfl)
    (he : starEach (e :: es) X.env = (false, eval e X.env) :: starEach es X.env := by rfl) (hpl : (backTo pos (starEach es X.env)).any (·.1) = false := by rfl) : PE X (.Call fe (e :: es) [] pos) (tCalled C sp tf t) := by
  obtain ⟨f, fd, ps, hs, hfn, hfi, F, hb⟩ := o.ex
  have G : FnR X.prog X.w X.K X.mg X.base CX0 n f sp := fun A outer s H us vs Q E hr e0 r hs => by
    have hl := F.len _ _ _ _ hs
    have hl2 : (us ++ []).length = ps.length := by rw [List.append_nil, ← r.length, hl]
    have hb' := hb s us (fun a o h => (e0.bs a o (e0.mod.kin a o h)).1) hl2
    rw [List.append_nil] at hb'
    exact F.run A outer s H ⟨us, []⟩ us vs Q E hr e0 hb' r hs
  refine PE.of (StX.pe_callO hf ⟨hs, hfn, hfi⟩ G (hr.mono hj) pass0 ha ht he hpl) fun σ H Q q => ?_
  refine mf σ H _ _ (fun y H1 z => ?_) q
  obtain ⟨a, ey, k⟩ := z
  exact ⟨a, ey, ma σ H1 _ _ (fun vs H2 z => ⟨.inr z.1, z.2⟩) k⟩
/-- way._floor and so on: the same reading as that of the properties -/
theorem pe_hid {e : Expr} {h : Str} {pos : Pos} {ta : TE} {sel : Option Int → Option Int → Option Int → Option Int} (hs : ∀ s f c, (wF s f c).lookup h = some (oV (sel s f c))) (m : Mono ta) (he : PE X e ta) (c : Cls X.K C) (na : NoAttr X.K C h)
    (hb : attributeBase e h X.env (eval e X.env) = eval e X.env := by rfl) : PE X (.Attribute e h pos) (tWF C sel ta) := by
  refine PE.of (pe_fld he hb) fun σ H Q q => m σ H _ _ (fun v H' z => ?_) q
  obtain ⟨a, s, f, c', rfl, ⟨dx, ha⟩, k⟩ := z
  exact ⟨a, C, dx, _, _, rfl, ha, c, na, hs s f c', k⟩
/-- a property whatever it gives -/
structure Pr2 (P : Program) (w : World) (K : PySem.W.Frag) (mg : Str → Option Value) (base : Heap) (k : Nat) (C : Addr) (f : Str) (sp : Sp) : Prop where
  ex : ∃ (p g : Addr) (fd : FuncData), PropOf K C f p g ∧ FnOk P w K mg base CX0 k g fd ["self"] sp ∧ Binds K fd ["self"] []
theorem pe_pr2 {e : Expr} {f : Str} {pos : Pos} {ta : TE} (he : PE X e ta) (c : Cls X.K C) (pr : Pr2 X.prog X.w X.K X.mg X.base n C f sp) (hr : Room j X.A) (hj : n + 1 ≤ j)
    (hab : attributeBase e f X.env (eval e X.env) = eval e X.env := by rfl) : PE X (.Attribute e f pos) (tProp C sp [] C8.E0 ta) := by
  obtain ⟨p, g, fd, po, F, b⟩ := pr.ex
  exact pe_prop he c po F (hr.mono hj) b .nil pass0 hab
end
/-! ### ways, purely -/
def ld (s f c : Option Int) (x : Int) : Int := match s with
  | none => f.getD 0
  | some s => bnd (x + s) f c
def leO (f c : Option Int) : Prop := ∀ x y, f = some x → c = some y → x ≤ y
def wfW (s f c : Option Int) : Prop := leO f c ∧ (s = none → ∃ a, f = some a ∧ c = some a) ∧ (∀ a, f = some a → c = some a → s = none)
def rsS (s1 s2 : Option Int) : Option Int := match s1, s2 with
  | some a, some b => some (a + b)
  | _, _ => none
def rsB (s2 f2 c2 o o2 : Option Int) : Option Int := match o with
  | none => o2
  | some z => some (ld s2 f2 c2 z)
theorem bnd_none (l : Int) : bnd l none none = l := by
  have h : bnd l none none = l := rfl
  exact h.trans (Int.add_zero l ▸ (by simp))
theorem bnd_lo (l a : Int) : bnd l (some a) none = max l a := by unfold bnd; simp only []; omega
theorem bnd_hi (l b : Int) : bnd l none (some b) = min l b := by unfold bnd; simp only []; omega
theorem bnd_two (l a b : Int) : bnd l (some a) (some b) = min (max l a) b := by unfold bnd; simp only []; omega
theorem bnd_le {l m : Int} (f c : Option Int) (h : l ≤ m) : bnd l f c ≤ bnd m f c := by
  cases f <;> cases c <;> simp only [bnd_none, bnd_lo, bnd_hi, bnd_two] <;> omega
theorem ld_le {l m : Int} (s f c : Option Int) (h : l ≤ m) : ld s f c l ≤ ld s f c m := by
  unfold ld
  cases s with
  | none => exact Int.le_refl _
  | some s => exact bnd_le f c (by omega)
theorem rs_ok {s1 f1 c1 s2 f2 c2 : Option Int} (h1 : wfW s1 f1 c1) (h2 : wfW s2 f2 c2) : okW (rsS s1 s2) (rsB s2 f2 c2 f1 f2) (rsB s2 f2 c2 c1 c2) := by
  obtain ⟨l1, n1, _⟩ := h1
  obtain ⟨l2, n2, _⟩ := h2
  cases s1 with
  | none =>
    obtain ⟨a, rfl, rfl⟩ := n1 rfl
    exact ⟨Int.le_refl _, fun _ => rfl⟩
  | some a1 =>
    cases s2 with
    | none =>
      obtain ⟨b, rfl, rfl⟩ := n2 rfl
      cases f1 <;> cases c1 <;> exact ⟨Int.le_refl _, fun _ => rfl⟩
    | some a2 =>
      cases f1 with
      | none =>
        cases c1 with
        | none => exact (by
            unfold okW rsB
            cases f2 with
            | none => exact fun z => by cases z
            | some x => cases c2 with
              | none => exact fun z => by cases z
              | some y => exact ⟨l2 x y rfl rfl, fun z => by cases z⟩)
        | some y1 =>
          unfold okW rsB
          cases f2 with
          | none => exact fun z => by cases z
          | some x =>
            refine ⟨?_, fun z => by cases z⟩
            unfold ld
            cases c2 with
            | none => simp only [bnd_lo]; omega
            | some y => have := l2 x y rfl rfl; simp only [bnd_two]; omega
      | some x1 =>
        cases c1 with
        | none =>
          unfold okW rsB
          cases c2 with
          | none => exact fun z => by cases z
          | some y =>
            refine ⟨?_, fun z => by cases z⟩
            unfold ld
            cases f2 with
            | none => simp only [bnd_hi]; omega
            | some x => have := l2 x y rfl rfl; simp only [bnd_two]; omega
        | some y1 => exact ⟨ld_le _ _ _ (l1 x1 y1 rfl rfl), fun z => by cases z⟩
theorem nrm_wf {s f c : Option Int} (h : okW s f c) : wfW (nrm s f c) f c := by
  unfold okW at h
  cases f with
  | none =>
    refine ⟨fun x y z => (by cases z), fun e => ?_, fun a z => (by cases z)⟩
    exact absurd e h
  | some a =>
    cases c with
    | none =>
      refine ⟨fun x y _ z => (by cases z), fun e => ?_, fun b _ z => (by cases z)⟩
      exact absurd e h
    | some b =>
      refine ⟨fun x y z w => (by cases z; cases w; exact h.1), fun e => ?_, fun d z w => ?_⟩
      · by_cases q : a = b
        · exact ⟨a, rfl, by rw [q]⟩
        · simp only [nrm, if_neg q] at e
          exact absurd (h.2 e) q
      · cases z
        cases w
        unfold nrm
        exact if_pos rfl
/-- a way made of such parts leads as they say -/
theorem ld_nrm {s f c : Option Int} (h : okW s f c) (x : Int) (z : Int) (hz : ∀ a, s = some a → bnd (x + a) f c = z) (h0 : s = none → f = some z) : ld (nrm s f c) f c x = z := by
  unfold okW at h
  cases s with
  | none =>
    have e := h0 rfl
    subst e
    cases c with
    | none => exact absurd rfl h
    | some b =>
      have q := h.2 rfl
      subst q
      unfold nrm ld
      simp
  | some a =>
    have e := hz a rfl
    cases f with
    | none => exact e
    | some p =>
      cases c with
      | none => exact e
      | some q =>
        unfold nrm
        by_cases r : p = q
        · subst r
          simp only [if_true]
          unfold ld
          simp only [Option.getD]
          rw [bnd_two] at e
          omega
        · simp only [if_neg r]
          exact e
theorem ld_rs {s1 f1 c1 s2 f2 c2 : Option Int} (h1 : wfW s1 f1 c1) (h2 : wfW s2 f2 c2) (x : Int) : ld (nrm (rsS s1 s2) (rsB s2 f2 c2 f1 f2) (rsB s2 f2 c2 c1 c2)) (rsB s2 f2 c2 f1 f2) (rsB s2 f2 c2 c1 c2) x = ld s2 f2 c2 (ld s1 f1 c1 x) := by
  refine ld_nrm (rs_ok h1 h2) x _ (fun a ha => ?_) (fun hn => ?_)
  · cases s1 with
    | none => cases ha
    | some a1 =>
      cases s2 with
      | none => cases ha
      | some a2 =>
        have l1 := h1.1
        have l2 := h2.1
        cases ha
        unfold ld rsB
        cases f1 <;> cases c1 <;> cases f2 <;> cases c2 <;> simp only [ld, bnd_none, bnd_lo, bnd_hi, bnd_two] <;> (try have l1 := l1 _ _ rfl rfl) <;> (try have l2 := l2 _ _ rfl rfl) <;> omega
  · cases s1 with
    | none =>
      obtain ⟨a, rfl, rfl⟩ := h1.2.1 rfl
      rfl
    | some a1 =>
      cases s2 with
      | some a2 => cases hn
      | none =>
        obtain ⟨b, rfl, rfl⟩ := h2.2.1 rfl
        cases f1 <;> rfl
theorem ld_hi {s x : Int} {f c : Option Int} (l : leO f c) (hf : f.getD 0 ≤ x + s) (hc : c.getD 0 ≤ x + s) : ld (some s) f c x = c.getD (x + s) := by
  cases f <;> cases c <;> simp only [ld, bnd_none, bnd_lo, bnd_hi, bnd_two, Option.getD] at hf hc ⊢ <;> (try have l := l _ _ rfl rfl) <;> omega
theorem ld_lo {s x : Int} {f c : Option Int} (l : leO f c) (hf : x + s ≤ f.getD 0) (hc : x + s ≤ c.getD 0) : ld (some s) f c x = f.getD (x + s) := by
  cases f <;> cases c <;> simp only [ld, bnd_none, bnd_lo, bnd_hi, bnd_two, Option.getD] at hf hc ⊢ <;> (try have l := l _ _ rfl rfl) <;> omega
def big (a b c d e g : Int) : Int := (a.natAbs + b.natAbs + c.natAbs + d.natAbs + e.natAbs + g.natAbs : Nat)
theorem big_ge (a b c d e g : Int) : a + b ≤ big a b c d e g ∧ a + c ≤ big a b c d e g ∧ d + e ≤ big a b c d e g ∧ d + g ≤ big a b c d e g ∧ -a - b ≤ big a b c d e g ∧ -a - c ≤ big a b c d e g ∧ -d - e ≤ big a b c d e g ∧ -d - g ≤ big a b c d e g ∧ b - a ≤ big a b c d e g ∧ c - a ≤ big a b c d e g ∧ e - d ≤ big a b c d e g ∧ g - d ≤ big a b c d e g ∧ a - b ≤ big a b c d e g ∧ a - c ≤ big a b c d e g ∧ d - e ≤ big a b c d e g ∧ d - g ≤ big a b c d e g := by
  unfold big
  omega
theorem strict {s : Int} {f c : Option Int} (h : wfW (some s) f c) (x y : Int) (p : f = some x) (q : c = some y) : x < y := by
  have := h.1 x y p q
  by_cases z : x = y
  · have k := h.2.2 x p (by rw [q, z])
    cases k
  · omega
/-- ways that lead alike are one: both with a shift -/
theorem way_ext0 {s1 s2 : Int} {f1 c1 f2 c2 : Option Int} (h1 : wfW (some s1) f1 c1) (h2 : wfW (some s2) f2 c2) (h : ∀ x, ld (some s1) f1 c1 x = ld (some s2) f2 c2 x) : s1 = s2 ∧ f1 = f2 ∧ c1 = c2 := by
  have B := big_ge s1 (f1.getD 0) (c1.getD 0) s2 (f2.getD 0) (c2.getD 0)
  generalize big s1 (f1.getD 0) (c1.getD 0) s2 (f2.getD 0) (c2.getD 0) = M at B
  have a1 := h M
  have a2 := h (M + 1)
  have b1 := h (-M)
  have b2 := h (-M - 1)
  rw [ld_hi h1.1 (by omega) (by omega), ld_hi h2.1 (by omega) (by omega)] at a1 a2
  rw [ld_lo h1.1 (by omega) (by omega), ld_lo h2.1 (by omega) (by omega)] at b1 b2
  have ec : c1 = c2 := by
    cases c1 <;> cases c2 <;> simp only [Option.getD] at a1 a2
    · rfl
    · omega
    · omega
    · rw [a1]
  have ef : f1 = f2 := by
    cases f1 <;> cases f2 <;> simp only [Option.getD] at b1 b2
    · rfl
    · omega
    · omega
    · rw [b1]
  subst ec
  subst ef
  refine ⟨?_, rfl, rfl⟩
  cases c1 with
  | none => simp only [Option.getD] at a1; omega
  | some c =>
    cases f1 with
    | none => simp only [Option.getD] at b1; omega
    | some f =>
      have d := strict h1 f c rfl rfl
      have e3 := h (f - s1)
      have e4 := h (f - s1 + 1)
      simp only [ld, bnd_two] at e3 e4
      omega
theorem no_const {s : Int} {f c : Option Int} {a : Int} (h : wfW (some s) f c) (e : ∀ x, ld (some s) f c x = a) : False := by
  have B := big_ge s (f.getD 0) (c.getD 0) 0 0 0
  generalize big s (f.getD 0) (c.getD 0) 0 0 0 = M at B
  have a1 := e M
  have a2 := e (M + 1)
  have b1 := e (-M)
  have b2 := e (-M - 1)
  rw [ld_hi h.1 (by omega) (by omega)] at a1 a2
  rw [ld_lo h.1 (by omega) (by omega)] at b1 b2
  cases c with
  | none => simp only [Option.getD] at a1 a2; omega
  | some c =>
    cases f with
    | none => simp only [Option.getD] at b1 b2; omega
    | some f =>
      have d := strict h f c rfl rfl
      simp only [Option.getD] at a1 b1
      omega
theorem way_ext {s1 f1 c1 s2 f2 c2 : Option Int} (h1 : wfW s1 f1 c1) (h2 : wfW s2 f2 c2) (h : ∀ x, ld s1 f1 c1 x = ld s2 f2 c2 x) : s1 = s2 ∧ f1 = f2 ∧ c1 = c2 := by
  cases s1 with
  | none =>
    obtain ⟨a, rfl, rfl⟩ := h1.2.1 rfl
    cases s2 with
    | none =>
      obtain ⟨b, rfl, rfl⟩ := h2.2.1 rfl
      have e : a = b := h 0
      rw [e]
      exact ⟨rfl, rfl, rfl⟩
    | some s => exact (no_const h2 (a := a) fun x => (h x).symm).elim
  | some s1 =>
    cases s2 with
    | none =>
      obtain ⟨b, rfl, rfl⟩ := h2.2.1 rfl
      exact (no_const h1 (a := b) fun x => h x).elim
    | some s2 =>
      obtain ⟨e, g⟩ := way_ext0 h1 h2 h
      rw [e]
      exact ⟨rfl, g⟩
end BL

namespace BL
open PySem PySem.Spec PyProof.Rows L2
/-! ### a way done so many times -/
def itr (s f c : Option Int) : Nat → Int → Int
  | 0, x => x
  | n + 1, x => ld s f c (itr s f c n x)
theorem itr_add (s f c : Option Int) (m : Nat) : ∀ (n : Nat) (x : Int), itr s f c (m + n) x = itr s f c n (itr s f c m x)
  | 0, x => rfl
  | n + 1, x => by
    show ld s f c (itr s f c (m + n) x) = ld s f c (itr s f c n (itr s f c m x))
    rw [itr_add s f c m n x]
def muB (f c o : Option Int) (m : Int) : Option Int := match o with
  | none => none
  | some z => some (bnd (z + m) f c)
theorem sgn (s : Int) (k : Nat) : (0 ≤ s → 0 ≤ s * k) ∧ (s ≤ 0 → s * k ≤ 0) := by
  constructor
  · intro h
    exact Int.mul_nonneg h (by omega)
  · intro h
    have := Int.mul_nonneg (show 0 ≤ -s by omega) (show (0 : Int) ≤ k by omega)
    rw [Int.neg_mul] at this
    omega
theorem mu_step {f c : Option Int} (l : leO f c) (s t x : Int) (h : (0 ≤ s → 0 ≤ t) ∧ (s ≤ 0 → t ≤ 0)) :
    bnd (x + (s + (t + s))) (muB f c f (t + s)) (muB f c c (t + s)) = bnd (bnd (x + (s + t)) (muB f c f t) (muB f c c t) + s) f c := by
  cases f with
  | none =>
    cases c with
    | none => simp only [muB, bnd_none]; omega
    | some c =>
      simp only [muB, bnd_hi]
      by_cases q : 0 ≤ s
      · have := h.1 q
        omega
      · have := h.2 (by omega)
        omega
  | some f =>
    cases c with
    | none =>
      simp only [muB, bnd_lo]
      by_cases q : 0 ≤ s
      · have := h.1 q
        omega
      · have := h.2 (by omega)
        omega
    | some c =>
      have l := l f c rfl rfl
      simp only [muB, bnd_two]
      by_cases q : 0 ≤ s
      · have := h.1 q
        have e1 : min (max (c + t) f) c = c := by omega
        have e2 : min (max (c + (t + s)) f) c = c := by omega
        have e3 : max (f + t) f = f + t := by omega
        have e4 : max (f + (t + s)) f = f + (t + s) := by omega
        rw [e1, e2, e3, e4]
        omega
      · have := h.2 (by omega)
        have e1 : min (max (f + t) f) c = f := by omega
        have e2 : min (max (f + (t + s)) f) c = f := by omega
        have e3 : min (max (c + t) f) c = max (c + t) f := by omega
        have e4 : min (max (c + (t + s)) f) c = max (c + (t + s)) f := by omega
        rw [e1, e2, e3, e4]
        omega
theorem mu_bnd {s : Int} {f c : Option Int} (l : leO f c) : ∀ (k : Nat) (x : Int), bnd (x + (s + s * k)) (muB f c f (s * k)) (muB f c c (s * k)) = itr (some s) f c (k + 1) x
  | 0, x => by
    show bnd (x + (s + s * ((0 : Nat) : Int))) (muB f c f (s * ((0 : Nat) : Int))) (muB f c c (s * ((0 : Nat) : Int))) = bnd (x + s) f c
    rw [show s * ((0 : Nat) : Int) = 0 from Int.mul_zero s]
    cases f <;> cases c <;> simp only [muB, bnd_none, bnd_lo, bnd_hi, bnd_two] <;> (try have l := l _ _ rfl rfl) <;> omega
  | k + 1, x => by
    show _ = ld (some s) f c (itr (some s) f c (k + 1) x)
    rw [← mu_bnd l k x]
    have e : s * ((k + 1 : Nat) : Int) = s * k + s := by
      rw [show ((k + 1 : Nat) : Int) = (k : Int) + 1 by omega, Int.mul_add, Int.mul_one]
    rw [e]
    exact mu_step l s (s * k) x (sgn s k)
theorem mu_ok {s : Int} {f c : Option Int} (l : leO f c) (m t : Int) : okW (some t) (muB f c f m) (muB f c c m) := by
  unfold okW
  cases f with
  | none => cases c <;> exact fun z => by cases z
  | some a =>
    cases c with
    | none => exact fun z => by cases z
    | some b => exact ⟨bnd_le _ _ (by have := l a b rfl rfl; omega), fun z => by cases z⟩
/-- so many times, at least once -/
def muS (s f c : Option Int) (k : Nat) : Option Int × Option Int × Option Int := match s with
  | none => (none, f, c)
  | some s => (nrm (some (s + s * k)) (muB f c f (s * k)) (muB f c c (s * k)), muB f c f (s * k), muB f c c (s * k))
theorem const_itr {a : Int} : ∀ (k : Nat) (x : Int), itr none (some a) (some a) (k + 1) x = a
  | 0, _ => rfl
  | k + 1, x => rfl
theorem mu_wf {s f c : Option Int} (h : wfW s f c) (k : Nat) : wfW (muS s f c k).1 (muS s f c k).2.1 (muS s f c k).2.2 := by
  cases s with
  | none => exact h
  | some s => exact nrm_wf (mu_ok (s := s) h.1 _ _)
theorem mu_ld {s f c : Option Int} (h : wfW s f c) (k : Nat) (x : Int) : ld (muS s f c k).1 (muS s f c k).2.1 (muS s f c k).2.2 x = itr s f c (k + 1) x := by
  cases s with
  | none =>
    obtain ⟨a, rfl, rfl⟩ := h.2.1 rfl
    rw [const_itr]
    rfl
  | some s => exact ld_nrm (mu_ok (s := s) h.1 _ _) x _ (fun a e => by cases e; exact mu_bnd h.1 k x) (fun e => by cases e)
/-- the way of so many times -/
def mul (s f c : Option Int) : Nat → Option Int × Option Int × Option Int
  | 0 => (some 0, none, none)
  | k + 1 => muS s f c k
theorem mul_wf {s f c : Option Int} (h : wfW s f c) : ∀ n, wfW (mul s f c n).1 (mul s f c n).2.1 (mul s f c n).2.2
  | 0 => ⟨fun x y z => (by cases z), fun z => (by cases z), fun a z => (by cases z)⟩
  | k + 1 => mu_wf h k
theorem mul_ld {s f c : Option Int} (h : wfW s f c) : ∀ (n : Nat) (x : Int), ld (mul s f c n).1 (mul s f c n).2.1 (mul s f c n).2.2 x = itr s f c n x
  | 0, x => by
    show bnd (x + 0) none none = x
    rw [bnd_none, Int.add_zero]
  | k + 1, x => mu_ld h k x
/-! ### the promises -/
def spHeld : Sp := fun vs H Q _ => ∃ (l : Int) (lo hi : Option Int), vs = [.int l, oV lo, oV hi] ∧ leO lo hi ∧ Q (.int (bnd l lo hi)) H
def spLed (C : Addr) : Sp := fun vs H Q _ => ∃ (p : Addr) (s f c : Option Int) (x : Int), vs = [.ref p, .int x] ∧ WayAt C H p s f c ∧ wfW s f c ∧ Q (.int (ld s f c x)) H
def spRsh (C : Addr) : Sp := fun vs H Q _ => ∃ (p q : Addr) (s1 f1 c1 s2 f2 c2 : Option Int), vs = [.ref p, .ref q] ∧ WayAt C H p s1 f1 c1 ∧ WayAt C H q s2 f2 c2 ∧ wfW s1 f1 c1 ∧ wfW s2 f2 c2 ∧
  ∀ r H', Same H H' → WayAt C H' r (nrm (rsS s1 s2) (rsB s2 f2 c2 f1 f2) (rsB s2 f2 c2 c1 c2)) (rsB s2 f2 c2 f1 f2) (rsB s2 f2 c2 c1 c2) → Q (.ref r) H'
def spMul (C : Addr) : Sp := fun vs H Q _ => ∃ (p : Addr) (s f c : Option Int) (n : Nat), vs = [.ref p, .int n] ∧ WayAt C H p s f c ∧ wfW s f c ∧ (∀ a, s = some a → -(2 ^ 64) < a ∧ a < 2 ^ 64) ∧
  ∀ r H', Same H H' → WayAt C H' r (mul s f c n).1 (mul s f c n).2.1 (mul s f c n).2.2 → Q (.ref r) H'
def weq (s1 f1 c1 s2 f2 c2 : Option Int) : Bool := decide (s1 = s2) && (decide (f1 = f2) && decide (c1 = c2))
def spEqW (C : Addr) : Sp := fun vs H Q _ => ∃ (p q : Addr) (s1 f1 c1 s2 f2 c2 : Option Int), vs = [.ref p, .ref q] ∧ WayAt C H p s1 f1 c1 ∧ WayAt C H q s2 f2 c2 ∧ Q (.bl (weq s1 f1 c1 s2 f2 c2)) H
def bt : Option Int → Str
  | none => "-"
  | some i => Str.ofString (toString i)
def spBT : Sp := fun vs H Q _ => ∃ o : Option Int, vs = [oV o] ∧ (∀ i, o = some i → i.natAbs.log2 < 1920) ∧ Q (.str (bt o)) H
def spText (C : Addr) : Sp := fun vs H Q _ => ∃ (p : Addr) (s f c : Option Int), vs = [.ref p] ∧ WayAt C H p s f c ∧ (∀ i, s = some i ∨ f = some i ∨ c = some i → i.natAbs.log2 < 1920) ∧ Q (.str (((((Str.empty ++ bt s) ++ (" " : Str)) ++ bt f) ++ (" " : Str)) ++ bt c)) H
theorem dec_oV (a b : Option Int) : decide (oV a = oV b) = decide (a = b) := by
  cases a <;> cases b <;> simp [oV]
theorem scal_oV (a b : Option Int) : scal (oV a) (oV b) = true := by
  cases a <;> cases b <;> rfl
end BL

namespace BL
open PySem PySem.Spec PyProof.Rows L2
/-! ### what written expressions of ways give -/
abbrev RW (C : Addr) (s f c : Option Int) : RT := fun H v => ∃ p, v = .ref p ∧ WayAt C H p s f c
theorem rw_mono {C : Addr} {s f c : Option Int} {H H' : Hp} {v : V} (e : Same H H') (h : RW C s f c H v) : RW C s f c H' v := by
  obtain ⟨p, rfl, w⟩ := h
  exact ⟨p, rfl, w.same e⟩
def dO : Option Int → PyData
  | none => .none
  | some i => .int i
def okB : Option Int → Option Int → Option Int → Bool
  | s, some a, some b => decide (a ≤ b) && (s.isSome || decide (a = b))
  | s, _, _ => s.isSome
theorem dp_cast {K : PySem.W.Frag} {H : Hp} {v : V} {d d' : PyData} (e : d = d') (h : Dp K H v d) : Dp K H v d' := e ▸ h
theorem made_same {C x dx : Addr} {H H' : Hp} (nx : H x = none) (ndx : H dx = none) (k : ∀ b o, (upd (upd H dx (.own x)) x (.ins C dx [])) b = some o → b ≠ x → H' b = some o) : Same H H' := fun p o e =>
  k p o (by rw [upd_ne (ne_of_none e nx), upd_ne (ne_of_none e ndx)]; exact e) (ne_of_none e nx)

section
variable {K : PySem.W.Frag} {C : Addr} {σ : L2.St} {H : Hp} {te ta tb : TE} {t : TA} {s f c lo hi : Option Int} {e : Int}
theorem okB_of (h : okB s f c = true) : okW s f c := by
  unfold okB at h
  unfold okW
  cases f with
  | none => cases s with
    | none => cases h
    | some z => exact fun z => by cases z
  | some a =>
    cases c with
    | none => cases s with
      | none => cases h
      | some z => exact fun z => by cases z
    | some b =>
      simp only [Bool.and_eq_true, decide_eq_true_eq, Bool.or_eq_true] at h
      refine ⟨h.1, fun z => ?_⟩
      subst z
      rcases h.2 with g | g
      · cases g
      · exact g
theorem dp_o {v : V} {o : Option Int} (h : Dp K H v (dO o)) : v = oV o := by
  cases o with
  | none => cases h; rfl
  | some i => cases h; rfl
theorem gv_way3 (g : GA K t σ H [dO s, dO f, dO c]) (ok : okB s f c = true) : GV (tMake C (spInitW C) [] C8.E0 t) σ H (RW C (nrm s f c) f c) := fun H1 s1 Q q => g H1 s1 _ fun vs H2 s2 r x dx nx ndx nex => by
  cases r with
  | cons r1 r =>
    cases r with
    | cons r2 r =>
      cases r with
      | cons r3 r =>
        cases r
        rw [dp_o r1, dp_o r2, dp_o r3]
        exact ⟨x, dx, s, f, c, rfl, upd_same, okB_of ok, fun H3 W k => ⟨rfl, q _ _ (s2.trans (made_same nx ndx k)) ⟨x, rfl, W⟩⟩⟩
theorem gv_way2 (g : GA K t σ H [dO s, dO f]) (ok : okB s f none = true) : GV (tMake C (spInitW C) [.non] C8.E0 t) σ H (RW C (nrm s f none) f none) := fun H1 s1 Q q => g H1 s1 _ fun vs H2 s2 r x dx nx ndx nex => by
  cases r with
  | cons r1 r =>
    cases r with
    | cons r2 r =>
      cases r
      rw [dp_o r1, dp_o r2]
      exact ⟨x, dx, s, f, none, rfl, upd_same, okB_of ok, fun H3 W k => ⟨rfl, q _ _ (s2.trans (made_same nx ndx k)) ⟨x, rfl, W⟩⟩⟩
theorem gv_way1 (g : GA K t σ H [dO s]) (ok : okB s none none = true) : GV (tMake C (spInitW C) [.non, .non] C8.E0 t) σ H (RW C (nrm s none none) none none) := fun H1 s1 Q q => g H1 s1 _ fun vs H2 s2 r x dx nx ndx nex => by
  cases r with
  | cons r1 r =>
    cases r
    rw [dp_o r1]
    exact ⟨x, dx, s, none, none, rfl, upd_same, okB_of ok, fun H3 W k => ⟨rfl, q _ _ (s2.trans (made_same nx ndx k)) ⟨x, rfl, W⟩⟩⟩

theorem okw_wf {s f c : Option Int} (h : okB s f c = true) : wfW (nrm s f c) f c := nrm_wf (okB_of h)
/-- a check that such parts are a way's -/
def wfB : Option Int → Option Int → Option Int → Bool
  | none, some a, some b => decide (a = b)
  | none, _, _ => false
  | some _, some a, some b => decide (a < b)
  | some _, _, _ => true
theorem wfB_of {s f c : Option Int} (h : wfB s f c = true) : wfW s f c := by
  cases s with
  | none =>
    cases f with
    | none => cases h
    | some a =>
      cases c with
      | none => cases h
      | some b =>
        have e : a = b := of_decide_eq_true h
        subst e
        exact ⟨fun x y p q => (by cases p; cases q; exact Int.le_refl _), fun _ => ⟨a, rfl, rfl⟩, fun _ _ _ => rfl⟩
  | some z =>
    cases f with
    | none => exact ⟨fun x y p => (by cases p), fun p => (by cases p), fun x p => (by cases p)⟩
    | some a =>
      cases c with
      | none => exact ⟨fun x y _ p => (by cases p), fun p => (by cases p), fun x _ p => (by cases p)⟩
      | some b =>
        have e : a < b := of_decide_eq_true h
        exact ⟨fun x y p q => (by cases p; cases q; omega), fun p => (by cases p), fun x p q => (by cases p; cases q; omega)⟩
def smB : Option Int → Bool
  | none => true
  | some a => decide (-(2 ^ 64) < a) && decide (a < 2 ^ 64)
def lgB : Option Int → Bool
  | none => true
  | some a => decide (a.natAbs.log2 < 1920)
theorem gv_cast {s f c s' f' c' : Option Int} (g : GV te σ H (RW C s f c)) (e : (s, f, c) = (s', f', c')) : GV te σ H (RW C s' f' c') := by
  cases e
  exact g
theorem gv_rsh {s1 f1 c1 s2 f2 c2 : Option Int} (g : GV ta σ H (RW C s1 f1 c1)) (h : GV tb σ H (RW C s2 f2 c2)) (w1 : wfB s1 f1 c1 = true) (w2 : wfB s2 f2 c2 = true) : GV (tOp (rBin C (spRsh C)) ta tb) σ H (RW C (nrm (rsS s1 s2) (rsB s2 f2 c2 f1 f2) (rsB s2 f2 c2 c1 c2)) (rsB s2 f2 c2 f1 f2) (rsB s2 f2 c2 c1 c2)) :=
  fun H1 s1' Q q => g H1 s1' _ fun v H2 s2' r => h H2 (s1'.trans s2') _ fun u H3 s3' d => by
    obtain ⟨p, rfl, w⟩ := rw_mono s3' r
    obtain ⟨p2, rfl, w'⟩ := d
    obtain ⟨d1, h1⟩ := id w
    obtain ⟨d2, h2⟩ := id w'
    exact ⟨p, p2, d1, d2, _, _, rfl, rfl, h1, h2, p, p2, _, _, _, _, _, _, rfl, w, w', wfB_of w1, wfB_of w2, fun r H4 s4 z => q _ _ ((s2'.trans s3').trans s4) ⟨r, rfl, z⟩⟩
theorem gv_times {s f c : Option Int} {i : Int} (n : Nat) (g : GV ta σ H (RW C s f c)) (h : GV tb σ H (RD K (.int i))) (e : i = (n : Int)) (w1 : wfB s f c = true) (sm : smB s = true) : GV (tOp (rBinI C (spMul C)) ta tb) σ H (RW C (mul s f c n).1 (mul s f c n).2.1 (mul s f c n).2.2) :=
  fun H1 s1' Q q => g H1 s1' _ fun v H2 s2' r => h H2 (s1'.trans s2') _ fun u H3 s3' d => by
    obtain ⟨p, rfl, w⟩ := rw_mono s3' r
    cases d
    obtain ⟨d1, h1⟩ := id w
    refine ⟨p, _, d1, _, rfl, rfl, h1, p, _, _, _, n, by rw [e], w, wfB_of w1, fun a ha => ?_, fun r H4 s4 z => q _ _ ((s2'.trans s3').trans s4) ⟨r, rfl, z⟩⟩
    subst ha
    unfold smB at sm
    rw [Bool.and_eq_true, decide_eq_true_eq, decide_eq_true_eq] at sm
    exact sm
theorem gv_sel {s f c : Option Int} (sel : Option Int → Option Int → Option Int → Option Int) (g : GV te σ H (RW C s f c)) : GV (tWF C sel te) σ H (RD K (dO (sel s f c))) := fun H1 s1 Q q => g H1 s1 _ fun v H2 s2 r => by
  obtain ⟨p, rfl, w⟩ := r
  refine ⟨p, s, f, c, rfl, w, q _ _ s2 ?_⟩
  cases sel s f c with
  | none => exact .non
  | some i => exact .int i
theorem gv_eqw {s1 f1 c1 s2 f2 c2 : Option Int} (g : GV ta σ H (RW C s1 f1 c1)) (h : GV tb σ H (RW C s2 f2 c2)) : GV (tOp (rBin C (spEqW C)) ta tb) σ H (RD K (.bool (weq s1 f1 c1 s2 f2 c2))) :=
  fun H1 s1' Q q => g H1 s1' _ fun v H2 s2' r => h H2 (s1'.trans s2') _ fun u H3 s3' d => by
    obtain ⟨p, rfl, w⟩ := rw_mono s3' r
    obtain ⟨p2, rfl, w'⟩ := d
    obtain ⟨d1, h1⟩ := id w
    obtain ⟨d2, h2⟩ := id w'
    exact ⟨p, p2, d1, d2, _, _, rfl, rfl, h1, h2, p, p2, _, _, _, _, _, _, rfl, w, w', q _ _ (s2'.trans s3') (.bl _)⟩
def txt (s f c : Option Int) : Str := (((((Str.empty ++ bt s) ++ (" " : Str)) ++ bt f) ++ (" " : Str)) ++ bt c)
theorem gv_text {s f c : Option Int} (g : GV te σ H (RW C s f c)) (l : (lgB s && (lgB f && lgB c)) = true) : GV (tProp C (spText C) [] C8.E0 te) σ H (RD K (.str (txt s f c))) := fun H1 s1 Q q => g H1 s1 _ fun v H2 s2 r => by
  obtain ⟨p, rfl, w⟩ := r
  obtain ⟨d1, h1⟩ := id w
  rw [Bool.and_eq_true, Bool.and_eq_true] at l
  refine ⟨p, d1, _, rfl, h1, p, s, f, c, rfl, w, fun i hi => ?_, q _ _ s2 (.str _)⟩
  rcases hi with rfl | rfl | rfl
  · exact of_decide_eq_true l.1
  · exact of_decide_eq_true l.2.1
  · exact of_decide_eq_true l.2.2
theorem gv_cats {x y : Str} (g : GV ta σ H (RD K (.str x))) (h : GV tb σ H (RD K (.str y))) (l : x.length + y.length ≤ sizeLine) : GV (tOp (fun x y H Q => ∃ i j, x = .str i ∧ y = .str j ∧ i.length + j.length ≤ sizeLine ∧ Q (.str (i ++ j)) H) ta tb) σ H (RD K (.str (x ++ y))) :=
  fun H1 s1' Q q => g H1 s1' _ fun v H2 s2' r => h H2 (s1'.trans s2') _ fun u H3 s3' d => by
    cases r
    cases d
    exact ⟨_, _, rfl, rfl, l, q _ _ (s2'.trans s3') (.str _)⟩
def rMulS : R2 := fun x y H Q => ∃ a i, x = .str a ∧ y = .int i ∧ MulOk a i ∧ Q (.str (Txt.mul a i)) H
theorem op_mulS {X : Cx} : OpR X (binaryOp .Mult) rMulS := by
  intro pins s σ H x y v u Q I rx ry h
  obtain ⟨a, i, rfl, rfl, hk, q⟩ := h
  obtain ⟨t, rfl⟩ := rx
  obtain ⟨t', rfl⟩ := ry
  exact SB.mul hk fun t' tk => ⟨.str _, H, I.tok _, ⟨_, rfl⟩, q⟩
theorem gv_muls {x : Str} {i : Int} (g : GV ta σ H (RD K (.str x))) (h : GV tb σ H (RD K (.int i))) (l : MulOk x i) : GV (tOp rMulS ta tb) σ H (RD K (.str (Txt.mul x i))) :=
  fun H1 s1' Q q => g H1 s1' _ fun v H2 s2' r => h H2 (s1'.trans s2') _ fun u H3 s3' d => by
    cases r
    cases d
    exact ⟨_, _, rfl, rfl, l, q _ _ (s2'.trans s3') (.str _)⟩
end
end BL

namespace BL
open PySem PySem.Spec PyProof.Rows L2
open C8 (Cal Mak pe_c pe_mk)
open RZ (pi_zipA)
def topS (i : Nat) : Stmt := PySem.Challenge.pw_boundedlevels_k31_ways_of_rows.main.body.getD i (.Pass ⟨0, 0, 0, 0⟩)
abbrev sHeld : Stmt := topS 5
abbrev nHeld : List Str := ["level", "floor", "cap"]
theorem scHeld : FnScope nHeld ["level", "floor", "cap"] (defScope sHeld) := ⟨rfl, rfl, rfl, by decide +kernel, rfl, by decide +kernel, by decide +kernel⟩
abbrev sLed : Stmt := topS 6
abbrev nLed : List Str := ["way", "start"]
theorem scLed : FnScope nLed ["way", "start"] (defScope sLed) := ⟨rfl, rfl, rfl, by decide +kernel, rfl, by decide +kernel, by decide +kernel⟩
abbrev sBT : Stmt := topS 7
abbrev nBT : List Str := ["bound"]
theorem scBT : FnScope nBT ["bound"] (defScope sBT) := ⟨rfl, rfl, rfl, by decide +kernel, rfl, by decide +kernel, by decide +kernel⟩
abbrev sInit : Stmt := inClass (topS 8) 0
abbrev nInit : List Str := ["self", "shift", "floor", "cap", "constant"]
theorem scInit : FnScope nInit ["self", "shift", "floor", "cap"] (defScope sInit) := ⟨rfl, rfl, rfl, by decide +kernel, rfl, by decide +kernel, by decide +kernel⟩
abbrev sGs : Stmt := inClass (topS 8) 1
abbrev nGs : List Str := ["self"]
theorem scGs : FnScope nGs ["self"] (defScope sGs) := ⟨rfl, rfl, rfl, by decide +kernel, rfl, by decide +kernel, by decide +kernel⟩
abbrev sGf : Stmt := inClass (topS 8) 2
abbrev nGf : List Str := ["self"]
theorem scGf : FnScope nGf ["self"] (defScope sGf) := ⟨rfl, rfl, rfl, by decide +kernel, rfl, by decide +kernel, by decide +kernel⟩
abbrev sGc : Stmt := inClass (topS 8) 3
abbrev nGc : List Str := ["self"]
theorem scGc : FnScope nGc ["self"] (defScope sGc) := ⟨rfl, rfl, rfl, by decide +kernel, rfl, by decide +kernel, by decide +kernel⟩
abbrev sGt : Stmt := inClass (topS 8) 4
abbrev nGt : List Str := ["self"]
theorem scGt : FnScope nGt ["self"] (defScope sGt) := ⟨rfl, rfl, rfl, by decide +kernel, rfl, by decide +kernel, by decide +kernel⟩
abbrev sCall : Stmt := inClass (topS 8) 5
abbrev nCall : List Str := ["self", "start"]
theorem scCall : FnScope nCall ["self", "start"] (defScope sCall) := ⟨rfl, rfl, rfl, by decide +kernel, rfl, by decide +kernel, by decide +kernel⟩
abbrev sRsh : Stmt := inClass (topS 8) 6
abbrev nRsh : List Str := ["self", "other", "constant", "shift", "floor", "cap"]
theorem scRsh : FnScope nRsh ["self", "other"] (defScope sRsh) := ⟨rfl, rfl, rfl, by decide +kernel, rfl, by decide +kernel, by decide +kernel⟩
abbrev sMul : Stmt := inClass (topS 8) 7
abbrev nMul : List Str := ["self", "times", "more", "floor", "cap"]
theorem scMul : FnScope nMul ["self", "times"] (defScope sMul) := ⟨rfl, rfl, rfl, by decide +kernel, rfl, by decide +kernel, by decide +kernel⟩
abbrev sEq : Stmt := inClass (topS 8) 8
abbrev nEq : List Str := ["self", "other"]
theorem scEq : FnScope nEq ["self", "other"] (defScope sEq) := ⟨rfl, rfl, rfl, by decide +kernel, rfl, by decide +kernel, by decide +kernel⟩
abbrev sEW : Stmt := topS 9
abbrev nEW : List Str := ["event", "word", "number"]
theorem scEW : FnScope nEW ["event"] (defScope sEW) := ⟨rfl, rfl, rfl, by decide +kernel, rfl, by decide +kernel, by decide +kernel⟩
abbrev sWO : Stmt := topS 10
abbrev nWO : List Str := ["row", "way", "event"]
theorem scWO : FnScope nWO ["row"] (defScope sWO) := ⟨rfl, rfl, rfl, by decide +kernel, rfl, by decide +kernel, by decide +kernel⟩
abbrev sBox : Stmt := topS 12
abbrev nBox : List Str := ["_law_script", "_law_k", "_law_cell"]
theorem scBox : FnScope nBox ["_law_script", "_law_k"] (defScope sBox) := ⟨rfl, rfl, rfl, by decide +kernel, rfl, by decide +kernel, by decide +kernel⟩
abbrev sTake : Stmt := topS 13
abbrev nTake : List Str := ["_law_box_here", "_law_size_so", "_law_some", "_law_once", "_law_far", "_law_again"]
theorem scTake : FnScope nTake ["_law_box_here", "_law_size_so"] (defScope sTake) := ⟨rfl, rfl, rfl, by decide +kernel, rfl, by decide +kernel, by decide +kernel⟩
abbrev sCells : Stmt := topS 14
abbrev nCells : List Str := ["_law_script", "_law_top_so", "_law_cells_so", "_law_k", "_law_cell", "_law_at_so"]
theorem scCells : FnScope nCells ["_law_script", "_law_top_so"] (defScope sCells) := ⟨rfl, rfl, rfl, by decide +kernel, rfl, by decide +kernel, by decide +kernel⟩
abbrev sOf : Stmt := topS 15
abbrev nOf : List Str := ["_law_box_here", "_law_goods_so"]
theorem scOf : FnScope nOf ["_law_box_here", "_law_goods_so"] (defScope sOf) := ⟨rfl, rfl, rfl, by decide +kernel, rfl, by decide +kernel, by decide +kernel⟩
abbrev sSame : Stmt := topS 16
abbrev nSame : List Str := ["_law_got", "_law_due", "_law_mine", "_law_its"]
theorem scSame : FnScope nSame ["_law_got", "_law_due"] (defScope sSame) := ⟨rfl, rfl, rfl, by decide +kernel, rfl, by decide +kernel, by decide +kernel⟩
abbrev sLists : Stmt := topS 17
abbrev nLists : List Str := ["_law_matter", "_law_bit"]
theorem scLists : FnScope nLists ["_law_matter"] (defScope sLists) := ⟨rfl, rfl, rfl, by decide +kernel, rfl, by decide +kernel, by decide +kernel⟩
abbrev sNumber : Stmt := topS 18
abbrev nNumber : List Str := ["_law_box_here", "_law_near"]
theorem scNumber : FnScope nNumber ["_law_box_here"] (defScope sNumber) := ⟨rfl, rfl, rfl, by decide +kernel, rfl, by decide +kernel, by decide +kernel⟩
abbrev sEvent : Stmt := topS 19
abbrev nEvent : List Str := ["_law_box_here"]
theorem scEvent : FnScope nEvent ["_law_box_here"] (defScope sEvent) := ⟨rfl, rfl, rfl, by decide +kernel, rfl, by decide +kernel, by decide +kernel⟩
abbrev sEvents : Stmt := topS 20
abbrev nEvents : List Str := ["_law_box_here", "_law_most_so", "_law_turn"]
theorem scEvents : FnScope nEvents ["_law_box_here", "_law_most_so"] (defScope sEvents) := ⟨rfl, rfl, rfl, by decide +kernel, rfl, by decide +kernel, by decide +kernel⟩
abbrev sSmall : Stmt := topS 21
abbrev nSmall : List Str := ["_law_box_here", "_law_most_so", "_law_found", "_law_turn"]
theorem scSmall : FnScope nSmall ["_law_box_here", "_law_most_so"] (defScope sSmall) := ⟨rfl, rfl, rfl, by decide +kernel, rfl, by decide +kernel, by decide +kernel⟩
abbrev sOn : Stmt := topS 22
abbrev nOn : List Str := ["_law_level_so", "_law_entry"]
theorem scOn : FnScope nOn ["_law_level_so", "_law_entry"] (defScope sOn) := ⟨rfl, rfl, rfl, by decide +kernel, rfl, by decide +kernel, by decide +kernel⟩
abbrev sTrace : Stmt := topS 23
abbrev nTrace : List Str := ["_law_row_so", "_law_begin", "_law_found", "_law_entry"]
theorem scTrace : FnScope nTrace ["_law_row_so", "_law_begin"] (defScope sTrace) := ⟨rfl, rfl, rfl, by decide +kernel, rfl, by decide +kernel, by decide +kernel⟩
abbrev sLast : Stmt := topS 24
abbrev nLast : List Str := ["_law_row_so", "_law_begin"]
theorem scLast : FnScope nLast ["_law_row_so", "_law_begin"] (defScope sLast) := ⟨rfl, rfl, rfl, by decide +kernel, rfl, by decide +kernel, by decide +kernel⟩
abbrev sTold : Stmt := topS 25
abbrev nTold : List Str := ["_law_row_so", "_law_some", "_law_way", "_law_far_so", "_law_low_so", "_law_top_so", "_law_due", "_law_entry", "_law_begin"]
theorem sctold_right : FnScope nTold ["_law_row_so", "_law_some"] (defScope sTold) := ⟨rfl, rfl, rfl, by decide +kernel, rfl, by decide +kernel, by decide +kernel⟩
abbrev sHand : Stmt := topS 26
abbrev nHand : List Str := ["_law_row_so", "_law_some", "_law_due", "_law_got", "_law_own"]
theorem scHand : FnScope nHand [] (defScope sHand) := ⟨rfl, rfl, rfl, by decide +kernel, rfl, by decide +kernel, by decide +kernel⟩
abbrev sRight : Stmt := topS 27
abbrev nRight : List Str := ["_law_box_here", "_law_turn", "_law_great", "_law_some", "_law_own"]
theorem scright : FnScope nRight ["_law_box_here"] (defScope sRight) := ⟨rfl, rfl, rfl, by decide +kernel, rfl, by decide +kernel, by decide +kernel⟩
abbrev sLaw : Stmt := topS 28
abbrev nLaw : List Str := ["_law_script", "_law_cells_so", "_law_k", "_law_box_here", "_law_turn"]
theorem scLaw : FnScope nLaw ["_law_script"] (defScope sLaw) := ⟨rfl, rfl, rfl, by decide +kernel, rfl, by decide +kernel, by decide +kernel⟩

def rNot' : V → V → Hp → VK → Prop := fun x y H Q => y = .non ∧ Q (.bl (!decide (x = .non))) H
def rIs' : V → V → Hp → VK → Prop := fun x y H Q => y = .non ∧ Q (.bl (decide (x = .non))) H
def rGt2 : V → V → Hp → VK → Prop := rI0 fun i j => .bl (decide (j < i))
def rLt' : V → V → Hp → VK → Prop := rI0 fun i j => .bl (decide (i < j))
def rSub' : V → V → Hp → VK → Prop := rI0 fun i j => .int (i - j)
structure WT (K : PySem.W.Frag) (C : Addr) : Prop where
  cl : Cls K C
  nS : NoAttr K C "_shift"
  nF : NoAttr K C "_floor"
  nC : NoAttr K C "_cap"
theorem putlen (s f : V) : (putF "_floor" f (putF "_shift" s [])).length < 1000 := by
  show (if ("_shift" : Str) = "_floor" then _ else (("_shift" : Str), s) :: putF "_floor" f []).length < 1000
  rw [if_neg k3]
  show 2 < 1000
  decide
structure Good (ns : List Int) (H : Hp) (l : Addr) (cs0 : List Int) (H2 : Hp) : Prop where
  s : Same H H2
  n : H l = none
  e : H2 l = some (.lst (cs0.map V.int))
  h3 : cs0.length ≤ 3
  h4 : 3 < ns.length → cs0.length = 3
theorem nrm_none {s : Int} {f c : Option Int} (h : nrm (some s) f c = none) : ∃ a, f = some a ∧ c = some a := by
  unfold nrm at h
  cases f with
  | none => cases h
  | some a =>
    cases c with
    | none => cases h
    | some d =>
      by_cases e : a = d
      · exact ⟨a, rfl, by rw [e]⟩
      · simp only [if_neg e] at h
        cases h
theorem okW_of {s : Int} {f c : Option Int} (h : leO f c) : okW (some s) f c := by
  unfold okW
  cases f with
  | none => exact fun z => by cases z
  | some a =>
    cases c with
    | none => exact fun z => by cases z
    | some d => exact ⟨h a d rfl rfl, fun z => by cases z⟩
theorem mem_at {xs : List V} {i : Nat} {v : V} {R : V → Prop} (h : ∀ x ∈ xs, R x) (e : xs[i]? = some v) : R v := h v (List.mem_of_getElem? e)
theorem But.none {b : Addr} {H H' : Hp} {p : Addr} (x : But b H H') (n : H' p = none) (q : p ≠ b) : H p = none := by
  cases e : H p with
  | none => rfl
  | some o =>
    rw [x p o q e] at n
    cases n
theorem Box.nb {H : Hp} {b p : Addr} {n : Nat} (h : Box H b n) (e : H p = none) : p ≠ b := by
  obtain ⟨x, y, z, f, _⟩ := h
  intro q
  rw [q, f] at e
  cases e
theorem bt_len (o : Option Int) (h : ∀ i, o = some i → i.natAbs.log2 < 1920) : (bt o).length ≤ 1921 := by
  cases o with
  | none => exact (by decide +kernel : (("-" : Str)).length ≤ 1921)
  | some i => exact PyProof.Rows.int_text_len_1921 (h i rfl)
theorem sl4000 {n : Nat} (h : n ≤ 10000) : n ≤ sizeLine := Nat.le_trans h (by decide)

section
variable {P : Program} {w : World} {K : PySem.W.Frag} {mg : Str → Option Value} {base : Heap} {C : Addr}
theorem ok_box {f : Addr} {fd : FuncData} (F : Fun K "_law_box" "_law_box" sBox f fd) (T : Bt mg) : FnOk P w K mg base CX0 1 f fd ["_law_script", "_law_k"] (spBox K) := by
  refine F.ok scBox (fun vs H Q E h => ?_) (fun cdv A outer s H vs Q E hr h => ?_)
  · obtain ⟨a, cs, k, rfl, _⟩ := h
    rfl
  · obtain ⟨a, cs, k, rfl, hS, hk, h3, q⟩ := h
    refine ⟨_, (pss_cons (ps_set (i := 2) scBox.nd rfl (.inl rfl) (pe_ifExp (pt_cmpR op_lt (pv 1) (pe_callB call_len_seq (by rfl) T.len PySem.boot_len (pa_cons (pv 0) pa_nil)) (nomark _)) (pe_ix ix_list (pv 0) (pv 1) (fun _ _ => rfl)) pe_int))
  (pss_one (ps_ret (pe_lst (pa_cons (pe_op op_mul (pe_callB call_abs (by rfl) T.abs (by decide +kernel) (pa_cons (pv 2) pa_nil)) (pe_callTy call_int1 (by rfl) T.int (by decide +kernel) (pa_cons (pe_cmpR op_ge (pe_callB call_abs (by rfl) T.abs (by decide +kernel) (pa_cons (pv 2) pa_nil)) (pe_op op_pow pe_int pe_int) (nomark _)) pa_nil))) (pa_cons (pe_op op_add (pe_op op_add (pe_op op_mod (pe_callTy call_int1 (by rfl) T.int (by decide +kernel) (pa_cons (pv 2) pa_nil)) pe_int) (pe_op op_mul pe_int (pv 1))) pe_int) (pa_cons pe_int pa_nil))))))), ?_⟩
    have hx : (cs.map V.int)[k]? = some (.int cs[k]) := by
      rw [List.getElem?_map, List.getElem?_eq_getElem hk]
      rfl
    refine ⟨_, rfl, _, rfl, a, _, rfl, .inl hS, _, _, rfl, rfl, _, rfl, ?_⟩
    refine ite2 (fun _ => ?_) (fun e => ?_)
    · refine ⟨_, rfl, _, rfl, a, _, _, _, rfl, rfl, hS, atI_nat hx, ?_⟩
      refine ⟨_, rfl, _, rfl, _, rfl, _, rfl, _, _, rfl, rfl, ⟨by decide, by decide, by decide⟩, _, _, rfl, rfl, .inr ⟨_, rfl, ?_⟩⟩
      refine ⟨_, _, rfl, rfl, .inr ?_, ?_⟩
      · by_cases c : decide ((10:Int) ^ (18:Int).toNat ≤ if cs[k] < 0 then -cs[k] else cs[k]) = true
        · rw [if_pos c]; decide
        · rw [if_neg c]; decide
      · refine ⟨_, rfl, .inl ⟨_, rfl, _, _, rfl, rfl, (by show (0:Int) < _; decide), _, rfl, _, _, rfl, rfl, .inl ⟨by decide, by decide⟩, _, _, rfl, rfl, _, _, rfl, rfl, (by show 3 ≤ sizeLine; decide), fun p np => ?_⟩⟩
        exact q p _ (same_upd np) np ⟨_, _, _, upd_same, by decide, by decide⟩
    · exfalso
      apply e
      apply decide_eq_true
      rw [List.length_map]
      omega
theorem ok_take {f : Addr} {fd : FuncData} (F : Fun K "_law_take" "_law_take" sTake f fd) (T : Bt mg) : FnOk P w K mg base CX0 1 f fd ["_law_box_here", "_law_size_so"] spTake := by
  refine F.ok scTake (fun vs H Q E h => ?_) (fun cdv A outer s H vs Q E hr h => ?_)
  · obtain ⟨b, m, n, rfl, _⟩ := h
    rfl
  · obtain ⟨b, m, n, rfl, m0, m1, ⟨x, y, z, hB, z0, z1⟩, hn, q⟩ := h
    refine ⟨_, (pss_cons (ps_if (pt_cmpR op_gt (pe_ix ix_list (pv 0) pe_int (fun _ _ => rfl)) pe_int (nomark _)) (pss_cons (ps_set (i := 2) scTake.nd rfl (.inl rfl) (pe_op op_mod (pe_callTy call_int1 (by rfl) T.int (by decide +kernel) (pa_cons (pe_ix ix_list (pv 0) pe_int (fun _ _ => rfl)) pa_nil)) (pv 1)))
  (pss_cons (ps_asg (pe_op op_fdiv (pe_ix ix_list (pv 0) pe_int (fun _ _ => rfl)) (pv 1)) (pg_sub (pv 0) pe_int set_list))
  (pss_one (ps_ret (pv 2))))) pss_nil)
  (pss_cons (ps_asg (pe_op op_add (pe_ix ix_list (pv 0) pe_int (fun _ _ => rfl)) pe_int) (pg_sub (pv 0) pe_int set_list))
  (pss_cons (ps_set (i := 3) scTake.nd rfl (.inl rfl) (pe_op op_mod (pe_callTy call_int1 (by rfl) T.int (by decide +kernel) (pa_cons (pe_op op_mul (pe_op op_add (pe_ix ix_list (pv 0) pe_int (fun _ _ => rfl)) (pe_op op_mul pe_int (pe_ix ix_list (pv 0) pe_int (fun _ _ => rfl)))) (pe_op op_add pe_int (pe_ix ix_list (pv 0) pe_int (fun _ _ => rfl)))) pa_nil)) pe_int))
  (pss_cons (ps_set (i := 4) scTake.nd rfl (.inl rfl) (pe_op op_add (pe_op op_mod (pe_callTy call_int1 (by rfl) T.int (by decide +kernel) (pa_cons (pv 3) pa_nil)) pe_int) pe_int))
  (pss_cons (ps_set (i := 5) scTake.nd rfl (.inl rfl) (pe_op op_mod (pe_callTy call_int1 (by rfl) T.int (by decide +kernel) (pa_cons (pe_op op_mul (pe_op op_add (pe_op op_add (pv 3) (pe_ix ix_list (pv 0) pe_int (fun _ _ => rfl))) (pe_op op_fdiv (pe_ix ix_list (pv 0) pe_int (fun _ _ => rfl)) pe_int)) (pv 4)) pa_nil)) pe_int))
  (pss_one (ps_ret (pe_op op_mod (pe_callTy call_int1 (by rfl) T.int (by decide +kernel) (pa_cons (pe_op op_fdiv (pe_op op_mod (pe_callTy call_int1 (by rfl) T.int (by decide +kernel) (pa_cons (pe_op op_add (pe_op op_mul (pv 5) pe_int) (pv 3)) pa_nil)) pe_int) pe_int) pa_nil)) (pv 1))))))))), ?_⟩
    have s0 := SqL.of (K := K) hB
    refine ⟨_, rfl, b, _, 0, _, rfl, rfl, s0, atI_nat (j := 0) rfl, _, _, rfl, rfl, _, rfl, ?_⟩
    refine ite2 (fun _ => ?_) (fun _ => ?_)
    · refine ⟨_, rfl, b, _, 0, _, rfl, rfl, s0, atI_nat (j := 0) rfl, .inl ⟨_, rfl, _, rfl, _, _, rfl, rfl, m0, ?_⟩⟩
      refine ⟨_, rfl, b, _, 0, _, rfl, rfl, s0, atI_nat (j := 0) rfl, _, rfl, _, _, rfl, rfl, ⟨m0, m1⟩, _, rfl, b, _, 0, 0, rfl, rfl, hB, rfl, ?_⟩
      refine ⟨_, rfl, ?_⟩
      exact q _ _ (emod_le m0).1 (emod_le m0).2 but_upd ⟨_, _, _, upd_same, z0, by omega⟩
    · refine ⟨_, rfl, b, _, 2, _, rfl, rfl, s0, atI_nat (j := 2) rfl, _, _, rfl, rfl, _, rfl, b, _, 2, 2, rfl, rfl, hB, rfl, ?_⟩
      have hB' : (upd H b (.lst [.int x, .int y, .int (z + 1)])) b = some (.lst [.int x, .int y, .int (z + 1)]) := upd_same
      have s1 := SqL.of (K := K) hB'
      refine ⟨_, rfl, b, _, 1, _, rfl, rfl, s1, atI_nat (j := 1) rfl, _, rfl, b, _, 2, _, rfl, rfl, s1, atI_nat (j := 2) rfl, _, _, rfl, rfl, .inl ⟨by decide, by decide⟩, _, _, rfl, rfl, ?_⟩
      refine ⟨_, rfl, b, _, 2, _, rfl, rfl, s1, atI_nat (j := 2) rfl, _, _, rfl, rfl, _, _, rfl, rfl, .inr ⟨by omega, by omega⟩, .inl ⟨_, rfl, _, _, rfl, rfl, (by show (0:Int) < _; decide), ?_⟩⟩
      refine ⟨_, rfl, .inl ⟨_, rfl, _, _, rfl, rfl, (by show (0:Int) < _; decide), _, _, rfl, rfl, ?_⟩⟩
      refine ⟨_, rfl, _, rfl, b, _, 2, _, rfl, rfl, s1, atI_nat (j := 2) rfl, _, _, rfl, rfl, _, rfl, b, _, 1, _, rfl, rfl, s1, atI_nat (j := 1) rfl, _, _, rfl, rfl, ⟨by decide, by decide⟩, _, _, rfl, rfl, _, rfl, _, _, rfl, rfl, .inr ?_, .inl ⟨_, rfl, _, _, rfl, rfl, (by show (0:Int) < _; decide), ?_⟩⟩
      · constructor
        · have := (emod_le (a := ((y + 48271 * (z + 1)) * (39373 + (z + 1))) % 2147483647) (b := 40009) (by decide)).1
          omega
        · have := (emod_le (a := ((y + 48271 * (z + 1)) * (39373 + (z + 1))) % 2147483647) (b := 40009) (by decide)).2
          omega
      · refine ⟨_, rfl, _, _, rfl, rfl, .inr ⟨by decide, by decide⟩, _, rfl, _, _, rfl, rfl, .inl ⟨_, rfl, _, _, rfl, rfl, (by show (0:Int) < _; decide), _, _, rfl, rfl, ⟨by decide, by decide⟩, .inl ⟨_, rfl, _, rfl, _, _, rfl, rfl, m0, ?_⟩⟩⟩
        exact q _ _ (emod_le m0).1 (emod_le m0).2 but_upd ⟨_, _, _, upd_same, by omega, by omega⟩
theorem ok_of {f : Addr} {fd : FuncData} (F : Fun K "_law_of" "_law_of" sOf f fd) (T : Bt mg) (c__law_take : Cal P w K mg base 1 "_law_take" spTake []) : FnOk P w K mg base CX0 2 f fd ["_law_box_here", "_law_goods_so"] (spOf K) := by
  refine F.ok scOf (fun vs H Q E h => ?_) (fun cdv A outer s H vs Q E hr h => ?_)
  · obtain ⟨b, a, xs, n, rfl, _⟩ := h
    rfl
  · obtain ⟨b, a, xs, n, rfl, ha, nab, x0, x1, hB, hn, q⟩ := h
    refine ⟨_, (pss_one (ps_ret (pe_ix ix_list (pv 1) (pe_c c__law_take hr (by decide) (by rfl) (pa_cons (pv 0) (pa_cons (pe_callB call_len_seq (by rfl) T.len PySem.boot_len (pa_cons (pv 1) pa_nil)) pa_nil))) (fun _ _ => rfl)))), ?_⟩
    have hl : 0 < xs.length := List.length_pos_iff.mpr x0
    refine ⟨_, rfl, _, rfl, _, rfl, a, xs, rfl, .inl (SqL.of ha), b, _, n, rfl, by omega, by omega, hB, hn, fun r H' r0 r1 hb hB' => ?_⟩
    obtain ⟨i, rfl⟩ := Int.eq_ofNat_of_zero_le r0
    have hi : i < xs.length := by omega
    have hx : xs[i]? = some xs[i] := List.getElem?_eq_getElem hi
    exact ⟨a, xs, _, _, rfl, rfl, SqL.of (hb _ _ nab ha), atI_nat hx, q i _ H' hx hb hB'⟩
theorem ok_cells {f : Addr} {fd : FuncData} (F : Fun K "_law_cells" "_law_cells" sCells f fd) (T : Bt mg) : FnOk P w K mg base CX0 1 f fd ["_law_script", "_law_top_so"] (spCells K) := by
  refine F.ok scCells (fun vs H Q E h => ?_) (fun cdv A outer s H vs Q E hr h => ?_)
  · obtain ⟨a, ns, rfl, _⟩ := h
    rfl
  · obtain ⟨a, ns, rfl, hS, hl, q⟩ := h
    refine ⟨_, (pss_cons (ps_set (i := 2) scCells.nd rfl (.inl rfl) (pe_orT (pe_callTy call_list_of (by rfl) T.list (by decide +kernel) (pa_cons (pe_slice sl_list (pv 0) po_none (po_some (pv 1))) pa_nil)) (pe_one (pe_lst (pa_cons pe_int pa_nil)))))
  (pss_cons (ps_for PassesOwn.never rfl (pi_enum (by rfl) T.enumerate (pa_cons (pe_slice sl_list (pv 0) (po_some (pv 1)) (po_some pe_int)) pa_nil)) (pg_tup rfl (pgs_cons (pg_name (i := 3) scCells.nd rfl (.inl rfl)) (pgs_cons (pg_name (i := 4) scCells.nd rfl (.inl rfl)) pgs_nil))) (pss_cons (ps_set (i := 5) scCells.nd rfl (.inl rfl) (pe_op op_mod (pe_callTy call_int1 (by rfl) T.int (by decide +kernel) (pa_cons (pv 3) pa_nil)) (pv 1)))
  (pss_one (ps_asg (pe_op op_add (pe_ix ix_list (pv 2) (pv 5) (fun _ _ => rfl)) (pe_op op_mul (pv 4) (pe_op op_add (pv 3) pe_int))) (pg_sub (pv 2) (pv 5) set_list)))))
  (pss_one (ps_ret (pv 2))))), ?_⟩
    refine ⟨_, rfl, _, rfl, _, rfl, a, _, rfl, hS, fun c1 nc1 => ?_⟩
    have e1 : (upd H c1 (.lst (cutV (ns.map V.int) none (some 3)))) c1 = some (.lst (cutV (ns.map V.int) none (some 3))) := upd_same
    refine ⟨c1, _, rfl, .inl (SqL.of e1), fun l nl => ?_⟩
    have n1 : H l = none := (same_upd nc1).free nl
    have s1 : Same H (upd (upd H c1 (.lst (cutV (ns.map V.int) none (some 3)))) l (.lst (cutV (ns.map V.int) none (some 3)))) := (same_upd nc1).trans (same_upd nl)
    have ecut : cutV (ns.map V.int) none (some 3) = (ns.take 3).map V.int := by
      unfold cutV
      rw [HT.sIx_none, List.drop_zero, show HT.sIx (ns.map V.int).length (ns.map V.int).length (some 3) = min 3 (ns.map V.int).length from HT.sIx_nat _ _ 3, List.length_map, Nat.sub_zero, List.map_take]
      by_cases c : 3 ≤ ns.length
      · rw [Nat.min_eq_left c]
      · rw [Nat.min_eq_right (by omega), List.take_of_length_le (by rw [List.length_map]; omega), List.take_of_length_le (by rw [List.length_map]; omega)]
    have ecut2 : cutV (ns.map V.int) (some 3) (some 63) = (ns.drop 3).map V.int := by
      unfold cutV
      rw [show HT.sIx (ns.map V.int).length 0 (some 3) = min 3 (ns.map V.int).length from HT.sIx_nat _ _ 3, show HT.sIx (ns.map V.int).length (ns.map V.int).length (some 63) = min 63 (ns.map V.int).length from HT.sIx_nat _ _ 63, List.length_map, List.map_drop]
      by_cases c : 3 ≤ ns.length
      · rw [Nat.min_eq_left c, List.take_of_length_le (by rw [List.length_drop, List.length_map]; omega)]
      · rw [Nat.min_eq_right (show ns.length ≤ 3 by omega), List.drop_of_length_le (by rw [List.length_map]; omega), List.drop_of_length_le (by rw [List.length_map]; omega), List.take_nil]
    refine ⟨!(cutV (ns.map V.int) none (some 3)).isEmpty, .inl ⟨_, SqL.of upd_same, rfl⟩, ?_⟩
    have key : ∀ (l : Addr) (H2 : Hp) (cs0 : List Int), Same H H2 → H l = none → H2 l = some (.lst (cs0.map V.int)) → cs0.length ≤ 3 → (3 < ns.length → cs0.length = 3) → Good ns H l cs0 H2 := fun _ _ _ h1 h2 h3 h4 h5 => ⟨h1, h2, h3, h4, h5⟩
    refine ite2 (fun c => ?yes) (fun c => ?no)
    case' yes => obtain ⟨cs0, g⟩ : ∃ cs0, Good ns H l cs0 _ := ⟨_, key l _ (ns.take 3) s1 n1 (by rw [← ecut]; exact upd_same) (by rw [List.length_take]; omega) (by rw [List.length_take]; omega)⟩
    case' no =>
      have e3 : ns = [] := by
        cases ns with
        | nil => rfl
        | cons x r => exact absurd (by rw [ecut]; rfl) c
      refine ⟨(by show 1 ≤ sizeLine; decide), fun l nl2 => ?_⟩
      obtain ⟨cs0, g⟩ : ∃ cs0, Good ns H l cs0 _ := ⟨_, key l _ [0] (s1.trans (same_upd nl2)) (s1.free nl2) upd_same (by decide) (fun h => by rw [e3] at h; cases h)⟩
    all_goals
      clear key
      obtain ⟨s2, nl0, hl2, h3, h4⟩ := g
      refine ⟨_, rfl, _, rfl, _, rfl, _, rfl, a, _, rfl, s2.seq hS, fun d nd => ?_⟩
      rw [ecut2]
      refine ⟨d, _, rfl, SqL.of upd_same, for_it walk_enum (fun i σ H3 => ∃ (cs : List Int) (v3 v4 v5 : Option V), σ = [some (.ref a), some (.int 3), some (.ref l), v3, v4, v5] ∧ Same H H3 ∧ H3 l = some (.lst (cs.map V.int)) ∧ cs.length = cs0.length ∧ H3 d = some (.lst ((ns.drop 3).map V.int)))
        ⟨cs0, none, none, none, rfl, s2.trans (same_upd nd), by rw [upd_ne (ne_of_none hl2 nd)]; exact hl2, rfl, upd_same⟩ (fun i σ H3 _ ⟨_, _, _, _, _, _, _, _, e⟩ => SqL.of e) ?turn ?done⟩
      case turn =>
        rintro i y σ H3 H4 hi ⟨cs, v3, v4, v5, rfl, s3, e3, l3, ed⟩ ⟨T', x1, x2, rfl, nT, rfl, f1, f2⟩
        have ex1 : V.int ((i : Nat) : Int) = x1 := Option.some.inj f1
        subst ex1
        have hi' : i < (ns.drop 3).length := by rw [List.length_map] at hi; exact hi
        have hd3 : (ns.drop 3).length = ns.length - 3 := List.length_drop
        have hlen : 3 < ns.length := by omega
        have ex2 : x2 = .int (ns.drop 3)[i] := by
          change (List.map V.int (List.drop 3 ns))[i]? = some x2 at f2
          rw [List.getElem?_map, List.getElem?_eq_getElem hi'] at f2
          exact (Option.some.inj f2).symm
        subst ex2
        have nTl : l ≠ T' := ne_of_none e3 nT
        have nTd : d ≠ T' := ne_of_none ed nT
        have e4 : (upd H3 T' (.tup [.int i, .int (ns.drop 3)[i]])) l = some (.lst (cs.map V.int)) := by rw [upd_ne nTl]; exact e3
        have hcs : cs.length = 3 := by rw [l3]; exact h4 hlen
        have hm := emod_le (a := (i : Int)) (b := 3) (by decide)
        obtain ⟨j, hj⟩ := Int.eq_ofNat_of_zero_le hm.1
        have hj3 : j < 3 := by omega
        have gj : (cs.map V.int)[j]? = some (.int (cs[j]'(by omega))) := by
          rw [List.getElem?_map, List.getElem?_eq_getElem (by omega)]
          rfl
        refine ⟨T', _, rfl, SqT.of upd_same, rfl, _, _, rfl, _, _, rfl, rfl, ?_⟩
        refine ⟨_, rfl, .inl ⟨_, rfl, _, rfl, _, _, rfl, rfl, (by show (0 : Int) < 3; decide), ?_⟩⟩
        refine ⟨_, rfl, _, rfl, l, _, _, _, rfl, rfl, SqL.of e4, by rw [hj]; exact atI_nat gj, _, rfl, _, rfl, _, _, rfl, rfl, _, _, rfl, rfl, .inr ⟨by omega, by omega⟩, _, _, rfl, rfl, _, rfl, _, rfl, l, _, _, j, rfl, rfl, e4, ?_, ?_⟩
        · rw [hj]
          unfold ixN
          rw [if_pos (by omega), if_pos (by rw [List.length_map]; omega)]
          rfl
        · refine ⟨cs.set j (cs[j]'(by omega) + (ns.drop 3)[i] * ((i : Int) + 2)), _, _, _, rfl, ?_, ?_, ?_, ?_⟩
          · intro p o e
            rw [upd_ne (ne_of_none e nl0), upd_ne (ne_of_none (s3 _ _ e) nT)]
            exact s3 _ _ e
          · rw [upd_same, List.map_set]
          · rw [List.length_set]; exact l3
          · rw [upd_ne ?_, upd_ne nTd]
            · exact ed
            · exact (ne_of_none hl2 nd).symm
      case done =>
        rintro σ H3 ⟨cs, v3, v4, v5, rfl, s3, e3, l3, ed⟩
        exact ⟨_, rfl, q l cs H3 s3 nl0 e3 (by omega)⟩
theorem ok_init {f : Addr} {fd : FuncData} (F : FunD K "__init__" "Way.__init__" (defArgs sInit) (defBody sInit) (defScope sInit) [.non, .non] [] f fd) (W : WT K C) : FnOk P w K mg base CX0 1 f fd ["self", "shift", "floor", "cap"] (spInitW C) := by
  refine okD F scInit (fun vs H Q E h => ?_) (fun cdv A outer s H vs Q E hr h => ?_)
  · obtain ⟨p, dx, s, f, c, rfl, _⟩ := h
    rfl
  · obtain ⟨p, dx, s, f, c, rfl, hp, ok, q⟩ := h
    refine ⟨_, (pss_cons (ps_if ((pw_and (pt_cmpR op_notN (pv 2) pe_non (nomark _)) (pw_and (pt_cmpR op_notN (pv 3) pe_non (nomark _)) (pw_and1 (pt_cmpR op_gt (pv 2) (pv 3) (nomark _)))))).pt (pss_one (ps_dead)) pss_nil)
  (pss_cons (ps_set (i := 4) scInit.nd rfl (.inl rfl) (pe_and (pe_cmpR op_notN (pv 2) pe_non (nomark _)) (pe_one (pe_cmpR op_eq (pv 2) (pv 3) (nomark _)))))
  (pss_cons (ps_if ((pw_and (pt_cmpR op_isN (pv 1) pe_non (nomark _)) (pw_and1 (pt_not (pt_val (pv 4))))).pt) (pss_one (ps_dead)) pss_nil)
  (pss_cons (ps_fld (pv 0) (pe_ifExp (pt_val (pv 4)) pe_non (pv 1)) rfl)
  (pss_cons (ps_fld (pv 0) (pv 2) rfl)
  (pss_one (ps_fld (pv 0) (pv 3) rfl))))))), ?_⟩
    have fin : ∀ b : Bool, (b = true → nrm s f c = none) → (b = false → nrm s f c = s) → (tSeq (sFld K (tVar 0) (tIf (tB (tVar 4)) (tC .non) (tVar 1)) "_shift") (tSeq (sFld K (tVar 0) (tVar 2) "_floor") (sFld K (tVar 0) (tVar 3) "_cap"))) { nx := fun _ H' => Q .non H', rt := Q } [some (.ref p), some (oV s), some (oV f), some (oV c), some (.bl b)] H := by
      intro b h1 h0
      have fin2 : ∀ y, y = oV (nrm s f c) → tSeq (sFld K (tVar 0) (tVar 2) "_floor") (sFld K (tVar 0) (tVar 3) "_cap") { nx := fun _ H' => Q .non H', rt := Q } [some (.ref p), some (oV s), some (oV f), some (oV c), some (.bl b)] (upd H p (.ins C dx (putF "_shift" y []))) := by
        intro y hy
        refine ⟨_, rfl, _, rfl, p, C, dx, _, rfl, upd_same, W.cl, W.nF, (by show 1 < 1000; decide), _, rfl, _, rfl, p, C, dx, _, rfl, upd_same, W.cl, W.nC, putlen _ _, ?_⟩
        subst hy
        refine q _ ⟨dx, upd_same⟩ fun d o e n => ?_
        rw [upd_ne n, upd_ne n, upd_ne n]
        exact e
      refine ⟨_, rfl, b, rfl, ?_⟩
      cases b with
      | true =>
        refine iteT ⟨_, rfl, p, C, dx, [], rfl, hp, W.cl, W.nS, (by show 0 < 1000; decide), fin2 _ ?_⟩
        rw [h1 rfl]
        rfl
      | false =>
        refine iteF ⟨_, rfl, _, rfl, p, C, dx, [], rfl, hp, W.cl, W.nS, (by show 0 < 1000; decide), fin2 _ ?_⟩
        rw [h0 rfl]
    have dead : ∀ (H : Hp) (D : Ends) (σ : L2.St) (c : Bool) (t : TS), c = false → t D σ H → if c = true then (fun (_ : Ends) (_ : L2.St) (_ : Hp) => False) D σ H else t D σ H := by
      intro H D σ c t hc h
      rw [hc]
      exact iteF h
    cases s with
    | none =>
      cases f with
      | none => exact absurd rfl ok
      | some a =>
        cases c with
        | none => exact absurd rfl ok
        | some b =>
          obtain ⟨_, ok⟩ := ok
          have e := ok rfl
          subst e
          refine ⟨_, rfl, rfl, _, rfl, iteN1 (iN _) ⟨_, rfl, rfl, _, rfl, iteN1 (iN _) ⟨_, rfl, _, rfl, _, _, rfl, rfl, _, rfl, iteD0 (by omega) ?_⟩⟩⟩
          refine ⟨_, rfl, rfl, _, rfl, iteN1 (iN _) ⟨_, rfl, _, rfl, rfl, ?_⟩⟩
          rw [decide_eq_true rfl]
          refine ⟨_, rfl, rfl, _, rfl, iteD1 rfl ⟨_, rfl, true, rfl, iteF ?_⟩⟩
          refine fin true (fun _ => ?_) (fun h => by cases h)
          unfold nrm
          simp only [if_true]
    | some s =>
      cases f with
      | none =>
        refine ⟨_, rfl, rfl, _, rfl, iteN0 rfl (iteF ?_)⟩
        refine ⟨_, rfl, rfl, _, rfl, iteN0 rfl ?_⟩
        refine ⟨_, rfl, rfl, _, rfl, iteD0 (iN _) (iteF ?_)⟩
        exact fin false (fun h => by cases h) (fun _ => rfl)
      | some a =>
        cases c with
        | none =>
          refine ⟨_, rfl, rfl, _, rfl, iteN1 (iN _) ⟨_, rfl, rfl, _, rfl, iteN0 rfl (iteF ?_)⟩⟩
          refine ⟨_, rfl, rfl, _, rfl, iteN1 (iN _) ⟨_, rfl, _, rfl, rfl, ?_⟩⟩
          refine ⟨_, rfl, rfl, _, rfl, iteD0 (iN _) (iteF ?_)⟩
          exact fin _ (fun h => absurd (of_decide_eq_true h) (iN a)) (fun _ => rfl)
        | some b =>
          obtain ⟨ok, _⟩ := ok
          refine ⟨_, rfl, rfl, _, rfl, iteN1 (iN _) ⟨_, rfl, rfl, _, rfl, iteN1 (iN _) ⟨_, rfl, _, rfl, _, _, rfl, rfl, _, rfl, iteD0 (by omega) ?_⟩⟩⟩
          refine ⟨_, rfl, rfl, _, rfl, iteN1 (iN _) ⟨_, rfl, _, rfl, rfl, ?_⟩⟩
          refine ⟨_, rfl, rfl, _, rfl, iteD0 (iN _) (iteF ?_)⟩
          refine fin _ (fun h => ?_) (fun h => ?_)
          · have e : a = b := V.int.inj (of_decide_eq_true h)
            unfold nrm
            simp only [e, if_true]
          · have e : ¬ a = b := fun z => of_decide_eq_false h (congrArg V.int z)
            unfold nrm
            simp only [e, if_false]
theorem same0 {f : Addr} {fd : FuncData} : FnOk P w K mg base CX0 0 f fd ["_law_got", "_law_due"] (spSame K 0) := ⟨fun _ _ _ _ h => h.elim, fun _ _ _ _ _ _ _ _ _ _ _ _ _ h => h.elim⟩
theorem same1 {f : Addr} {fd : FuncData} {n : Nat} (F : Fun K "_law_same" "_law_same" sSame f fd) (T : Bt mg) (c__law_same : Cal P w K mg base n "_law_same" (spSame K n) []) : FnOk P w K mg base CX0 (n + 1) f fd ["_law_got", "_law_due"] (spSame K (n + 1)) := by
  refine F.ok scSame (fun vs H Q E h => ?_) (fun cdv A outer s H vs Q E hr h => ?_)
  · obtain ⟨x, y, rfl, _⟩ := h
    rfl
  · obtain ⟨x, y, rfl, hE, q⟩ := h
    refine ⟨_, (pss_cons (ps_if (pt_val (pe_callB call_isiT (by rfl) T.isinstance (by decide +kernel) (pa_cons (pv 1) (pa_cons (pe_tup (pa_cons (pe_bltn (v := .ty "list") (by rfl) T.list (by decide +kernel) rfl) (pa_cons (pe_bltn (v := .ty "tuple") (by rfl) T.tuple (by decide +kernel) rfl) pa_nil))) pa_nil)))) (pss_cons (ps_if (pt_cmpR op_ne (pe_callB call_isi (by rfl) T.isinstance (by decide +kernel) (pa_cons (pv 0) (pa_cons (pe_bltn (v := .ty "list") (by rfl) T.list (by decide +kernel) rfl) pa_nil))) (pe_callB call_isi (by rfl) T.isinstance (by decide +kernel) (pa_cons (pv 1) (pa_cons (pe_bltn (v := .ty "list") (by rfl) T.list (by decide +kernel) rfl) pa_nil))) (nomark _)) (pss_one (ps_ret pe_bl)) pss_nil)
  (pss_cons (ps_if (pt_cmpR op_ne (pe_callB call_isi (by rfl) T.isinstance (by decide +kernel) (pa_cons (pv 0) (pa_cons (pe_bltn (v := .ty "tuple") (by rfl) T.tuple (by decide +kernel) rfl) pa_nil))) (pe_callB call_isi (by rfl) T.isinstance (by decide +kernel) (pa_cons (pv 1) (pa_cons (pe_bltn (v := .ty "tuple") (by rfl) T.tuple (by decide +kernel) rfl) pa_nil))) (nomark _)) (pss_one (ps_ret pe_bl)) pss_nil)
  (pss_one (ps_ret (pe_and (pe_cmpR op_eq (pe_callB call_len_seq (by rfl) T.len PySem.boot_len (pa_cons (pv 0) pa_nil)) (pe_callB call_len_seq (by rfl) T.len PySem.boot_len (pa_cons (pv 1) pa_nil)) (nomark _)) (pe_one (pe_callB (cr_all rfl) (by rfl) T.all (by decide +kernel) (pa_cons (pe_lc (own := [("_law_mine", 2), ("_law_its", 3)]) (g := gTup K 2 (gCons (gName 2) (gCons (gName 3) gNil))) (by rfl) scSame.nd (pi_zipA (by rfl) T.zip (pa_cons (pv 0) (pa_cons (pv 1) pa_nil))) (blkOk_by (own := [("_law_mine", 2), ("_law_its", 3)]) (N := nSame) (sc := defScope sSame) (by decide +kernel)) (fun _ _ _ _ _ => (pg_tup rfl (pgs_cons (pg_name (i := 2) scSame.nd rfl (.inl rfl)) (pgs_cons (pg_name (i := 3) scSame.nd rfl (.inl rfl)) pgs_nil)))) (fun _ _ _ _ _ => pts_nil) (fun _ _ _ _ _ => (pe_c c__law_same hr (Nat.le_refl _) (by rfl) (pa_cons (pv 2) (pa_cons (pv 3) pa_nil))))) pa_nil)))))))) pss_nil)
  (pss_cons (ps_if (pw_or (pt_cmpR op_isN (pv 1) pe_non (nomark _)) (pw_or1 (pt_val (pe_callB call_isiT (by rfl) T.isinstance (by decide +kernel) (pa_cons (pv 1) (pa_cons (pe_tup (pa_cons (pe_bltn (v := .ty "bool") (by rfl) T.bool (by decide +kernel) rfl) (pa_cons (pe_bltn (v := .ty "str") (by rfl) T.str (by decide +kernel) rfl) pa_nil))) pa_nil)))))).pt (pss_one (ps_ret (pe_and (pe_cmpR op_eq (pv 0) (pv 1) (nomark _)) (pe_and (pe_cmpR op_eq (pe_callB call_isi (by rfl) T.isinstance (by decide +kernel) (pa_cons (pv 0) (pa_cons (pe_bltn (v := .ty "bool") (by rfl) T.bool (by decide +kernel) rfl) pa_nil))) (pe_callB call_isi (by rfl) T.isinstance (by decide +kernel) (pa_cons (pv 1) (pa_cons (pe_bltn (v := .ty "bool") (by rfl) T.bool (by decide +kernel) rfl) pa_nil))) (nomark _)) (pe_one (pe_cmpR op_eq (pe_cmpR op_isN (pv 0) pe_non (nomark _)) (pe_cmpR op_isN (pv 1) pe_non (nomark _)) (nomark _))))))) pss_nil)
  (pss_one (ps_ret (pe_and (pe_callB call_isi (by rfl) T.isinstance (by decide +kernel) (pa_cons (pv 0) (pa_cons (pe_bltn (v := .ty "int") (by rfl) T.int (by decide +kernel) rfl) pa_nil))) (pe_and (pe_not (pe_callB call_isi (by rfl) T.isinstance (by decide +kernel) (pa_cons (pv 0) (pa_cons (pe_bltn (v := .ty "bool") (by rfl) T.bool (by decide +kernel) rfl) pa_nil)))) (pe_one (pe_cmpR op_eq (pv 0) (pv 1) (nomark _))))))))), ?_⟩
    cases hE with
    | non n =>
      refine ⟨_, rfl, (by show 2 ≤ sizeLine; decide), fun p np => ?_⟩
      refine ⟨_, p, _, _, _, false, rfl, upd_same, .cons (.ty _) (.cons (.ty _) .nil), .base .non, any_of (by decide +kernel), _, rfl, iteF ?_⟩
      refine ⟨_, rfl, rfl, _, rfl, iteD1 rfl (iteT ?_)⟩
      refine ⟨_, rfl, _, rfl, rfl, _, rfl, iteD1 rfl ?_⟩
      refine ⟨_, rfl, _, _, _, _, false, rfl, .ty _, .base .non, kit_ty (by decide +kernel), _, rfl, _, _, _, _, false, rfl, .ty _, .base .non, kit_ty (by decide +kernel), rfl, _, rfl, iteD1 rfl ?_⟩
      exact ⟨_, rfl, rfl, _, rfl, rfl, rfl, q _ (same_upd np)⟩
    | bl n c =>
      refine ⟨_, rfl, (by show 2 ≤ sizeLine; decide), fun p np => ?_⟩
      refine ⟨_, p, _, _, _, false, rfl, upd_same, .cons (.ty _) (.cons (.ty _) .nil), .base (.bl c), any_of (by decide +kernel), _, rfl, iteF ?_⟩
      refine ⟨_, rfl, rfl, _, rfl, iteD0 (fun h => by cases h) ?_⟩
      refine ⟨_, rfl, (by show 2 ≤ sizeLine; decide), fun p2 np2 => ?_⟩
      refine ⟨_, p2, _, _, _, true, rfl, upd_same, .cons (.ty _) (.cons (.ty _) .nil), .base (.bl c), any_of (by decide +kernel), _, rfl, iteT ?_⟩
      refine ⟨_, rfl, _, rfl, rfl, _, rfl, iteD1 rfl ?_⟩
      refine ⟨_, rfl, _, _, _, _, true, rfl, .ty _, .base (.bl c), kit_ty (by decide +kernel), _, rfl, _, _, _, _, true, rfl, .ty _, .base (.bl c), kit_ty (by decide +kernel), rfl, _, rfl, iteD1 rfl ?_⟩
      refine ⟨_, rfl, rfl, _, rfl, rfl, rfl, ?_⟩
      rw [decide_eq_true rfl]
      exact q _ ((same_upd np).trans (same_upd np2))
    | str n c =>
      refine ⟨_, rfl, (by show 2 ≤ sizeLine; decide), fun p np => ?_⟩
      refine ⟨_, p, _, _, _, false, rfl, upd_same, .cons (.ty _) (.cons (.ty _) .nil), .base (.str c), any_of (by decide +kernel), _, rfl, iteF ?_⟩
      refine ⟨_, rfl, rfl, _, rfl, iteD0 (fun h => by cases h) ?_⟩
      refine ⟨_, rfl, (by show 2 ≤ sizeLine; decide), fun p2 np2 => ?_⟩
      refine ⟨_, p2, _, _, _, true, rfl, upd_same, .cons (.ty _) (.cons (.ty _) .nil), .base (.str c), any_of (by decide +kernel), _, rfl, iteT ?_⟩
      refine ⟨_, rfl, _, rfl, rfl, _, rfl, iteD1 rfl ?_⟩
      refine ⟨_, rfl, _, _, _, _, false, rfl, .ty _, .base (.str c), kit_ty (by decide +kernel), _, rfl, _, _, _, _, false, rfl, .ty _, .base (.str c), kit_ty (by decide +kernel), rfl, _, rfl, iteD1 rfl ?_⟩
      refine ⟨_, rfl, rfl, _, rfl, rfl, rfl, ?_⟩
      rw [decide_eq_true rfl]
      exact q _ ((same_upd np).trans (same_upd np2))
    | int n c =>
      refine ⟨_, rfl, (by show 2 ≤ sizeLine; decide), fun p np => ?_⟩
      refine ⟨_, p, _, _, _, false, rfl, upd_same, .cons (.ty _) (.cons (.ty _) .nil), .base (.int c), any_of (by decide +kernel), _, rfl, iteF ?_⟩
      refine ⟨_, rfl, rfl, _, rfl, iteD0 (fun h => by cases h) ?_⟩
      refine ⟨_, rfl, (by show 2 ≤ sizeLine; decide), fun p2 np2 => ?_⟩
      refine ⟨_, p2, _, _, _, false, rfl, upd_same, .cons (.ty _) (.cons (.ty _) .nil), .base (.int c), any_of (by decide +kernel), _, rfl, iteF ?_⟩
      refine ⟨_, rfl, _, _, _, _, true, rfl, .ty _, .base (.int c), kit_ty (by decide +kernel), _, rfl, iteT ?_⟩
      refine ⟨_, rfl, _, _, _, _, false, rfl, .ty _, .base (.int c), kit_ty (by decide +kernel), _, rfl, _, rfl, iteT ?_⟩
      refine ⟨_, rfl, _, rfl, rfl, ?_⟩
      rw [decide_eq_true rfl]
      exact q _ ((same_upd np).trans (same_upd np2))
    | @lst n a b xs ys h1 h2 hl hz he =>
      refine ⟨_, rfl, (by show 2 ≤ sizeLine; decide), fun p np => ?_⟩
      have s1 : Same H (upd H p (.tup [.ty "list", .ty "tuple"])) := same_upd np
      have hp : (upd H p (.tup [.ty "list", .ty "tuple"])) p = some (.tup [.ty "list", .ty "tuple"]) := upd_same
      generalize (upd H p (.tup [.ty "list", .ty "tuple"])) = H1 at s1 hp ⊢
      have g1 := s1.seq h1
      have g2 := s1.seq h2
      refine ⟨_, p, _, _, _, true, rfl, hp, .cons (.ty _) (.cons (.ty _) .nil), ty_l g2, any_of (by decide +kernel), _, rfl, iteT ?_⟩
      refine ⟨_, rfl, _, _, _, _, true, rfl, .ty _, ty_l g1, kit_ty (by decide +kernel), _, rfl, _, _, _, _, true, rfl, .ty _, ty_l g2, kit_ty (by decide +kernel), rfl, _, rfl, iteNS rfl ?_⟩
      refine ⟨_, rfl, _, _, _, _, false, rfl, .ty _, ty_l g1, kit_ty (by decide +kernel), _, rfl, _, _, _, _, false, rfl, .ty _, ty_l g2, kit_ty (by decide +kernel), rfl, _, rfl, iteNS rfl ?_⟩
      refine ⟨_, rfl, a, xs, rfl, .inl g1, _, rfl, b, ys, rfl, .inl g2, rfl, _, rfl, iteD1 (by rw [hl]) ?_⟩
      refine ⟨_, rfl, _, rfl, a, b, xs, ys, rfl, .inl ⟨g1, g2, fun D nD => ?_⟩⟩
      have s2 : Same H (upd H1 D (.lst [])) := s1.trans (same_upd nD)
      refine lc_it (walk_zip (n := xs.length) (by rw [← hl, Nat.min_self])) (fun i H3 => Same H H3 ∧ H3 D = some (.lst ((List.replicate i true).map V.bl))) ⟨s2, upd_same⟩ (fun i H3 _ h => ⟨h.1.seq h1, h.1.seq h2⟩) ?_ ?_
      · rintro i z H3 H4 hi ⟨s3, e3⟩ ⟨T1, x1, x2, rfl, nT, rfl, f1, f2⟩
        have s4 : Same H (upd H3 T1 (.tup [x1, x2])) := s3.trans (same_upd nT)
        have e4 : (upd H3 T1 (.tup [x1, x2])) D = some (.lst ((List.replicate i true).map V.bl)) := by rw [upd_ne (ne_of_none e3 nT)]; exact e3
        refine ⟨T1, [x1, x2], rfl, SqT.of upd_same, rfl, x1, [x2], rfl, x2, [], rfl, rfl, rfl, ?_⟩
        dsimp only [tYes]
        refine iteT ?_
        refine ⟨_, rfl, _, rfl, x1, x2, rfl, (he i x1 x2 f1 f2).same s4, fun H5 s5 => ⟨_, s5 _ _ e4, ?_, ?_, ?_⟩⟩
        · rw [List.length_map, List.length_replicate]
          exact small1000 (by first | omega | (rw [List.length_map] at hi; omega))
        · intro p o e
          rw [upd_ne (fun z => by rw [z] at e; rw [s1.free nD] at e; cases e)]
          exact s5 _ _ (s4 _ _ e)
        · rw [upd_same, List.replicate_succ', List.map_append]
          rfl
      · rintro H3 ⟨s3, e3⟩
        refine ⟨D, _, rfl, SqL.of e3, ?_⟩
        rw [show (List.replicate xs.length true).all id = true by simp]
        exact q H3 s3
    | @tup n a b xs ys h1 h2 hl hz he =>
      refine ⟨_, rfl, (by show 2 ≤ sizeLine; decide), fun p np => ?_⟩
      have s1 : Same H (upd H p (.tup [.ty "list", .ty "tuple"])) := same_upd np
      have hp : (upd H p (.tup [.ty "list", .ty "tuple"])) p = some (.tup [.ty "list", .ty "tuple"]) := upd_same
      generalize (upd H p (.tup [.ty "list", .ty "tuple"])) = H1 at s1 hp ⊢
      have g1 := s1.seT h1
      have g2 := s1.seT h2
      refine ⟨_, p, _, _, _, true, rfl, hp, .cons (.ty _) (.cons (.ty _) .nil), ty_t g2, any_of (by decide +kernel), _, rfl, iteT ?_⟩
      refine ⟨_, rfl, _, _, _, _, false, rfl, .ty _, ty_t g1, kit_ty (by decide +kernel), _, rfl, _, _, _, _, false, rfl, .ty _, ty_t g2, kit_ty (by decide +kernel), rfl, _, rfl, iteNS rfl ?_⟩
      refine ⟨_, rfl, _, _, _, _, true, rfl, .ty _, ty_t g1, kit_ty (by decide +kernel), _, rfl, _, _, _, _, true, rfl, .ty _, ty_t g2, kit_ty (by decide +kernel), rfl, _, rfl, iteNS rfl ?_⟩
      refine ⟨_, rfl, a, xs, rfl, .inr g1, _, rfl, b, ys, rfl, .inr g2, rfl, _, rfl, iteD1 (by rw [hl]) ?_⟩
      refine ⟨_, rfl, _, rfl, a, b, xs, ys, rfl, .inr ⟨g1, g2, fun D nD => ?_⟩⟩
      have s2 : Same H (upd H1 D (.lst [])) := s1.trans (same_upd nD)
      refine lc_it (walk_zipT (n := xs.length) (by rw [← hl, Nat.min_self])) (fun i H3 => Same H H3 ∧ H3 D = some (.lst ((List.replicate i true).map V.bl))) ⟨s2, upd_same⟩ (fun i H3 _ h => ⟨h.1.seT h1, h.1.seT h2⟩) ?_ ?_
      · rintro i z H3 H4 hi ⟨s3, e3⟩ ⟨T1, x1, x2, rfl, nT, rfl, f1, f2⟩
        have s4 : Same H (upd H3 T1 (.tup [x1, x2])) := s3.trans (same_upd nT)
        have e4 : (upd H3 T1 (.tup [x1, x2])) D = some (.lst ((List.replicate i true).map V.bl)) := by rw [upd_ne (ne_of_none e3 nT)]; exact e3
        refine ⟨T1, [x1, x2], rfl, SqT.of upd_same, rfl, x1, [x2], rfl, x2, [], rfl, rfl, rfl, ?_⟩
        dsimp only [tYes]
        refine iteT ?_
        refine ⟨_, rfl, _, rfl, x1, x2, rfl, (he i x1 x2 f1 f2).same s4, fun H5 s5 => ⟨_, s5 _ _ e4, ?_, ?_, ?_⟩⟩
        · rw [List.length_map, List.length_replicate]
          exact small1000 (by first | omega | (rw [List.length_map] at hi; omega))
        · intro p o e
          rw [upd_ne (fun z => by rw [z] at e; rw [s1.free nD] at e; cases e)]
          exact s5 _ _ (s4 _ _ e)
        · rw [upd_same, List.replicate_succ', List.map_append]
          rfl
      · rintro H3 ⟨s3, e3⟩
        refine ⟨D, _, rfl, SqL.of e3, ?_⟩
        rw [show (List.replicate xs.length true).all id = true by simp]
        exact q H3 s3

end
section
variable {P : Program} {w : World} {K : PySem.W.Frag} {mg : Str → Option Value} {base : Heap} {C : Addr}
theorem ok_held {f : Addr} {fd : FuncData} (F : Fun K "held" "held" sHeld f fd) : FnOk P w K mg base CX0 1 f fd ["level", "floor", "cap"] spHeld := by
  refine F.ok scHeld (fun vs H Q E h => ?_) (fun cdv A outer s H vs Q E hr h => ?_)
  · obtain ⟨l, lo, hi, rfl, _⟩ := h
    rfl
  · obtain ⟨l, lo, hi, rfl, le, q⟩ := h
    refine ⟨_, (pss_cons (ps_if (pw_and (pt_cmpR op_notN (pv 1) pe_non (nomark _)) (pw_and1 (pt_cmpR op_lt (pv 0) (pv 1) (nomark _)))).pt (pss_one (ps_ret (pv 1))) pss_nil)
  (pss_cons (ps_if (pw_and (pt_cmpR op_notN (pv 2) pe_non (nomark _)) (pw_and1 (pt_cmpR op_gt (pv 0) (pv 2) (nomark _)))).pt (pss_one (ps_ret (pv 2))) pss_nil)
  (pss_one (ps_ret (pv 0))))), ?_⟩
    have second : (∀ a, lo = some a → a ≤ l) → (tSeq (tIfS (tAnd (tTest (tOp rNot' (tVar 2) (tC .non))) (tTest (tOp rGt2 (tVar 0) (tVar 2)))) (tRet (tVar 2)) tNext) (tRet (tVar 0))) { nx := fun _ H' => Q .non H', rt := Q } [some (.int l), some (oV lo), some (oV hi)] H := by
      intro hlo
      cases hi with
      | none =>
        refine ⟨_, rfl, rfl, _, rfl, iteN0 rfl (iteF ⟨_, rfl, ?_⟩)⟩
        cases lo with
        | none => exact q
        | some a =>
          rw [bnd_lo, show max l a = l by have := hlo a rfl; omega] at q
          exact q
      | some b =>
        refine ⟨_, rfl, rfl, _, rfl, iteN1 (iN b) ⟨_, rfl, _, rfl, _, _, rfl, rfl, _, rfl, ?_⟩⟩
        by_cases g : b < l
        · refine iteD1 g ⟨_, rfl, ?_⟩
          cases lo with
          | none =>
            rw [bnd_hi, show min l b = b by omega] at q
            exact q
          | some a =>
            rw [bnd_two, show min (max l a) b = b by omega] at q
            exact q
        · refine iteD0 g ⟨_, rfl, ?_⟩
          cases lo with
          | none =>
            rw [bnd_hi, show min l b = l by omega] at q
            exact q
          | some a =>
            rw [bnd_two, show min (max l a) b = l by have := hlo a rfl; omega] at q
            exact q
    cases lo with
    | none => exact ⟨_, rfl, rfl, _, rfl, iteN0 rfl (iteF (second fun a z => by cases z))⟩
    | some a =>
      refine ⟨_, rfl, rfl, _, rfl, iteN1 (iN a) ⟨_, rfl, _, rfl, _, _, rfl, rfl, _, rfl, ?_⟩⟩
      by_cases g : l < a
      · refine iteD1 g ⟨_, rfl, ?_⟩
        cases hi with
        | none =>
          rw [bnd_lo, show max l a = a by omega] at q
          exact q
        | some b =>
          have := le a b rfl rfl
          rw [bnd_two, show min (max l a) b = a by omega] at q
          exact q
      · exact iteD0 g (second fun x z => by cases z; omega)
theorem ok_led {f : Addr} {fd : FuncData} (F : Fun K "led" "led" sLed f fd) (W : WT K C) (pS : Prp P w K mg base C "shift" "_shift") (pF : Prp P w K mg base C "floor" "_floor") (pC : Prp P w K mg base C "cap" "_cap") (c_held : Cal P w K mg base 1 "held" spHeld []) : FnOk P w K mg base CX0 3 f fd ["way", "start"] (spLed C) := by
  refine F.ok scLed (fun vs H Q E h => ?_) (fun cdv A outer s H vs Q E hr h => ?_)
  · obtain ⟨p, s, f, c, x, rfl, _⟩ := h
    rfl
  · obtain ⟨p, s, f, c, x, rfl, hW, wf, q⟩ := h
    have m0 := mono_var 0
    refine ⟨_, (pss_cons (ps_if (pt_cmpR op_isN (pe_sel wF_s m0 (pv 0) W.cl pS hr (by decide)) pe_non (nomark _)) (pss_one (ps_ret (pe_sel wF_f m0 (pv 0) W.cl pF hr (by decide)))) pss_nil)
  (pss_one (ps_ret (pe_c c_held hr (by decide) (by rfl) (pa_cons (pe_op op_add (pv 1) (pe_sel wF_s m0 (pv 0) W.cl pS hr (by decide))) (pa_cons (pe_sel wF_f m0 (pv 0) W.cl pF hr (by decide)) (pa_cons (pe_sel wF_c m0 (pv 0) W.cl pC hr (by decide)) pa_nil))))))), ?_⟩
    refine ⟨_, rfl, p, s, f, c, rfl, hW, rfl, _, rfl, ?_⟩
    cases s with
    | none =>
      obtain ⟨a, rfl, rfl⟩ := wf.2.1 rfl
      exact iteD1 rfl ⟨_, rfl, p, _, _, _, rfl, hW, q⟩
    | some s => exact iteD0 (iN s) ⟨_, rfl, _, rfl, p, _, _, _, rfl, hW, _, _, rfl, rfl, _, rfl, p, _, _, _, rfl, hW, _, rfl, p, _, _, _, rfl, hW, x + s, f, c, rfl, wf.1, q⟩
theorem ok_call {f : Addr} {fd : FuncData} (F : Fun K "__call__" "Way.__call__" sCall f fd) (c_led : Cal P w K mg base 3 "led" (spLed C) []) : FnOk P w K mg base CX0 4 f fd ["self", "start"] (spLed C) := by
  refine F.ok scCall (fun vs H Q E h => ?_) (fun cdv A outer s H vs Q E hr h => ?_)
  · obtain ⟨p, s, f, c, x, rfl, _⟩ := h
    rfl
  · obtain ⟨p, s, f, c, x, rfl, h⟩ := h
    refine ⟨_, (pss_one (ps_ret (pe_c c_led hr (by decide) (by rfl) (pa_cons (pv 0) (pa_cons (pv 1) pa_nil))))), ?_⟩
    exact ⟨_, rfl, _, rfl, p, s, f, c, x, rfl, h⟩
theorem ok_rsh {f : Addr} {fd : FuncData} (F : Fun K "__rshift__" "Way.__rshift__" sRsh f fd) (T : Bt mg) (W : WT K C) (mW : mg "Way" = some (.ref C)) (ic : C8.InsC K C) (c_led : Cal P w K mg base 3 "led" (spLed C) []) (c_Way3 : Mak P w K mg base 1 "Way" C (spInitW C) []) :
    FnOk P w K mg base CX0 4 f fd ["self", "other"] (spRsh C) := by
  refine F.ok scRsh (fun vs H Q E h => ?_) (fun cdv A outer s H vs Q E hr h => ?_)
  · obtain ⟨p, q, s1, f1, c1, s2, f2, c2, rfl, _⟩ := h
    rfl
  · obtain ⟨p, p2, s1, f1, c1, s2, f2, c2, rfl, W1, W2, wf1, wf2, q⟩ := h
    have m0 := mono_var 0
    have m1 := mono_var 1
    refine ⟨_, (pss_cons (ps_if (pt_not (pt_val (pe_callB (C8.call_isC ic) (by rfl) T.isinstance (by decide +kernel) (pa_cons (pv 1) (pa_cons (pe_glob (v := .ref C) (by rfl) mW rfl) pa_nil))))) (pss_one ps_dead) pss_nil)
  (pss_cons (ps_set (i := 2) scRsh.nd rfl (.inl rfl) (pe_or (pe_cmpR op_isN (pe_hid wF_s m0 (pv 0) W.cl W.nS) pe_non (nomark _)) (pe_one (pe_cmpR op_isN (pe_hid wF_s m1 (pv 1) W.cl W.nS) pe_non (nomark _)))))
  (pss_cons (ps_set (i := 3) scRsh.nd rfl (.inl rfl) (pe_ifExp (pt_val (pv 2)) pe_non (pe_op op_add (pe_hid wF_s m0 (pv 0) W.cl W.nS) (pe_hid wF_s m1 (pv 1) W.cl W.nS))))
  (pss_cons (ps_set (i := 4) scRsh.nd rfl (.inl rfl) (pe_ifExp (pt_cmpR op_isN (pe_hid wF_f m0 (pv 0) W.cl W.nF) pe_non (nomark _)) (pe_hid wF_f m1 (pv 1) W.cl W.nF) (pe_c c_led hr (by decide) (by rfl) (pa_cons (pv 1) (pa_cons (pe_hid wF_f m0 (pv 0) W.cl W.nF) pa_nil)))))
  (pss_cons (ps_set (i := 5) scRsh.nd rfl (.inl rfl) (pe_ifExp (pt_cmpR op_isN (pe_hid wF_c m0 (pv 0) W.cl W.nC) pe_non (nomark _)) (pe_hid wF_c m1 (pv 1) W.cl W.nC) (pe_c c_led hr (by decide) (by rfl) (pa_cons (pv 1) (pa_cons (pe_hid wF_c m0 (pv 0) W.cl W.nC) pa_nil)))))
  (pss_one (ps_ret (pe_mk c_Way3 hr (by decide) (by rfl) (pa_cons (pv 3) (pa_cons (pv 4) (pa_cons (pv 5) pa_nil))))))))))), ?_⟩
    obtain ⟨d2, h2⟩ := id W2
    refine ⟨_, rfl, p2, _, _, rfl, h2, _, rfl, iteF ?_⟩
    have e5 : ∀ (x2 x3 : Option V) (fl : Option Int), x3 = some (oV (rsS s1 s2)) → fl = rsB s2 f2 c2 f1 f2 → (tSeq (tAsg (tIf (tTest (tOp rIs' (tWF C (fun _ _ c => c) (tVar 0)) (tC .non))) (tWF C (fun _ _ c => c) (tVar 1)) (tCall (spLed C) [] C8.E0 (tCons (tVar 1) (tCons (tWF C (fun _ _ c => c) (tVar 0)) tNil)))) (gName 5)) (tRet (tMake C (spInitW C) [] C8.E0 (tCons (tVar 3) (tCons (tVar 4) (tCons (tVar 5) tNil))))))
        { nx := fun _ H' => Q .non H', rt := Q } [some (.ref p), some (.ref p2), x2, x3, some (oV fl), none] H := by
      intro x2 x3 fl hx hfl
      subst hx
      subst hfl
      have mk : ∀ cp, cp = rsB s2 f2 c2 c1 c2 → (tRet (tMake C (spInitW C) [] C8.E0 (tCons (tVar 3) (tCons (tVar 4) (tCons (tVar 5) tNil))))) { nx := fun _ H' => Q .non H', rt := Q } [some (.ref p), some (.ref p2), x2, some (oV (rsS s1 s2)), some (oV (rsB s2 f2 c2 f1 f2)), some (oV cp)] H := by
        intro cp hcp
        subst hcp
        refine ⟨_, rfl, _, rfl, _, rfl, fun x dx nx ndx nex => ?_⟩
        exact ⟨x, dx, _, _, _, rfl, upd_same, rs_ok wf1 wf2, fun H6 W6 k6 => ⟨rfl, q _ _ (made_same nx ndx k6) W6⟩⟩
      refine ⟨_, rfl, p, _, _, _, rfl, W1, rfl, _, rfl, ?_⟩
      cases c1 with
      | none => exact iteD1 rfl ⟨_, rfl, p2, _, _, _, rfl, W2, mk _ rfl⟩
      | some z => exact iteD0 (iN z) ⟨_, rfl, _, rfl, p, _, _, _, rfl, W1, p2, _, _, _, z, rfl, W2, wf2, mk _ rfl⟩
    have e4 : ∀ (x2 x3 : Option V), x3 = some (oV (rsS s1 s2)) → (tSeq (tAsg (tIf (tTest (tOp rIs' (tWF C (fun _ f _ => f) (tVar 0)) (tC .non))) (tWF C (fun _ f _ => f) (tVar 1)) (tCall (spLed C) [] C8.E0 (tCons (tVar 1) (tCons (tWF C (fun _ f _ => f) (tVar 0)) tNil)))) (gName 4)) (tSeq (tAsg (tIf (tTest (tOp rIs' (tWF C (fun _ _ c => c) (tVar 0)) (tC .non))) (tWF C (fun _ _ c => c) (tVar 1)) (tCall (spLed C) [] C8.E0 (tCons (tVar 1) (tCons (tWF C (fun _ _ c => c) (tVar 0)) tNil)))) (gName 5)) (tRet (tMake C (spInitW C) [] C8.E0 (tCons (tVar 3) (tCons (tVar 4) (tCons (tVar 5) tNil)))))))
        { nx := fun _ H' => Q .non H', rt := Q } [some (.ref p), some (.ref p2), x2, x3, none, none] H := by
      intro x2 x3 hx
      refine ⟨_, rfl, p, _, _, _, rfl, W1, rfl, _, rfl, ?_⟩
      cases f1 with
      | none => exact iteD1 rfl ⟨_, rfl, p2, _, _, _, rfl, W2, e5 x2 x3 _ hx rfl⟩
      | some z => exact iteD0 (iN z) ⟨_, rfl, _, rfl, p, _, _, _, rfl, W1, p2, _, _, _, z, rfl, W2, wf2, e5 x2 x3 (some _) hx rfl⟩
    refine ⟨_, rfl, p, _, _, _, rfl, W1, rfl, _, rfl, ?_⟩
    cases s1 with
    | none => exact iteD1 rfl ⟨_, rfl, true, rfl, iteT (e4 _ _ rfl)⟩
    | some a =>
      refine iteD0 (iN a) ⟨_, rfl, p2, _, _, _, rfl, W2, rfl, ?_⟩
      cases s2 with
      | none => exact ⟨_, rfl, true, rfl, iteT (e4 _ _ rfl)⟩
      | some b => exact ⟨_, rfl, false, rfl, iteF ⟨_, rfl, p, _, _, _, rfl, W1, _, rfl, p2, _, _, _, rfl, W2, _, _, rfl, rfl, e4 _ _ rfl⟩⟩
theorem ok_eq {f : Addr} {fd : FuncData} (F : Fun K "__eq__" "Way.__eq__" sEq f fd) (T : Bt mg) (W : WT K C) (mW : mg "Way" = some (.ref C)) (ic : C8.InsC K C) : FnOk P w K mg base CX0 1 f fd ["self", "other"] (spEqW C) := by
  refine F.ok scEq (fun vs H Q E h => ?_) (fun cdv A outer s H vs Q E hr h => ?_)
  · obtain ⟨p, q, s1, f1, c1, s2, f2, c2, rfl, _⟩ := h
    rfl
  · obtain ⟨p, p2, s1, f1, c1, s2, f2, c2, rfl, W1, W2, q⟩ := h
    have m0 := mono_var 0
    have m1 := mono_var 1
    refine ⟨_, (pss_one (ps_ret (pe_and (pe_callB (C8.call_isC ic) (by rfl) T.isinstance (by decide +kernel) (pa_cons (pv 1) (pa_cons (pe_glob (v := .ref C) (by rfl) mW rfl) pa_nil))) (pe_and (pe_cmpR op_eq (pe_hid wF_s m0 (pv 0) W.cl W.nS) (pe_hid wF_s m1 (pv 1) W.cl W.nS) (nomark _)) (pe_and (pe_cmpR op_eq (pe_hid wF_f m0 (pv 0) W.cl W.nF) (pe_hid wF_f m1 (pv 1) W.cl W.nF) (nomark _)) (pe_one (pe_cmpR op_eq (pe_hid wF_c m0 (pv 0) W.cl W.nC) (pe_hid wF_c m1 (pv 1) W.cl W.nC) (nomark _)))))))), ?_⟩
    obtain ⟨d2, h2⟩ := id W2
    refine ⟨_, rfl, p2, _, _, rfl, h2, _, rfl, iteT ?_⟩
    refine ⟨_, rfl, p, _, _, _, rfl, W1, _, rfl, p2, _, _, _, rfl, W2, scal_oV _ _, _, rfl, ?_⟩
    rw [dec_oV]
    unfold weq at q
    by_cases g1 : s1 = s2
    · rw [decide_eq_true g1] at q ⊢
      refine iteT ⟨_, rfl, p, _, _, _, rfl, W1, _, rfl, p2, _, _, _, rfl, W2, scal_oV _ _, _, rfl, ?_⟩
      rw [dec_oV]
      by_cases g2 : f1 = f2
      · rw [decide_eq_true g2] at q ⊢
        refine iteT ⟨_, rfl, p, _, _, _, rfl, W1, _, rfl, p2, _, _, _, rfl, W2, scal_oV _ _, ?_⟩
        rw [dec_oV]
        exact q
      · rw [decide_eq_false g2] at q ⊢
        exact iteF q
    · rw [decide_eq_false g1] at q ⊢
      exact iteF q
end

section
variable {P : Program} {w : World} {K : PySem.W.Frag} {mg : Str → Option Value} {base : Heap} {C : Addr}
theorem ok_bt {f : Addr} {fd : FuncData} (F : Fun K "bound_text" "bound_text" sBT f fd) (T : Bt mg) : FnOk P w K mg base CX0 1 f fd ["bound"] spBT := by
  refine F.ok scBT (fun vs H Q E h => ?_) (fun cdv A outer s H vs Q E hr h => ?_)
  · obtain ⟨o, rfl, _⟩ := h
    rfl
  · obtain ⟨o, rfl, hb, q⟩ := h
    refine ⟨_, (pss_one (ps_ret (pe_ifExp (pt_cmpR op_isN (pv 0) pe_non (nomark _)) pe_str (pe_callTy call_str_int (by rfl) T.str (by decide +kernel) (pa_cons (pv 0) pa_nil))))), ?_⟩
    cases o with
    | none => exact ⟨_, rfl, rfl, _, rfl, iteD1 rfl q⟩
    | some i => exact ⟨_, rfl, rfl, _, rfl, iteD0 (iN i) ⟨_, rfl, i, rfl, hb i rfl, q⟩⟩
theorem ok_text {f : Addr} {fd : FuncData} (F : Fun K "text" "Way.text" sGt f fd) (W : WT K C) (c_bound_text : Cal P w K mg base 1 "bound_text" spBT []) : FnOk P w K mg base CX0 2 f fd ["self"] (spText C) := by
  refine F.ok scGt (fun vs H Q E h => ?_) (fun cdv A outer s H vs Q E hr h => ?_)
  · obtain ⟨p, s, f, c, rfl, _⟩ := h
    rfl
  · obtain ⟨p, s, f, c, rfl, hW, hb, q⟩ := h
    have m0 := mono_var 0
    refine ⟨_, (pss_one (ps_ret (pe_joined (.cons (pe_fmt (pe_c c_bound_text hr (by decide) (by rfl) (pa_cons (pe_hid wF_s m0 (pv 0) W.cl W.nS) pa_nil))) (.cons pe_str (.cons (pe_fmt (pe_c c_bound_text hr (by decide) (by rfl) (pa_cons (pe_hid wF_f m0 (pv 0) W.cl W.nF) pa_nil))) (.cons pe_str (.cons (pe_fmt (pe_c c_bound_text hr (by decide) (by rfl) (pa_cons (pe_hid wF_c m0 (pv 0) W.cl W.nC) pa_nil))) .nil)))))))), ?_⟩
    have ls := bt_len s fun i z => hb i (.inl z)
    have lf := bt_len f fun i z => hb i (.inr (.inl z))
    have lc := bt_len c fun i z => hb i (.inr (.inr z))
    have l1 : ((" " : Str)).length = 1 := by decide +kernel
    have l0 : (Str.empty).length = 0 := by decide +kernel
    refine ⟨_, rfl, p, _, _, _, rfl, hW, s, rfl, fun i z => hb i (.inl z), .inl ⟨_, rfl, sl4000 (by omega), _, rfl, sl4000 (by rw [PySem.Str.length_append]; omega), ?_⟩⟩
    refine ⟨_, rfl, sl4000 (by rw [PySem.Str.length_append, PySem.Str.length_append]; omega), ?_⟩
    refine ⟨_, rfl, p, _, _, _, rfl, hW, f, rfl, fun i z => hb i (.inr (.inl z)), .inl ⟨_, rfl, sl4000 (by omega), _, rfl, sl4000 (by rw [PySem.Str.length_append, PySem.Str.length_append, PySem.Str.length_append]; omega), ?_⟩⟩
    refine ⟨_, rfl, sl4000 (by rw [PySem.Str.length_append, PySem.Str.length_append, PySem.Str.length_append, PySem.Str.length_append]; omega), ?_⟩
    refine ⟨_, rfl, p, _, _, _, rfl, hW, c, rfl, fun i z => hb i (.inr (.inr z)), .inl ⟨_, rfl, sl4000 (by omega), _, rfl, sl4000 (by rw [PySem.Str.length_append, PySem.Str.length_append, PySem.Str.length_append, PySem.Str.length_append, PySem.Str.length_append]; omega), ?_⟩⟩
    exact q

end
end BL

namespace BL
open PySem PySem.Spec PyProof.Rows L2
open C8 (Cal Mak pe_c pe_mk)
/-! ### rows -/
inductive Wd where
  | add
  | floor
  | cap
def wd : Wd → Str
  | .add => "add"
  | .floor => "floor"
  | .cap => "cap"
abbrev Ev := Wd × Int
theorem wd_eq (k : Wd) : decide (V.str (wd k) = V.str "add") = (match k with | .add => true | _ => false) ∧ decide (V.str (wd k) = V.str "floor") = (match k with | .floor => true | _ => false) := by
  cases k <;> exact ⟨by decide +kernel, by decide +kernel⟩
def EvT (K : PySem.W.Frag) (H : Hp) (v : V) (e : Ev) : Prop := ∃ t, v = .ref t ∧ SqT K H t [.str (wd e.1), .int e.2]
def EvL (K : PySem.W.Frag) (H : Hp) (v : V) (e : Ev) : Prop := ∃ t, v = .ref t ∧ SqL K H t [.str (wd e.1), .int e.2]
def RowX (R : V → Ev → Prop) (xs : List V) (es : List Ev) : Prop := xs.length = es.length ∧ ∀ (i : Nat) v e, xs[i]? = some v → es[i]? = some e → R v e
def RowT (K : PySem.W.Frag) (H : Hp) (v : V) (es : List Ev) : Prop := ∃ a xs, v = .ref a ∧ SqT K H a xs ∧ RowX (EvT K H) xs es
def RowL (K : PySem.W.Frag) (H : Hp) (v : V) (es : List Ev) : Prop := ∃ a xs, v = .ref a ∧ SqL K H a xs ∧ RowX (EvL K H) xs es
theorem EvT.same {K : PySem.W.Frag} {H H' : Hp} {v : V} {e : Ev} (h : EvT K H v e) (s : Same H H') : EvT K H' v e := by
  obtain ⟨t, rfl, h⟩ := h
  exact ⟨t, rfl, s.seT h⟩
theorem EvL.same {K : PySem.W.Frag} {H H' : Hp} {v : V} {e : Ev} (h : EvL K H v e) (s : Same H H') : EvL K H' v e := by
  obtain ⟨t, rfl, h⟩ := h
  exact ⟨t, rfl, s.seq h⟩
theorem RowT.same {K : PySem.W.Frag} {H H' : Hp} {v : V} {es : List Ev} (h : RowT K H v es) (s : Same H H') : RowT K H' v es := by
  obtain ⟨a, xs, rfl, h, l, r⟩ := h
  exact ⟨a, xs, rfl, s.seT h, l, fun i v e p q => (r i v e p q).same s⟩
theorem RowL.same {K : PySem.W.Frag} {H H' : Hp} {v : V} {es : List Ev} (h : RowL K H v es) (s : Same H H') : RowL K H' v es := by
  obtain ⟨a, xs, rfl, h, l, r⟩ := h
  exact ⟨a, xs, rfl, s.seq h, l, fun i v e p q => (r i v e p q).same s⟩
theorem rowx_nil {R : V → Ev → Prop} : RowX R [] [] := ⟨rfl, fun i v e h => by simp at h⟩
theorem rowx_snoc {R : V → Ev → Prop} {xs : List V} {es : List Ev} {v : V} {e : Ev} (h : RowX R xs es) (r : R v e) : RowX R (xs ++ [v]) (es ++ [e]) := by
  refine ⟨by rw [List.length_append, List.length_append, h.1]; rfl, fun i u w p q => ?_⟩
  by_cases hi : i < xs.length
  · rw [List.getElem?_append_left hi] at p
    rw [List.getElem?_append_left (by rw [← h.1]; exact hi)] at q
    exact h.2 i u w p q
  · have hj : i = xs.length := by
      have := (List.getElem?_eq_some_iff.mp p).1
      rw [List.length_append] at this
      have : i < xs.length + 1 := this
      omega
    subst hj
    rw [List.getElem?_concat_length] at p
    rw [h.1, List.getElem?_concat_length] at q
    cases p
    cases q
    exact r
/-- what an event does to a level -/
def evs (e : Ev) (x : Int) : Int := match e.1 with
  | .add => x + e.2
  | .floor => max x e.2
  | .cap => min x e.2
def ends (es : List Ev) (x : Int) : Int := es.foldl (fun x e => evs e x) x
abbrev Tri := Option Int × Option Int × Option Int
def evW (e : Ev) : Tri := match e.1 with
  | .add => (some e.2, none, none)
  | .floor => (some 0, some e.2, none)
  | .cap => (some 0, none, some e.2)
def rshT (a b : Tri) : Tri := (nrm (rsS a.1 b.1) (rsB b.1 b.2.1 b.2.2 a.2.1 b.2.1) (rsB b.1 b.2.1 b.2.2 a.2.2 b.2.2), rsB b.1 b.2.1 b.2.2 a.2.1 b.2.1, rsB b.1 b.2.1 b.2.2 a.2.2 b.2.2)
def wf3 (w : Tri) : Prop := wfW w.1 w.2.1 w.2.2
def ld3 (w : Tri) (x : Int) : Int := ld w.1 w.2.1 w.2.2 x
def zer : Tri := (some 0, none, none)
def wayOf (es : List Ev) : Tri := es.foldl (fun w e => rshT w (evW e)) zer
theorem wf_zer : wf3 zer := ⟨fun x y z => (by cases z), fun z => (by cases z), fun a z => (by cases z)⟩
theorem wf_ev (e : Ev) : wf3 (evW e) := by
  obtain ⟨k, n⟩ := e
  cases k
  · exact ⟨fun x y z => (by cases z), fun z => (by cases z), fun a z => (by cases z)⟩
  · exact ⟨fun x y _ z => (by cases z), fun z => (by cases z), fun a _ z => (by cases z)⟩
  · exact ⟨fun x y z => (by cases z), fun z => (by cases z), fun a z => (by cases z)⟩
theorem ld_ev (e : Ev) (x : Int) : ld3 (evW e) x = evs e x := by
  obtain ⟨k, n⟩ := e
  cases k
  · show bnd (x + n) none none = x + n
    rw [bnd_none]
  · show bnd (x + 0) (some n) none = max x n
    rw [bnd_lo, Int.add_zero]
  · show bnd (x + 0) none (some n) = min x n
    rw [bnd_hi, Int.add_zero]
theorem wf_rsh {a b : Tri} (h : wf3 a) (g : wf3 b) : wf3 (rshT a b) := nrm_wf (rs_ok h g)
theorem ld_rshT {a b : Tri} (h : wf3 a) (g : wf3 b) (x : Int) : ld3 (rshT a b) x = ld3 b (ld3 a x) := ld_rs h g x
theorem way_go : ∀ (es : List Ev) (w : Tri), wf3 w → wf3 (es.foldl (fun w e => rshT w (evW e)) w) ∧ ∀ x, ld3 (es.foldl (fun w e => rshT w (evW e)) w) x = ends es (ld3 w x)
  | [], w, h => ⟨h, fun x => rfl⟩
  | e :: es, w, h => by
    have k := way_go es (rshT w (evW e)) (wf_rsh h (wf_ev e))
    refine ⟨k.1, fun x => ?_⟩
    have q := k.2 x
    rw [ld_rshT h (wf_ev e), ld_ev] at q
    exact q
theorem wf_way (es : List Ev) : wf3 (wayOf es) := (way_go es zer wf_zer).1
theorem ld_way (es : List Ev) (x : Int) : ld3 (wayOf es) x = ends es x := by
  have q := (way_go es zer wf_zer).2 x
  rw [show ld3 zer x = x from by show bnd (x + 0) none none = x; rw [bnd_none, Int.add_zero]] at q
  exact q
theorem way_take {es : List Ev} {i : Nat} {e : Ev} (h : es[i]? = some e) : wayOf (es.take (i + 1)) = rshT (wayOf (es.take i)) (evW e) := by
  unfold wayOf
  rw [List.take_add_one, h, List.foldl_append]
  rfl
theorem ends_take {es : List Ev} {i : Nat} {e : Ev} (h : es[i]? = some e) (x : Int) : ends (es.take (i + 1)) x = evs e (ends (es.take i) x) := by
  unfold ends
  rw [List.take_add_one, h, List.foldl_append]
  rfl
def spEW (K : PySem.W.Frag) (C : Addr) : Sp := fun vs H Q _ => ∃ (v : V) (e : Ev), vs = [v] ∧ (EvT K H v e ∨ EvL K H v e) ∧ ∀ r H', Same H H' → WayAt C H' r (evW e).1 (evW e).2.1 (evW e).2.2 → Q (.ref r) H'
def spWO (K : PySem.W.Frag) (C : Addr) : Sp := fun vs H Q _ => ∃ (v : V) (es : List Ev), vs = [v] ∧ (RowT K H v es ∨ RowL K H v es) ∧ ∀ r H', Same H H' → WayAt C H' r (wayOf es).1 (wayOf es).2.1 (wayOf es).2.2 → Q (.ref r) H'
section
variable {P : Program} {w : World} {K : PySem.W.Frag} {mg : Str → Option Value} {base : Heap} {C : Addr}
theorem ok_ew {f : Addr} {fd : FuncData} (F : Fun K "event_way" "event_way" sEW f fd) (c_Way3 : Mak P w K mg base 1 "Way" C (spInitW C) []) (c_Way2 : Mak P w K mg base 1 "Way" C (spInitW C) [.non]) (c_Way1 : Mak P w K mg base 1 "Way" C (spInitW C) [.non, .non]) : FnOk P w K mg base CX0 3 f fd ["event"] (spEW K C) := by
  refine F.ok scEW (fun vs H Q E h => ?_) (fun cdv A outer s H vs Q E hr h => ?_)
  · obtain ⟨v, e, rfl, _⟩ := h
    rfl
  · obtain ⟨v, ⟨k, n⟩, rfl, hE, q⟩ := h
    have tail : (tSeq (tIfS (tTest (tOp rEq (tVar 1) (tC (.str "add")))) (tRet (tMake C (spInitW C) [.non, .non] C8.E0 (tCons (tVar 2) tNil))) tNext) (tSeq (tIfS (tTest (tOp rEq (tVar 1) (tC (.str "floor")))) (tRet (tMake C (spInitW C) [.non] C8.E0 (tCons (tC (.int 0)) (tCons (tVar 2) tNil)))) tNext) (tRet (tMake C (spInitW C) [] C8.E0 (tCons (tC (.int 0)) (tCons (tC .non) (tCons (tVar 2) tNil)))))))
        { nx := fun _ H' => Q .non H', rt := Q } [some v, some (.str (wd k)), some (.int n)] H := by
      have we := wd_eq k
      refine ⟨_, rfl, rfl, _, rfl, ?_⟩
      rw [we.1]
      cases k with
      | add =>
        refine iteT ⟨_, rfl, fun x dx nx ndx nex => ?_⟩
        exact ⟨x, dx, some n, none, none, rfl, upd_same, (fun z => by cases z), fun H6 W6 k6 => ⟨rfl, q _ _ (made_same nx ndx k6) W6⟩⟩
      | floor =>
        refine iteF ⟨_, rfl, rfl, _, rfl, ?_⟩
        rw [we.2]
        refine iteT ⟨_, rfl, fun x dx nx ndx nex => ?_⟩
        exact ⟨x, dx, some 0, some n, none, rfl, upd_same, (fun z => by cases z), fun H6 W6 k6 => ⟨rfl, q _ _ (made_same nx ndx k6) W6⟩⟩
      | cap =>
        refine iteF ⟨_, rfl, rfl, _, rfl, ?_⟩
        rw [we.2]
        refine iteF ⟨_, rfl, fun x dx nx ndx nex => ?_⟩
        exact ⟨x, dx, some 0, none, some n, rfl, upd_same, (fun z => by cases z), fun H6 W6 k6 => ⟨rfl, q _ _ (made_same nx ndx k6) W6⟩⟩
    rcases hE with ⟨t, rfl, ht⟩ | ⟨t, rfl, ht⟩
    · refine ⟨_, (pss_cons (ps_asg (pv 0) (pg_tup rfl (pgs_cons (pg_name (i := 1) scEW.nd rfl (.inl rfl)) (pgs_cons (pg_name (i := 2) scEW.nd rfl (.inl rfl)) pgs_nil))))
  (pss_cons (ps_if (pt_cmpR op_eq (pv 1) pe_str (nomark _)) (pss_one (ps_ret (pe_mk c_Way1 hr (by decide) (by rfl) (pa_cons (pv 2) pa_nil)))) pss_nil)
  (pss_cons (ps_if (pt_cmpR op_eq (pv 1) pe_str (nomark _)) (pss_one (ps_ret (pe_mk c_Way2 hr (by decide) (by rfl) (pa_cons pe_int (pa_cons (pv 2) pa_nil))))) pss_nil)
  (pss_one (ps_ret (pe_mk c_Way3 hr (by decide) (by rfl) (pa_cons pe_int (pa_cons pe_non (pa_cons (pv 2) pa_nil))))))))), ?_⟩
      exact ⟨_, rfl, t, _, rfl, ht, rfl, _, _, rfl, _, _, rfl, rfl, tail⟩
    · refine ⟨_, (pss_cons (ps_asg (pv 0) (pg_unl rfl (pgs_cons (pg_name (i := 1) scEW.nd rfl (.inl rfl)) (pgs_cons (pg_name (i := 2) scEW.nd rfl (.inl rfl)) pgs_nil))))
  (pss_cons (ps_if (pt_cmpR op_eq (pv 1) pe_str (nomark _)) (pss_one (ps_ret (pe_mk c_Way1 hr (by decide) (by rfl) (pa_cons (pv 2) pa_nil)))) pss_nil)
  (pss_cons (ps_if (pt_cmpR op_eq (pv 1) pe_str (nomark _)) (pss_one (ps_ret (pe_mk c_Way2 hr (by decide) (by rfl) (pa_cons pe_int (pa_cons (pv 2) pa_nil))))) pss_nil)
  (pss_one (ps_ret (pe_mk c_Way3 hr (by decide) (by rfl) (pa_cons pe_int (pa_cons pe_non (pa_cons (pv 2) pa_nil))))))))), ?_⟩
      exact ⟨_, rfl, t, _, rfl, ht, rfl, _, _, rfl, _, _, rfl, rfl, tail⟩
theorem ok_wo {f : Addr} {fd : FuncData} (F : Fun K "way_of" "way_of" sWO f fd) (hc : PySem.W.selfFirst K C = true) (c_Way1 : Mak P w K mg base 1 "Way" C (spInitW C) [.non, .non]) (c_event_way : Cal P w K mg base 3 "event_way" (spEW K C) []) (o_rsh : Own P w K mg base 4 C "__rshift__" (spRsh C)) : FnOk P w K mg base CX0 5 f fd ["row"] (spWO K C) := by
  refine F.ok scWO (fun vs H Q E h => ?_) (fun cdv A outer s H vs Q E hr h => ?_)
  · obtain ⟨v, es, rfl, _⟩ := h
    rfl
  · obtain ⟨v, es, rfl, hR, q⟩ := h
    have turn : ∀ (i : Nat) (x : Addr) (y : V) (v2 : Option V) (e : Ev) (H3 : Hp) (D : Ends), Same H H3 → WayAt C H3 x (wayOf (es.take i)).1 (wayOf (es.take i)).2.1 (wayOf (es.take i)).2.2 → es[i]? = some e → (EvT K H3 y e ∨ EvL K H3 y e) →
        (∀ x' H4, Same H H4 → WayAt C H4 x' (wayOf (es.take (i + 1))).1 (wayOf (es.take (i + 1))).2.1 (wayOf (es.take (i + 1))).2.2 → D.nx [some v, some (.ref x'), some y] H4) →
        (tAsg (tOp (rBin C (spRsh C)) (tVar 1) (tCall (spEW K C) [] C8.E0 (tCons (tVar 2) tNil))) (gName 1)) D [some v, some (.ref x), some y] H3 := by
      intro i x y v2 e H3 D s3 W3 he hy k
      refine ⟨_, rfl, _, rfl, y, e, rfl, hy, fun r H4 s4 W4 => ?_⟩
      have W3' := W3.same s4
      obtain ⟨d1, h1⟩ := id W3'
      obtain ⟨d2, h2⟩ := id W4
      refine ⟨x, r, d1, d2, _, _, rfl, rfl, h1, h2, x, r, _, _, _, _, _, _, rfl, W3', W4, wf_way _, wf_ev e, fun r2 H5 s5 W5 => ?_⟩
      exact k r2 H5 ((s3.trans s4).trans s5) (by rw [way_take he]; exact W5)
    rcases hR with ⟨a, xs, rfl, hS, hX⟩ | ⟨a, xs, rfl, hS, hX⟩
    · refine ⟨_, (pss_cons (ps_set (i := 1) scWO.nd rfl (.inl rfl) (pe_mk c_Way1 hr (by decide) (by rfl) (pa_cons pe_int pa_nil)))
  (pss_cons (ps_for PassesOwn.never rfl (pi_tup (pv 0)) (pg_name (i := 2) scWO.nd rfl (.inl rfl)) (pss_one (ps_set (i := 1) scWO.nd rfl (.inl rfl) (pe_op (op_rsh o_rsh hc hr (by decide)) (pv 1) (pe_c c_event_way hr (by decide) (by rfl) (pa_cons (pv 2) pa_nil))))))
  (pss_one (ps_ret (pv 1))))), ?_⟩
      refine fun x dx nx ndx nex => ⟨x, dx, some 0, none, none, rfl, upd_same, (fun z => by cases z), fun H6 W6 k6 => ⟨rfl, ?_⟩⟩
      have s6 := made_same nx ndx k6
      refine ⟨_, rfl, a, rfl, ⟨_, s6.seT hS⟩, for_it (walk_tup (xs := xs)) (fun i σ H3 => ∃ x v2, σ = [some (.ref a), some (.ref x), v2] ∧ Same H H3 ∧ WayAt C H3 x (wayOf (es.take i)).1 (wayOf (es.take i)).2.1 (wayOf (es.take i)).2.2) ⟨x, none, rfl, s6, W6⟩ (fun i σ H3 _ ⟨_, _, _, s3, _⟩ => s3.seT hS) ?_ ?_⟩
      · rintro i y σ H3 H4 hi ⟨x, v2, rfl, s3, W3⟩ ⟨rfl, hy⟩
        have he : es[i]? = some (es[i]'(by rw [← hX.1]; exact hi)) := List.getElem?_eq_getElem _
        exact turn i x y v2 _ _ _ s3 W3 he (.inl ((hX.2 i y _ hy he).same s3)) fun x' H4 s4 W4 => ⟨x', some y, rfl, s4, W4⟩
      · rintro σ H3 ⟨x, v2, rfl, s3, W3⟩
        rw [hX.1, List.take_length] at W3
        exact ⟨_, rfl, q x H3 s3 W3⟩
    · refine ⟨_, (pss_cons (ps_set (i := 1) scWO.nd rfl (.inl rfl) (pe_mk c_Way1 hr (by decide) (by rfl) (pa_cons pe_int pa_nil)))
  (pss_cons (ps_for PassesOwn.never rfl (pi_list (pv 0)) (pg_name (i := 2) scWO.nd rfl (.inl rfl)) (pss_one (ps_set (i := 1) scWO.nd rfl (.inl rfl) (pe_op (op_rsh o_rsh hc hr (by decide)) (pv 1) (pe_c c_event_way hr (by decide) (by rfl) (pa_cons (pv 2) pa_nil))))))
  (pss_one (ps_ret (pv 1))))), ?_⟩
      refine fun x dx nx ndx nex => ⟨x, dx, some 0, none, none, rfl, upd_same, (fun z => by cases z), fun H6 W6 k6 => ⟨rfl, ?_⟩⟩
      have s6 := made_same nx ndx k6
      refine ⟨_, rfl, a, rfl, ⟨_, s6.seq hS⟩, for_it (walk_list (xs := xs)) (fun i σ H3 => ∃ x v2, σ = [some (.ref a), some (.ref x), v2] ∧ Same H H3 ∧ WayAt C H3 x (wayOf (es.take i)).1 (wayOf (es.take i)).2.1 (wayOf (es.take i)).2.2) ⟨x, none, rfl, s6, W6⟩ (fun i σ H3 _ ⟨_, _, _, s3, _⟩ => s3.seq hS) ?_ ?_⟩
      · rintro i y σ H3 H4 hi ⟨x, v2, rfl, s3, W3⟩ ⟨rfl, hy⟩
        have he : es[i]? = some (es[i]'(by rw [← hX.1]; exact hi)) := List.getElem?_eq_getElem _
        exact turn i x y v2 _ _ _ s3 W3 he (.inr ((hX.2 i y _ hy he).same s3)) fun x' H4 s4 W4 => ⟨x', some y, rfl, s4, W4⟩
      · rintro σ H3 ⟨x, v2, rfl, s3, W3⟩
        rw [hX.1, List.take_length] at W3
        exact ⟨_, rfl, q x H3 s3 W3⟩
end
end BL

namespace BL
open PySem PySem.Spec PyProof.Rows L2
open C8 (Cal Mak pe_c pe_mk)
/-! ### drawn rows, levels one behind another -/
abbrev bigN : Int := 1000000000000000000000000000000
def spNumber : Sp := fun vs H Q _ => ∃ (b : Addr) (n : Nat), vs = [.ref b] ∧ Box H b n ∧ n ≤ 900000000 ∧
  ∀ (r : Int) (H' : Hp), -bigN ≤ r → r ≤ bigN → But b H H' → Box H' b (n + 2) → Q (.int r) H'
def EvD (H : Hp) (v : V) (e : Ev) : Prop := ∃ t, v = .ref t ∧ H t = some (.tup [.str (wd e.1), .int e.2])
def RowD (H : Hp) (v : V) (es : List Ev) : Prop := ∃ a xs, v = .ref a ∧ H a = some (.tup xs) ∧ RowX (EvD H) xs es
theorem RowX.imp {R S : V → Ev → Prop} {xs : List V} {es : List Ev} (h : RowX R xs es) (k : ∀ v e, R v e → S v e) : RowX S xs es := ⟨h.1, fun i v e p q => k v e (h.2 i v e p q)⟩
theorem EvD.but {H H' : Hp} {b : Addr} {n : Nat} {v : V} {e : Ev} (h : EvD H v e) (B : Box H b n) (k : But b H H') : EvD H' v e := by
  obtain ⟨t, rfl, h⟩ := h
  exact ⟨t, rfl, k _ _ (B.ne h fun xs z => by cases z) h⟩
theorem EvD.upd {H : Hp} {D : Addr} {ys : List V} {o : HO} {v : V} {e : Ev} (h : EvD H v e) (eD : H D = some (.lst ys)) : EvD (upd H D o) v e := by
  obtain ⟨t, rfl, h⟩ := h
  refine ⟨t, rfl, ?_⟩
  rw [upd_ne (fun z => by rw [z, eD] at h; cases h)]
  exact h
theorem EvD.same {H H' : Hp} {v : V} {e : Ev} (h : EvD H v e) (k : Same H H') : EvD H' v e := by
  obtain ⟨t, rfl, h⟩ := h
  exact ⟨t, rfl, k _ _ h⟩
theorem RowD.same {H H' : Hp} {v : V} {es : List Ev} (h : RowD H v es) (k : Same H H') : RowD H' v es := by
  obtain ⟨a, xs, rfl, h, x⟩ := h
  exact ⟨a, xs, rfl, k _ _ h, x.imp fun _ _ z => z.same k⟩
theorem RowD.but {H H' : Hp} {b : Addr} {n : Nat} {v : V} {es : List Ev} (h : RowD H v es) (B : Box H b n) (k : But b H H') : RowD H' v es := by
  obtain ⟨a, xs, rfl, h, x⟩ := h
  exact ⟨a, xs, rfl, k _ _ (B.ne h fun xs z => by cases z) h, x.imp fun _ _ z => z.but B k⟩
theorem RowD.T {K : PySem.W.Frag} {H : Hp} {v : V} {es : List Ev} (h : RowD H v es) : RowT K H v es := by
  obtain ⟨a, xs, rfl, h, x⟩ := h
  exact ⟨a, xs, rfl, SqT.of h, x.imp fun _ _ ⟨t, e, k⟩ => ⟨t, e, SqT.of k⟩⟩
def okE (e : Ev) : Prop := -bigN ≤ e.2 ∧ e.2 ≤ bigN
theorem okE_snoc {es : List Ev} {e : Ev} (h : ∀ x ∈ es, okE x) (k : okE e) : ∀ x ∈ es ++ [e], okE x := fun x hx => by
  rcases List.mem_append.mp hx with hx | hx
  · exact h x hx
  · rw [List.mem_singleton.mp hx]; exact k
theorem Box.upd {H : Hp} {b D : Addr} {n : Nat} {o : HO} (h : Box H b n) (k : b ≠ D) : Box (upd H D o) b n := by
  obtain ⟨x, y, z, e, r, q⟩ := h
  exact ⟨x, y, z, by rw [upd_ne k]; exact e, r, q⟩
theorem But.upd {H H1 : Hp} {b D : Addr} {o : HO} (h : But b H H1) (k : H D = Option.none) : But b H (upd H1 D o) := fun c p n e => by
  rw [upd_ne (ne_of_none e k)]
  exact h c p n e
/-- rows under way: a list D of tuples -/
structure Part (H0 H : Hp) (b D : Addr) (n k : Nat) : Prop where
  ne : b ≠ D
  bx : Box H b n
  bu : But b H0 H
  rows : ∃ xs es, H D = some (.lst xs) ∧ es.length = k ∧ RowX (EvD H) xs es ∧ ∀ x ∈ es, okE x
theorem Part.snoc {H0 H H1 : Hp} {b D t : Addr} {n m k : Nat} {e : Ev} (p : Part H0 H b D n k) (n0 : H0 D = none) (h : But b H H1) (B : Box H1 b m) (ht : H1 t = some (.tup [.str (wd e.1), .int e.2])) (ke : okE e) :
    ∃ xs, H1 D = some (.lst xs) ∧ xs.length = k ∧ Part H0 (upd H1 D (.lst (xs ++ [.ref t]))) b D m (k + 1) := by
  obtain ⟨xs, es, eD, l, x, o⟩ := p.rows
  have eD1 := h _ _ p.ne.symm eD
  refine ⟨xs, eD1, by rw [x.1, l], p.ne, B.upd p.ne, (p.bu.trans h).upd n0, xs ++ [.ref t], es ++ [e], upd_same, by rw [List.length_append, l]; rfl, ?_, okE_snoc o ke⟩
  exact rowx_snoc (x.imp fun v e z => (z.but p.bx h).upd eD1) (EvD.upd (v := .ref t) (e := e) ⟨t, rfl, ht⟩ eD1)
theorem Part.row {H0 H : Hp} {b D l : Addr} {n k : Nat} (p : Part H0 H b D n k) (nl : H l = none) {xs : List V} (eD : H D = some (.lst xs)) : ∃ es, RowD (upd H l (.tup xs)) (.ref l) es ∧ es.length = k ∧ ∀ x ∈ es, okE x := by
  obtain ⟨ys, es, eD', le, x, o⟩ := p.rows
  rw [eD] at eD'
  cases eD'
  exact ⟨es, ⟨l, xs, rfl, upd_same, x.imp fun v e z => z.same (same_upd nl)⟩, le, o⟩
def spEvent : Sp := fun vs H Q _ => ∃ (b : Addr) (n : Nat), vs = [.ref b] ∧ Box H b n ∧ n ≤ 800000000 ∧
  ∀ (t : Addr) (e : Ev) (H' : Hp), But b H H' → Box H' b (n + 3) → H' t = some (.tup [.str (wd e.1), .int e.2]) → okE e → Q (.ref t) H'
def spRow : Sp := fun vs H Q _ => ∃ (b : Addr) (m : Int) (n : Nat), vs = [.ref b, .int m] ∧ 0 ≤ m ∧ m ≤ 100 ∧ Box H b n ∧ n ≤ 700000000 ∧
  ∀ (v : V) (es : List Ev) (H' : Hp), But b H H' → Box H' b (n + 400) → RowD H' v es → (es.length ≤ m) → (∀ x ∈ es, okE x) → Q v H'
theorem word_at {i : Nat} {v : V} (h : [V.str "add", V.str "add", V.str "floor", V.str "cap"][i]? = some v) : ∃ k, v = .str (wd k) := by
  refine mem_at (R := fun v => ∃ k, v = .str (wd k)) (fun x hx => ?_) h
  simp only [List.mem_cons, List.not_mem_nil, or_false] at hx
  rcases hx with rfl | rfl | rfl | rfl
  · exact ⟨.add, rfl⟩
  · exact ⟨.add, rfl⟩
  · exact ⟨.floor, rfl⟩
  · exact ⟨.cap, rfl⟩
section
variable {P : Program} {w : World} {K : PySem.W.Frag} {mg : Str → Option Value} {base : Heap} {C : Addr}
theorem ok_number {f : Addr} {fd : FuncData} (F : Fun K "_law_number" "_law_number" sNumber f fd) (c__law_take : Cal P w K mg base 1 "_law_take" spTake []) (c__law_of : Cal P w K mg base 2 "_law_of" (spOf K) []) : FnOk P w K mg base CX0 3 f fd ["_law_box_here"] spNumber := by
  refine F.ok scNumber (fun vs H Q E h => ?_) (fun cdv A outer s H vs Q E hr h => ?_)
  · obtain ⟨b, n, rfl, _⟩ := h
    rfl
  · obtain ⟨b, n, rfl, hB, hn, q⟩ := h
    refine ⟨_, (pss_cons (ps_set (i := 1) scNumber.nd rfl (.inl rfl) (pe_op op_sub (pe_c c__law_take hr (by decide) (by rfl) (pa_cons (pv 0) (pa_cons pe_int pa_nil))) pe_int))
  (pss_one (ps_ret (pe_op op_mul (pv 1) (pe_c c__law_of hr (by decide) (by rfl) (pa_cons (pv 0) (pa_cons (pe_lst (pa_cons pe_int (pa_cons pe_int (pa_cons pe_int (pa_cons pe_int (pa_cons pe_int (pa_cons pe_int (pa_cons pe_int (pa_cons (pe_op op_pow pe_int pe_int) pa_nil))))))))) pa_nil))))))), ?_⟩
    refine ⟨_, rfl, b, 17, n, rfl, by decide, by decide, hB, by omega, fun r1 H1 r10 r11 b1 B1 => ⟨_, _, rfl, rfl, ?_⟩⟩
    refine ⟨_, rfl, _, rfl, 10, 29, rfl, rfl, ⟨by decide, by decide, by decide⟩, (by show 8 ≤ sizeLine; decide), fun l nl => ?_⟩
    have s2 := b1.same (same_upd (o := .lst [.int 1, .int 1, .int 1, .int 1, .int 1, .int 1, .int 1, .int (10 ^ 29)]) nl)
    have nb : l ≠ b := B1.nb nl
    refine ⟨b, l, _, n + 1, rfl, upd_same, nb, (fun h => by cases h), (by decide), B1.same (same_upd nl), by omega, fun i v H2 hv b2 B2 => ?_⟩
    obtain ⟨u, hu, rfl⟩ : ∃ u : Int, (u = 1 ∨ u = 100000000000000000000000000000) ∧ v = .int u := by
      refine mem_at (R := fun v => ∃ u : Int, (u = 1 ∨ u = 100000000000000000000000000000) ∧ v = .int u) (fun x hx => ?_) hv
      simp only [List.mem_cons, List.not_mem_nil, or_false] at hx
      rcases hx with rfl | rfl | rfl | rfl | rfl | rfl | rfl | rfl
      all_goals first | exact ⟨_, .inl rfl, rfl⟩ | exact ⟨_, .inr (by decide +kernel), rfl⟩
    refine ⟨_, _, rfl, rfl, .inl ⟨by omega, by omega⟩, ?_⟩
    exact q ((r1 - 8) * u) H2 (by unfold bigN; rcases hu with rfl | rfl <;> omega) (by unfold bigN; rcases hu with rfl | rfl <;> omega) (s2.trans b2) B2
theorem ok_event {f : Addr} {fd : FuncData} (F : Fun K "_law_event" "_law_event" sEvent f fd) (c__law_of : Cal P w K mg base 2 "_law_of" (spOf K) []) (c__law_number : Cal P w K mg base 3 "_law_number" spNumber []) : FnOk P w K mg base CX0 4 f fd ["_law_box_here"] spEvent := by
  refine F.ok scEvent (fun vs H Q E h => ?_) (fun cdv A outer s H vs Q E hr h => ?_)
  · obtain ⟨b, n, rfl, _⟩ := h
    rfl
  · obtain ⟨b, n, rfl, hB, hn, q⟩ := h
    refine ⟨_, (pss_one (ps_ret (pe_tup (pa_cons (pe_c c__law_of hr (by decide) (by rfl) (pa_cons (pv 0) (pa_cons (pe_lst (pa_cons pe_str (pa_cons pe_str (pa_cons pe_str (pa_cons pe_str pa_nil))))) pa_nil))) (pa_cons (pe_c c__law_number hr (by decide) (by rfl) (pa_cons (pv 0) pa_nil)) pa_nil))))), ?_⟩
    refine ⟨_, rfl, (by show 4 ≤ sizeLine; decide), fun l nl => ?_⟩
    refine ⟨b, l, _, n, rfl, upd_same, hB.nb nl, (fun h => by cases h), (by decide), hB.same (same_upd nl), by omega, fun i v H2 hv b2 B2 => ?_⟩
    obtain ⟨k, rfl⟩ := word_at hv
    refine ⟨_, rfl, b, n + 1, rfl, B2, by omega, fun r H3 r0 r1 b3 B3 => ⟨(by show 2 ≤ sizeLine; decide), fun t nt => ?_⟩⟩
    exact q t (k, r) _ ((((But.of (same_upd nl)).trans b2).trans b3).same (same_upd nt)) (B3.same (same_upd nt)) upd_same ⟨r0, r1⟩
theorem ok_events {f : Addr} {fd : FuncData} (F : Fun K "_law_events" "_law_events" sEvents f fd) (T : Bt mg) (c__law_take : Cal P w K mg base 1 "_law_take" spTake []) (c__law_event : Cal P w K mg base 4 "_law_event" spEvent []) : FnOk P w K mg base CX0 5 f fd ["_law_box_here", "_law_most_so"] spRow := by
  refine F.ok scEvents (fun vs H Q E h => ?_) (fun cdv A outer s H vs Q E hr h => ?_)
  · obtain ⟨b, m, n, rfl, _⟩ := h
    rfl
  · obtain ⟨b, m, n, rfl, m0, m1, hB, hn, q⟩ := h
    refine ⟨_, (pss_one (ps_ret (pe_callTy call_tuple_of (by rfl) T.tuple (by decide +kernel) (pa_cons (pe_lc (own := [("_law_turn", 2)]) (g := gName 2) (by rfl) scEvents.nd (pi_range1 (by rfl) T.range (pa_cons (pe_c c__law_take hr (by decide) (by rfl) (pa_cons (pv 0) (pa_cons (pe_op op_add (pv 1) pe_int) pa_nil))) pa_nil)) (blkOk_by (own := [("_law_turn", 2)]) (N := nEvents) (sc := defScope sEvents) (by decide +kernel)) (fun _ _ _ _ _ => (pg_name (i := 2) scEvents.nd rfl (.inl rfl))) (fun _ _ _ _ _ => pts_nil) (fun _ _ _ _ _ => (pe_c c__law_event hr (by decide) (by rfl) (pa_cons (pv 0) pa_nil)))) pa_nil)))), ?_⟩
    refine ⟨_, rfl, _, rfl, _, _, rfl, rfl, b, m + 1, n, rfl, by omega, by omega, hB, by omega, fun r H1 r0 r1 b1 B1 => ⟨r, rfl, by omega, by omega, fun D nD => ?_⟩⟩
    refine lc_it (walk_range (lo := 0) (n := (r : Int).toNat)) (fun k H6 => Part H1 H6 b D (n + 1 + 3 * k) k) ⟨(B1.nb nD).symm, B1.same (same_upd nD), But.of (same_upd nD), [], [], upd_same, rfl, rowx_nil, fun x hx => by cases hx⟩ (fun _ _ _ _ => trivial) ?_ ?_
    · rintro k y H6 H7 hk p6 ⟨rfl, rfl⟩
      refine ⟨rfl, ?_⟩
      dsimp only [tYes]
      refine iteT ⟨_, rfl, b, _, rfl, p6.bx, by omega, fun t e H8 b8 B8 ht ke => ?_⟩
      obtain ⟨xs, h1, h2, h3⟩ := p6.snoc nD b8 B8 ht ke
      exact ⟨xs, h1, small1000 (by omega), by rw [show n + 1 + 3 * (k + 1) = n + 1 + 3 * k + 3 from by omega]; exact h3⟩
    · intro H6 p6
      obtain ⟨xs, es0, eD, _⟩ := id p6.rows
      refine ⟨D, xs, rfl, .inl ⟨SqL.of eD, fun l nl => ?_⟩⟩
      obtain ⟨es, h1, h2, h3⟩ := p6.row nl eD
      exact q _ es _ ((b1.trans p6.bu).same (same_upd nl)) ((p6.bx.le (by omega)).same (same_upd nl)) h1 (by omega) h3
theorem ok_small {f : Addr} {fd : FuncData} (F : Fun K "_law_small" "_law_small" sSmall f fd) (T : Bt mg) (c__law_take : Cal P w K mg base 1 "_law_take" spTake []) (c__law_of : Cal P w K mg base 2 "_law_of" (spOf K) []) : FnOk P w K mg base CX0 5 f fd ["_law_box_here", "_law_most_so"] spRow := by
  refine F.ok scSmall (fun vs H Q E h => ?_) (fun cdv A outer s H vs Q E hr h => ?_)
  · obtain ⟨b, m, n, rfl, _⟩ := h
    rfl
  · obtain ⟨b, m, n, rfl, m0, m1, hB, hn, q⟩ := h
    refine ⟨_, (pss_cons (ps_set (i := 2) scSmall.nd rfl (.inl rfl) (pe_lst pa_nil))
  (pss_cons (ps_for PassesOwn.never rfl (pi_range1 (by rfl) T.range (pa_cons (pe_c c__law_take hr (by decide) (by rfl) (pa_cons (pv 0) (pa_cons (pe_op op_add (pv 1) pe_int) pa_nil))) pa_nil)) (pg_name (i := 3) scSmall.nd rfl (.inl rfl)) (pss_one (ps_expr (pe_bm PySem.F.plainAttrs_list PySem.F.slot_list_append PySem.F.type_list_append mt_append (pv 2) (pa_cons (pe_tup (pa_cons (pe_c c__law_of hr (by decide) (by rfl) (pa_cons (pv 0) (pa_cons (pe_lst (pa_cons pe_str (pa_cons pe_str (pa_cons pe_str (pa_cons pe_str pa_nil))))) pa_nil))) (pa_cons (pe_op op_sub (pe_c c__law_take hr (by decide) (by rfl) (pa_cons (pv 0) (pa_cons pe_int pa_nil))) pe_int) pa_nil))) pa_nil)))))
  (pss_one (ps_ret (pe_callTy call_tuple_of (by rfl) T.tuple (by decide +kernel) (pa_cons (pv 2) pa_nil)))))), ?_⟩
    refine ⟨(by show 0 ≤ sizeLine; decide), fun D nD => ?_⟩
    refine ⟨_, rfl, _, rfl, _, _, rfl, rfl, b, m + 1, n, rfl, by omega, by omega, hB.same (same_upd nD), by omega, fun r H1 r0 r1 b1 B1 => ⟨r, rfl, by omega, by omega, for_it (walk_range (lo := 0) (n := (r : Int).toNat)) (fun i σ H3 => ∃ v3, σ = [some (.ref b), some (.int m), some (.ref D), v3] ∧ Part H H3 b D (n + 1 + 2 * i) i) ⟨none, rfl, (hB.nb nD).symm, B1, (But.of (same_upd nD)).trans b1, [], [], b1 _ _ (hB.nb nD) upd_same, rfl, rowx_nil, fun x hx => by cases hx⟩ (fun _ _ _ _ _ => trivial) ?_ ?_⟩⟩
    · rintro i y σ H3 H4 hi ⟨v3, rfl, p3⟩ ⟨rfl, rfl⟩
      obtain ⟨xs3, es3, eD3, _⟩ := id p3.rows
      refine ⟨_, rfl, .inl ⟨rfl, _, SqL.of eD3⟩, _, rfl, (by show 4 ≤ sizeLine; decide), fun l nl => ?_⟩
      have B3 := p3.bx.same (same_upd (o := .lst [.str "add", .str "add", .str "floor", .str "cap"]) nl)
      refine ⟨b, l, _, _, rfl, upd_same, p3.bx.nb nl, (fun h => by cases h), (by decide), B3, by omega, fun j v H5 hv b5 B5 => ?_⟩
      obtain ⟨k, rfl⟩ := word_at hv
      refine ⟨_, rfl, b, 17, _, rfl, by decide, by decide, B5, by omega, fun r2 H6 r20 r21 b6 B6 => ⟨_, _, rfl, rfl, (by show 2 ≤ sizeLine; decide), fun t nt => ?_⟩⟩
      obtain ⟨xs, h1, h2, h3⟩ := p3.snoc (e := (k, r2 - 8)) nD ((((But.of (same_upd nl)).trans b5).trans b6).same (same_upd nt)) (B6.same (same_upd nt)) upd_same ⟨by unfold bigN; show _ ≤ r2 - 8; omega, by unfold bigN; show r2 - 8 ≤ _; omega⟩
      exact ⟨D, xs, _, rfl, rfl, h1, small1000 (by omega), _, rfl, by rw [show n + 1 + 2 * (i + 1) = n + 1 + 2 * i + 1 + 1 from by omega]; exact h3⟩
    · rintro σ H3 ⟨v3, rfl, p3⟩
      obtain ⟨xs, es0, eD, _⟩ := id p3.rows
      refine ⟨_, rfl, D, xs, rfl, .inl ⟨SqL.of eD, fun l nl => ?_⟩⟩
      obtain ⟨es, h1, h2, h3⟩ := p3.row nl eD
      exact q _ es _ (p3.bu.same (same_upd nl)) ((p3.bx.le (by omega)).same (same_upd nl)) h1 (by omega) h3
end
end BL

namespace BL
open PySem PySem.Spec PyProof.Rows L2
open C8 (Cal Mak pe_c pe_mk)
/-! ### levels one behind another -/
def spOn (K : PySem.W.Frag) : Sp := fun vs H Q _ => ∃ (x : Int) (v : V) (e : Ev), vs = [.int x, v] ∧ EvT K H v e ∧ Q (.int (evs e x)) H
def spTrace (K : PySem.W.Frag) : Sp := fun vs H Q _ => ∃ (v : V) (es : List Ev) (x : Int), vs = [v, .int x] ∧ RowT K H v es ∧ es.length ≤ 900 ∧
  ∀ l ys H', Same H H' → H' l = some (.lst (ys ++ [.int (ends es x)])) → Q (.ref l) H'
def spLast (K : PySem.W.Frag) : Sp := fun vs H Q _ => ∃ (v : V) (es : List Ev) (x : Int), vs = [v, .int x] ∧ RowT K H v es ∧ es.length ≤ 900 ∧
  ∀ H', Same H H' → Q (.int (ends es x)) H'
theorem _root_.L2.Same.upd {H H1 : Hp} {D : Addr} {o : HO} (h : Same H H1) (k : H D = none) : Same H (upd H1 D o) := fun c p e => by
  rw [upd_ne (ne_of_none e k)]
  exact h c p e
section
variable {P : Program} {w : World} {K : PySem.W.Frag} {mg : Str → Option Value} {base : Heap} {C : Addr}
theorem ok_on {f : Addr} {fd : FuncData} (F : Fun K "_law_on" "_law_on" sOn f fd) : FnOk P w K mg base CX0 1 f fd ["_law_level_so", "_law_entry"] (spOn K) := by
  refine F.ok scOn (fun vs H Q E h => ?_) (fun cdv A outer s H vs Q E hr h => ?_)
  · obtain ⟨x, v, e, rfl, _⟩ := h
    rfl
  · obtain ⟨x, v, ⟨k, n⟩, rfl, ⟨t, rfl, ht⟩, q⟩ := h
    refine ⟨_, (pss_cons (ps_if (pt_cmpR op_eq (pe_ix ix_tup (pv 1) pe_int (fun _ _ => rfl)) pe_str (nomark _)) (pss_one (ps_ret (pe_op op_add (pv 0) (pe_ix ix_tup (pv 1) pe_int (fun _ _ => rfl))))) pss_nil)
  (pss_cons (ps_if (pt_cmpR op_eq (pe_ix ix_tup (pv 1) pe_int (fun _ _ => rfl)) pe_str (nomark _)) (pss_one (ps_ret (pe_ifExp (pt_cmpR op_lt (pv 0) (pe_ix ix_tup (pv 1) pe_int (fun _ _ => rfl)) (nomark _)) (pe_ix ix_tup (pv 1) pe_int (fun _ _ => rfl)) (pv 0)))) pss_nil)
  (pss_one (ps_ret (pe_ifExp (pt_cmpR op_gt (pv 0) (pe_ix ix_tup (pv 1) pe_int (fun _ _ => rfl)) (nomark _)) (pe_ix ix_tup (pv 1) pe_int (fun _ _ => rfl)) (pv 0)))))), ?_⟩
    have we := wd_eq k
    have q' : Q (.int (evs (k, n) x)) H := q
    refine ⟨_, rfl, t, _, _, _, rfl, rfl, ht, atI_nat (j := 0) rfl, rfl, _, rfl, ?_⟩
    rw [we.1]
    cases k with
    | add =>
      refine iteT ⟨_, rfl, _, rfl, t, _, _, _, rfl, rfl, ht, atI_nat (j := 1) rfl, _, _, rfl, rfl, q'⟩
    | floor =>
      refine iteF ⟨_, rfl, t, _, _, _, rfl, rfl, ht, atI_nat (j := 0) rfl, rfl, _, rfl, ?_⟩
      rw [we.2]
      refine iteT ⟨_, rfl, _, rfl, t, _, _, _, rfl, rfl, ht, atI_nat (j := 1) rfl, _, _, rfl, rfl, _, rfl, ?_⟩
      refine ite2 (fun g => ?_) (fun g => ?_)
      all_goals simp only [decide_eq_true_eq] at g
      · refine ⟨_, rfl, t, _, _, _, rfl, rfl, ht, atI_nat (j := 1) rfl, ?_⟩
        rw [show evs (.floor, n) x = n from by show max x n = n; omega] at q'
        exact q'
      · rw [show evs (.floor, n) x = x from by show max x n = x; omega] at q'
        exact ⟨_, rfl, q'⟩
    | cap =>
      refine iteF ⟨_, rfl, t, _, _, _, rfl, rfl, ht, atI_nat (j := 0) rfl, rfl, _, rfl, ?_⟩
      rw [we.2]
      refine iteF ⟨_, rfl, _, rfl, t, _, _, _, rfl, rfl, ht, atI_nat (j := 1) rfl, _, _, rfl, rfl, _, rfl, ?_⟩
      refine ite2 (fun g => ?_) (fun g => ?_)
      all_goals simp only [decide_eq_true_eq] at g
      · refine ⟨_, rfl, t, _, _, _, rfl, rfl, ht, atI_nat (j := 1) rfl, ?_⟩
        rw [show evs (.cap, n) x = n from by show min x n = n; omega] at q'
        exact q'
      · rw [show evs (.cap, n) x = x from by show min x n = x; omega] at q'
        exact ⟨_, rfl, q'⟩
theorem ok_trace {f : Addr} {fd : FuncData} (F : Fun K "_law_trace" "_law_trace" sTrace f fd) (c__law_on : Cal P w K mg base 1 "_law_on" (spOn K) []) : FnOk P w K mg base CX0 2 f fd ["_law_row_so", "_law_begin"] (spTrace K) := by
  refine F.ok scTrace (fun vs H Q E h => ?_) (fun cdv A outer s H vs Q E hr h => ?_)
  · obtain ⟨v, es, x, rfl, _⟩ := h
    rfl
  · obtain ⟨v, es, x, rfl, hR, hl, q⟩ := h
    obtain ⟨a, xs, rfl, hS, hX⟩ := id hR
    refine ⟨_, (pss_cons (ps_set (i := 2) scTrace.nd rfl (.inl rfl) (pe_lst (pa_cons (pv 1) pa_nil)))
  (pss_cons (ps_for PassesOwn.never rfl (pi_tup (pv 0)) (pg_name (i := 3) scTrace.nd rfl (.inl rfl)) (pss_one (ps_expr (pe_bm PySem.F.plainAttrs_list PySem.F.slot_list_append PySem.F.type_list_append mt_append (pv 2) (pa_cons (pe_c c__law_on hr (by decide) (by rfl) (pa_cons (pe_ix ix_list (pv 2) (pe_un un_neg pe_int) (fun _ _ => rfl)) (pa_cons (pv 3) pa_nil))) pa_nil)))))
  (pss_one (ps_ret (pv 2))))), ?_⟩
    refine ⟨_, rfl, (by show 1 ≤ sizeLine; decide), fun D nD => ?_⟩
    have s1 := same_upd (o := .lst [.int x]) nD
    refine ⟨_, rfl, a, rfl, ⟨_, s1.seT hS⟩, for_it (walk_tup (xs := xs)) (fun i σ H3 => ∃ ys v3, σ = [some (.ref a), some (.int x), some (.ref D), v3] ∧ Same H H3 ∧ ys.length = i ∧ H3 D = some (.lst (ys ++ [.int (ends (es.take i) x)]))) ⟨[], none, rfl, s1, rfl, upd_same⟩ (fun i σ H3 _ ⟨_, _, _, s3, _⟩ => s3.seT hS) ?_ ?_⟩
    · rintro i y σ H3 H4 hi ⟨ys, v3, rfl, s3, ly, e3⟩ ⟨rfl, hy⟩
      have he : es[i]? = some (es[i]'(by rw [← hX.1]; exact hi)) := List.getElem?_eq_getElem _
      have hv := (hX.2 i y _ hy he).same s3
      have hx := hX.1
      refine ⟨_, rfl, .inl ⟨rfl, _, SqL.of e3⟩, _, rfl, _, rfl, D, _, _, _, rfl, rfl, SqL.of e3, atI_last _ _, _, rfl, _, _, _, rfl, hv, ?_⟩
      refine ⟨D, _, _, rfl, rfl, e3, small1000 (by rw [List.length_append, ly]; show i + 1 ≤ 1000; omega), ys ++ [.int (ends (es.take i) x)], some y, rfl, s3.upd nD, ?_, ?_⟩
      · rw [List.length_append, ly]; rfl
      · rw [ends_take he]
        exact upd_same
    · rintro σ H3 ⟨ys, v3, rfl, s3, ly, e3⟩
      rw [hX.1, List.take_length] at e3
      exact ⟨_, rfl, q D ys H3 s3 e3⟩
theorem ok_last {f : Addr} {fd : FuncData} (F : Fun K "_law_last" "_law_last" sLast f fd) (c__law_trace : Cal P w K mg base 2 "_law_trace" (spTrace K) []) : FnOk P w K mg base CX0 3 f fd ["_law_row_so", "_law_begin"] (spLast K) := by
  refine F.ok scLast (fun vs H Q E h => ?_) (fun cdv A outer s H vs Q E hr h => ?_)
  · obtain ⟨v, es, x, rfl, _⟩ := h
    rfl
  · obtain ⟨v, es, x, rfl, hR, hl, q⟩ := h
    refine ⟨_, (pss_one (ps_ret (pe_ix ix_list (pe_c c__law_trace hr (by decide) (by rfl) (pa_cons (pv 0) (pa_cons (pv 1) pa_nil))) (pe_un un_neg pe_int) (fun _ _ => rfl)))), ?_⟩
    refine ⟨_, rfl, _, rfl, v, es, x, rfl, hR, hl, fun l ys H2 s2 e2 => ?_⟩
    exact ⟨_, rfl, l, _, _, _, rfl, rfl, SqL.of e2, atI_last _ _, q H2 s2⟩
end
end BL

namespace BL
open PySem PySem.Spec PyProof.Rows L2
open C8 (Cal Mak pe_c pe_mk)
/-! ### far starts -/
/-- how far the numbers of a row reach together -/
def reach (es : List Ev) : Int := es.foldl (fun r e => r + (e.2.natAbs : Int)) 0
theorem reach_go : ∀ (es : List Ev) (r : Int), es.foldl (fun r e => r + (e.2.natAbs : Int)) r = r + reach es
  | [], r => by show r = r + 0; omega
  | e :: es, r => by
    show es.foldl _ (r + (e.2.natAbs : Int)) = r + es.foldl _ (0 + (e.2.natAbs : Int))
    rw [reach_go es, reach_go es (0 + _)]
    omega
theorem reach_cons (e : Ev) (es : List Ev) : reach (e :: es) = (e.2.natAbs : Int) + reach es := by
  show es.foldl _ (0 + (e.2.natAbs : Int)) = _
  rw [reach_go]
  omega
theorem reach_nn : ∀ es : List Ev, 0 ≤ reach es
  | [] => Int.le_refl _
  | e :: es => by rw [reach_cons]; have := reach_nn es; omega
theorem reach_le : ∀ {es : List Ev}, (∀ e ∈ es, -bigN ≤ e.2 ∧ e.2 ≤ bigN) → reach es ≤ es.length * bigN
  | [], _ => by show (0 : Int) ≤ _; simp
  | e :: es, h => by
    rw [reach_cons]
    have a := reach_le (es := es) fun x hx => h x (List.mem_cons_of_mem _ hx)
    have b := h e List.mem_cons_self
    rw [List.length_cons]
    unfold bigN at *
    omega
/-- the adds of a row, together -/
def adds : List Ev → Int
  | [] => 0
  | e :: es => (match e.1 with | .add => e.2 | _ => 0) + adds es
def R (x : Int) (o : Option Int) : Prop := ∀ a, o = some a → -x ≤ a ∧ a ≤ x
/-- what a row's way looks like: bounds near 0, its shift the adds -/
structure Near (w : Tri) (r : Int) (s : Int) : Prop where
  fl : R r w.2.1
  cp : R r w.2.2
  sh : ∀ a, w.1 = some a → a = s
  rs : -r ≤ s ∧ s ≤ r
theorem nrm_some {s f c : Option Int} {x : Int} (h : nrm s f c = some x) : s = some x := by
  unfold nrm at h
  cases f <;> cases c <;> dsimp only at h <;> first | exact h | skip
  split at h
  · cases h
  · exact h
def addOf (e : Ev) : Int := match e.1 with
  | .add => e.2
  | _ => 0
theorem adds_cons (e : Ev) (es : List Ev) : adds (e :: es) = addOf e + adds es := rfl
theorem rsB_near {r r' : Int} {s2 f2 c2 o o2 : Option Int} (h : R r o) (k : R r' o2) (g : ∀ z, -r ≤ z → z ≤ r → -r' ≤ ld s2 f2 c2 z ∧ ld s2 f2 c2 z ≤ r') : R r' (rsB s2 f2 c2 o o2) := by
  unfold rsB
  cases o with
  | none => exact k
  | some z =>
    have a := h z rfl
    exact fun x hx => by
      cases hx
      exact g z a.1 a.2
theorem near_step {w : Tri} {r s : Int} (N : Near w r s) (e : Ev) : Near (rshT w (evW e)) (r + (e.2.natAbs : Int)) (s + addOf e) := by
  obtain ⟨k, n⟩ := e
  obtain ⟨a, f, c⟩ := w
  obtain ⟨n1, n2, n3, n4⟩ := N
  dsimp only at n1 n2 n3 n4 ⊢
  have sh : ∀ m, (∀ F C, (nrm (rsS a (some m)) F C = none ∨ ∀ x, nrm (rsS a (some m)) F C = some x → x = s + m)) := fun m F C => .inr fun x hx => by
    have q := nrm_some hx
    cases a with
    | none => cases q
    | some y =>
      have := n3 y rfl
      cases q
      omega
  have sh' : ∀ m F C x, nrm (rsS a (some m)) F C = some x → x = s + m := fun m F C x hx => by
    rcases sh m F C with h | h
    · rw [h] at hx; cases hx
    · exact h x hx
  cases k with
  | add =>
    refine ⟨rsB_near n1 (fun x hx => by cases hx) fun z z1 z2 => ?_, rsB_near n2 (fun x hx => by cases hx) fun z z1 z2 => ?_, sh' n _ _, ?_⟩
    · show _ ≤ bnd (z + n) none none ∧ bnd (z + n) none none ≤ _
      rw [bnd_none]; omega
    · show _ ≤ bnd (z + n) none none ∧ bnd (z + n) none none ≤ _
      rw [bnd_none]; omega
    · show _ ≤ s + n ∧ s + n ≤ _
      omega
  | floor =>
    refine ⟨rsB_near n1 (fun x hx => by cases hx; omega) fun z z1 z2 => ?_, rsB_near n2 (fun x hx => by cases hx) fun z z1 z2 => ?_, fun x hx => ?_, ?_⟩
    · show _ ≤ bnd (z + 0) (some n) none ∧ bnd (z + 0) (some n) none ≤ _
      rw [bnd_lo]; omega
    · show _ ≤ bnd (z + 0) (some n) none ∧ bnd (z + 0) (some n) none ≤ _
      rw [bnd_lo]; omega
    · exact sh' 0 _ _ x hx
    · show _ ≤ s + 0 ∧ s + 0 ≤ _
      omega
  | cap =>
    refine ⟨rsB_near n1 (fun x hx => by cases hx) fun z z1 z2 => ?_, rsB_near n2 (fun x hx => by cases hx; omega) fun z z1 z2 => ?_, fun x hx => ?_, ?_⟩
    · show _ ≤ bnd (z + 0) none (some n) ∧ bnd (z + 0) none (some n) ≤ _
      rw [bnd_hi]; omega
    · show _ ≤ bnd (z + 0) none (some n) ∧ bnd (z + 0) none (some n) ≤ _
      rw [bnd_hi]; omega
    · exact sh' 0 _ _ x hx
    · show _ ≤ s + 0 ∧ s + 0 ≤ _
      omega
theorem near_go : ∀ (es : List Ev) (w : Tri) (r s : Int), Near w r s → Near (es.foldl (fun w e => rshT w (evW e)) w) (r + reach es) (s + adds es)
  | [], w, r, s, N => by
    rw [show reach [] = 0 from rfl, show adds [] = 0 from rfl, Int.add_zero, Int.add_zero]
    exact N
  | e :: es, w, r, s, N => by
    have q := near_go es _ _ _ (near_step N e)
    rw [reach_cons, adds_cons, ← Int.add_assoc, ← Int.add_assoc]
    exact q
theorem near_way (es : List Ev) : Near (wayOf es) (reach es) (adds es) := by
  have q := near_go es zer 0 0 ⟨fun x h => (by cases h), fun x h => (by cases h), fun x h => (by cases h; rfl), by decide⟩
  rw [Int.zero_add, Int.zero_add] at q
  exact q
abbrev far33 : Int := 1000000000000000000000000000000000
abbrev far34 : Int := 10000000000000000000000000000000000
theorem far_ok {w : Tri} {r s : Int} (W : wf3 w) (N : Near w r s) (hr : r < far33) (L T : Int) (hL : L = ld3 w (-far34)) (hT : T = ld3 w far34) :
    w.2.1 = (if -far33 < L then some L else none) ∧ w.2.2 = (if T < far33 then some T else none) ∧ (w.1 = none ↔ L = T) ∧ (L ≠ T → w.1 = some s) := by
  obtain ⟨a, f, c⟩ := w
  obtain ⟨n1, n2, n3, n4⟩ := N
  obtain ⟨w1, w2, w3⟩ := W
  unfold far33 at hr ⊢
  unfold far34 at hL hT
  dsimp only at n1 n2 n3 n4 w1 w2 w3 ⊢
  cases a with
  | none =>
    obtain ⟨x, rfl, rfl⟩ := w2 rfl
    have := n1 x rfl
    obtain rfl : L = x := hL
    obtain rfl : T = L := hT
    rw [if_pos (by omega), if_pos (by omega)]
    exact ⟨rfl, rfl, by simp, fun h => absurd rfl h⟩
  | some t =>
    obtain rfl := n3 t rfl
    replace hL : L = bnd (-10000000000000000000000000000000000 + t) f c := hL
    replace hT : T = bnd (10000000000000000000000000000000000 + t) f c := hT
    cases f with
    | none =>
      cases c with
      | none =>
        rw [bnd_none] at hL hT
        rw [if_neg (by omega), if_neg (by omega)]
        exact ⟨rfl, rfl, ⟨fun h => (by cases h), fun h => by omega⟩, fun _ => rfl⟩
      | some y =>
        have := n2 y rfl
        rw [bnd_hi] at hL hT
        rw [if_neg (by omega), if_pos (by omega)]
        exact ⟨rfl, congrArg some (by omega), ⟨fun h => (by cases h), fun h => by omega⟩, fun _ => rfl⟩
    | some x =>
      have := n1 x rfl
      cases c with
      | none =>
        rw [bnd_lo] at hL hT
        rw [if_pos (by omega), if_neg (by omega)]
        exact ⟨congrArg some (by omega), rfl, ⟨fun h => (by cases h), fun h => by omega⟩, fun _ => rfl⟩
      | some y =>
        have := n2 y rfl
        have := w1 x y rfl rfl
        have ne : x ≠ y := fun z => by
          have := w3 x rfl (by rw [z])
          cases this
        rw [bnd_two] at hL hT
        rw [if_pos (by omega), if_pos (by omega)]
        exact ⟨congrArg some (by omega), congrArg some (by omega), ⟨fun h => (by cases h), fun h => by omega⟩, fun _ => rfl⟩
/-- a row's way from far starts -/
theorem way_far {es : List Ev} (h : reach es < far33) :
    (wayOf es).2.1 = (if -far33 < ends es (-far34) then some (ends es (-far34)) else none) ∧ (wayOf es).2.2 = (if ends es far34 < far33 then some (ends es far34) else none) ∧ ((wayOf es).1 = none ↔ ends es (-far34) = ends es far34) ∧ (ends es (-far34) ≠ ends es far34 → (wayOf es).1 = some (adds es)) :=
  far_ok (wf_way es) (near_way es) h _ _ (ld_way es _).symm (ld_way es _).symm
end BL

namespace BL
open PySem PySem.Spec PyProof.Rows L2
open C8 (Cal Mak pe_c pe_mk)
/-! ### lists for tuples -/
theorem same_none {H H1 : Hp} {D : Addr} (s : Same H H1) (n : H1 D = none) : H D = none := by
  cases e : H D with
  | none => rfl
  | some o => rw [s _ _ e] at n; cases n
def spL0 : Sp := fun _ _ _ _ => False
def spL1 : Sp := fun vs H Q _ => ∃ v, vs = [v] ∧ ((∃ x, v = .str x) ∨ ∃ i, v = .int i) ∧ ∀ H', Same H H' → Q v H'
def spL2 (K : PySem.W.Frag) : Sp := fun vs H Q _ => ∃ (v : V) (e : Ev), vs = [v] ∧ EvT K H v e ∧ ∀ t H', Same H H' → H t = none → H' t = some (.lst [.str (wd e.1), .int e.2]) → Q (.ref t) H'
def spL3 (K : PySem.W.Frag) : Sp := fun vs H Q _ => ∃ (v : V) (es : List Ev), vs = [v] ∧ RowT K H v es ∧ es.length ≤ 900 ∧ ∀ v' H', Same H H' → RowL K H' v' es → Q v' H'
def EvC (D : Addr) (H : Hp) (v : V) (e : Ev) : Prop := ∃ t, v = .ref t ∧ t ≠ D ∧ H t = some (.lst [.str (wd e.1), .int e.2])
theorem rowx_take {R : V → Ev → Prop} {xs : List V} {es : List Ev} {i : Nat} {v : V} {e : Ev} (h : RowX R xs (es.take i)) (k : es[i]? = some e) (r : R v e) : RowX R (xs ++ [v]) (es.take (i + 1)) := by
  rw [List.take_add_one, k]
  exact rowx_snoc h r
section
variable {P : Program} {w : World} {K : PySem.W.Frag} {mg : Str → Option Value} {base : Heap} {C : Addr}
theorem lists0 {f : Addr} {fd : FuncData} : FnOk P w K mg base CX0 0 f fd ["_law_matter"] spL0 := ⟨fun _ _ _ _ h => h.elim, fun _ _ _ _ _ _ _ _ _ _ _ _ _ h => h.elim⟩
theorem lists1 {f : Addr} {fd : FuncData} (F : Fun K "_law_lists" "_law_lists" sLists f fd) (T : Bt mg) (c__law_lists : Cal P w K mg base 0 "_law_lists" spL0 []) : FnOk P w K mg base CX0 1 f fd ["_law_matter"] spL1 := by
  refine F.ok scLists (fun vs H Q E h => ?_) (fun cdv A outer s H vs Q E hr h => ?_)
  · obtain ⟨v, rfl, _⟩ := h
    rfl
  · obtain ⟨v, rfl, hv, q⟩ := h
    refine ⟨_, (pss_one (ps_ret (pe_ifExp (pt_val (pe_callB call_isiT (by rfl) T.isinstance (by decide +kernel) (pa_cons (pv 0) (pa_cons (pe_tup (pa_cons (pe_bltn (v := .ty "list") (by rfl) T.list (by decide +kernel) rfl) (pa_cons (pe_bltn (v := .ty "tuple") (by rfl) T.tuple (by decide +kernel) rfl) pa_nil))) pa_nil)))) (pe_lc (own := [("_law_bit", 1)]) (g := gName 1) (by rfl) scLists.nd (pi_tup (pv 0)) (blkOk_by (own := [("_law_bit", 1)]) (N := nLists) (sc := defScope sLists) (by decide +kernel)) (fun _ _ _ _ _ => (pg_name (i := 1) scLists.nd rfl (.inl rfl))) (fun _ _ _ _ _ => pts_nil) (fun _ _ _ _ _ => (pe_c c__law_lists hr (by decide) (by rfl) (pa_cons (pv 1) pa_nil)))) (pv 0)))), ?_⟩
    rcases hv with ⟨c, rfl⟩ | ⟨c, rfl⟩
    · refine ⟨_, rfl, (by show 2 ≤ sizeLine; decide), fun p np => ?_⟩
      refine ⟨_, p, _, _, _, false, rfl, upd_same, .cons (.ty _) (.cons (.ty _) .nil), .base (.str c), any_of (by decide +kernel), _, rfl, iteF ?_⟩
      exact ⟨_, rfl, q _ (same_upd np)⟩
    · refine ⟨_, rfl, (by show 2 ≤ sizeLine; decide), fun p np => ?_⟩
      refine ⟨_, p, _, _, _, false, rfl, upd_same, .cons (.ty _) (.cons (.ty _) .nil), .base (.int c), any_of (by decide +kernel), _, rfl, iteF ?_⟩
      exact ⟨_, rfl, q _ (same_upd np)⟩
theorem lists2 {f : Addr} {fd : FuncData} (F : Fun K "_law_lists" "_law_lists" sLists f fd) (T : Bt mg) (c__law_lists : Cal P w K mg base 1 "_law_lists" spL1 []) : FnOk P w K mg base CX0 2 f fd ["_law_matter"] (spL2 K) := by
  refine F.ok scLists (fun vs H Q E h => ?_) (fun cdv A outer s H vs Q E hr h => ?_)
  · obtain ⟨v, e, rfl, _⟩ := h
    rfl
  · obtain ⟨v, e, rfl, ⟨t, rfl, ht⟩, q⟩ := h
    refine ⟨_, (pss_one (ps_ret (pe_ifExp (pt_val (pe_callB call_isiT (by rfl) T.isinstance (by decide +kernel) (pa_cons (pv 0) (pa_cons (pe_tup (pa_cons (pe_bltn (v := .ty "list") (by rfl) T.list (by decide +kernel) rfl) (pa_cons (pe_bltn (v := .ty "tuple") (by rfl) T.tuple (by decide +kernel) rfl) pa_nil))) pa_nil)))) (pe_lc (own := [("_law_bit", 1)]) (g := gName 1) (by rfl) scLists.nd (pi_tup (pv 0)) (blkOk_by (own := [("_law_bit", 1)]) (N := nLists) (sc := defScope sLists) (by decide +kernel)) (fun _ _ _ _ _ => (pg_name (i := 1) scLists.nd rfl (.inl rfl))) (fun _ _ _ _ _ => pts_nil) (fun _ _ _ _ _ => (pe_c c__law_lists hr (by decide) (by rfl) (pa_cons (pv 1) pa_nil)))) (pv 0)))), ?_⟩
    refine ⟨_, rfl, (by show 2 ≤ sizeLine; decide), fun p np => ?_⟩
    have s1 : Same H (upd H p (.tup [.ty "list", .ty "tuple"])) := same_upd np
    have hp : (upd H p (.tup [.ty "list", .ty "tuple"])) p = some (.tup [.ty "list", .ty "tuple"]) := upd_same
    generalize (upd H p (.tup [.ty "list", .ty "tuple"])) = H1 at s1 hp ⊢
    refine ⟨_, p, _, _, _, true, rfl, hp, .cons (.ty _) (.cons (.ty _) .nil), ty_t (s1.seT ht), any_of (by decide +kernel), _, rfl, iteT ?_⟩
    refine ⟨_, rfl, t, rfl, ⟨_, s1.seT ht⟩, fun D nD => ?_⟩
    have n0 : H D = none := same_none s1 nD
    refine lc_it (walk_tup (xs := [.str (wd e.1), .int e.2])) (fun i H3 => Same H H3 ∧ H3 D = some (.lst (([.str (wd e.1), .int e.2] : List V).take i))) ⟨s1.upd n0, upd_same⟩ (fun i H3 _ h => h.1.seT ht) ?_ ?_
    · rintro i y H3 H4 hi ⟨s3, e3⟩ ⟨rfl, hy⟩
      refine ⟨rfl, ?_⟩
      dsimp only [tYes]
      refine iteT ⟨_, rfl, y, rfl, ?_, fun H5 s5 => ⟨_, s5 _ _ e3, ?_, (s3.trans s5).upd n0, ?_⟩⟩
      · refine mem_at (R := fun v => (∃ x, v = .str x) ∨ ∃ i, v = .int i) (fun x hx => ?_) hy
        simp only [List.mem_cons, List.not_mem_nil, or_false] at hx
        rcases hx with rfl | rfl
        · exact .inl ⟨_, rfl⟩
        · exact .inr ⟨_, rfl⟩
      · refine small1000 ?_
        rw [List.length_take]
        show min i 2 ≤ 1000
        omega
      · rw [List.take_add_one, hy]
        exact upd_same
    · rintro H3 ⟨s3, e3⟩
      exact q D H3 s3 n0 e3
theorem lists3 {f : Addr} {fd : FuncData} (F : Fun K "_law_lists" "_law_lists" sLists f fd) (T : Bt mg) (c__law_lists : Cal P w K mg base 2 "_law_lists" (spL2 K) []) : FnOk P w K mg base CX0 3 f fd ["_law_matter"] (spL3 K) := by
  refine F.ok scLists (fun vs H Q E h => ?_) (fun cdv A outer s H vs Q E hr h => ?_)
  · obtain ⟨v, es, rfl, _⟩ := h
    rfl
  · obtain ⟨v, es, rfl, ⟨a, xs, rfl, hS, hX⟩, hl, q⟩ := h
    refine ⟨_, (pss_one (ps_ret (pe_ifExp (pt_val (pe_callB call_isiT (by rfl) T.isinstance (by decide +kernel) (pa_cons (pv 0) (pa_cons (pe_tup (pa_cons (pe_bltn (v := .ty "list") (by rfl) T.list (by decide +kernel) rfl) (pa_cons (pe_bltn (v := .ty "tuple") (by rfl) T.tuple (by decide +kernel) rfl) pa_nil))) pa_nil)))) (pe_lc (own := [("_law_bit", 1)]) (g := gName 1) (by rfl) scLists.nd (pi_tup (pv 0)) (blkOk_by (own := [("_law_bit", 1)]) (N := nLists) (sc := defScope sLists) (by decide +kernel)) (fun _ _ _ _ _ => (pg_name (i := 1) scLists.nd rfl (.inl rfl))) (fun _ _ _ _ _ => pts_nil) (fun _ _ _ _ _ => (pe_c c__law_lists hr (by decide) (by rfl) (pa_cons (pv 1) pa_nil)))) (pv 0)))), ?_⟩
    refine ⟨_, rfl, (by show 2 ≤ sizeLine; decide), fun p np => ?_⟩
    have s1 : Same H (upd H p (.tup [.ty "list", .ty "tuple"])) := same_upd np
    have hp : (upd H p (.tup [.ty "list", .ty "tuple"])) p = some (.tup [.ty "list", .ty "tuple"]) := upd_same
    generalize (upd H p (.tup [.ty "list", .ty "tuple"])) = H1 at s1 hp ⊢
    refine ⟨_, p, _, _, _, true, rfl, hp, .cons (.ty _) (.cons (.ty _) .nil), ty_t (s1.seT hS), any_of (by decide +kernel), _, rfl, iteT ?_⟩
    refine ⟨_, rfl, a, rfl, ⟨_, s1.seT hS⟩, fun D nD => ?_⟩
    have n0 : H D = none := same_none s1 nD
    refine lc_it (walk_tup (xs := xs)) (fun i H3 => Same H H3 ∧ ∃ zs, H3 D = some (.lst zs) ∧ zs.length = i ∧ RowX (EvC D H3) zs (es.take i)) ⟨s1.upd n0, [], upd_same, rfl, rowx_nil⟩ (fun i H3 _ h => h.1.seT hS) ?_ ?_
    · rintro i y H3 H4 hi ⟨s3, zs, e3, lz, x3⟩ ⟨rfl, hy⟩
      have he : es[i]? = some (es[i]'(by rw [← hX.1]; exact hi)) := List.getElem?_eq_getElem _
      have hv := (hX.2 i y _ hy he).same s3
      have hx := hX.1
      refine ⟨rfl, ?_⟩
      dsimp only [tYes]
      refine iteT ⟨_, rfl, y, _, rfl, hv, fun t H5 s5 nt et => ⟨_, s5 _ _ e3, small1000 (by omega), (s3.trans s5).upd n0, zs ++ [.ref t], upd_same, by rw [List.length_append, lz]; rfl, ?_⟩⟩
      have tD : t ≠ D := fun z => by rw [z, e3] at nt; cases nt
      refine rowx_take (x3.imp fun v e ⟨u, h1, h2, h3⟩ => ⟨u, h1, h2, ?_⟩) he ⟨t, rfl, tD, ?_⟩
      · rw [upd_ne h2]; exact s5 _ _ h3
      · rw [upd_ne tD]; exact et
    · rintro H3 ⟨s3, zs, e3, lz, x3⟩
      rw [hX.1, List.take_length] at x3
      exact q _ H3 s3 ⟨D, zs, rfl, SqL.of e3, x3.imp fun v e ⟨u, h1, h2, h3⟩ => ⟨u, h1, SqL.of h3⟩⟩
end
end BL

namespace BL
open PySem PySem.Spec PyProof.Rows L2
open C8 (Cal Mak pe_c pe_mk)
/-! ### a row's way is told right -/
structure CalK (P : Program) (w : World) (K : PySem.W.Frag) (mg : Str → Option Value) (base : Heap) (k : Nat) (x : Str) (ks : List Str) (sp : Sp) (gV : List V → List V → List V) : Prop where
  ex : ∃ (f : Addr) (fd : FuncData) (ps : List Str) (g : List Value → List Value → List Value), FnOk P w K mg base CX0 k f fd ps sp ∧ mg x = some (.ref f) ∧ PySem.W.keepIn K (.ref f) = true ∧ KBn K fd ps 0 ks g gV
def tCK (m : Nat) (sp : Sp) (gV : List V → List V → List V) (tk : TA) : TE := fun σ H Q => tk σ H fun zs H2 => zs.length = m ∧ sp (gV [] zs) H2 Q C8.E0
theorem pe_ck0 {X : Cx} {k j : Nat} {x : Str} {ks : List Str} {sp : Sp} {gV : List V → List V → List V} {kws : List Keyword} {tk : TA} {p pos : Pos} (c : CalK X.prog X.w X.K X.mg X.base k x ks sp gV) (hr : Room j X.A) (hk : k ≤ j) (hg : Gl X x) (hkw : PK X kws tk)
    (hall : (backToKw pos (keywordEach kws X.env)).all (·.1.isSome) = true := by rfl) (hks : (backToKw pos (keywordEach kws X.env)).filterMap (·.1) = ks := by rfl) (hdb : (x == ("__debug__" : Str)) = false := by decide)
    (hpl : ((backTo pos (starEach [] X.env)).any (·.1) || (backToKw pos (keywordEach kws X.env)).any (·.1.isNone)) = false := by rfl) : PE X (.Call (.Name x p) [] kws pos) (tCK ks.length sp gV tk) := by
  obtain ⟨f, fd, ps, g, F, hm, kp, hb⟩ := c.ex
  refine ⟨fun pins s σ H Q I h => ?_⟩
  refine wpAny_Call_Name_kw (ld_glob I hg hm ?_ hdb)
  refine PySem.W.callWith_KW0 (h₀ := X.base) I.ok.mod.kin kp hall (thn (hkw.run pos pins s σ H _ I h) fun ws s2 ⟨zs, H2, I2, rz, l2, q2⟩ => ⟨I2.kIn, ?_⟩) hpl
  rw [hks]
  exact run_fnN (us := []) (vs := []) F (hr.mono hk) hb pass0 I2 .nil rz rfl l2 q2
def spTold (K : PySem.W.Frag) : Sp := fun vs H Q _ => ∃ (v : V) (es : List Ev) (a : Addr) (ns : List Int), vs = [v, .ref a] ∧ RowT K H v es ∧ es.length ≤ 900 ∧ reach es < far33 ∧ SqL K H a (ns.map V.int) ∧ ns.length ≤ 900 ∧
  ∀ H', Same H H' → Q (.bl true) H'
def lowF (x : Int) : Option Int := if -far33 < x then some x else none
def topF (x : Int) : Option Int := if x < far33 then some x else none
theorem p34 : (10 : Int) ^ (34 : Int).toNat = far34 := by decide +kernel
theorem p33 : (10 : Int) ^ (33 : Int).toNat = far33 := by decide +kernel
theorem rd_lowF {σ : L2.St} {H : Hp} {x : Int} {i : Nat} {Q : VK} (h : σ[i]? = some (some (.int x))) (q : Q (oV (lowF x)) H) : tIf (tTest (tOp rGt2 (tVar i) (tUn (rU fun i => .int (-i)) (tOp (rI CPow fun i j => .int (i ^ j.toNat)) (tC (.int 10)) (tC (.int 33)))))) (tVar i) (tC .non) σ H Q := by
  refine ⟨_, h, _, _, rfl, rfl, ⟨by decide, by decide, by decide⟩, _, rfl, _, _, rfl, rfl, _, rfl, ?_⟩
  rw [p33]
  by_cases g : -far33 < x
  · refine iteD1 g ⟨_, h, ?_⟩
    unfold lowF at q
    rw [if_pos g] at q
    exact q
  · refine iteD0 g ?_
    unfold lowF at q
    rw [if_neg g] at q
    exact q
theorem rd_topF {σ : L2.St} {H : Hp} {x : Int} {i : Nat} {Q : VK} (h : σ[i]? = some (some (.int x))) (q : Q (oV (topF x)) H) : tIf (tTest (tOp rLt' (tVar i) (tOp (rI CPow fun i j => .int (i ^ j.toNat)) (tC (.int 10)) (tC (.int 33))))) (tVar i) (tC .non) σ H Q := by
  refine ⟨_, h, _, _, rfl, rfl, ⟨by decide, by decide, by decide⟩, _, _, rfl, rfl, _, rfl, ?_⟩
  rw [p33]
  by_cases g : x < far33
  · refine iteD1 g ⟨_, h, ?_⟩
    unfold topF at q
    rw [if_pos g] at q
    exact q
  · refine iteD0 g ?_
    unfold topF at q
    rw [if_neg g] at q
    exact q
def addL (es : List Ev) : List Int := es.filterMap fun e => match e.1 with
  | .add => some e.2
  | _ => none
theorem addL_sum : ∀ es : List Ev, (addL es).sum = adds es
  | [] => rfl
  | (k, n) :: es => by
    have q := addL_sum es
    unfold addL at q ⊢
    cases k with
    | add => exact congrArg (n + ·) q
    | floor => show _ = 0 + _; rw [Int.zero_add]; exact q
    | cap => show _ = 0 + _; rw [Int.zero_add]; exact q
theorem addL_len (es : List Ev) : (addL es).length ≤ es.length := List.length_filterMap_le _ _
theorem addL_take {es : List Ev} {i : Nat} {e : Ev} (h : es[i]? = some e) : addL (es.take (i + 1)) = addL (es.take i) ++ (match e.1 with
  | .add => [e.2]
  | _ => []) := by
  unfold addL
  rw [List.take_add_one, h, List.filterMap_append]
  obtain ⟨k, n⟩ := e
  cases k <;> rfl
theorem eqs_ints {K : PySem.W.Frag} {H : Hp} {a b : Addr} {xs : List Int} (h1 : SqL K H a (xs.map V.int)) (h2 : SqL K H b (xs.map V.int)) (l : xs.length ≤ 1000) : Eqs K H 1 (.ref a) (.ref b) := by
  refine .lst h1 h2 rfl (by rw [List.length_map]; exact l) fun i x y p q => ?_
  rw [p] at q
  cases q
  rw [List.getElem?_map] at p
  cases e : xs[i]? with
  | none => rw [e] at p; cases p
  | some z =>
    rw [e] at p
    cases p
    exact .int 0 z
theorem monoA1 (i : Nat) : MonoA (tCons (tVar i) tNil) := fun σ H Q Q' m ⟨v, e, q⟩ => ⟨v, e, m _ _ q⟩
theorem ix_tupK {X : Cx} {K : PySem.W.Frag} (h : X.K = K) : IxR X (rIxT K) := h ▸ ix_tup
theorem int_at {ns : List Int} {i : Nat} {y : V} (h : (ns.map V.int)[i]? = some y) : ∃ z, ns[i]? = some z ∧ y = .int z := by
  rw [List.getElem?_map] at h
  cases e : ns[i]? with
  | none => rw [e] at h; cases h
  | some z =>
    rw [e] at h
    cases h
    exact ⟨z, rfl, rfl⟩
theorem take_small {ns : List Int} {g : Int → Int} {i : Nat} (h : ns.length ≤ 900) : (((ns.map g).take i).map V.int).length < sizeLine := by
  refine small1000 ?_
  rw [List.length_map, List.length_take, List.length_map]
  omega
theorem take_snoc {ns : List Int} {g : Int → Int} {i : Nat} {z : Int} (h : ns[i]? = some z) : (ns.map g).take (i + 1) = (ns.map g).take i ++ [g z] := by
  rw [List.take_add_one, List.getElem?_map, h]
  rfl
theorem rd_sum {K : PySem.W.Frag} {C : Addr} {D : Ends} {rest : TS} {ra a x : Addr} {v3 v6 v7 v8 : Option V} {L Tp : Int} {es : List Ev} {s f c : Option Int} {H : Hp} (hR : RowT K H (.ref ra) es) (hl : es.length ≤ 900) (W : WayAt C H x s f c) (k : L ≠ Tp → s = some (adds es))
    (h : ∀ H9, Same H H9 → rest D [some (.ref ra), some (.ref a), some (.ref x), v3, some (.int L), some (.int Tp), v6, v7, v8] H9) :
    (tSeq (tIfS (tAnd (tTest (tOp rNe (tVar 4) (tVar 5))) (tTest (tOp rNe (tWF C (fun s _ _ => s) (tVar 2)) (tCB (rSum K) (tCons (tLc (iTup K (tVar 0)) (gName 7) (tTest (tOp rEq (tOp (rIxT K) (tVar 7) (tC (.int 0))) (tC (.str "add")))) (tOp (rIxT K) (tVar 7) (tC (.int 1))) [7]) tNil))))) (tRet (tC (.bl false))) tNext) rest) D [some (.ref ra), some (.ref a), some (.ref x), v3, some (.int L), some (.int Tp), v6, v7, v8] H := by
  obtain ⟨_, xs, rfl', hS, hX⟩ := id hR
  cases rfl'
  refine ⟨_, rfl, _, rfl, rfl, _, rfl, ?_⟩
  by_cases z : L = Tp
  · exact iteN0 (congrArg V.int z) (iteF (h H (Same.refl _)))
  · refine iteN1 (fun e => z (V.int.inj e)) ?_
    obtain rfl := k z
    refine ⟨_, rfl, x, _, _, _, rfl, W, _, rfl, ra, rfl, ⟨_, hS⟩, fun d nd => ?_⟩
    refine lc_it (walk_tup (xs := xs)) (fun i H3 => Same H H3 ∧ H3 d = some (.lst ((addL (es.take i)).map V.int))) ⟨same_upd nd, upd_same⟩ (fun i H3 _ h => h.1.seT hS) ?_ ?_
    · rintro i y H3 H4 hi ⟨s3, e3⟩ ⟨rfl, hy⟩
      have he : es[i]? = some (es[i]'(by rw [← hX.1]; exact hi)) := List.getElem?_eq_getElem _
      have hv := (hX.2 i y _ hy he).same s3
      have hx := hX.1
      have ht := addL_take he
      generalize es[i]'(by rw [← hX.1]; exact hi) = e at he hv ht
      obtain ⟨k, n⟩ := e
      obtain ⟨t, rfl, hT⟩ := hv
      refine ⟨rfl, ?_⟩
      refine ⟨_, rfl, t, _, _, _, rfl, rfl, hT, atI_nat (j := 0) rfl, rfl, _, rfl, ?_⟩
      have we := wd_eq k
      rw [we.1]
      cases k with
      | add =>
        refine iteT ⟨_, rfl, t, _, _, _, rfl, rfl, hT, atI_nat (j := 1) rfl, _, e3, ?_, s3.upd nd, ?_⟩
        · have := addL_len (es.take i)
          rw [List.length_take] at this
          refine small1000 ?_
          rw [List.length_map]
          omega
        · rw [ht, List.map_append]
          exact upd_same
      | floor => exact iteF ⟨s3, by rw [ht, List.append_nil]; exact e3⟩
      | cap => exact iteF ⟨s3, by rw [ht, List.append_nil]; exact e3⟩
    · rintro H3 ⟨s3, e3⟩
      rw [hX.1, List.take_length] at e3
      refine ⟨d, addL es, rfl, SqL.of e3, rfl, _, rfl, ?_⟩
      rw [addL_sum]
      exact iteN0 rfl (h H3 s3)
section
variable {P : Program} {w : World} {K : PySem.W.Frag} {mg : Str → Option Value} {base : Heap} {C : Addr}
theorem ok_told {f : Addr} {fd : FuncData} (F : Fun K "_law_told_right" "_law_told_right" sTold f fd) (T : Bt mg) (bsum : mg "sum" = none) (W : WT K C) (pS : Prp P w K mg base C "shift" "_shift") (pF : Prp P w K mg base C "floor" "_floor") (pC : Prp P w K mg base C "cap" "_cap")
    (c_way_of : Cal P w K mg base 5 "way_of" (spWO K C) []) (k_way_of : CalK P w K mg base 5 "way_of" ["row"] (spWO K C) (fun _ zs => [zs.getD 0 .non])) (c__law_last : Cal P w K mg base 3 "_law_last" (spLast K) []) (c__law_lists : Cal P w K mg base 3 "_law_lists" (spL3 K) []) (c__law_same : Cal P w K mg base 2 "_law_same" (spSame K 2) [])
    (o_eq : Own P w K mg base 1 C "__eq__" (spEqW C)) (o_call : Own P w K mg base 4 C "__call__" (spLed C)) :
    FnOk P w K mg base CX0 6 f fd ["_law_row_so", "_law_some"] (spTold K) := by
  refine F.ok sctold_right (fun vs H Q E h => ?_) (fun cdv A outer s H vs Q E hr h => ?_)
  · obtain ⟨v, es, a, ns, rfl, _⟩ := h
    rfl
  · obtain ⟨v, es, a, ns, rfl, hR, hl, hre, hN, hn, q⟩ := h
    have wF := wf_way es
    have fr := way_far hre
    have ldw := ld_way es
    obtain ⟨ra, rxs, rfl, hS, hX⟩ := id hR
    refine ⟨_, (pss_cons (ps_asg (pe_tup (pa_cons (pe_c c_way_of hr (by decide) (by rfl) (pa_cons (pv 0) pa_nil)) (pa_cons (pe_op op_pow pe_int pe_int) pa_nil))) (pg_tup rfl (pgs_cons (pg_name (i := 2) sctold_right.nd rfl (.inr rfl)) (pgs_cons (pg_name (i := 3) sctold_right.nd rfl (.inl rfl)) pgs_nil))))
  (pss_cons (ps_par (i := 4) (j := 5) rfl sctold_right.nd rfl rfl (by decide) rfl rfl (pa_cons (pe_c c__law_last hr (by decide) (by rfl) (pa_cons (pv 0) (pa_cons (pe_un un_neg (pv 3)) pa_nil))) (pa_cons (pe_c c__law_last hr (by decide) (by rfl) (pa_cons (pv 0) (pa_cons (pv 3) pa_nil))) pa_nil)) (by rfl))
  (pss_cons (ps_set (i := 6) sctold_right.nd rfl (.inl rfl) (pe_lst (pa_cons (pe_ifExp (pt_cmpR op_gt (pv 4) (pe_un un_neg (pe_op op_pow pe_int pe_int)) (nomark _)) (pv 4) pe_non) (pa_cons (pe_ifExp (pt_cmpR op_lt (pv 5) (pe_op op_pow pe_int pe_int) (nomark _)) (pv 5) pe_non) pa_nil))))
  (pss_cons (ps_if (pt_not (pt_val (pe_c c__law_same hr (by decide) (by rfl) (pa_cons (pe_lst (pa_cons (pe_sel wF_f (mono_var 2) (pv 2) W.cl pF hr (by decide)) (pa_cons (pe_sel wF_c (mono_var 2) (pv 2) W.cl pC hr (by decide)) (pa_cons (pe_cmpR op_isN (pe_sel wF_s (mono_var 2) (pv 2) W.cl pS hr (by decide)) pe_non (nomark _)) pa_nil)))) (pa_cons (pe_op op_cat (pv 6) (pe_lst (pa_cons (pe_cmpR op_eq (pv 4) (pv 5) (nomark _)) pa_nil))) pa_nil))))) (pss_one (ps_ret pe_bl)) pss_nil)
  (pss_cons (ps_if (pw_and (pt_cmpR op_ne (pv 4) (pv 5) (nomark _)) (pw_and1 (pt_cmpR op_ne (pe_sel wF_s (mono_var 2) (pv 2) W.cl pS hr (by decide)) (pe_callB (cr_sum rfl) (by rfl) bsum (by decide +kernel) (pa_cons (pe_lc (own := [("_law_entry", 7)]) (g := gName 7) (by rfl) sctold_right.nd (pi_tup (pv 0)) (blkOk_by (own := [("_law_entry", 7)]) (N := nTold) (sc := defScope sTold) (by decide +kernel)) (fun _ _ _ _ _ => (pg_name (i := 7) sctold_right.nd rfl (.inl rfl))) (fun _ _ _ _ _ => (pts_one (pt_cmpR op_eq (pe_ix (ix_tupK (K := K) rfl) (pv 7) pe_int (fun _ _ => rfl)) pe_str (nomark _)))) (fun _ _ _ _ _ => (pe_ix (ix_tupK (K := K) rfl) (pv 7) pe_int (fun _ _ => rfl)))) pa_nil)) (nomark _)))).pt (pss_one (ps_ret pe_bl)) pss_nil)
  (pss_cons (ps_if (pt_not (pt_cmpR (op_eqO o_eq hr (by decide)) (pv 2) (pe_ck0 k_way_of hr (by decide) (by rfl) (pk_cons (pe_c c__law_lists hr (by decide) (by rfl) (pa_cons (pv 0) pa_nil)) pk_nil)) (nomark _))) (pss_one (ps_ret pe_bl)) pss_nil)
  (pss_one (ps_ret (pe_c c__law_same hr (by decide) (by rfl) (pa_cons (pe_lc (own := [("_law_begin", 8)]) (g := gName 8) (by rfl) sctold_right.nd (pi_list (pv 1)) (blkOk_by (own := [("_law_begin", 8)]) (N := nTold) (sc := defScope sTold) (by decide +kernel)) (fun _ _ _ _ _ => (pg_name (i := 8) sctold_right.nd rfl (.inl rfl))) (fun _ _ _ _ _ => pts_nil) (fun _ _ _ _ _ => (pe_called o_call hr (by decide) (pv 2) (mono_var 2) (pa_cons (pv 8) pa_nil) (monoA1 8)))) (pa_cons (pe_lc (own := [("_law_begin", 8)]) (g := gName 8) (by rfl) sctold_right.nd (pi_list (pv 1)) (blkOk_by (own := [("_law_begin", 8)]) (N := nTold) (sc := defScope sTold) (by decide +kernel)) (fun _ _ _ _ _ => (pg_name (i := 8) sctold_right.nd rfl (.inl rfl))) (fun _ _ _ _ _ => pts_nil) (fun _ _ _ _ _ => (pe_c c__law_last hr (by decide) (by rfl) (pa_cons (pv 0) (pa_cons (pv 8) pa_nil))))) pa_nil))))))))))), ?_⟩
    refine ⟨_, rfl, _, es, rfl, .inl hR, fun x H1 s1 W1 => ⟨10, 34, rfl, rfl, ⟨by decide, by decide, by decide⟩, (by show 2 ≤ sizeLine; decide), fun t1 nt1 => ⟨t1, _, rfl, SqT.of upd_same, rfl, _, _, rfl, _, _, rfl, rfl, ?_⟩⟩⟩
    have u1 := same_upd (o := .tup [.ref x, .int (10 ^ (34 : Int).toNat)]) nt1
    refine ⟨_, rfl, _, rfl, _, rfl, _, es, -far34, (by show [V.ref ra, V.int (-(10 ^ (34 : Int).toNat))] = [V.ref ra, V.int (-far34)]; rw [p34]), (hR.same s1).same u1, hl, fun H2 s2 => ⟨_, rfl, _, rfl, _, es, far34, (by show [V.ref ra, V.int (10 ^ (34 : Int).toNat)] = [V.ref ra, V.int far34]; rw [p34]), ((hR.same s1).same u1).same s2, hl, fun H3 s3 => ⟨_, _, rfl, ?_⟩⟩⟩
    have W3 := ((W1.same u1).same s2).same s3
    have s03 := ((s1.trans u1).trans s2).trans s3
    generalize ends es (-far34) = L at fr ⊢
    generalize ends es far34 = Tp at fr ⊢
    refine rd_lowF (i := 4) rfl ?_
    refine rd_topF (i := 5) rfl ?_
    refine ⟨(by show 2 ≤ sizeLine; decide), fun d nd => ?_⟩
    have s04 := s03.trans (same_upd (o := .lst [oV (lowF L), oV (topF Tp)]) nd)
    have W4 := W3.same (same_upd (o := .lst [oV (lowF L), oV (topF Tp)]) nd)
    have e4 : (upd H3 d (.lst [oV (lowF L), oV (topF Tp)])) d = some (.lst [oV (lowF L), oV (topF Tp)]) := upd_same
    generalize (upd H3 d (.lst [oV (lowF L), oV (topF Tp)])) = H4 at s04 W4 e4 ⊢
    refine ⟨_, rfl, x, _, _, _, rfl, W4, _, rfl, x, _, _, _, rfl, W4, _, rfl, x, _, _, _, rfl, W4, rfl, (by show 3 ≤ sizeLine; decide), fun l1 n1 => ?_⟩
    have W5 := W4.same (same_upd (o := .lst [oV (wayOf es).2.1, oV (wayOf es).2.2, .bl (decide (oV (wayOf es).1 = V.non))]) n1)
    have s05 := s04.trans (same_upd (o := .lst [oV (wayOf es).2.1, oV (wayOf es).2.2, .bl (decide (oV (wayOf es).1 = V.non))]) n1)
    have e5 := same_upd (o := .lst [oV (wayOf es).2.1, oV (wayOf es).2.2, .bl (decide (oV (wayOf es).1 = V.non))]) n1 _ _ e4
    have l5 : (upd H4 l1 (.lst [oV (wayOf es).2.1, oV (wayOf es).2.2, .bl (decide (oV (wayOf es).1 = V.non))])) l1 = some (.lst [oV (wayOf es).2.1, oV (wayOf es).2.2, .bl (decide (oV (wayOf es).1 = V.non))]) := upd_same
    generalize (upd H4 l1 (.lst [oV (wayOf es).2.1, oV (wayOf es).2.2, .bl (decide (oV (wayOf es).1 = V.non))])) = H5 at W5 s05 e5 l5 ⊢
    refine ⟨_, rfl, _, rfl, _, rfl, rfl, (by show 1 ≤ sizeLine; decide), fun l2 n2 => ?_⟩
    have g6 := same_upd (o := .lst [.bl (decide (V.int L = V.int Tp))]) n2
    refine ⟨d, l2, _, _, rfl, rfl, g6 _ _ e5, upd_same, (by show 3 ≤ sizeLine; decide), fun l3 n3 => ?_⟩
    have g7 := g6.trans (same_upd (o := .lst ([oV (lowF L), oV (topF Tp)] ++ [.bl (decide (V.int L = V.int Tp))])) n3)
    have b1 : decide (oV (wayOf es).1 = V.non) = decide (V.int L = V.int Tp) := by
      have k := fr.2.2.1
      by_cases z : L = Tp
      · rw [k.mpr z, z]
        exact (decide_eq_true rfl).trans (decide_eq_true rfl).symm
      · rw [decide_eq_false (fun h => z (V.int.inj h))]
        cases e : (wayOf es).1 with
        | none => exact absurd (k.mp e) z
        | some a => exact decide_eq_false (iN a)
    refine ⟨_, _, rfl, .lst (SqL.of (g7 _ _ l5)) (SqL.of upd_same) rfl (by show 3 ≤ 1000; decide) (a2_cons (by rw [fr.1]; exact Eqs.oV 0 _) (a2_cons (by rw [fr.2.1]; exact Eqs.oV 0 _) (a2_cons (by rw [b1]; exact .bl 0 _) a2_nil))), fun H8 s8 => ⟨_, rfl, iteF ?_⟩⟩
    have s08 := (s05.trans g7).trans s8
    have W8 := (W5.same g7).same s8
    generalize (upd (upd H5 l2 (.lst [.bl (decide (V.int L = V.int Tp))])) l3 (.lst ([oV (lowF L), oV (topF Tp)] ++ [.bl (decide (V.int L = V.int Tp))]))) = H7 at g7 s8
    -- the shift
    refine rd_sum (hR.same s08) hl W8 fr.2.2.2 fun H9 s9 => ?_
    have s09 := s08.trans s9
    have W9 := W8.same s9
    refine ⟨_, rfl, _, rfl, _, es, rfl, hR.same s09, hl, fun v' H10 s10 hL => ⟨rfl, _, es, rfl, .inr hL, fun r H11 s11 Wr => ?_⟩⟩
    have W11 := (W9.same s10).same s11
    have s011 := (s09.trans s10).trans s11
    obtain ⟨d1, k1⟩ := id W11
    obtain ⟨d2, k2⟩ := id Wr
    refine ⟨x, r, d1, d2, _, _, rfl, rfl, k1, k2, x, r, _, _, _, _, _, _, rfl, W11, Wr, ?_⟩
    refine ⟨_, rfl, ?_⟩
    rw [show weq (wayOf es).1 (wayOf es).2.1 (wayOf es).2.2 (wayOf es).1 (wayOf es).2.1 (wayOf es).2.2 = true from by unfold weq; simp]
    refine iteF ?_
    -- the starts
    have cN := s011.seq hN
    refine ⟨_, rfl, a, rfl, ⟨_, cN⟩, fun D1 n1 => ?_⟩
    refine lc_it (walk_list (xs := ns.map V.int)) (fun i H3 => Same H11 H3 ∧ H3 D1 = some (.lst (((ns.map (ends es)).take i).map V.int))) ⟨same_upd n1, upd_same⟩ (fun i H3 _ h => h.1.seq cN) ?_ ?_
    · rintro i y H12 H13 hi ⟨s12, e12⟩ ⟨rfl, hy⟩
      obtain ⟨z, hz, rfl⟩ := int_at hy
      have W12 := W11.same s12
      obtain ⟨d3, k3⟩ := id W12
      refine ⟨rfl, ?_⟩
      dsimp only [tYes]
      refine iteT ⟨_, rfl, x, rfl, _, rfl, ⟨_, _, k3⟩, x, _, _, _, z, rfl, W12, wF, _, e12, take_small hn, s12.upd n1, ?_⟩
      rw [take_snoc hz, List.map_append, show ld (wayOf es).1 (wayOf es).2.1 (wayOf es).2.2 z = ends es z from ldw z]
      exact upd_same
    · rintro H12 ⟨s12, e12⟩
      have cN := s12.seq cN
      refine ⟨_, rfl, a, rfl, ⟨_, cN⟩, fun D2 n2 => ?_⟩
      refine lc_it (walk_list (xs := ns.map V.int)) (fun i H3 => Same H12 H3 ∧ H3 D2 = some (.lst (((ns.map (ends es)).take i).map V.int))) ⟨same_upd n2, upd_same⟩ (fun i H3 _ h => h.1.seq cN) ?_ ?_
      · rintro i y H14 H15 hi ⟨s14, e14⟩ ⟨rfl, hy⟩
        obtain ⟨z, hz, rfl⟩ := int_at hy
        refine ⟨rfl, ?_⟩
        dsimp only [tYes]
        refine iteT ⟨_, rfl, _, rfl, _, es, z, rfl, ((hR.same s011).same s12).same s14, hl, fun H16 s16 => ⟨_, s16 _ _ e14, take_small hn, (s14.trans s16).upd n2, ?_⟩⟩
        rw [take_snoc hz, List.map_append]
        exact upd_same
      · rintro H14 ⟨s14, e14⟩
        rw [List.length_map, ← List.length_map (ends es) (as := ns), List.take_length] at e12 e14
        exact ⟨_, _, rfl, eqs_ints (SqL.of (s14 _ _ e12)) (SqL.of e14) (by rw [List.length_map]; omega), fun H16 s16 => q H16 (((s011.trans s12).trans s14).trans s16)⟩
end
end BL

namespace BL
open PySem PySem.Spec PyProof.Rows L2
open C8 (Cal Mak pe_c pe_mk)
/-! ### drawn rows are told right -/
def spRight : Sp := fun vs H Q _ => ∃ (b : Addr) (n : Nat), vs = [.ref b] ∧ Box H b n ∧ n ≤ 1000000 ∧ ∀ H', But b H H' → Box H' b (n + 1000000) → Q (.bl true) H'
theorem reach_ok {es : List Ev} {m : Int} (l : es.length ≤ m) (m1 : m ≤ 100) (h : ∀ e ∈ es, okE e) : reach es < far33 := by
  have q := reach_le h
  unfold bigN at q
  unfold far33
  omega
theorem small900 {n : Nat} (h : n ≤ 1000) : n ≤ sizeLine := Nat.le_trans h (by decide)
theorem own_list {K : PySem.W.Frag} {b ra : Addr} {v1 v3 v4 : Option V} {H : Hp} {es : List Ev} {g : Ev → Int} {te : TE} {Q : VK} (hR : RowD H (.ref ra) es) (hl : es.length ≤ 900)
    (ht : ∀ (H' : Hp) (v : V) (e : Ev) (Q' : VK), EvD H' v e → Q' (.int (g e)) H' → te [some (.ref b), v1, some (.ref ra), v3, some v] H' Q')
    (h : ∀ (D : Addr) (H' : Hp), Same H H' → H D = none → H' D = some (.lst ((es.map g).map V.int)) → Q (.ref D) H') :
    tLc (iTup K (tVar 2)) (gName 4) tYes te [4] [some (.ref b), v1, some (.ref ra), v3, v4] H Q := by
  obtain ⟨_, xs, rfl', hS, hX⟩ := id hR
  cases rfl'
  refine ⟨_, rfl, ra, rfl, ⟨_, SqT.of hS⟩, fun D nD => ?_⟩
  refine lc_it (walk_tup (xs := xs)) (fun i H3 => Same H H3 ∧ H3 D = some (.lst (((es.map g).take i).map V.int))) ⟨same_upd nD, upd_same⟩ (fun i H3 _ k => SqT.of (k.1 _ _ hS)) ?_ ?_
  · rintro i y H3 H4 hi ⟨s3, e3⟩ ⟨rfl, hy⟩
    have he : es[i]? = some (es[i]'(by rw [← hX.1]; exact hi)) := List.getElem?_eq_getElem _
    have hv := (hX.2 i y _ hy he).same s3
    refine ⟨rfl, ?_⟩
    dsimp only [tYes]
    refine iteT (ht H4 y _ _ hv ⟨_, e3, ?_, s3.upd nD, ?_⟩)
    · refine small1000 ?_
      rw [List.length_map, List.length_take, List.length_map]
      omega
    · rw [List.take_add_one, List.getElem?_map, he, List.map_append]
      exact upd_same
  · rintro H3 ⟨s3, e3⟩
    rw [hX.1, ← List.length_map g (as := es), List.take_length] at e3
    exact h D H3 s3 nD e3
section
variable {P : Program} {w : World} {K : PySem.W.Frag} {mg : Str → Option Value} {base : Heap} {C : Addr}
theorem ok_right {f : Addr} {fd : FuncData} (F : Fun K "_law_right" "_law_right" sRight f fd) (T : Bt mg) (c__law_small : Cal P w K mg base 5 "_law_small" spRow []) (c__law_events : Cal P w K mg base 5 "_law_events" spRow []) (c__law_number : Cal P w K mg base 3 "_law_number" spNumber []) (c__law_told_right : Cal P w K mg base 6 "_law_told_right" (spTold K) []) :
    FnOk P w K mg base CX0 7 f fd ["_law_box_here"] spRight := by
  refine F.ok scright (fun vs H Q E h => ?_) (fun cdv A outer s H vs Q E hr h => ?_)
  · obtain ⟨b, n, rfl, _⟩ := h
    rfl
  · obtain ⟨b, n, rfl, hB, hn, q⟩ := h
    refine ⟨_, (pss_cons (ps_for PassesOwn.never rfl (pi_range1 (by rfl) T.range (pa_cons pe_int pa_nil)) (pg_name (i := 1) scright.nd rfl (.inl rfl)) (pss_one (ps_if (pt_not (pt_val (pe_c c__law_told_right hr (by decide) (by rfl) (pa_cons (pe_c c__law_small hr (by decide) (by rfl) (pa_cons (pv 0) (pa_cons pe_int pa_nil))) (pa_cons (pe_op op_cat (pe_listRg rfl (by rfl) T.list (prg_2 (by rfl) T.range (pe_un un_neg pe_int) pe_int)) (pe_lst (pa_cons (pe_op op_pow pe_int pe_int) (pa_cons (pe_un un_neg (pe_op op_pow pe_int pe_int)) pa_nil)))) pa_nil))))) (pss_one (ps_ret pe_bl)) pss_nil)))
  (pss_cons (ps_set (i := 2) scright.nd rfl (.inl rfl) (pe_c c__law_events hr (by decide) (by rfl) (pa_cons (pv 0) (pa_cons pe_int pa_nil))))
  (pss_cons (ps_set (i := 3) scright.nd rfl (.inl rfl) (pe_op op_cat (pe_op op_cat (pe_lc (own := [("_law_turn", 1)]) (g := gName 1) (by rfl) scright.nd (pi_range1 (by rfl) T.range (pa_cons pe_int pa_nil)) (blkOk_by (own := [("_law_turn", 1)]) (N := nRight) (sc := defScope sRight) (by decide +kernel)) (fun _ _ _ _ _ => (pg_name (i := 1) scright.nd rfl (.inl rfl))) (fun _ _ _ _ _ => pts_nil) (fun _ _ _ _ _ => (pe_c c__law_number hr (by decide) (by rfl) (pa_cons (pv 0) pa_nil)))) (pe_lc (own := [("_law_own", 4)]) (g := gName 4) (by rfl) scright.nd (pi_tup (pv 2)) (blkOk_by (own := [("_law_own", 4)]) (N := nRight) (sc := defScope sRight) (by decide +kernel)) (fun _ _ _ _ _ => (pg_name (i := 4) scright.nd rfl (.inl rfl))) (fun _ _ _ _ _ => pts_nil) (fun _ _ _ _ _ => (pe_ix (ix_tupK (K := K) rfl) (pv 4) pe_int (fun _ _ => rfl))))) (pe_lc (own := [("_law_own", 4)]) (g := gName 4) (by rfl) scright.nd (pi_tup (pv 2)) (blkOk_by (own := [("_law_own", 4)]) (N := nRight) (sc := defScope sRight) (by decide +kernel)) (fun _ _ _ _ _ => (pg_name (i := 4) scright.nd rfl (.inl rfl))) (fun _ _ _ _ _ => pts_nil) (fun _ _ _ _ _ => (pe_op op_sub (pe_ix (ix_tupK (K := K) rfl) (pv 4) pe_int (fun _ _ => rfl)) pe_int)))))
  (pss_one (ps_ret (pe_c c__law_told_right hr (by decide) (by rfl) (pa_cons (pv 2) (pa_cons (pv 3) pa_nil)))))))), ?_⟩
    refine ⟨8, rfl, by decide, by decide, for_it (walk_range (lo := 0) (n := (8 : Int).toNat)) (fun i σ H3 => ∃ v1 v2 v3 v4, σ = [some (.ref b), v1, v2, v3, v4] ∧ But b H H3 ∧ Box H3 b (n + 400 * i)) ⟨none, none, none, none, rfl, But.refl _ _, hB⟩ (fun _ _ _ _ _ => trivial) ?_ ?_⟩
    · rintro i y σ H3 H4 hi ⟨v1, v2, v3, v4, rfl, b3, B3⟩ ⟨rfl, rfl⟩
      have hi8 : i < 8 := hi
      refine ⟨_, rfl, b, 10, _, rfl, by decide, by decide, B3, by omega, fun v es H5 b5 B5 hR hl ho => ?_⟩
      refine ⟨_, rfl, _, _, rfl, rfl, ⟨by decide, by decide, by decide, by decide, by decide⟩, fun q1 m1 => ?_⟩
      refine ⟨_, _, rfl, rfl, ⟨by decide, by decide, by decide⟩, _, _, rfl, rfl, ⟨by decide, by decide, by decide⟩, _, rfl, (by show 2 ≤ sizeLine; decide), fun q2 m2 => ?_⟩
      have g5 := (same_upd m1).trans (same_upd (o := .lst [V.int (10 ^ 30), V.int (-(10 ^ 30))]) m2)
      refine ⟨q1, q2, _, _, rfl, rfl, by rw [upd_ne (fun z => by rw [z, upd_same] at m2; cases m2), upd_same], upd_same, (by rw [rgV_length]; show _ + 2 ≤ sizeLine; decide), fun q3 m3 => ?_⟩
      have g6 := g5.trans (same_upd (o := .lst (rgV (-40) 41 ++ [V.int (10 ^ 30), V.int (-(10 ^ 30))])) m3)
      refine ⟨v, es, q3, (List.range (41 - (-40) : Int).toNat).map (fun (i : Nat) => (-40 : Int) + (i : Int)) ++ [10 ^ 30, -(10 ^ 30)], rfl, (hR.same g6).T, by omega, reach_ok hl (by decide) ho, ?_, by decide +kernel, fun H8 s8 => ⟨_, rfl, iteF ?_⟩⟩
      · rw [List.map_append, List.map_map]
        exact SqL.of upd_same
      · exact ⟨_, _, _, _, rfl, ((b3.trans b5).same g6).same s8, ((B5.same g6).same s8).le (by omega)⟩
    · rintro σ H3 ⟨v1, v2, v3, v4, rfl, b3, B3⟩
      refine ⟨_, rfl, b, 20, _, rfl, by decide, by decide, B3, (by show n + 400 * 8 ≤ _; omega), fun v es H5 b5 B5 hR hl ho => ?_⟩
      refine ⟨12, rfl, by decide, by decide, fun D nD => ?_⟩
      have b35 := b3.trans b5
      refine lc_it (walk_range (lo := 0) (n := (12 : Int).toNat)) (fun k H6 => b ≠ D ∧ But b H5 H6 ∧ Box H6 b (n + 400 * 8 + 400 + 2 * k) ∧ ∃ zs : List Int, H6 D = some (.lst (zs.map V.int)) ∧ zs.length = k) ⟨(B5.nb nD).symm, But.of (same_upd nD), B5.same (same_upd nD), [], upd_same, rfl⟩ (fun _ _ _ _ => trivial) ?_ ?_
      · rintro k y H6 H7 hk ⟨bD, b6, B6, zs, e6, lz⟩ ⟨rfl, rfl⟩
        have hk12 : k < 12 := hk
        refine ⟨rfl, ?_⟩
        dsimp only [tYes]
        refine iteT ⟨_, rfl, b, _, rfl, B6, by omega, fun r H8 r0 r1 b8 B8 => ⟨_, b8 _ _ bD.symm e6, small1000 (by rw [List.length_map]; omega), bD, (b6.trans b8).upd nD, (B8.upd bD).le (by omega), zs ++ [r], ?_, by rw [List.length_append, lz]; rfl⟩⟩
        rw [List.map_append]
        exact upd_same
      · rintro H6 ⟨bD, b6, B6, zs, e6, lz⟩
        have hR6 := hR.but B5 b6
        obtain ⟨ra, rxs, rfl, hS, hX⟩ := id hR6
        refine own_list (g := fun e => e.2) hR6 (by omega) (fun H' v e Q' ⟨t, h1, h2⟩ q' => ⟨_, rfl, t, _, _, _, h1, rfl, SqT.of h2, atI_nat (j := 1) rfl, q'⟩) fun D1 H7 s7 n7 e7 => ?_
        have e67 := s7 _ _ e6
        refine ⟨D, D1, _, _, rfl, rfl, e67, e7, (by rw [List.length_map, List.length_map, List.length_map]; exact small900 (by omega)), fun l1 n1 => ?_⟩
        have g1 := same_upd (o := .lst (zs.map V.int ++ (es.map fun e => e.2).map V.int)) n1
        have hR8 := (hR6.same s7).same g1
        refine own_list (g := fun e => e.2 - 1) hR8 (by omega) (fun H' v e Q' ⟨t, h1, h2⟩ q' => ⟨_, rfl, t, _, _, _, h1, rfl, SqT.of h2, atI_nat (j := 1) rfl, _, _, rfl, rfl, q'⟩) fun D2 H9 s9 n9 e9 => ?_
        refine ⟨l1, D2, _, _, rfl, rfl, s9 _ _ upd_same, e9, (by rw [List.length_append, List.length_map, List.length_map, List.length_map, List.length_map, List.length_map]; exact small900 (by omega)), fun l2 n2 => ?_⟩
        have g2 := same_upd (o := .lst ((zs.map V.int ++ (es.map fun e => e.2).map V.int) ++ (es.map fun e => e.2 - 1).map V.int)) n2
        refine ⟨_, rfl, _, rfl, _, es, l2, (zs ++ es.map fun e => e.2) ++ es.map fun e => e.2 - 1, rfl, ((hR8.same s9).same g2).T, by omega, reach_ok hl (by decide) ho, ?_, ?_, fun H' s' => ?_⟩
        · rw [List.map_append, List.map_append]
          exact SqL.of upd_same
        · rw [List.length_append, List.length_append, List.length_map, List.length_map]
          omega
        · have bb := (((((b35.trans b6).same s7).same g1).same s9).same g2).same s'
          have BB := ((((B6.same s7).same g1).same s9).same g2).same s'
          exact q H' bb (BB.le (by omega))
end
end BL

namespace BL
open PySem PySem.Spec PyProof.Rows L2
open C8 (Cal Mak pe_c pe_mk)
/-! ### the rows by hand -/
section
variable {K : PySem.W.Frag} {C : Addr} {σ : L2.St} {H : Hp} {te ta tb : TE}
theorem gv_catT {ds es : List PyData} (g : GV ta σ H (RD K (.tuple ds))) (f : GV tb σ H (RD K (.tuple es))) (n1 : ds ≠ []) (n2 : es ≠ []) (hl : ds.length + es.length ≤ sizeLine) : GV (tOp (rCatT K) ta tb) σ H (RD K (.tuple (ds ++ es))) := fun H1 s Q q => g H1 s _ fun v H2 s2 r => f H2 (s.trans s2) _ fun u H3 s3 t => by
  cases r with
  | @tup a xs _ h1 a1 =>
    cases t with
    | @tup b ys _ h2 a2 =>
      have a1' := dpam s3 a1
      refine ⟨a, b, xs, ys, rfl, rfl, s3.seT h1, h2, fun z => ?_, by rw [dpa_len a1, dpa_len a2]; exact hl, fun z => ?_, fun _ p np => ?_⟩
      · subst z; cases a1; exact n1 rfl
      · subst z; cases a2; exact absurd rfl n2
      · exact q _ _ ((s2.trans s3).trans (same_upd np)) (.tup (SqT.of upd_same) (dpam (same_upd np) (dpa_app a1' a2)))
theorem dpa_rep {vs : List V} {ds : List PyData} (h : DpAll K H vs ds) : ∀ n : Nat, DpAll K H (List.replicate n vs).flatten (List.replicate n ds).flatten
  | 0 => .nil
  | n + 1 => by
    rw [List.replicate_succ, List.replicate_succ, List.flatten_cons, List.flatten_cons]
    exact dpa_app h (dpa_rep h n)
theorem gv_repT {ds : List PyData} {k : Int} (g : GV ta σ H (RD K (.tuple ds))) (f : GV tb σ H (RD K (.int k))) (n1 : ds ≠ []) (k1 : 2 ≤ k) (k2 : k ≤ 1000) (hl : ds.length ≤ 1000) : GV (tOp (rRepT K) ta tb) σ H (RD K (.tuple (List.replicate k.toNat ds).flatten)) := fun H1 s Q q => g H1 s _ fun v H2 s2 r => f H2 (s.trans s2) _ fun u H3 s3 t => by
  cases r with
  | @tup a xs _ h1 a1 =>
    cases t
    refine ⟨a, k, xs, rfl, rfl, s3.seT h1, fun z => ?_, k1, k2, by rw [dpa_len a1]; exact hl, fun p np => ?_⟩
    · subst z; cases a1; exact n1 rfl
    · exact q _ _ ((s2.trans s3).trans (same_upd np)) (.tup (SqT.of upd_same) (dpam (same_upd np) (dpa_rep (dpam s3 a1) _)))
end
def evD (e : Ev) : PyData := .tuple [.str (wd e.1), .int e.2]
def rowD (es : List Ev) : PyData := .tuple (es.map evD)
theorem dp_ev {K : PySem.W.Frag} {H : Hp} {v : V} {e : Ev} (h : Dp K H v (evD e)) : EvT K H v e := by
  obtain ⟨k, n⟩ := e
  cases h with
  | @tup a xs _ h1 a1 =>
    cases a1 with
    | cons x a1 =>
      cases x
      cases a1 with
      | cons y a1 =>
        cases y
        cases a1
        exact ⟨a, rfl, h1⟩
theorem dp_evs {K : PySem.W.Frag} {H : Hp} : ∀ {xs : List V} {es : List Ev}, DpAll K H xs (es.map evD) → RowX (EvT K H) xs es
  | [], [], _ => rowx_nil
  | x :: xs, e :: es, h => by
    cases h with
    | cons a b =>
      have q := dp_evs b
      refine ⟨congrArg Nat.succ q.1, fun i v d p r => ?_⟩
      cases i with
      | zero => cases p; cases r; exact dp_ev a
      | succ i => exact q.2 i v d p r
theorem dp_row {K : PySem.W.Frag} {H : Hp} {v : V} {es : List Ev} (h : Dp K H v (rowD es)) : RowT K H v es := by
  cases h with
  | @tup a xs _ h1 a1 => exact ⟨a, xs, rfl, h1, dp_evs a1⟩
abbrev handRow : List Ev := [(.add, 3), (.floor, 0), (.cap, 10), (.add, -4)]
def handRows : List (List Ev) := [handRow, [], handRow ++ handRow, [(.floor, 9), (.cap, 4)], [(.cap, 4), (.floor, 9)], [(.floor, 4), (.cap, 4)], List.replicate 60 (.add, 5), [(.add, 2), (.floor, 1), (.add, -3)], [(.cap, 0), (.add, 7), (.cap, 9)], [(.floor, 3), (.floor, 1), (.cap, 5), (.cap, 8)], [(.add, -1), (.add, 1)], [(.cap, 1000000000000000000000000000000), (.floor, -1)]]
abbrev dueS0 : List Str := ["-1 -4 6", "0 - -", "-2 -4 5", "- 4 4", "- 9 9", "- 4 4", "300 - -", "-1 -2 -", "7 - 7", "0 3 5"]
abbrev dueS : List Str := ["-1 -4 6", "0 - -", "-2 -4 5", "- 4 4", "- 9 9", "- 4 4", "300 - -", "-1 -2 -", "7 - 7", "0 3 5", "0 - -"]
abbrev dueL : Str := ("0 -1 1" : Str) ++ Txt.mul ("0" : Str) 30
theorem dpa_cast {K : PySem.W.Frag} {H : Hp} {xs : List V} {d d' : List PyData} (e : d = d') (h : DpAll K H xs d) : DpAll K H xs d' := e ▸ h
def Rws (K : PySem.W.Frag) (H : Hp) (xs : List V) (ess : List (List Ev)) : Prop := xs.length = ess.length ∧ ∀ (i : Nat) v es, xs[i]? = some v → ess[i]? = some es → RowT K H v es
theorem Rws.same {K : PySem.W.Frag} {H H' : Hp} {xs : List V} {ess : List (List Ev)} (h : Rws K H xs ess) (s : Same H H') : Rws K H' xs ess := ⟨h.1, fun i v es p q => (h.2 i v es p q).same s⟩
theorem SqT.upd {K : PySem.W.Frag} {H : Hp} {a l : Addr} {o : HO} {xs ys : List V} (h : SqT K H a xs) (e : H l = some (.lst ys)) : SqT K (upd H l o) a xs := by
  rcases h with (h | ⟨d, h⟩) | h
  · exact .inl (.inl (by rw [upd_ne (fun z => by rw [z, e] at h; cases h)]; exact h))
  · exact .inl (.inr ⟨d, by rw [upd_ne (fun z => by rw [z, e] at h; cases h)]; exact h⟩)
  · exact .inr h
theorem RowT.upd {K : PySem.W.Frag} {H : Hp} {l : Addr} {o : HO} {ys : List V} {v : V} {es : List Ev} (h : RowT K H v es) (e : H l = some (.lst ys)) : RowT K (upd H l o) v es := by
  obtain ⟨a, xs, rfl, h, x⟩ := h
  exact ⟨a, xs, rfl, SqT.upd h e, x.imp fun v d ⟨t, h1, h2⟩ => ⟨t, h1, SqT.upd h2 e⟩⟩
theorem Rws.upd {K : PySem.W.Frag} {H : Hp} {xs : List V} {ess : List (List Ev)} {l : Addr} {o : HO} {ys : List V} (h : Rws K H xs ess) (e : H l = some (.lst ys)) : Rws K (upd H l o) xs ess := ⟨h.1, fun i v es p q => (h.2 i v es p q).upd e⟩
theorem dpa_rows {K : PySem.W.Frag} {H : Hp} : ∀ {xs : List V} {ess : List (List Ev)}, DpAll K H xs (ess.map rowD) → Rws K H xs ess
  | [], [], _ => ⟨rfl, fun i v es p => by simp at p⟩
  | x :: xs, e :: ess, h => by
    cases h with
    | cons a b =>
      have q := dpa_rows b
      refine ⟨congrArg Nat.succ q.1, fun i v d p r => ?_⟩
      cases i with
      | zero => cases p; cases r; exact dp_row a
      | succ i => exact q.2 i v d p r
theorem dpa_strs {K : PySem.W.Frag} {H : Hp} : ∀ {xs : List V} {ss : List Str}, DpAll K H xs (ss.map PyData.str) → xs = ss.map V.str
  | [], [], _ => rfl
  | x :: xs, s :: ss, h => by
    cases h with
    | cons a b =>
      cases a
      rw [dpa_strs b]
      rfl
theorem eqs_strs {K : PySem.W.Frag} {H : Hp} {a b : Addr} {xs : List Str} (h1 : SqL K H a (xs.map V.str)) (h2 : SqL K H b (xs.map V.str)) (l : xs.length ≤ 1000) : Eqs K H 1 (.ref a) (.ref b) := by
  refine .lst h1 h2 rfl (by rw [List.length_map]; exact l) fun i x y p q => ?_
  rw [p] at q
  cases q
  rw [List.getElem?_map] at p
  cases e : xs[i]? with
  | none => rw [e] at p; cases p
  | some z =>
    rw [e] at p
    cases p
    exact .str 0 z
def txtOf (es : List Ev) : Str := txt (wayOf es).1 (wayOf es).2.1 (wayOf es).2.2
def lg3 (es : List Ev) : Bool := lgB (wayOf es).1 && (lgB (wayOf es).2.1 && lgB (wayOf es).2.2)
theorem hand_all : handRows.all lg3 = true := by decide +kernel
theorem hand_lg {i : Nat} {es : List Ev} (h : handRows[i]? = some es) : ∀ z, (wayOf es).1 = some z ∨ (wayOf es).2.1 = some z ∨ (wayOf es).2.2 = some z → z.natAbs.log2 < 1920 := by
  have l := List.all_eq_true.mp hand_all es (List.mem_of_getElem? h)
  unfold lg3 at l
  rw [Bool.and_eq_true, Bool.and_eq_true] at l
  intro z hz
  rcases hz with e | e | e
  · have := l.1; rw [e] at this; exact of_decide_eq_true this
  · have := l.2.1; rw [e] at this; exact of_decide_eq_true this
  · have := l.2.2; rw [e] at this; exact of_decide_eq_true this
theorem hand_rks : (handRows.all fun es => decide (es.length ≤ 900) && decide (reach es < far33)) = true := by decide +kernel
theorem hand_rk {i : Nat} {es : List Ev} (h : handRows[i]? = some es) : es.length ≤ 900 ∧ reach es < far33 := by
  have l := List.all_eq_true.mp hand_rks es (List.mem_of_getElem? h)
  rw [Bool.and_eq_true] at l
  exact ⟨of_decide_eq_true l.1, of_decide_eq_true l.2⟩
def spHand : Sp := fun vs H Q _ => vs = [] ∧ ∀ H', Same H H' → Q (.bl true) H'
theorem mono_wo {K : PySem.W.Frag} {C : Addr} {i : Nat} : Mono (tCall (spWO K C) [] C8.E0 (tCons (tVar i) tNil)) := fun σ H Q Q' m h => by
  obtain ⟨v, e, v', es, e2, r, k⟩ := h
  exact ⟨v, e, v', es, e2, r, fun r H' s w => m _ _ (k r H' s w)⟩
theorem monoA_int {i : Int} : MonoA (tCons (tC (.int i)) tNil) := fun σ H Q Q' m h => m _ _ h
section
variable {P : Program} {w : World} {K : PySem.W.Frag} {mg : Str → Option Value} {base : Heap} {C : Addr}
theorem ok_hand {f : Addr} {fd : FuncData} (F : Fun K "_law_by_hand_right" "_law_by_hand_right" sHand f fd) (T : Bt mg) (W : WT K C) (pT : Pr2 P w K mg base 2 C "text" (spText C)) (c_Way2 : Mak P w K mg base 1 "Way" C (spInitW C) [.non])
    (c_way_of : Cal P w K mg base 5 "way_of" (spWO K C) []) (k_way_of : CalK P w K mg base 5 "way_of" ["row"] (spWO K C) (fun _ zs => [zs.getD 0 .non])) (c__law_same : Cal P w K mg base 2 "_law_same" (spSame K 2) []) (c__law_told_right : Cal P w K mg base 6 "_law_told_right" (spTold K) [])
    (o_eq : Own P w K mg base 1 C "__eq__" (spEqW C)) (o_call : Own P w K mg base 4 C "__call__" (spLed C)) :
    FnOk P w K mg base CX0 7 f fd [] spHand := by
  refine F.ok scHand (fun vs H Q E h => ?_) (fun cdv A outer s H vs Q E hr h => ?_)
  · obtain ⟨rfl, _⟩ := h
    rfl
  · obtain ⟨rfl, q⟩ := h
    refine ⟨_, (pss_cons (ps_set (i := 0) scHand.nd rfl (.inl rfl) (pe_tup (pa_cons (pe_tup (pa_cons pe_str (pa_cons pe_int pa_nil))) (pa_cons (pe_tup (pa_cons pe_str (pa_cons pe_int pa_nil))) (pa_cons (pe_tup (pa_cons pe_str (pa_cons pe_int pa_nil))) (pa_cons (pe_tup (pa_cons pe_str (pa_cons (pe_un un_neg pe_int) pa_nil))) pa_nil))))))
  (pss_cons (ps_set (i := 1) scHand.nd rfl (.inl rfl) (pe_lst (pa_cons (pv 0) (pa_cons (pe_tup pa_nil) (pa_cons (pe_op op_catT (pv 0) (pv 0)) (pa_cons (pe_tup (pa_cons (pe_tup (pa_cons pe_str (pa_cons pe_int pa_nil))) (pa_cons (pe_tup (pa_cons pe_str (pa_cons pe_int pa_nil))) pa_nil))) (pa_cons (pe_tup (pa_cons (pe_tup (pa_cons pe_str (pa_cons pe_int pa_nil))) (pa_cons (pe_tup (pa_cons pe_str (pa_cons pe_int pa_nil))) pa_nil))) pa_nil)))))))
  (pss_cons (ps_set (i := 1) scHand.nd rfl (.inl rfl) (pe_op op_cat (pv 1) (pe_lst (pa_cons (pe_tup (pa_cons (pe_tup (pa_cons pe_str (pa_cons pe_int pa_nil))) (pa_cons (pe_tup (pa_cons pe_str (pa_cons pe_int pa_nil))) pa_nil))) pa_nil))))
  (pss_cons (ps_set (i := 1) scHand.nd rfl (.inl rfl) (pe_op op_cat (pv 1) (pe_lst (pa_cons (pe_op op_repT (pe_tup (pa_cons (pe_tup (pa_cons pe_str (pa_cons pe_int pa_nil))) pa_nil)) pe_int) (pa_cons (pe_tup (pa_cons (pe_tup (pa_cons pe_str (pa_cons pe_int pa_nil))) (pa_cons (pe_tup (pa_cons pe_str (pa_cons pe_int pa_nil))) (pa_cons (pe_tup (pa_cons pe_str (pa_cons (pe_un un_neg pe_int) pa_nil))) pa_nil)))) pa_nil)))))
  (pss_cons (ps_set (i := 1) scHand.nd rfl (.inl rfl) (pe_op op_cat (pv 1) (pe_lst (pa_cons (pe_tup (pa_cons (pe_tup (pa_cons pe_str (pa_cons pe_int pa_nil))) (pa_cons (pe_tup (pa_cons pe_str (pa_cons pe_int pa_nil))) (pa_cons (pe_tup (pa_cons pe_str (pa_cons pe_int pa_nil))) pa_nil)))) pa_nil))))
  (pss_cons (ps_set (i := 1) scHand.nd rfl (.inl rfl) (pe_op op_cat (pv 1) (pe_lst (pa_cons (pe_tup (pa_cons (pe_tup (pa_cons pe_str (pa_cons pe_int pa_nil))) (pa_cons (pe_tup (pa_cons pe_str (pa_cons pe_int pa_nil))) (pa_cons (pe_tup (pa_cons pe_str (pa_cons pe_int pa_nil))) (pa_cons (pe_tup (pa_cons pe_str (pa_cons pe_int pa_nil))) pa_nil))))) (pa_cons (pe_tup (pa_cons (pe_tup (pa_cons pe_str (pa_cons (pe_un un_neg pe_int) pa_nil))) (pa_cons (pe_tup (pa_cons pe_str (pa_cons pe_int pa_nil))) pa_nil))) pa_nil)))))
  (pss_cons (ps_set (i := 1) scHand.nd rfl (.inl rfl) (pe_op op_cat (pv 1) (pe_lst (pa_cons (pe_tup (pa_cons (pe_tup (pa_cons pe_str (pa_cons (pe_op op_pow pe_int pe_int) pa_nil))) (pa_cons (pe_tup (pa_cons pe_str (pa_cons (pe_un un_neg pe_int) pa_nil))) pa_nil))) pa_nil))))
  (pss_cons (ps_set (i := 2) scHand.nd rfl (.inl rfl) (pe_lst (pa_cons pe_str (pa_cons pe_str (pa_cons pe_str (pa_cons pe_str (pa_cons pe_str (pa_cons pe_str (pa_cons pe_str (pa_cons pe_str (pa_cons pe_str (pa_cons pe_str pa_nil))))))))))))
  (pss_cons (ps_set (i := 2) scHand.nd rfl (.inl rfl) (pe_op op_cat (pv 2) (pe_lst (pa_cons pe_str pa_nil))))
  (pss_cons (ps_expr (pe_bm PySem.F.plainAttrs_list PySem.F.slot_list_append PySem.F.type_list_append mt_append (pv 2) (pa_cons (pe_op op_add_str pe_str (pe_op op_mulS pe_str pe_int)) pa_nil)))
  (pss_cons (ps_setLc (i := 3) (own := [("_law_own", 4)]) (g := gName 4) (by rfl) scHand.nd rfl rfl (by rfl) (pi_list (pv 1)) (blkOk_by (own := [("_law_own", 4)]) (N := nHand) (sc := defScope sHand) (by decide +kernel)) (fun _ _ _ _ _ => (pg_name (i := 4) scHand.nd rfl (.inl rfl))) (fun _ _ _ _ _ => pts_nil) (fun _ _ _ _ _ => (pe_pr2 (pe_c c_way_of hr (by decide) (by rfl) (pa_cons (pv 4) pa_nil)) W.cl pT hr (by decide))))
  (pss_cons (ps_if (pt_not (pt_val (pe_c c__law_same hr (by decide) (by rfl) (pa_cons (pv 3) (pa_cons (pv 2) pa_nil))))) (pss_one (ps_ret pe_bl)) pss_nil)
  (pss_cons (ps_set (i := 3) scHand.nd rfl (.inl rfl) (pe_lst (pa_cons (pe_cmpR (op_eqO o_eq hr (by decide)) (pe_ck0 k_way_of hr (by decide) (by rfl) (pk_cons (pe_lst (pa_cons (pe_lst (pa_cons pe_str (pa_cons pe_int pa_nil))) pa_nil)) pk_nil)) (pe_mk c_Way2 hr (by decide) (by rfl) (pa_cons pe_int (pa_cons pe_int pa_nil))) (nomark _)) (pa_cons (pe_called o_call hr (by decide) (pe_c c_way_of hr (by decide) (by rfl) (pa_cons (pv 0) pa_nil)) mono_wo (pa_cons pe_int pa_nil) monoA_int) (pa_cons (pe_called o_call hr (by decide) (pe_c c_way_of hr (by decide) (by rfl) (pa_cons (pv 0) pa_nil)) mono_wo (pa_cons pe_int pa_nil) monoA_int) pa_nil)))))
  (pss_cons (ps_if (pt_not (pt_val (pe_c c__law_same hr (by decide) (by rfl) (pa_cons (pv 3) (pa_cons (pe_lst (pa_cons pe_bl (pa_cons pe_int (pa_cons pe_int pa_nil)))) pa_nil))))) (pss_one (ps_ret pe_bl)) pss_nil)
  (pss_one (ps_ret (pe_callB (cr_all rfl) (by rfl) T.all (by decide +kernel) (pa_cons (pe_lc (own := [("_law_own", 4)]) (g := gName 4) (by rfl) scHand.nd (pi_list (pv 1)) (blkOk_by (own := [("_law_own", 4)]) (N := nHand) (sc := defScope sHand) (by decide +kernel)) (fun _ _ _ _ _ => (pg_name (i := 4) scHand.nd rfl (.inl rfl))) (fun _ _ _ _ _ => pts_nil) (fun _ _ _ _ _ => (pe_c c__law_told_right hr (by decide) (by rfl) (pa_cons (pv 4) (pa_cons (pe_listRg rfl (by rfl) T.list (prg_2 (by rfl) T.range (pe_un un_neg pe_int) pe_int)) pa_nil))))) pa_nil)))))))))))))))))), ?_⟩
    refine asg (i := 0) (fun v => [some v, none, none, none, none]) (fun _ => rfl) (gv_tup (K := K) (ga_cons (gv_tup (K := K) (ga_cons (gv_str (K := K) _) (ga_cons (gv_int (K := K) 3) ga_nil)) (by show 2 ≤ sizeLine; decide)) (ga_cons (gv_tup (K := K) (ga_cons (gv_str (K := K) _) (ga_cons (gv_int (K := K) 0) ga_nil)) (by show 2 ≤ sizeLine; decide)) (ga_cons (gv_tup (K := K) (ga_cons (gv_str (K := K) _) (ga_cons (gv_int (K := K) 10) ga_nil)) (by show 2 ≤ sizeLine; decide)) (ga_cons (gv_tup (K := K) (ga_cons (gv_str (K := K) _) (ga_cons (gv_neg (gv_int (K := K) 4)) ga_nil)) (by show 2 ≤ sizeLine; decide)) ga_nil)))) (by show 4 ≤ sizeLine; decide)) fun v1 H1 s1 F => ?_
    have F0 := F
    clear F
    refine asg (i := 1) (fun v => [some v1, some v, none, none, none]) (fun _ => rfl) (gv_lst (K := K) (ga_cons (gv_var (i := 0) rfl fun _ s => dpm s F0) (ga_cons (gv_tup (K := K) ga_nil (by show 0 ≤ sizeLine; decide)) (ga_cons (gv_catT (gv_var (i := 0) rfl fun _ s => dpm s F0) (gv_var (i := 0) rfl fun _ s => dpm s F0) (by simp) (by simp) (by decide +kernel)) (ga_cons (gv_tup (K := K) (ga_cons (gv_tup (K := K) (ga_cons (gv_str (K := K) _) (ga_cons (gv_int (K := K) 9) ga_nil)) (by show 2 ≤ sizeLine; decide)) (ga_cons (gv_tup (K := K) (ga_cons (gv_str (K := K) _) (ga_cons (gv_int (K := K) 4) ga_nil)) (by show 2 ≤ sizeLine; decide)) ga_nil)) (by show 2 ≤ sizeLine; decide)) (ga_cons (gv_tup (K := K) (ga_cons (gv_tup (K := K) (ga_cons (gv_str (K := K) _) (ga_cons (gv_int (K := K) 4) ga_nil)) (by show 2 ≤ sizeLine; decide)) (ga_cons (gv_tup (K := K) (ga_cons (gv_str (K := K) _) (ga_cons (gv_int (K := K) 9) ga_nil)) (by show 2 ≤ sizeLine; decide)) ga_nil)) (by show 2 ≤ sizeLine; decide)) ga_nil))))) (by show 5 ≤ sizeLine; decide)) fun v2 H2 s2 F => ?_
    replace F0 := dpm s2 F0
    have F1 := F
    clear F
    refine asg (i := 1) (fun v => [some v1, some v, none, none, none]) (fun _ => rfl) (gv_cat (K := K) (gv_var (i := 1) rfl fun _ s => rl_mono s F1) (gv_lst (K := K) (ga_cons (gv_tup (K := K) (ga_cons (gv_tup (K := K) (ga_cons (gv_str (K := K) _) (ga_cons (gv_int (K := K) 4) ga_nil)) (by show 2 ≤ sizeLine; decide)) (ga_cons (gv_tup (K := K) (ga_cons (gv_str (K := K) _) (ga_cons (gv_int (K := K) 4) ga_nil)) (by show 2 ≤ sizeLine; decide)) ga_nil)) (by show 2 ≤ sizeLine; decide)) ga_nil) (by show 1 ≤ sizeLine; decide)) (by decide +kernel)) fun v3 H3 s3 F => ?_
    replace F0 := dpm s3 F0
    clear F1
    have F1 := F
    clear F
    refine asg (i := 1) (fun v => [some v1, some v, none, none, none]) (fun _ => rfl) (gv_cat (K := K) (gv_var (i := 1) rfl fun _ s => rl_mono s F1) (gv_lst (K := K) (ga_cons (gv_repT (gv_tup (K := K) (ga_cons (gv_tup (K := K) (ga_cons (gv_str (K := K) _) (ga_cons (gv_int (K := K) 5) ga_nil)) (by show 2 ≤ sizeLine; decide)) ga_nil) (by show 1 ≤ sizeLine; decide)) (gv_int (K := K) 60) (by simp) (by decide) (by decide) (by decide)) (ga_cons (gv_tup (K := K) (ga_cons (gv_tup (K := K) (ga_cons (gv_str (K := K) _) (ga_cons (gv_int (K := K) 2) ga_nil)) (by show 2 ≤ sizeLine; decide)) (ga_cons (gv_tup (K := K) (ga_cons (gv_str (K := K) _) (ga_cons (gv_int (K := K) 1) ga_nil)) (by show 2 ≤ sizeLine; decide)) (ga_cons (gv_tup (K := K) (ga_cons (gv_str (K := K) _) (ga_cons (gv_neg (gv_int (K := K) 3)) ga_nil)) (by show 2 ≤ sizeLine; decide)) ga_nil))) (by show 3 ≤ sizeLine; decide)) ga_nil)) (by show 2 ≤ sizeLine; decide)) (by decide +kernel)) fun v4 H4 s4 F => ?_
    replace F0 := dpm s4 F0
    clear F1
    have F1 := F
    clear F
    refine asg (i := 1) (fun v => [some v1, some v, none, none, none]) (fun _ => rfl) (gv_cat (K := K) (gv_var (i := 1) rfl fun _ s => rl_mono s F1) (gv_lst (K := K) (ga_cons (gv_tup (K := K) (ga_cons (gv_tup (K := K) (ga_cons (gv_str (K := K) _) (ga_cons (gv_int (K := K) 0) ga_nil)) (by show 2 ≤ sizeLine; decide)) (ga_cons (gv_tup (K := K) (ga_cons (gv_str (K := K) _) (ga_cons (gv_int (K := K) 7) ga_nil)) (by show 2 ≤ sizeLine; decide)) (ga_cons (gv_tup (K := K) (ga_cons (gv_str (K := K) _) (ga_cons (gv_int (K := K) 9) ga_nil)) (by show 2 ≤ sizeLine; decide)) ga_nil))) (by show 3 ≤ sizeLine; decide)) ga_nil) (by show 1 ≤ sizeLine; decide)) (by decide +kernel)) fun v5 H5 s5 F => ?_
    replace F0 := dpm s5 F0
    clear F1
    have F1 := F
    clear F
    refine asg (i := 1) (fun v => [some v1, some v, none, none, none]) (fun _ => rfl) (gv_cat (K := K) (gv_var (i := 1) rfl fun _ s => rl_mono s F1) (gv_lst (K := K) (ga_cons (gv_tup (K := K) (ga_cons (gv_tup (K := K) (ga_cons (gv_str (K := K) _) (ga_cons (gv_int (K := K) 3) ga_nil)) (by show 2 ≤ sizeLine; decide)) (ga_cons (gv_tup (K := K) (ga_cons (gv_str (K := K) _) (ga_cons (gv_int (K := K) 1) ga_nil)) (by show 2 ≤ sizeLine; decide)) (ga_cons (gv_tup (K := K) (ga_cons (gv_str (K := K) _) (ga_cons (gv_int (K := K) 5) ga_nil)) (by show 2 ≤ sizeLine; decide)) (ga_cons (gv_tup (K := K) (ga_cons (gv_str (K := K) _) (ga_cons (gv_int (K := K) 8) ga_nil)) (by show 2 ≤ sizeLine; decide)) ga_nil)))) (by show 4 ≤ sizeLine; decide)) (ga_cons (gv_tup (K := K) (ga_cons (gv_tup (K := K) (ga_cons (gv_str (K := K) _) (ga_cons (gv_neg (gv_int (K := K) 1)) ga_nil)) (by show 2 ≤ sizeLine; decide)) (ga_cons (gv_tup (K := K) (ga_cons (gv_str (K := K) _) (ga_cons (gv_int (K := K) 1) ga_nil)) (by show 2 ≤ sizeLine; decide)) ga_nil)) (by show 2 ≤ sizeLine; decide)) ga_nil)) (by show 2 ≤ sizeLine; decide)) (by decide +kernel)) fun v6 H6 s6 F => ?_
    replace F0 := dpm s6 F0
    clear F1
    have F1 := F
    clear F
    refine asg (i := 1) (fun v => [some v1, some v, none, none, none]) (fun _ => rfl) (gv_cat (K := K) (gv_var (i := 1) rfl fun _ s => rl_mono s F1) (gv_lst (K := K) (ga_cons (gv_tup (K := K) (ga_cons (gv_tup (K := K) (ga_cons (gv_str (K := K) _) (ga_cons (gv_pow (gv_int (K := K) 10) (gv_int (K := K) 30) ⟨by decide, by decide, by decide⟩) ga_nil)) (by show 2 ≤ sizeLine; decide)) (ga_cons (gv_tup (K := K) (ga_cons (gv_str (K := K) _) (ga_cons (gv_neg (gv_int (K := K) 1)) ga_nil)) (by show 2 ≤ sizeLine; decide)) ga_nil)) (by show 2 ≤ sizeLine; decide)) ga_nil) (by show 1 ≤ sizeLine; decide)) (by decide +kernel)) fun v7 H7 s7 F => ?_
    replace F0 := dpm s7 F0
    clear F1
    have F1 := F
    clear F
    refine asg (i := 2) (fun v => [some v1, some v7, some v, none, none]) (fun _ => rfl) (gv_lst (K := K) (ga_cons (gv_str (K := K) _) (ga_cons (gv_str (K := K) _) (ga_cons (gv_str (K := K) _) (ga_cons (gv_str (K := K) _) (ga_cons (gv_str (K := K) _) (ga_cons (gv_str (K := K) _) (ga_cons (gv_str (K := K) _) (ga_cons (gv_str (K := K) _) (ga_cons (gv_str (K := K) _) (ga_cons (gv_str (K := K) _) ga_nil)))))))))) (by show 10 ≤ sizeLine; decide)) fun v8 H8 s8 F => ?_
    replace F0 := dpm s8 F0
    replace F1 := rl_mono s8 F1
    have F2 := F
    clear F
    obtain ⟨ls, xs, rfl, e1, a1⟩ := F1
    obtain ⟨l8, ys, rfl, e8, a2⟩ := F2
    have s08 : Same H H8 := ((((((s1.trans s2).trans s3).trans s4).trans s5).trans s6).trans s7).trans s8
    have a1' : DpAll K H8 xs (handRows.map rowD) := dpa_cast (by kernel_rfl) a1
    have a2' : DpAll K H8 ys (dueS0.map PyData.str) := dpa_cast (by kernel_rfl) a2
    have F0' : RowT K H8 v1 handRow := dp_row (dp_cast (by kernel_rfl) F0)
    have Rs : Rws K H8 xs handRows := dpa_rows a1'
    obtain rfl := dpa_strs a2'
    clear a1 a2 a1' a2' F0
    refine ⟨_, rfl, (by show 1 ≤ sizeLine; decide), fun l9 n9 => ?_⟩
    have g9 := same_upd (o := .lst [.str "0 - -"]) n9
    refine ⟨l8, l9, _, _, rfl, rfl, g9 _ _ e8, upd_same, (by show 11 ≤ sizeLine; decide), fun ld nd => ?_⟩
    have n0 : H ld = none := same_none (s08.trans g9) nd
    have g10 := g9.trans (same_upd (o := .lst (dueS0.map V.str ++ [V.str "0 - -"])) nd)
    have e2 : (upd (upd H8 l9 (.lst [.str "0 - -"])) ld (.lst (dueS0.map V.str ++ [V.str "0 - -"]))) ld = some (.lst (dueS.map V.str)) := upd_same
    have hne : ls ≠ ld := fun z => by
      have := g9 _ _ e1
      rw [z, nd] at this
      cases this
    replace e1 := g10 _ _ e1
    replace Rs := Rs.same g10
    replace F0' := F0'.same g10
    replace s08 := s08.trans g10
    generalize (upd (upd H8 l9 (.lst [.str "0 - -"])) ld (.lst (dueS0.map V.str ++ [V.str "0 - -"]))) = H9 at *
    refine ⟨_, rfl, .inl ⟨rfl, _, SqL.of e2⟩, (gv_cats (K := K) (gv_str (K := K) _) (gv_muls (gv_str (K := K) _) (gv_int (K := K) 30) ⟨by decide +kernel, by decide +kernel, by decide +kernel⟩) (by decide +kernel)) H9 (Same.refl _) _ fun v H10 s10 r => ?_⟩
    cases r
    refine ⟨ld, _, _, rfl, rfl, s10 _ _ e2, (by rw [List.length_map]; show 11 < sizeLine; decide), ?_⟩
    have e3 := s10 _ _ e2
    have F0'' := (F0'.same s10).upd (o := .lst (dueS.map V.str ++ [V.str dueL])) e3
    have Rs' := (Rs.same s10).upd (o := .lst (dueS.map V.str ++ [V.str dueL])) e3
    have s011 := (s08.trans s10).upd (o := .lst (dueS.map V.str ++ [V.str dueL])) n0
    have e4 : (upd H10 ld (.lst (dueS.map V.str ++ [V.str dueL]))) ls = some (.lst xs) := by rw [upd_ne hne]; exact s10 _ _ e1
    have e5 : (upd H10 ld (.lst (dueS.map V.str ++ [V.str dueL]))) ld = some (.lst ((dueS ++ [dueL]).map V.str)) := upd_same
    generalize upd H10 ld (.lst (dueS.map V.str ++ [V.str dueL])) = H11 at F0'' Rs' s011 e4 e5 ⊢
    -- the texts
    refine ⟨_, rfl, ls, rfl, ⟨_, SqL.of e4⟩, fun D nD => ?_⟩
    refine lc_it (walk_list (xs := xs)) (fun i H3 => Same H11 H3 ∧ H3 D = some (.lst (((handRows.map txtOf).take i).map V.str))) ⟨same_upd nD, upd_same⟩ (fun i H3 _ h => SqL.of (h.1 _ _ e4)) ?_ ?_
    · rintro i y H12 H13 hi ⟨s12, e12⟩ ⟨rfl, hy⟩
      have he : handRows[i]? = some (handRows[i]'(by rw [← Rs'.1]; exact hi)) := List.getElem?_eq_getElem _
      have hv := (Rs'.2 i y _ hy he).same s12
      have lg := hand_lg he
      refine ⟨rfl, ?_⟩
      dsimp only [tYes]
      refine iteT ⟨_, rfl, y, _, rfl, .inl hv, fun r H14 s14 W14 => ?_⟩
      obtain ⟨d1, h1⟩ := id W14
      refine ⟨r, d1, _, rfl, h1, r, _, _, _, rfl, W14, lg, _, s14 _ _ e12, ?_, (s12.trans s14).upd nD, ?_⟩
      · refine small1000 ?_
        rw [List.length_map, List.length_take, List.length_map]
        show min i 12 ≤ 1000
        omega
      · rw [List.take_add_one, List.getElem?_map, he, List.map_append]
        exact upd_same
    · rintro H12 ⟨s12, e12⟩
      rw [Rs'.1, ← List.length_map txtOf (as := handRows), List.take_length] at e12
      replace e4 := s12 _ _ e4
      replace e5 := s12 _ _ e5
      replace Rs' := Rs'.same s12
      replace F0'' := F0''.same s12
      replace s011 := s011.trans s12
      refine ⟨_, rfl, _, rfl, _, _, rfl, eqs_strs (SqL.of e12) (by rw [show handRows.map txtOf = dueS ++ [dueL] from by kernel_rfl]; exact SqL.of e5) (by decide), fun H14 s14 => ⟨_, rfl, iteF ?_⟩⟩
      replace e4 := s14 _ _ e4
      replace Rs' := Rs'.same s14
      replace F0'' := F0''.same s14
      replace s011 := s011.trans s14
      -- three more
      refine ⟨(by show 2 ≤ sizeLine; decide), fun p1 n1 => ⟨(by show 1 ≤ sizeLine; decide), fun p2 n2 => ?_⟩⟩
      have g1 := same_upd (o := .lst [.str "floor", .int 2]) n1
      have g2 := same_upd (o := .lst [.ref p1]) n2
      have hL : RowL K (upd (upd H14 p1 (.lst [.str "floor", .int 2])) p2 (.lst [.ref p1])) (.ref p2) [(.floor, 2)] := ⟨p2, _, rfl, SqL.of upd_same, rowx_snoc (xs := []) (es := []) rowx_nil ⟨p1, rfl, SqL.of (g2 _ _ upd_same)⟩⟩
      have g12 := g1.trans g2
      generalize upd (upd H14 p1 (.lst [.str "floor", .int 2])) p2 (.lst [.ref p1]) = H15 at hL g12 ⊢
      replace e4 := g12 _ _ e4
      replace Rs' := Rs'.same g12
      replace F0'' := F0''.same g12
      replace s011 := s011.trans g12
      clear g1 g2 g12
      refine ⟨rfl, _, [(.floor, 2)], rfl, .inr hL, fun r1 Ha sa Wa => ?_⟩
      replace e4 := sa _ _ e4
      replace Rs' := Rs'.same sa
      replace F0'' := F0''.same sa
      replace s011 := s011.trans sa
      refine fun x dx nx ndx nex => ⟨x, dx, some 0, some 2, none, rfl, upd_same, (fun z => by cases z), fun Hb Wb kb => ⟨rfl, ?_⟩⟩
      have sb := made_same nx ndx kb
      replace e4 := sb _ _ e4
      replace Rs' := Rs'.same sb
      replace F0'' := F0''.same sb
      replace s011 := s011.trans sb
      have Wa' := Wa.same sb
      obtain ⟨d1, h1⟩ := id Wa'
      obtain ⟨d2, h2⟩ := id Wb
      refine ⟨r1, x, d1, d2, _, _, rfl, rfl, h1, h2, r1, x, _, _, _, _, _, _, rfl, Wa', Wb, ?_⟩
      refine ⟨_, rfl, _, handRow, rfl, .inl F0'', fun r2 Hc sc Wc => ?_⟩
      replace e4 := sc _ _ e4
      replace Rs' := Rs'.same sc
      replace F0'' := F0''.same sc
      replace s011 := s011.trans sc
      obtain ⟨d3, h3⟩ := id Wc
      refine ⟨r2, rfl, ⟨_, _, h3⟩, r2, _, _, _, 5, rfl, Wc, wf_way _, ?_⟩
      refine ⟨_, rfl, _, handRow, rfl, .inl F0'', fun r3 Hd sd Wd => ?_⟩
      replace e4 := sd _ _ e4
      replace Rs' := Rs'.same sd
      replace s011 := s011.trans sd
      obtain ⟨d4, h4⟩ := id Wd
      refine ⟨r3, rfl, ⟨_, _, h4⟩, r3, _, _, _, 100, rfl, Wd, wf_way _, (by show 3 ≤ sizeLine; decide), fun l1 m1 => ?_⟩
      refine ⟨_, rfl, (by show 3 ≤ sizeLine; decide), fun l2 m2 => ?_⟩
      have k1 := same_upd (o := .lst [.bl (weq (wayOf [(.floor, 2)]).1 (wayOf [(.floor, 2)]).2.1 (wayOf [(.floor, 2)]).2.2 (nrm (some 0) (some 2) none) (some 2) none), .int (BL.ld (wayOf handRow).1 (wayOf handRow).2.1 (wayOf handRow).2.2 5), .int (BL.ld (wayOf handRow).1 (wayOf handRow).2.1 (wayOf handRow).2.2 100)]) m1
      have k2 := same_upd (o := .lst [.bl true, .int 4, .int 6]) m2
      refine ⟨_, _, rfl, .lst (SqL.of (k2 _ _ upd_same)) (SqL.of upd_same) rfl (by show 3 ≤ 1000; decide) (a2_cons (by rw [show weq (wayOf [(.floor, 2)]).1 (wayOf [(.floor, 2)]).2.1 (wayOf [(.floor, 2)]).2.2 (nrm (some 0) (some 2) none) (some 2) none = true from by decide +kernel]; exact .bl 0 true) (a2_cons (by rw [show BL.ld (wayOf handRow).1 (wayOf handRow).2.1 (wayOf handRow).2.2 5 = 4 from by decide +kernel]; exact .int 0 4) (a2_cons (by rw [show BL.ld (wayOf handRow).1 (wayOf handRow).2.1 (wayOf handRow).2.2 100 = 6 from by decide +kernel]; exact .int 0 6) a2_nil))), fun He se => ⟨_, rfl, iteF ?_⟩⟩
      have k3 := (k1.trans k2).trans se
      replace e4 := k3 _ _ e4
      replace Rs' := Rs'.same k3
      replace s011 := s011.trans k3
      -- each row
      refine ⟨_, rfl, ls, rfl, ⟨_, SqL.of e4⟩, fun D2 nD2 => ?_⟩
      refine lc_it (walk_list (xs := xs)) (fun i H3 => Same He H3 ∧ H3 D2 = some (.lst ((List.replicate i true).map V.bl))) ⟨same_upd nD2, upd_same⟩ (fun i H3 _ h => SqL.of (h.1 _ _ e4)) ?_ ?_
      · rintro i y H16 H17 hi ⟨s16, e16⟩ ⟨rfl, hy⟩
        have he : handRows[i]? = some (handRows[i]'(by rw [← Rs'.1]; exact hi)) := List.getElem?_eq_getElem _
        have hv := (Rs'.2 i y _ hy he).same s16
        have rk := hand_rk he
        have hi12 : i < 12 := by
          have := Rs'.1
          rw [this] at hi
          exact hi
        refine ⟨rfl, ?_⟩
        dsimp only [tYes]
        refine iteT ⟨_, rfl, _, rfl, _, _, rfl, rfl, ⟨by decide, by decide, by decide, by decide, by decide⟩, fun q1 m1 => ?_⟩
        refine ⟨_, _, q1, (List.range (31 - (-30) : Int).toNat).map (fun (i : Nat) => (-30 : Int) + (i : Int)), rfl, hv.same (same_upd m1), rk.1, rk.2, ?_, by decide +kernel, fun H18 s18 => ⟨_, s18 _ _ (same_upd m1 _ _ e16), ?_, ((s16.trans (same_upd m1)).trans s18).upd nD2, ?_⟩⟩
        · rw [List.map_map]
          exact SqL.of upd_same
        · rw [List.length_map, List.length_replicate]
          exact small1000 (by omega)
        · rw [upd_same, List.replicate_succ', List.map_append]
          rfl
      · rintro H16 ⟨s16, e16⟩
        rw [Rs'.1] at e16
        refine ⟨D2, _, rfl, SqL.of e16, ?_⟩
        exact q H16 (s011.trans s16)

end
end BL

namespace BL
open PySem PySem.Spec PyProof.Rows L2
open C8 (Cal Mak pe_c pe_mk)
section
variable {P : Program} {w : World} {K : PySem.W.Frag} {mg : Str → Option Value} {base : Heap} {C : Addr}
theorem ok_law {f : Addr} {fd : FuncData} (F : Fun K "law" "law" sLaw f fd) (T : Bt mg) (c__law_by_hand_right : Cal P w K mg base 7 "_law_by_hand_right" spHand []) (c__law_cells : Cal P w K mg base 1 "_law_cells" (spCells K) []) (c__law_box : Cal P w K mg base 1 "_law_box" (spBox K) []) (c__law_right : Cal P w K mg base 7 "_law_right" spRight []) :
    FnOk P w K mg base CX0 8 f fd ["_law_script"] (spLaw K) := by
  refine F.ok scLaw (fun vs H Q E h => ?_) (fun cdv A outer s H vs Q E hr h => ?_)
  · obtain ⟨a, ns, rfl, _⟩ := h
    rfl
  · obtain ⟨a, ns, rfl, hS, hl, q⟩ := h
    refine ⟨_, (pss_cons (ps_if (pt_not (pt_val (pe_c0 c__law_by_hand_right hr (by decide) (by rfl)))) (pss_one (ps_ret pe_bl)) pss_nil)
  (pss_cons (ps_set (i := 1) scLaw.nd rfl (.inl rfl) (pe_c c__law_cells hr (by decide) (by rfl) (pa_cons (pv 0) (pa_cons pe_int pa_nil))))
  (pss_cons (ps_for PassesOwn.never rfl (pi_range1 (by rfl) T.range (pa_cons (pe_callB call_len_seq (by rfl) T.len PySem.boot_len (pa_cons (pv 1) pa_nil)) pa_nil)) (pg_name (i := 2) scLaw.nd rfl (.inl rfl)) (pss_cons (ps_set (i := 3) scLaw.nd rfl (.inr rfl) (pe_c c__law_box hr (by decide) (by rfl) (pa_cons (pv 1) (pa_cons (pv 2) pa_nil))))
  (pss_one (ps_if (pt_not (pt_val (pe_callB (cr_all rfl) (by rfl) T.all (by decide +kernel) (pa_cons (pe_lc (own := [("_law_turn", 4)]) (g := gName 4) (by rfl) scLaw.nd (pi_range1 (by rfl) T.range (pa_cons pe_int pa_nil)) (blkOk_by (own := [("_law_turn", 4)]) (N := nLaw) (sc := defScope sLaw) (by decide +kernel)) (fun _ _ _ _ _ => (pg_name (i := 4) scLaw.nd rfl (.inl rfl))) (fun _ _ _ _ _ => pts_nil) (fun _ _ _ _ _ => (pe_c c__law_right hr (by decide) (by rfl) (pa_cons (pv 3) pa_nil)))) pa_nil)))) (pss_one (ps_ret pe_bl)) pss_nil))))
  (pss_one (ps_ret pe_bl))))), ?_⟩
    refine ⟨rfl, fun H1 s1 => ⟨_, rfl, iteF ?_⟩⟩
    refine ⟨_, rfl, a, ns, rfl, s1.seq hS, hl, fun p cs H2 s2 np ep lp => ?_⟩
    refine ⟨_, rfl, p, _, rfl, .inl (SqL.of ep), _, rfl, ?_, ?_, for_it (walk_range (lo := 0) (n := ((cs.map V.int).length : Int).toNat)) (fun i σ H3 => ∃ v2 v3 v4, σ = [some (.ref a), some (.ref p), v2, v3, v4] ∧ H3 p = some (.lst (cs.map V.int))) ⟨none, none, none, rfl, ep⟩ (fun _ _ _ _ _ => trivial) ?_ ?_⟩
    · rw [List.length_map]; omega
    · rw [List.length_map]; omega
    · rintro i y σ H3 H4 hi ⟨v2, v3, v4, rfl, e3⟩ ⟨rfl, rfl⟩
      have hi' : i < cs.length := by rw [List.length_map] at hi; omega
      refine ⟨_, rfl, _, rfl, p, cs, i, (by show [V.ref p, V.int (0 + (i : Int))] = [V.ref p, V.int (i : Int)]; rw [Int.zero_add]), SqL.of e3, hi', lp, fun b H5 s5 nb B5 => ?_⟩
      have e5 := s5 _ _ e3
      have npb : p ≠ b := ne_of_none e3 nb
      refine ⟨2, rfl, by decide, by decide, fun D nD => ?_⟩
      have nbD : b ≠ D := fun z => by
        obtain ⟨x, y, z', e, _⟩ := B5
        rw [← z, e] at nD
        cases nD
      refine lc_it (walk_range (lo := 0) (n := (2 : Int).toNat)) (fun k H6 => k ≤ 2 ∧ H6 D = some (.lst ((List.replicate k true).map V.bl)) ∧ Box H6 b (1000000 * k) ∧ But b H5 H6) ⟨Nat.zero_le _, upd_same, B5.same (same_upd nD), But.of (same_upd nD)⟩ (fun _ _ _ _ => trivial) ?_ ?_
      · rintro k y H6 H7 hk ⟨k1, e6, B6, b6⟩ ⟨rfl, rfl⟩
        have hk0 : k < 2 := hk
        refine ⟨rfl, ?_⟩
        dsimp only [tYes]
        refine iteT ⟨_, rfl, b, _, rfl, B6, by omega, fun H8 b8 B8 => ⟨_, b8 _ _ nbD.symm e6, ?_, by omega, ?_, ?_, ?_⟩⟩
        · rw [List.length_map, List.length_replicate]
          exact small1000 (by omega)
        · rw [upd_same, List.replicate_succ', List.map_append]
          rfl
        · obtain ⟨x, y, z, e, z0, z1⟩ := B8
          exact ⟨x, y, z, by rw [upd_ne nbD]; exact e, z0, by omega⟩
        · intro c o n e
          have nc : c ≠ D := ne_of_none e nD
          rw [upd_ne nc]
          exact b8 _ _ n (b6 _ _ n e)
      · rintro H6 ⟨k1, e6, B6, b6⟩
        refine ⟨D, _, rfl, SqL.of e6, ?_⟩
        refine ⟨_, rfl, ?_⟩
        refine iteF ?_
        exact ⟨_, _, _, rfl, b6 _ _ npb e5⟩
    · rintro σ H3 ⟨v2, v3, v4, rfl, e3⟩
      exact q H3
end
end BL

namespace BL
open PySem PySem.Spec PyProof.Rows L2
open C8 (Cal Mak pe_c pe_mk)
theorem all_mk {l : PySem.W.OpenLaw} {w : World} {K : PySem.W.Frag} {h : Heap} {mg : Str → Option Value} {fa C f1 f2 f3 f4 f5 f6 f7 f8 f9 f10 f11 f12 f13 f14 f15 f16 f17 f18 f19 f20 f21 f22 : Addr} (X : K.In h) (G : h.Ns mainGlobals mg) (hfa : mg "law" = some (.ref fa))
    {od1 an1 : Option Addr} {sl1 : Array (Option Value)} {oc1 kV1 dc1 pm1 cd1 ct1 : Value}
    {od2 an2 : Option Addr} {sl2 : Array (Option Value)} {oc2 kV2 dc2 pm2 cd2 ct2 : Value}
    {od3 an3 : Option Addr} {sl3 : Array (Option Value)} {oc3 kV3 dc3 pm3 cd3 ct3 : Value}
    {od4 an4 : Option Addr} {sl4 : Array (Option Value)} {oc4 kV4 dc4 pm4 cd4 ct4 : Value}
    {od5 an5 : Option Addr} {sl5 : Array (Option Value)} {oc5 kV5 dc5 pm5 cd5 ct5 : Value}
    {od6 an6 : Option Addr} {sl6 : Array (Option Value)} {oc6 kV6 dc6 pm6 cd6 ct6 : Value}
    {od7 an7 : Option Addr} {sl7 : Array (Option Value)} {oc7 kV7 dc7 pm7 cd7 ct7 : Value}
    {od8 an8 : Option Addr} {sl8 : Array (Option Value)} {oc8 kV8 dc8 pm8 cd8 ct8 : Value}
    {od9 an9 : Option Addr} {sl9 : Array (Option Value)} {oc9 kV9 dc9 pm9 cd9 ct9 : Value}
    {od10 an10 : Option Addr} {sl10 : Array (Option Value)} {oc10 kV10 dc10 pm10 cd10 ct10 : Value}
    {od11 an11 : Option Addr} {sl11 : Array (Option Value)} {oc11 kV11 dc11 pm11 cd11 ct11 : Value}
    {od12 an12 : Option Addr} {sl12 : Array (Option Value)} {oc12 kV12 dc12 pm12 cd12 ct12 : Value}
    {od13 an13 : Option Addr} {sl13 : Array (Option Value)} {oc13 kV13 dc13 pm13 cd13 ct13 : Value}
    {od14 an14 : Option Addr} {sl14 : Array (Option Value)} {oc14 kV14 dc14 pm14 cd14 ct14 : Value}
    {od15 an15 : Option Addr} {sl15 : Array (Option Value)} {oc15 kV15 dc15 pm15 cd15 ct15 : Value}
    {od16 an16 : Option Addr} {sl16 : Array (Option Value)} {oc16 kV16 dc16 pm16 cd16 ct16 : Value}
    {od17 an17 : Option Addr} {sl17 : Array (Option Value)} {oc17 kV17 dc17 pm17 cd17 ct17 : Value}
    {od18 an18 : Option Addr} {sl18 : Array (Option Value)} {oc18 kV18 dc18 pm18 cd18 ct18 : Value}
    {od19 an19 : Option Addr} {sl19 : Array (Option Value)} {oc19 kV19 dc19 pm19 cd19 ct19 : Value}
    {od20 an20 : Option Addr} {sl20 : Array (Option Value)} {oc20 kV20 dc20 pm20 cd20 ct20 : Value}
    {od21 an21 : Option Addr} {sl21 : Array (Option Value)} {oc21 kV21 dc21 pm21 cd21 ct21 : Value}
    {od22 an22 : Option Addr} {sl22 : Array (Option Value)} {oc22 kV22 dc22 pm22 cd22 ct22 : Value}
    {odI anI : Option Addr} {slI : Array (Option Value)} {ocI kVI dcI pmI cdI ctI : Value} {fI dT : Addr} {odT : Option Addr} {nT : Nat} {slT : Array (Option Value)}
    {od_shift an_shift : Option Addr} {sl_shift : Array (Option Value)} {oc_shift kV_shift dc_shift pm_shift cd_shift ct_shift : Value} {p_shift g_shift : Addr} {r_shift : List Value}
    {od_floor an_floor : Option Addr} {sl_floor : Array (Option Value)} {oc_floor kV_floor dc_floor pm_floor cd_floor ct_floor : Value} {p_floor g_floor : Addr} {r_floor : List Value}
    {od_cap an_cap : Option Addr} {sl_cap : Array (Option Value)} {oc_cap kV_cap dc_cap pm_cap cd_cap ct_cap : Value} {p_cap g_cap : Addr} {r_cap : List Value}
    {od_text an_text : Option Addr} {sl_text : Array (Option Value)} {oc_text kV_text dc_text pm_text cd_text ct_text : Value} {p_text g_text : Addr} {r_text : List Value}
    {odM0 anM0 : Option Addr} {slM0 : Array (Option Value)} {ocM0 kVM0 dcM0 pmM0 cdM0 ctM0 : Value} {fM0 : Addr}
    {odM1 anM1 : Option Addr} {slM1 : Array (Option Value)} {ocM1 kVM1 dcM1 pmM1 cdM1 ctM1 : Value} {fM1 : Addr}
    {odM2 anM2 : Option Addr} {slM2 : Array (Option Value)} {ocM2 kVM2 dcM2 pmM2 cdM2 ctM2 : Value} {fM2 : Addr}
    (a1 : PySem.W.nsIn K mainGlobals "held" = some (some (.ref f1))) (l1 : K.lookup f1 = some ⟨oc1, od1, .func (PySem.W.fnOf "held" "held" (defArgs sHeld) (defBody sHeld) (defScope sHeld) .none kV1 dc1 pm1 an1 cd1 ct1), sl1⟩) (c1 : PySem.W.codeIn K cd1 "held" = true) (k1 : PySem.W.keepIn K (.ref f1) = true)
    (a2 : PySem.W.nsIn K mainGlobals "led" = some (some (.ref f2))) (l2 : K.lookup f2 = some ⟨oc2, od2, .func (PySem.W.fnOf "led" "led" (defArgs sLed) (defBody sLed) (defScope sLed) .none kV2 dc2 pm2 an2 cd2 ct2), sl2⟩) (c2 : PySem.W.codeIn K cd2 "led" = true) (k2 : PySem.W.keepIn K (.ref f2) = true)
    (a3 : PySem.W.nsIn K mainGlobals "bound_text" = some (some (.ref f3))) (l3 : K.lookup f3 = some ⟨oc3, od3, .func (PySem.W.fnOf "bound_text" "bound_text" (defArgs sBT) (defBody sBT) (defScope sBT) .none kV3 dc3 pm3 an3 cd3 ct3), sl3⟩) (c3 : PySem.W.codeIn K cd3 "bound_text" = true) (k3 : PySem.W.keepIn K (.ref f3) = true)
    (a4 : PySem.W.nsIn K mainGlobals "event_way" = some (some (.ref f4))) (l4 : K.lookup f4 = some ⟨oc4, od4, .func (PySem.W.fnOf "event_way" "event_way" (defArgs sEW) (defBody sEW) (defScope sEW) .none kV4 dc4 pm4 an4 cd4 ct4), sl4⟩) (c4 : PySem.W.codeIn K cd4 "event_way" = true) (k4 : PySem.W.keepIn K (.ref f4) = true)
    (a5 : PySem.W.nsIn K mainGlobals "way_of" = some (some (.ref f5))) (l5 : K.lookup f5 = some ⟨oc5, od5, .func (PySem.W.fnOf "way_of" "way_of" (defArgs sWO) (defBody sWO) (defScope sWO) .none kV5 dc5 pm5 an5 cd5 ct5), sl5⟩) (c5 : PySem.W.codeIn K cd5 "way_of" = true) (k5 : PySem.W.keepIn K (.ref f5) = true)
    (a6 : PySem.W.nsIn K mainGlobals "_law_box" = some (some (.ref f6))) (l6 : K.lookup f6 = some ⟨oc6, od6, .func (PySem.W.fnOf "_law_box" "_law_box" (defArgs sBox) (defBody sBox) (defScope sBox) .none kV6 dc6 pm6 an6 cd6 ct6), sl6⟩) (c6 : PySem.W.codeIn K cd6 "_law_box" = true) (k6 : PySem.W.keepIn K (.ref f6) = true)
    (a7 : PySem.W.nsIn K mainGlobals "_law_take" = some (some (.ref f7))) (l7 : K.lookup f7 = some ⟨oc7, od7, .func (PySem.W.fnOf "_law_take" "_law_take" (defArgs sTake) (defBody sTake) (defScope sTake) .none kV7 dc7 pm7 an7 cd7 ct7), sl7⟩) (c7 : PySem.W.codeIn K cd7 "_law_take" = true) (k7 : PySem.W.keepIn K (.ref f7) = true)
    (a8 : PySem.W.nsIn K mainGlobals "_law_cells" = some (some (.ref f8))) (l8 : K.lookup f8 = some ⟨oc8, od8, .func (PySem.W.fnOf "_law_cells" "_law_cells" (defArgs sCells) (defBody sCells) (defScope sCells) .none kV8 dc8 pm8 an8 cd8 ct8), sl8⟩) (c8 : PySem.W.codeIn K cd8 "_law_cells" = true) (k8 : PySem.W.keepIn K (.ref f8) = true)
    (a9 : PySem.W.nsIn K mainGlobals "_law_of" = some (some (.ref f9))) (l9 : K.lookup f9 = some ⟨oc9, od9, .func (PySem.W.fnOf "_law_of" "_law_of" (defArgs sOf) (defBody sOf) (defScope sOf) .none kV9 dc9 pm9 an9 cd9 ct9), sl9⟩) (c9 : PySem.W.codeIn K cd9 "_law_of" = true) (k9 : PySem.W.keepIn K (.ref f9) = true)
    (a10 : PySem.W.nsIn K mainGlobals "_law_same" = some (some (.ref f10))) (l10 : K.lookup f10 = some ⟨oc10, od10, .func (PySem.W.fnOf "_law_same" "_law_same" (defArgs sSame) (defBody sSame) (defScope sSame) .none kV10 dc10 pm10 an10 cd10 ct10), sl10⟩) (c10 : PySem.W.codeIn K cd10 "_law_same" = true) (k10 : PySem.W.keepIn K (.ref f10) = true)
    (a11 : PySem.W.nsIn K mainGlobals "_law_lists" = some (some (.ref f11))) (l11 : K.lookup f11 = some ⟨oc11, od11, .func (PySem.W.fnOf "_law_lists" "_law_lists" (defArgs sLists) (defBody sLists) (defScope sLists) .none kV11 dc11 pm11 an11 cd11 ct11), sl11⟩) (c11 : PySem.W.codeIn K cd11 "_law_lists" = true) (k11 : PySem.W.keepIn K (.ref f11) = true)
    (a12 : PySem.W.nsIn K mainGlobals "_law_number" = some (some (.ref f12))) (l12 : K.lookup f12 = some ⟨oc12, od12, .func (PySem.W.fnOf "_law_number" "_law_number" (defArgs sNumber) (defBody sNumber) (defScope sNumber) .none kV12 dc12 pm12 an12 cd12 ct12), sl12⟩) (c12 : PySem.W.codeIn K cd12 "_law_number" = true) (k12 : PySem.W.keepIn K (.ref f12) = true)
    (a13 : PySem.W.nsIn K mainGlobals "_law_event" = some (some (.ref f13))) (l13 : K.lookup f13 = some ⟨oc13, od13, .func (PySem.W.fnOf "_law_event" "_law_event" (defArgs sEvent) (defBody sEvent) (defScope sEvent) .none kV13 dc13 pm13 an13 cd13 ct13), sl13⟩) (c13 : PySem.W.codeIn K cd13 "_law_event" = true) (k13 : PySem.W.keepIn K (.ref f13) = true)
    (a14 : PySem.W.nsIn K mainGlobals "_law_events" = some (some (.ref f14))) (l14 : K.lookup f14 = some ⟨oc14, od14, .func (PySem.W.fnOf "_law_events" "_law_events" (defArgs sEvents) (defBody sEvents) (defScope sEvents) .none kV14 dc14 pm14 an14 cd14 ct14), sl14⟩) (c14 : PySem.W.codeIn K cd14 "_law_events" = true) (k14 : PySem.W.keepIn K (.ref f14) = true)
    (a15 : PySem.W.nsIn K mainGlobals "_law_small" = some (some (.ref f15))) (l15 : K.lookup f15 = some ⟨oc15, od15, .func (PySem.W.fnOf "_law_small" "_law_small" (defArgs sSmall) (defBody sSmall) (defScope sSmall) .none kV15 dc15 pm15 an15 cd15 ct15), sl15⟩) (c15 : PySem.W.codeIn K cd15 "_law_small" = true) (k15 : PySem.W.keepIn K (.ref f15) = true)
    (a16 : PySem.W.nsIn K mainGlobals "_law_on" = some (some (.ref f16))) (l16 : K.lookup f16 = some ⟨oc16, od16, .func (PySem.W.fnOf "_law_on" "_law_on" (defArgs sOn) (defBody sOn) (defScope sOn) .none kV16 dc16 pm16 an16 cd16 ct16), sl16⟩) (c16 : PySem.W.codeIn K cd16 "_law_on" = true) (k16 : PySem.W.keepIn K (.ref f16) = true)
    (a17 : PySem.W.nsIn K mainGlobals "_law_trace" = some (some (.ref f17))) (l17 : K.lookup f17 = some ⟨oc17, od17, .func (PySem.W.fnOf "_law_trace" "_law_trace" (defArgs sTrace) (defBody sTrace) (defScope sTrace) .none kV17 dc17 pm17 an17 cd17 ct17), sl17⟩) (c17 : PySem.W.codeIn K cd17 "_law_trace" = true) (k17 : PySem.W.keepIn K (.ref f17) = true)
    (a18 : PySem.W.nsIn K mainGlobals "_law_last" = some (some (.ref f18))) (l18 : K.lookup f18 = some ⟨oc18, od18, .func (PySem.W.fnOf "_law_last" "_law_last" (defArgs sLast) (defBody sLast) (defScope sLast) .none kV18 dc18 pm18 an18 cd18 ct18), sl18⟩) (c18 : PySem.W.codeIn K cd18 "_law_last" = true) (k18 : PySem.W.keepIn K (.ref f18) = true)
    (a19 : PySem.W.nsIn K mainGlobals "_law_told_right" = some (some (.ref f19))) (l19 : K.lookup f19 = some ⟨oc19, od19, .func (PySem.W.fnOf "_law_told_right" "_law_told_right" (defArgs sTold) (defBody sTold) (defScope sTold) .none kV19 dc19 pm19 an19 cd19 ct19), sl19⟩) (c19 : PySem.W.codeIn K cd19 "_law_told_right" = true) (k19 : PySem.W.keepIn K (.ref f19) = true)
    (a20 : PySem.W.nsIn K mainGlobals "_law_by_hand_right" = some (some (.ref f20))) (l20 : K.lookup f20 = some ⟨oc20, od20, .func (PySem.W.fnOf "_law_by_hand_right" "_law_by_hand_right" (defArgs sHand) (defBody sHand) (defScope sHand) .none kV20 dc20 pm20 an20 cd20 ct20), sl20⟩) (c20 : PySem.W.codeIn K cd20 "_law_by_hand_right" = true) (k20 : PySem.W.keepIn K (.ref f20) = true)
    (a21 : PySem.W.nsIn K mainGlobals "_law_right" = some (some (.ref f21))) (l21 : K.lookup f21 = some ⟨oc21, od21, .func (PySem.W.fnOf "_law_right" "_law_right" (defArgs sRight) (defBody sRight) (defScope sRight) .none kV21 dc21 pm21 an21 cd21 ct21), sl21⟩) (c21 : PySem.W.codeIn K cd21 "_law_right" = true) (k21 : PySem.W.keepIn K (.ref f21) = true)
    (a22 : PySem.W.nsIn K mainGlobals "law" = some (some (.ref f22))) (l22 : K.lookup f22 = some ⟨oc22, od22, .func (PySem.W.fnOf "law" "law" (defArgs sLaw) (defBody sLaw) (defScope sLaw) .none kV22 dc22 pm22 an22 cd22 ct22), sl22⟩) (c22 : PySem.W.codeIn K cd22 "law" = true) (k22 : PySem.W.keepIn K (.ref f22) = true)
    (aC : PySem.W.nsIn K mainGlobals "Way" = some (some (.ref C)))
    (aI : PySem.W.findIn K (.ref C) "__init__" = some (some (.ref fI))) (iI : PySem.W.isFn K (.ref fI) = true) (lI : K.lookup fI = some ⟨ocI, odI, .func (PySem.W.fnOf "__init__" "Way.__init__" (defArgs sInit) (defBody sInit) (defScope sInit) (.ref dT) kVI dcI pmI anI cdI ctI), slI⟩) (cI : PySem.W.codeIn K cdI "Way.__init__" = true) (kI : PySem.W.keepIn K (.ref fI) = true) (lT : K.lookup dT = some ⟨.type "tuple", odT, .seq #[.none, .none] nT, slT⟩)
    (pg : PySem.W.plainGet K C Str.empty = true) (hd : PySem.W.hasDictIn K C = true) (po : PySem.W.plainOver K C = true) (sa : PySem.W.findIn K (.ref C) "__setattr__" = some (some (.builtin "object.__setattr__"))) (mk : PySem.W.makesIn K C = true) (kc : PySem.W.keepIn K (.ref C) = true)
    (n_shift : PySem.W.findIn K (.ref C) "_shift" = some none)
    (t_shift : PySem.W.findIn K (.ref C) "shift" = some (some (.ref p_shift))) (e_shift : PySem.W.specialIn K (.ref p_shift) "__get__" = some (some (.builtin "property.__get__"))) (x_shift : PySem.W.takesIn K (.ref p_shift) = some true) (y_shift : PySem.W.recIn K p_shift "property" = some (.ref g_shift :: r_shift))
    (l_shift : K.lookup g_shift = some ⟨oc_shift, od_shift, .func (PySem.W.fnOf "shift" "Way.shift" (defArgs sGs) (defBody sGs) (defScope sGs) .none kV_shift dc_shift pm_shift an_shift cd_shift ct_shift), sl_shift⟩) (c_shift : PySem.W.codeIn K cd_shift "Way.shift" = true)
    (n_floor : PySem.W.findIn K (.ref C) "_floor" = some none)
    (t_floor : PySem.W.findIn K (.ref C) "floor" = some (some (.ref p_floor))) (e_floor : PySem.W.specialIn K (.ref p_floor) "__get__" = some (some (.builtin "property.__get__"))) (x_floor : PySem.W.takesIn K (.ref p_floor) = some true) (y_floor : PySem.W.recIn K p_floor "property" = some (.ref g_floor :: r_floor))
    (l_floor : K.lookup g_floor = some ⟨oc_floor, od_floor, .func (PySem.W.fnOf "floor" "Way.floor" (defArgs sGf) (defBody sGf) (defScope sGf) .none kV_floor dc_floor pm_floor an_floor cd_floor ct_floor), sl_floor⟩) (c_floor : PySem.W.codeIn K cd_floor "Way.floor" = true)
    (n_cap : PySem.W.findIn K (.ref C) "_cap" = some none)
    (t_cap : PySem.W.findIn K (.ref C) "cap" = some (some (.ref p_cap))) (e_cap : PySem.W.specialIn K (.ref p_cap) "__get__" = some (some (.builtin "property.__get__"))) (x_cap : PySem.W.takesIn K (.ref p_cap) = some true) (y_cap : PySem.W.recIn K p_cap "property" = some (.ref g_cap :: r_cap))
    (l_cap : K.lookup g_cap = some ⟨oc_cap, od_cap, .func (PySem.W.fnOf "cap" "Way.cap" (defArgs sGc) (defBody sGc) (defScope sGc) .none kV_cap dc_cap pm_cap an_cap cd_cap ct_cap), sl_cap⟩) (c_cap : PySem.W.codeIn K cd_cap "Way.cap" = true)
    (t_text : PySem.W.findIn K (.ref C) "text" = some (some (.ref p_text))) (e_text : PySem.W.specialIn K (.ref p_text) "__get__" = some (some (.builtin "property.__get__"))) (x_text : PySem.W.takesIn K (.ref p_text) = some true) (y_text : PySem.W.recIn K p_text "property" = some (.ref g_text :: r_text))
    (l_text : K.lookup g_text = some ⟨oc_text, od_text, .func (PySem.W.fnOf "text" "Way.text" (defArgs sGt) (defBody sGt) (defScope sGt) .none kV_text dc_text pm_text an_text cd_text ct_text), sl_text⟩) (c_text : PySem.W.codeIn K cd_text "Way.text" = true)
    (k_text : PySem.W.keepIn K (.ref g_text) = true)
    (aM0 : PySem.W.findIn K (.ref C) "__call__" = some (some (.ref fM0))) (iM0 : PySem.W.isFn K (.ref fM0) = true) (jM0 : PySem.W.fnIn K fM0 = true) (lM0 : K.lookup fM0 = some ⟨ocM0, odM0, .func (PySem.W.fnOf "__call__" "Way.__call__" (defArgs sCall) (defBody sCall) (defScope sCall) .none kVM0 dcM0 pmM0 anM0 cdM0 ctM0), slM0⟩) (cM0 : PySem.W.codeIn K cdM0 "Way.__call__" = true) (kM0 : PySem.W.keepIn K (.ref fM0) = true)
    (aM1 : PySem.W.findIn K (.ref C) "__rshift__" = some (some (.ref fM1))) (iM1 : PySem.W.isFn K (.ref fM1) = true) (jM1 : PySem.W.fnIn K fM1 = true) (lM1 : K.lookup fM1 = some ⟨ocM1, odM1, .func (PySem.W.fnOf "__rshift__" "Way.__rshift__" (defArgs sRsh) (defBody sRsh) (defScope sRsh) .none kVM1 dcM1 pmM1 anM1 cdM1 ctM1), slM1⟩) (cM1 : PySem.W.codeIn K cdM1 "Way.__rshift__" = true) (kM1 : PySem.W.keepIn K (.ref fM1) = true)
    (aM2 : PySem.W.findIn K (.ref C) "__eq__" = some (some (.ref fM2))) (iM2 : PySem.W.isFn K (.ref fM2) = true) (jM2 : PySem.W.fnIn K fM2 = true) (lM2 : K.lookup fM2 = some ⟨ocM2, odM2, .func (PySem.W.fnOf "__eq__" "Way.__eq__" (defArgs sEq) (defBody sEq) (defScope sEq) .none kVM2 dcM2 pmM2 anM2 cdM2 ctM2), slM2⟩) (cM2 : PySem.W.codeIn K cdM2 "Way.__eq__" = true) (kM2 : PySem.W.keepIn K (.ref fM2) = true)
    (u1 : PySem.W.findIn K (.ref C) "__class__" = some (some (.builtin "object.__class__")))
    (u2 : PySem.W.specialIn K (.builtin "object.__class__") "__get__" = some (some (.builtin "getset_descriptor.__get__")))
    (u3 : PySem.W.takesIn K (.builtin "object.__class__") = some true)
    (u4 : PySem.W.mroIn K C (.type "object") = some true)
    (u5 : PySem.W.kitOne K (.ref C) (.ref C) = some true)
    (hsf : PySem.W.selfFirst K C = true)
    (z_sum : PySem.W.nsIn K mainGlobals "sum" = some none)
    (z_len : PySem.W.nsIn K mainGlobals "len" = some none)
    (z_abs : PySem.W.nsIn K mainGlobals "abs" = some none)
    (z_int : PySem.W.nsIn K mainGlobals "int" = some none)
    (z_list : PySem.W.nsIn K mainGlobals "list" = some none)
    (z_enumerate : PySem.W.nsIn K mainGlobals "enumerate" = some none)
    (z_range : PySem.W.nsIn K mainGlobals "range" = some none)
    (z_all : PySem.W.nsIn K mainGlobals "all" = some none)
    (z_zip : PySem.W.nsIn K mainGlobals "zip" = some none)
    (z_tuple : PySem.W.nsIn K mainGlobals "tuple" = some none)
    (z_isinstance : PySem.W.nsIn K mainGlobals "isinstance" = some none)
    (z_bool : PySem.W.nsIn K mainGlobals "bool" = some none)
    (z_str : PySem.W.nsIn K mainGlobals "str" = some none) :
    ∃ fd : FuncData, (∀ (s : Shared) (v : Value), BindsTo s fd ⟨[v], []⟩ [("_law_script", v)]) ∧ ∀ base : Heap, K.In base → base.Ns mainGlobals mg → FnOk l.prog w K mg base CX0 8 fa fd ["_law_script"] (spLaw K) := by
  have e := hfa.symm.trans (PySem.W.mg_of X G a22)
  cases e
  have T : Bt mg := ⟨PySem.W.mg_none_of X G z_len, PySem.W.mg_none_of X G z_abs, PySem.W.mg_none_of X G z_int, PySem.W.mg_none_of X G z_list, PySem.W.mg_none_of X G z_enumerate, PySem.W.mg_none_of X G z_range, PySem.W.mg_none_of X G z_all, PySem.W.mg_none_of X G z_zip, PySem.W.mg_none_of X G z_tuple, PySem.W.mg_none_of X G z_isinstance, PySem.W.mg_none_of X G z_bool, PySem.W.mg_none_of X G z_str⟩
  have W : WT K C := ⟨⟨pg, hd, po, sa⟩, n_shift, n_floor, n_cap⟩
  have F1 := fun_mk (st := sHeld) l1 c1 k1
  have b1 := F1.binds (ps := ["level", "floor", "cap"]) fun _ _ _ _ _ _ us hl => match us, hl with | [_, _, _], _ => rfl
  have m1 := PySem.W.mg_of X G a1
  have F2 := fun_mk (st := sLed) l2 c2 k2
  have b2 := F2.binds (ps := ["way", "start"]) fun _ _ _ _ _ _ us hl => match us, hl with | [_, _], _ => rfl
  have m2 := PySem.W.mg_of X G a2
  have F3 := fun_mk (st := sBT) l3 c3 k3
  have b3 := F3.binds (ps := ["bound"]) fun _ _ _ _ _ _ us hl => match us, hl with | [_], _ => rfl
  have m3 := PySem.W.mg_of X G a3
  have F4 := fun_mk (st := sEW) l4 c4 k4
  have b4 := F4.binds (ps := ["event"]) fun _ _ _ _ _ _ us hl => match us, hl with | [_], _ => rfl
  have m4 := PySem.W.mg_of X G a4
  have F5 := fun_mk (st := sWO) l5 c5 k5
  have b5 := F5.binds (ps := ["row"]) fun _ _ _ _ _ _ us hl => match us, hl with | [_], _ => rfl
  have m5 := PySem.W.mg_of X G a5
  have F6 := fun_mk (st := sBox) l6 c6 k6
  have b6 := F6.binds (ps := ["_law_script", "_law_k"]) fun _ _ _ _ _ _ us hl => match us, hl with | [_, _], _ => rfl
  have m6 := PySem.W.mg_of X G a6
  have F7 := fun_mk (st := sTake) l7 c7 k7
  have b7 := F7.binds (ps := ["_law_box_here", "_law_size_so"]) fun _ _ _ _ _ _ us hl => match us, hl with | [_, _], _ => rfl
  have m7 := PySem.W.mg_of X G a7
  have F8 := fun_mk (st := sCells) l8 c8 k8
  have b8 := F8.binds (ps := ["_law_script", "_law_top_so"]) fun _ _ _ _ _ _ us hl => match us, hl with | [_, _], _ => rfl
  have m8 := PySem.W.mg_of X G a8
  have F9 := fun_mk (st := sOf) l9 c9 k9
  have b9 := F9.binds (ps := ["_law_box_here", "_law_goods_so"]) fun _ _ _ _ _ _ us hl => match us, hl with | [_, _], _ => rfl
  have m9 := PySem.W.mg_of X G a9
  have F10 := fun_mk (st := sSame) l10 c10 k10
  have b10 := F10.binds (ps := ["_law_got", "_law_due"]) fun _ _ _ _ _ _ us hl => match us, hl with | [_, _], _ => rfl
  have m10 := PySem.W.mg_of X G a10
  have F11 := fun_mk (st := sLists) l11 c11 k11
  have b11 := F11.binds (ps := ["_law_matter"]) fun _ _ _ _ _ _ us hl => match us, hl with | [_], _ => rfl
  have m11 := PySem.W.mg_of X G a11
  have F12 := fun_mk (st := sNumber) l12 c12 k12
  have b12 := F12.binds (ps := ["_law_box_here"]) fun _ _ _ _ _ _ us hl => match us, hl with | [_], _ => rfl
  have m12 := PySem.W.mg_of X G a12
  have F13 := fun_mk (st := sEvent) l13 c13 k13
  have b13 := F13.binds (ps := ["_law_box_here"]) fun _ _ _ _ _ _ us hl => match us, hl with | [_], _ => rfl
  have m13 := PySem.W.mg_of X G a13
  have F14 := fun_mk (st := sEvents) l14 c14 k14
  have b14 := F14.binds (ps := ["_law_box_here", "_law_most_so"]) fun _ _ _ _ _ _ us hl => match us, hl with | [_, _], _ => rfl
  have m14 := PySem.W.mg_of X G a14
  have F15 := fun_mk (st := sSmall) l15 c15 k15
  have b15 := F15.binds (ps := ["_law_box_here", "_law_most_so"]) fun _ _ _ _ _ _ us hl => match us, hl with | [_, _], _ => rfl
  have m15 := PySem.W.mg_of X G a15
  have F16 := fun_mk (st := sOn) l16 c16 k16
  have b16 := F16.binds (ps := ["_law_level_so", "_law_entry"]) fun _ _ _ _ _ _ us hl => match us, hl with | [_, _], _ => rfl
  have m16 := PySem.W.mg_of X G a16
  have F17 := fun_mk (st := sTrace) l17 c17 k17
  have b17 := F17.binds (ps := ["_law_row_so", "_law_begin"]) fun _ _ _ _ _ _ us hl => match us, hl with | [_, _], _ => rfl
  have m17 := PySem.W.mg_of X G a17
  have F18 := fun_mk (st := sLast) l18 c18 k18
  have b18 := F18.binds (ps := ["_law_row_so", "_law_begin"]) fun _ _ _ _ _ _ us hl => match us, hl with | [_, _], _ => rfl
  have m18 := PySem.W.mg_of X G a18
  have F19 := fun_mk (st := sTold) l19 c19 k19
  have b19 := F19.binds (ps := ["_law_row_so", "_law_some"]) fun _ _ _ _ _ _ us hl => match us, hl with | [_, _], _ => rfl
  have m19 := PySem.W.mg_of X G a19
  have F20 := fun_mk (st := sHand) l20 c20 k20
  have b20 := F20.binds (ps := []) fun _ _ _ _ _ _ us hl => match us, hl with | [], _ => rfl
  have m20 := PySem.W.mg_of X G a20
  have F21 := fun_mk (st := sRight) l21 c21 k21
  have b21 := F21.binds (ps := ["_law_box_here"]) fun _ _ _ _ _ _ us hl => match us, hl with | [_], _ => rfl
  have m21 := PySem.W.mg_of X G a21
  have F22 := fun_mk (st := sLaw) l22 c22 k22
  have b22 := F22.binds (ps := ["_law_script"]) fun _ _ _ _ _ _ us hl => match us, hl with | [_], _ => rfl
  have m22 := PySem.W.mg_of X G a22
  have FM0 := fun_mk (st := sCall) lM0 cM0 kM0
  have bM0 := FM0.binds (ps := ["self", "start"]) fun _ _ _ _ _ _ us hl => match us, hl with | [_, _], _ => rfl
  have FM1 := fun_mk (st := sRsh) lM1 cM1 kM1
  have bM1 := FM1.binds (ps := ["self", "other"]) fun _ _ _ _ _ _ us hl => match us, hl with | [_, _], _ => rfl
  have FM2 := fun_mk (st := sEq) lM2 cM2 kM2
  have bM2 := FM2.binds (ps := ["self", "other"]) fun _ _ _ _ _ _ us hl => match us, hl with | [_, _], _ => rfl
  have FT := fun_mk (st := sGt) l_text c_text k_text
  have bT := FT.binds (ps := ["self"]) fun _ _ _ _ _ _ us hl => match us, hl with | [_], _ => rfl
  have FI : FunD K "__init__" "Way.__init__" (defArgs sInit) (defBody sInit) (defScope sInit) [.non, .non] [] fI _ := ⟨⟨_, _, _, _, _, _, _, _, _, _, rfl, lI, cI, .inr ⟨(fun h => by cases h), dT, _, [.none, .none], _, rfl, lT, rfl, .cons rfl (.cons rfl .nil)⟩, .inl rfl⟩, kI⟩
  obtain ⟨ds3, v3, b3w⟩ := FI.binds1 (ps := ["self", "shift", "floor", "cap"]) 4 2 (fun h => by cases h) rfl (fun T kV doc pm an cdv ct us its hu hi => match us, its, hu, hi with | [_, _, _, _], [_, _], _, _ => ⟨_, rfl, rfl⟩)
  obtain ⟨ds2, v2, b2w⟩ := FI.binds1 (ps := ["self", "shift", "floor", "cap"]) 3 1 (fun h => by cases h) rfl (fun T kV doc pm an cdv ct us its hu hi => match us, its, hu, hi with | [_, _, _], [_, _], _, _ => ⟨_, rfl, rfl⟩)
  obtain ⟨ds1, v1, b1w⟩ := FI.binds1 (ps := ["self", "shift", "floor", "cap"]) 2 0 (fun h => by cases h) rfl (fun T kV doc pm an cdv ct us its hu hi => match us, its, hu, hi with | [_, _], [_, _], _, _ => ⟨_, rfl, rfl⟩)
  have mC := PySem.W.mg_of X G aC
  refine ⟨PySem.W.fnOf "law" "law" (defArgs sLaw) (defBody sLaw) (defScope sLaw) .none kV22 dc22 pm22 an22 cd22 ct22, fun s v => .of_eq rfl, fun base _ _ => ?_⟩
  have P_shift : Prp l.prog w K mg base C "shift" "_shift" := ⟨p_shift, g_shift, _, ⟨t_shift, e_shift, x_shift, _, y_shift⟩, fn_getter (N := ["self"]) l_shift c_shift scGs rfl rfl W.cl n_shift, .all fun us hl => match us, hl with | [_], _ => rfl⟩
  have P_floor : Prp l.prog w K mg base C "floor" "_floor" := ⟨p_floor, g_floor, _, ⟨t_floor, e_floor, x_floor, _, y_floor⟩, fn_getter (N := ["self"]) l_floor c_floor scGf rfl rfl W.cl n_floor, .all fun us hl => match us, hl with | [_], _ => rfl⟩
  have P_cap : Prp l.prog w K mg base C "cap" "_cap" := ⟨p_cap, g_cap, _, ⟨t_cap, e_cap, x_cap, _, y_cap⟩, fn_getter (N := ["self"]) l_cap c_cap scGc rfl rfl W.cl n_cap, .all fun us hl => match us, hl with | [_], _ => rfl⟩
  have GI := ok_init (P := l.prog) (w := w) (mg := mg) (base := base) FI W
  have M : Mk K C fI := ⟨mk, aI, iI, kc⟩
  have c_Way3 : Mak l.prog w K mg base 1 "Way" C (spInitW C) [] := ⟨fI, _, _, ds3, M, GI, mC, b3w, v3⟩
  have c_Way2 : Mak l.prog w K mg base 1 "Way" C (spInitW C) [.non] := ⟨fI, _, _, ds2, M, GI, mC, b2w, v2⟩
  have c_Way1 : Mak l.prog w K mg base 1 "Way" C (spInitW C) [.non, .non] := ⟨fI, _, _, ds1, M, GI, mC, b1w, v1⟩
  have bsum := PySem.W.mg_none_of X G z_sum
  have c__law_take : Cal l.prog w K mg base 1 "_law_take" spTake [] := ⟨_, _, ["_law_box_here", "_law_size_so"], [], ok_take F7 T, m7, k7, b7, .nil⟩
  have c__law_box : Cal l.prog w K mg base 1 "_law_box" (spBox K) [] := ⟨_, _, ["_law_script", "_law_k"], [], ok_box F6 T, m6, k6, b6, .nil⟩
  have c__law_cells : Cal l.prog w K mg base 1 "_law_cells" (spCells K) [] := ⟨_, _, ["_law_script", "_law_top_so"], [], ok_cells F8 T, m8, k8, b8, .nil⟩
  have c__law_of : Cal l.prog w K mg base 2 "_law_of" (spOf K) [] := ⟨_, _, ["_law_box_here", "_law_goods_so"], [], ok_of F9 T c__law_take, m9, k9, b9, .nil⟩
  have same : ∀ n, Cal l.prog w K mg base n "_law_same" (spSame K n) [] := by
    intro n
    induction n with
    | zero => exact ⟨_, _, ["_law_got", "_law_due"], [], same0, m10, k10, b10, .nil⟩
    | succ n ih => exact ⟨_, _, ["_law_got", "_law_due"], [], same1 F10 T ih, m10, k10, b10, .nil⟩
  have ic : C8.InsC K C := ⟨W.cl, u1, u2, u3, u4, u5⟩
  have c_held : Cal l.prog w K mg base 1 "held" spHeld [] := ⟨_, _, ["level", "floor", "cap"], [], ok_held F1, m1, k1, b1, .nil⟩
  have c_led : Cal l.prog w K mg base 3 "led" (spLed C) [] := ⟨_, _, ["way", "start"], [], ok_led F2 W P_shift P_floor P_cap c_held, m2, k2, b2, .nil⟩
  have c_bound_text : Cal l.prog w K mg base 1 "bound_text" spBT [] := ⟨_, _, ["bound"], [], ok_bt F3 T, m3, k3, b3, .nil⟩
  have o_call : Own l.prog w K mg base 4 C "__call__" (spLed C) := ⟨fM0, _, _, aM0, iM0, jM0, ok_call FM0 c_led, bM0⟩
  have o_rsh : Own l.prog w K mg base 4 C "__rshift__" (spRsh C) := ⟨fM1, _, _, aM1, iM1, jM1, ok_rsh FM1 T W mC ic c_led c_Way3, bM1⟩
  have o_eq : Own l.prog w K mg base 1 C "__eq__" (spEqW C) := ⟨fM2, _, _, aM2, iM2, jM2, ok_eq FM2 T W mC ic, bM2⟩
  have pT : Pr2 l.prog w K mg base 2 C "text" (spText C) := ⟨p_text, g_text, _, ⟨t_text, e_text, x_text, _, y_text⟩, ok_text FT W c_bound_text, bT⟩
  have c_event_way : Cal l.prog w K mg base 3 "event_way" (spEW K C) [] := ⟨_, _, ["event"], [], ok_ew F4 c_Way3 c_Way2 c_Way1, m4, k4, b4, .nil⟩
  have c_way_of : Cal l.prog w K mg base 5 "way_of" (spWO K C) [] := ⟨_, _, ["row"], [], ok_wo F5 hsf c_Way1 c_event_way o_rsh, m5, k5, b5, .nil⟩
  have k_way_of : CalK l.prog w K mg base 5 "way_of" ["row"] (spWO K C) (fun _ zs => [zs.getD 0 .non]) :=
    ⟨_, _, ["row"], fun _ zs => [zs.getD 0 .none], ok_wo F5 hsf c_Way1 c_event_way o_rsh, m5, k5, fun s us ws _ h1 h2 => match us, ws, h1, h2 with | [], [_], _, _ => .of_eq rfl, fun r1 r2 => by
      cases r2 with
      | nil => exact .cons rfl .nil
      | cons a r => exact .cons a .nil⟩
  have c_lists0 : Cal l.prog w K mg base 0 "_law_lists" spL0 [] := ⟨_, _, ["_law_matter"], [], lists0, m11, k11, b11, .nil⟩
  have c_lists1 : Cal l.prog w K mg base 1 "_law_lists" spL1 [] := ⟨_, _, ["_law_matter"], [], lists1 F11 T c_lists0, m11, k11, b11, .nil⟩
  have c_lists2 : Cal l.prog w K mg base 2 "_law_lists" (spL2 K) [] := ⟨_, _, ["_law_matter"], [], lists2 F11 T c_lists1, m11, k11, b11, .nil⟩
  have c_lists3 : Cal l.prog w K mg base 3 "_law_lists" (spL3 K) [] := ⟨_, _, ["_law_matter"], [], lists3 F11 T c_lists2, m11, k11, b11, .nil⟩
  have c__law_number : Cal l.prog w K mg base 3 "_law_number" spNumber [] := ⟨_, _, ["_law_box_here"], [], ok_number F12 c__law_take c__law_of, m12, k12, b12, .nil⟩
  have c__law_event : Cal l.prog w K mg base 4 "_law_event" spEvent [] := ⟨_, _, ["_law_box_here"], [], ok_event F13 c__law_of c__law_number, m13, k13, b13, .nil⟩
  have c__law_events : Cal l.prog w K mg base 5 "_law_events" spRow [] := ⟨_, _, ["_law_box_here", "_law_most_so"], [], ok_events F14 T c__law_take c__law_event, m14, k14, b14, .nil⟩
  have c__law_small : Cal l.prog w K mg base 5 "_law_small" spRow [] := ⟨_, _, ["_law_box_here", "_law_most_so"], [], ok_small F15 T c__law_take c__law_of, m15, k15, b15, .nil⟩
  have c__law_on : Cal l.prog w K mg base 1 "_law_on" (spOn K) [] := ⟨_, _, ["_law_level_so", "_law_entry"], [], ok_on F16, m16, k16, b16, .nil⟩
  have c__law_trace : Cal l.prog w K mg base 2 "_law_trace" (spTrace K) [] := ⟨_, _, ["_law_row_so", "_law_begin"], [], ok_trace F17 c__law_on, m17, k17, b17, .nil⟩
  have c__law_last : Cal l.prog w K mg base 3 "_law_last" (spLast K) [] := ⟨_, _, ["_law_row_so", "_law_begin"], [], ok_last F18 c__law_trace, m18, k18, b18, .nil⟩
  have c__law_told_right : Cal l.prog w K mg base 6 "_law_told_right" (spTold K) [] := ⟨_, _, ["_law_row_so", "_law_some"], [], ok_told F19 T bsum W P_shift P_floor P_cap c_way_of k_way_of c__law_last c_lists3 (same 2) o_eq o_call, m19, k19, b19, .nil⟩
  have c__law_right : Cal l.prog w K mg base 7 "_law_right" spRight [] := ⟨_, _, ["_law_box_here"], [], ok_right F21 T c__law_small c__law_events c__law_number c__law_told_right, m21, k21, b21, .nil⟩
  have c__law_by_hand_right : Cal l.prog w K mg base 7 "_law_by_hand_right" spHand [] := ⟨_, _, [], [], ok_hand F20 T W pT c_Way2 c_way_of k_way_of (same 2) c__law_told_right o_eq o_call, m20, k20, b20, .nil⟩
  exact ok_law F22 T c__law_by_hand_right c__law_cells c__law_box c__law_right
end BL
open PySem PySem.W PyProof.Rows
set_option maxRecDepth 100000 in
set_option maxHeartbeats 0 in
theorem PySem.Challenge.cw_boundedlevels_k31_ways_of_rows_holds : PySem.Challenge.rw_boundedlevels_k31_ways_of_rows.Holds := by
  w_on; o_law; k_head; (case hw => w_witness2)
  k_fill
  refine L2.walk_of (l := PySem.Challenge.rw_boundedlevels_k31_ways_of_rows) (n := 63) (k := 8) (x := "_law_script") (CX := fun _ => L2.CX0) (sp := fun w => BL.spLaw _) rfl (by decide) rfl ⟨rfl, by decide, by decide⟩ (fun w h Y => PySem.W.kIn_of Y) ?F (fun _ _ a ns hl _ hS => ⟨a, ns, rfl, hS, hl, fun _ => rfl⟩) (fun _ _ _ _ _ h => h)
  case F =>
    intro w mg fa h KX G hmg
    refine' BL.all_mk KX G hmg ?a1 ?l1 ?c1 ?k1 ?a2 ?l2 ?c2 ?k2 ?a3 ?l3 ?c3 ?k3 ?a4 ?l4 ?c4 ?k4 ?a5 ?l5 ?c5 ?k5 ?a6 ?l6 ?c6 ?k6 ?a7 ?l7 ?c7 ?k7 ?a8 ?l8 ?c8 ?k8 ?a9 ?l9 ?c9 ?k9 ?a10 ?l10 ?c10 ?k10 ?a11 ?l11 ?c11 ?k11 ?a12 ?l12 ?c12 ?k12 ?a13 ?l13 ?c13 ?k13 ?a14 ?l14 ?c14 ?k14 ?a15 ?l15 ?c15 ?k15 ?a16 ?l16 ?c16 ?k16 ?a17 ?l17 ?c17 ?k17 ?a18 ?l18 ?c18 ?k18 ?a19 ?l19 ?c19 ?k19 ?a20 ?l20 ?c20 ?k20 ?a21 ?l21 ?c21 ?k21 ?a22 ?l22 ?c22 ?k22 ?aC ?aI ?iI ?lI ?cI ?kI ?lT ?pg ?hd ?po ?sa ?mk ?kc ?n_shift ?t_shift ?e_shift ?x_shift ?y_shift ?l_shift ?c_shift ?n_floor ?t_floor ?e_floor ?x_floor ?y_floor ?l_floor ?c_floor ?n_cap ?t_cap ?e_cap ?x_cap ?y_cap ?l_cap ?c_cap ?t_text ?e_text ?x_text ?y_text ?l_text ?c_text ?k_text ?aM0 ?iM0 ?jM0 ?lM0 ?cM0 ?kM0 ?aM1 ?iM1 ?jM1 ?lM1 ?cM1 ?kM1 ?aM2 ?iM2 ?jM2 ?lM2 ?cM2 ?kM2 ?u1 ?u2 ?u3 ?u4 ?u5 ?hsf ?z_sum ?z_len ?z_abs ?z_int ?z_list ?z_enumerate ?z_range ?z_all ?z_zip ?z_tuple ?z_isinstance ?z_bool ?z_str
    (case a1 => first | k_is | rfl)
    (case l1 => first | k_is | rfl)
    (case c1 => first | k_is | rfl)
    (case k1 => first | k_is | rfl)
    (case a2 => first | k_is | rfl)
    (case l2 => first | k_is | rfl)
    (case c2 => first | k_is | rfl)
    (case k2 => first | k_is | rfl)
    (case a3 => first | k_is | rfl)
    (case l3 => first | k_is | rfl)
    (case c3 => first | k_is | rfl)
    (case k3 => first | k_is | rfl)
    (case a4 => first | k_is | rfl)
    (case l4 => first | k_is | rfl)
    (case c4 => first | k_is | rfl)
    (case k4 => first | k_is | rfl)
    (case a5 => first | k_is | rfl)
    (case l5 => first | k_is | rfl)
    (case c5 => first | k_is | rfl)
    (case k5 => first | k_is | rfl)
    (case a6 => first | k_is | rfl)
    (case l6 => first | k_is | rfl)
    (case c6 => first | k_is | rfl)
    (case k6 => first | k_is | rfl)
    (case a7 => first | k_is | rfl)
    (case l7 => first | k_is | rfl)
    (case c7 => first | k_is | rfl)
    (case k7 => first | k_is | rfl)
    (case a8 => first | k_is | rfl)
    (case l8 => first | k_is | rfl)
    (case c8 => first | k_is | rfl)
    (case k8 => first | k_is | rfl)
    (case a9 => first | k_is | rfl)
    (case l9 => first | k_is | rfl)
    (case c9 => first | k_is | rfl)
    (case k9 => first | k_is | rfl)
    (case a10 => first | k_is | rfl)
    (case l10 => first | k_is | rfl)
    (case c10 => first | k_is | rfl)
    (case k10 => first | k_is | rfl)
    (case a11 => first | k_is | rfl)
    (case l11 => first | k_is | rfl)
    (case c11 => first | k_is | rfl)
    (case k11 => first | k_is | rfl)
    (case a12 => first | k_is | rfl)
    (case l12 => first | k_is | rfl)
    (case c12 => first | k_is | rfl)
    (case k12 => first | k_is | rfl)
    (case a13 => first | k_is | rfl)
    (case l13 => first | k_is | rfl)
    (case c13 => first | k_is | rfl)
    (case k13 => first | k_is | rfl)
    (case a14 => first | k_is | rfl)
    (case l14 => first | k_is | rfl)
    (case c14 => first | k_is | rfl)
    (case k14 => first | k_is | rfl)
    (case a15 => first | k_is | rfl)
    (case l15 => first | k_is | rfl)
    (case c15 => first | k_is | rfl)
    (case k15 => first | k_is | rfl)
    (case a16 => first | k_is | rfl)
    (case l16 => first | k_is | rfl)
    (case c16 => first | k_is | rfl)
    (case k16 => first | k_is | rfl)
    (case a17 => first | k_is | rfl)
    (case l17 => first | k_is | rfl)
    (case c17 => first | k_is | rfl)
    (case k17 => first | k_is | rfl)
    (case a18 => first | k_is | rfl)
    (case l18 => first | k_is | rfl)
    (case c18 => first | k_is | rfl)
    (case k18 => first | k_is | rfl)
    (case a19 => first | k_is | rfl)
    (case l19 => first | k_is | rfl)
    (case c19 => first | k_is | rfl)
    (case k19 => first | k_is | rfl)
    (case a20 => first | k_is | rfl)
    (case l20 => first | k_is | rfl)
    (case c20 => first | k_is | rfl)
    (case k20 => first | k_is | rfl)
    (case a21 => first | k_is | rfl)
    (case l21 => first | k_is | rfl)
    (case c21 => first | k_is | rfl)
    (case k21 => first | k_is | rfl)
    (case a22 => first | k_is | rfl)
    (case l22 => first | k_is | rfl)
    (case c22 => first | k_is | rfl)
    (case k22 => first | k_is | rfl)
    (case aC => first | k_is | rfl)
    (case aI => first | k_is | rfl)
    (case iI => first | k_is | rfl)
    (case lI => first | k_is | rfl)
    (case cI => first | k_is | rfl)
    (case kI => first | k_is | rfl)
    (case lT => first | k_is | rfl)
    (case pg => first | k_is | rfl)
    (case hd => first | k_is | rfl)
    (case po => first | k_is | rfl)
    (case sa => first | k_is | rfl)
    (case mk => first | k_is | rfl)
    (case kc => first | k_is | rfl)
    (case n_shift => first | k_is | rfl)
    (case t_shift => first | k_is | rfl)
    (case e_shift => first | k_is | rfl)
    (case x_shift => first | k_is | rfl)
    (case y_shift => first | k_is | rfl)
    (case l_shift => first | k_is | rfl)
    (case c_shift => first | k_is | rfl)
    (case n_floor => first | k_is | rfl)
    (case t_floor => first | k_is | rfl)
    (case e_floor => first | k_is | rfl)
    (case x_floor => first | k_is | rfl)
    (case y_floor => first | k_is | rfl)
    (case l_floor => first | k_is | rfl)
    (case c_floor => first | k_is | rfl)
    (case n_cap => first | k_is | rfl)
    (case t_cap => first | k_is | rfl)
    (case e_cap => first | k_is | rfl)
    (case x_cap => first | k_is | rfl)
    (case y_cap => first | k_is | rfl)
    (case l_cap => first | k_is | rfl)
    (case c_cap => first | k_is | rfl)
    (case t_text => first | k_is | rfl)
    (case e_text => first | k_is | rfl)
    (case x_text => first | k_is | rfl)
    (case y_text => first | k_is | rfl)
    (case l_text => first | k_is | rfl)
    (case c_text => first | k_is | rfl)
    (case k_text => first | k_is | rfl)
    (case aM0 => first | k_is | rfl)
    (case iM0 => first | k_is | rfl)
    (case jM0 => first | k_is | rfl)
    (case lM0 => first | k_is | rfl)
    (case cM0 => first | k_is | rfl)
    (case kM0 => first | k_is | rfl)
    (case aM1 => first | k_is | rfl)
    (case iM1 => first | k_is | rfl)
    (case jM1 => first | k_is | rfl)
    (case lM1 => first | k_is | rfl)
    (case cM1 => first | k_is | rfl)
    (case kM1 => first | k_is | rfl)
    (case aM2 => first | k_is | rfl)
    (case iM2 => first | k_is | rfl)
    (case jM2 => first | k_is | rfl)
    (case lM2 => first | k_is | rfl)
    (case cM2 => first | k_is | rfl)
    (case kM2 => first | k_is | rfl)
    (case u1 => first | k_is | rfl)
    (case u2 => first | k_is | rfl)
    (case u3 => first | k_is | rfl)
    (case u4 => first | k_is | rfl)
    (case u5 => first | k_is | rfl)
    (case hsf => first | k_is | rfl)
    (case z_sum => first | k_is | rfl)
    (case z_len => first | k_is | rfl)
    (case z_abs => first | k_is | rfl)
    (case z_int => first | k_is | rfl)
    (case z_list => first | k_is | rfl)
    (case z_enumerate => first | k_is | rfl)
    (case z_range => first | k_is | rfl)
    (case z_all => first | k_is | rfl)
    (case z_zip => first | k_is | rfl)
    (case z_tuple => first | k_is | rfl)
    (case z_isinstance => first | k_is | rfl)
    (case z_bool => first | k_is | rfl)
    (case z_str => first | k_is | rfl)
