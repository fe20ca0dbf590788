import PyProof.Rows.All
import Wide.All
import OpenK.AllK
import Wide.FinOn
import HandS.ForMost
import HandS.IsInst
import HandS.Codes
import HandS.Property
import HandS.WideBits
import HandS.Walk
import PySem.Challenge.RW_stillinstep_k25_nodes_and_seats
set_option Elab.async false
set_option linter.all false
set_option maxRecDepth 100000
namespace Vk
open PySem L2
/-! ### a def that stands and keeps its promise, by its name -/
structure Ok (P : Program) (w : World) (K : PySem.W.Frag) (mg : Str → Option Value) (base : Heap) (k : Nat) (x : Str) (ps : List Str) (sp : Sp) : Prop where
  ex : ∃ (f : Addr) (fd : FuncData), FnOk P w K mg base CX0 k f fd ps sp ∧ Binds K fd ps [] ∧ PySem.W.keepIn K (.ref f) = true ∧ mg x = some (.ref f)
theorem Ok.mono {P w K mg base j k x ps sp} (O : Ok P w K mg base j x ps sp) (h : j ≤ k) : Ok P w K mg base k x ps sp := by
  obtain ⟨f, fd, F, r⟩ := O.ex
  exact ⟨f, fd, F.mono h, r⟩
theorem pe_c {X : Cx} {k : Nat} {ps : List Str} {sp : Sp} {x : Str} {p pos : Pos} {e : Expr} {es : List Expr} {t : TA} (O : Ok X.prog X.w X.K X.mg X.base k x ps sp) (hr : Room k X.A) (hg : Gl X x)
    (ha : PA X (e :: es) t) (hdb : (x == ("__debug__" : Str)) = false := by decide) (he : starEach (e :: es) X.env = (false, eval e X.env) :: starEach es X.env := by rfl) (hpl : (backTo pos (starEach es X.env)).any (·.1) = false := by rfl) :
    PE X (.Call (.Name x p) (e :: es) [] pos) (tCall sp [] E0 t) := by
  obtain ⟨f, fd, F, b, kp, m⟩ := O.ex
  exact pe_call F hr hg m kp b .nil pass0 ha hdb he hpl
/-- f(k = v, ..): keywords alone -/
theorem pe_kw0 {X : Cx} {k : Nat} {f : Addr} {fd : FuncData} {ps ks : List Str} {sp : Sp} {x : Str} {p pos : Pos} {kws : List Keyword} {tk : TA} {g : List Value → List Value → List Value} {gV : List V → List V → List V}
    (F : FnOk X.prog X.w X.K X.mg X.base CX0 k f fd ps sp) (hr : Room k X.A) (hg : Gl X x) (hm : X.mg x = some (.ref f)) (hk : PySem.W.keepIn X.K (.ref f) = true) (hb : KBinds X.K fd ps ks g gV) (hkw : PK X kws tk)
    (hall : (backToKw pos (keywordEach kws X.env)).all (·.1.isSome) = true := by rfl) (hks : (backToKw pos (keywordEach kws X.env)).filterMap (·.1) = ks := by rfl) (hdb : (x == ("__debug__" : Str)) = false := by decide)
    (hpl : ((backTo pos (starEach [] X.env)).any (·.1) || (backToKw pos (keywordEach kws X.env)).any (·.1.isNone)) = false := by rfl) :
    PE X (.Call (.Name x p) [] kws pos) (tCallK sp gV E0 tNil tk) := by
  refine ⟨fun pins s σ H Q I h => ?_⟩
  refine wpAny_Call_Name_kw (ld_glob I hg hm ?_ hdb)
  refine PySem.W.callWith_KW0 (h₀ := X.base) I.ok.mod.kin hk hall ?_ hpl
  refine thn (hkw.run pos pins s σ H _ I h) fun ws s2 ⟨zs, H2, I2, rz, q2⟩ => ⟨I2.kIn, ?_⟩
  rw [hks]
  exact run_fnk (us := []) (vs := []) F hr hb pass0 I2 .nil rz q2
/-- two keywords in the other order -/
def swapG {α : Type} : List α → List α → List α
  | [], [a, b] => [b, a]
  | _, _ => []
theorem kbinds_swap {K : PySem.W.Frag} {x qual a b : Str} {st : Stmt} {f : Addr} {fd : FuncData} (F : Fun K x qual st f fd)
    (h : ∀ (kV doc pm : Value) (an : Option Addr) (cdv ct : Value) (u v : Value), bindArgs (PySem.W.fnOf x qual (defArgs st) (defBody st) (defScope st) .none kV doc pm an cdv ct) ⟨[], [(b, u), (a, v)]⟩ = pure [(a, v), (b, u)]) : KBinds K fd [a, b] [b, a] swapG swapG := by
  obtain ⟨oc, od, kV, doc, pm, an, cdv, ct, osl, rfl, lk, hcd⟩ := F.ex
  refine ⟨fun s us ws _ hl => ?_, fun {vs us zs ws} r1 r2 => ?_⟩
  · match us, ws, hl with
    | [], [u, v], _ => exact .of_eq (h kV doc pm an cdv ct u v)
  · cases r1 with
    | nil =>
      cases r2 with
      | nil => exact .nil
      | cons x r3 =>
        cases r3 with
        | nil => exact .nil
        | cons y r4 =>
          cases r4 with
          | nil => exact .cons y (.cons x .nil)
          | cons z r5 => exact .nil
    | cons x r3 => exact .nil
/-! ### heaps -/
theorem same_new {H : Hp} {p : Addr} (h : H p = none) (o : HO) : Same H (upd H p o) := fun b u q => by rw [upd_ne (ne_of_none q h)]; exact q
theorem Same.tup {K : PySem.W.Frag} {H H' : Hp} {a : Addr} {xs : List V} (e : Same H H') (h : SqT K H a xs) : SqT K H' a xs := by
  rcases h with (h | ⟨o, h⟩) | h
  · exact .inl (.inl (e _ _ h))
  · exact .inl (.inr ⟨o, e _ _ h⟩)
  · exact .inr h
/-- a feed: a list of three ints -/
def Fd (H : Hp) (a : Addr) : Prop := ∃ x y z : Int, H a = some (.lst [.int x, .int y, .int z])
/-- all but the list at a is as it was -/
def Stp (a : Addr) (H H' : Hp) : Prop := (∀ b o, b ≠ a → H b = some o → H' b = some o) ∧ Fd H' a
theorem Stp.refl {a : Addr} {H : Hp} (h : Fd H a) : Stp a H H := ⟨fun _ _ _ q => q, h⟩
theorem Stp.trans {a : Addr} {H H1 H2 : Hp} (h : Stp a H H1) (g : Stp a H1 H2) : Stp a H H2 := ⟨fun b o n q => g.1 b o n (h.1 b o n q), g.2⟩
theorem Fd.same {a : Addr} {H H' : Hp} (h : Fd H a) (s : Same H H') : Fd H' a := by
  obtain ⟨x, y, z, e⟩ := h
  exact ⟨x, y, z, s _ _ e⟩
theorem Stp.same {a : Addr} {H H1 H2 : Hp} (h : Stp a H H1) (s : Same H1 H2) : Stp a H H2 := ⟨fun b o n q => s _ _ (h.1 b o n q), h.2.same s⟩
theorem Stp.of {a : Addr} {H H' : Hp} (h : Fd H a) (s : Same H H') : Stp a H H' := (Stp.refl h).same s
theorem Stp.tup {K : PySem.W.Frag} {a b : Addr} {H H' : Hp} {xs : List V} (h : Fd H a) (s : Stp a H H') (q : SqT K H b xs) : SqT K H' b xs := by
  obtain ⟨x, y, z, e⟩ := h
  rcases q with (q | ⟨o, q⟩) | q
  · exact .inl (.inl (s.1 _ _ (ne_of q e (by intro z; cases z)) q))
  · exact .inl (.inr ⟨o, s.1 _ _ (ne_of q e (by intro z; cases z)) q⟩)
  · exact .inr q
/-- tuples stay -/
def Tu (K : PySem.W.Frag) (H H' : Hp) : Prop := ∀ b xs, SqT K H b xs → SqT K H' b xs
theorem Same.tu {K : PySem.W.Frag} {H H' : Hp} (e : Same H H') : Tu K H H' := fun _ _ h => Vk.Same.tup e h
theorem Stp.tu {K : PySem.W.Frag} {a : Addr} {H H' : Hp} (s : Stp a H H') (h : Fd H a) : Tu K H H' := fun _ _ q => s.tup h q
theorem Tu.trans {K : PySem.W.Frag} {H H1 H2 : Hp} (a : Tu K H H1) (b : Tu K H1 H2) : Tu K H H2 := fun _ _ q => b _ _ (a _ _ q)
theorem Tu.refl {K : PySem.W.Frag} {H : Hp} : Tu K H H := fun _ _ q => q
/-! ### places -/
theorem atI_in {α : Type} {xs : List α} {i : Int} (h0 : 0 ≤ i) (h : i < xs.length) : ∃ v, v ∈ xs ∧ atI xs i = some v := by
  have hk : i.toNat < xs.length := by omega
  have ek : ((i.toNat : Nat) : Int) = i := by omega
  have q : atI xs ((i.toNat : Nat) : Int) = some (xs[i.toNat]) := atI_nat (List.getElem?_eq_getElem hk)
  rw [ek] at q
  exact ⟨xs[i.toNat], List.getElem_mem hk, q⟩
/-! ### the draws -/
def spTake : Sp := fun vs H Q _ => ∃ (a : Addr) (n : Int), vs = [.ref a, .int n] ∧ Fd H a ∧ 0 < n ∧ n < 1073741824 ∧ ∀ r H', 0 ≤ r → r < n → Stp a H H' → Q (.int r) H'
def spFeed : Sp := fun vs H Q _ => ∃ (n : Int), vs = [.int n] ∧ ∀ p H', Same H H' → H p = none → Fd H' p → Q (.ref p) H'
def spCellv (K : PySem.W.Frag) : Sp := fun vs H Q _ => ∃ (a : Addr) (ns : List Int) (k : Int), vs = [.ref a, .int k] ∧ SqL K H a (ns.map V.int) ∧ 0 ≤ k ∧ k < 1000 ∧ ∀ n : Int, Q (.int n) H
theorem fmod_lo {a b : Int} (h : 0 < b) : 0 ≤ a.fmod b := Int.fmod_nonneg_of_pos a h
theorem fmod_hi {a b : Int} (h : 0 < b) : a.fmod b < b := Int.fmod_lt_of_pos a h
theorem ite2' {c A B : Prop} [Decidable c] (h1 : c → A) (h2 : ¬ c → B) : if decide c = true then A else B := ite2 (fun h => h1 (of_decide_eq_true h)) (fun h => h2 (fun z => h (decide_eq_true z)))
theorem execs_app (xs ys : List Stmt) (env : Env) : execs (xs ++ ys) env = (execs xs env >>= fun f => match f with | .next => execs ys env | f => pure f) := by
  induction xs with
  | nil =>
    show execs ys env = (pure Flow.next >>= _)
    rw [pure_bind]
  | cons st rest ih =>
    show (exec st env >>= fun f => match f with | .next => execs (rest ++ ys) env | f => pure f) = ((exec st env >>= fun f => match f with | .next => execs rest env | f => pure f) >>= _)
    rw [bind_assoc]
    refine congrArg _ (funext fun f => ?_)
    cases f with
    | next => exact ih
    | ret v => exact (pure_bind _ _).symm
    | brk => exact (pure_bind _ _).symm
    | cont => exact (pure_bind _ _).symm
/-- a block cut behind its first n statements: what follows is shown once, from Mid -/
theorem pss_cutAt {X : Cx} {l : List Stmt} {t u : TS} (n : Nat) (h1 : PSs X (l.take n) t) (h2 : PSs X (l.drop n) u) : PSs X l (C8.tCut t u) := by
  refine ⟨fun pins s σ H D I h => ?_⟩
  obtain ⟨Mid, hm, hu⟩ := h
  rw [← List.take_append_drop n l, execs_app]
  refine wpAny_bind (thn (h1.run pins s σ H { D with nx := Mid } I hm) fun f s1 q => ?_)
  cases f with
  | next =>
    obtain ⟨σ', H', I', q⟩ := q
    exact h2.run pins s1 σ' H' D I' (hu σ' H' q)
  | ret v => exact wpAny_pure q
  | brk => exact wpAny_pure q
  | cont => exact wpAny_pure q
/-! ### tests whose answer is known -/
theorem itY {A B : Prop} {x : V} (h : A) : if decide (x = x) = true then A else B := by rw [decide_eq_true rfl]; exact iteT h
theorem itN {A B : Prop} {x y : V} (n : x ≠ y) (h : B) : if decide (x = y) = true then A else B := by rw [decide_eq_false n]; exact iteF h
theorem itYn {A B : Prop} {x : V} (h : B) : if (!decide (x = x)) = true then A else B := by rw [decide_eq_true rfl]; exact iteF h
theorem itNn {A B : Prop} {x y : V} (n : x ≠ y) (h : A) : if (!decide (x = y)) = true then A else B := by rw [decide_eq_false n]; exact iteT h
theorem strNe {x y : Str} (h : x ≠ y) : V.str x ≠ V.str y := fun z => h (V.str.inj z)
end Vk
namespace Vk
open PySem L2
/-! ### either of two readings -/
theorem pi_or {X : Cx} {tg it : Expr} {w1 w2 : TI} (p : PI X tg it w1) (q : PI X tg it w2) : PI X tg it (fun σ H R => w1 σ H R ∨ w2 σ H R) :=
  ⟨fun pins s σ H R I h => h.elim (p.run pins s σ H R I) (q.run pins s σ H R I)⟩
/-- a walk over a list or a tuple -/
theorem pi_seq {X : Cx} {tg e : Expr} {te : TE} (he : PE X e te) : PI X tg e (fun σ H R => iList X.K te σ H R ∨ iTup X.K te σ H R) := pi_or (pi_list he) (pi_tup he)
theorem pe_or {X : Cx} {e : Expr} {t1 t2 : TE} (p : PE X e t1) (q : PE X e t2) : PE X e (fun σ H Q => t1 σ H Q ∨ t2 σ H Q) :=
  ⟨fun pins s σ H Q I h => h.elim (p.run pins s σ H Q I) (q.run pins s σ H Q I)⟩
/-! ### properties, own classes, keyword calls, by their names -/
structure OkProp (P : Program) (w : World) (K : PySem.W.Frag) (mg : Str → Option Value) (base : Heap) (k : Nat) (C : Addr) (x : Str) (sp : Sp) : Prop where
  ex : ∃ (j : Nat) (p g : Addr) (fd : FuncData), j + 1 ≤ k ∧ PropOf K C x p g ∧ FnOk P w K mg base CX0 j g fd ["self"] sp ∧ Binds K fd ["self"] []
theorem OkProp.mono {P w K mg base j k C x sp} (O : OkProp P w K mg base j C x sp) (h : j ≤ k) : OkProp P w K mg base k C x sp := by
  obtain ⟨i, p, g, fd, hj, r⟩ := O.ex
  exact ⟨i, p, g, fd, Nat.le_trans hj h, r⟩
theorem pe_p {X : Cx} {k : Nat} {C : Addr} {x : Str} {sp : Sp} {e : Expr} {pos : Pos} {ta : TE} (O : OkProp X.prog X.w X.K X.mg X.base k C x sp) (c : Cls X.K C) (hr : Room k X.A) (he : PE X e ta) (hab : attributeBase e x X.env (eval e X.env) = eval e X.env) :
    PE X (.Attribute e x pos) (tProp C sp [] E0 ta) := by
  obtain ⟨i, p, g, fd, hj, hp, F, b⟩ := O.ex
  exact pe_prop he c hp F (hr.mono hj) b .nil pass0 hab
structure OkNew (P : Program) (w : World) (K : PySem.W.Frag) (mg : Str → Option Value) (base : Heap) (k : Nat) (C : Addr) (x : Str) (ps : List Str) (sp : Sp) : Prop where
  ex : ∃ (j : Nat) (f : Addr) (fd : FuncData), j + 1 ≤ k ∧ Mk K C f ∧ FnOk P w K mg base CX0 j f fd ps sp ∧ Binds K fd ps [] ∧ mg x = some (.ref C)
theorem OkNew.mono {P w K mg base j k C x ps sp} (O : OkNew P w K mg base j C x ps sp) (h : j ≤ k) : OkNew P w K mg base k C x ps sp := by
  obtain ⟨i, f, fd, hj, r⟩ := O.ex
  exact ⟨i, f, fd, Nat.le_trans hj h, r⟩
theorem pe_new {X : Cx} {k : Nat} {C : Addr} {x : Str} {ps : List Str} {sp : Sp} {p pos : Pos} {e : Expr} {es : List Expr} {t : TA} (O : OkNew X.prog X.w X.K X.mg X.base k C x ps sp) (hr : Room k X.A) (hg : Gl X x)
    (ha : PA X (e :: es) t) (hdb : (x == ("__debug__" : Str)) = false := by decide) (he : starEach (e :: es) X.env = (false, eval e X.env) :: starEach es X.env := by rfl) (hpl : (backTo pos (starEach es X.env)).any (·.1) = false := by rfl) :
    PE X (.Call (.Name x p) (e :: es) [] pos) (tMake C sp [] E0 t) := by
  obtain ⟨j, f, fd, hj, M, F, b, m⟩ := O.ex
  exact pe_make M F (hr.mono hj) hg m b .nil pass0 ha hdb he hpl
structure OkK (P : Program) (w : World) (K : PySem.W.Frag) (mg : Str → Option Value) (base : Heap) (k : Nat) (x : Str) (ps ks : List Str) (g : List Value → List Value → List Value) (gV : List V → List V → List V) (sp : Sp) : Prop where
  ex : ∃ (f : Addr) (fd : FuncData), FnOk P w K mg base CX0 k f fd ps sp ∧ KBinds K fd ps ks g gV ∧ PySem.W.keepIn K (.ref f) = true ∧ mg x = some (.ref f)
theorem OkK.mono {P w K mg base j k x ps ks g gV sp} (O : OkK P w K mg base j x ps ks g gV sp) (h : j ≤ k) : OkK P w K mg base k x ps ks g gV sp := by
  obtain ⟨f, fd, F, r⟩ := O.ex
  exact ⟨f, fd, F.mono h, r⟩
theorem pe_ck {X : Cx} {k : Nat} {ps ks : List Str} {sp : Sp} {x : Str} {p pos : Pos} {kws : List Keyword} {tk : TA} {g : List Value → List Value → List Value} {gV : List V → List V → List V} (O : OkK X.prog X.w X.K X.mg X.base k x ps ks g gV sp) (hr : Room k X.A) (hg : Gl X x) (hkw : PK X kws tk)
    (hall : (backToKw pos (keywordEach kws X.env)).all (·.1.isSome) = true := by rfl) (hks : (backToKw pos (keywordEach kws X.env)).filterMap (·.1) = ks := by rfl) (hdb : (x == ("__debug__" : Str)) = false := by decide)
    (hpl : ((backTo pos (starEach [] X.env)).any (·.1) || (backToKw pos (keywordEach kws X.env)).any (·.1.isNone)) = false := by rfl) :
    PE X (.Call (.Name x p) [] kws pos) (tCallK sp gV E0 tNil tk) := by
  obtain ⟨f, fd, F, b, kp, m⟩ := O.ex
  exact pe_kw0 F hr hg m kp b hkw hall hks hdb hpl
theorem pe_c0 {X : Cx} {k : Nat} {ps : List Str} {sp : Sp} {x : Str} {p pos : Pos} (O : Ok X.prog X.w X.K X.mg X.base k x ps sp) (hr : Room k X.A) (hg : Gl X x) (hdb : (x == ("__debug__" : Str)) = false := by decide) :
    PE X (.Call (.Name x p) [] [] pos) (tCall sp [] E0 tNil) := by
  obtain ⟨f, fd, F, b, kp, m⟩ := O.ex
  exact pe_call0 F hr hg m kp b .nil pass0 hdb
/-! ### feeds -/
/-- what is kept while a feed is drawn from -/
theorem Stp.keep {a b : Addr} {H H' : Hp} {o : HO} (s : Stp a H H') (h : H b = some o) (n : b ≠ a) : H' b = some o := s.1 b o n h
theorem Fd.ne {H : Hp} {a p : Addr} (h : Fd H a) (e : H p = none) : p ≠ a := by
  obtain ⟨x, y, z, q⟩ := h
  exact (ne_of_none q e).symm
end Vk
namespace Vk
open PySem L2
/-! ### readings by name -/
def rLenS (K : PySem.W.Frag) : List V → Hp → VK → Prop := fun xs H Q => ∃ p ys, xs = [.ref p] ∧ (SqL K H p ys ∨ SqT K H p ys) ∧ Q (.int ys.length) H
theorem call_lenK {X : Cx} : CallR X (.builtin "len") (rLenS X.K) := call_len_seq
def rListOf (K : PySem.W.Frag) : List V → Hp → VK → Prop := fun xs H Q => ∃ p ys, xs = [.ref p] ∧ (SqL K H p ys ∨ SqT K H p ys) ∧ ∀ l, H l = none → Q (.ref l) (upd H l (.lst ys))
theorem call_listK {X : Cx} : CallR X (.type "list") (rListOf X.K) := call_list_of
def rTupOf (K : PySem.W.Frag) : List V → Hp → VK → Prop := fun xs H Q => ∃ p ys, xs = [.ref p] ∧ ((SqL K H p ys ∧ ∀ l, H l = none → Q (.ref l) (upd H l (.tup ys))) ∨ (SqT K H p ys ∧ Q (.ref p) H))
theorem call_tupleK {X : Cx} : CallR X (.type "tuple") (rTupOf X.K) := call_tuple_of
theorem bT {c : Prop} [Decidable c] {Q : VK} {H : Hp} (h : c) (q : Q (.bl true) H) : Q (.bl (decide c)) H := by rw [decide_eq_true h]; exact q
theorem bF {c : Prop} [Decidable c] {Q : VK} {H : Hp} (h : ¬ c) (q : Q (.bl false) H) : Q (.bl (decide c)) H := by rw [decide_eq_false h]; exact q
theorem bE {b b' : Bool} {Q : VK} {H : Hp} (e : b' = b) (q : Q (.bl b) H) : Q (.bl b') H := e ▸ q
theorem vE {b b' : V} {Q : VK} {H : Hp} (e : b' = b) (q : Q b H) : Q b' H := e ▸ q
theorem iE {b b' : Int} {Q : VK} {H : Hp} (e : b' = b) (q : Q (.int b) H) : Q (.int b') H := e ▸ q
/-! ### rows of whole numbers that are not negative -/
def ni (ns : List Nat) : List V := ns.map fun n : Nat => V.int (n : Int)
theorem ni_len (ns : List Nat) : (ni ns).length = ns.length := List.length_map ..
theorem ni_get {ns : List Nat} {i : Nat} {n : Nat} (h : ns[i]? = some n) : (ni ns)[i]? = some (V.int (n : Int)) := by
  unfold ni
  rw [List.getElem?_map, h]
  rfl
theorem ni_app (a b : List Nat) : ni (a ++ b) = ni a ++ ni b := List.map_append ..
theorem ni_mem {ns : List Nat} {v : V} (h : v ∈ ni ns) : ∃ n ∈ ns, v = V.int (n : Int) := by
  obtain ⟨n, m, rfl⟩ := List.mem_map.mp h
  exact ⟨n, m, rfl⟩
theorem ni_at {ns : List Nat} {i : Nat} {v : V} (h : (ni ns)[i]? = some v) : ∃ n, ns[i]? = some n ∧ v = V.int (n : Int) := by
  unfold ni at h
  rw [List.getElem?_map] at h
  cases e : ns[i]? with
  | none => rw [e] at h; cases h
  | some n => rw [e] at h; exact ⟨n, rfl, (Option.some.inj h).symm⟩
theorem ni_atI {ns : List Nat} {i : Nat} {n : Nat} (h : ns[i]? = some n) : atI (ni ns) ((i : Nat) : Int) = some (V.int (n : Int)) := atI_nat (ni_get h)
theorem ni_set (ns : List Nat) (i n : Nat) : (ni ns).set i (V.int (n : Int)) = ni (ns.set i n) := by
  unfold ni
  exact List.map_set.symm
theorem get_of_lt {α : Type} {xs : List α} {i : Nat} (h : i < xs.length) : ∃ x, xs[i]? = some x := ⟨xs[i], List.getElem?_eq_getElem h⟩
theorem lt_of_get {α : Type} {xs : List α} {i : Nat} {x : α} (h : xs[i]? = some x) : i < xs.length := (List.getElem?_eq_some_iff.mp h).1
theorem mem_of_get {α : Type} {xs : List α} {i : Nat} {x : α} (h : xs[i]? = some x) : x ∈ xs := List.mem_of_getElem? h
/-- two rows side by side -/
structure LL {α β : Type} (P : α → β → Prop) (as : List α) (rs : List β) : Prop where
  len : as.length = rs.length
  at_ : ∀ (i : Nat) (a : α) (r : β), as[i]? = some a → rs[i]? = some r → P a r
theorem LL.nil {α β : Type} {P : α → β → Prop} : LL P ([] : List α) ([] : List β) := ⟨rfl, fun i a r h => by simp at h⟩
theorem LL.mono {α β : Type} {P Q : α → β → Prop} {as : List α} {rs : List β} (h : LL P as rs) (q : ∀ a r, P a r → Q a r) : LL Q as rs := ⟨h.len, fun i a r ha hr => q a r (h.at_ i a r ha hr)⟩
theorem LL.snoc {α β : Type} {P : α → β → Prop} {as : List α} {rs : List β} {a : α} {r : β} (h : LL P as rs) (p : P a r) : LL P (as ++ [a]) (rs ++ [r]) := by
  refine ⟨by simp [h.len], fun i a' r' ha hr => ?_⟩
  by_cases c : i < as.length
  · rw [List.getElem?_append_left c] at ha
    rw [List.getElem?_append_left (h.len ▸ c)] at hr
    exact h.at_ i a' r' ha hr
  · rw [List.getElem?_append_right (by omega)] at ha
    rw [List.getElem?_append_right (by have := h.len; omega)] at hr
    rw [h.len] at ha
    cases e : i - rs.length with
    | zero =>
      rw [e] at ha hr
      simp at ha hr
      subst ha; subst hr
      exact p
    | succ n =>
      rw [e] at ha
      simp at ha
theorem LL.get {α β : Type} {P : α → β → Prop} {as : List α} {rs : List β} (h : LL P as rs) {i : Nat} {r : β} (e : rs[i]? = some r) : ∃ a, as[i]? = some a ∧ P a r := by
  obtain ⟨a, ea⟩ := get_of_lt (xs := as) (i := i) (h.len ▸ lt_of_get e)
  exact ⟨a, ea, h.at_ i a r ea e⟩
theorem LL.getL {α β : Type} {P : α → β → Prop} {as : List α} {rs : List β} (h : LL P as rs) {i : Nat} {a : α} (e : as[i]? = some a) : ∃ r, rs[i]? = some r ∧ P a r := by
  obtain ⟨r, er⟩ := get_of_lt (xs := rs) (i := i) (h.len ▸ lt_of_get e)
  exact ⟨r, er, h.at_ i a r e er⟩
/-- references of a row -/
def rf (as : List Addr) : List V := as.map V.ref
theorem rf_len (as : List Addr) : (rf as).length = as.length := List.length_map ..
theorem rf_get {as : List Addr} {i : Nat} {a : Addr} (h : as[i]? = some a) : (rf as)[i]? = some (V.ref a) := by
  unfold rf
  rw [List.getElem?_map, h]
  rfl
theorem rf_at {as : List Addr} {i : Nat} {v : V} (h : (rf as)[i]? = some v) : ∃ a, as[i]? = some a ∧ v = V.ref a := by
  unfold rf at h
  rw [List.getElem?_map] at h
  cases e : as[i]? with
  | none => rw [e] at h; cases h
  | some n => rw [e] at h; exact ⟨n, rfl, (Option.some.inj h).symm⟩
theorem rf_app (a b : List Addr) : rf (a ++ b) = rf a ++ rf b := List.map_append ..
/-! ### what a store to a list leaves -/
theorem SqT.updL {K : PySem.W.Frag} {H : Hp} {a b : Addr} {xs ys : List V} {o : HO} (h : SqT K H a xs) (e : H b = some (.lst ys)) : SqT K (upd H b o) a xs := by
  rcases h with (h | ⟨u, h⟩) | h
  · exact .inl (.inl ((upd_ne (ne_of h e (by intro z; cases z))).trans h))
  · exact .inl (.inr ⟨u, (upd_ne (ne_of h e (by intro z; cases z))).trans h⟩)
  · exact .inr h
/-- the instance at p, its fields: kept by a store to a list -/
theorem ins_updL {H : Hp} {p b C dx : Addr} {fs : List (Str × V)} {ys : List V} {o : HO} (h : H p = some (.ins C dx fs)) (e : H b = some (.lst ys)) : upd H b o p = some (.ins C dx fs) := (upd_ne (ne_of h e (by intro z; cases z))).trans h
theorem upd_keep {H : Hp} {b c : Addr} {o u : HO} (h : H c = some u) (n : c ≠ b) : upd H b o c = some u := (upd_ne n).trans h
theorem same_upd {H0 H : Hp} {b : Addr} {o : HO} (s : Same H0 H) (n : H0 b = none) : Same H0 (upd H b o) := fun c u e => by
  rw [upd_ne (ne_of_none e n)]
  exact s c u e
theorem Same.new {H0 H : Hp} {b : Addr} {o : HO} (s : Same H0 H) (n : H b = none) : Same H0 (upd H b o) := s.trans (same_new n o)
theorem Same.fr {H0 H : Hp} {b : Addr} (s : Same H0 H) (n : H b = none) : H0 b = none := s.free n
theorem sNe {H : Hp} {a b : Addr} {o : HO} (h : H a = some o) (n : H b = none) : a ≠ b := ne_of_none h n
theorem stp_new {a b : Addr} {H H1 : Hp} {o : HO} (s : Stp a H H1) (n : H1 b = none) : Stp a H (upd H1 b o) := s.same (same_new n o)
/-- a store to an object that was not there at the start -/
theorem stp_upd {a b : Addr} {H H1 : Hp} {o : HO} (s : Stp a H H1) (n : H b = none) (na : b ≠ a) : Stp a H (upd H1 b o) := by
  refine ⟨fun c u nc e => ?_, ?_⟩
  · rw [upd_ne (ne_of_none e n)]
    exact s.1 c u nc e
  · obtain ⟨x, y, z, e⟩ := s.2
    exact ⟨x, y, z, (upd_ne na.symm).trans e⟩
/-! ### draws as whole numbers that are not negative -/
theorem rd_takeN {σ : St} {H : Hp} {Q : VK} {a : Addr} {n : Int} {i : Nat} (hσ : σ[i]? = some (some (.ref a))) (hF : Fd H a) (n0 : 0 < n) (n1 : n < 1073741824) (q : ∀ (m : Nat) H', (m : Int) < n → Stp a H H' → Q (.int (m : Int)) H') :
    tCall spTake [] E0 (tCons (tVar i) (tCons (tC (.int n)) tNil)) σ H Q := ⟨_, hσ, a, n, rfl, hF, n0, n1, fun r H' r0 r1 s => by
      obtain ⟨m, rfl⟩ := Int.eq_ofNat_of_zero_le r0
      exact q m H' r1 s⟩
/-- the promise of a draw, as whole number -/
theorem spTake_n {a : Addr} {n : Int} {H : Hp} {Q : VK} {E : XK} (hF : Fd H a) (n0 : 0 < n) (n1 : n < 1073741824) (q : ∀ (m : Nat) H', (m : Int) < n → Stp a H H' → Q (.int (m : Int)) H') : spTake [.ref a, .int n] H Q E :=
  ⟨a, n, rfl, hF, n0, n1, fun r H' r0 r1 s => by
      obtain ⟨m, rfl⟩ := Int.eq_ofNat_of_zero_le r0
      exact q m H' r1 s⟩
end Vk
namespace Vk
open PySem L2
theorem line1000 {n m : Nat} (h : n < m) (hm : m ≤ 1000) : n < sizeLine := by
  have := small1000 (n := n + 1) (by omega)
  omega
theorem itT {c A B : Prop} [Decidable c] (h : c) (a : A) : if decide c = true then A else B := by rw [decide_eq_true h]; exact iteT a
theorem itF {c A B : Prop} [Decidable c] (h : ¬ c) (b : B) : if decide c = true then A else B := by rw [decide_eq_false h]; exact iteF b
theorem itTn {c A B : Prop} [Decidable c] (h : c) (b : B) : if (!decide c) = true then A else B := by rw [decide_eq_true h]; exact iteF b
theorem itFn {c A B : Prop} [Decidable c] (h : ¬ c) (a : A) : if (!decide c) = true then A else B := by rw [decide_eq_false h]; exact iteT a
theorem iteI {a b : Int} {A B : Prop} (h1 : a = b → A) (h2 : a ≠ b → B) : if decide (V.int a = V.int b) = true then A else B := by
  by_cases c : a = b
  · subst c; rw [decide_eq_true rfl]; exact iteT (h1 rfl)
  · rw [decide_eq_false (fun z => c (V.int.inj z))]; exact iteF (h2 c)
theorem iteIn {a b : Int} {A B : Prop} (h1 : a ≠ b → A) (h2 : a = b → B) : if (!decide (V.int a = V.int b)) = true then A else B := by
  by_cases c : a = b
  · subst c; rw [decide_eq_true rfl]; exact iteF (h2 rfl)
  · rw [decide_eq_false (fun z => c (V.int.inj z))]; exact iteT (h1 c)
theorem itD {c A B : Prop} [Decidable c] (h1 : c → A) (h2 : ¬ c → B) : if decide c = true then A else B := by
  by_cases h : c
  · exact itT h (h1 h)
  · exact itF h (h2 h)
theorem itDn {c A B : Prop} [Decidable c] (h1 : ¬ c → A) (h2 : c → B) : if (!decide c) = true then A else B := by
  by_cases h : c
  · exact itTn h (h2 h)
  · exact itFn h (h1 h)
theorem ni_rep (n x : Nat) {f : Nat → V} (h : ∀ i, f i = V.int (x : Int)) : (List.range n).map f = ni (List.replicate n x) := by
  refine List.ext_getElem? fun i => ?_
  unfold ni
  by_cases c : i < n
  · rw [List.getElem?_map, List.getElem?_range c, List.getElem?_map, List.getElem?_replicate, if_pos c]
    exact congrArg some (h i)
  · rw [List.getElem?_eq_none (by simp; omega), List.getElem?_eq_none (by simp; omega)]
/-- values that are whole numbers, as a row -/
theorem ni_of {P : Nat → Nat → Prop} : ∀ (ys : List V), (∀ i y, ys[i]? = some y → ∃ n : Nat, y = .int (n : Int) ∧ P i n) → ∃ ns : List Nat, ys = ni ns ∧ ∀ i n, ns[i]? = some n → P i n := by
  intro ys
  induction ys generalizing P with
  | nil => exact fun _ => ⟨[], rfl, fun i n h => by simp at h⟩
  | cons y ys ih =>
    intro h
    obtain ⟨n, rfl, hn⟩ := h 0 y rfl
    obtain ⟨ns, e, hP⟩ := ih (P := fun i n => P (i + 1) n) fun i z hz => h (i + 1) z hz
    refine ⟨n :: ns, by rw [e]; rfl, fun i m hm => ?_⟩
    cases i with
    | zero =>
      have z : n = m := Option.some.inj hm
      exact z ▸ hn
    | succ i => exact hP i m hm
theorem rd_takeV {σ : St} {H : Hp} {Q : VK} {a : Addr} {n : Int} {i j : Nat} (hσ : σ[i]? = some (some (.ref a))) (hj : σ[j]? = some (some (.int n))) (hF : Fd H a) (n0 : 0 < n) (n1 : n < 1073741824) (q : ∀ (m : Nat) H', (m : Int) < n → Stp a H H' → Q (.int (m : Int)) H') :
    tCall spTake [] E0 (tCons (tVar i) (tCons (tVar j) tNil)) σ H Q := ⟨_, hσ, _, hj, spTake_n (E := E0) hF n0 n1 q⟩
theorem rd_takeE {σ : St} {H : Hp} {Q : VK} {a : Addr} {i : Nat} {te : TE} (hσ : σ[i]? = some (some (.ref a))) (h : te σ H fun v H1 => ∃ n : Int, v = .int n ∧ Fd H1 a ∧ 0 < n ∧ n < 1073741824 ∧ ∀ (m : Nat) H', (m : Int) < n → Stp a H1 H' → Q (.int (m : Int)) H')
    (mono : ∀ (Q1 Q2 : VK), (∀ v H1, Q1 v H1 → Q2 v H1) → te σ H Q1 → te σ H Q2) : tCall spTake [] E0 (tCons (tVar i) (tCons te tNil)) σ H Q :=
  ⟨_, hσ, mono _ _ (fun v H1 ⟨n, e, hF, n0, n1, q⟩ => by subst e; exact spTake_n (E := E0) hF n0 n1 q) h⟩
/-- what a comprehension needs of the relation between heaps -/
structure TR (T : Hp → Hp → Prop) (H : Hp) : Prop where
  t0 : ∀ D o, H D = none → T H (upd H D o)
  tk : ∀ D H1 H2 o, H D = none → T H H1 → H1 D = some o → T H1 H2 → H2 D = some o ∧ T H H2
  tu : ∀ D H1 o, H D = none → T H H1 → T H (upd H1 D o)
theorem trSame (H : Hp) : TR Same H := ⟨fun D o h => same_new h o, fun D H1 H2 o _ s e t => ⟨t _ _ e, s.trans t⟩, fun D H1 o h s => same_upd s h⟩
theorem trStp {H : Hp} {a : Addr} (hF : Fd H a) : TR (Stp a) H :=
  ⟨fun D o h => Stp.of hF (same_new h o), fun D H1 H2 o h s e t => ⟨t.1 _ _ (hF.ne h) e, s.trans t⟩, fun D H1 o h s => stp_upd s h (hF.ne h)⟩
theorem set_none (σ : St) (j : Nat) (v : V) : (σ.set j none).set j (some v) = σ.set j (some v) := List.set_set ..
theorem wipe1 (σ : St) (j : Nat) (v : V) : wipe ((wipe σ [j]).set j (some v)) [j] = wipe σ [j] := by
  show ((σ.set j none).set j (some v)).set j none = σ.set j none
  rw [List.set_set, List.set_set]
section
variable {J : It} {n j : Nat} {G : Hp → Prop} {te : TE} {tt : TT} {σ : St} {H : Hp} {Q : Addr → Hp → Prop} {X : Nat → V}
/-- [e for x in ..]: each item's value keeps P, whatever is done between is of T -/
theorem lc_map (w : Walk J n G (fun i H x H' => H' = H ∧ x = X i)) (T : Hp → Hp → Prop) (tr : TR T H) (hT : ∀ H1, T H H1 → G H1) (hn : n ≤ 1000)
    (P : Addr → Nat → V → Hp → Prop) (pm : ∀ D i y H1 H2, H D = none → T H H1 → T H1 H2 → P D i y H1 → P D i y H2) (pu : ∀ D i y H1 acc o, H D = none → H1 D = some (.lst acc) → P D i y H1 → P D i y (upd H1 D o))
    (hs : ∀ D i H1 (Qe : VK), i < n → H D = none → T H H1 → (∃ acc, H1 D = some (.lst acc) ∧ acc.length = i) → (∀ y H2, T H1 H2 → P D i y H2 → Qe y H2) → te (σ.set j (some (X i))) H1 Qe)
    (q : ∀ D H1 ys, H D = none → T H H1 → H1 D = some (.lst ys) → ys.length = n → (∀ i y, ys[i]? = some y → P D i y H1) → Q D H1) :
    ∀ D, H D = none → ∃ W : Nat → Nat → Hp → Prop, (∃ m, W 0 m (upd H D (.lst []))) ∧ ∀ i m H, W i m H →
      (J.stop i H ∧ Q D H) ∨ (J.go i H ∧ ∃ Nx : Hp → Prop, (∀ H', Nx H' → ∃ m', m' < m ∧ W (i + 1) m' H') ∧ ∀ x H', J.yld i H x H' → gName j x (wipe σ [j]) H' fun σ2 H2 => wipe σ2 [j] = wipe σ [j] ∧ tYes σ2 H2 fun b H3 =>
        if b = true then te σ2 H3 fun y H4 => ∃ acc, H4 D = some (.lst acc) ∧ acc.length < sizeLine ∧ Nx (upd H4 D (.lst (acc ++ [y]))) else Nx H3) := by
  intro D hD
  refine lc_it w (fun i H1 => T H H1 ∧ ∃ ys, H1 D = some (.lst ys) ∧ ys.length = i ∧ ∀ k y, ys[k]? = some y → P D k y H1) ⟨tr.t0 D _ hD, [], upd_same, rfl, fun k y h => by simp at h⟩ (fun i H1 _ h => hT _ h.1) (fun i x H1 H' hi hp hy => ?_) (fun H1 hp => ?_)
  · obtain ⟨rfl, rfl⟩ := hy
    obtain ⟨s, ys, e, hl, hP⟩ := hp
    refine ⟨wipe1 σ j _, ?_⟩
    show tYes ((wipe σ [j]).set j (some (X i))) H' _
    simp only [tYes, if_true]
    rw [show (wipe σ [j]).set j (some (X i)) = σ.set j (some (X i)) from set_none σ j _]
    refine hs D i H' _ hi hD s ⟨ys, e, hl⟩ fun y H2 t p => ?_
    obtain ⟨e2, s2⟩ := tr.tk D _ _ _ hD s e t
    refine ⟨ys, e2, line1000 (by omega) hn, tr.tu D _ _ hD s2, _, upd_same, by simp [hl], fun k z hz => ?_⟩
    by_cases c : k < ys.length
    · rw [List.getElem?_append_left c] at hz
      exact pu D k z _ _ _ hD e2 (pm D k z _ _ hD s t (hP k z hz))
    · rw [List.getElem?_append_right (by omega)] at hz
      have hk : k - ys.length = 0 := by
        cases q : k - ys.length with
        | zero => rfl
        | succ m => rw [q] at hz; simp at hz
      rw [hk] at hz
      have z1 : y = z := by simpa using hz
      have z2 : k = i := by omega
      subst z1
      subst z2
      exact pu D k y _ _ _ hD e2 p
  · obtain ⟨s, ys, e, hl, hP⟩ := hp
    exact q D H1 ys hD s e hl hP
/-- the values themselves, nothing drawn -/
theorem lc_mapS (w : Walk J n G (fun i H x H' => H' = H ∧ x = X i)) (hT : ∀ H1, Same H H1 → G H1) (hn : n ≤ 1000) (f : Nat → V)
    (hs : ∀ i H1 (Qe : VK), i < n → Same H H1 → (∀ H2, Same H1 H2 → Qe (f i) H2) → te (σ.set j (some (X i))) H1 Qe)
    (q : ∀ D H1, H D = none → Same H H1 → H1 D = some (.lst ((List.range n).map f)) → Q D H1) :
    ∀ D, H D = none → ∃ W : Nat → Nat → Hp → Prop, (∃ m, W 0 m (upd H D (.lst []))) ∧ ∀ i m H, W i m H →
      (J.stop i H ∧ Q D H) ∨ (J.go i H ∧ ∃ Nx : Hp → Prop, (∀ H', Nx H' → ∃ m', m' < m ∧ W (i + 1) m' H') ∧ ∀ x H', J.yld i H x H' → gName j x (wipe σ [j]) H' fun σ2 H2 => wipe σ2 [j] = wipe σ [j] ∧ tYes σ2 H2 fun b H3 =>
        if b = true then te σ2 H3 fun y H4 => ∃ acc, H4 D = some (.lst acc) ∧ acc.length < sizeLine ∧ Nx (upd H4 D (.lst (acc ++ [y]))) else Nx H3) :=
  lc_map w Same (trSame H) hT hn (fun _ i y _ => y = f i) (fun _ _ _ _ _ _ _ _ p => p) (fun _ _ _ _ _ _ _ _ p => p) (fun D i H1 Qe hi _ s _ k => hs i H1 Qe hi s fun H2 t => k _ H2 t rfl) fun D H1 ys hD s e hl hP => by
    have ey : ys = (List.range n).map f := by
      refine List.ext_getElem? fun i => ?_
      by_cases c : i < n
      · obtain ⟨y, ey⟩ := get_of_lt (xs := ys) (i := i) (by omega)
        rw [ey, hP i y ey, List.getElem?_map, List.getElem?_range c]
        rfl
      · rw [List.getElem?_eq_none (by omega), List.getElem?_eq_none (by simp; omega)]
    rw [ey] at e
    exact q D H1 hD s e
/-- [e for x in .. if t], the test known, nothing drawn -/
theorem lc_filt (w : Walk J n G (fun i H x H' => H' = H ∧ x = X i)) (hT : ∀ H1, Same H H1 → G H1) (hn : n ≤ 1000) (p : Nat → Bool) (f : Nat → V)
    (ht : ∀ i H1 (Qb : Bool → Hp → Prop), i < n → Same H H1 → (∀ H2, Same H1 H2 → Qb (p i) H2) → tt (σ.set j (some (X i))) H1 Qb)
    (hs : ∀ i H1 (Qe : VK), i < n → Same H H1 → (∀ H2, Same H1 H2 → Qe (f i) H2) → te (σ.set j (some (X i))) H1 Qe)
    (q : ∀ D H1, H D = none → Same H H1 → H1 D = some (.lst (((List.range n).filter p).map f)) → Q D H1) :
    ∀ D, H D = none → ∃ W : Nat → Nat → Hp → Prop, (∃ m, W 0 m (upd H D (.lst []))) ∧ ∀ i m H, W i m H →
      (J.stop i H ∧ Q D H) ∨ (J.go i H ∧ ∃ Nx : Hp → Prop, (∀ H', Nx H' → ∃ m', m' < m ∧ W (i + 1) m' H') ∧ ∀ x H', J.yld i H x H' → gName j x (wipe σ [j]) H' fun σ2 H2 => wipe σ2 [j] = wipe σ [j] ∧ tt σ2 H2 fun b H3 =>
        if b = true then te σ2 H3 fun y H4 => ∃ acc, H4 D = some (.lst acc) ∧ acc.length < sizeLine ∧ Nx (upd H4 D (.lst (acc ++ [y]))) else Nx H3) := by
  intro D hD
  refine lc_it w (fun i H1 => Same H H1 ∧ H1 D = some (.lst (((List.range i).filter p).map f))) ⟨same_new hD _, upd_same⟩ (fun i H1 _ h => hT _ h.1) (fun i x H1 H' hi hp hy => ?_) (fun H1 hp => ?_)
  · obtain ⟨rfl, rfl⟩ := hy
    obtain ⟨s, e⟩ := hp
    refine ⟨wipe1 σ j _, ?_⟩
    show tt ((wipe σ [j]).set j (some (X i))) _ _
    rw [show (wipe σ [j]).set j (some (X i)) = σ.set j (some (X i)) from set_none σ j _]
    refine ht i H' _ hi s fun H2 t => ?_
    cases c : p i with
    | true =>
      refine iteT ?_
      refine hs i H2 _ hi (s.trans t) fun H3 t2 => ?_
      refine ⟨_, t2 _ _ (t _ _ e), ?_, same_upd (s.trans (t.trans t2)) hD, ?_⟩
      · have h1 := List.length_filter_le p (List.range i)
        rw [List.length_map]
        rw [List.length_range] at h1
        exact line1000 (show _ < n by omega) hn
      · rw [upd_same, List.range_succ, List.filter_append, List.map_append]
        simp [c]
    | false =>
      refine iteF ⟨s.trans t, ?_⟩
      rw [t _ _ e, List.range_succ, List.filter_append, List.map_append]
      simp [c]
  · exact q D H1 hD hp.1 hp.2
end
/-! ### the walks, in this form -/
theorem wk_range {n : Nat} : Walk (Itr 0 n) n (fun _ => True) (fun i H x H' => H' = H ∧ x = V.int (i : Int)) :=
  walk_range.mono (fun _ h => h) fun i H x H' _ _ h => ⟨h.1, h.2.trans (congrArg V.int (Int.zero_add _))⟩
theorem wk_rangeF {lo n : Nat} : Walk (Itr (lo : Int) n) n (fun _ => True) (fun i H x H' => H' = H ∧ x = V.int ((lo + i : Nat) : Int)) :=
  walk_range.mono (fun _ h => h) fun i H x H' _ _ h => ⟨h.1, h.2.trans (congrArg V.int (Int.natCast_add _ _).symm)⟩
theorem wk_list {K : PySem.W.Frag} {a : Addr} {xs : List V} : Walk (Itl K a) xs.length (fun H => SqL K H a xs) (fun i H x H' => H' = H ∧ x = xs.getD i .non) :=
  walk_list.mono (fun _ h => h) fun i H x H' _ _ h => ⟨h.1, by rw [List.getD_eq_getElem?_getD, h.2]; rfl⟩
theorem wk_tup {K : PySem.W.Frag} {a : Addr} {xs : List V} : Walk (Itt K a) xs.length (fun H => SqT K H a xs) (fun i H x H' => H' = H ∧ x = xs.getD i .non) :=
  walk_tup.mono (fun _ h => h) fun i H x H' _ _ h => ⟨h.1, by rw [List.getD_eq_getElem?_getD, h.2]; rfl⟩
theorem getD_of {xs : List V} {i : Nat} {x : V} (h : xs[i]? = some x) : xs.getD i .non = x := by rw [List.getD_eq_getElem?_getD, h]; rfl
theorem ni_getD {ns : List Nat} {i : Nat} (h : i < ns.length) : (ni ns).getD i .non = V.int ((ns[i] : Nat) : Int) := getD_of (ni_get (List.getElem?_eq_getElem h))
/-- a list or a tuple -/
def Sq (K : PySem.W.Frag) (H : Hp) (a : Addr) (xs : List V) : Prop := SqL K H a xs ∨ SqT K H a xs
theorem Sq.same {K : PySem.W.Frag} {H H' : Hp} {a : Addr} {xs : List V} (h : Sq K H a xs) (s : Same H H') : Sq K H' a xs := h.elim (fun q => .inl (s.seq q)) (fun q => .inr (Vk.Same.tup s q))
/-- all([t for x in xs]) over a list or a tuple at slot i, each t true -/
theorem all_sq {K : PySem.W.Frag} {i j : Nat} {a : Addr} {xs : List V} {te : TE} {σ : St} {H : Hp} {Q : VK} (hσ : σ[i]? = some (some (.ref a))) (hS : Sq K H a xs) (hn : xs.length ≤ 1000)
    (hs : ∀ (k : Nat) (x : V) (H1 : Hp) (Qe : VK), xs[k]? = some x → Same H H1 → (∀ H2, Same H1 H2 → Qe (.bl true) H2) → te (σ.set j (some x)) H1 Qe) (q : ∀ H1, Same H H1 → Q (.bl true) H1) :
    tCB (rAll K) (tCons (tLc (fun σ H R => iList K (tVar i) σ H R ∨ iTup K (tVar i) σ H R) (gName j) tYes te [j]) tNil) σ H Q := by
  have fin : ∀ D H1, H D = none → Same H H1 → H1 D = some (.lst ((List.range xs.length).map fun _ => V.bl true)) → rAll K [V.ref D] H1 Q := fun D H1 hD s e => by
    have e2 : (List.range xs.length).map (fun _ => V.bl true) = (List.replicate xs.length true).map V.bl := by
      refine List.ext_getElem? fun k => ?_
      by_cases c : k < xs.length
      · rw [List.getElem?_map, List.getElem?_range c, List.getElem?_map, List.getElem?_replicate, if_pos c]
        rfl
      · rw [List.getElem?_eq_none (by simp; omega), List.getElem?_eq_none (by simp; omega)]
    rw [e2] at e
    refine ⟨D, _, rfl, SqL.of e, ?_⟩
    have e3 : (List.replicate xs.length true).all id = true := by simp
    rw [e3]
    exact q H1 s
  rcases hS with h | h
  · refine .inl ⟨_, hσ, a, rfl, ⟨_, h⟩, ?_⟩
    refine lc_mapS (Q := fun D H1 => rAll K [V.ref D] H1 Q) wk_list (fun H1 s => s.seq h) hn (fun _ => V.bl true) (fun k H1 Qe hk s qe => ?_) (fun D H1 hD s e => fin D H1 hD s e)
    obtain ⟨x, ex⟩ := get_of_lt hk
    rw [getD_of ex]
    exact hs k x H1 Qe ex s qe
  · refine .inr ⟨_, hσ, a, rfl, ⟨_, h⟩, ?_⟩
    refine lc_mapS (Q := fun D H1 => rAll K [V.ref D] H1 Q) wk_tup (fun H1 s => Vk.Same.tup s h) hn (fun _ => V.bl true) (fun k H1 Qe hk s qe => ?_) (fun D H1 hD s e => fin D H1 hD s e)
    obtain ⟨x, ex⟩ := get_of_lt hk
    rw [getD_of ex]
    exact hs k x H1 Qe ex s qe
theorem tupOf {K : PySem.W.Frag} {a : Addr} {xs : List V} {H : Hp} {Q : VK} (h : Sq K H a xs) (q : ∀ t H', Same H H' → SqT K H' t xs → Q (.ref t) H') : rTupOf K [.ref a] H Q :=
  ⟨a, xs, rfl, h.elim (fun h => .inl ⟨h, fun l hl => q l _ (same_new hl _) (SqT.of upd_same)⟩) (fun h => .inr ⟨h, q a H (fun _ _ z => z) h⟩)⟩
theorem tupOfV {K : PySem.W.Frag} {i : Nat} {a : Addr} {xs : List V} {σ : St} {H : Hp} {Q : VK} (hσ : σ[i]? = some (some (.ref a))) (h : Sq K H a xs) (q : ∀ t H', Same H H' → SqT K H' t xs → Q (.ref t) H') : tCB (rTupOf K) (tCons (tVar i) tNil) σ H Q := ⟨_, hσ, tupOf h q⟩
theorem tcb1 {r : List V → Hp → VK → Prop} {te : TE} {σ : St} {H : Hp} {Q : VK} (h : te σ H fun x H1 => r [x] H1 Q) : tCB r (tCons te tNil) σ H Q := h
theorem ni_atE {ns : List Nat} {i : Nat} {n : Nat} {z : Int} (e : z = (i : Int)) (h : ns[i]? = some n) : atI (ni ns) z = some (V.int (n : Int)) := e ▸ ni_atI h
/-- a comprehension over a list or a tuple -/
theorem lc_mapSq {K : PySem.W.Frag} {n i j : Nat} {a : Addr} {xs : List V} {te : TE} {σ : St} {H : Hp} {Q : VK} (hσ : σ[i]? = some (some (.ref a))) (hS : Sq K H a xs) (hx : xs.length = n) (hn : n ≤ 1000)
    (P : Addr → Nat → V → Hp → Prop) (pm : ∀ D i y H1 H2, H D = none → Same H H1 → Same H1 H2 → P D i y H1 → P D i y H2) (pu : ∀ D i y H1 acc o, H D = none → H1 D = some (.lst acc) → P D i y H1 → P D i y (upd H1 D o))
    (hs : ∀ (D : Addr) (k : Nat) (x : V) (H1 : Hp) (Qe : VK), xs[k]? = some x → H D = none → Same H H1 → (∃ acc, H1 D = some (.lst acc) ∧ acc.length = k) → (∀ y H2, Same H1 H2 → P D k y H2 → Qe y H2) → te (σ.set j (some x)) H1 Qe)
    (q : ∀ D H1 ys, H D = none → Same H H1 → H1 D = some (.lst ys) → ys.length = n → (∀ i y, ys[i]? = some y → P D i y H1) → Q (.ref D) H1) :
    tLc (fun σ H R => iList K (tVar i) σ H R ∨ iTup K (tVar i) σ H R) (gName j) tYes te [j] σ H Q := by
  subst hx
  rcases hS with h | h
  · refine .inl ⟨_, hσ, a, rfl, ⟨_, h⟩, ?_⟩
    refine lc_map (Q := fun D H1 => Q (.ref D) H1) wk_list Same (trSame H) (fun H1 s => s.seq h) hn P pm pu (fun D k H1 Qe hk hD s ha qe => ?_) q
    obtain ⟨x, ex⟩ := get_of_lt hk
    rw [getD_of ex]
    exact hs D k x H1 Qe ex hD s ha qe
  · refine .inr ⟨_, hσ, a, rfl, ⟨_, h⟩, ?_⟩
    refine lc_map (Q := fun D H1 => Q (.ref D) H1) wk_tup Same (trSame H) (fun H1 s => Vk.Same.tup s h) hn P pm pu (fun D k H1 Qe hk hD s ha qe => ?_) q
    obtain ⟨x, ex⟩ := get_of_lt hk
    rw [getD_of ex]
    exact hs D k x H1 Qe ex hD s ha qe
/-- the items of a list of references, each with a property -/
theorem refs_of : ∀ {P : Nat → Addr → Prop} (ys : List V), (∀ i y, ys[i]? = some y → ∃ b, y = .ref b ∧ P i b) → ∃ as : List Addr, ys = rf as ∧ ∀ i a, as[i]? = some a → P i a
  | _, [], _ => ⟨[], rfl, fun i a h => by simp at h⟩
  | P, y :: ys, h => by
    obtain ⟨b, rfl, hb⟩ := h 0 y rfl
    obtain ⟨as, e, hP⟩ := refs_of (P := fun i a => P (i + 1) a) ys fun i z hz => h (i + 1) z hz
    refine ⟨b :: as, by rw [e]; rfl, fun i a ha => ?_⟩
    cases i with
    | zero =>
      have z : b = a := Option.some.inj ha
      exact z ▸ hb
    | succ i => exact hP i a ha
end Vk
namespace Vk
open PySem L2
def dn (ns : List Nat) : List PyData := ns.map fun n : Nat => PyData.int (n : Int)
theorem dn_ints (ns : List Nat) : dn ns = (ns.map fun n : Nat => (n : Int)).map PyData.int := by
  unfold dn
  rw [List.map_map]
  rfl
theorem dpAll_ni {K : PySem.W.Frag} {H : Hp} : ∀ ns : List Nat, DpAll K H (ni ns) (dn ns)
  | [] => .nil
  | n :: ns => .cons (.int _) (dpAll_ni ns)
theorem shaped_dl (ns : List Nat) : SeqAt.shaped (.list (dn ns)) = true := by
  rw [dn_ints]
  exact PySem.W.shaped_ints _
theorem canAll_dn (ns : List Nat) : PyData.canLayAll0 (dn ns) = true := by
  rw [dn_ints]
  exact PySem.W.canLayAll0_ints _
theorem shaped_dt (ns : List Nat) : SeqAt.shaped (.tuple (dn ns)) = true := by
  have h1 := PySem.W.depthAll_ints (ns.map fun n : Nat => (n : Int))
  rw [← dn_ints] at h1
  have h2 : PyData.depth (.tuple (dn ns)) ≤ 64 := by simp only [PyData.depth]; omega
  show (PyData.canLay0 (.tuple (dn ns)) && decide (PyData.depth (.tuple (dn ns)) ≤ 64)) = true
  rw [Bool.and_eq_true]
  exact ⟨by simp only [PyData.canLay0]; exact canAll_dn ns, decide_eq_true h2⟩
theorem eqv_dl (ns : List Nat) : PyData.eqv (.list (dn ns)) (.list (dn ns)) = true := SeqAt.eqv_refl _ (by simp only [PyData.canLay0]; exact canAll_dn ns)
theorem eqv_dt (ns : List Nat) : PyData.eqv (.tuple (dn ns)) (.tuple (dn ns)) = true := SeqAt.eqv_refl _ (by simp only [PyData.canLay0]; exact canAll_dn ns)
theorem eqvAll_dn : ∀ a b : List Nat, PyData.eqvAll (dn a) (dn b) = decide (a = b)
  | [], [] => rfl
  | [], _ :: _ => rfl
  | _ :: _, [] => rfl
  | x :: xs, y :: ys => by
    show PyData.eqvAll (.int (x : Int) :: dn xs) (.int (y : Int) :: dn ys) = _
    rw [PyData.eqvAll, eqvAll_dn xs ys]
    by_cases c : x = y
    · subst c
      by_cases c2 : xs = ys
      · subst c2
        simp [PyData.eqv]
      · simp [PyData.eqv, c2]
    · have : ¬ ((x : Int) = (y : Int)) := fun z => c (by omega)
      simp [PyData.eqv, c, this]
theorem eqv_dtt (a b : List Nat) : PyData.eqv (.tuple (dn a)) (.tuple (dn b)) = decide (a = b) := by
  rw [PyData.eqv]
  exact eqvAll_dn a b
theorem eqv_dll (a b : List Nat) : PyData.eqv (.list (dn a)) (.list (dn b)) = decide (a = b) := by
  rw [PyData.eqv]
  exact eqvAll_dn a b
/-! ### members -/
theorem flat_ni (ns : List Nat) : (ni ns).all flatV = true := List.all_eq_true.mpr fun v h => by
  obtain ⟨n, _, rfl⟩ := ni_mem h
  rfl
theorem inV_ni (n : Nat) (ns : List Nat) : inV (.int (n : Int)) (ni ns) = decide (n ∈ ns) := by
  unfold inV ni
  rw [List.any_map]
  rw [Bool.eq_iff_iff]
  simp only [List.any_eq_true, Function.comp, eqV, beq_iff_eq, decide_eq_true_eq]
  exact ⟨fun ⟨m, hm, e⟩ => by
    have : m = n := by omega
    exact this ▸ hm, fun h => ⟨n, h, rfl⟩⟩
end Vk
namespace Vk
/-! ### nodes above one another -/
def cstep (s : List Nat × Nat) : List Nat × Nat := if 1 < s.2 then (s.1 ++ [s.2 / 2], s.2 / 2) else s
def citer : Nat → List Nat × Nat → List Nat × Nat
  | 0, s => s
  | n + 1, s => cstep (citer n s)
def chain (v : Nat) : List Nat := (citer 4 ([v], v)).1
def un (v t : Nat) : Bool := decide (t ∈ chain v)
def red (t : Nat) : Nat → Nat → Nat
  | 0, n => n
  | f + 1, n => if t < n then red t f (n / 2) else n
theorem red_un : ∀ v < 32, ∀ t < 32, 1 ≤ v → 1 ≤ t → decide (red t 6 v = t) = un v t := by decide +kernel
theorem red_step : ∀ n < 32, ∀ t < 32, 1 ≤ t → t < n → red t 6 (n / 2) = red t 6 n := by decide +kernel
theorem red_end : ∀ n < 32, ∀ t < 32, ¬ t < n → red t 6 n = n := by decide +kernel
theorem citer_len : ∀ v < 32, ∀ k < 5, (citer k ([v], v)).1.length ≤ 5 := by decide +kernel
theorem citer_pos : ∀ v < 32, 1 ≤ v → ∀ k < 5, 1 ≤ (citer k ([v], v)).2 ∧ (citer k ([v], v)).2 < 32 := by decide +kernel
theorem chain_len : ∀ v < 32, (chain v).length ≤ 5 := by decide +kernel
end Vk
namespace K25
open PySem L2 Vk
def topS (i : Nat) : Stmt := PySem.Challenge.pw_stillinstep_k25_nodes_and_seats.main.body.getD i (.Pass ⟨0, 0, 0, 0⟩)
abbrev s_depth_of : Stmt := topS 1
abbrev N_depth_of : List Str := ["node"]
abbrev P_depth_of : List Str := ["node"]
theorem sc_depth_of : FnScope N_depth_of P_depth_of (defScope s_depth_of) := ⟨rfl, rfl, rfl, by decide +kernel, rfl, by decide +kernel, by decide +kernel⟩
abbrev s_is_under : Stmt := topS 2
abbrev N_is_under : List Str := ["node", "top"]
abbrev P_is_under : List Str := ["node", "top"]
theorem sc_is_under : FnScope N_is_under P_is_under (defScope s_is_under) := ⟨rfl, rfl, rfl, by decide +kernel, rfl, by decide +kernel, by decide +kernel⟩
abbrev s_leaning_child : Stmt := topS 10
abbrev N_leaning_child : List Str := ["crew", "worker", "node"]
abbrev P_leaning_child : List Str := ["crew", "worker", "node"]
theorem sc_leaning_child : FnScope N_leaning_child P_leaning_child (defScope s_leaning_child) := ⟨rfl, rfl, rfl, by decide +kernel, rfl, by decide +kernel, by decide +kernel⟩
abbrev s_seat_node : Stmt := topS 11
abbrev N_seat_node : List Str := ["crew", "worker"]
abbrev P_seat_node : List Str := ["crew", "worker"]
theorem sc_seat_node : FnScope N_seat_node P_seat_node (defScope s_seat_node) := ⟨rfl, rfl, rfl, by decide +kernel, rfl, by decide +kernel, by decide +kernel⟩
abbrev s_seated : Stmt := topS 12
abbrev N_seated : List Str := ["crew", "node", "worker"]
abbrev P_seated : List Str := ["crew", "node"]
theorem sc_seated : FnScope N_seated P_seated (defScope s_seated) := ⟨rfl, rfl, rfl, by decide +kernel, rfl, by decide +kernel, by decide +kernel⟩
abbrev s_unseated_nodes : Stmt := topS 13
abbrev N_unseated_nodes : List Str := ["crew", "node"]
abbrev P_unseated_nodes : List Str := ["crew"]
theorem sc_unseated_nodes : FnScope N_unseated_nodes P_unseated_nodes (defScope s_unseated_nodes) := ⟨rfl, rfl, rfl, by decide +kernel, rfl, by decide +kernel, by decide +kernel⟩
abbrev s_is_height : Stmt := topS 14
abbrev N_is_height : List Str := ["height"]
abbrev P_is_height : List Str := ["height"]
theorem sc_is_height : FnScope N_is_height P_is_height (defScope s_is_height) := ⟨rfl, rfl, rfl, by decide +kernel, rfl, by decide +kernel, by decide +kernel⟩
abbrev s_are_seats : Stmt := topS 15
abbrev N_are_seats : List Str := ["seats", "leaves", "seat"]
abbrev P_are_seats : List Str := ["seats", "leaves"]
theorem sc_are_seats : FnScope N_are_seats P_are_seats (defScope s_are_seats) := ⟨rfl, rfl, rfl, by decide +kernel, rfl, by decide +kernel, by decide +kernel⟩
abbrev s_are_leanings : Stmt := topS 16
abbrev N_are_leanings : List Str := ["row", "leaves", "leaning"]
abbrev P_are_leanings : List Str := ["row", "leaves"]
theorem sc_are_leanings : FnScope N_are_leanings P_are_leanings (defScope s_are_leanings) := ⟨rfl, rfl, rfl, by decide +kernel, rfl, by decide +kernel, by decide +kernel⟩
abbrev s_law_whole : Stmt := topS 18
abbrev N_law_whole : List Str := ["value"]
abbrev P_law_whole : List Str := ["value"]
theorem sc_law_whole : FnScope N_law_whole P_law_whole (defScope s_law_whole) := ⟨rfl, rfl, rfl, by decide +kernel, rfl, by decide +kernel, by decide +kernel⟩
abbrev s_law_cell : Stmt := topS 19
abbrev N_law_cell : List Str := ["script", "k", "seed", "cell"]
abbrev P_law_cell : List Str := ["script", "k"]
theorem sc_law_cell : FnScope N_law_cell P_law_cell (defScope s_law_cell) := ⟨rfl, rfl, rfl, by decide +kernel, rfl, by decide +kernel, by decide +kernel⟩
abbrev s_law_feed : Stmt := topS 20
abbrev N_law_feed : List Str := ["cell", "rest"]
abbrev P_law_feed : List Str := ["cell"]
theorem sc_law_feed : FnScope N_law_feed P_law_feed (defScope s_law_feed) := ⟨rfl, rfl, rfl, by decide +kernel, rfl, by decide +kernel, by decide +kernel⟩
abbrev s_law_take : Stmt := topS 21
abbrev N_law_take : List Str := ["feed", "size", "digit", "twice"]
abbrev P_law_take : List Str := ["feed", "size"]
theorem sc_law_take : FnScope N_law_take P_law_take (defScope s_law_take) := ⟨rfl, rfl, rfl, by decide +kernel, rfl, by decide +kernel, by decide +kernel⟩
abbrev s_law_crew : Stmt := topS 22
abbrev N_law_crew : List Str := ["feed", "tallest", "upto", "height", "count", "leaves", "kind", "seats", "leanings", "k", "sort", "j"]
abbrev P_law_crew : List Str := ["feed", "tallest", "upto"]
theorem sc_law_crew : FnScope N_law_crew P_law_crew (defScope s_law_crew) := ⟨rfl, rfl, rfl, by decide +kernel, rfl, by decide +kernel, by decide +kernel⟩
abbrev s_law_rows : Stmt := topS 23
abbrev N_law_rows : List Str := ["cell", "feed", "upto"]
abbrev P_law_rows : List Str := ["cell"]
theorem sc_law_rows : FnScope N_law_rows P_law_rows (defScope s_law_rows) := ⟨rfl, rfl, rfl, by decide +kernel, rfl, by decide +kernel, by decide +kernel⟩
abbrev s_law_made : Stmt := topS 24
abbrev N_law_made : List Str := ["rows", "shape", "places", "tries", "row", "team", "k"]
abbrev P_law_made : List Str := ["rows", "shape"]
theorem sc_law_made : FnScope N_law_made P_law_made (defScope s_law_made) := ⟨rfl, rfl, rfl, by decide +kernel, rfl, by decide +kernel, by decide +kernel⟩
abbrev s_law_above : Stmt := topS 25
abbrev N_law_above : List Str := ["v", "chain", "rest", "k"]
abbrev P_law_above : List Str := ["v"]
theorem sc_law_above : FnScope N_law_above P_law_above (defScope s_law_above) := ⟨rfl, rfl, rfl, by decide +kernel, rfl, by decide +kernel, by decide +kernel⟩
abbrev s_law_is_row : Stmt := topS 26
abbrev N_law_is_row : List Str := ["actual", "due", "value"]
abbrev P_law_is_row : List Str := ["actual", "due"]
theorem sc_law_is_row : FnScope N_law_is_row P_law_is_row (defScope s_law_is_row) := ⟨rfl, rfl, rfl, by decide +kernel, rfl, by decide +kernel, by decide +kernel⟩
abbrev s_law_tree_holds : Stmt := topS 27
abbrev N_law_tree_holds : List Str := ["leaves", "named", "v", "chain", "deep", "high", "told"]
abbrev P_law_tree_holds : List Str := ["leaves", "named"]
theorem sc_law_tree_holds : FnScope N_law_tree_holds P_law_tree_holds (defScope s_law_tree_holds) := ⟨rfl, rfl, rfl, by decide +kernel, rfl, by decide +kernel, by decide +kernel⟩
abbrev s_law_seats_hold : Stmt := topS 28
abbrev N_law_seats_hold : List Str := ["team", "rows", "named", "leaves", "chains", "seat", "empty", "v", "due", "k", "told"]
abbrev P_law_seats_hold : List Str := ["team", "rows", "named"]
theorem sc_law_seats_hold : FnScope N_law_seats_hold P_law_seats_hold (defScope s_law_seats_hold) := ⟨rfl, rfl, rfl, by decide +kernel, rfl, by decide +kernel, by decide +kernel⟩
abbrev s_law_leanings_hold : Stmt := topS 29
abbrev N_law_leanings_hold : List Str := ["team", "rows", "named", "who", "v", "child"]
abbrev P_law_leanings_hold : List Str := ["team", "rows", "named"]
theorem sc_law_leanings_hold : FnScope N_law_leanings_hold P_law_leanings_hold (defScope s_law_leanings_hold) := ⟨rfl, rfl, rfl, by decide +kernel, rfl, by decide +kernel, by decide +kernel⟩
abbrev s_law : Stmt := topS 30
abbrev N_law : List Str := ["script", "one", "two", "shape", "left", "right", "leaves", "named"]
abbrev P_law : List Str := ["script"]
theorem sc_law : FnScope N_law P_law (defScope s_law) := ⟨rfl, rfl, rfl, by decide +kernel, rfl, by decide +kernel, by decide +kernel⟩
abbrev s_Crew_init : Stmt := inClass (topS 9) 0
abbrev N_Crew_init : List Str := ["self", "height", "seats", "leanings", "leaves", "row"]
abbrev P_Crew_init : List Str := ["self", "height", "seats", "leanings"]
theorem sc_Crew_init : FnScope N_Crew_init P_Crew_init (defScope s_Crew_init) := ⟨rfl, rfl, rfl, by decide +kernel, rfl, by decide +kernel, by decide +kernel⟩
abbrev s_Crew_eq : Stmt := inClass (topS 9) 1
abbrev N_Crew_eq : List Str := ["self", "other"]
abbrev P_Crew_eq : List Str := ["self", "other"]
theorem sc_Crew_eq : FnScope N_Crew_eq P_Crew_eq (defScope s_Crew_eq) := ⟨rfl, rfl, rfl, by decide +kernel, rfl, by decide +kernel, by decide +kernel⟩
abbrev s_Crew_workers : Stmt := inClass (topS 9) 2
abbrev N_Crew_workers : List Str := ["self"]
abbrev P_Crew_workers : List Str := ["self"]
theorem sc_Crew_workers : FnScope N_Crew_workers P_Crew_workers (defScope s_Crew_workers) := ⟨rfl, rfl, rfl, by decide +kernel, rfl, by decide +kernel, by decide +kernel⟩
abbrev s_Crew_leaves : Stmt := inClass (topS 9) 3
abbrev N_Crew_leaves : List Str := ["self"]
abbrev P_Crew_leaves : List Str := ["self"]
theorem sc_Crew_leaves : FnScope N_Crew_leaves P_Crew_leaves (defScope s_Crew_leaves) := ⟨rfl, rfl, rfl, by decide +kernel, rfl, by decide +kernel, by decide +kernel⟩
def kg_depth_of_kw_node {α : Type} : List α → List α → List α
  | [], [x0] => [x0]
  | _, _ => []
theorem kb_depth_of_kw_node {K : PySem.W.Frag} {f : Addr} {fd : FuncData} (F : Fun K "depth_of" "depth_of" s_depth_of f fd) : KBinds K fd P_depth_of ["node"] kg_depth_of_kw_node kg_depth_of_kw_node := by
  obtain ⟨oc, od, kV, doc, pm, an, cdv, ct, osl, rfl, lk, hcd⟩ := F.ex
  refine ⟨fun s us ws _ hl => ?_, fun {vs us zs ws} ra r0 => ?_⟩
  · match us, ws, hl with
    | [], [x0], _ => exact .of_eq rfl
  · cases ra with
    | cons _ _ =>
      cases r0 <;> exact .nil
    | nil =>
      cases r0 with
      | nil => exact .nil
      | cons y0 r1 =>
        cases r1 with
        | nil => exact (.cons y0 .nil)
        | cons _ _ => exact .nil

def kg_is_under_kw_top_node {α : Type} : List α → List α → List α
  | [], [x0, x1] => [x1, x0]
  | _, _ => []
theorem kb_is_under_kw_top_node {K : PySem.W.Frag} {f : Addr} {fd : FuncData} (F : Fun K "is_under" "is_under" s_is_under f fd) : KBinds K fd P_is_under ["top", "node"] kg_is_under_kw_top_node kg_is_under_kw_top_node := by
  obtain ⟨oc, od, kV, doc, pm, an, cdv, ct, osl, rfl, lk, hcd⟩ := F.ex
  refine ⟨fun s us ws _ hl => ?_, fun {vs us zs ws} ra r0 => ?_⟩
  · match us, ws, hl with
    | [], [x0, x1], _ => exact .of_eq rfl
  · cases ra with
    | cons _ _ =>
      cases r0 <;> exact .nil
    | nil =>
      cases r0 with
      | nil => exact .nil
      | cons y0 r1 =>
        cases r1 with
        | nil => exact .nil
        | cons y1 r2 =>
          cases r2 with
          | nil => exact (.cons y1 (.cons y0 .nil))
          | cons _ _ => exact .nil

def kg_seated_kw_node_crew {α : Type} : List α → List α → List α
  | [], [x0, x1] => [x1, x0]
  | _, _ => []
theorem kb_seated_kw_node_crew {K : PySem.W.Frag} {f : Addr} {fd : FuncData} (F : Fun K "seated" "seated" s_seated f fd) : KBinds K fd P_seated ["node", "crew"] kg_seated_kw_node_crew kg_seated_kw_node_crew := by
  obtain ⟨oc, od, kV, doc, pm, an, cdv, ct, osl, rfl, lk, hcd⟩ := F.ex
  refine ⟨fun s us ws _ hl => ?_, fun {vs us zs ws} ra r0 => ?_⟩
  · match us, ws, hl with
    | [], [x0, x1], _ => exact .of_eq rfl
  · cases ra with
    | cons _ _ =>
      cases r0 <;> exact .nil
    | nil =>
      cases r0 with
      | nil => exact .nil
      | cons y0 r1 =>
        cases r1 with
        | nil => exact .nil
        | cons y1 r2 =>
          cases r2 with
          | nil => exact (.cons y1 (.cons y0 .nil))
          | cons _ _ => exact .nil

def kg_unseated_nodes_kw_crew {α : Type} : List α → List α → List α
  | [], [x0] => [x0]
  | _, _ => []
theorem kb_unseated_nodes_kw_crew {K : PySem.W.Frag} {f : Addr} {fd : FuncData} (F : Fun K "unseated_nodes" "unseated_nodes" s_unseated_nodes f fd) : KBinds K fd P_unseated_nodes ["crew"] kg_unseated_nodes_kw_crew kg_unseated_nodes_kw_crew := by
  obtain ⟨oc, od, kV, doc, pm, an, cdv, ct, osl, rfl, lk, hcd⟩ := F.ex
  refine ⟨fun s us ws _ hl => ?_, fun {vs us zs ws} ra r0 => ?_⟩
  · match us, ws, hl with
    | [], [x0], _ => exact .of_eq rfl
  · cases ra with
    | cons _ _ =>
      cases r0 <;> exact .nil
    | nil =>
      cases r0 with
      | nil => exact .nil
      | cons y0 r1 =>
        cases r1 with
        | nil => exact (.cons y0 .nil)
        | cons _ _ => exact .nil

def kg_leaning_child_kw_node_worker_crew {α : Type} : List α → List α → List α
  | [], [x0, x1, x2] => [x2, x1, x0]
  | _, _ => []
theorem kb_leaning_child_kw_node_worker_crew {K : PySem.W.Frag} {f : Addr} {fd : FuncData} (F : Fun K "leaning_child" "leaning_child" s_leaning_child f fd) : KBinds K fd P_leaning_child ["node", "worker", "crew"] kg_leaning_child_kw_node_worker_crew kg_leaning_child_kw_node_worker_crew := by
  obtain ⟨oc, od, kV, doc, pm, an, cdv, ct, osl, rfl, lk, hcd⟩ := F.ex
  refine ⟨fun s us ws _ hl => ?_, fun {vs us zs ws} ra r0 => ?_⟩
  · match us, ws, hl with
    | [], [x0, x1, x2], _ => exact .of_eq rfl
  · cases ra with
    | cons _ _ =>
      cases r0 <;> exact .nil
    | nil =>
      cases r0 with
      | nil => exact .nil
      | cons y0 r1 =>
        cases r1 with
        | nil => exact .nil
        | cons y1 r2 =>
          cases r2 with
          | nil => exact .nil
          | cons y2 r3 =>
            cases r3 with
            | nil => exact (.cons y2 (.cons y1 (.cons y0 .nil)))
            | cons _ _ => exact .nil

end K25
namespace K25
open PySem L2 Vk
/-! ### the crew: data, and an object that holds it -/
structure Rows where
  h : Nat
  seats : List Nat
  lean : List (List Nat)
def Rows.N (r : Rows) : Nat := 2 ^ r.h
structure Rows.ok (r : Rows) : Prop where
  h1 : 1 ≤ r.h
  h4 : r.h ≤ 4
  s1 : 1 ≤ r.seats.length
  s16 : r.seats.length ≤ 16
  sN : ∀ s ∈ r.seats, s < r.N
  ll : r.lean.length = r.seats.length
  rl : ∀ row ∈ r.lean, row.length = r.N - 1
  r1 : ∀ row ∈ r.lean, ∀ x ∈ row, x ≤ 1
theorem Rows.ok.pow {r : Rows} (k : r.ok) : r.N = 2 ∨ r.N = 4 ∨ r.N = 8 ∨ r.N = 16 := by
  have h1 := k.h1
  have h4 := k.h4
  unfold Rows.N
  have : r.h = 1 ∨ r.h = 2 ∨ r.h = 3 ∨ r.h = 4 := by omega
  rcases this with e | e | e | e <;> rw [e] <;> simp
def cf (h : Nat) (sa la : Addr) : List (Str × V) := putF "leanings" (.ref la) (putF "seats" (.ref sa) (putF "height" (.int (h : Int)) []))
theorem n_hs : ¬ (("height" : Str) = "seats") := by decide +kernel
theorem n_hl : ¬ (("height" : Str) = "leanings") := by decide +kernel
theorem n_sl : ¬ (("seats" : Str) = "leanings") := by decide +kernel
theorem cf_h (h : Nat) (sa la : Addr) : (cf h sa la).lookup ("height" : Str) = some (.int (h : Int)) := by
  unfold cf
  rw [lookup_putF, if_neg n_hl, lookup_putF, if_neg n_hs, lookup_putF, if_pos rfl]
theorem cf_s (h : Nat) (sa la : Addr) : (cf h sa la).lookup ("seats" : Str) = some (.ref sa) := by
  unfold cf
  rw [lookup_putF, if_neg n_sl, lookup_putF, if_pos rfl]
theorem cf_l (h : Nat) (sa la : Addr) : (cf h sa la).lookup ("leanings" : Str) = some (.ref la) := by
  unfold cf
  rw [lookup_putF, if_pos rfl]
structure CrewAt (K : PySem.W.Frag) (C : Addr) (H : Hp) (p : Addr) (r : Rows) (sa la : Addr) (as : List Addr) : Prop where
  ob : ∃ dx, H p = some (.ins C dx (cf r.h sa la))
  se : SqT K H sa (ni r.seats)
  le : SqT K H la (rf as)
  ro : LL (fun a row => SqT K H a (ni row)) as r.lean
def Crw (K : PySem.W.Frag) (C : Addr) (H : Hp) (p : Addr) (r : Rows) : Prop := ∃ sa la as, CrewAt K C H p r sa la as
theorem Crw.same {K : PySem.W.Frag} {C p : Addr} {H H' : Hp} {r : Rows} (h : Crw K C H p r) (s : Same H H') : Crw K C H' p r := by
  obtain ⟨sa, la, as, ⟨dx, o⟩, a, b, c⟩ := h
  exact ⟨sa, la, as, ⟨dx, s _ _ o⟩, Vk.Same.tup s a, Vk.Same.tup s b, c.mono fun _ _ q => Vk.Same.tup s q⟩
theorem Crw.updL {K : PySem.W.Frag} {C p b : Addr} {H : Hp} {r : Rows} {ys : List V} {o : HO} (h : Crw K C H p r) (e : H b = some (.lst ys)) : Crw K C (upd H b o) p r := by
  obtain ⟨sa, la, as, ⟨dx, q⟩, a, c, d⟩ := h
  exact ⟨sa, la, as, ⟨dx, ins_updL q e⟩, Vk.SqT.updL a e, Vk.SqT.updL c e, d.mono fun _ _ q => Vk.SqT.updL q e⟩
theorem Crw.stp {K : PySem.W.Frag} {C p a : Addr} {H H' : Hp} {r : Rows} (h : Crw K C H p r) (hF : Fd H a) (s : Stp a H H') : Crw K C H' p r := by
  obtain ⟨sa, la, as, ⟨dx, q⟩, b, c, d⟩ := h
  obtain ⟨x, y, z, e⟩ := id hF
  exact ⟨sa, la, as, ⟨dx, s.1 _ _ (ne_of q e (by intro z; cases z)) q⟩, Stp.tup hF s b, Stp.tup hF s c, d.mono fun _ _ q => Stp.tup hF s q⟩
/-- what the top has written of the class -/
structure CT (K : PySem.W.Frag) (C : Addr) : Prop where
  cl : Cls K C
  nh : NoAttr K C "height"
  ns : NoAttr K C "seats"
  nl : NoAttr K C "leanings"
/-- rows: a list of the height, the seats, the leanings, lists -/
structure RowsAt (H : Hp) (p : Addr) (r : Rows) (sa la : Addr) (as : List Addr) : Prop where
  ob : H p = some (.lst [.int (r.h : Int), .ref sa, .ref la])
  se : H sa = some (.lst (ni r.seats))
  le : H la = some (.lst (rf as))
  ro : LL (fun a row => H a = some (.lst (ni row))) as r.lean
def Rws (H : Hp) (p : Addr) (r : Rows) : Prop := ∃ sa la as, RowsAt H p r sa la as
theorem Rws.same {p : Addr} {H H' : Hp} {r : Rows} (h : Rws H p r) (s : Same H H') : Rws H' p r := by
  obtain ⟨sa, la, as, a, b, c, d⟩ := h
  exact ⟨sa, la, as, s _ _ a, s _ _ b, s _ _ c, d.mono fun _ _ q => s _ _ q⟩
def spInit (K : PySem.W.Frag) (C : Addr) : Sp := fun vs H Q _ => ∃ (p dx : Addr) (r : Rows) (sa la : Addr) (as : List Addr), vs = [.ref p, .int (r.h : Int), .ref sa, .ref la] ∧ H p = some (.ins C dx []) ∧ r.ok ∧
  Sq K H sa (ni r.seats) ∧ Sq K H la (rf as) ∧ LL (fun a row => Sq K H a (ni row)) as r.lean ∧ ∀ H', (∀ b o, b ≠ p → H b = some o → H' b = some o) → Crw K C H' p r → Q .non H'
def spIsH : Sp := fun vs H Q _ => ∃ (h : Nat), vs = [.int (h : Int)] ∧ 1 ≤ h ∧ h ≤ 4 ∧ Q (.bl true) H
def spAreS (K : PySem.W.Frag) : Sp := fun vs H Q _ => ∃ (sa : Addr) (ns : List Nat) (n : Nat), vs = [.ref sa, .int (n : Int)] ∧ Sq K H sa (ni ns) ∧ 1 ≤ ns.length ∧ ns.length ≤ 16 ∧ (∀ s ∈ ns, s < n) ∧ ∀ H', Same H H' → Q (.bl true) H'
def spAreL (K : PySem.W.Frag) : Sp := fun vs H Q _ => ∃ (a : Addr) (ns : List Nat) (n : Nat), vs = [.ref a, .int (n : Int)] ∧ Sq K H a (ni ns) ∧ ns.length + 1 = n ∧ n ≤ 16 ∧ (∀ s ∈ ns, s ≤ 1) ∧ ∀ H', Same H H' → Q (.bl true) H'
def spLeaves (K : PySem.W.Frag) (C : Addr) : Sp := fun vs H Q _ => ∃ (p : Addr) (r : Rows), vs = [.ref p] ∧ Crw K C H p r ∧ r.ok ∧ Q (.int (r.N : Int)) H
def spWorkers (K : PySem.W.Frag) (C : Addr) : Sp := fun vs H Q _ => ∃ (p : Addr) (r : Rows), vs = [.ref p] ∧ Crw K C H p r ∧ r.ok ∧ Q (.int (r.seats.length : Int)) H
def spChild (K : PySem.W.Frag) (C : Addr) : Sp := fun vs H Q _ => ∃ (p : Addr) (r : Rows) (w v : Nat) (row : List Nat) (x : Nat), vs = [.ref p, .int (w : Int), .int ((v + 1 : Nat) : Int)] ∧ Crw K C H p r ∧ r.ok ∧ r.lean[w]? = some row ∧ row[v]? = some x ∧ Q (.int ((2 * (v + 1) + x : Nat) : Int)) H
def spSeat (K : PySem.W.Frag) (C : Addr) : Sp := fun vs H Q _ => ∃ (p : Addr) (r : Rows) (w s : Nat), vs = [.ref p, .int (w : Int)] ∧ Crw K C H p r ∧ r.ok ∧ r.seats[w]? = some s ∧ Q (.int ((r.N + s : Nat) : Int)) H
section
variable {P : Program} {w : World} {K : PySem.W.Frag} {mg : Str → Option Value} {base : Heap}
theorem ok_is_height {f : Addr} {fd : FuncData} {k : Nat} (F : Fun K "_is_height" "_is_height" s_is_height f fd) {tMOST_HEIGHT : Tok} (mMOST_HEIGHT : mg "MOST_HEIGHT" = some (.int 4 tMOST_HEIGHT)) : FnOk P w K mg base CX0 (k + 1) f fd P_is_height spIsH := by
  refine F.ok sc_is_height (fun vs H Q E h => ?_) (fun cdv A outer s H vs Q E hr h => ?_)
  · obtain ⟨n, rfl, _⟩ := h
    rfl
  obtain ⟨n, rfl, h1, h4, q⟩ := h
  refine ⟨_, (pss_one (ps_ret (pe_chain op_le op_le pe_int (pv 0) (pe_glob (v := .int 4) (by rfl) mMOST_HEIGHT ⟨_, rfl⟩)))), ?_⟩
  refine ⟨_, rfl, _, _, rfl, rfl, _, rfl, itT (by omega) ⟨_, _, rfl, rfl, bT (Q := Q) (by omega) q⟩⟩
theorem ok_are_seats {f : Addr} {fd : FuncData} {k : Nat} (F : Fun K "_are_seats" "_are_seats" s_are_seats f fd) (mall : mg "all" = none) (mlen : mg "len" = none) {tMOST_WORKERS : Tok} (mMOST_WORKERS : mg "MOST_WORKERS" = some (.int 16 tMOST_WORKERS)) : FnOk P w K mg base CX0 (k + 1) f fd P_are_seats (spAreS K) := by
  refine F.ok sc_are_seats (fun vs H Q E h => ?_) (fun cdv A outer s H vs Q E hr h => ?_)
  · obtain ⟨sa, ns, n, rfl, _⟩ := h
    rfl
  obtain ⟨sa, ns, n, rfl, hS, h1, h16, hN, q⟩ := h
  refine ⟨_, (pss_one (ps_ret (pe_and (pe_chain op_le op_le pe_int (pe_callB (r := rLenS K) call_lenK (by rfl) mlen (by decide +kernel) (pa_cons (pv 0) pa_nil)) (pe_glob (v := .int 16) (by rfl) mMOST_WORKERS ⟨_, rfl⟩)) (pe_one (pe_callB (r := rAll K) (cr_all rfl) (by rfl) mall (by decide +kernel) (pa_cons (pe_lc (own := [("seat", 2)]) (g := (gName 2)) (tt := tYes) rfl sc_are_seats.nd (pi_seq (pv 0)) (blkOk_by (N := N_are_seats) (sc := defScope s_are_seats) (by decide +kernel)) (fun _ _ _ _ _ => (pg_name (i := 2) sc_are_seats.nd rfl (Or.inl rfl))) (fun _ _ _ _ _ => pts_nil) (fun _ _ _ _ _ => (pe_chain op_le op_lt pe_int (pv 2) (pv 1)))) pa_nil)))))), ?_⟩
  have hS2 : Sq K H sa (ni ns) := hS
  refine ⟨_, rfl, _, _, rfl, hS, _, _, rfl, rfl, _, rfl, itT (by rw [ni_len]; omega) ⟨_, _, rfl, rfl, _, rfl, itT (by rw [ni_len]; omega) ?_⟩⟩
  refine all_sq rfl hS2 (by rw [ni_len]; omega) (fun k x H1 Qe hx s qe => ?_) q
  obtain ⟨m, hm, rfl⟩ := ni_at hx
  have hb := hN m (mem_of_get hm)
  refine ⟨_, rfl, _, _, rfl, rfl, _, rfl, itT (by omega) ⟨_, rfl, _, _, rfl, rfl, bT (Q := Qe) (by omega) (qe _ fun _ _ z => z)⟩⟩
theorem ok_are_leanings {f : Addr} {fd : FuncData} {k : Nat} (F : Fun K "_are_leanings" "_are_leanings" s_are_leanings f fd) (mall : mg "all" = none) (mlen : mg "len" = none) : FnOk P w K mg base CX0 (k + 1) f fd P_are_leanings (spAreL K) := by
  refine F.ok sc_are_leanings (fun vs H Q E h => ?_) (fun cdv A outer s H vs Q E hr h => ?_)
  · obtain ⟨a, ns, n, rfl, _⟩ := h
    rfl
  obtain ⟨a, ns, n, rfl, hS, hl, h16, hN, q⟩ := h
  refine ⟨_, (pss_one (ps_ret (pe_and (pe_cmpR op_eq (pe_callB (r := rLenS K) call_lenK (by rfl) mlen (by decide +kernel) (pa_cons (pv 0) pa_nil)) (pe_op op_sub (pv 1) pe_int) (nomark _)) (pe_one (pe_callB (r := rAll K) (cr_all rfl) (by rfl) mall (by decide +kernel) (pa_cons (pe_lc (own := [("leaning", 2)]) (g := (gName 2)) (tt := tYes) rfl sc_are_leanings.nd (pi_seq (pv 0)) (blkOk_by (N := N_are_leanings) (sc := defScope s_are_leanings) (by decide +kernel)) (fun _ _ _ _ _ => (pg_name (i := 2) sc_are_leanings.nd rfl (Or.inl rfl))) (fun _ _ _ _ _ => pts_nil) (fun _ _ _ _ _ => (pe_cmpR (r := rIn K false) op_in_seq (pv 2) (pe_tup (pa_cons pe_int (pa_cons pe_int pa_nil))) (by rfl)))) pa_nil)))))), ?_⟩
  have hS2 : Sq K H a (ni ns) := hS
  refine ⟨_, rfl, _, _, rfl, hS, _, rfl, _, _, rfl, rfl, rfl, _, rfl, itT (by rw [ni_len]; exact congrArg V.int (by omega)) ?_⟩
  refine all_sq rfl hS2 (by rw [ni_len]; omega) (fun k x H1 Qe hx s qe => ?_) q
  obtain ⟨m, hm, rfl⟩ := ni_at hx
  have hb := hN m (mem_of_get hm)
  refine ⟨_, rfl, (by show 2 ≤ sizeLine; decide), fun t ht => ⟨t, _, rfl, .inr (SqT.of upd_same), rfl, rfl, ?_⟩⟩
  have e : (if false = true then !inV (.int (m : Int)) [V.int 0, V.int 1] else inV (.int (m : Int)) [V.int 0, V.int 1]) = true := by
    have : m = 0 ∨ m = 1 := by omega
    rcases this with rfl | rfl <;> rfl
  exact bE (Q := Qe) e (qe _ (same_new ht _))
theorem pow_sh (h : Nat) : (1 : Int) * 2 ^ (h : Int).toNat = ((2 ^ h : Nat) : Int) := by
  rw [Int.one_mul, Int.toNat_natCast, Int.natCast_pow]
  rfl
theorem ok_Crew_init {f C : Addr} {fd : FuncData} {k : Nat} (F : Fun K "__init__" "Crew.__init__" s_Crew_init f fd) (O_is_height : Ok P w K mg base k "_is_height" P_is_height spIsH) (O_are_seats : Ok P w K mg base k "_are_seats" P_are_seats (spAreS K)) (mall : mg "all" = none) (O_are_leanings : Ok P w K mg base k "_are_leanings" P_are_leanings (spAreL K)) (mlen : mg "len" = none) (mtuple : mg "tuple" = none) (T : CT K C) : FnOk P w K mg base CX0 (k + 1) f fd P_Crew_init (spInit K C) := by
  refine F.ok sc_Crew_init (fun vs H Q E h => ?_) (fun cdv A outer s H vs Q E hr h => ?_)
  · obtain ⟨p, dx, r, sa, la, as, rfl, _⟩ := h
    rfl
  obtain ⟨p, dx, r, sa, la, as, rfl, hp, k, hS, hL, hR, q⟩ := h
  refine ⟨_, (pss_cons (ps_if (pt_not (pt_val (pe_c O_is_height hr (by rfl) (pa_cons (pv 1) pa_nil))))
      (pss_one ps_never)
      pss_nil)
    (pss_cons (ps_set (i := 4) sc_Crew_init.nd rfl (Or.inr rfl) (pe_op op_shl pe_int (pv 1)))
    (pss_cons (ps_if (pt_not (pt_val (pe_c O_are_seats hr (by rfl) (pa_cons (pv 2) (pa_cons (pv 4) pa_nil)))))
      (pss_one ps_never)
      pss_nil)
    (pss_cons (ps_if (PW.pt (pw_or (pt_cmpR op_ne (pe_callB (r := rLenS K) call_lenK (by rfl) mlen (by decide +kernel) (pa_cons (pv 3) pa_nil)) (pe_callB (r := rLenS K) call_lenK (by rfl) mlen (by decide +kernel) (pa_cons (pv 2) pa_nil)) (nomark _)) (pw_or1 (pt_not (pt_val (pe_callB (r := rAll K) (cr_all rfl) (by rfl) mall (by decide +kernel) (pa_cons (pe_lc (own := [("row", 5)]) (g := (gName 5)) (tt := tYes) rfl sc_Crew_init.nd (pi_seq (pv 3)) (blkOk_by (N := N_Crew_init) (sc := defScope s_Crew_init) (by decide +kernel)) (fun _ _ _ _ _ => (pg_name (i := 5) sc_Crew_init.nd rfl (Or.inl rfl))) (fun _ _ _ _ _ => pts_nil) (fun _ _ _ _ _ => (pe_c O_are_leanings hr (by rfl) (pa_cons (pv 5) (pa_cons (pv 4) pa_nil))))) pa_nil)))))))
      (pss_one ps_never)
      pss_nil)
    (pss_cons (ps_fld (pv 0) (pv 1) rfl)
    (pss_cons (ps_fld (pv 0) (pe_callTy (r := rTupOf K) call_tupleK (by rfl) mtuple (by decide +kernel) (pa_cons (pv 2) pa_nil)) rfl)
    (pss_one (ps_fld (pv 0) (pe_callTy (r := rTupOf K) call_tupleK (by rfl) mtuple (by decide +kernel) (pa_cons (pe_lc (own := [("row", 5)]) (g := (gName 5)) (tt := tYes) rfl sc_Crew_init.nd (pi_seq (pv 3)) (blkOk_by (N := N_Crew_init) (sc := defScope s_Crew_init) (by decide +kernel)) (fun _ _ _ _ _ => (pg_name (i := 5) sc_Crew_init.nd rfl (Or.inl rfl))) (fun _ _ _ _ _ => pts_nil) (fun _ _ _ _ _ => (pe_callTy (r := rTupOf K) call_tupleK (by rfl) mtuple (by decide +kernel) (pa_cons (pv 5) pa_nil)))) pa_nil)) rfl)))))))), ?_⟩
  have hN := k.pow
  have h4 := k.h4
  refine ⟨_, rfl, _, rfl, k.h1, k.h4, _, rfl, iteF ?_⟩
  refine ⟨_, rfl, _, _, rfl, rfl, ⟨by omega, by omega, by decide⟩, ?_⟩
  show tSeq _ _ _ [some (.ref p), some (.int (r.h : Int)), some (.ref sa), some (.ref la), some (.int ((1 : Int) * 2 ^ (r.h : Int).toNat)), _] H
  rw [pow_sh]
  refine ⟨_, rfl, _, rfl, sa, r.seats, r.N, rfl, hS, k.s1, k.s16, k.sN, fun H1 s1 => ⟨_, rfl, iteF ?_⟩⟩
  refine ⟨_, rfl, _, _, rfl, hL.same s1, _, rfl, _, _, rfl, hS.same s1, rfl, _, rfl, itTn (by rw [ni_len, rf_len, hR.len, k.ll]) ?_⟩
  have nL : (rf as).length ≤ 16 := by
    rw [rf_len, hR.len, k.ll]
    exact k.s16
  refine all_sq rfl (hL.same s1) (by omega) (fun j x H2 Qe hx s2 qe => ?_) fun H2 s2 => ⟨_, rfl, iteF ?_⟩
  · obtain ⟨a, ea, rfl⟩ := rf_at hx
    obtain ⟨row, er, hq⟩ := hR.getL ea
    have l1 := k.rl row (mem_of_get er)
    exact ⟨_, rfl, _, rfl, a, row, r.N, rfl, hq.same (s1.trans s2), by omega, by omega, k.r1 row (mem_of_get er), fun H' s' => qe _ s'⟩
  have s12 := s1.trans s2
  have hp2 := s12 _ _ hp
  refine ⟨_, rfl, _, rfl, p, C, dx, _, rfl, hp2, T.cl, T.nh, (by show 0 < 1000; decide), ?_⟩
  have pS : ∀ {H0 H3 : Hp} {f1 : List (Str × V)} {o : HO}, (∀ {a xs}, Sq K H a xs → Sq K H0 a xs) → H0 p = some (.ins C dx f1) → ∀ {a : Addr} {xs : List V}, Sq K H a xs → Sq K (upd H0 p o) a xs := fun {H0 H3 f1 o} u hp {a xs} h => by
    rcases u h with h | h
    · rcases h with (h | ⟨o, h⟩) | h
      · exact .inl (.inl (.inl (upd_keep h (ne_of h hp (by intro z; cases z)))))
      · exact .inl (.inl (.inr ⟨o, upd_keep h (ne_of h hp (by intro z; cases z))⟩))
      · exact .inl (.inr h)
    · rcases h with (h | ⟨o, h⟩) | h
      · exact .inr (.inl (.inl (upd_keep h (ne_of h hp (by intro z; cases z)))))
      · exact .inr (.inl (.inr ⟨o, upd_keep h (ne_of h hp (by intro z; cases z))⟩))
      · exact .inr (.inr h)
  have p3 : ∀ {a : Addr} {xs : List V}, Sq K H a xs → Sq K (upd H2 p (.ins C dx (putF "height" (.int (r.h : Int)) []))) a xs := pS (H3 := H) (fun h => h.same s12) hp2
  refine tupOfV rfl (p3 hS) fun st H4 s4 hst => ?_
  have hp4 := s4 _ _ (upd_same (H := H2) (a := p) (o := .ins C dx (putF "height" (.int (r.h : Int)) [])))
  refine ⟨_, rfl, p, C, dx, _, rfl, hp4, T.cl, T.ns, (by show 1 < 1000; decide), ?_⟩
  have tS : ∀ {H0 : Hp} {f1 : List (Str × V)} {o : HO} {a : Addr} {xs : List V}, SqT K H0 a xs → H0 p = some (.ins C dx f1) → SqT K (upd H0 p o) a xs := fun {H0 f1 o a xs} h hp => by
    rcases h with (h | ⟨o, h⟩) | h
    · exact .inl (.inl (upd_keep h (ne_of h hp (by intro z; cases z))))
    · exact .inl (.inr ⟨o, upd_keep h (ne_of h hp (by intro z; cases z))⟩)
    · exact .inr h
  have p5 : ∀ {a : Addr} {xs : List V}, Sq K H a xs → Sq K (upd H4 p (.ins C dx (putF "seats" (.ref st) (putF "height" (.int (r.h : Int)) [])))) a xs := pS (H3 := H) (fun h => (p3 h).same s4) hp4
  have hst5 := tS (o := .ins C dx (putF "seats" (.ref st) (putF "height" (.int (r.h : Int)) []))) hst hp4
  dsimp only
  unfold sFld
  refine tcb1 ?_
  refine lc_mapSq (n := r.lean.length) rfl (p5 hL) (by rw [rf_len, hR.len]) (by rw [← hR.len, ← rf_len]; omega) (fun D i y H1 => ∃ b row, y = .ref b ∧ r.lean[i]? = some row ∧ SqT K H1 b (ni row))
    (fun D i y H1 H2 _ _ t ⟨b, row, e1, e2, h⟩ => ⟨b, row, e1, e2, Vk.Same.tup t h⟩) (fun D i y H1 acc o _ e ⟨b, row, e1, e2, h⟩ => ⟨b, row, e1, e2, Vk.SqT.updL h e⟩)
    (fun D j x H6 Qe hx hD s6 _ qe => ?_) (fun D H6 ys hD s6 e hys hP => ?_)
  · obtain ⟨a, ea, rfl⟩ := rf_at hx
    obtain ⟨row, er, hq⟩ := hR.getL ea
    exact tupOfV rfl ((p5 hq).same s6) fun t H7 s7 ht => qe _ _ s7 ⟨t, row, rfl, er, ht⟩
  obtain ⟨bs, rfl, hbs⟩ := refs_of (P := fun i b => ∃ row, r.lean[i]? = some row ∧ SqT K H6 b (ni row)) ys fun i y hy => by
    obtain ⟨b, row, e1, e2, h⟩ := hP i y hy
    exact ⟨b, e1, row, e2, h⟩
  refine ⟨D, _, rfl, .inl ⟨SqL.of e, fun l hl => ?_⟩⟩
  have s7 := s6.trans (same_new hl (.tup (rf bs)))
  have hp7 := s7 _ _ (upd_same (H := H4) (a := p) (o := .ins C dx (putF "seats" (.ref st) (putF "height" (.int (r.h : Int)) []))))
  refine ⟨_, rfl, p, C, dx, _, rfl, hp7, T.cl, T.nl, (by show 2 < 1000; decide), ?_⟩
  refine q _ (fun b o nb eb => ?_) ⟨st, l, bs, ⟨dx, upd_same⟩, tS (Vk.Same.tup s7 hst5) hp7, tS (SqT.of upd_same) hp7, ⟨(rf_len bs).symm.trans hys, fun i a row ea er => ?_⟩⟩
  · rw [upd_ne nb]
    refine s7 _ _ ?_
    rw [upd_ne nb]
    refine s4 _ _ ?_
    rw [upd_ne nb]
    exact s12 _ _ eb
  · obtain ⟨row2, e2, h⟩ := hbs i a ea
    have : row2 = row := Option.some.inj (e2.symm.trans er)
    subst this
    exact tS (Vk.Same.tup (same_new hl _) h) hp7
theorem ok_Crew_workers {f C : Addr} {fd : FuncData} {k : Nat} (F : Fun K "workers" "Crew.workers" s_Crew_workers f fd) (mlen : mg "len" = none) (T : CT K C) : FnOk P w K mg base CX0 (k + 1) f fd P_Crew_workers (spWorkers K C) := by
  refine F.ok sc_Crew_workers (fun vs H Q E h => ?_) (fun cdv A outer s H vs Q E hr h => ?_)
  · obtain ⟨p, r, rfl, _⟩ := h
    rfl
  obtain ⟨p, r, rfl, hC, k, q⟩ := h
  refine ⟨_, (pss_one (ps_ret (pe_callB (r := rLenS K) call_lenK (by rfl) mlen (by decide +kernel) (pa_cons (pe_fld (pv 0) rfl) pa_nil)))), ?_⟩
  obtain ⟨sa, la, as, ⟨dx, ho⟩, hs, hl, hr⟩ := hC
  refine ⟨_, rfl, p, C, dx, _, _, rfl, ho, T.cl, T.ns, cf_s _ _ _, sa, _, rfl, .inr hs, ?_⟩
  exact iE (Q := Q) (congrArg Int.ofNat (ni_len r.seats)) q
theorem ok_Crew_leaves {f C : Addr} {fd : FuncData} {k : Nat} (F : Fun K "leaves" "Crew.leaves" s_Crew_leaves f fd) (T : CT K C) : FnOk P w K mg base CX0 (k + 1) f fd P_Crew_leaves (spLeaves K C) := by
  refine F.ok sc_Crew_leaves (fun vs H Q E h => ?_) (fun cdv A outer s H vs Q E hr h => ?_)
  · obtain ⟨p, r, rfl, _⟩ := h
    rfl
  obtain ⟨p, r, rfl, hC, k, q⟩ := h
  refine ⟨_, (pss_one (ps_ret (pe_op op_shl pe_int (pe_fld (pv 0) rfl)))), ?_⟩
  obtain ⟨sa, la, as, ⟨dx, ho⟩, hs, hl, hr⟩ := hC
  have h4 := k.h4
  refine ⟨_, rfl, p, C, dx, _, _, rfl, ho, T.cl, T.nh, cf_h _ _ _, _, _, rfl, rfl, ⟨by omega, by omega, by decide⟩, ?_⟩
  exact iE (Q := Q) (pow_sh r.h) q
theorem ok_leaning_child {f C : Addr} {fd : FuncData} {k : Nat} (F : Fun K "leaning_child" "leaning_child" s_leaning_child f fd) (T : CT K C) : FnOk P w K mg base CX0 (k + 1) f fd P_leaning_child (spChild K C) := by
  refine F.ok sc_leaning_child (fun vs H Q E h => ?_) (fun cdv A outer s H vs Q E hr h => ?_)
  · obtain ⟨p, r, w, v, row, x, rfl, _⟩ := h
    rfl
  obtain ⟨p, r, w, v, row, x, rfl, hC, k, hw, hv, q⟩ := h
  refine ⟨_, (pss_one (ps_ret (pe_op op_add (pe_op op_mul pe_int (pv 2)) (pe_ix (r := rIxT K) ix_tup (pe_ix (r := rIxT K) ix_tup (pe_fld (pv 0) rfl) (pv 1) (fun _ _ => rfl)) (pe_op op_sub (pv 2) pe_int) (fun _ _ => rfl))))), ?_⟩
  obtain ⟨sa, la, as, ⟨dx, ho⟩, hs, hl, hr⟩ := hC
  obtain ⟨a, ea, ha⟩ := hr.get hw
  refine ⟨_, rfl, _, _, rfl, rfl, .inl ⟨by omega, by omega⟩, _, rfl, p, C, dx, _, _, rfl, ho, T.cl, T.nl, cf_l _ _ _, _, rfl, _, _, _, _, rfl, rfl, hl, atI_nat (rf_get ea), _, rfl, _, _, rfl, rfl, _, _, _, _, rfl, rfl, ha, ni_atE (by omega) hv, _, _, rfl, rfl, iE (Q := Q) (by omega) q⟩
theorem ok_seat_node {f C : Addr} {fd : FuncData} {k : Nat} (F : Fun K "seat_node" "seat_node" s_seat_node f fd) (OP_leaves : OkProp P w K mg base k C "leaves" (spLeaves K C)) (T : CT K C) : FnOk P w K mg base CX0 (k + 1) f fd P_seat_node (spSeat K C) := by
  refine F.ok sc_seat_node (fun vs H Q E h => ?_) (fun cdv A outer s H vs Q E hr h => ?_)
  · obtain ⟨p, r, w, s, rfl, _⟩ := h
    rfl
  obtain ⟨p, r, w, s, rfl, hC, k, hw, q⟩ := h
  refine ⟨_, (pss_one (ps_ret (pe_op op_add (pe_p OP_leaves T.cl hr (pv 0) (by rfl)) (pe_ix (r := rIxT K) ix_tup (pe_fld (pv 0) rfl) (pv 1) (fun _ _ => rfl))))), ?_⟩
  have hC2 := hC
  obtain ⟨sa, la, as, ⟨dx, ho⟩, hs, hl, hr⟩ := hC
  refine ⟨_, rfl, p, dx, _, rfl, ho, p, r, rfl, hC2, k, _, rfl, p, C, dx, _, _, rfl, ho, T.cl, T.ns, cf_s _ _ _, _, rfl, _, _, _, _, rfl, rfl, hs, ni_atI hw, _, _, rfl, rfl, ?_⟩
  exact q
end
end K25
namespace K25
open PySem L2 Vk
section
variable {P : Program} {w : World} {K : PySem.W.Frag} {mg : Str → Option Value} {base : Heap}
theorem ok_law_take {f : Addr} {fd : FuncData} {k : Nat} (F : Fun K "_law_take" "_law_take" s_law_take f fd) (mint : mg "int" = none) : FnOk P w K mg base CX0 (k + 1) f fd P_law_take spTake := by
  refine F.ok sc_law_take (fun vs H Q E h => ?_) (fun cdv A outer s H vs Q E hr h => ?_)
  · obtain ⟨a, n, rfl, _⟩ := h
    rfl
  obtain ⟨a, n, rfl, ⟨x, y, z, e⟩, n0, n1, q⟩ := h
  refine ⟨_, (pss_cons (ps_asg (pe_op op_add (pe_ix (r := rIxL K) ix_list (pv 0) pe_int (fun _ _ => rfl)) pe_int) (pg_sub (pv 0) pe_int set_list))
    (C8.pss_cut (ps_if (PW.pt (pw_and (pt_cmpR op_eq (pe_ix (r := rIxL K) ix_list (pv 0) pe_int (fun _ _ => rfl)) pe_int (nomark _)) (pw_and1 (pt_cmpR op_eq (pe_ix (r := rIxL K) ix_list (pv 0) pe_int (fun _ _ => rfl)) pe_int (nomark _)))))
      (pss_cons (ps_asg pe_int (pg_sub (pv 0) pe_int set_list))
      (pss_one (ps_asg (pe_op op_add pe_int (pe_ix (r := rIxL K) ix_list (pv 0) pe_int (fun _ _ => rfl))) (pg_sub (pv 0) pe_int set_list))))
      pss_nil)
    (pss_cons (ps_if (pt_cmpR op_eq (pe_ix (r := rIxL K) ix_list (pv 0) pe_int (fun _ _ => rfl)) pe_int (nomark _))
      (pss_cons (ps_set (i := 2) sc_law_take.nd rfl (Or.inl rfl) (pe_op op_modN (pe_callTy call_int1 (by rfl) mint (by decide +kernel) (pa_cons (pe_ix (r := rIxL K) ix_list (pv 0) pe_int (fun _ _ => rfl)) pa_nil)) (pv 1)))
      (pss_cons (ps_asg (pe_op op_fdivN (pe_callTy call_int1 (by rfl) mint (by decide +kernel) (pa_cons (pe_ix (r := rIxL K) ix_list (pv 0) pe_int (fun _ _ => rfl)) pa_nil)) (pv 1)) (pg_sub (pv 0) pe_int set_list))
      (pss_one (ps_ret (pv 2)))))
      pss_nil)
    (pss_cons (ps_asg (pe_op op_modN (pe_callTy call_int1 (by rfl) mint (by decide +kernel) (pa_cons (pe_op op_add (pe_op op_add (pe_op op_mul (pe_ix (r := rIxL K) ix_list (pv 0) pe_int (fun _ _ => rfl)) pe_int) (pe_op op_mul pe_int (pe_ix (r := rIxL K) ix_list (pv 0) pe_int (fun _ _ => rfl)))) pe_int) pa_nil)) pe_int) (pg_sub (pv 0) pe_int set_list))
    (pss_cons (ps_set (i := 3) sc_law_take.nd rfl (Or.inl rfl) (pe_op op_modN (pe_callTy call_int1 (by rfl) mint (by decide +kernel) (pa_cons (pe_op op_mul (pe_ix (r := rIxL K) ix_list (pv 0) pe_int (fun _ _ => rfl)) (pe_op op_add (pe_op op_fdivN (pe_ix (r := rIxL K) ix_list (pv 0) pe_int (fun _ _ => rfl)) pe_int) pe_int)) pa_nil)) pe_int))
    (pss_one (ps_ret (pe_op op_modN (pe_op op_fdivN (pv 3) pe_int) (pv 1))))))))), ?_⟩
  -- feed[2] = feed[2] + 1
  refine ⟨_, rfl, _, _, _, _, rfl, rfl, SqL.of e, atI_nat (j := 2) rfl, _, _, rfl, rfl, _, rfl, _, _, _, _, rfl, rfl, e, rfl, ?_⟩
  have e1 : (upd H a (.lst [.int x, .int y, .int (z + 1)])) a = some (.lst [.int x, .int y, .int (z + 1)]) := upd_same
  have g1 : ∀ b o, b ≠ a → H b = some o → (upd H a (.lst [.int x, .int y, .int (z + 1)])) b = some o := fun b o nb eb => by rw [upd_ne nb]; exact eb
  refine ⟨fun σ' H' => ∃ x y z : Int, σ' = [some (.ref a), some (.int n), none, none] ∧ H' a = some (.lst [.int x, .int y, .int z]) ∧ (∀ b o, b ≠ a → H b = some o → H' b = some o), ?_, fun σ' H' hm => ?_⟩
  · refine ⟨_, rfl, _, _, _, _, rfl, rfl, SqL.of e1, atI_nat (j := 0) rfl, rfl, _, rfl, ite2 (fun c => ?_) (fun c => ?_)⟩
    · refine ⟨_, rfl, _, _, _, _, rfl, rfl, SqL.of e1, atI_nat (j := 1) rfl, rfl, _, rfl, ite2 (fun c => ?_) (fun c => ?_)⟩
      · refine ⟨_, rfl, _, _, _, _, rfl, rfl, e1, rfl, ?_⟩
        refine ⟨_, rfl, _, _, _, _, rfl, rfl, SqL.of upd_same, atI_nat (j := 2) rfl, _, _, rfl, rfl, _, rfl, _, _, _, _, rfl, rfl, upd_same, rfl, ?_⟩
        exact ⟨_, _, _, rfl, upd_same, fun b o nb eb => by rw [upd_ne nb, upd_ne nb]; exact g1 b o nb eb⟩
      · exact ⟨_, _, _, rfl, e1, g1⟩
    · exact ⟨_, _, _, rfl, e1, g1⟩
  obtain ⟨x, y, z, rfl, e2, g2⟩ := hm
  refine ⟨_, rfl, _, _, _, _, rfl, rfl, SqL.of e2, atI_nat (j := 0) rfl, rfl, _, rfl, ite2 (fun c => ?_) (fun c => ?_)⟩
  · refine ⟨_, rfl, _, _, _, _, rfl, rfl, SqL.of e2, atI_nat (j := 1) rfl, .inl ⟨_, rfl, _, rfl, _, _, rfl, rfl, by omega, ?_⟩⟩
    refine ⟨_, rfl, _, _, _, _, rfl, rfl, SqL.of e2, atI_nat (j := 1) rfl, .inl ⟨_, rfl, _, rfl, _, _, rfl, rfl, ⟨by omega, by omega⟩, ?_⟩⟩
    refine ⟨_, rfl, _, _, _, _, rfl, rfl, e2, rfl, ?_⟩
    refine ⟨_, rfl, ?_⟩
    exact q _ _ (fmod_lo n0) (fmod_hi n0) ⟨fun b o nb eb => by rw [upd_ne nb]; exact g2 b o nb eb, ⟨_, _, _, upd_same⟩⟩
  · refine ⟨_, rfl, _, _, _, _, rfl, rfl, SqL.of e2, atI_nat (j := 1) rfl, _, _, rfl, rfl, .inr ⟨by decide, by decide⟩, ?_⟩
    refine ⟨_, rfl, _, _, _, _, rfl, rfl, SqL.of e2, atI_nat (j := 2) rfl, _, _, rfl, rfl, .inl ⟨by decide, by decide⟩, _, _, rfl, rfl, _, _, rfl, rfl, .inl ⟨_, rfl, _, _, rfl, rfl, by omega, ?_⟩⟩
    refine ⟨_, rfl, _, _, _, _, rfl, rfl, e2, rfl, ?_⟩
    have b0 := fmod_lo (a := y * 48271 + 974711 * z + 12345) (b := 2147483647) (by decide)
    have b1 := fmod_hi (a := y * 48271 + 974711 * z + 12345) (b := 2147483647) (by decide)
    refine ⟨_, rfl, _, _, _, _, rfl, rfl, SqL.of upd_same, atI_nat (j := 1) rfl, _, rfl, _, _, _, _, rfl, rfl, SqL.of upd_same, atI_nat (j := 1) rfl, _, _, rfl, rfl, ⟨by decide, by decide⟩, _, _, rfl, rfl, _, _, rfl, rfl, .inl ⟨by omega, by omega⟩, .inl ⟨_, rfl, _, _, rfl, rfl, by omega, ?_⟩⟩
    refine ⟨_, rfl, _, _, rfl, rfl, ⟨by decide, by decide⟩, _, rfl, _, _, rfl, rfl, by omega, ?_⟩
    exact q _ _ (fmod_lo n0) (fmod_hi n0) ⟨fun b o nb eb => by rw [upd_ne nb]; exact g2 b o nb eb, ⟨_, _, _, upd_same⟩⟩
theorem ok_law_feed {f : Addr} {fd : FuncData} {k : Nat} (F : Fun K "_law_feed" "_law_feed" s_law_feed f fd) (mint : mg "int" = none) : FnOk P w K mg base CX0 (k + 1) f fd P_law_feed spFeed := by
  refine F.ok sc_law_feed (fun vs H Q E h => ?_) (fun cdv A outer s H vs Q E hr h => ?_)
  · obtain ⟨n, rfl, _⟩ := h
    rfl
  obtain ⟨n, rfl, q⟩ := h
  refine ⟨_, (pss_cons (ps_set (i := 1) sc_law_feed.nd rfl (Or.inl rfl) (pe_callTy call_int1 (by rfl) mint (by decide +kernel) (pa_cons (pv 0) pa_nil)))
    (pss_cons (ps_if (pt_cmpR op_ge (pv 1) (pe_op op_pow pe_int pe_int) (nomark _))
      (pss_one (ps_ret (pe_lst (pa_cons pe_int (pa_cons (pe_op op_sub (pv 1) (pe_op op_pow pe_int pe_int)) (pa_cons pe_int pa_nil))))))
      pss_nil)
    (pss_one (ps_ret (pe_lst (pa_cons pe_int (pa_cons (pe_op op_modN (pe_callTy call_int1 (by rfl) mint (by decide +kernel) (pa_cons (pv 1) pa_nil)) pe_int) (pa_cons pe_int pa_nil)))))))), ?_⟩
  refine ⟨_, rfl, .inl ⟨_, rfl, ?_⟩⟩
  refine ⟨_, rfl, _, _, rfl, rfl, ⟨by decide, by decide, by decide⟩, _, _, rfl, rfl, _, rfl, ite2 (fun c => ?_) (fun c => ?_)⟩
  · refine ⟨_, rfl, _, _, rfl, rfl, ⟨by decide, by decide, by decide⟩, _, _, rfl, rfl, (by show 3 ≤ sizeLine; decide), fun p hp => ?_⟩
    exact q _ _ (same_new hp _) hp ⟨_, _, _, upd_same⟩
  · refine ⟨_, rfl, .inl ⟨_, rfl, _, _, rfl, rfl, by omega, (by show 3 ≤ sizeLine; decide), fun p hp => ?_⟩⟩
    exact q _ _ (same_new hp _) hp ⟨_, _, _, upd_same⟩
theorem ok_law_cell {f : Addr} {fd : FuncData} {k : Nat} (F : Fun K "_law_cell" "_law_cell" s_law_cell f fd) (mlen : mg "len" = none) (mint : mg "int" = none) : FnOk P w K mg base CX0 (k + 1) f fd P_law_cell (spCellv K) := by
  refine F.ok sc_law_cell (fun vs H Q E h => ?_) (fun cdv A outer s H vs Q E hr h => ?_)
  · obtain ⟨a, ns, j, rfl, _⟩ := h
    rfl
  obtain ⟨a, ns, j, rfl, hS, j0, j1, q⟩ := h
  refine ⟨_, (pss_cons (ps_if (pt_cmpR op_lt (pv 1) (pe_callB (r := rLenS K) call_lenK (by rfl) mlen (by decide +kernel) (pa_cons (pv 0) pa_nil)) (nomark _))
      (pss_one (ps_ret (pe_ix (r := rIxL K) ix_list (pv 0) (pv 1) (fun _ _ => rfl))))
      pss_nil)
    (pss_cons (ps_set (i := 2) sc_law_cell.nd rfl (Or.inl rfl) pe_int)
    (pss_cons (ps_for PassesOwn.never rfl (pi_list (pv 0)) (pg_name (i := 3) sc_law_cell.nd rfl (Or.inl rfl))
      (pss_one (ps_set (i := 2) sc_law_cell.nd rfl (Or.inl rfl) (pe_op op_modN (pe_callTy call_int1 (by rfl) mint (by decide +kernel) (pa_cons (pe_op op_add (pe_op op_mul (pv 2) pe_int) (pe_op op_modN (pe_callTy call_int1 (by rfl) mint (by decide +kernel) (pa_cons (pv 3) pa_nil)) pe_int)) pa_nil)) pe_int))))
    (pss_one (ps_ret (pe_op op_modN (pe_callTy call_int1 (by rfl) mint (by decide +kernel) (pa_cons (pe_op op_mul (pe_op op_mul (pe_op op_add (pv 2) pe_int) (pe_op op_add (pv 1) pe_int)) pe_int) pa_nil)) pe_int)))))), ?_⟩
  refine ⟨_, rfl, _, rfl, _, _, rfl, .inl hS, _, _, rfl, rfl, _, rfl, ite2' (fun c => ?_) (fun c => ?_)⟩
  · obtain ⟨v, vm, ev⟩ := atI_in (xs := ns.map V.int) j0 c
    obtain ⟨n, _, rfl⟩ := List.mem_map.mp vm
    exact ⟨_, rfl, _, rfl, _, _, _, _, rfl, rfl, hS, ev, q n⟩
  · refine ⟨_, rfl, a, rfl, ⟨_, hS⟩, ?_⟩
    refine for_list (xs := ns.map V.int) (fun i σ H' => ∃ (sd : Int) (y : Option V), σ = [some (.ref a), some (.int j), some (.int sd), y] ∧ 0 ≤ sd ∧ sd < 1000003 ∧ H' = H) ⟨_, _, rfl, by decide, by decide, rfl⟩ (fun i σ H' _ hp => ?_) (fun i x σ H' hx hp => ?_) (fun σ H' hp => ?_)
    · obtain ⟨sd, y, _, _, _, rfl⟩ := hp
      exact hS
    · obtain ⟨sd, y, rfl, b0, b1, rfl⟩ := hp
      obtain ⟨n, _, rfl⟩ := List.mem_map.mp (List.mem_of_getElem? hx)
      refine ⟨_, rfl, _, _, rfl, rfl, .inl ⟨by omega, by omega⟩, _, rfl, .inl ⟨_, rfl, _, _, rfl, rfl, by omega, _, _, rfl, rfl, .inl ⟨_, rfl, _, _, rfl, rfl, by omega, ?_⟩⟩⟩
      exact ⟨_, _, rfl, fmod_lo (by decide), fmod_hi (by decide), rfl⟩
    · obtain ⟨sd, y, rfl, b0, b1, rfl⟩ := hp
      refine ⟨_, rfl, _, _, rfl, rfl, _, rfl, _, _, rfl, rfl, _, _, rfl, rfl, .inl ⟨by omega, by omega⟩, _, _, rfl, rfl, .inr ⟨by decide, by decide⟩, .inl ⟨_, rfl, _, _, rfl, rfl, by omega, ?_⟩⟩
      exact q _
end
end K25
namespace K25
open PySem L2 Vk
def spWhole : Sp := fun vs H Q _ => ∃ (n : Int), vs = [.int n] ∧ Q (.bl true) H
def spLCrew : Sp := fun vs H Q _ => ∃ (a : Addr) (tl up : Nat), vs = [.ref a, .int (tl : Int), .int (up : Int)] ∧ Fd H a ∧ 1 ≤ tl ∧ tl ≤ 4 ∧ 1 ≤ up ∧ up ≤ 16 ∧ ∀ p H' r, Stp a H H' → Rws H' p r → r.ok → Q (.ref p) H'
/-- seats and leanings while they are drawn -/
structure Acc (H : Hp) (a s l : Addr) (N i j : Nat) (ss : List Nat) (as : List Addr) (rows : List (List Nat)) (H' : Hp) : Prop where
  st : Stp a H H'
  es : H' s = some (.lst (ni ss))
  el : H' l = some (.lst (rf as))
  sl : ss.length = i
  sN : ∀ x ∈ ss, x < N
  ro : LL (fun b row => (b ≠ a ∧ b ≠ s ∧ b ≠ l) ∧ H' b = some (.lst (ni row))) as rows
  rj : rows.length = j
  rl : ∀ row ∈ rows, row.length = N - 1
  r1 : ∀ row ∈ rows, ∀ x ∈ row, x ≤ 1
section
variable {H H1 H2 : Hp} {a s l : Addr} {N i j : Nat} {ss : List Nat} {as : List Addr} {rows : List (List Nat)}
theorem Acc.draw (A : Acc H a s l N i j ss as rows H1) (ns : s ≠ a) (nl : l ≠ a) (t : Stp a H1 H2) : Acc H a s l N i j ss as rows H2 :=
  { A with st := A.st.trans t, es := t.1 _ _ ns A.es, el := t.1 _ _ nl A.el, ro := A.ro.mono fun b row ⟨h, e⟩ => ⟨h, t.1 _ _ h.1 e⟩ }
theorem Acc.seat (A : Acc H a s l N i j ss as rows H1) (fs : H s = none) (ns : s ≠ a) (sl : s ≠ l) {x : Nat} (hx : x < N) : Acc H a s l N (i + 1) j (ss ++ [x]) as rows (upd H1 s (.lst (ni ss ++ [.int (x : Int)]))) :=
  { A with st := stp_upd A.st fs ns, es := by rw [upd_same, ni_app]; rfl, el := upd_keep A.el sl.symm, sl := by rw [List.length_append, A.sl]; rfl,
           sN := fun y hy => by
            rcases List.mem_append.mp hy with h | h
            · exact A.sN y h
            · rw [List.mem_singleton.mp h]; exact hx
           ro := A.ro.mono fun b row ⟨h, e⟩ => ⟨h, upd_keep e h.2.1⟩ }
theorem Acc.row (A : Acc H a s l N i j ss as rows H1) (fl : H l = none) (nl : l ≠ a) (sl : s ≠ l) {b : Addr} {row : List Nat} (hb : b ≠ a ∧ b ≠ s ∧ b ≠ l) (e : H1 b = some (.lst (ni row))) (h1 : row.length = N - 1) (h2 : ∀ x ∈ row, x ≤ 1) :
    Acc H a s l N i (j + 1) ss (as ++ [b]) (rows ++ [row]) (upd H1 l (.lst (rf as ++ [.ref b]))) :=
  { A with st := stp_upd A.st fl nl, es := upd_keep A.es sl, el := by rw [upd_same, rf_app]; rfl, rj := by rw [List.length_append, A.rj]; rfl,
           ro := (A.ro.mono fun b row ⟨h, e⟩ => ⟨h, upd_keep e h.2.2⟩).snoc ⟨hb, upd_keep e hb.2.2⟩
           rl := fun y hy => by
            rcases List.mem_append.mp hy with h | h
            · exact A.rl y h
            · rw [List.mem_singleton.mp h]; exact h1
           r1 := fun y hy => by
            rcases List.mem_append.mp hy with h | h
            · exact A.r1 y h
            · rw [List.mem_singleton.mp h]; exact h2 }
end
theorem menu_at {i : Nat} (h1 : 1 ≤ i) (h4 : i ≤ 4) : atI [V.int 1, V.int 2, V.int 4, V.int 8, V.int 16] (i : Int) = some (.int ((2 ^ i : Nat) : Int)) := by
  have : i = 1 ∨ i = 2 ∨ i = 3 ∨ i = 4 := by omega
  rcases this with rfl | rfl | rfl | rfl <;> exact atI_nat rfl
theorem seat_lt {k N cnt : Nat} (h : k < cnt) (hN : 1 ≤ N) : k * N / cnt < N := by
  rw [Nat.div_lt_iff_lt_mul (by omega)]
  rw [Nat.mul_comm N cnt]
  exact Nat.mul_lt_mul_of_pos_right h (by omega)
section
variable {P : Program} {w : World} {K : PySem.W.Frag} {mg : Str → Option Value} {base : Heap}
theorem ok_law_whole {f : Addr} {fd : FuncData} {k : Nat} (F : Fun K "_law_whole" "_law_whole" s_law_whole f fd) (misinstance : mg "isinstance" = none) (mbool : mg "bool" = none) (mint : mg "int" = none) : FnOk P w K mg base CX0 (k + 1) f fd P_law_whole spWhole := by
  refine F.ok sc_law_whole (fun vs H Q E h => ?_) (fun cdv A outer s H vs Q E hr h => ?_)
  · obtain ⟨n, rfl, _⟩ := h
    rfl
  obtain ⟨n, rfl, q⟩ := h
  refine ⟨_, (pss_one (ps_ret (pe_and (pe_callB (r := rIsi K) call_isi (by rfl) misinstance (by decide +kernel) (pa_cons (pv 0) (pa_cons (pe_bltn (v := .ty "int") (by rfl) mint (by decide +kernel) rfl) pa_nil))) (pe_one (pe_not (pe_callB (r := rIsi K) call_isi (by rfl) misinstance (by decide +kernel) (pa_cons (pv 0) (pa_cons (pe_bltn (v := .ty "bool") (by rfl) mbool (by decide +kernel) rfl) pa_nil)))))))), ?_⟩
  refine ⟨_, rfl, _, _, _, _, _, rfl, .ty _, .base (.int n), kit_ty (r := true) (by decide +kernel), _, rfl, ?_⟩
  exact iteT ⟨_, rfl, _, _, _, _, _, rfl, .ty _, .base (.int n), kit_ty (r := false) (by decide +kernel), _, rfl, q⟩
theorem ok_law_crew {f : Addr} {fd : FuncData} {k : Nat} (F : Fun K "_law_crew" "_law_crew" s_law_crew f fd) (O_law_take : Ok P w K mg base k "_law_take" P_law_take spTake) (mmin : mg "min" = none) (mrange : mg "range" = none) : FnOk P w K mg base CX0 (k + 1) f fd P_law_crew spLCrew := by
  refine F.ok sc_law_crew (fun vs H Q E h => ?_) (fun cdv A outer s H vs Q E hr h => ?_)
  · obtain ⟨a, tl, up, rfl, _⟩ := h
    rfl
  obtain ⟨a, tl, up, rfl, hF, t1, t4, u1, u16, q⟩ := h
  refine ⟨_, (pss_cons (ps_set (i := 3) sc_law_crew.nd rfl (Or.inl rfl) (pe_op op_add pe_int (pe_c O_law_take hr (by rfl) (pa_cons (pv 0) (pa_cons (pv 1) pa_nil)))))
    (C8.pss_cut (ps_if (pt_cmpR op_eq (pe_c O_law_take hr (by rfl) (pa_cons (pv 0) (pa_cons pe_int pa_nil))) pe_int (nomark _))
      (pss_one (ps_set (i := 3) sc_law_crew.nd rfl (Or.inl rfl) (pe_callB (call_min2 rfl) (by rfl) mmin (by decide +kernel) (pa_cons (pv 3) (pa_cons pe_int pa_nil)))))
      pss_nil)
    (pss_cons (ps_set (i := 4) sc_law_crew.nd rfl (Or.inl rfl) (pe_op op_add pe_int (pe_c O_law_take hr (by rfl) (pa_cons (pv 0) (pa_cons (pv 2) pa_nil)))))
    (pss_cons (ps_set (i := 5) sc_law_crew.nd rfl (Or.inl rfl) (pe_ix (r := rIxL K) ix_list (pe_lst (pa_cons pe_int (pa_cons pe_int (pa_cons pe_int (pa_cons pe_int (pa_cons pe_int pa_nil)))))) (pv 3) (fun _ _ => rfl)))
    (pss_cons (ps_set (i := 6) sc_law_crew.nd rfl (Or.inl rfl) (pe_c O_law_take hr (by rfl) (pa_cons (pv 0) (pa_cons pe_int pa_nil))))
    (pss_cons (ps_set (i := 7) sc_law_crew.nd rfl (Or.inl rfl) (pe_lst pa_nil))
    (pss_cons (ps_set (i := 8) sc_law_crew.nd rfl (Or.inl rfl) (pe_lst pa_nil))
    (pss_cons (ps_for PassesOwn.never rfl (pi_range1 (by rfl) mrange (pa_cons (pv 4) pa_nil)) (pg_name (i := 9) sc_law_crew.nd rfl (Or.inl rfl))
      (C8.pss_cut (ps_if (pt_cmpR op_eq (pv 6) pe_int (nomark _))
        (pss_one (ps_expr (pe_bm PySem.F.plainAttrs_list PySem.F.slot_list_append PySem.F.type_list_append mt_append (pv 7) (pa_cons (pe_op op_fdivN (pe_op op_mul (pv 9) (pv 5)) (pv 4)) pa_nil))))
        (pss_one (ps_if (pt_cmpR op_eq (pv 6) pe_int (nomark _))
          (pss_one (ps_expr (pe_bm PySem.F.plainAttrs_list PySem.F.slot_list_append PySem.F.type_list_append mt_append (pv 7) (pa_cons (pe_op op_mul (pe_c O_law_take hr (by rfl) (pa_cons (pv 0) (pa_cons pe_int pa_nil))) (pe_op op_sub (pv 5) pe_int)) pa_nil))))
          (pss_one (ps_expr (pe_bm PySem.F.plainAttrs_list PySem.F.slot_list_append PySem.F.type_list_append mt_append (pv 7) (pa_cons (pe_c O_law_take hr (by rfl) (pa_cons (pv 0) (pa_cons (pv 5) pa_nil))) pa_nil)))))))
      (pss_cons (ps_set (i := 10) sc_law_crew.nd rfl (Or.inl rfl) (pe_c O_law_take hr (by rfl) (pa_cons (pv 0) (pa_cons pe_int pa_nil))))
      (pss_one (ps_if (pt_cmpR op_eq (pv 10) pe_int (nomark _))
        (pss_one (ps_expr (pe_bm PySem.F.plainAttrs_list PySem.F.slot_list_append PySem.F.type_list_append mt_append (pv 8) (pa_cons (pe_lc (own := [("j", 11)]) (g := (gName 11)) (tt := tYes) rfl sc_law_crew.nd (pi_range1 (by rfl) mrange (pa_cons (pe_op op_sub (pv 5) pe_int) pa_nil)) (blkOk_by (N := N_law_crew) (sc := defScope s_law_crew) (by decide +kernel)) (fun _ _ _ _ _ => (pg_name (i := 11) sc_law_crew.nd rfl (Or.inl rfl))) (fun _ _ _ _ _ => pts_nil) (fun _ _ _ _ _ => pe_int)) pa_nil))))
        (pss_one (ps_if (pt_cmpR op_eq (pv 10) pe_int (nomark _))
          (pss_one (ps_expr (pe_bm PySem.F.plainAttrs_list PySem.F.slot_list_append PySem.F.type_list_append mt_append (pv 8) (pa_cons (pe_lc (own := [("j", 11)]) (g := (gName 11)) (tt := tYes) rfl sc_law_crew.nd (pi_range1 (by rfl) mrange (pa_cons (pe_op op_sub (pv 5) pe_int) pa_nil)) (blkOk_by (N := N_law_crew) (sc := defScope s_law_crew) (by decide +kernel)) (fun _ _ _ _ _ => (pg_name (i := 11) sc_law_crew.nd rfl (Or.inl rfl))) (fun _ _ _ _ _ => pts_nil) (fun _ _ _ _ _ => pe_int)) pa_nil))))
          (pss_one (ps_expr (pe_bm PySem.F.plainAttrs_list PySem.F.slot_list_append PySem.F.type_list_append mt_append (pv 8) (pa_cons (pe_lc (own := [("j", 11)]) (g := (gName 11)) (tt := tYes) rfl sc_law_crew.nd (pi_range1 (by rfl) mrange (pa_cons (pe_op op_sub (pv 5) pe_int) pa_nil)) (blkOk_by (N := N_law_crew) (sc := defScope s_law_crew) (by decide +kernel)) (fun _ _ _ _ _ => (pg_name (i := 11) sc_law_crew.nd rfl (Or.inl rfl))) (fun _ _ _ _ _ => pts_nil) (fun _ _ _ _ _ => (pe_c O_law_take hr (by rfl) (pa_cons (pv 0) (pa_cons pe_int pa_nil))))) pa_nil)))))))))))
    (pss_one (ps_ret (pe_lst (pa_cons (pv 3) (pa_cons (pv 7) (pa_cons (pv 8) pa_nil)))))))))))))), ?_⟩
  refine rd_takeV rfl rfl hF (by omega) (by omega) fun m0 Ha hm0 sa => ⟨_, _, rfl, rfl, ?_⟩
  -- the height
  refine ⟨fun σ' H' => ∃ h : Nat, σ' = [some (.ref a), some (.int (tl : Int)), some (.int (up : Int)), some (.int (h : Int)), none, none, none, none, none, none, none, none] ∧ 1 ≤ h ∧ h ≤ 4 ∧ Stp a H H', ?_, fun σ' H' hm => ?_⟩
  · refine rd_takeN rfl sa.2 (by decide) (by decide) fun m1 Hb hm1 sb => ⟨rfl, _, rfl, ?_⟩
    refine iteI (fun c => ?_) (fun c => ?_)
    · refine ⟨_, rfl, _, _, rfl, ?_⟩
      refine ⟨(if 1 + m0 < 2 then 1 + m0 else 2), ?_, ?_, ?_, sa.trans sb⟩
      · have e : (if (2 : Int) < 1 + (m0 : Int) then (2 : Int) else 1 + (m0 : Int)) = ((if 1 + m0 < 2 then 1 + m0 else 2 : Nat) : Int) := by split <;> split <;> omega
        show [some (V.ref a), some (V.int (tl : Int)), some (V.int (up : Int)), some (V.int (if (2 : Int) < 1 + (m0 : Int) then (2 : Int) else 1 + (m0 : Int))), none, none, none, none, none, none, none, none] = _
        rw [e]
      · split <;> omega
      · split <;> omega
    · exact ⟨1 + m0, by rw [Int.natCast_add]; rfl, by omega, by omega, sa.trans sb⟩
  obtain ⟨h, rfl, h1, h4, s0⟩ := hm
  refine rd_takeV rfl rfl s0.2 (by omega) (by omega) fun m1 Hb hm1 sb => ⟨_, _, rfl, rfl, ?_⟩
  refine ⟨(by show 5 ≤ sizeLine; decide), fun ml hml => ⟨_, rfl, _, _, _, _, rfl, rfl, SqL.of upd_same, menu_at h1 h4, ?_⟩⟩
  have sc := (s0.trans sb).same (same_new hml (.lst [.int 1, .int 2, .int 4, .int 8, .int 16]))
  refine rd_takeN rfl sc.2 (by decide) (by decide) fun kind Hd hkind sd => ?_
  have se := sc.trans sd
  refine ⟨(by show 0 ≤ sizeLine; decide), fun s hs => ⟨(by show 0 ≤ sizeLine; decide), fun l hl => ?_⟩⟩
  have sf := stp_new se hs (o := .lst [])
  have sg := stp_new sf hl (o := .lst [])
  have nsa : s ≠ a := se.2.ne hs
  have nla : l ≠ a := sf.2.ne hl
  have nsl : s ≠ l := ne_of_none (H := upd Hd s (.lst [])) upd_same hl
  have hN : (2 ^ h : Nat) = 2 ∨ (2 ^ h : Nat) = 4 ∨ (2 ^ h : Nat) = 8 ∨ (2 ^ h : Nat) = 16 := by
    have : h = 1 ∨ h = 2 ∨ h = 3 ∨ h = 4 := by omega
    rcases this with rfl | rfl | rfl | rfl <;> simp
  generalize eN : (2 ^ h : Nat) = N at hN
  have fs : H s = none := by
    cases q : H s with
    | none => rfl
    | some o => rw [se.1 _ _ nsa q] at hs; cases hs
  have fl : H l = none := by
    cases q : H l with
    | none => rfl
    | some o => rw [sf.1 _ _ nla q] at hl; cases hl
  refine ⟨_, rfl, _, rfl, by omega, by omega, for_range (n := (1 + (m1 : Int)).toNat) (fun i σ H' => ∃ (y9 y10 y11 : Option V) (ss : List Nat) (as : List Addr) (rows : List (List Nat)),
    σ = [some (.ref a), some (.int (tl : Int)), some (.int (up : Int)), some (.int (h : Int)), some (.int (1 + (m1 : Int))), some (.int (N : Int)), some (.int (kind : Int)), some (.ref s), some (.ref l), y9, y10, y11] ∧ Acc H a s l N i i ss as rows H')
    ⟨_, _, _, [], [], [], rfl, ⟨sg, upd_keep upd_same nsl, upd_same, rfl, (fun x hx => by cases hx), LL.nil, rfl, (fun x hx => by cases hx), (fun x hx => by cases hx)⟩⟩ (fun i σ H' hi hp => ?_) (fun σ H' hp => ?_)⟩
  · obtain ⟨y9, y10, y11, ss, as, rows, rfl, A⟩ := hp
    have l1 : ss.length = i := A.sl
    have l2 : as.length = i := A.ro.len.trans A.rj
    refine ⟨fun σ' H' => ∃ (ss : List Nat) (as : List Addr) (rows : List (List Nat)),
      σ' = [some (.ref a), some (.int (tl : Int)), some (.int (up : Int)), some (.int (h : Int)), some (.int (1 + (m1 : Int))), some (.int (N : Int)), some (.int (kind : Int)), some (.ref s), some (.ref l), some (.int (0 + (i : Int))), y10, y11] ∧ Acc H a s l N (i + 1) i ss as rows H', ?_, fun σ' H' hm => ?_⟩
    · refine ⟨_, rfl, rfl, _, rfl, iteI (fun c => ?_) (fun c => ?_)⟩
      · refine ⟨_, rfl, .inl ⟨rfl, _, SqL.of A.es⟩, _, rfl, _, rfl, _, _, rfl, rfl, .inl ⟨by omega, by omega⟩, _, rfl, _, _, rfl, rfl, ⟨by omega, by omega⟩, s, _, _, rfl, rfl, A.es, by rw [ni_len]; exact line1000 (m := 1000) (by omega) (by decide), ?_⟩
        refine ⟨ss ++ [i * N / (1 + m1)], as, rows, rfl, ?_⟩
        have e : ((0 : Int) + (i : Int)) * (N : Int) = ((i * N : Nat) : Int) := by rw [Int.zero_add, Int.natCast_mul]
        have e2 : (((0 : Int) + (i : Int)) * (N : Int)).fdiv (1 + (m1 : Int)) = ((i * N / (1 + m1) : Nat) : Int) := by
          rw [e, show (1 : Int) + (m1 : Int) = ((1 + m1 : Nat) : Int) by omega]
          exact (Int.ofNat_fdiv _ _).symm
        show Acc H a s l N (i + 1) i _ _ _ (upd H' s (.lst (ni ss ++ [.int ((((0 : Int) + (i : Int)) * (N : Int)).fdiv (1 + (m1 : Int)))])))
        rw [e2]
        exact A.seat fs nsa nsl (seat_lt (by omega) (by omega))
      · refine ⟨_, rfl, rfl, _, rfl, iteI (fun c => ?_) (fun c => ?_)⟩
        · refine ⟨_, rfl, .inl ⟨rfl, _, SqL.of A.es⟩, rd_takeN rfl A.st.2 (by decide) (by decide) fun m H1 hm t => ⟨_, rfl, _, _, rfl, rfl, _, _, rfl, rfl, .inl ⟨by omega, by omega⟩, ?_⟩⟩
          have B := A.draw nsa nla t
          refine ⟨s, _, _, rfl, rfl, B.es, by rw [ni_len]; exact line1000 (m := 1000) (by omega) (by decide), ?_⟩
          refine ⟨ss ++ [m * (N - 1)], as, rows, rfl, ?_⟩
          have e : (m : Int) * ((N : Int) - 1) = ((m * (N - 1) : Nat) : Int) := by rw [Int.natCast_mul, show ((N - 1 : Nat) : Int) = (N : Int) - 1 by omega]
          show Acc H a s l N (i + 1) i _ _ _ (upd H1 s (.lst (ni ss ++ [.int ((m : Int) * ((N : Int) - 1))])))
          rw [e]
          exact B.seat fs nsa nsl (by
            have : m = 0 ∨ m = 1 := by omega
            rcases this with rfl | rfl <;> omega)
        · refine ⟨_, rfl, .inl ⟨rfl, _, SqL.of A.es⟩, rd_takeV rfl rfl A.st.2 (by omega) (by omega) fun m H1 hm t => ?_⟩
          have B := A.draw nsa nla t
          refine ⟨s, _, _, rfl, rfl, B.es, by rw [ni_len]; exact line1000 (m := 1000) (by omega) (by decide), ?_⟩
          exact ⟨_, _, _, rfl, B.seat fs nsa nsl (by omega)⟩
    · obtain ⟨ss, as, rows, rfl, A⟩ := hm
      have l2 : as.length = i := A.ro.len.trans A.rj
      refine rd_takeN rfl A.st.2 (by decide) (by decide) fun sort H1 hsort t => ?_
      have B := A.draw nsa nla t
      have fin : ∀ (D : Addr) (H2 : Hp) (row : List Nat) (y10 y11 : Option V), H1 D = none → Stp a H1 H2 → H2 D = some (.lst (ni row)) → row.length = N - 1 → (∀ x ∈ row, x ≤ 1) →
          ∃ (l' : Addr) (xs : List V) (y : V), V.ref l = .ref l' ∧ [V.ref D] = [y] ∧ H2 l' = some (.lst xs) ∧ xs.length < sizeLine ∧
            ∃ (y9 z10 z11 : Option V) (ss : List Nat) (as : List Addr) (rows : List (List Nat)), [some (.ref a), some (.int (tl : Int)), some (.int (up : Int)), some (.int (h : Int)), some (.int (1 + (m1 : Int))), some (.int (N : Int)), some (.int (kind : Int)), some (.ref s), some (.ref l), some (.int (0 + (i : Int))), y10, y11] =
              [some (.ref a), some (.int (tl : Int)), some (.int (up : Int)), some (.int (h : Int)), some (.int (1 + (m1 : Int))), some (.int (N : Int)), some (.int (kind : Int)), some (.ref s), some (.ref l), y9, z10, z11] ∧ Acc H a s l N (i + 1) (i + 1) ss as rows (upd H2 l' (.lst (xs ++ [y]))) := fun D H2 row y10 y11 hD t2 e h1 h2 => by
        have C := B.draw nsa nla t2
        have nDa := B.st.2.ne hD
        have nDs : D ≠ s := (ne_of_none B.es hD).symm
        have nDl : D ≠ l := (ne_of_none B.el hD).symm
        exact ⟨l, _, _, rfl, rfl, C.el, by rw [rf_len]; exact line1000 (m := 1000) (by omega) (by decide), _, _, _, _, _, _, rfl, C.row fl nla nsl ⟨nDa, nDs, nDl⟩ e h1 h2⟩
      refine ⟨_, rfl, rfl, _, rfl, iteI (fun c => ?_) (fun c => ?_)⟩
      · refine ⟨_, rfl, .inl ⟨rfl, _, SqL.of B.el⟩, _, rfl, _, _, rfl, rfl, _, rfl, by omega, by omega, lc_mapS (n := ((N : Int) - 1).toNat) wk_range (fun _ _ => trivial) (by omega) (fun _ => .int 0) (fun i H1 Qe _ _ k => k _ (fun _ _ z => z)) fun D H2 hD t2 e => ?_⟩
        rw [ni_rep _ 0 (f := fun _ => V.int 0) (fun _ => rfl)] at e
        exact fin D H2 _ _ _ hD (Stp.of B.st.2 t2) e (by rw [List.length_replicate]; omega) (fun x hx => by rw [List.eq_of_mem_replicate hx]; omega)
      · refine ⟨_, rfl, rfl, _, rfl, iteI (fun c => ?_) (fun c => ?_)⟩
        · refine ⟨_, rfl, .inl ⟨rfl, _, SqL.of B.el⟩, _, rfl, _, _, rfl, rfl, _, rfl, by omega, by omega, lc_mapS (n := ((N : Int) - 1).toNat) wk_range (fun _ _ => trivial) (by omega) (fun _ => .int 1) (fun i H1 Qe _ _ k => k _ (fun _ _ z => z)) fun D H2 hD t2 e => ?_⟩
          rw [ni_rep _ 1 (f := fun _ => V.int 1) (fun _ => rfl)] at e
          exact fin D H2 _ _ _ hD (Stp.of B.st.2 t2) e (by rw [List.length_replicate]; omega) (fun x hx => by rw [List.eq_of_mem_replicate hx]; omega)
        · refine ⟨_, rfl, .inl ⟨rfl, _, SqL.of B.el⟩, _, rfl, _, _, rfl, rfl, _, rfl, by omega, by omega, lc_map (n := ((N : Int) - 1).toNat) wk_range (Stp a) (trStp B.st.2) (fun _ _ => trivial) (by omega) (fun _ _ y _ => ∃ n : Nat, y = .int (n : Int) ∧ n ≤ 1) (fun _ _ _ _ _ _ _ _ p => p) (fun _ _ _ _ _ _ _ _ p => p)
            (fun D i H1 Qe _ _ t _ k => rd_takeN (n := 2) rfl t.2 (by decide) (by decide) fun m H2 hm t2 => k _ _ t2 ⟨m, rfl, by omega⟩) fun D H2 ys hD t2 e hl hP => ?_⟩
          obtain ⟨ns, rfl, hns⟩ := ni_of (P := fun _ n => n ≤ 1) ys hP
          rw [ni_len] at hl
          exact fin D H2 _ _ _ hD t2 e (by omega) (fun x hx => by
            obtain ⟨i, hi⟩ := List.getElem?_of_mem hx
            exact hns i x hi)
  · obtain ⟨y9, y10, y11, ss, as, rows, rfl, A⟩ := hp
    have e1 : (1 + (m1 : Int)).toNat = 1 + m1 := by omega
    refine ⟨_, rfl, _, rfl, _, rfl, (by show 3 ≤ sizeLine; decide), fun p hp => ?_⟩
    have t := same_new hp (.lst [.int (h : Int), .ref s, .ref l])
    have l1 := A.sl
    have l2 := A.rj
    rw [e1] at l1 l2
    refine q p _ ⟨h, ss, rows⟩ (A.st.same t) ⟨s, l, as, upd_same, t _ _ A.es, t _ _ A.el, A.ro.mono fun b row e => t _ _ e.2⟩ ⟨h1, h4, by show 1 ≤ ss.length; omega, by show ss.length ≤ 16; omega, ?_, by show rows.length = ss.length; omega, ?_, A.r1⟩
    · show ∀ x ∈ ss, x < 2 ^ h
      rw [eN]
      exact A.sN
    · show ∀ row ∈ rows, row.length = 2 ^ h - 1
      rw [eN]
      exact A.rl
end
end K25
namespace K25
open PySem L2 Vk
theorem bits_chain : ∀ v < 32, 1 ≤ v → Builtin.Int.intBits ((v : Nat) : Int) = (chain v).length := by decide +kernel
theorem chain_one : ∀ v < 32, 1 ≤ v → 1 ≤ (chain v).length := by decide +kernel
def spDepth : Sp := fun vs H Q _ => ∃ (v : Nat), vs = [.int (v : Int)] ∧ 1 ≤ v ∧ v < 32 ∧ Q (.int (((chain v).length - 1 : Nat) : Int)) H
def spUnder : Sp := fun vs H Q _ => ∃ (v t : Nat), vs = [.int (v : Int), .int (t : Int)] ∧ 1 ≤ v ∧ v < 32 ∧ 1 ≤ t ∧ t < 32 ∧ Q (.bl (un v t)) H
/-- the workers that are seated under a node -/
def sL (r : Rows) (v : Nat) : List Nat := (List.range r.seats.length).filter fun k => un (r.N + r.seats.getD k 0) v
/-- the nodes under which nobody is seated -/
def eL (r : Rows) (n : Nat) : List Nat := ((List.range n).filter fun i => decide (sL r (i + 1) = [])).map (· + 1)
def spSeated (K : PySem.W.Frag) (C : Addr) : Sp := fun vs H Q _ => ∃ (p : Addr) (r : Rows) (v : Nat), vs = [.ref p, .int (v : Int)] ∧ Crw K C H p r ∧ r.ok ∧ 1 ≤ v ∧ v < 32 ∧ ∀ t H', Same H H' → H' t = some (.tup (ni (sL r v))) → Q (.ref t) H'
def spUnseated (K : PySem.W.Frag) (C : Addr) : Sp := fun vs H Q _ => ∃ (p : Addr) (r : Rows), vs = [.ref p] ∧ Crw K C H p r ∧ r.ok ∧ ∀ t H', Same H H' → H' t = some (.tup (ni (eL r (2 * r.N - 1)))) → Q (.ref t) H'
/-- the first number of the frame -/
def fst : St → Nat
  | some (.int n) :: _ => n.toNat
  | _ => 0
theorem seat_some {r : Rows} (k : r.ok) {i : Nat} (h : i < r.seats.length) : ∃ s, r.seats[i]? = some s ∧ r.seats.getD i 0 = s ∧ s < r.N := by
  obtain ⟨s, e⟩ := get_of_lt h
  exact ⟨s, e, by rw [List.getD_eq_getElem?_getD, e]; rfl, k.sN s (mem_of_get e)⟩
section
variable {P : Program} {w : World} {K : PySem.W.Frag} {mg : Str → Option Value} {base : Heap}
theorem ok_depth_of {f : Addr} {fd : FuncData} {k : Nat} (F : Fun K "depth_of" "depth_of" s_depth_of f fd)  : FnOk P w K mg base CX0 (k + 1) f fd P_depth_of spDepth := by
  refine F.ok sc_depth_of (fun vs H Q E h => ?_) (fun cdv A outer s H vs Q E hr h => ?_)
  · obtain ⟨v, rfl, _⟩ := h
    rfl
  obtain ⟨v, rfl, v1, v32, q⟩ := h
  refine ⟨_, (pss_one (ps_ret (pe_op op_sub (pe_bits (pv 0)) pe_int))), ?_⟩
  refine ⟨_, rfl, _, rfl, _, _, rfl, rfl, ?_⟩
  exact iE (Q := Q) (by rw [bits_chain v v32 v1]; have := chain_one v v32 v1; omega) q
theorem ok_is_under {f : Addr} {fd : FuncData} {k : Nat} (F : Fun K "is_under" "is_under" s_is_under f fd)  : FnOk P w K mg base CX0 (k + 1) f fd P_is_under spUnder := by
  refine F.ok sc_is_under (fun vs H Q E h => ?_) (fun cdv A outer s H vs Q E hr h => ?_)
  · obtain ⟨v, t, rfl, _⟩ := h
    rfl
  obtain ⟨v, t, rfl, v1, v32, t1, t32, q⟩ := h
  refine ⟨_, (pss_cons (ps_while PassesOwn.never (pt_cmpR op_gt (pv 0) (pv 1) (nomark _))
      (pss_one (ps_aug (i := 0) sc_is_under.nd rfl (Or.inl rfl) pe_int iop_fdiv)))
    (pss_one (ps_ret (pe_cmpR op_eq (pv 0) (pv 1) (nomark _))))), ?_⟩
  refine while_by (fun σ H' => ∃ n : Nat, σ = [some (.int (n : Int)), some (.int (t : Int))] ∧ 1 ≤ n ∧ n < 32 ∧ red t 6 n = red t 6 v ∧ H' = H) (fun σ _ => fst σ) ⟨v, rfl, v1, v32, rfl, rfl⟩ (fun σ H' hp => ?_) (fun σ H' Q1 Q2 hq h => ?_)
  · obtain ⟨n, rfl, n1, n32, e, rfl⟩ := hp
    refine ⟨_, rfl, _, rfl, _, _, rfl, rfl, _, rfl, itD (fun c => ?_) (fun c => ?_)⟩
    · have c2 : t < n := by omega
      have e2 : ((n : Int) / 2) = ((n / 2 : Nat) : Int) := by omega
      refine ⟨_, rfl, _, _, rfl, rfl, ⟨by decide, by decide⟩, ⟨n / 2, ?_, by omega, by omega, (red_step n n32 t t32 t1 c2).trans e, rfl⟩, ?_⟩
      · show [some (V.int ((n : Int) / 2)), some (V.int (t : Int))] = _
        rw [e2]
      · show ((n : Int) / 2).toNat < ((n : Int)).toNat
        omega
    · refine ⟨_, rfl, _, rfl, rfl, ?_⟩
      have e2 := red_end n n32 t t32 (by omega)
      refine bE (Q := Q) ?_ q
      rw [← red_un v v32 t t32 v1 t1, ← e, e2]
      by_cases h : n = t
      · subst h; simp
      · have h2 : ¬ (V.int (n : Int) = V.int (t : Int)) := fun z => h (by have := V.int.inj z; omega)
        rw [decide_eq_false h, decide_eq_false h2]
  · obtain ⟨x, e1, y, e2, i, j, e3, e4, k, e5, h⟩ := h
    exact ⟨x, e1, y, e2, i, j, e3, e4, k, e5, hq _ _ h⟩
theorem ok_seated {f C : Addr} {fd : FuncData} {k : Nat} (F : Fun K "seated" "seated" s_seated f fd) (mtuple : mg "tuple" = none) (Ois_under : Ok P w K mg base k "is_under" P_is_under spUnder) (Oseat_node : Ok P w K mg base k "seat_node" P_seat_node (spSeat K C)) (mrange : mg "range" = none) (OP_workers : OkProp P w K mg base k C "workers" (spWorkers K C)) (T : CT K C) : FnOk P w K mg base CX0 (k + 1) f fd P_seated (spSeated K C) := by
  refine F.ok sc_seated (fun vs H Q E h => ?_) (fun cdv A outer s H vs Q E hr h => ?_)
  · obtain ⟨p, r, v, rfl, _⟩ := h
    rfl
  obtain ⟨p, r, v, rfl, hC, k, v1, v32, q⟩ := h
  refine ⟨_, (pss_one (ps_ret (pe_callTy (r := rTupOf K) call_tupleK (by rfl) mtuple (by decide +kernel) (pa_cons (pe_lc (own := [("worker", 2)]) (g := (gName 2)) rfl sc_seated.nd (pi_range1 (by rfl) mrange (pa_cons (pe_p OP_workers T.cl hr (pv 0) (by rfl)) pa_nil)) (blkOk_by (N := N_seated) (sc := defScope s_seated) (by decide +kernel)) (fun _ _ _ _ _ => (pg_name (i := 2) sc_seated.nd rfl (Or.inl rfl))) (fun _ _ _ _ _ => pts_one (pt_val (pe_c Ois_under hr (by rfl) (pa_cons (pe_c Oseat_node hr (by rfl) (pa_cons (pv 0) (pa_cons (pv 2) pa_nil))) (pa_cons (pv 1) pa_nil))))) (fun _ _ _ _ _ => (pv 2))) pa_nil)))), ?_⟩
  have hC2 := hC
  have hN := k.pow
  obtain ⟨sa, la, as, ⟨dx, ho⟩, hs, hl, hr'⟩ := hC
  have s16 := k.s16
  refine ⟨_, rfl, p, dx, _, rfl, ho, p, r, rfl, hC2, k, _, rfl, by omega, by omega, lc_filt (n := ((r.seats.length : Nat) : Int).toNat) wk_range (fun _ _ => trivial) (by omega) (fun i => un (r.N + r.seats.getD i 0) v) (fun i => .int (i : Int)) (fun i H1 Qb hi s qb => ?_) (fun i H1 Qe hi s qe => ⟨_, rfl, qe _ (fun _ _ z => z)⟩) fun D H1 hD s e => ?_⟩
  · obtain ⟨x, ex, eg, hx⟩ := seat_some k (show i < r.seats.length by omega)
    refine ⟨_, rfl, _, rfl, p, r, i, x, rfl, hC2.same s, k, ex, _, rfl, r.N + x, v, rfl, by omega, by omega, v1, v32, _, rfl, ?_⟩
    rw [← eg]
    exact qb _ fun _ _ z => z
  · refine ⟨D, _, rfl, .inl ⟨SqL.of e, fun l hl => ?_⟩⟩
    refine q l _ (s.trans (same_new hl _)) (upd_same.trans ?_)
    unfold sL ni
    rw [Int.toNat_natCast]
theorem ok_unseated_nodes {f C : Addr} {fd : FuncData} {k : Nat} (F : Fun K "unseated_nodes" "unseated_nodes" s_unseated_nodes f fd) (mtuple : mg "tuple" = none) (Oseated : Ok P w K mg base k "seated" P_seated (spSeated K C)) (mrange : mg "range" = none) (OP_leaves : OkProp P w K mg base k C "leaves" (spLeaves K C)) (T : CT K C) : FnOk P w K mg base CX0 (k + 1) f fd P_unseated_nodes (spUnseated K C) := by
  refine F.ok sc_unseated_nodes (fun vs H Q E h => ?_) (fun cdv A outer s H vs Q E hr h => ?_)
  · obtain ⟨p, r, rfl, _⟩ := h
    rfl
  obtain ⟨p, r, rfl, hC, k, q⟩ := h
  refine ⟨_, (pss_one (ps_ret (pe_callTy (r := rTupOf K) call_tupleK (by rfl) mtuple (by decide +kernel) (pa_cons (pe_lc (own := [("node", 1)]) (g := (gName 1)) rfl sc_unseated_nodes.nd (pi_range2 (by rfl) mrange (pa_cons pe_int (pa_cons (pe_op op_mul pe_int (pe_p OP_leaves T.cl hr (pv 0) (by rfl))) pa_nil))) (blkOk_by (N := N_unseated_nodes) (sc := defScope s_unseated_nodes) (by decide +kernel)) (fun _ _ _ _ _ => (pg_name (i := 1) sc_unseated_nodes.nd rfl (Or.inl rfl))) (fun _ _ _ _ _ => pts_one (pt_cmpR (r := rEqD K) (op_eqD hr.units) (pe_c Oseated hr (by rfl) (pa_cons (pv 0) (pa_cons (pv 1) pa_nil))) (pe_tup pa_nil) (nomark _))) (fun _ _ _ _ _ => (pv 1))) pa_nil)))), ?_⟩
  have hC2 := hC
  have hN := k.pow
  obtain ⟨sa, la, as, ⟨dx, ho⟩, hs, hl, hr'⟩ := hC
  refine ⟨_, rfl, p, dx, _, rfl, ho, p, r, rfl, hC2, k, _, _, rfl, rfl, .inl ⟨by omega, by omega⟩, 1, _, rfl, ⟨by omega, by omega, by omega, by omega⟩, lc_filt (n := (2 * (r.N : Int) - 1).toNat) (wk_rangeF (lo := 1)) (fun _ _ => trivial) (by omega) (fun i => decide (sL r (1 + i) = [])) (fun i => .int ((1 + i : Nat) : Int))
    (fun i H1 Qb hi s qb => ?_) (fun i H1 Qe hi s qe => ⟨_, rfl, qe _ (fun _ _ z => z)⟩) fun D H1 hD s e => ?_⟩
  · refine ⟨_, rfl, _, rfl, p, r, 1 + i, rfl, hC2.same s, k, by omega, by omega, fun t H2 s2 ht => ⟨(by show 0 ≤ sizeLine; decide), fun u hu => ?_⟩⟩
    refine ⟨.tuple (dn (sL r (1 + i))), .tuple (dn []), .tup (SqT.of (same_new hu _ _ _ ht)) (dpAll_ni _), .tup (SqT.of upd_same) (dpAll_ni []), shaped_dt _, shaped_dt _, _, rfl, ?_⟩
    rw [eqv_dtt]
    exact qb _ (s2.trans (same_new hu _))
  · refine ⟨D, _, rfl, .inl ⟨SqL.of e, fun l hl => ?_⟩⟩
    refine q l _ (s.trans (same_new hl _)) (upd_same.trans ?_)
    have e3 : (2 * (r.N : Int) - 1).toNat = 2 * r.N - 1 := by omega
    unfold eL ni
    rw [e3, List.map_map]
    have e4 : ∀ i, (1 + i) = i + 1 := fun i => Nat.add_comm 1 i
    simp only [e4]
    rfl
end
end K25
namespace K25
open PySem L2 Vk
def spAbove : Sp := fun vs H Q _ => ∃ (v : Nat), vs = [.int (v : Int)] ∧ 1 ≤ v ∧ v < 32 ∧ ∀ l H', Same H H' → H l = none → H' l = some (.lst (ni (chain v))) → Q (.ref l) H'
def spIsRow : Sp := fun vs H Q _ => ∃ (t d : Addr) (ns : List Nat), vs = [.ref t, .ref d] ∧ H t = some (.tup (ni ns)) ∧ H d = some (.lst (ni ns)) ∧ ns.length ≤ 1000 ∧ ∀ H', Same H H' → Q (.bl true) H'
def spRows : Sp := fun vs H Q _ => ∃ (n : Int), vs = [.int n] ∧ ∀ p H' r, Same H H' → Rws H' p r → r.ok → Q (.ref p) H'
def spMade (K : PySem.W.Frag) (C : Addr) : Sp := fun vs H Q _ => ∃ (p : Addr) (s : Int) (r : Rows), vs = [.ref p, .int s] ∧ Rws H p r ∧ r.ok ∧ ∀ t H', Same H H' → Crw K C H' t r → Q (.ref t) H'
/-- behind a new feed: all that stood stands -/
theorem Stp.fresh {a : Addr} {H0 H H' : Hp} (h : Stp a H H') (s : Same H0 H) (n : H0 a = none) : Same H0 H' := fun b o e => h.1 b o (ne_of_none e n) (s b o e)
/-- len(rows[2][0]) + 1 -/
theorem leavesOf {K : PySem.W.Frag} {i : Nat} {p : Addr} {r : Rows} {σ : St} {H : Hp} {Q : VK} (hσ : σ[i]? = some (some (.ref p))) (hR : Rws H p r) (k : r.ok) (q : Q (.int (r.N : Int)) H) :
    tOp (rI0 fun i j => .int (i + j)) (tCB (rLenS K) (tCons (tOp (rIxL K) (tOp (rIxL K) (tVar i) (tC (.int 2))) (tC (.int 0))) tNil)) (tC (.int 1)) σ H Q := by
  obtain ⟨sa, la, as, ob, se, le, ro⟩ := hR
  have l1 := ro.len
  have l2 := k.ll
  have l3 := k.s1
  have hN := k.pow
  obtain ⟨row, er⟩ := get_of_lt (xs := r.lean) (i := 0) (by omega)
  obtain ⟨a, ea, ha⟩ := ro.get er
  have l4 := k.rl row (mem_of_get er)
  refine ⟨_, hσ, _, _, _, _, rfl, rfl, SqL.of ob, atI_nat (j := 2) rfl, _, _, _, _, rfl, rfl, SqL.of le, atI_nat (j := 0) (rf_get ea), a, _, rfl, .inl (SqL.of ha), _, _, rfl, rfl, iE (Q := Q) ?_ q⟩
  rw [ni_len]
  omega
/-- the constructor's promise, used -/
theorem mk_crew {K : PySem.W.Frag} {C : Addr} {H1 : Hp} {Q : Addr → Hp → Prop} {E : XK} {r : Rows} {sa la : Addr} {as : List Addr} (k : r.ok) (hS : Sq K H1 sa (ni r.seats)) (hL : Sq K H1 la (rf as)) (hR : LL (fun a row => Sq K H1 a (ni row)) as r.lean)
    (q : ∀ t H', Same H1 H' → Crw K C H' t r → Q t H') : ∀ x dx, H1 x = none → H1 dx = none → dx ≠ x →
      spInit K C (.ref x :: ([.int (r.h : Int), .ref sa, .ref la] ++ [])) (upd (upd H1 dx (.own x)) x (.ins C dx [])) (fun v H2 => v = .non ∧ Q x H2) E := by
  intro x dx hx hdx ne
  have s0 : Same H1 (upd (upd H1 dx (.own x)) x (.ins C dx [])) := (same_new hdx _).trans (same_new (by rw [upd_ne ne.symm]; exact hx) _)
  exact ⟨x, dx, r, sa, la, as, rfl, upd_same, k, hS.same s0, hL.same s0, hR.mono fun _ _ h => h.same s0, fun H' keep crw => ⟨rfl, q x H' (fun b o e => keep b o (ne_of_none e hx) (s0 b o e)) crw⟩⟩
/-- [tuple(row) for row in tries] -/
theorem tupRows {K : PySem.W.Frag} {j : Nat} {tr : Addr} {bs : List Addr} {ls : List (List Nat)} {σ : St} {H1 : Hp} {Q : Addr → Hp → Prop} (e : H1 tr = some (.lst (rf bs))) (h : LL (fun b row => H1 b = some (.lst (ni row))) bs ls) (hn : ls.length ≤ 1000)
    (hj : j < σ.length) (q : ∀ D H2 cs, Same H1 H2 → H2 D = some (.lst (rf cs)) → LL (fun b row => SqT K H2 b (ni row)) cs ls → Q D H2) :
    ∀ D, H1 D = none → ∃ W : Nat → Nat → Hp → Prop, (∃ m, W 0 m (upd H1 D (.lst []))) ∧ ∀ i m H, W i m H →
      ((Itl K tr).stop i H ∧ Q D H) ∨ ((Itl K tr).go i H ∧ ∃ Nx : Hp → Prop, (∀ H', Nx H' → ∃ m', m' < m ∧ W (i + 1) m' H') ∧ ∀ x H', (Itl K tr).yld i H x H' → gName j x (wipe σ [j]) H' fun σ2 H2 => wipe σ2 [j] = wipe σ [j] ∧ tYes σ2 H2 fun b H3 =>
        if b = true then (tCB (rTupOf K) (tCons (tVar j) tNil)) σ2 H3 fun y H4 => ∃ acc, H4 D = some (.lst acc) ∧ acc.length < sizeLine ∧ Nx (upd H4 D (.lst (acc ++ [y]))) else Nx H3) := by
  have l1 := h.len
  refine lc_map (n := (rf bs).length) (wk_list (xs := rf bs)) Same (trSame _) (fun H2 s => SqL.of (s _ _ e)) (by rw [rf_len]; omega)
    (fun D i y H1 => ∃ b row, y = .ref b ∧ ls[i]? = some row ∧ SqT K H1 b (ni row)) (fun D i y H1 H2 _ _ t ⟨b, row, e1, e2, e3⟩ => ⟨b, row, e1, e2, Vk.Same.tup t e3⟩)
    (fun D i y H1 acc o _ e ⟨b, row, e1, e2, e3⟩ => ⟨b, row, e1, e2, Vk.SqT.updL e3 e⟩) (fun D i H2 Qe hi hD s _ qe => ?_) (fun D H2 ys hD s e2 hys hP => ?_)
  · obtain ⟨a, eqa⟩ := get_of_lt (xs := bs) (i := i) (by rw [rf_len] at hi; exact hi)
    obtain ⟨row, er, ha⟩ := h.getL eqa
    rw [getD_of (rf_get eqa)]
    refine ⟨_, List.getElem?_set_self hj, tupOf (.inl (SqL.of (s _ _ ha))) fun t H3 s3 ht => qe _ _ s3 ⟨t, row, rfl, er, ht⟩⟩
  obtain ⟨cs, rfl, hcs⟩ := refs_of (P := fun i b => ∃ row, ls[i]? = some row ∧ SqT K H2 b (ni row)) ys fun i y hy => by
    obtain ⟨b, row, e1, e2⟩ := hP i y hy
    exact ⟨b, e1, row, e2⟩
  refine q D H2 cs s e2 ⟨by rw [← h.len, ← rf_len bs, ← hys, rf_len], fun i a row ea er => ?_⟩
  obtain ⟨row2, e3, h3⟩ := hcs i a ea
  have : row2 = row := Option.some.inj (e3.symm.trans er)
  subst this
  exact h3
theorem ixN_of {n i : Nat} (h : i < n) {z : Int} (e : z = (i : Int)) : ixN n z = some i := by
  subst e
  unfold ixN
  rw [if_pos (by omega), if_pos (by omega), Int.toNat_natCast]
theorem int_at {xs : List Int} {i : Nat} (h : i < xs.length) {z : Int} (e : z = (i : Int)) : atI (xs.map V.int) z = some (.int xs[i]) := by
  subst e
  exact atI_nat (by rw [List.getElem?_map, List.getElem?_eq_getElem h]; rfl)
/-- what stands while the rows that the crew was made of are changed -/
structure Md (K : PySem.W.Frag) (C : Addr) (H : Hp) (r : Rows) (t pl tr : Addr) (bs : List Addr) (n : Nat) (H' : Hp) : Prop where
  s : Same H H'
  c : Crw K C H' t r
  ep : ∃ xs : List Int, H' pl = some (.lst (xs.map V.int)) ∧ xs.length = n
  et : H' tr = some (.lst (rf bs))
  eb : ∀ b ∈ bs, ∃ ys : List Int, H' b = some (.lst (ys.map V.int)) ∧ 1 ≤ ys.length
section
variable {P : Program} {w : World} {K : PySem.W.Frag} {mg : Str → Option Value} {base : Heap}
theorem ok_law_rows {f : Addr} {fd : FuncData} {k : Nat} (F : Fun K "_law_rows" "_law_rows" s_law_rows f fd) (O_law_feed : Ok P w K mg base k "_law_feed" P_law_feed spFeed) (O_law_take : Ok P w K mg base k "_law_take" P_law_take spTake) (O_law_crew : Ok P w K mg base k "_law_crew" P_law_crew spLCrew) : FnOk P w K mg base CX0 (k + 1) f fd P_law_rows spRows := by
  refine F.ok sc_law_rows (fun vs H Q E h => ?_) (fun cdv A outer s H vs Q E hr h => ?_)
  · obtain ⟨n, rfl, _⟩ := h
    rfl
  obtain ⟨n, rfl, q⟩ := h
  refine ⟨_, (pss_cons (ps_set (i := 1) sc_law_rows.nd rfl (Or.inl rfl) (pe_c O_law_feed hr (by rfl) (pa_cons (pv 0) pa_nil)))
    (pss_cons (ps_set (i := 2) sc_law_rows.nd rfl (Or.inl rfl) (pe_ix (r := rIxL K) ix_list (pe_lst (pa_cons pe_int (pa_cons pe_int (pa_cons pe_int pa_nil)))) (pe_c O_law_take hr (by rfl) (pa_cons (pv 1) (pa_cons pe_int pa_nil))) (fun _ _ => rfl)))
    (pss_one (ps_ret (pe_c O_law_crew hr (by rfl) (pa_cons (pv 1) (pa_cons pe_int (pa_cons (pv 2) pa_nil)))))))), ?_⟩
  refine ⟨_, rfl, n, rfl, fun a H1 s1 na fa => ?_⟩
  refine ⟨(by show 3 ≤ sizeLine; decide), fun ml hml => rd_takeN rfl (fa.same (same_new hml _)) (by decide) (by decide) fun m H2 hm s2 => ?_⟩
  have nm : ml ≠ a := fa.ne hml
  obtain ⟨u, eu, u1, u16⟩ : ∃ u : Nat, atI [V.int 4, V.int 16, V.int 4] ((m : Nat) : Int) = some (.int (u : Int)) ∧ 1 ≤ u ∧ u ≤ 16 := by
    have : m = 0 ∨ m = 1 ∨ m = 2 := by omega
    rcases this with rfl | rfl | rfl
    · exact ⟨4, atI_nat rfl, by decide, by decide⟩
    · exact ⟨16, atI_nat rfl, by decide, by decide⟩
    · exact ⟨4, atI_nat rfl, by decide, by decide⟩
  refine ⟨_, _, _, _, rfl, rfl, SqL.of (s2.1 _ _ nm upd_same), eu, ?_⟩
  refine ⟨_, rfl, _, rfl, a, 4, u, rfl, s2.2, by decide, by decide, u1, u16, fun p H' r s3 hr k => ?_⟩
  exact q p H' r (Stp.fresh (s2.trans s3) (s1.trans (same_new hml _)) na) hr k
theorem ok_law_above {f : Addr} {fd : FuncData} {k : Nat} (F : Fun K "_law_above" "_law_above" s_law_above f fd) (mrange : mg "range" = none) : FnOk P w K mg base CX0 (k + 1) f fd P_law_above spAbove := by
  refine F.ok sc_law_above (fun vs H Q E h => ?_) (fun cdv A outer s H vs Q E hr h => ?_)
  · obtain ⟨v, rfl, _⟩ := h
    rfl
  obtain ⟨v, rfl, v1, v32, q⟩ := h
  refine ⟨_, (pss_cons (ps_set (i := 1) sc_law_above.nd rfl (Or.inl rfl) (pe_lst (pa_cons (pv 0) pa_nil)))
    (pss_cons (ps_set (i := 2) sc_law_above.nd rfl (Or.inl rfl) (pv 0))
    (pss_cons (ps_for PassesOwn.never rfl (pi_range1 (by rfl) mrange (pa_cons pe_int pa_nil)) (pg_name (i := 3) sc_law_above.nd rfl (Or.inl rfl))
      (pss_one (ps_if (pt_cmpR op_gt (pv 2) pe_int (nomark _))
        (pss_cons (ps_set (i := 2) sc_law_above.nd rfl (Or.inl rfl) (pe_op op_fdivN (pv 2) pe_int))
        (pss_one (ps_expr (pe_bm PySem.F.plainAttrs_list PySem.F.slot_list_append PySem.F.type_list_append mt_append (pv 1) (pa_cons (pv 2) pa_nil)))))
        pss_nil)))
    (pss_one (ps_ret (pv 1)))))), ?_⟩
  refine ⟨_, rfl, (by show 1 ≤ sizeLine; decide), fun c hc => ⟨_, rfl, ?_⟩⟩
  refine ⟨4, rfl, by decide, by decide, for_range (n := 4) (fun i σ H' => ∃ y, σ = [some (.int (v : Int)), some (.ref c), some (.int (((citer i ([v], v)).2 : Nat) : Int)), y] ∧ Same H H' ∧ H' c = some (.lst (ni (citer i ([v], v)).1))) ⟨_, rfl, same_new hc _, upd_same⟩ (fun i σ H' hi hp => ?_) (fun σ H' hp => ?_)⟩
  · obtain ⟨y, rfl, s, e⟩ := hp
    have hl := citer_len v v32 i (by omega)
    have hp := citer_pos v v32 v1 i (by omega)
    have st : citer (i + 1) ([v], v) = cstep (citer i ([v], v)) := rfl
    generalize citer i ([v], v) = z at *
    refine ⟨_, rfl, _, _, rfl, rfl, _, rfl, itD (fun d => ?_) (fun d => ?_)⟩
    · have e2 : Int.fdiv ((z.2 : Nat) : Int) 2 = ((z.2 / 2 : Nat) : Int) := (Int.ofNat_fdiv z.2 2).symm
      have e3 : cstep z = (z.1 ++ [z.2 / 2], z.2 / 2) := by unfold cstep; rw [if_pos (by omega)]
      refine ⟨_, rfl, _, _, rfl, rfl, ⟨by decide, by decide⟩, _, rfl, .inl ⟨rfl, _, SqL.of e⟩, _, rfl, c, _, _, rfl, rfl, e, by rw [ni_len]; exact line1000 (m := 1000) (by omega) (by decide), ?_⟩
      refine ⟨some (.int (0 + (i : Int))), ?_, same_upd s hc, ?_⟩
      · show [some (V.int (v : Int)), some (.ref c), some (.int (Int.fdiv ((z.2 : Nat) : Int) 2)), some (.int (0 + (i : Int)))] = _
        rw [e2, st, e3]
      · rw [upd_same, st, e3, ni_app]
        show some (HO.lst (ni z.1 ++ [.int (Int.fdiv ((z.2 : Nat) : Int) 2)])) = _
        rw [e2]
        rfl
    · have e3 : cstep z = z := by unfold cstep; rw [if_neg (by omega)]
      exact ⟨_, by rw [st, e3]; rfl, s, by rw [st, e3]; exact e⟩
  · obtain ⟨y, rfl, s, e⟩ := hp
    exact ⟨_, rfl, q c H' s hc e⟩
theorem ok_law_is_row {f : Addr} {fd : FuncData} {k : Nat} (F : Fun K "_law_is_row" "_law_is_row" s_law_is_row f fd) (mlist : mg "list" = none) (misinstance : mg "isinstance" = none) (mtuple : mg "tuple" = none) (O_law_whole : Ok P w K mg base k "_law_whole" P_law_whole spWhole) : FnOk P w K mg base CX0 (k + 1) f fd P_law_is_row spIsRow := by
  refine F.ok sc_law_is_row (fun vs H Q E h => ?_) (fun cdv A outer s H vs Q E hr h => ?_)
  · obtain ⟨t, d, ns, rfl, _⟩ := h
    rfl
  obtain ⟨t, d, ns, rfl, hT, hD, hn, q⟩ := h
  refine ⟨_, (pss_cons (ps_if (PW.pt (pw_or (pt_not (pt_val (pe_callB (r := rIsi K) call_isi (by rfl) misinstance (by decide +kernel) (pa_cons (pv 0) (pa_cons (pe_bltn (v := .ty "tuple") (by rfl) mtuple (by decide +kernel) rfl) pa_nil))))) (pw_or1 (pt_cmpR (r := rNeD K) (op_neD hr.units) (pe_callTy (r := rListOf K) call_listK (by rfl) mlist (by decide +kernel) (pa_cons (pv 0) pa_nil)) (pv 1) (nomark _)))))
      (pss_one (ps_ret pe_bl))
      pss_nil)
    (pss_cons (ps_for PassesOwn.never rfl (pi_tup (pv 0)) (pg_name (i := 2) sc_law_is_row.nd rfl (Or.inl rfl))
      (pss_one (ps_if (pt_not (pt_val (pe_c O_law_whole hr (by rfl) (pa_cons (pv 2) pa_nil))))
        (pss_one (ps_ret pe_bl))
        pss_nil)))
    (pss_one (ps_ret pe_bl)))), ?_⟩
  have hT' := SqT.of (K := K) hT
  refine ⟨_, rfl, _, _, _, _, _, rfl, .ty _, .base (.tup hT), kit_ty (r := true) (by decide +kernel), _, rfl, iteF ?_⟩
  refine ⟨_, rfl, t, _, rfl, .inr hT', fun l hl => ⟨_, rfl, ?_⟩⟩
  have s := same_new hl (.lst (ni ns))
  refine ⟨.list (dn ns), .list (dn ns), .lst (SqL.of upd_same) (dpAll_ni _), .lst (SqL.of (s _ _ hD)) (dpAll_ni _), shaped_dl _, shaped_dl _, _, rfl, ?_⟩
  rw [eqv_dl]
  refine iteF ⟨_, rfl, t, rfl, ⟨_, SqT.of (s _ _ hT)⟩, for_tup (xs := ni ns) (fun i σ H' => ∃ y, σ = [some (.ref t), some (.ref d), y] ∧ Same H H') ⟨_, rfl, s⟩ (fun i σ H' _ hp => ?_) (fun i x σ H' hx hp => ?_) (fun σ H' hp => ?_)⟩
  · obtain ⟨y, _, s⟩ := hp
    exact SqT.of (s _ _ hT)
  · obtain ⟨y, rfl, s⟩ := hp
    obtain ⟨n, _, rfl⟩ := ni_at hx
    exact ⟨_, rfl, _, rfl, _, rfl, iteF ⟨_, rfl, s⟩⟩
  · obtain ⟨y, rfl, s⟩ := hp
    exact q H' s
theorem ok_law_made {f C : Addr} {fd : FuncData} {k : Nat} (F : Fun K "_law_made" "_law_made" s_law_made f fd) (mlist : mg "list" = none) (NCrew : OkNew P w K mg base k C "Crew" P_Crew_init (spInit K C)) (mtuple : mg "tuple" = none) (mrange : mg "range" = none) (mlen : mg "len" = none) (T : CT K C) : FnOk P w K mg base CX0 (k + 1) f fd P_law_made (spMade K C) := by
  refine F.ok sc_law_made (fun vs H Q E h => ?_) (fun cdv A outer s H vs Q E hr h => ?_)
  · obtain ⟨p, sh, r, rfl, _⟩ := h
    rfl
  obtain ⟨p, sh, r, rfl, hR, k, q⟩ := h
  refine ⟨_, (pss_cons (ps_set (i := 2) sc_law_made.nd rfl (Or.inl rfl) (pe_callTy (r := rListOf K) call_listK (by rfl) mlist (by decide +kernel) (pa_cons (pe_ix (r := rIxL K) ix_list (pv 0) pe_int (fun _ _ => rfl)) pa_nil)))
    (pss_cons (ps_setLc (i := 3) (own := [("row", 4)]) (g := (gName 4)) (tt := tYes) rfl sc_law_made.nd rfl rfl (sw_true rfl rfl rfl (by decide +kernel)) (pi_list (pe_ix (r := rIxL K) ix_list (pv 0) pe_int (fun _ _ => rfl))) (blkOk_by (N := N_law_made) (sc := defScope s_law_made) (by decide +kernel)) (fun _ _ _ _ _ => (pg_name (i := 4) sc_law_made.nd rfl (Or.inl rfl))) (fun _ _ _ _ _ => pts_nil) (fun _ _ _ _ _ => (pe_callTy (r := rListOf K) call_listK (by rfl) mlist (by decide +kernel) (pa_cons (pv 4) pa_nil))))
    (pss_cons (ps_if (pt_cmpR op_eq (pv 1) pe_int (nomark _))
      (pss_one (ps_ret (pe_new NCrew hr (by rfl) (pa_cons (pe_ix (r := rIxL K) ix_list (pv 0) pe_int (fun _ _ => rfl)) (pa_cons (pe_callTy (r := rTupOf K) call_tupleK (by rfl) mtuple (by decide +kernel) (pa_cons (pv 2) pa_nil)) (pa_cons (pe_callTy (r := rTupOf K) call_tupleK (by rfl) mtuple (by decide +kernel) (pa_cons (pe_lc (own := [("row", 4)]) (g := (gName 4)) (tt := tYes) rfl sc_law_made.nd (pi_list (pv 3)) (blkOk_by (N := N_law_made) (sc := defScope s_law_made) (by decide +kernel)) (fun _ _ _ _ _ => (pg_name (i := 4) sc_law_made.nd rfl (Or.inl rfl))) (fun _ _ _ _ _ => pts_nil) (fun _ _ _ _ _ => (pe_callTy (r := rTupOf K) call_tupleK (by rfl) mtuple (by decide +kernel) (pa_cons (pv 4) pa_nil)))) pa_nil)) pa_nil))))))
      pss_nil)
    (C8.pss_cut (ps_if (pt_cmpR op_eq (pv 1) pe_int (nomark _))
      (pss_one (ps_set (i := 5) sc_law_made.nd rfl (Or.inl rfl) (pe_new NCrew hr (by rfl) (pa_cons (pe_ix (r := rIxL K) ix_list (pv 0) pe_int (fun _ _ => rfl)) (pa_cons (pv 2) (pa_cons (pe_callTy (r := rTupOf K) call_tupleK (by rfl) mtuple (by decide +kernel) (pa_cons (pv 3) pa_nil)) pa_nil))))))
      (pss_one (ps_if (pt_cmpR op_eq (pv 1) pe_int (nomark _))
        (pss_one (ps_set (i := 5) sc_law_made.nd rfl (Or.inl rfl) (pe_new NCrew hr (by rfl) (pa_cons (pe_ix (r := rIxL K) ix_list (pv 0) pe_int (fun _ _ => rfl)) (pa_cons (pe_callTy (r := rTupOf K) call_tupleK (by rfl) mtuple (by decide +kernel) (pa_cons (pv 2) pa_nil)) (pa_cons (pe_lc (own := [("row", 4)]) (g := (gName 4)) (tt := tYes) rfl sc_law_made.nd (pi_list (pv 3)) (blkOk_by (N := N_law_made) (sc := defScope s_law_made) (by decide +kernel)) (fun _ _ _ _ _ => (pg_name (i := 4) sc_law_made.nd rfl (Or.inl rfl))) (fun _ _ _ _ _ => pts_nil) (fun _ _ _ _ _ => (pe_callTy (r := rTupOf K) call_tupleK (by rfl) mtuple (by decide +kernel) (pa_cons (pv 4) pa_nil)))) pa_nil))))))
        (pss_one (ps_set (i := 5) sc_law_made.nd rfl (Or.inl rfl) (pe_new NCrew hr (by rfl) (pa_cons (pe_ix (r := rIxL K) ix_list (pv 0) pe_int (fun _ _ => rfl)) (pa_cons (pv 2) (pa_cons (pv 3) pa_nil)))))))))
    (pss_cons (ps_for PassesOwn.never rfl (pi_range1 (by rfl) mrange (pa_cons (pe_callB (r := rLenS K) call_lenK (by rfl) mlen (by decide +kernel) (pa_cons (pv 2) pa_nil)) pa_nil)) (pg_name (i := 6) sc_law_made.nd rfl (Or.inl rfl))
      (pss_cons (ps_set (i := 4) sc_law_made.nd rfl (Or.inl rfl) (pe_ix (r := rIxL K) ix_list (pv 3) (pv 6) (fun _ _ => rfl)))
      (pss_cons (ps_asg (pe_op op_sub pe_int (pe_ix (r := rIxL K) ix_list (pv 4) pe_int (fun _ _ => rfl))) (pg_sub (pv 4) pe_int set_list))
      (pss_one (ps_asg (pe_op op_sub (pe_callB (r := rLenS K) call_lenK (by rfl) mlen (by decide +kernel) (pa_cons (pv 4) pa_nil)) (pe_ix (r := rIxL K) ix_list (pv 2) (pv 6) (fun _ _ => rfl))) (pg_sub (pv 2) (pv 6) set_list))))))
    (pss_one (ps_ret (pv 5)))))))), ?_⟩
  obtain ⟨sa, la, as, ob, se, le, ro⟩ := hR
  have l1 := ro.len
  have l2 := k.ll
  have s16 := k.s16
  refine ⟨_, rfl, _, _, _, _, rfl, rfl, SqL.of ob, atI_nat (j := 1) rfl, sa, _, rfl, .inl (SqL.of se), fun pl hpl => ?_⟩
  have t1 := same_new hpl (.lst (ni r.seats))
  refine ⟨_, rfl, _, _, _, _, rfl, rfl, SqL.of (t1 _ _ ob), atI_nat (j := 2) rfl, la, rfl, ⟨_, SqL.of (t1 _ _ le)⟩, ?_⟩
  refine lc_map (n := (rf as).length) (wk_list (xs := rf as)) Same (trSame _) (fun H1 s => SqL.of (s _ _ (t1 _ _ le))) (by rw [rf_len]; omega)
    (fun D i y H1 => ∃ b row, y = .ref b ∧ r.lean[i]? = some row ∧ H1 b = some (.lst (ni row)) ∧ b ≠ D ∧ b ≠ pl ∧ H b = none) (fun D i y H1 H2 _ _ t ⟨b, row, e1, e2, e3, e4⟩ => ⟨b, row, e1, e2, t _ _ e3, e4⟩)
    (fun D i y H1 acc o _ _ ⟨b, row, e1, e2, e3, e4⟩ => ⟨b, row, e1, e2, upd_keep e3 e4.1, e4⟩) (fun D i H1 Qe hi hD s ⟨acc, ea, _⟩ qe => ?_) (fun tr H1 ys htr s e hys hP => ?_)
  · obtain ⟨a, eqa⟩ := get_of_lt (xs := as) (i := i) (by rw [rf_len] at hi; exact hi)
    obtain ⟨row, er, ha⟩ := ro.getL eqa
    rw [getD_of (rf_get eqa)]
    refine ⟨_, rfl, a, _, rfl, .inl (SqL.of (s _ _ (t1 _ _ ha))), fun l hl => qe _ _ (same_new hl _) ⟨l, row, rfl, er, upd_same, (ne_of_none ea hl).symm, (ne_of_none (s _ _ upd_same) hl).symm, t1.free (s.free hl)⟩⟩
  obtain ⟨bs, rfl, hbs⟩ := refs_of (P := fun i b => ∃ row, r.lean[i]? = some row ∧ H1 b = some (.lst (ni row)) ∧ b ≠ tr ∧ b ≠ pl ∧ H b = none) ys fun i y hy => by
    obtain ⟨b, row, e1, e2⟩ := hP i y hy
    exact ⟨b, e1, row, e2⟩
  have lb : bs.length = r.lean.length := by rw [← rf_len bs, hys, rf_len, l1]
  have hb : LL (fun b row => H1 b = some (.lst (ni row))) bs r.lean := ⟨lb, fun i a row ea er => by
    obtain ⟨row2, e3, h3⟩ := hbs i a ea
    have : row2 = row := Option.some.inj (e3.symm.trans er)
    subst this
    exact h3.1⟩
  have st := t1.trans s
  have epl : H1 pl = some (.lst (ni r.seats)) := s _ _ upd_same
  have ob1 := st _ _ ob
  have npl : H pl = none := hpl
  have ntr : H tr = none := t1.free htr
  have ntp : tr ≠ pl := (ne_of_none upd_same htr).symm
  refine ⟨_, rfl, rfl, _, rfl, iteI (fun c => ?_) (fun c => ?_)⟩
  · refine ⟨_, rfl, _, _, _, _, rfl, rfl, SqL.of ob1, atI_nat (j := 0) rfl, _, rfl, pl, _, rfl, .inl ⟨SqL.of epl, fun u hu => ?_⟩⟩
    have s1 := same_new hu (.tup (ni r.seats))
    refine ⟨_, rfl, tr, rfl, ⟨_, SqL.of (s1 _ _ e)⟩, tupRows (bs := bs) (ls := r.lean) (s1 _ _ e) (hb.mono fun _ _ h => s1 _ _ h) (by omega) (by show 4 < 7; decide) fun D H2 cs s2 e2 h2 => ⟨D, _, rfl, .inl ⟨SqL.of e2, fun v hv => ?_⟩⟩⟩
    have s3 := same_new hv (.tup (rf cs))
    intro x dx hx hdx ne
    exact mk_crew k (.inr (SqT.of (s3 _ _ (s2 _ _ upd_same)))) (.inr (SqT.of upd_same)) (h2.mono fun _ _ h => .inr (Vk.Same.tup s3 h)) (fun t H' s4 crw => q t H' (st.trans (s1.trans (s2.trans (s3.trans s4)))) crw) x dx hx hdx ne
  refine ⟨fun σ' H' => ∃ t y4, σ' = [some (.ref p), some (.int (sh : Int)), some (.ref pl), some (.ref tr), y4, some (.ref t), none] ∧ Md K C H r t pl tr bs r.seats.length H', ?_, fun σ' H' hm => ?_⟩
  · have fin : ∀ t H', Same H1 H' → Crw K C H' t r → Md K C H r t pl tr bs r.seats.length H' := fun t H' s2 crw =>
      ⟨st.trans s2, crw, ⟨r.seats.map fun n : Nat => (n : Int), by rw [List.map_map]; exact s2 _ _ epl, List.length_map ..⟩, s2 _ _ e, fun b hbm => by
        obtain ⟨i, hi⟩ := List.getElem?_of_mem hbm
        obtain ⟨row, er, h⟩ := hb.getL hi
        have h1 := k.rl row (mem_of_get er)
        have hN := k.pow
        exact ⟨row.map fun n : Nat => (n : Int), by rw [List.map_map]; exact s2 _ _ h, by rw [List.length_map]; omega⟩⟩
    refine ⟨_, rfl, rfl, _, rfl, iteI (fun c2 => ?_) (fun c2 => ?_)⟩
    · refine ⟨_, rfl, _, _, _, _, rfl, rfl, SqL.of ob1, atI_nat (j := 0) rfl, _, rfl, _, rfl, tr, _, rfl, .inl ⟨SqL.of e, fun v hv => ?_⟩⟩
      have s1 := same_new hv (.tup (rf bs))
      intro x dx hx hdx ne
      exact mk_crew (Q := fun x H2 => ∃ t y4, ([some (.ref p), some (.int (sh : Int)), some (.ref pl), some (.ref tr), none, some (.ref x), none] : St) = [some (.ref p), some (.int (sh : Int)), some (.ref pl), some (.ref tr), y4, some (.ref t), none] ∧ Md K C H r t pl tr bs r.seats.length H2) k (.inl (SqL.of (s1 _ _ epl))) (.inr (SqT.of upd_same)) (hb.mono fun _ _ h => .inl (SqL.of (s1 _ _ h))) (fun t H' s4 crw => ⟨t, _, rfl, fin t H' (s1.trans s4) crw⟩) x dx hx hdx ne
    refine ⟨_, rfl, rfl, _, rfl, iteI (fun c3 => ?_) (fun c3 => ?_)⟩
    · refine ⟨_, rfl, _, _, _, _, rfl, rfl, SqL.of ob1, atI_nat (j := 0) rfl, _, rfl, pl, _, rfl, .inl ⟨SqL.of epl, fun u hu => ?_⟩⟩
      have s1 := same_new hu (.tup (ni r.seats))
      refine ⟨_, rfl, tr, rfl, ⟨_, SqL.of (s1 _ _ e)⟩, tupRows (bs := bs) (ls := r.lean) (s1 _ _ e) (hb.mono fun _ _ h => s1 _ _ h) (by omega) (by show 4 < 7; decide) fun D H2 cs s2 e2 h2 => ?_⟩
      intro x dx hx hdx ne
      exact mk_crew (Q := fun x H2 => ∃ t y4, ([some (.ref p), some (.int (sh : Int)), some (.ref pl), some (.ref tr), none, some (.ref x), none] : St) = [some (.ref p), some (.int (sh : Int)), some (.ref pl), some (.ref tr), y4, some (.ref t), none] ∧ Md K C H r t pl tr bs r.seats.length H2) k (.inr (SqT.of (s2 _ _ upd_same))) (.inl (SqL.of e2)) (h2.mono fun _ _ h => .inr h) (fun t H' s4 crw => ⟨t, _, rfl, fin t H' (s1.trans (s2.trans s4)) crw⟩) x dx hx hdx ne
    · refine ⟨_, rfl, _, _, _, _, rfl, rfl, SqL.of ob1, atI_nat (j := 0) rfl, _, rfl, _, rfl, ?_⟩
      intro x dx hx hdx ne
      exact mk_crew (Q := fun x H2 => ∃ t y4, ([some (.ref p), some (.int (sh : Int)), some (.ref pl), some (.ref tr), none, some (.ref x), none] : St) = [some (.ref p), some (.int (sh : Int)), some (.ref pl), some (.ref tr), y4, some (.ref t), none] ∧ Md K C H r t pl tr bs r.seats.length H2) k (.inl (SqL.of epl)) (.inl (SqL.of e)) (hb.mono fun _ _ h => .inl (SqL.of h)) (fun t H' s4 crw => ⟨t, _, rfl, fin t H' s4 crw⟩) x dx hx hdx ne
  obtain ⟨t, y4, rfl, M⟩ := hm
  obtain ⟨xs0, ex0, lx0⟩ := M.ep
  refine ⟨_, rfl, pl, _, rfl, .inl (SqL.of ex0), _, rfl, by rw [List.length_map]; omega, by rw [List.length_map]; omega, for_range (n := _) (fun i σ H' => ∃ y4 y6, σ = [some (.ref p), some (.int (sh : Int)), some (.ref pl), some (.ref tr), y4, some (.ref t), y6] ∧ Md K C H r t pl tr bs r.seats.length H') ⟨_, _, rfl, M⟩ (fun i σ H' hi hp => ?_) (fun σ H' hp => ?_)⟩
  · obtain ⟨y4, y6, rfl, M⟩ := hp
    rw [List.length_map, lx0] at hi
    have hi2 : i < r.seats.length := by omega
    obtain ⟨b, eb⟩ := get_of_lt (xs := bs) (i := i) (by omega)
    obtain ⟨row, er, h3, nbt, nbp, nbH⟩ := hbs i b eb
    obtain ⟨ys, ey, ly⟩ := M.eb b (mem_of_get eb)
    obtain ⟨xs, ex, lx⟩ := M.ep
    have z : (0 : Int) + (i : Int) = ((i : Nat) : Int) := Int.zero_add _
    refine ⟨_, rfl, _, rfl, _, _, _, _, rfl, rfl, SqL.of M.et, by rw [z]; exact atI_nat (rf_get eb), ?_⟩
    refine ⟨_, rfl, _, _, _, _, rfl, rfl, SqL.of ey, int_at (i := 0) (by omega) rfl, _, _, rfl, rfl, _, rfl, b, _, _, 0, rfl, rfl, ey, ixN_of (by rw [List.length_map]; omega) rfl, ?_⟩
    have sb : Same H (upd H' b (.lst ((ys.map V.int).set 0 (.int (1 - ys[0]))))) := same_upd M.s nbH
    refine ⟨_, rfl, b, _, rfl, .inl (SqL.of upd_same), _, rfl, _, rfl, _, _, _, _, rfl, rfl, SqL.of (upd_keep ex (Ne.symm nbp)), int_at (i := i) (by omega) z, _, _, rfl, rfl, _, rfl, _, rfl, pl, _, _, i, rfl, rfl, upd_keep ex (Ne.symm nbp), ixN_of (by rw [List.length_map]; omega) z, ?_⟩
    have eset : ∀ (l : List Int) (j : Nat) (v : Int), (l.map V.int).set j (.int v) = (l.set j v).map V.int := fun l j v => List.map_set.symm
    refine ⟨_, _, rfl, ⟨same_upd sb npl, (M.c.updL ey).updL (upd_keep ex (Ne.symm nbp)), ⟨_, upd_same.trans (by rw [eset]), by rw [List.length_set]; exact lx⟩, upd_keep (upd_keep M.et (Ne.symm nbt)) ntp, fun b2 hb2 => ?_⟩⟩
    obtain ⟨i2, hi2⟩ := List.getElem?_of_mem hb2
    obtain ⟨row2, er2, h32, nbt2, nbp2, nbH2⟩ := hbs i2 b2 hi2
    by_cases cb : b2 = b
    · subst cb
      refine ⟨ys.set 0 (1 - ys[0]), (upd_ne nbp2).trans (upd_same.trans (congrArg (fun l => some (HO.lst l)) (eset _ _ _))), by rw [List.length_set]; exact ly⟩
    · obtain ⟨zs, ez, lz⟩ := M.eb b2 hb2
      exact ⟨zs, upd_keep (upd_keep ez cb) nbp2, lz⟩
  · obtain ⟨y4, y6, rfl, M⟩ := hp
    exact ⟨_, rfl, q t H' M.s M.c⟩
end
end K25
namespace K25
open PySem L2 Vk
theorem for_rangeL {lo n : Nat} {g : TG} {tb : TS} {D : Ends} {σ : St} {H : Hp} (Pv : Nat → St → Hp → Prop) (h0 : Pv 0 σ H) (hs : ∀ i σ H, i < n → Pv i σ H → g (.int ((lo + i : Nat) : Int)) σ H fun σ2 H2 => tb { D with nx := Pv (i + 1), ct := Pv (i + 1), bk := D.nx } σ2 H2) (hd : ∀ σ H, Pv n σ H → D.nx σ H) :
    ∃ W : Nat → Nat → St → Hp → Prop, (∃ m, W 0 m σ H) ∧ ∀ i m σ H, W i m σ H → ((Itr (lo : Int) n).stop i H ∧ D.nx σ H) ∨ ((Itr (lo : Int) n).go i H ∧ ∃ N : St → Hp → Prop, (∀ σ' H', N σ' H' → ∃ m', m' < m ∧ W (i + 1) m' σ' H') ∧ ∀ x H', (Itr (lo : Int) n).yld i H x H' → g x σ H' fun σ2 H2 => tb { D with nx := N, ct := N, bk := D.nx } σ2 H2) :=
  for_range (lo := (lo : Int)) Pv h0 (fun i σ H hi hp => by rw [← Int.natCast_add]; exact hs i σ H hi hp) hd
theorem for_range0 {n : Nat} {g : TG} {tb : TS} {D : Ends} {σ : St} {H : Hp} (Pv : Nat → St → Hp → Prop) (h0 : Pv 0 σ H) (hs : ∀ i σ H, i < n → Pv i σ H → g (.int (i : Int)) σ H fun σ2 H2 => tb { D with nx := Pv (i + 1), ct := Pv (i + 1), bk := D.nx } σ2 H2) (hd : ∀ σ H, Pv n σ H → D.nx σ H) :
    ∃ W : Nat → Nat → St → Hp → Prop, (∃ m, W 0 m σ H) ∧ ∀ i m σ H, W i m σ H → ((Itr 0 n).stop i H ∧ D.nx σ H) ∨ ((Itr 0 n).go i H ∧ ∃ N : St → Hp → Prop, (∀ σ' H', N σ' H' → ∃ m', m' < m ∧ W (i + 1) m' σ' H') ∧ ∀ x H', (Itr 0 n).yld i H x H' → g x σ H' fun σ2 H2 => tb { D with nx := N, ct := N, bk := D.nx } σ2 H2) :=
  for_range (lo := 0) Pv h0 (fun i σ H hi hp => by rw [Int.zero_add]; exact hs i σ H hi hp) hd
def spTreeH : Sp := fun vs H Q _ => ∃ (N : Nat) (b : Bool), vs = [.int (N : Int), .bl b] ∧ 2 ≤ N ∧ N ≤ 16 ∧ ∀ H', Same H H' → Q (.bl true) H'
def spSeatsH (K : PySem.W.Frag) (C : Addr) : Sp := fun vs H Q _ => ∃ (p q : Addr) (r : Rows) (b : Bool), vs = [.ref p, .ref q, .bl b] ∧ Crw K C H p r ∧ Rws H q r ∧ r.ok ∧ ∀ H', Same H H' → Q (.bl true) H'
theorem eL_succ (r : Rows) (n : Nat) : eL r (n + 1) = eL r n ++ (if sL r (n + 1) = [] then [n + 1] else []) := by
  unfold eL
  rw [List.range_succ, List.filter_append, List.map_append]
  by_cases c : sL r (n + 1) = []
  · rw [if_pos c]
    simp [c]
  · rw [if_neg c]
    simp [c]
section
variable {P : Program} {w : World} {K : PySem.W.Frag} {mg : Str → Option Value} {base : Heap}
theorem ok_law_tree_holds {f : Addr} {fd : FuncData} {k : Nat} (F : Fun K "_law_tree_holds" "_law_tree_holds" s_law_tree_holds f fd) (mrange : mg "range" = none) (O_law_above : Ok P w K mg base k "_law_above" P_law_above spAbove) (Odepth_of : Ok P w K mg base k "depth_of" P_depth_of spDepth) (OKdepth_of_kw_node : OkK P w K mg base k "depth_of" P_depth_of ["node"] kg_depth_of_kw_node kg_depth_of_kw_node spDepth) (mlen : mg "len" = none) (O_law_whole : Ok P w K mg base k "_law_whole" P_law_whole spWhole) (OKis_under_kw_top_node : OkK P w K mg base k "is_under" P_is_under ["top", "node"] kg_is_under_kw_top_node kg_is_under_kw_top_node spUnder) (Ois_under : Ok P w K mg base k "is_under" P_is_under spUnder) (misinstance : mg "isinstance" = none) (mbool : mg "bool" = none) : FnOk P w K mg base CX0 (k + 1) f fd P_law_tree_holds spTreeH := by
  refine F.ok sc_law_tree_holds (fun vs H Q E h => ?_) (fun cdv A outer s H vs Q E hr h => ?_)
  · obtain ⟨N, b, rfl, _⟩ := h
    rfl
  obtain ⟨N, b, rfl, n2, n16, q⟩ := h
  refine ⟨_, (pss_cons (ps_for PassesOwn.never rfl (pi_range2 (by rfl) mrange (pa_cons pe_int (pa_cons (pe_op op_mul pe_int (pv 0)) pa_nil))) (pg_name (i := 2) sc_law_tree_holds.nd rfl (Or.inl rfl))
      (pss_cons (ps_set (i := 3) sc_law_tree_holds.nd rfl (Or.inl rfl) (pe_c O_law_above hr (by rfl) (pa_cons (pv 2) pa_nil)))
      (pss_cons (ps_set (i := 4) sc_law_tree_holds.nd rfl (Or.inl rfl) (pe_c Odepth_of hr (by rfl) (pa_cons (pv 2) pa_nil)))
      (C8.pss_cut (ps_if (pt_val (pv 1))
        (pss_one (ps_set (i := 4) sc_law_tree_holds.nd rfl (Or.inl rfl) (pe_ck OKdepth_of_kw_node hr (by rfl) (pk_cons (pv 2) pk_nil))))
        pss_nil)
      (pss_cons (ps_if (PW.pt (pw_or (pt_not (pt_val (pe_c O_law_whole hr (by rfl) (pa_cons (pv 4) pa_nil)))) (pw_or1 (pt_cmpR op_ne (pv 4) (pe_op op_sub (pe_callB (r := rLenS K) call_lenK (by rfl) mlen (by decide +kernel) (pa_cons (pv 3) pa_nil)) pe_int) (nomark _)))))
        (pss_one (ps_ret pe_bl))
        pss_nil)
      (pss_one (ps_for PassesOwn.never rfl (pi_range2 (by rfl) mrange (pa_cons pe_int (pa_cons (pe_op op_mul pe_int (pv 0)) pa_nil))) (pg_name (i := 5) sc_law_tree_holds.nd rfl (Or.inl rfl))
        (C8.pss_cut (ps_if (pt_val (pv 1))
          (pss_one (ps_set (i := 6) sc_law_tree_holds.nd rfl (Or.inl rfl) (pe_ck OKis_under_kw_top_node hr (by rfl) (pk_cons (pv 5) (pk_cons (pv 2) pk_nil)))))
          (pss_one (ps_set (i := 6) sc_law_tree_holds.nd rfl (Or.inl rfl) (pe_c Ois_under hr (by rfl) (pa_cons (pv 2) (pa_cons (pv 5) pa_nil))))))
        (pss_one (ps_if (PW.pt (pw_or (pt_not (pt_val (pe_callB (r := rIsi K) call_isi (by rfl) misinstance (by decide +kernel) (pa_cons (pv 6) (pa_cons (pe_bltn (v := .ty "bool") (by rfl) mbool (by decide +kernel) rfl) pa_nil))))) (pw_or1 (pt_cmpR op_ne (pv 6) (pe_cmpR (r := rIn K false) op_in_seq (pv 5) (pv 3) (by rfl)) (nomark _)))))
          (pss_one (ps_ret pe_bl))
          pss_nil))))))))))
    (pss_one (ps_ret pe_bl))), ?_⟩
  refine ⟨_, rfl, _, _, rfl, rfl, .inl ⟨by decide, by decide⟩, 1, _, rfl, ⟨by omega, by omega, by omega, by omega⟩, for_rangeL (lo := 1) (n := (2 * (N : Int) - 1).toNat) (fun i σ H' => ∃ y2 y3 y4 y5 y6, σ = [some (.int (N : Int)), some (.bl b), y2, y3, y4, y5, y6] ∧ Same H H')
    ⟨_, _, _, _, _, rfl, fun _ _ z => z⟩ (fun i σ H' hi hp => ?_) (fun σ H' hp => ?_)⟩
  · obtain ⟨y2, y3, y4, y5, y6, rfl, s⟩ := hp
    have v1 : 1 ≤ 1 + i := by omega
    have v32 : 1 + i < 32 := by omega
    generalize 1 + i = v at v1 v32
    refine ⟨_, rfl, v, rfl, v1, v32, fun l H1 s1 fl el => ?_⟩
    refine ⟨_, rfl, v, rfl, v1, v32, ?_⟩
    refine ⟨fun σ' H' => σ' = [some (.int (N : Int)), some (.bl b), some (.int (v : Int)), some (.ref l), some (.int (((chain v).length - 1 : Nat) : Int)), y5, y6] ∧ H' = H1, ?_, fun σ' H' hm => ?_⟩
    · refine ⟨_, rfl, b, rfl, ?_⟩
      cases b with
      | false => exact iteF ⟨rfl, rfl⟩
      | true => exact iteT ⟨_, rfl, v, rfl, v1, v32, rfl, rfl⟩
    obtain ⟨rfl, rfl⟩ := hm
    have c1 := chain_one v v32 v1
    refine ⟨_, rfl, _, rfl, _, rfl, iteF ⟨_, rfl, _, rfl, l, _, rfl, .inl (SqL.of el), _, _, rfl, rfl, rfl, _, rfl, itTn ?_ ?_⟩⟩
    · rw [ni_len]
      exact congrArg V.int (by omega)
    refine ⟨_, rfl, _, _, rfl, rfl, .inl ⟨by decide, by decide⟩, 1, _, rfl, ⟨by omega, by omega, by omega, by omega⟩, for_rangeL (lo := 1) (n := (2 * (N : Int) - 1).toNat) (fun i σ H2 => ∃ y5 y6, σ = [some (.int (N : Int)), some (.bl b), some (.int (v : Int)), some (.ref l), some (.int (((chain v).length - 1 : Nat) : Int)), y5, y6] ∧ H2 = H')
      ⟨_, _, rfl, rfl⟩ (fun j σ H2 hj hp => ?_) (fun σ H2 hp => ?_)⟩
    · obtain ⟨y5, y6, rfl, rfl⟩ := hp
      have t1 : 1 ≤ 1 + j := by omega
      have t32 : 1 + j < 32 := by omega
      generalize 1 + j = t at t1 t32
      refine ⟨fun σ' H3 => σ' = [some (.int (N : Int)), some (.bl b), some (.int (v : Int)), some (.ref l), some (.int (((chain v).length - 1 : Nat) : Int)), some (.int (t : Int)), some (.bl (un v t))] ∧ H3 = H2, ?_, fun σ' H3 hm => ?_⟩
      · refine ⟨_, rfl, b, rfl, ?_⟩
        cases b with
        | false => exact iteF ⟨_, rfl, _, rfl, v, t, rfl, v1, v32, t1, t32, rfl, rfl⟩
        | true => exact iteT ⟨_, rfl, _, rfl, v, t, rfl, v1, v32, t1, t32, rfl, rfl⟩
      obtain ⟨rfl, rfl⟩ := hm
      refine ⟨_, rfl, _, _, _, _, _, rfl, .ty _, .base (.bl _), kit_ty (r := true) (by decide +kernel), _, rfl, iteF ?_⟩
      refine ⟨_, rfl, _, rfl, _, rfl, l, _, rfl, .inl (SqL.of el), rfl, flat_ni _, rfl, _, rfl, itTn ?_ ⟨_, _, rfl, rfl⟩⟩
      exact congrArg V.bl (inV_ni t (chain v)).symm
    · obtain ⟨y5, y6, rfl, rfl⟩ := hp
      exact ⟨_, _, _, _, _, rfl, s.trans s1⟩
  · obtain ⟨y2, y3, y4, y5, y6, rfl, s⟩ := hp
    exact q H' s
theorem ok_law_seats_hold {f C : Addr} {fd : FuncData} {k : Nat} (F : Fun K "_law_seats_hold" "_law_seats_hold" s_law_seats_hold f fd) (mlen : mg "len" = none) (O_law_above : Ok P w K mg base k "_law_above" P_law_above spAbove) (mrange : mg "range" = none) (OKseated_kw_node_crew : OkK P w K mg base k "seated" P_seated ["node", "crew"] kg_seated_kw_node_crew kg_seated_kw_node_crew (spSeated K C)) (Oseated : Ok P w K mg base k "seated" P_seated (spSeated K C)) (O_law_is_row : Ok P w K mg base k "_law_is_row" P_law_is_row spIsRow) (OKunseated_nodes_kw_crew : OkK P w K mg base k "unseated_nodes" P_unseated_nodes ["crew"] kg_unseated_nodes_kw_crew kg_unseated_nodes_kw_crew (spUnseated K C)) (Ounseated_nodes : Ok P w K mg base k "unseated_nodes" P_unseated_nodes (spUnseated K C)) (T : CT K C) : FnOk P w K mg base CX0 (k + 1) f fd P_law_seats_hold (spSeatsH K C) := by
  refine F.ok sc_law_seats_hold (fun vs H Q E h => ?_) (fun cdv A outer s H vs Q E hr h => ?_)
  · obtain ⟨p, p2, r, b, rfl, _⟩ := h
    rfl
  obtain ⟨p, p2, r, b, rfl, hC, hR, k, q⟩ := h
  refine ⟨_, (pss_cons (ps_set (i := 3) sc_law_seats_hold.nd rfl (Or.inr rfl) (pe_op op_add (pe_callB (r := rLenS K) call_lenK (by rfl) mlen (by decide +kernel) (pa_cons (pe_ix (r := rIxL K) ix_list (pe_ix (r := rIxL K) ix_list (pv 1) pe_int (fun _ _ => rfl)) pe_int (fun _ _ => rfl)) pa_nil)) pe_int))
    (pss_cons (ps_asg (pe_lc (own := [("seat", 5)]) (g := (gName 5)) (tt := tYes) rfl sc_law_seats_hold.nd (pi_list (pe_ix (r := rIxL K) ix_list (pv 1) pe_int (fun _ _ => rfl))) (blkOk_by (N := N_law_seats_hold) (sc := defScope s_law_seats_hold) (by decide +kernel)) (fun _ _ _ _ _ => (pg_name (i := 5) sc_law_seats_hold.nd rfl (Or.inl rfl))) (fun _ _ _ _ _ => pts_nil) (fun _ _ _ _ _ => (pe_c O_law_above hr (by rfl) (pa_cons (pe_op op_add (pv 3) (pv 5)) pa_nil)))) (pg_name (i := 4) sc_law_seats_hold.nd rfl (Or.inr rfl)))
    (pss_cons (ps_set (i := 6) sc_law_seats_hold.nd rfl (Or.inl rfl) (pe_lst pa_nil))
    (pss_cons (ps_for PassesOwn.never rfl (pi_range2 (by rfl) mrange (pa_cons pe_int (pa_cons (pe_op op_mul pe_int (pv 3)) pa_nil))) (pg_name (i := 7) sc_law_seats_hold.nd rfl (Or.inr rfl))
      (pss_cons (ps_setLc (i := 8) (own := [("k", 9)]) (g := (gName 9)) rfl sc_law_seats_hold.nd rfl rfl (sw_true rfl rfl rfl (by decide +kernel)) (pi_range1 (by rfl) mrange (pa_cons (pe_callB (r := rLenS K) call_lenK (by rfl) mlen (by decide +kernel) (pa_cons (pv 4) pa_nil)) pa_nil)) (blkOk_by (N := N_law_seats_hold) (sc := defScope s_law_seats_hold) (by decide +kernel)) (fun _ _ _ _ _ => (pg_name (i := 9) sc_law_seats_hold.nd rfl (Or.inl rfl))) (fun _ _ _ _ _ => pts_one (pt_cmpR (r := rIn K false) op_in_seq (pv 7) (pe_ix (r := rIxL K) ix_list (pv 4) (pv 9) (fun _ _ => rfl)) (by rfl))) (fun _ _ _ _ _ => (pv 9)))
      (C8.pss_cut (ps_if (pt_val (pv 2))
        (pss_one (ps_set (i := 10) sc_law_seats_hold.nd rfl (Or.inl rfl) (pe_ck OKseated_kw_node_crew hr (by rfl) (pk_cons (pv 7) (pk_cons (pv 0) pk_nil)))))
        (pss_one (ps_set (i := 10) sc_law_seats_hold.nd rfl (Or.inl rfl) (pe_c Oseated hr (by rfl) (pa_cons (pv 0) (pa_cons (pv 7) pa_nil))))))
      (pss_cons (ps_if (pt_not (pt_val (pe_c O_law_is_row hr (by rfl) (pa_cons (pv 10) (pa_cons (pv 8) pa_nil)))))
        (pss_one (ps_ret pe_bl))
        pss_nil)
      (pss_one (ps_if (pt_cmpR op_eq (pe_callB (r := rLenS K) call_lenK (by rfl) mlen (by decide +kernel) (pa_cons (pv 8) pa_nil)) pe_int (nomark _))
        (pss_one (ps_expr (pe_bm PySem.F.plainAttrs_list PySem.F.slot_list_append PySem.F.type_list_append mt_append (pv 6) (pa_cons (pv 7) pa_nil))))
        pss_nil))))))
    (pss_cons (ps_if (pt_val (pv 2))
      (pss_one (ps_ret (pe_c O_law_is_row hr (by rfl) (pa_cons (pe_ck OKunseated_nodes_kw_crew hr (by rfl) (pk_cons (pv 0) pk_nil)) (pa_cons (pv 6) pa_nil)))))
      pss_nil)
    (pss_one (ps_ret (pe_c O_law_is_row hr (by rfl) (pa_cons (pe_c Ounseated_nodes hr (by rfl) (pa_cons (pv 0) pa_nil)) (pa_cons (pv 6) pa_nil)))))))))), ?_⟩
  have hN := k.pow
  have s16 := k.s16
  refine leavesOf rfl hR k ?_
  obtain ⟨sa, la, as, ob, se, le, ro⟩ := hR
  refine ⟨_, rfl, _, _, _, _, rfl, rfl, SqL.of ob, atI_nat (j := 1) rfl, sa, rfl, ⟨_, SqL.of se⟩, ?_⟩
  refine lc_map (n := (ni r.seats).length) (wk_list (xs := ni r.seats)) Same (trSame _) (fun H1 s => SqL.of (s _ _ se)) (by rw [ni_len]; omega)
    (fun D i y H1 => ∃ b x, y = .ref b ∧ r.seats[i]? = some x ∧ H1 b = some (.lst (ni (chain (r.N + x)))) ∧ b ≠ D) (fun D i y H1 H2 _ _ t ⟨b, x, e1, e2, e3, e4⟩ => ⟨b, x, e1, e2, t _ _ e3, e4⟩)
    (fun D i y H1 acc o _ _ ⟨b, x, e1, e2, e3, e4⟩ => ⟨b, x, e1, e2, upd_keep e3 e4, e4⟩) (fun D i H1 Qe hi hD s ⟨acc, ea, _⟩ qe => ?_) (fun ch Hc ys hch s e hys hP => ?_)
  · obtain ⟨x, ex⟩ := get_of_lt (xs := r.seats) (i := i) (by rw [ni_len] at hi; exact hi)
    have hx := k.sN x (mem_of_get ex)
    rw [getD_of (ni_get ex)]
    refine ⟨_, rfl, _, rfl, _, _, rfl, rfl, r.N + x, rfl, by omega, by omega, fun l H' sl fl el => qe _ _ sl ⟨l, x, rfl, ex, el, ?_⟩⟩
    exact (ne_of_none ea fl).symm
  obtain ⟨cs, rfl, hcs⟩ := refs_of (P := fun i b => ∃ x, r.seats[i]? = some x ∧ Hc b = some (.lst (ni (chain (r.N + x))))) ys fun i y hy => by
    obtain ⟨b, x, e1, e2, e3, _⟩ := hP i y hy
    exact ⟨b, e1, x, e2, e3⟩
  have lcs : cs.length = r.seats.length := by rw [← rf_len cs, hys, ni_len]
  refine ⟨(by show 0 ≤ sizeLine; decide), fun em hem => ?_⟩
  have hC' := hC.same s
  have H1same := same_new hem (.lst [])
  have fr : ∀ (v7 y5 y8 y9 y10 : Option V), [some (V.ref p), some (.ref p2), some (.bl b), some (.int (r.N : Int)), some (.ref ch), y5, some (.ref em), v7, y8, y9, y10] = [some (V.ref p), some (.ref p2), some (.bl b), some (.int (r.N : Int)), some (.ref ch), y5, some (.ref em), v7, y8, y9, y10] := fun _ _ _ _ _ => rfl
  refine ⟨_, rfl, _, _, rfl, rfl, .inl ⟨by decide, by decide⟩, 1, _, rfl, ⟨by omega, by omega, by omega, by omega⟩, for_rangeL (lo := 1) (n := (2 * (r.N : Int) - 1).toNat) (fun i σ H' => ∃ v7 y5 y8 y9 y10, σ = [some (.ref p), some (.ref p2), some (.bl b), some (.int (r.N : Int)), some (.ref ch), y5, some (.ref em), v7, y8, y9, y10] ∧ Same Hc H' ∧ H' em = some (.lst (ni (eL r i))))
    ⟨_, _, _, _, _, rfl, H1same, upd_same⟩ (fun i σ H' hi hp => ?_) (fun σ H' hp => ?_)⟩
  · obtain ⟨v7, y5, y8, y9, y10, rfl, s2, e2⟩ := hp
    have v1 : 1 ≤ 1 + i := by omega
    have v32 : 1 + i < 32 := by omega
    have ei : 1 + i = i + 1 := by omega
    generalize ev : 1 + i = v at v1 v32
    have hC2 := hC'.same s2
    have ech := s2 _ _ e
    refine ⟨_, rfl, ch, _, rfl, .inl (SqL.of ech), _, rfl, by rw [rf_len]; omega, by rw [rf_len]; omega, ?_⟩
    refine lc_filt (n := ((rf cs).length : Int).toNat) wk_range (fun _ _ => trivial) (by rw [rf_len]; omega) (fun j => inV (.int (v : Int)) (ni (chain (r.N + r.seats.getD j 0)))) (fun j => .int (j : Int))
      (fun j H3 Qb hj s3 qb => ?_) (fun j H3 Qe hj s3 qe => ⟨_, rfl, qe _ (fun _ _ z => z)⟩) fun du H3 hdu s3 e3 => ?_
    · have hj2 : j < cs.length := by
        rw [rf_len] at hj
        omega
      obtain ⟨c, ec⟩ := get_of_lt hj2
      obtain ⟨x, ex, hx⟩ := hcs j c ec
      have eg : r.seats.getD j 0 = x := by rw [List.getD_eq_getElem?_getD, ex]; rfl
      refine ⟨_, rfl, _, rfl, _, rfl, _, _, _, _, rfl, rfl, SqL.of (s3 _ _ ech), atI_nat (rf_get ec), c, _, rfl, .inl (SqL.of (s3 _ _ (s2 _ _ hx))), rfl, flat_ni _, _, rfl, ?_⟩
      rw [← eg]
      exact qb _ fun _ _ z => z
    have e4 : H3 du = some (.lst (ni (sL r v))) := by
      rw [e3]
      refine congrArg (fun l => some (HO.lst l)) ?_
      unfold sL
      rw [rf_len, Int.toNat_natCast, lcs]
      refine congrArg ni ?_
      refine List.filter_congr fun j _ => ?_
      rw [inV_ni]
      rfl
    have hC3 := hC2.same s3
    refine ⟨fun σ' H4 => ∃ t, σ' = [some (.ref p), some (.ref p2), some (.bl b), some (.int (r.N : Int)), some (.ref ch), y5, some (.ref em), some (.int (v : Int)), some (.ref du), y9, some (.ref t)] ∧ Same H3 H4 ∧ H4 t = some (.tup (ni (sL r v))), ?_, fun σ' H4 hm => ?_⟩
    · refine ⟨_, rfl, b, rfl, ?_⟩
      cases b with
      | false => exact iteF ⟨_, rfl, _, rfl, p, r, v, rfl, hC3, k, v1, v32, fun t H4 s4 h4 => ⟨t, rfl, s4, h4⟩⟩
      | true => exact iteT ⟨_, rfl, _, rfl, p, r, v, rfl, hC3, k, v1, v32, fun t H4 s4 h4 => ⟨t, rfl, s4, h4⟩⟩
    obtain ⟨t, rfl, s4, h4⟩ := hm
    have lsl : (sL r v).length ≤ 16 := by
      have := List.length_filter_le (fun k => un (r.N + r.seats.getD k 0) v) (List.range r.seats.length)
      rw [List.length_range] at this
      unfold sL
      omega
    refine ⟨_, rfl, _, rfl, t, du, sL r v, rfl, h4, s4 _ _ e4, by omega, fun H5 s5 => ⟨_, rfl, iteF ?_⟩⟩
    have s35 := s4.trans s5
    have e5 := s35 _ _ (s3 _ _ e2)
    have lel : (eL r i).length ≤ i := by
      unfold eL
      rw [List.length_map]
      have := List.length_filter_le (fun i => decide (sL r (i + 1) = [])) (List.range i)
      rw [List.length_range] at this
      omega
    refine ⟨_, rfl, du, _, rfl, .inl (SqL.of (s35 _ _ e4)), rfl, _, rfl, iteI (fun c => ?_) (fun c => ?_)⟩
    · rw [ni_len] at c
      have c2 : sL r (i + 1) = [] := by
        rw [← ei, ev]
        exact List.length_eq_zero_iff.mp (by omega)
      refine ⟨_, rfl, .inl ⟨rfl, _, SqL.of e5⟩, _, rfl, em, _, _, rfl, rfl, e5, by rw [ni_len]; exact line1000 (m := 1000) (by omega) (by decide), ?_⟩
      refine ⟨_, _, _, _, _, rfl, same_upd (s2.trans (s3.trans s35)) hem, ?_⟩
      rw [upd_same, eL_succ, if_pos c2, ni_app, ← ei, ev]
      rfl
    · rw [ni_len] at c
      have c2 : ¬ sL r (i + 1) = [] := fun z => c (by rw [← ei, ev] at z; rw [z]; rfl)
      refine ⟨_, _, _, _, _, rfl, s2.trans (s3.trans s35), ?_⟩
      rw [eL_succ, if_neg c2, List.append_nil]
      exact e5
  · obtain ⟨v7, y5, y8, y9, y10, rfl, s2, e2⟩ := hp
    have hC2 := hC'.same s2
    have en : (2 * (r.N : Int) - 1).toNat = 2 * r.N - 1 := by omega
    rw [en] at e2
    have lel : (eL r (2 * r.N - 1)).length ≤ 31 := by
      unfold eL
      rw [List.length_map]
      have := List.length_filter_le (fun i => decide (sL r (i + 1) = [])) (List.range (2 * r.N - 1))
      rw [List.length_range] at this
      omega
    refine ⟨_, rfl, b, rfl, ?_⟩
    cases b with
    | false => exact iteF ⟨_, rfl, p, r, rfl, hC2, k, fun t H4 s4 h4 => ⟨_, rfl, t, em, _, rfl, h4, s4 _ _ e2, by omega, fun H5 s5 => q H5 (s.trans (s2.trans (s4.trans s5)))⟩⟩
    | true => exact iteT ⟨_, rfl, p, r, rfl, hC2, k, fun t H4 s4 h4 => ⟨_, rfl, t, em, _, rfl, h4, s4 _ _ e2, by omega, fun H5 s5 => q H5 (s.trans (s2.trans (s4.trans s5)))⟩⟩
theorem ok_law_leanings_hold {f C : Addr} {fd : FuncData} {k : Nat} (F : Fun K "_law_leanings_hold" "_law_leanings_hold" s_law_leanings_hold f fd) (mrange : mg "range" = none) (mlen : mg "len" = none) (OKleaning_child_kw_node_worker_crew : OkK P w K mg base k "leaning_child" P_leaning_child ["node", "worker", "crew"] kg_leaning_child_kw_node_worker_crew kg_leaning_child_kw_node_worker_crew (spChild K C)) (Oleaning_child : Ok P w K mg base k "leaning_child" P_leaning_child (spChild K C)) (O_law_whole : Ok P w K mg base k "_law_whole" P_law_whole spWhole) (T : CT K C) : FnOk P w K mg base CX0 (k + 1) f fd P_law_leanings_hold (spSeatsH K C) := by
  refine F.ok sc_law_leanings_hold (fun vs H Q E h => ?_) (fun cdv A outer s H vs Q E hr h => ?_)
  · obtain ⟨p, p2, r, b, rfl, _⟩ := h
    rfl
  obtain ⟨p, p2, r, b, rfl, hC, hR, k, q⟩ := h
  refine ⟨_, (pss_cons (ps_for PassesOwn.never rfl (pi_range1 (by rfl) mrange (pa_cons (pe_callB (r := rLenS K) call_lenK (by rfl) mlen (by decide +kernel) (pa_cons (pe_ix (r := rIxL K) ix_list (pv 1) pe_int (fun _ _ => rfl)) pa_nil)) pa_nil)) (pg_name (i := 3) sc_law_leanings_hold.nd rfl (Or.inl rfl))
      (pss_one (ps_for PassesOwn.never rfl (pi_range2 (by rfl) mrange (pa_cons pe_int (pa_cons (pe_op op_add (pe_callB (r := rLenS K) call_lenK (by rfl) mlen (by decide +kernel) (pa_cons (pe_ix (r := rIxL K) ix_list (pe_ix (r := rIxL K) ix_list (pv 1) pe_int (fun _ _ => rfl)) pe_int (fun _ _ => rfl)) pa_nil)) pe_int) pa_nil))) (pg_name (i := 4) sc_law_leanings_hold.nd rfl (Or.inl rfl))
        (C8.pss_cut (ps_if (pt_val (pv 2))
          (pss_one (ps_set (i := 5) sc_law_leanings_hold.nd rfl (Or.inl rfl) (pe_ck OKleaning_child_kw_node_worker_crew hr (by rfl) (pk_cons (pv 4) (pk_cons (pv 3) (pk_cons (pv 0) pk_nil))))))
          (pss_one (ps_set (i := 5) sc_law_leanings_hold.nd rfl (Or.inl rfl) (pe_c Oleaning_child hr (by rfl) (pa_cons (pv 0) (pa_cons (pv 3) (pa_cons (pv 4) pa_nil)))))))
        (pss_one (ps_if (PW.pt (pw_or (pt_not (pt_val (pe_c O_law_whole hr (by rfl) (pa_cons (pv 5) pa_nil)))) (pw_or1 (pt_cmpR op_ne (pv 5) (pe_op op_add (pe_op op_mul pe_int (pv 4)) (pe_ix (r := rIxL K) ix_list (pe_ix (r := rIxL K) ix_list (pe_ix (r := rIxL K) ix_list (pv 1) pe_int (fun _ _ => rfl)) (pv 3) (fun _ _ => rfl)) (pe_op op_sub (pv 4) pe_int) (fun _ _ => rfl))) (nomark _)))))
          (pss_one (ps_ret pe_bl))
          pss_nil))))))
    (pss_one (ps_ret pe_bl))), ?_⟩
  have hN := k.pow
  have s16 := k.s16
  have hR2 := hR
  obtain ⟨sa, la, as, ob, se, le, ro⟩ := hR
  refine ⟨_, rfl, _, _, _, _, rfl, rfl, SqL.of ob, atI_nat (j := 1) rfl, sa, _, rfl, .inl (SqL.of se), _, rfl, by rw [ni_len]; omega, by rw [ni_len]; omega, for_range0 (n := ((ni r.seats).length : Int).toNat) (fun i σ H' => ∃ y3 y4 y5, σ = [some (.ref p), some (.ref p2), some (.bl b), y3, y4, y5] ∧ H' = H)
    ⟨_, _, _, rfl, rfl⟩ (fun i σ H' hi hp => ?_) (fun σ H' hp => ?_)⟩
  · obtain ⟨y3, y4, y5, rfl, rfl⟩ := hp
    have hi2 : i < r.lean.length := by
      rw [ni_len] at hi
      have := k.ll
      omega
    obtain ⟨row, er⟩ := get_of_lt hi2
    obtain ⟨a, ea, ha⟩ := ro.get er
    have lr := k.rl row (mem_of_get er)
    refine leavesOf rfl hR2 k ?_
    refine ⟨1, _, rfl, ⟨by omega, by omega, by omega, by omega⟩, for_rangeL (lo := 1) (n := ((r.N : Int) - 1).toNat) (fun j σ H2 => ∃ y4 y5, σ = [some (.ref p), some (.ref p2), some (.bl b), some (.int (i : Int)), y4, y5] ∧ H2 = H') ⟨_, _, rfl, rfl⟩ (fun j σ H2 hj hp => ?_) (fun σ H2 hp => ?_)⟩
    · obtain ⟨y4, y5, rfl, rfl⟩ := hp
      obtain ⟨x, ex⟩ := get_of_lt (xs := row) (i := j) (by omega)
      have ej : 1 + j = j + 1 := Nat.add_comm 1 j
      refine ⟨fun σ' H3 => σ' = [some (.ref p), some (.ref p2), some (.bl b), some (.int (i : Int)), some (.int ((1 + j : Nat) : Int)), some (.int ((2 * (j + 1) + x : Nat) : Int))] ∧ H3 = H2, ?_, fun σ' H3 hm => ?_⟩
      · refine ⟨_, rfl, b, rfl, ?_⟩
        cases b with
        | false => exact iteF ⟨_, rfl, _, rfl, _, rfl, p, r, i, j, row, x, by rw [ej]; rfl, hC, k, er, ex, rfl, rfl⟩
        | true => exact iteT ⟨_, rfl, _, rfl, _, rfl, p, r, i, j, row, x, by rw [ej]; rfl, hC, k, er, ex, rfl, rfl⟩
      obtain ⟨rfl, rfl⟩ := hm
      refine ⟨_, rfl, _, rfl, _, rfl, iteF ⟨_, rfl, _, rfl, _, _, rfl, rfl, .inl ⟨by decide, by decide⟩, _, rfl, _, _, _, _, rfl, rfl, SqL.of ob, atI_nat (j := 2) rfl, _, rfl, _, _, _, _, rfl, rfl, SqL.of le, atI_nat (rf_get ea), _, rfl, _, _, rfl, rfl, _, _, _, _, rfl, rfl, SqL.of ha, ni_atE (by omega) ex, _, _, rfl, rfl, rfl, _, rfl, itTn (congrArg V.int (by omega)) ⟨_, _, rfl, rfl⟩⟩⟩
    · obtain ⟨y4, y5, rfl, rfl⟩ := hp
      exact ⟨_, _, _, rfl, rfl⟩
  · obtain ⟨y3, y4, y5, rfl, rfl⟩ := hp
    exact q _ fun _ _ z => z
def spLaw (K : PySem.W.Frag) : Sp := fun vs H Q _ => ∃ (a : Addr) (ns : List Int), vs = [.ref a] ∧ SqL K H a (ns.map V.int) ∧ ns.length ≤ 63 ∧ ∀ H', Q (.bl true) H'
theorem ok_law {f C : Addr} {fd : FuncData} {k : Nat} (F : Fun K "law" "law" s_law f fd) (O_law_rows : Ok P w K mg base k "_law_rows" P_law_rows spRows) (O_law_cell : Ok P w K mg base k "_law_cell" P_law_cell (spCellv K)) (mint : mg "int" = none) (O_law_made : Ok P w K mg base k "_law_made" P_law_made (spMade K C)) (mmax : mg "max" = none) (mlen : mg "len" = none) (O_law_tree_holds : Ok P w K mg base k "_law_tree_holds" P_law_tree_holds spTreeH) (O_law_seats_hold : Ok P w K mg base k "_law_seats_hold" P_law_seats_hold (spSeatsH K C)) (O_law_leanings_hold : Ok P w K mg base k "_law_leanings_hold" P_law_leanings_hold (spSeatsH K C)) : FnOk P w K mg base CX0 (k + 1) f fd P_law (spLaw K) := by
  refine F.ok sc_law (fun vs H Q E h => ?_) (fun cdv A outer s H vs Q E hr h => ?_)
  · obtain ⟨a, ns, rfl, _⟩ := h
    rfl
  obtain ⟨a, ns, rfl, hS, hn, q⟩ := h
  refine ⟨_, (pss_cons (ps_set (i := 1) sc_law.nd rfl (Or.inl rfl) (pe_c O_law_rows hr (by rfl) (pa_cons (pe_c O_law_cell hr (by rfl) (pa_cons (pv 0) (pa_cons pe_int pa_nil))) pa_nil)))
    (pss_cons (ps_set (i := 2) sc_law.nd rfl (Or.inl rfl) (pe_c O_law_rows hr (by rfl) (pa_cons (pe_c O_law_cell hr (by rfl) (pa_cons (pv 0) (pa_cons pe_int pa_nil))) pa_nil)))
    (pss_cons (ps_set (i := 3) sc_law.nd rfl (Or.inl rfl) (pe_op op_modN (pe_callTy call_int1 (by rfl) mint (by decide +kernel) (pa_cons (pe_c O_law_cell hr (by rfl) (pa_cons (pv 0) (pa_cons pe_int pa_nil))) pa_nil)) pe_int))
    (pss_cons (ps_set (i := 4) sc_law.nd rfl (Or.inl rfl) (pe_c O_law_made hr (by rfl) (pa_cons (pv 1) (pa_cons (pe_op op_modN (pe_callTy call_int1 (by rfl) mint (by decide +kernel) (pa_cons (pv 3) pa_nil)) pe_int) pa_nil))))
    (pss_cons (ps_set (i := 5) sc_law.nd rfl (Or.inl rfl) (pe_c O_law_made hr (by rfl) (pa_cons (pv 2) (pa_cons (pe_op op_fdivN (pv 3) pe_int) pa_nil))))
    (pss_cons (ps_set (i := 6) sc_law.nd rfl (Or.inl rfl) (pe_op op_add (pe_callB (call_max2 rfl) (by rfl) mmax (by decide +kernel) (pa_cons (pe_callB (r := rLenS K) call_lenK (by rfl) mlen (by decide +kernel) (pa_cons (pe_ix (r := rIxL K) ix_list (pe_ix (r := rIxL K) ix_list (pv 1) pe_int (fun _ _ => rfl)) pe_int (fun _ _ => rfl)) pa_nil)) (pa_cons (pe_callB (r := rLenS K) call_lenK (by rfl) mlen (by decide +kernel) (pa_cons (pe_ix (r := rIxL K) ix_list (pe_ix (r := rIxL K) ix_list (pv 2) pe_int (fun _ _ => rfl)) pe_int (fun _ _ => rfl)) pa_nil)) pa_nil))) pe_int))
    (pss_cons (ps_for PassesOwn.never rfl (pi_list (pe_lst (pa_cons pe_bl (pa_cons pe_bl pa_nil)))) (pg_name (i := 7) sc_law.nd rfl (Or.inl rfl))
      (pss_cons (ps_if (pt_not (pt_val (pe_c O_law_tree_holds hr (by rfl) (pa_cons (pv 6) (pa_cons (pv 7) pa_nil)))))
        (pss_one (ps_ret pe_bl))
        pss_nil)
      (pss_cons (ps_if (PW.pt (pw_or (pt_not (pt_val (pe_c O_law_seats_hold hr (by rfl) (pa_cons (pv 4) (pa_cons (pv 1) (pa_cons (pv 7) pa_nil)))))) (pw_or1 (pt_not (pt_val (pe_c O_law_seats_hold hr (by rfl) (pa_cons (pv 5) (pa_cons (pv 2) (pa_cons (pv 7) pa_nil)))))))))
        (pss_one (ps_ret pe_bl))
        pss_nil)
      (pss_one (ps_if (PW.pt (pw_or (pt_not (pt_val (pe_c O_law_leanings_hold hr (by rfl) (pa_cons (pv 4) (pa_cons (pv 1) (pa_cons (pv 7) pa_nil)))))) (pw_or1 (pt_not (pt_val (pe_c O_law_leanings_hold hr (by rfl) (pa_cons (pv 5) (pa_cons (pv 2) (pa_cons (pv 7) pa_nil)))))))))
        (pss_one (ps_ret pe_bl))
        pss_nil)))))
    (pss_one (ps_ret pe_bl))))))))), ?_⟩
  refine ⟨_, rfl, a, ns, 0, rfl, hS, by decide, by decide, fun z0 => ⟨z0, rfl, fun p1 H1 r1 s1 hr1 k1 => ?_⟩⟩
  refine ⟨_, rfl, a, ns, 1, rfl, s1.seq hS, by decide, by decide, fun z1 => ⟨z1, rfl, fun p2 H2 r2 s2 hr2 k2 => ?_⟩⟩
  refine ⟨_, rfl, a, ns, 2, rfl, (s1.trans s2).seq hS, by decide, by decide, fun z2 => .inl ⟨_, rfl, _, _, rfl, rfl, (show (16 : Int) ≠ 0 by decide), ?_⟩⟩
  have m0 := fmod_lo (a := z2) (b := 16) (by decide)
  have m1 := fmod_hi (a := z2) (b := 16) (by decide)
  have hr1' := hr1.same s2
  refine ⟨_, rfl, _, rfl, .inl ⟨_, rfl, _, _, rfl, rfl, (show (4 : Int) ≠ 0 by decide), p1, _, r1, rfl, hr1', k1, fun t1 H3 s3 c1 => ?_⟩⟩
  refine ⟨_, rfl, _, rfl, _, _, rfl, rfl, ⟨by decide, by decide⟩, p2, _, r2, rfl, hr2.same s3, k2, fun t2 H4 s4 c2 => ?_⟩
  have hr1'' := hr1'.same (s3.trans s4)
  have hr2'' := hr2.same (s3.trans s4)
  have c1' := c1.same s4
  have hN1 := k1.pow
  have hN2 := k2.pow
  have len : ∀ (r : Rows) (p : Addr), Rws H4 p r → r.ok → ∃ la a0 : Addr, ∃ as : List Addr, ∃ row : List Nat, ∃ sa : Addr, H4 p = some (.lst [.int (r.h : Int), .ref sa, .ref la]) ∧ H4 la = some (.lst (rf as)) ∧ as[0]? = some a0 ∧ H4 a0 = some (.lst (ni row)) ∧ row.length = r.N - 1 := fun r p hR k => by
    obtain ⟨sa, la, as, ob, se, le, ro⟩ := hR
    obtain ⟨row, er⟩ := get_of_lt (xs := r.lean) (i := 0) (by have := k.ll; have := k.s1; omega)
    obtain ⟨a, ea, ha⟩ := ro.get er
    exact ⟨la, a, as, row, sa, ob, le, ea, ha, k.rl row (mem_of_get er)⟩
  obtain ⟨la1, a1, as1, row1, sa1, o1, l1, e1, h1, n1⟩ := len r1 p1 hr1'' k1
  obtain ⟨la2, a2, as2, row2, sa2, o2, l2, e2, h2, n2⟩ := len r2 p2 hr2'' k2
  refine ⟨_, rfl, _, _, _, _, rfl, rfl, SqL.of o1, atI_nat (j := 2) rfl, _, _, _, _, rfl, rfl, SqL.of l1, atI_nat (j := 0) (rf_get e1), a1, _, rfl, .inl (SqL.of h1), ?_⟩
  refine ⟨_, rfl, _, _, _, _, rfl, rfl, SqL.of o2, atI_nat (j := 2) rfl, _, _, _, _, rfl, rfl, SqL.of l2, atI_nat (j := 0) (rf_get e2), a2, _, rfl, .inl (SqL.of h2), ?_⟩
  refine ⟨_, _, rfl, _, _, rfl, rfl, ?_⟩
  obtain ⟨N, eN, N2, N16⟩ : ∃ N : Nat, ((if (((ni row2).length : Nat) : Int) > (((ni row1).length : Nat) : Int) then (((ni row2).length : Nat) : Int) else (((ni row1).length : Nat) : Int)) + 1) = (N : Int) ∧ 2 ≤ N ∧ N ≤ 16 := by
    rw [ni_len, ni_len, n1, n2]
    by_cases c : ((r2.N - 1 : Nat) : Int) > ((r1.N - 1 : Nat) : Int)
    · exact ⟨r2.N, by rw [if_pos c]; omega, by omega, by omega⟩
    · exact ⟨r1.N, by rw [if_neg c]; omega, by omega, by omega⟩
  refine ⟨(by show 2 ≤ sizeLine; decide), fun l hl => ⟨l, rfl, ⟨_, SqL.of upd_same⟩, for_list (xs := [.bl false, .bl true]) (fun i σ H' => ∃ y7, σ = [some (.ref a), some (.ref p1), some (.ref p2), some (.int (z2.fmod 16)), some (.ref t1), some (.ref t2), some (.int (N : Int)), y7] ∧ Same (upd H4 l (.lst [.bl false, .bl true])) H')
    ⟨_, by rw [← eN]; rfl, fun _ _ z => z⟩ (fun i σ H' _ hp => ?_) (fun i x σ H' hx hp => ?_) (fun σ H' hp => ?_)⟩⟩
  · obtain ⟨y7, _, s⟩ := hp
    exact SqL.of (s _ _ upd_same)
  · obtain ⟨y7, rfl, s⟩ := hp
    obtain ⟨b, rfl⟩ : ∃ b, x = V.bl b := by
      have := mem_of_get hx
      simp only [List.mem_cons, List.not_mem_nil, or_false] at this
      rcases this with h | h
      · exact ⟨_, h⟩
      · exact ⟨_, h⟩
    have s5 := (same_new hl (.lst [.bl false, .bl true])).trans s
    refine ⟨_, rfl, _, rfl, N, b, rfl, N2, N16, fun H6 s6 => ⟨_, rfl, iteF ?_⟩⟩
    have s56 := s5.trans s6
    refine ⟨_, rfl, _, rfl, _, rfl, t1, p1, r1, b, rfl, c1'.same s56, hr1''.same s56, k1, fun H7 s7 => ⟨_, rfl, iteF ?_⟩⟩
    have s57 := s56.trans s7
    refine ⟨_, rfl, _, rfl, _, rfl, t2, p2, r2, b, rfl, c2.same s57, hr2''.same s57, k2, fun H8 s8 => ⟨_, rfl, iteF ?_⟩⟩
    have s58 := s57.trans s8
    refine ⟨_, rfl, _, rfl, _, rfl, t1, p1, r1, b, rfl, c1'.same s58, hr1''.same s58, k1, fun H9 s9 => ⟨_, rfl, iteF ?_⟩⟩
    have s59 := s58.trans s9
    refine ⟨_, rfl, _, rfl, _, rfl, t2, p2, r2, b, rfl, c2.same s59, hr2''.same s59, k2, fun H10 s10 => ⟨_, rfl, iteF ?_⟩⟩
    exact ⟨_, rfl, s.trans (s6.trans (s7.trans (s8.trans (s9.trans s10))))⟩
  · obtain ⟨y7, rfl, s⟩ := hp
    exact q H'
end
end K25
namespace K25
open PySem L2 Vk
theorem none_ok' : True := trivial
set_option maxHeartbeats 0 in
theorem all_mk {l : PySem.W.OpenLaw} {w : World} {K : PySem.W.Frag} {h : Heap} {mg : Str → Option Value} {fa f0 f1 f2 f3 f4 f5 f6 f7 f8 f9 f10 f11 f12 f13 f14 f15 f16 f17 f18 f19 f20 f21 f22 f23 f24 CCrew p15 p17: Addr} (X : K.In h) (G : h.Ns mainGlobals mg) (hfa : mg "law" = some (.ref fa))
    {od0 an0 od1 an1 od2 an2 od3 an3 od4 an4 od5 an5 od6 an6 od7 an7 od8 an8 od9 an9 od10 an10 od11 an11 od12 an12 od13 an13 od14 an14 od15 an15 od16 an16 od17 an17 od18 an18 od19 an19 od20 an20 od21 an21 od22 an22 od23 an23 od24 an24 : Option Addr} {sl0 sl1 sl2 sl3 sl4 sl5 sl6 sl7 sl8 sl9 sl10 sl11 sl12 sl13 sl14 sl15 sl16 sl17 sl18 sl19 sl20 sl21 sl22 sl23 sl24 : Array (Option Value)} {oc0 kV0 dc0 pm0 cd0 ct0 oc1 kV1 dc1 pm1 cd1 ct1 oc2 kV2 dc2 pm2 cd2 ct2 oc3 kV3 dc3 pm3 cd3 ct3 oc4 kV4 dc4 pm4 cd4 ct4 oc5 kV5 dc5 pm5 cd5 ct5 oc6 kV6 dc6 pm6 cd6 ct6 oc7 kV7 dc7 pm7 cd7 ct7 oc8 kV8 dc8 pm8 cd8 ct8 oc9 kV9 dc9 pm9 cd9 ct9 oc10 kV10 dc10 pm10 cd10 ct10 oc11 kV11 dc11 pm11 cd11 ct11 oc12 kV12 dc12 pm12 cd12 ct12 oc13 kV13 dc13 pm13 cd13 ct13 oc14 kV14 dc14 pm14 cd14 ct14 oc15 kV15 dc15 pm15 cd15 ct15 oc16 kV16 dc16 pm16 cd16 ct16 oc17 kV17 dc17 pm17 cd17 ct17 oc18 kV18 dc18 pm18 cd18 ct18 oc19 kV19 dc19 pm19 cd19 ct19 oc20 kV20 dc20 pm20 cd20 ct20 oc21 kV21 dc21 pm21 cd21 ct21 oc22 kV22 dc22 pm22 cd22 ct22 oc23 kV23 dc23 pm23 cd23 ct23 oc24 kV24 dc24 pm24 cd24 ct24 : Value}
    {tMOST_HEIGHT tMOST_WORKERS : Tok}
    {rs15 rs17 : List Value}
    (aCCrew : PySem.W.nsIn K mainGlobals "Crew" = some (some (.ref CCrew)))
    (a0 : PySem.W.nsIn K mainGlobals "_law_feed" = some (some (.ref f0)))
    (l0 : K.lookup f0 = some ⟨oc0, od0, .func (PySem.W.fnOf "_law_feed" "_law_feed" (defArgs s_law_feed) (defBody s_law_feed) (defScope s_law_feed) .none kV0 dc0 pm0 an0 cd0 ct0), sl0⟩) (c0 : PySem.W.codeIn K cd0 "_law_feed" = true) (k0 : PySem.W.keepIn K (.ref f0) = true)
    (a1 : PySem.W.nsIn K mainGlobals "_law_take" = some (some (.ref f1)))
    (l1 : K.lookup f1 = some ⟨oc1, od1, .func (PySem.W.fnOf "_law_take" "_law_take" (defArgs s_law_take) (defBody s_law_take) (defScope s_law_take) .none kV1 dc1 pm1 an1 cd1 ct1), sl1⟩) (c1 : PySem.W.codeIn K cd1 "_law_take" = true) (k1 : PySem.W.keepIn K (.ref f1) = true)
    (a2 : PySem.W.nsIn K mainGlobals "_law_crew" = some (some (.ref f2)))
    (l2 : K.lookup f2 = some ⟨oc2, od2, .func (PySem.W.fnOf "_law_crew" "_law_crew" (defArgs s_law_crew) (defBody s_law_crew) (defScope s_law_crew) .none kV2 dc2 pm2 an2 cd2 ct2), sl2⟩) (c2 : PySem.W.codeIn K cd2 "_law_crew" = true) (k2 : PySem.W.keepIn K (.ref f2) = true)
    (a3 : PySem.W.nsIn K mainGlobals "_law_rows" = some (some (.ref f3)))
    (l3 : K.lookup f3 = some ⟨oc3, od3, .func (PySem.W.fnOf "_law_rows" "_law_rows" (defArgs s_law_rows) (defBody s_law_rows) (defScope s_law_rows) .none kV3 dc3 pm3 an3 cd3 ct3), sl3⟩) (c3 : PySem.W.codeIn K cd3 "_law_rows" = true) (k3 : PySem.W.keepIn K (.ref f3) = true)
    (a4 : PySem.W.nsIn K mainGlobals "_law_cell" = some (some (.ref f4)))
    (l4 : K.lookup f4 = some ⟨oc4, od4, .func (PySem.W.fnOf "_law_cell" "_law_cell" (defArgs s_law_cell) (defBody s_law_cell) (defScope s_law_cell) .none kV4 dc4 pm4 an4 cd4 ct4), sl4⟩) (c4 : PySem.W.codeIn K cd4 "_law_cell" = true) (k4 : PySem.W.keepIn K (.ref f4) = true)
    (a5 : PySem.W.nsIn K mainGlobals "_is_height" = some (some (.ref f5)))
    (l5 : K.lookup f5 = some ⟨oc5, od5, .func (PySem.W.fnOf "_is_height" "_is_height" (defArgs s_is_height) (defBody s_is_height) (defScope s_is_height) .none kV5 dc5 pm5 an5 cd5 ct5), sl5⟩) (c5 : PySem.W.codeIn K cd5 "_is_height" = true) (k5 : PySem.W.keepIn K (.ref f5) = true)
    (a6 : PySem.W.nsIn K mainGlobals "_are_seats" = some (some (.ref f6)))
    (l6 : K.lookup f6 = some ⟨oc6, od6, .func (PySem.W.fnOf "_are_seats" "_are_seats" (defArgs s_are_seats) (defBody s_are_seats) (defScope s_are_seats) .none kV6 dc6 pm6 an6 cd6 ct6), sl6⟩) (c6 : PySem.W.codeIn K cd6 "_are_seats" = true) (k6 : PySem.W.keepIn K (.ref f6) = true)
    (a7 : PySem.W.nsIn K mainGlobals "_are_leanings" = some (some (.ref f7)))
    (l7 : K.lookup f7 = some ⟨oc7, od7, .func (PySem.W.fnOf "_are_leanings" "_are_leanings" (defArgs s_are_leanings) (defBody s_are_leanings) (defScope s_are_leanings) .none kV7 dc7 pm7 an7 cd7 ct7), sl7⟩) (c7 : PySem.W.codeIn K cd7 "_are_leanings" = true) (k7 : PySem.W.keepIn K (.ref f7) = true)
    (a8 : PySem.W.findIn K (.ref CCrew) "__init__" = some (some (.ref f8))) (i8 : PySem.W.isFn K (.ref f8) = true) (mk8 : PySem.W.makesIn K CCrew = true) (kc8 : PySem.W.keepIn K (.ref CCrew) = true)
    (l8 : K.lookup f8 = some ⟨oc8, od8, .func (PySem.W.fnOf "__init__" "Crew.__init__" (defArgs s_Crew_init) (defBody s_Crew_init) (defScope s_Crew_init) .none kV8 dc8 pm8 an8 cd8 ct8), sl8⟩) (c8 : PySem.W.codeIn K cd8 "Crew.__init__" = true) (k8 : PySem.W.keepIn K (.ref f8) = true)
    (a9 : PySem.W.nsIn K mainGlobals "_law_made" = some (some (.ref f9)))
    (l9 : K.lookup f9 = some ⟨oc9, od9, .func (PySem.W.fnOf "_law_made" "_law_made" (defArgs s_law_made) (defBody s_law_made) (defScope s_law_made) .none kV9 dc9 pm9 an9 cd9 ct9), sl9⟩) (c9 : PySem.W.codeIn K cd9 "_law_made" = true) (k9 : PySem.W.keepIn K (.ref f9) = true)
    (a10 : PySem.W.nsIn K mainGlobals "_law_above" = some (some (.ref f10)))
    (l10 : K.lookup f10 = some ⟨oc10, od10, .func (PySem.W.fnOf "_law_above" "_law_above" (defArgs s_law_above) (defBody s_law_above) (defScope s_law_above) .none kV10 dc10 pm10 an10 cd10 ct10), sl10⟩) (c10 : PySem.W.codeIn K cd10 "_law_above" = true) (k10 : PySem.W.keepIn K (.ref f10) = true)
    (a11 : PySem.W.nsIn K mainGlobals "depth_of" = some (some (.ref f11)))
    (l11 : K.lookup f11 = some ⟨oc11, od11, .func (PySem.W.fnOf "depth_of" "depth_of" (defArgs s_depth_of) (defBody s_depth_of) (defScope s_depth_of) .none kV11 dc11 pm11 an11 cd11 ct11), sl11⟩) (c11 : PySem.W.codeIn K cd11 "depth_of" = true) (k11 : PySem.W.keepIn K (.ref f11) = true)
    (a12 : PySem.W.nsIn K mainGlobals "_law_whole" = some (some (.ref f12)))
    (l12 : K.lookup f12 = some ⟨oc12, od12, .func (PySem.W.fnOf "_law_whole" "_law_whole" (defArgs s_law_whole) (defBody s_law_whole) (defScope s_law_whole) .none kV12 dc12 pm12 an12 cd12 ct12), sl12⟩) (c12 : PySem.W.codeIn K cd12 "_law_whole" = true) (k12 : PySem.W.keepIn K (.ref f12) = true)
    (a13 : PySem.W.nsIn K mainGlobals "is_under" = some (some (.ref f13)))
    (l13 : K.lookup f13 = some ⟨oc13, od13, .func (PySem.W.fnOf "is_under" "is_under" (defArgs s_is_under) (defBody s_is_under) (defScope s_is_under) .none kV13 dc13 pm13 an13 cd13 ct13), sl13⟩) (c13 : PySem.W.codeIn K cd13 "is_under" = true) (k13 : PySem.W.keepIn K (.ref f13) = true)
    (a14 : PySem.W.nsIn K mainGlobals "_law_tree_holds" = some (some (.ref f14)))
    (l14 : K.lookup f14 = some ⟨oc14, od14, .func (PySem.W.fnOf "_law_tree_holds" "_law_tree_holds" (defArgs s_law_tree_holds) (defBody s_law_tree_holds) (defScope s_law_tree_holds) .none kV14 dc14 pm14 an14 cd14 ct14), sl14⟩) (c14 : PySem.W.codeIn K cd14 "_law_tree_holds" = true) (k14 : PySem.W.keepIn K (.ref f14) = true)
    (a15 : PySem.W.findIn K (.ref CCrew) "leaves" = some (some (.ref p15))) (g15 : PySem.W.specialIn K (.ref p15) "__get__" = some (some (.builtin "property.__get__"))) (h15 : PySem.W.takesIn K (.ref p15) = some true) (r15 : PySem.W.recIn K p15 "property" = some (.ref f15 :: rs15))
    (l15 : K.lookup f15 = some ⟨oc15, od15, .func (PySem.W.fnOf "leaves" "Crew.leaves" (defArgs s_Crew_leaves) (defBody s_Crew_leaves) (defScope s_Crew_leaves) .none kV15 dc15 pm15 an15 cd15 ct15), sl15⟩) (c15 : PySem.W.codeIn K cd15 "Crew.leaves" = true) (k15 : PySem.W.keepIn K (.ref f15) = true)
    (a16 : PySem.W.nsIn K mainGlobals "seat_node" = some (some (.ref f16)))
    (l16 : K.lookup f16 = some ⟨oc16, od16, .func (PySem.W.fnOf "seat_node" "seat_node" (defArgs s_seat_node) (defBody s_seat_node) (defScope s_seat_node) .none kV16 dc16 pm16 an16 cd16 ct16), sl16⟩) (c16 : PySem.W.codeIn K cd16 "seat_node" = true) (k16 : PySem.W.keepIn K (.ref f16) = true)
    (a17 : PySem.W.findIn K (.ref CCrew) "workers" = some (some (.ref p17))) (g17 : PySem.W.specialIn K (.ref p17) "__get__" = some (some (.builtin "property.__get__"))) (h17 : PySem.W.takesIn K (.ref p17) = some true) (r17 : PySem.W.recIn K p17 "property" = some (.ref f17 :: rs17))
    (l17 : K.lookup f17 = some ⟨oc17, od17, .func (PySem.W.fnOf "workers" "Crew.workers" (defArgs s_Crew_workers) (defBody s_Crew_workers) (defScope s_Crew_workers) .none kV17 dc17 pm17 an17 cd17 ct17), sl17⟩) (c17 : PySem.W.codeIn K cd17 "Crew.workers" = true) (k17 : PySem.W.keepIn K (.ref f17) = true)
    (a18 : PySem.W.nsIn K mainGlobals "seated" = some (some (.ref f18)))
    (l18 : K.lookup f18 = some ⟨oc18, od18, .func (PySem.W.fnOf "seated" "seated" (defArgs s_seated) (defBody s_seated) (defScope s_seated) .none kV18 dc18 pm18 an18 cd18 ct18), sl18⟩) (c18 : PySem.W.codeIn K cd18 "seated" = true) (k18 : PySem.W.keepIn K (.ref f18) = true)
    (a19 : PySem.W.nsIn K mainGlobals "_law_is_row" = some (some (.ref f19)))
    (l19 : K.lookup f19 = some ⟨oc19, od19, .func (PySem.W.fnOf "_law_is_row" "_law_is_row" (defArgs s_law_is_row) (defBody s_law_is_row) (defScope s_law_is_row) .none kV19 dc19 pm19 an19 cd19 ct19), sl19⟩) (c19 : PySem.W.codeIn K cd19 "_law_is_row" = true) (k19 : PySem.W.keepIn K (.ref f19) = true)
    (a20 : PySem.W.nsIn K mainGlobals "unseated_nodes" = some (some (.ref f20)))
    (l20 : K.lookup f20 = some ⟨oc20, od20, .func (PySem.W.fnOf "unseated_nodes" "unseated_nodes" (defArgs s_unseated_nodes) (defBody s_unseated_nodes) (defScope s_unseated_nodes) .none kV20 dc20 pm20 an20 cd20 ct20), sl20⟩) (c20 : PySem.W.codeIn K cd20 "unseated_nodes" = true) (k20 : PySem.W.keepIn K (.ref f20) = true)
    (a21 : PySem.W.nsIn K mainGlobals "_law_seats_hold" = some (some (.ref f21)))
    (l21 : K.lookup f21 = some ⟨oc21, od21, .func (PySem.W.fnOf "_law_seats_hold" "_law_seats_hold" (defArgs s_law_seats_hold) (defBody s_law_seats_hold) (defScope s_law_seats_hold) .none kV21 dc21 pm21 an21 cd21 ct21), sl21⟩) (c21 : PySem.W.codeIn K cd21 "_law_seats_hold" = true) (k21 : PySem.W.keepIn K (.ref f21) = true)
    (a22 : PySem.W.nsIn K mainGlobals "leaning_child" = some (some (.ref f22)))
    (l22 : K.lookup f22 = some ⟨oc22, od22, .func (PySem.W.fnOf "leaning_child" "leaning_child" (defArgs s_leaning_child) (defBody s_leaning_child) (defScope s_leaning_child) .none kV22 dc22 pm22 an22 cd22 ct22), sl22⟩) (c22 : PySem.W.codeIn K cd22 "leaning_child" = true) (k22 : PySem.W.keepIn K (.ref f22) = true)
    (a23 : PySem.W.nsIn K mainGlobals "_law_leanings_hold" = some (some (.ref f23)))
    (l23 : K.lookup f23 = some ⟨oc23, od23, .func (PySem.W.fnOf "_law_leanings_hold" "_law_leanings_hold" (defArgs s_law_leanings_hold) (defBody s_law_leanings_hold) (defScope s_law_leanings_hold) .none kV23 dc23 pm23 an23 cd23 ct23), sl23⟩) (c23 : PySem.W.codeIn K cd23 "_law_leanings_hold" = true) (k23 : PySem.W.keepIn K (.ref f23) = true)
    (a24 : PySem.W.nsIn K mainGlobals "law" = some (some (.ref f24)))
    (l24 : K.lookup f24 = some ⟨oc24, od24, .func (PySem.W.fnOf "law" "law" (defArgs s_law) (defBody s_law) (defScope s_law) .none kV24 dc24 pm24 an24 cd24 ct24), sl24⟩) (c24 : PySem.W.codeIn K cd24 "law" = true) (k24 : PySem.W.keepIn K (.ref f24) = true)
    (pg : PySem.W.plainGet K CCrew Str.empty = true)
    (hd : PySem.W.hasDictIn K CCrew = true)
    (po : PySem.W.plainOver K CCrew = true)
    (sa : PySem.W.findIn K (.ref CCrew) "__setattr__" = some (some (.builtin "object.__setattr__")))
    (nH : PySem.W.findIn K (.ref CCrew) "height" = some none)
    (nS : PySem.W.findIn K (.ref CCrew) "seats" = some none)
    (nL : PySem.W.findIn K (.ref CCrew) "leanings" = some none)
    (qMOST_HEIGHT : PySem.W.nsIn K mainGlobals "MOST_HEIGHT" = some (some (.int 4 tMOST_HEIGHT)))
    (qMOST_WORKERS : PySem.W.nsIn K mainGlobals "MOST_WORKERS" = some (some (.int 16 tMOST_WORKERS)))
    (zint : PySem.W.nsIn K mainGlobals "int" = some none)
    (zmin : PySem.W.nsIn K mainGlobals "min" = some none)
    (zrange : PySem.W.nsIn K mainGlobals "range" = some none)
    (zlen : PySem.W.nsIn K mainGlobals "len" = some none)
    (zall : PySem.W.nsIn K mainGlobals "all" = some none)
    (ztuple : PySem.W.nsIn K mainGlobals "tuple" = some none)
    (zlist : PySem.W.nsIn K mainGlobals "list" = some none)
    (zisinstance : PySem.W.nsIn K mainGlobals "isinstance" = some none)
    (zbool : PySem.W.nsIn K mainGlobals "bool" = some none)
    (zmax : PySem.W.nsIn K mainGlobals "max" = some none) :
    ∃ fd : FuncData, (∀ (s : Shared) (v : Value), BindsTo s fd ⟨[v], []⟩ [("script", v)]) ∧ ∀ base : Heap, K.In base → base.Ns mainGlobals mg → FnOk l.prog w K mg base CX0 7 fa fd ["script"] (spLaw K) := by
  have e := hfa.symm.trans (PySem.W.mg_of X G a24)
  cases e
  have F_law_feed := fun_mk (st := s_law_feed) l0 c0 k0
  have b_law_feed := F_law_feed.binds (ps := P_law_feed) fun _ _ _ _ _ _ us hl => match us, hl with | [_], _ => rfl
  have m_law_feed := PySem.W.mg_of X G a0
  have F_law_take := fun_mk (st := s_law_take) l1 c1 k1
  have b_law_take := F_law_take.binds (ps := P_law_take) fun _ _ _ _ _ _ us hl => match us, hl with | [_, _], _ => rfl
  have m_law_take := PySem.W.mg_of X G a1
  have F_law_crew := fun_mk (st := s_law_crew) l2 c2 k2
  have b_law_crew := F_law_crew.binds (ps := P_law_crew) fun _ _ _ _ _ _ us hl => match us, hl with | [_, _, _], _ => rfl
  have m_law_crew := PySem.W.mg_of X G a2
  have F_law_rows := fun_mk (st := s_law_rows) l3 c3 k3
  have b_law_rows := F_law_rows.binds (ps := P_law_rows) fun _ _ _ _ _ _ us hl => match us, hl with | [_], _ => rfl
  have m_law_rows := PySem.W.mg_of X G a3
  have F_law_cell := fun_mk (st := s_law_cell) l4 c4 k4
  have b_law_cell := F_law_cell.binds (ps := P_law_cell) fun _ _ _ _ _ _ us hl => match us, hl with | [_, _], _ => rfl
  have m_law_cell := PySem.W.mg_of X G a4
  have F_is_height := fun_mk (st := s_is_height) l5 c5 k5
  have b_is_height := F_is_height.binds (ps := P_is_height) fun _ _ _ _ _ _ us hl => match us, hl with | [_], _ => rfl
  have m_is_height := PySem.W.mg_of X G a5
  have F_are_seats := fun_mk (st := s_are_seats) l6 c6 k6
  have b_are_seats := F_are_seats.binds (ps := P_are_seats) fun _ _ _ _ _ _ us hl => match us, hl with | [_, _], _ => rfl
  have m_are_seats := PySem.W.mg_of X G a6
  have F_are_leanings := fun_mk (st := s_are_leanings) l7 c7 k7
  have b_are_leanings := F_are_leanings.binds (ps := P_are_leanings) fun _ _ _ _ _ _ us hl => match us, hl with | [_, _], _ => rfl
  have m_are_leanings := PySem.W.mg_of X G a7
  have F_Crew_init := fun_mk (st := s_Crew_init) l8 c8 k8
  have b_Crew_init := F_Crew_init.binds (ps := P_Crew_init) fun _ _ _ _ _ _ us hl => match us, hl with | [_, _, _, _], _ => rfl
  have F_law_made := fun_mk (st := s_law_made) l9 c9 k9
  have b_law_made := F_law_made.binds (ps := P_law_made) fun _ _ _ _ _ _ us hl => match us, hl with | [_, _], _ => rfl
  have m_law_made := PySem.W.mg_of X G a9
  have F_law_above := fun_mk (st := s_law_above) l10 c10 k10
  have b_law_above := F_law_above.binds (ps := P_law_above) fun _ _ _ _ _ _ us hl => match us, hl with | [_], _ => rfl
  have m_law_above := PySem.W.mg_of X G a10
  have F_depth_of := fun_mk (st := s_depth_of) l11 c11 k11
  have b_depth_of := F_depth_of.binds (ps := P_depth_of) fun _ _ _ _ _ _ us hl => match us, hl with | [_], _ => rfl
  have m_depth_of := PySem.W.mg_of X G a11
  have F_law_whole := fun_mk (st := s_law_whole) l12 c12 k12
  have b_law_whole := F_law_whole.binds (ps := P_law_whole) fun _ _ _ _ _ _ us hl => match us, hl with | [_], _ => rfl
  have m_law_whole := PySem.W.mg_of X G a12
  have F_is_under := fun_mk (st := s_is_under) l13 c13 k13
  have b_is_under := F_is_under.binds (ps := P_is_under) fun _ _ _ _ _ _ us hl => match us, hl with | [_, _], _ => rfl
  have m_is_under := PySem.W.mg_of X G a13
  have F_law_tree_holds := fun_mk (st := s_law_tree_holds) l14 c14 k14
  have b_law_tree_holds := F_law_tree_holds.binds (ps := P_law_tree_holds) fun _ _ _ _ _ _ us hl => match us, hl with | [_, _], _ => rfl
  have m_law_tree_holds := PySem.W.mg_of X G a14
  have F_Crew_leaves := fun_mk (st := s_Crew_leaves) l15 c15 k15
  have b_Crew_leaves := F_Crew_leaves.binds (ps := P_Crew_leaves) fun _ _ _ _ _ _ us hl => match us, hl with | [_], _ => rfl
  have F_seat_node := fun_mk (st := s_seat_node) l16 c16 k16
  have b_seat_node := F_seat_node.binds (ps := P_seat_node) fun _ _ _ _ _ _ us hl => match us, hl with | [_, _], _ => rfl
  have m_seat_node := PySem.W.mg_of X G a16
  have F_Crew_workers := fun_mk (st := s_Crew_workers) l17 c17 k17
  have b_Crew_workers := F_Crew_workers.binds (ps := P_Crew_workers) fun _ _ _ _ _ _ us hl => match us, hl with | [_], _ => rfl
  have F_seated := fun_mk (st := s_seated) l18 c18 k18
  have b_seated := F_seated.binds (ps := P_seated) fun _ _ _ _ _ _ us hl => match us, hl with | [_, _], _ => rfl
  have m_seated := PySem.W.mg_of X G a18
  have F_law_is_row := fun_mk (st := s_law_is_row) l19 c19 k19
  have b_law_is_row := F_law_is_row.binds (ps := P_law_is_row) fun _ _ _ _ _ _ us hl => match us, hl with | [_, _], _ => rfl
  have m_law_is_row := PySem.W.mg_of X G a19
  have F_unseated_nodes := fun_mk (st := s_unseated_nodes) l20 c20 k20
  have b_unseated_nodes := F_unseated_nodes.binds (ps := P_unseated_nodes) fun _ _ _ _ _ _ us hl => match us, hl with | [_], _ => rfl
  have m_unseated_nodes := PySem.W.mg_of X G a20
  have F_law_seats_hold := fun_mk (st := s_law_seats_hold) l21 c21 k21
  have b_law_seats_hold := F_law_seats_hold.binds (ps := P_law_seats_hold) fun _ _ _ _ _ _ us hl => match us, hl with | [_, _, _], _ => rfl
  have m_law_seats_hold := PySem.W.mg_of X G a21
  have F_leaning_child := fun_mk (st := s_leaning_child) l22 c22 k22
  have b_leaning_child := F_leaning_child.binds (ps := P_leaning_child) fun _ _ _ _ _ _ us hl => match us, hl with | [_, _, _], _ => rfl
  have m_leaning_child := PySem.W.mg_of X G a22
  have F_law_leanings_hold := fun_mk (st := s_law_leanings_hold) l23 c23 k23
  have b_law_leanings_hold := F_law_leanings_hold.binds (ps := P_law_leanings_hold) fun _ _ _ _ _ _ us hl => match us, hl with | [_, _, _], _ => rfl
  have m_law_leanings_hold := PySem.W.mg_of X G a23
  have F_law := fun_mk (st := s_law) l24 c24 k24
  have b_law := F_law.binds (ps := P_law) fun _ _ _ _ _ _ us hl => match us, hl with | [_], _ => rfl
  have m_law := PySem.W.mg_of X G a24
  have mint := PySem.W.mg_none_of X G zint
  have mmin := PySem.W.mg_none_of X G zmin
  have mrange := PySem.W.mg_none_of X G zrange
  have mlen := PySem.W.mg_none_of X G zlen
  have mall := PySem.W.mg_none_of X G zall
  have mtuple := PySem.W.mg_none_of X G ztuple
  have mlist := PySem.W.mg_none_of X G zlist
  have misinstance := PySem.W.mg_none_of X G zisinstance
  have mbool := PySem.W.mg_none_of X G zbool
  have mmax := PySem.W.mg_none_of X G zmax
  have mMOST_HEIGHT := PySem.W.mg_of X G qMOST_HEIGHT
  have mMOST_WORKERS := PySem.W.mg_of X G qMOST_WORKERS
  have mcCrew := PySem.W.mg_of X G aCCrew
  refine ⟨PySem.W.fnOf "law" "law" (defArgs s_law) (defBody s_law) (defScope s_law) .none kV24 dc24 pm24 an24 cd24 ct24, fun s v => .of_eq rfl, fun base _ _ => ?_⟩
  have T : CT K CCrew := ⟨⟨pg, hd, po, sa⟩, nH, nS, nL⟩
  have O_law_feed : Ok l.prog w K mg base 1 "_law_feed" P_law_feed spFeed := ⟨_, _, ok_law_feed (k := 0) F_law_feed mint, b_law_feed, k0, m_law_feed⟩
  have O_law_take : Ok l.prog w K mg base 1 "_law_take" P_law_take spTake := ⟨_, _, ok_law_take (k := 0) F_law_take mint, b_law_take, k1, m_law_take⟩
  have O_law_crew : Ok l.prog w K mg base 2 "_law_crew" P_law_crew spLCrew := ⟨_, _, ok_law_crew (k := 1) F_law_crew (O_law_take.mono (by decide)) mmin mrange, b_law_crew, k2, m_law_crew⟩
  have O_law_rows : Ok l.prog w K mg base 3 "_law_rows" P_law_rows spRows := ⟨_, _, ok_law_rows (k := 2) F_law_rows (O_law_feed.mono (by decide)) (O_law_take.mono (by decide)) (O_law_crew.mono (by decide)), b_law_rows, k3, m_law_rows⟩
  have O_law_cell : Ok l.prog w K mg base 1 "_law_cell" P_law_cell (spCellv K) := ⟨_, _, ok_law_cell (k := 0) F_law_cell mlen mint, b_law_cell, k4, m_law_cell⟩
  have O_is_height : Ok l.prog w K mg base 1 "_is_height" P_is_height spIsH := ⟨_, _, ok_is_height (k := 0) F_is_height mMOST_HEIGHT, b_is_height, k5, m_is_height⟩
  have O_are_seats : Ok l.prog w K mg base 1 "_are_seats" P_are_seats (spAreS K) := ⟨_, _, ok_are_seats (k := 0) F_are_seats mall mlen mMOST_WORKERS, b_are_seats, k6, m_are_seats⟩
  have O_are_leanings : Ok l.prog w K mg base 1 "_are_leanings" P_are_leanings (spAreL K) := ⟨_, _, ok_are_leanings (k := 0) F_are_leanings mall mlen, b_are_leanings, k7, m_are_leanings⟩
  have NCrew : OkNew l.prog w K mg base 3 CCrew "Crew" P_Crew_init (spInit K CCrew) := ⟨2, f8, _, by decide, ⟨mk8, a8, i8, kc8⟩, ok_Crew_init (k := 1) F_Crew_init (O_is_height.mono (by decide)) (O_are_seats.mono (by decide)) mall (O_are_leanings.mono (by decide)) mlen mtuple T, b_Crew_init, mcCrew⟩
  have O_law_made : Ok l.prog w K mg base 4 "_law_made" P_law_made (spMade K CCrew) := ⟨_, _, ok_law_made (k := 3) F_law_made mlist (NCrew.mono (by decide)) mtuple mrange mlen T, b_law_made, k9, m_law_made⟩
  have O_law_above : Ok l.prog w K mg base 1 "_law_above" P_law_above spAbove := ⟨_, _, ok_law_above (k := 0) F_law_above mrange, b_law_above, k10, m_law_above⟩
  have Odepth_of : Ok l.prog w K mg base 1 "depth_of" P_depth_of spDepth := ⟨_, _, ok_depth_of (k := 0) F_depth_of , b_depth_of, k11, m_depth_of⟩
  have OKdepth_of_kw_node : OkK l.prog w K mg base 1 "depth_of" P_depth_of ["node"] kg_depth_of_kw_node kg_depth_of_kw_node spDepth := ⟨_, _, ok_depth_of (k := 0) F_depth_of , kb_depth_of_kw_node F_depth_of, k11, m_depth_of⟩
  have O_law_whole : Ok l.prog w K mg base 1 "_law_whole" P_law_whole spWhole := ⟨_, _, ok_law_whole (k := 0) F_law_whole misinstance mbool mint, b_law_whole, k12, m_law_whole⟩
  have Ois_under : Ok l.prog w K mg base 1 "is_under" P_is_under spUnder := ⟨_, _, ok_is_under (k := 0) F_is_under , b_is_under, k13, m_is_under⟩
  have OKis_under_kw_top_node : OkK l.prog w K mg base 1 "is_under" P_is_under ["top", "node"] kg_is_under_kw_top_node kg_is_under_kw_top_node spUnder := ⟨_, _, ok_is_under (k := 0) F_is_under , kb_is_under_kw_top_node F_is_under, k13, m_is_under⟩
  have O_law_tree_holds : Ok l.prog w K mg base 2 "_law_tree_holds" P_law_tree_holds spTreeH := ⟨_, _, ok_law_tree_holds (k := 1) F_law_tree_holds mrange (O_law_above.mono (by decide)) (Odepth_of.mono (by decide)) (OKdepth_of_kw_node.mono (by decide)) mlen (O_law_whole.mono (by decide)) (OKis_under_kw_top_node.mono (by decide)) (Ois_under.mono (by decide)) misinstance mbool, b_law_tree_holds, k14, m_law_tree_holds⟩
  have OP_leaves : OkProp l.prog w K mg base 2 CCrew "leaves" (spLeaves K CCrew) := ⟨1, p15, f15, _, by decide, ⟨a15, g15, h15, ⟨rs15, r15⟩⟩, ok_Crew_leaves (k := 0) F_Crew_leaves T, b_Crew_leaves⟩
  have Oseat_node : Ok l.prog w K mg base 3 "seat_node" P_seat_node (spSeat K CCrew) := ⟨_, _, ok_seat_node (k := 2) F_seat_node (OP_leaves.mono (by decide)) T, b_seat_node, k16, m_seat_node⟩
  have OP_workers : OkProp l.prog w K mg base 2 CCrew "workers" (spWorkers K CCrew) := ⟨1, p17, f17, _, by decide, ⟨a17, g17, h17, ⟨rs17, r17⟩⟩, ok_Crew_workers (k := 0) F_Crew_workers mlen T, b_Crew_workers⟩
  have Oseated : Ok l.prog w K mg base 4 "seated" P_seated (spSeated K CCrew) := ⟨_, _, ok_seated (k := 3) F_seated mtuple (Ois_under.mono (by decide)) (Oseat_node.mono (by decide)) mrange (OP_workers.mono (by decide)) T, b_seated, k18, m_seated⟩
  have OKseated_kw_node_crew : OkK l.prog w K mg base 4 "seated" P_seated ["node", "crew"] kg_seated_kw_node_crew kg_seated_kw_node_crew (spSeated K CCrew) := ⟨_, _, ok_seated (k := 3) F_seated mtuple (Ois_under.mono (by decide)) (Oseat_node.mono (by decide)) mrange (OP_workers.mono (by decide)) T, kb_seated_kw_node_crew F_seated, k18, m_seated⟩
  have O_law_is_row : Ok l.prog w K mg base 2 "_law_is_row" P_law_is_row spIsRow := ⟨_, _, ok_law_is_row (k := 1) F_law_is_row mlist misinstance mtuple (O_law_whole.mono (by decide)), b_law_is_row, k19, m_law_is_row⟩
  have Ounseated_nodes : Ok l.prog w K mg base 5 "unseated_nodes" P_unseated_nodes (spUnseated K CCrew) := ⟨_, _, ok_unseated_nodes (k := 4) F_unseated_nodes mtuple (Oseated.mono (by decide)) mrange (OP_leaves.mono (by decide)) T, b_unseated_nodes, k20, m_unseated_nodes⟩
  have OKunseated_nodes_kw_crew : OkK l.prog w K mg base 5 "unseated_nodes" P_unseated_nodes ["crew"] kg_unseated_nodes_kw_crew kg_unseated_nodes_kw_crew (spUnseated K CCrew) := ⟨_, _, ok_unseated_nodes (k := 4) F_unseated_nodes mtuple (Oseated.mono (by decide)) mrange (OP_leaves.mono (by decide)) T, kb_unseated_nodes_kw_crew F_unseated_nodes, k20, m_unseated_nodes⟩
  have O_law_seats_hold : Ok l.prog w K mg base 6 "_law_seats_hold" P_law_seats_hold (spSeatsH K CCrew) := ⟨_, _, ok_law_seats_hold (k := 5) F_law_seats_hold mlen (O_law_above.mono (by decide)) mrange (OKseated_kw_node_crew.mono (by decide)) (Oseated.mono (by decide)) (O_law_is_row.mono (by decide)) (OKunseated_nodes_kw_crew.mono (by decide)) (Ounseated_nodes.mono (by decide)) T, b_law_seats_hold, k21, m_law_seats_hold⟩
  have Oleaning_child : Ok l.prog w K mg base 1 "leaning_child" P_leaning_child (spChild K CCrew) := ⟨_, _, ok_leaning_child (k := 0) F_leaning_child T, b_leaning_child, k22, m_leaning_child⟩
  have OKleaning_child_kw_node_worker_crew : OkK l.prog w K mg base 1 "leaning_child" P_leaning_child ["node", "worker", "crew"] kg_leaning_child_kw_node_worker_crew kg_leaning_child_kw_node_worker_crew (spChild K CCrew) := ⟨_, _, ok_leaning_child (k := 0) F_leaning_child T, kb_leaning_child_kw_node_worker_crew F_leaning_child, k22, m_leaning_child⟩
  have O_law_leanings_hold : Ok l.prog w K mg base 2 "_law_leanings_hold" P_law_leanings_hold (spSeatsH K CCrew) := ⟨_, _, ok_law_leanings_hold (k := 1) F_law_leanings_hold mrange mlen (OKleaning_child_kw_node_worker_crew.mono (by decide)) (Oleaning_child.mono (by decide)) (O_law_whole.mono (by decide)) T, b_law_leanings_hold, k23, m_law_leanings_hold⟩
  exact ok_law (k := 6) F_law (O_law_rows.mono (by decide)) (O_law_cell.mono (by decide)) mint (O_law_made.mono (by decide)) mmax mlen (O_law_tree_holds.mono (by decide)) (O_law_seats_hold.mono (by decide)) (O_law_leanings_hold.mono (by decide))
end K25
open PySem PySem.W PyProof.Rows
set_option maxRecDepth 100000 in
set_option maxHeartbeats 0 in
theorem PySem.Challenge.cw_stillinstep_k25_nodes_and_seats_holds : PySem.Challenge.rw_stillinstep_k25_nodes_and_seats.Holds := by
  w_on; o_law; k_head; (case hw => w_witness2)
  k_fill
  refine L2.walk_of (l := PySem.Challenge.rw_stillinstep_k25_nodes_and_seats) (n := 63) (k := 7) (x := "script") (CX := fun _ => L2.CX0) (sp := fun w => K25.spLaw _) rfl (by decide) rfl ⟨rfl, by decide, by decide⟩ (fun w h Y => PySem.W.kIn_of Y) ?F (fun _ _ a ns hl _ hS => ⟨a, ns, rfl, hS, hl, fun _ => rfl⟩) (fun _ _ _ _ _ h => h)
  case F =>
    intro w mg fa h KX G hmg
    refine' K25.all_mk KX G hmg ?aCCrew ?a0 ?l0 ?c0 ?k0 ?a1 ?l1 ?c1 ?k1 ?a2 ?l2 ?c2 ?k2 ?a3 ?l3 ?c3 ?k3 ?a4 ?l4 ?c4 ?k4 ?a5 ?l5 ?c5 ?k5 ?a6 ?l6 ?c6 ?k6 ?a7 ?l7 ?c7 ?k7 ?a8 ?i8 ?mk8 ?kc8 ?l8 ?c8 ?k8 ?a9 ?l9 ?c9 ?k9 ?a10 ?l10 ?c10 ?k10 ?a11 ?l11 ?c11 ?k11 ?a12 ?l12 ?c12 ?k12 ?a13 ?l13 ?c13 ?k13 ?a14 ?l14 ?c14 ?k14 ?a15 ?g15 ?h15 ?r15 ?l15 ?c15 ?k15 ?a16 ?l16 ?c16 ?k16 ?a17 ?g17 ?h17 ?r17 ?l17 ?c17 ?k17 ?a18 ?l18 ?c18 ?k18 ?a19 ?l19 ?c19 ?k19 ?a20 ?l20 ?c20 ?k20 ?a21 ?l21 ?c21 ?k21 ?a22 ?l22 ?c22 ?k22 ?a23 ?l23 ?c23 ?k23 ?a24 ?l24 ?c24 ?k24 ?pg ?hd ?po ?sa ?nH ?nS ?nL ?qMOST_HEIGHT ?qMOST_WORKERS ?zint ?zmin ?zrange ?zlen ?zall ?ztuple ?zlist ?zisinstance ?zbool ?zmax
    (case aCCrew => k_is)
    (case a0 => k_is)
    (case l0 => k_is)
    (case c0 => k_is)
    (case k0 => k_is)
    (case a1 => k_is)
    (case l1 => k_is)
    (case c1 => k_is)
    (case k1 => k_is)
    (case a2 => k_is)
    (case l2 => k_is)
    (case c2 => k_is)
    (case k2 => k_is)
    (case a3 => k_is)
    (case l3 => k_is)
    (case c3 => k_is)
    (case k3 => k_is)
    (case a4 => k_is)
    (case l4 => k_is)
    (case c4 => k_is)
    (case k4 => k_is)
    (case a5 => k_is)
    (case l5 => k_is)
    (case c5 => k_is)
    (case k5 => k_is)
    (case a6 => k_is)
    (case l6 => k_is)
    (case c6 => k_is)
    (case k6 => k_is)
    (case a7 => k_is)
    (case l7 => k_is)
    (case c7 => k_is)
    (case k7 => k_is)
    (case a8 => k_is)
    (case i8 => k_is)
    (case mk8 => k_is)
    (case kc8 => k_is)
    (case l8 => k_is)
    (case c8 => k_is)
    (case k8 => k_is)
    (case a9 => k_is)
    (case l9 => k_is)
    (case c9 => k_is)
    (case k9 => k_is)
    (case a10 => k_is)
    (case l10 => k_is)
    (case c10 => k_is)
    (case k10 => k_is)
    (case a11 => k_is)
    (case l11 => k_is)
    (case c11 => k_is)
    (case k11 => k_is)
    (case a12 => k_is)
    (case l12 => k_is)
    (case c12 => k_is)
    (case k12 => k_is)
    (case a13 => k_is)
    (case l13 => k_is)
    (case c13 => k_is)
    (case k13 => k_is)
    (case a14 => k_is)
    (case l14 => k_is)
    (case c14 => k_is)
    (case k14 => k_is)
    (case a15 => k_is)
    (case g15 => k_is)
    (case h15 => k_is)
    (case r15 => k_is)
    (case l15 => k_is)
    (case c15 => k_is)
    (case k15 => k_is)
    (case a16 => k_is)
    (case l16 => k_is)
    (case c16 => k_is)
    (case k16 => k_is)
    (case a17 => k_is)
    (case g17 => k_is)
    (case h17 => k_is)
    (case r17 => k_is)
    (case l17 => k_is)
    (case c17 => k_is)
    (case k17 => k_is)
    (case a18 => k_is)
    (case l18 => k_is)
    (case c18 => k_is)
    (case k18 => k_is)
    (case a19 => k_is)
    (case l19 => k_is)
    (case c19 => k_is)
    (case k19 => k_is)
    (case a20 => k_is)
    (case l20 => k_is)
    (case c20 => k_is)
    (case k20 => k_is)
    (case a21 => k_is)
    (case l21 => k_is)
    (case c21 => k_is)
    (case k21 => k_is)
    (case a22 => k_is)
    (case l22 => k_is)
    (case c22 => k_is)
    (case k22 => k_is)
    (case a23 => k_is)
    (case l23 => k_is)
    (case c23 => k_is)
    (case k23 => k_is)
    (case a24 => k_is)
    (case l24 => k_is)
    (case c24 => k_is)
    (case k24 => k_is)
    (case pg => k_is)
    (case hd => k_is)
    (case po => k_is)
    (case sa => k_is)
    (case nH => k_is)
    (case nS => k_is)
    (case nL => k_is)
    (case qMOST_HEIGHT => k_is)
    (case qMOST_WORKERS => k_is)
    (case zint => k_is)
    (case zmin => k_is)
    (case zrange => k_is)
    (case zlen => k_is)
    (case zall => k_is)
    (case ztuple => k_is)
    (case zlist => k_is)
    (case zisinstance => k_is)
    (case zbool => k_is)
    (case zmax => k_is)
